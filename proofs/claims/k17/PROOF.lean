import PyProof.Rows.All
import Wide.All
import OpenK.AllK
import Wide.FinOn
import Lean
import PyProof.EqAt
import PyProof.EqKinds
import PyProof.TupleCall
import PyProof.StationsW
import PyProof.Commute
import PyProof.ExcClass3
import PyProof.ExcInit
import OpenK.KCls
import OpenK.KMake
import PyProof.ExcArgsOwn
import PyProof.InstStoreFacts
import PyProof.MaxThree
import KE.KMinKey
import KE.KIntText
import PyProof.DictUpdate
import PyProof.Draws
import PyProof.EnumMake
import PyProof.DictIter
import KE.KDictSum
import KE.KRevSl
import PyProof.Rows.SortStr
import PyProof.Rows.SortWalk
import PyProof.DictValues
import PyProof.DictWalks
import PyProof.MeetsDictList
import KE.KSortTup
import KE.KRevIter
import PyProof.ListStr
import PySem.Challenge.RW_laidcells_k17_rows_broken_late
set_option Elab.async false
set_option linter.all false
set_option compiler.extract_closed false
set_option maxRecDepth 100000
set_option maxHeartbeats 20000000
noncomputable section
abbrev Aa:=@List
abbrev Ab:=@Option
abbrev Ac:=@PySem.Value
abbrev Ad:=@PySem.Addr
abbrev Ae:=@PySem.Shared
abbrev Af:=@PySem.Str
abbrev Ag:=@PySem.Heap
abbrev Ah:=@PySem.Program
abbrev lK:=PySem.W.Frag
abbrev aA:=@List.length_map
abbrev aB:=@PySem.wpAny_bind
abbrev aD:=@List.getElem?_eq_getElem
abbrev aE:=@PySem.wpAny_pure
abbrev aF:=@List.mem_cons_self
abbrev aG:=@PySem.Heap.get?_push_of_some
abbrev aH:=@List.mem_map
abbrev aI:=@List.mem_cons
abbrev aJ:=@if_neg
abbrev aK:=@List.map_map
abbrev aL:=@List.mem_cons_of_mem
abbrev aM:=@List.map_cons
abbrev aO:=@if_pos
abbrev aP:=@Nat.le_refl
abbrev aQ:=@List.mem_of_getElem?
abbrev aR:=@List.size_toArray
abbrev aT:=@Bool.false_ne_true
abbrev aU:=@PySem.Heap.lt_size
abbrev aV:=@List.getElem?_eq_some_iff
abbrev aW:=@List.length_append
abbrev aX:=@PySem.Heap.get?_push_size
abbrev aY:=@List.not_mem_nil
abbrev aZ:=@List.map_append
abbrev bA:=@List.mem_append_right
abbrev bB:=@List.mem_append_left
abbrev bC:=@List.getD_eq_getElem?_getD
abbrev bD:=@List.getElem?_map
abbrev bE:=@List.mem_append
abbrev bF:=@List.mem_singleton
abbrev bG:=@Nat.lt_of_lt_of_le
abbrev bH:=@List.append_assoc
abbrev bI:=@Nat.ne_of_lt
abbrev bJ:=@List.length_cons
abbrev bK:=@List.nodup_append
abbrev bL:=@List.length_set
abbrev bM:=@decide_eq_false
abbrev bN:=@List.length_take
abbrev bO:=@List.map_congr_left
abbrev bP:=@Nat.le_trans
abbrev bQ:=@decide_eq_true
abbrev bR:=@List.getElem_mem
abbrev bS:=@PySem.W.mg_none_of
abbrev bT:=@PySem.wpAny_holding
abbrev bU:=@List.length_range
abbrev bV:=@List.mem_filter
abbrev bW:=@List.take_of_length_le
abbrev bX:=@List.nodup_cons
abbrev bY:=@List.all_eq_true
abbrev bZ:=@Option.some.inj
abbrev cA:=@List.take_add_one
abbrev cB:=@Bool.and_eq_true
abbrev cC:=@PySem.F.plainAttrs_list
abbrev cD:=@List.cons_append
abbrev cE:=@Array.getElem?_eq_getElem
abbrev cF:=@PyProof.Rows.callWith_type1
abbrev cG:=@PySem.Heap.SameBut.update
abbrev cH:=@List.mem_map_of_mem
abbrev cI:=@Option.map_eq_some_iff
abbrev cJ:=@PySem.F.slot_list_append
abbrev cK:=@PySem.F.type_list_append
abbrev cL:=@PySem.wpAny_callSpecial?_slot
abbrev cM:=@of_decide_eq_true
abbrev cN:=@List.any_eq_true
abbrev cO:=@List.length_replicate
abbrev cP:=@List.zip_cons_cons
abbrev cQ:=@List.getElem?_set_ne
abbrev cR:=@Int.toNat_natCast
abbrev cS:=@List.getElem?_append_right
abbrev cT:=@Nat.lt_of_le_of_lt
abbrev cU:=@PySem.boot_len
abbrev cV:=@beq_eq_false_iff_ne
abbrev cW:=@List.getElem_of_mem
abbrev cX:=@PySem.wpAny_mono
abbrev cY:=@PySem.wpAny_call_entry
abbrev cZ:=@List.find?_cons
abbrev dB:=@Nat.zero_le
abbrev dD:=@congrArg
abbrev dF:=@Array.getElem?_toList
abbrev dH:=@List.length_filter_le
abbrev dJ:=@Array.length_toList
abbrev dM:=@List.replicate_succ
abbrev dN:=@PySem.wpAny_isInstance
abbrev dO:=@List.lookup_cons
abbrev dP:=@PyProof.Rows.boot_tuple
abbrev dQ:=@PySem.wpAny_field
abbrev dR:=@PySem.wpAny_of_eq
abbrev dU:=@Bool.false_eq_true
abbrev dX:=@PySem.Heap.size_push
abbrev dY:=@Nat.lt_irrefl
abbrev dZ:=@Option.isSome_iff_exists
abbrev eA:=@PySem.mem_of_lookup
abbrev eC:=@List.mem_range
abbrev eD:=@Nat.le_of_lt
abbrev eG:=@List.take_length
abbrev eI:=@List.getElem?_append_left
abbrev eJ:=@Ne.symm
abbrev eK:=@PySem.wpAny_newObj_type
abbrev eL:=@decide_eq_true_eq
abbrev eM:=@List.length_singleton
abbrev eO:=@PySem.F.slot_dict_keyiterator_next
abbrev eP:=@List.length_zip
abbrev eQ:=@PySem.wpAny_Call_Name_kw
abbrev eR:=@Int.emod_lt_of_pos
abbrev eT:=@List.length_drop
abbrev eU:=@PySem.Around.under_plainId
abbrev eV:=@Int.eq_ofNat_of_zero_le
abbrev eX:=@List.sum_cons
abbrev eY:=@PySem.wpAny_truthy_bool
abbrev eZ:=@PySem.wpAny_pyIter_list
abbrev fA:=@PySem.wpAny_typeOf
abbrev fB:=@PySem.wpAny_dictEntries
abbrev fC:=@PyProof.Rows.boot_dict
abbrev fE:=@List.of_mem_zip
abbrev fF:=@List.nil_append
abbrev fG:=@List.length_nil
abbrev fH:=@PySem.Heap.get?_update_self
abbrev fJ:=@or_false
abbrev fL:=@List.map_fst_zip
abbrev fN:=@PySem.Paired.length
abbrev fO:=@List.any_cons
abbrev fP:=@PySem.wpAny_attempt
abbrev fQ:=@List.nodup_nil
abbrev fR:=@PySem.wpAny_seqItems
abbrev fS:=@PySem.codeAny_builtin
abbrev fU:=@List.cons.injEq
abbrev fV:=@Int.emod_nonneg
abbrev fW:=@PySem.F.slot_zip_next
abbrev fX:=@if_false
abbrev fY:=@PyProof.Rows.F.plain_set_update_loop
abbrev fZ:=@List.getElem?_set_self
abbrev gA:=@if_true
abbrev gB:=@Array.getElem?_eq_none
abbrev gC:=@PyProof.Rows.boot_list
abbrev gE:=@List.cons.inj
abbrev gF:=@Nat.le_add_right
abbrev gG:=@List.mem_replicate
abbrev gH:=@PySem.F.slot_tuple_iterator_next
abbrev gI:=@List.getElem?_eq_none
abbrev gJ:=@PySem.wpAny_passesOwn
abbrev gL:=@List.append_nil
abbrev gO:=@Option.map_some
abbrev gQ:=@Sum.inr.inj
abbrev gR:=@List.flatten_cons
abbrev gS:=@List.mem_of_mem_take
abbrev gU:=@Function.comp_def
abbrev gW:=@List.any_eq_false
abbrev gX:=@List.set_eq_of_length_le
abbrev gY:=@PyProof.Rows.slot_tuple_getitem
abbrev gZ:=@List.perm_middle
abbrev hU:=@List.eq_nil_iff_forall_not_mem
abbrev hV:=@List.length_eq_zero_iff
abbrev hX:=@List.getElem_zip
abbrev hZ:=@Nat.ne_of_gt
abbrev iA:=@PySem.Calls.spliced_cons
abbrev iB:=@PySem.tupleKind_room_in1
abbrev iC:=@PySem.F.slot_str_split
abbrev iD:=@PySem.wpAny_setField_rec
abbrev iE:=@Bool.eq_iff_iff
abbrev iF:=@PySem.PassesOwn.never
abbrev iG:=@List.dropLast_concat_getLast
abbrev iH:=@PySem.wpAny_notOrdered_dict
abbrev iI:=@PyProof.Rows.boot_sum
abbrev iJ:=@PyProof.Rows.boot_int
abbrev iK:=@Nat.le_succ
abbrev iL:=@PySem.call_meets
abbrev iM:=@Bool.and_eq_true_iff
abbrev iN:=@PySem.Obj.data_mapDictKeys
abbrev iP:=@beq_self_eq_true
abbrev iQ:=@List.filterMap_cons
abbrev iR:=@PyProof.Rows.F.entry_set_update_loop
abbrev iS:=@List.length_pos_iff
abbrev iT:=@PySem.F.args_tuple_add_2
abbrev iU:=@PySem.plainId_quiet
abbrev iW:=@PySem.F.slot_list_getattribute
abbrev iX:=@PySem.F.args_str_split_2
abbrev iY:=@List.foldl_cons
abbrev iZ:=@PySem.wpAny_dictEpoch
abbrev jA:=@PySem.sub_AttributeError
abbrev jB:=@PySem.wpAny_rule
abbrev jC:=@beq_iff_eq
abbrev jD:=@List.getElem_range
abbrev jE:=@PySem.Obj.data_mapFields
abbrev jF:=@PySem.sizeLine_eq
abbrev jG:=@PySem.F.entry_tuple_add
abbrev jH:=@PySem.F.plainAttrs_dict
abbrev jI:=@PySem.F.entry_str_split
abbrev jJ:=@PySem.F.slot_zip_getattribute
abbrev jK:=@PySem.wpAny_pyIter_rangeiter
abbrev jL:=@PySem.Calls.spliced_nil
abbrev jM:=@PySem.F.slot_tuple_add
abbrev jN:=@List.foldl_append
abbrev jO:=@PySem.F.args_zip_next_1
abbrev jP:=@PySem.atKey_none_of_get
abbrev jQ:=@Nat.lt_or_ge
abbrev jR:=@PySem.F.slot_dict_get
abbrev jS:=@List.Perm.append_left
abbrev jT:=@PySem.F.slot_range_reversed
abbrev jU:=@List.ext_getElem
abbrev jV:=@PySem.F.entry_zip_next
abbrev jW:=@Nat.pow_le_pow_right
abbrev jX:=@PySem.wpAny_execs_nil
abbrev jY:=@List.forIn_cons
abbrev jZ:=@PySem.wpAny_specialOf
abbrev kA:=@List.map_const'
abbrev kB:=@Nat.le_antisymm
abbrev kC:=@List.sum_append
abbrev kD:=@List.Perm.of_eq
abbrev kE:=@List.filter_map
abbrev kF:=@ne_true_of_eq_false
abbrev kG:=@List.getElem?_range
abbrev kH:=@PySem.Obj.isFreed_of_dict
abbrev kI:=@List.map_nil
abbrev kJ:=@List.mem_filterMap
abbrev kK:=@PySem.typeIs_str
abbrev kL:=@Option.isSome_some
abbrev kM:=@Nat.eq_zero_or_pos
abbrev kN:=@PySem.wpAny_setField
abbrev kO:=@List.map_singleton
abbrev kP:=@List.sum_singleton
abbrev kQ:=@List.ext_getElem?
abbrev kR:=@List.getElem?_inj
abbrev kS:=@PySem.wpAny_standAt
abbrev kT:=@Array.toList_inj
abbrev kU:=@List.getElem_map
abbrev kW:=@Nat.le_of_eq
abbrev kX:=@List.any_map
abbrev kY:=@Nat.zero_add
abbrev kZ:=@Int.zero_mul
abbrev lC:=@List.zip_append
abbrev lE:=@List.range_succ
abbrev lF:=@Nat.min_eq_left
abbrev lH:=@Int.one_mul
abbrev lJ:=@not_or
namespace L2
open PySem PySem.Spec PyProof.Rows
abbrev eF:=Sum Int Af
noncomputable def As:eF->Ac->Bool
 | .inl k,v=>Value.isInt k v
 | .inr x,v=>Value.isStrOf x v
def N9 (w:World):eF->Int
 | .inl k=>hashInt k
 | .inr x=>hashStr w x
theorem vI:∀ {k:eF}{v:Ac},As k v=true->(∃ i t,k=Sum.inl i/\v=Value.int i t)\/(∃ x t,k=Sum.inr x/\v=Value.str x t)
 | .inl i,v,h=>by
  obtain⟨t,e⟩:=Value.isInt_shape (k:=i) (v:=v) h;exact .inl ⟨i,t,rfl,e⟩
 | .inr x,v,h=>by
  obtain⟨t,e⟩:=Value.isStrOf_shape (x:=x) (v:=v) h;exact .inr ⟨x,t,rfl,e⟩
theorem Xg (i:Int) (t:Tok):As (.inl i) (.int i t)=true:=by simp[As,Value.isInt]
theorem X6 (x:Af) (t:Tok):As (.inr x) (.str x t)=true:=by simp[As,Value.isStrOf]
theorem DP (a b:Int):decide ((Sum.inl a:eF)=Sum.inl b)=(a == b):=by
 by_cases e:a=b
 .subst e;simp
 .have h:¬ (Sum.inl a:eF)=Sum.inl b:=λq=>e (Sum.inl.inj q)
  rw[bM h];exact (cV.mpr e).symm
theorem AR (a b:Af):decide ((Sum.inr a:eF)=Sum.inr b)=decide (a=b):=by
 by_cases e:a=b
 .subst e;simp
 .have h:¬ (Sum.inr a:eF)=Sum.inr b:=λq=>e (gQ q)
  rw[bM h,bM e]
theorem Wr (a:Int) (b:Af):decide ((Sum.inl a:eF)=Sum.inr b)=false:=bM (λq=>nomatch q)
theorem W6 (a:Af) (b:Int):decide ((Sum.inr a:eF)=Sum.inl b)=false:=bM (λq=>nomatch q)
def oM (g:Ah) (w:World):PySem.KeyKind g w eF where
 is:=As
 hash:=N9 w
 inj:=λv a b m f=>by
  rcases vI m with⟨i,t,rfl,rfl⟩ | ⟨x,t,rfl,rfl⟩
  .rcases vI f with⟨j,u,rfl,e⟩ | ⟨y,u,rfl,e⟩
   .injection e with c _;rw[c]
   .exact nomatch e
  .rcases vI f with⟨j,u,rfl,e⟩ | ⟨y,u,rfl,e⟩
   .exact nomatch e
   .injection e with c _;rw[c]
 byValue:=λk v h=>by
  rcases vI h with⟨i,t,rfl,rfl⟩ | ⟨x,t,rfl,rfl⟩<;>rfl
 pyHash:=λd h=>by
  rcases vI d with⟨i,t,rfl,rfl⟩ | ⟨x,t,rfl,rfl⟩
  .exact wpAny_pyHash_int h
  .exact wpAny_pyHash_str h
 eqBool:=λn d h=>by
  rcases vI n with⟨i,t,rfl,rfl⟩ | ⟨x,t,rfl,rfl⟩
  .rcases vI d with⟨j,u,rfl,rfl⟩ | ⟨y,u,rfl,rfl⟩
   .rw[DP] at h;exact wpAny_eqBool_int h
   .rw[Wr] at h;exact SeqAt.EqAt.int_str i t y u _ _ _ _ h
  .rcases vI d with⟨j,u,rfl,rfl⟩ | ⟨y,u,rfl,rfl⟩
   .rw[W6] at h;exact SeqAt.EqAt.str_int x t j u _ _ _ _ h
   .rw[AR] at h;exact wpAny_eqBool_str h
 «strs»:=λk x t v h=>by
  rcases vI h with⟨i,u,rfl,e⟩ | ⟨y,u,rfl,e⟩
  .exact nomatch e
  .injection e with c _;subst c;cases v<;>rfl
theorem MJ (g:Ah) (w:World) (i:Int) (t:Tok):(oM g w).is (.inl i) (.int i t)=true:=Xg i t
theorem HZ (g:Ah) (w:World) (x:Af) (t:Tok):(oM g w).is (.inr x) (.str x t)=true:=X6 x t
inductive V where
 | e | b (b:Bool) | int (i:Int) | str (x:Str) | byt (b:Array UInt8) | flt (b:UInt64) | ref (a:Addr) | ty (n:String)
 deriving DecidableEq
def lW:V->Ac->Prop
 | .e,u=>u=Value.none
 | .b b,u=>u=Value.bool b
 | .int i,u=>∃ t,u=Value.int i t
 | .str x,u=>∃ t,u=Value.str x t
 | .byt b,u=>∃ t,u=Value.bytes b t
 | .flt b,u=>∃ t,u=Value.float b t
 | .ref a,u=>u=Value.ref a
 | .ty n,u=>u=Value.type n
abbrev lL:Aa V->Aa Ac->Prop:=Paired lW
theorem lL.length (r:lL j g):j.length=g.length:=fN r
theorem lL.get:∀ {j:Aa V}{g:Aa Ac}{i:Nat}{x:V},lL j g->j[i]?=some x->∃ u,g[i]?=some u/\lW x u
 | _,_,_,_,.nil,e=>by simp at e
 | _,_,0,_,.cons r _,e=>by simp at e;subst e;exact⟨_,rfl,r⟩
 | _,_,i+1,x,.cons _ t,e=>by
  obtain⟨u,a,b⟩:=lL.get (i:=i) (x:=x) t (by simpa using e);exact⟨u,by simpa using a,b⟩
theorem lL.set (r:lW x u):∀ {j:Aa V}{g:Aa Ac}(i:Nat),lL j g->lL (j.set i x) (g.set i u)
 | _,_,_,.nil=>.nil
 | _,_,0,.cons _ t=>.cons r t
 | _,_,i+1,.cons q t=>.cons q (lL.set r i t)
theorem lL.append:∀ {l o:Aa V}{g j:Aa Ac},lL l g->lL o j->lL (l++o) (g++j)
 | _,_,_,_,.nil,s=>s
 | _,_,_,_,.cons r t,s=>.cons r (lL.append t s)
theorem lL.take:∀ {j:Aa V}{g:Aa Ac}(n:Nat),lL j g->lL (j.take n) (g.take n)
 | _,_,0,_=>.nil
 | _,_,_+1,.nil=>.nil
 | _,_,n+1,.cons r t=>.cons r (lL.take n t)
theorem lL.drop:∀ {j:Aa V}{g:Aa Ac}(n:Nat),lL j g->lL (j.drop n) (g.drop n)
 | _,_,0,r=>r
 | _,_,_+1,.nil=>.nil
 | _,_,n+1,.cons _ t=>lL.drop n t
def sW:Ab V->Ab Ac->Prop
 | some v,some u=>lW v u
 | none,none=>True
 | _,_=>False
def KV {g:Type}:Aa (g×V)->Aa (g×Ac)->Prop:=Paired λ(p:g×V) (q:g×Ac)=>p.1=q.1/\lW p.2 q.2
def kV:eF->V
 | .inl i=>.int i
 | .inr x=>.str x
inductive HO where
 | l (xs:List V)
 | t (xs:List V)
 | k (kvs:List (eF×V)) | T (kvs:List (List eF×V))
 | set (S:Int->Bool) (n:Nat)
 | ins (C dx:Addr) (fs:List (Str×V))
 | o (x:Addr)
 | xd (fs:List (Str×V))
 | met (f x:Addr)
 | rng (lo hi:Int)
 | frz (o:Obj) (u:HO)
 | tbl (ps:Array Value)
 | ext (φ:Heap->Prop)
abbrev Hp:=Ad->Ab HO
def upd (H:Hp) (a:Ad) (o:HO):Hp:=λb=>if b=a then some o else H b
theorem mM:upd H a o a=some o:=by unfold upd;rw[if_pos rfl]
theorem lT (h:b≠a):upd H a o b=H b:=by unfold upd;rw[if_neg h]
theorem Xd:upd (upd H a o) a u=upd H a u:=by
 funext b;unfold upd;split<;>rfl
theorem BN {H:Hp}{a b:Ad}{o u:HO}(h:H a=some o) (g:H b=some u) (d:o≠u):a≠b:=by
 intro e;subst e;rw[h] at g;exact d (bZ g)
theorem mT {H:Hp}{a b:Ad}{o:HO}(h:H a=some o) (g:H b=none):a≠b:=by
 intro e;subst e;rw[h] at g;cases g
section
variable (P:Ah) (w:World)
def vH (h:Ag) (a:Ad) (items:Array Ac):Prop:=IsTup h a items/\∃ o,h.get? a=some o/\o.dict=none
theorem vH.new (h:Ag) (items:Array Ac):vH (h.push { cls:=.type "tuple",data:=.seq items }) h.objs.size items:=⟨IsTup.new _ _,_,aX _ rfl,rfl⟩
def oZ (H:Hp) (h:Ag) (a:Ad):HO->Prop
 | .l d=>d.length<=sizeLine/\∃ (b:Aa Ac) (n:Nat),lL d b/\h.get? a=some { cls:=.type "list",data:=.seq b.toArray n }
 | .t d=>d.length<=sizeLine/\∃ b:Aa Ac,lL d b/\vH h a b.toArray
 | .k c=>c.length<=sizeLine/\(a == sysModules)=false/\∃ A,KV c A/\h.DictOf (oM P w) a A
 | .T c=>c.length<=sizeLine/\(a == sysModules)=false/\∃ d:Aa (Aa eF×Ad×Ac),
   Paired (λ(p:Aa eF×V) (q:Aa eF×Ad×Ac)=>p.1=q.1/\H q.2.1=some (.t (p.1.map kV))/\lW p.2 q.2.2) c d /\
   ∃ o s B,h.get? a=some o/\o.ExactDict/\o.data = .dict s B/\s.toList=d.map (entryOfKey (tupleKind (oM P w)))/\(d.map (·.1)).Nodup
 | .set S n=>h.SetOf (intKind P w) a S n
 | .ins C i fs=>H i=some (.o a)/\fs.length<=1000/\i≠a/\h.get? a=some (PySem.W.instObj C i) /\
   ∃ e,h.Ns1 i e/\(∀ f,sW (fs.lookup f) (e f))/\PySem.Within e (fs.map (·.1))
 | .o _=>∃ o,h.get? a=some o
 | .xd fs=>∃ e,h.Ns1 a e/\∀ f,sW (fs.lookup f) (e f)
 | .rng lo D=>∃ t u v,h.get? a=some { cls:=.type "range",data:=.fields #[.int lo t,.int D u,.int 1 v] }
 | .frz o u=>h.get? a=some o/\oZ H h a u
 | .tbl E=>h.get? a=some { cls:=.none,data:=.fields E }
 | .met f x=>h.get? a=some (PySem.W.methodObj (.ref f) (.ref x))
 | .ext m=>m h/\(∃ o,h.get? a=some o)/\∀ y z:Ag,m y->(∀ o,y.get? a=some o->z.get? a=some o)->m z
def nP (H:Hp) (h:Ag):Prop:=∀ a o,H a=some o->oZ P w H h a o
end
section
variable {P:Ah}
theorem oZ.lt (x:oZ P w H h a o):a<h.objs.size:=by
 cases o with
 | l c=>obtain⟨_,_,_,_,e⟩:=x;exact aU e
 | t c=>obtain⟨_,_,_,p,_⟩:=x;exact p.lt
 | k b=>obtain⟨_,_,_,_,o,_,_,e,_⟩:=x;exact aU e
 | T b=>obtain⟨_,_,_,_,o,_,_,e,_⟩:=x;exact aU e
 | set S n=>obtain⟨o,_,_,_,e,_⟩:=x;exact aU e
 | ins C d fs=>obtain⟨_,_,_,e,_⟩:=x;exact aU e
 | o y=>obtain⟨_,e⟩:=x;exact aU e
 | xd fs=>obtain⟨_,⟨_,_,_,e,_⟩,_⟩:=x;exact aU e
 | rng lo i=>obtain⟨_,_,_,e⟩:=x;exact aU e
 | frz m u=>obtain⟨e,_⟩:=x;exact aU e
 | tbl q=>exact aU (show h.get? a=some _ from x)
 | met f y=>exact aU (show h.get? a=some _ from x)
 | ext s=>obtain⟨_,⟨_,e⟩,_⟩:=x;exact aU e
theorem Paired.mapP {F:l->o->Prop}:∀ {g:Aa l}{j:Aa o},Paired F g j->(∀ a b,F a b->G a b)->Paired G g j
 | _,_,.nil,_=>.nil
 | _,_,.cons r t,f=>.cons (f _ _ r) (Paired.mapP t f)
theorem oZ.stay (x:oZ P w H h a o) (k:∀ b u,(b=a\/H b=some (.o a))->h.get? b=some u->j.get? b=some u)
  (J:∀ b,H b=some (.o a)->I b=some (.o a)) (U:∀ b g,H b=some (.t g)->I b=some (.t g)):oZ P w I j a o:=by
 induction o with
 | l g=>obtain⟨z,A,n,r,e⟩:=x;exact⟨z,A,n,r,k _ _ (.inl rfl) e⟩
 | t g=>obtain⟨z,A,r,⟨i,e,c⟩,M,B,K⟩:=x;exact⟨z,A,r,⟨i,k _ _ (.inl rfl) e,c⟩,M,k _ _ (.inl rfl) B,K⟩
 | k D=>obtain⟨z,y,N,r,i,s,m,e,c⟩:=x;exact⟨z,y,N,r,i,s,m,k _ _ (.inl rfl) e,c⟩
 | T D =>
  obtain⟨z,y,g,r,i,s,m,e,c⟩:=x;exact⟨z,y,g,Paired.mapP r λp q z=>⟨z.1,U _ _ z.2.1,z.2.2⟩,i,s,m,k _ _ (.inl rfl) e,c⟩
 | set S n=>obtain⟨i,s,m,t,e,c⟩:=x;exact⟨i,s,m,t,k _ _ (.inl rfl) e,c⟩
 | ins C O fs =>
  obtain⟨d,z,ne,e,E,⟨F,s,m,B,c⟩,r⟩:=x;exact⟨J _ d,z,ne,k _ _ (.inl rfl) e,E,⟨F,s,m,k _ _ (.inr d) B,c⟩,r⟩
 | o y=>obtain⟨i,e⟩:=x;exact⟨i,k _ _ (.inl rfl) e⟩
 | xd fs=>obtain⟨E,⟨F,s,m,e,c⟩,r⟩:=x;exact⟨E,⟨F,s,m,k _ _ (.inl rfl) e,c⟩,r⟩
 | rng lo Q=>obtain⟨t,u,v,e⟩:=x;exact⟨t,u,v,k _ _ (.inl rfl) e⟩
 | frz i u L=>obtain⟨e,q⟩:=x;exact⟨k _ _ (.inl rfl) e,L q⟩
 | tbl G =>
  have e:h.get? a=some { cls:=.none,data:=.fields G }:=x;show j.get? a=some { cls:=.none,data:=.fields G };exact k a _ (.inl rfl) e
 | met f y =>
  have e:h.get? a=some (PySem.W.methodObj (.ref f) (.ref y)):=x;show j.get? a=some (PySem.W.methodObj (.ref f) (.ref y));exact k a _ (.inl rfl) e
 | ext R=>obtain⟨p,⟨o,e⟩,st⟩:=x;exact⟨st _ _ p λo q=>k _ _ (.inl rfl) q,⟨o,k _ _ (.inl rfl) e⟩,st⟩
theorem nP.lt (x:nP P w H h) (e:H a=some o):a<h.objs.size:=(x a o e).lt
theorem nP.fresh (x:nP P w H h) (e:h.objs.size<=a):H a=none:=by
 cases q:H a with
 | none=>rfl
 | some u=>exact absurd (bG (x.lt q) e) (dY _)
theorem nP.kept (x:nP P w H h) (k:∀ b u,h.get? b=some u->g.get? b=some u):nP P w H g:=λa o e =>
 (x a o e).stay (λb u _ q=>k b u q) (λ_ q=>q) λ_ _ q=>q
theorem nP.laid (x:nP P w H h) (k:∀ b u,h.get? b=some u->h'.get? b=some u) (g:h.objs.size<=a) (new:oZ P w (upd H a o) h' a o):nP P w (upd H a o) h':=λb u e=>by
 have f:=x.fresh g;by_cases d:b=a
 .subst d;rw[mM] at e;cases e;exact new
 .rw[lT d] at e;exact (x b u e).stay (λc v _ q=>k c v q) (λc q=>by rw[lT (mT q f)];exact q) λc i q=>by rw[lT (mT q f)];exact q
end
def Rd (H:Hp) (a:Ad) (u:HO):Prop:=H a=some u\/∃ o,H a=some (.frz o u)
theorem Rd.ok {P:Ah}(r:Rd H a u) (x:nP P w H h):oZ P w H h a u:=by
 rcases r with r | ⟨o,r⟩
 .exact x a u r
 .obtain⟨_,q⟩:=x a _ r;exact q
def B7:Ab HO->Prop
 | some (.l _)=>True
 | some (.k _)=>True
 | some (.T _)=>True
 | some (.set _ _)=>True
 | some (.ins _ _ _)=>True
 | some (.ext _)=>True
 | _=>False
section
variable {P:Ah}
theorem nP.write (ok:nP P w H h) (g:B7 (H x)) (p:e=x\/H e=some (.o x)) (k:∀ b u,b≠e->h.get? b=some u->j.get? b=some u) (l:∃ u,j.get? e=some u)
  (new:oZ P w (upd H x C) j x C):nP P w (upd H x C) j:=λb u q=>by
 have d:∀ c y,H c=some (.o y)->c≠x:=λc y r z=>by subst z;rw[r] at g;exact g
 have f:∀ c n,H c=some (.t n)->c≠x:=λc n r z=>by subst z;rw[r] at g;exact g
 by_cases i:b=x
 .subst i;rw[mM] at q;cases q;exact new
 .rw[lT i] at q;by_cases a:b=e
  .have s:H b=some (.o x):=by
    rcases p with z | z
    .exact absurd (a.trans z) i
    .rw[a];exact z
   rw[q] at s;cases s;obtain⟨v,A⟩:=l;exact⟨v,by rw[a];exact A⟩
  .refine (ok b u q).stay (λc v m r=>k c v ?_ r) (λc r=>by rw[lT (d c b r)];exact r) λc n r=>by rw[lT (f c n r)];exact r
   rcases m with rfl | m
   .exact a
   .rintro rfl;rcases p with z | z
    .exact d c b m z
    .rw[m] at z;cases z;exact i rfl
end
structure Un (fs ex:List Addr) (H H':Hp) (h h':Heap):Prop where
 keep:∀ b o,h.get? b=some o->H b=none->b∉fs->b∉ex->h'.get? b=some o
 slot:∀ b o,h.get? b=some o->H b=none->b∈fs->b∉ex->∃ sl,h'.get? b=some { o with slots:=sl }
 free:∀ b o,h.get? b=some o->H b=none->b∉ex->H' b=none
 there:∀ b o,h.get? b=some o->b∉ex->∃ o',h'.get? b=some o'
 tups:∀ b xs,H b=some (.t xs)->H' b=some (.t xs)
 frzs:∀ b o u,H b=some (.frz o u)->H' b=some (.frz o u)
 tbls:∀ b ps,H b=some (.tbl ps)->∃ more,H' b=some (.tbl (ps++more))
section
theorem Un.any (u:Un fs l H p h o) (q:h.get? b=some g) (n:H b=none) (j:b∉l):∃ sl,o.get? b=some { g with slots:=sl }:=by
 by_cases a:b∈fs
 .exact u.slot b g q n a j
 .exact⟨g.slots,u.keep b g q n a j⟩
theorem Un.kept (k:∀ b u,h.get? b=some u->g.get? b=some u):Un fs j H H h g :=
 ⟨λb a q _ _ _=>k b a q,λb a q _ _ _=>⟨a.slots,k b a q⟩,λ_ _ _ n _=>n,λb a q _=>⟨a,k b a q⟩,λ_ _ q=>q,λ_ _ _ q=>q,λ_ c q=>⟨#[],by rw[q];simp⟩⟩
theorem Un.refl:Un fs g H H h h:=Un.kept λ_ _ q=>q
theorem Un.laid (k:∀ b u,h.get? b=some u->h'.get? b=some u) (j:h.objs.size<=a) (g:H a=none):Un fs l H (upd H a o) h h' where
 keep:=λb u q _ _ _=>k b u q
 slot:=λb u q _ _ _=>⟨u.slots,k b u q⟩
 free:=λb u q n _=>by rw[lT (bI (bG (aU q) j))];exact n
 there:=λb u q _=>⟨u,k b u q⟩
 tups:=λb c q=>by rw[lT (mT q g)];exact q
 frzs:=λb u c q=>by rw[lT (mT q g)];exact q
 tbls:=λb d q=>⟨#[],by rw[lT (mT q g),q];simp⟩
theorem Un.write (g:B7 (H x)) (p:e=x\/H e=some (.o x)) (k:∀ b u,b≠e->h.get? b=some u->l.get? b=some u) (j:∃ u,l.get? e=some u):Un fs C H (upd H x o) h l:=by
 have f:∀ b,H b=none->b≠x:=λb n z=>by subst z;rw[n] at g;exact g
 have d:∀ b,H b=none->b≠e:=λb n z=>by
  subst z;rcases p with r | r
  .exact f b n r
  .rw[n] at r;cases r
 have c:∀ b u,H b=some u->¬ B7 (some u)->b≠x:=λb u q i z=>by subst z;rw[q] at g;exact i g
 refine⟨λb u q n _ _=>k b u (d b n) q,λb u q n _ _=>⟨u.slots,k b u (d b n) q⟩,λb u q n _=>by rw[lT (f b n)];exact n,λb u q _=>?_,
  λb m q=>by rw[lT (c b _ q λz=>z)];exact q,λb u m q=>by rw[lT (c b _ q λz=>z)];exact q,λb s q=>⟨#[],by rw[lT (c b _ q λz=>z),q];simp⟩⟩
 by_cases a:b=e
 .subst a;exact j
 .exact⟨u,k b u a q⟩
end
noncomputable def Di (h:Ag) (H:Hp):Aa Ad:=(List.range h.objs.size).filter λa=>(H a).isSome
def vU (h:Ag) (H:Hp):Ag:=PySem.W.hideAll h (Di h H)
theorem ER (h:Ag) (H:Hp):(vU h H).objs.size=h.objs.size:=PySem.W.hideAll_size _ _
theorem Z3 (e:h.get? b=some o) (n:H b=none):(vU h H).get? b=some o :=
 PySem.W.hideAll_get _ e λa=>by
  have q:(H b).isSome=true:=(bV.mp a).2;rw[n] at q;simp at q
theorem Xy (e:(vU h H).get? b=some o):h.get? b=some o/\H b=none:=by
 have a:h.get? b=some o:=PySem.W.of_hideAll (Di h H) e;refine⟨a,?_⟩;cases q:H b with
 | none=>rfl
 | some x =>
  have c:b∈Di h H:=bV.mpr ⟨eC.mpr (aU a),by simp[q]⟩;have z:(vU h H).get? b=none:=PySem.W.hideAll_none (Di h H) c;rw[z] at e;cases e
structure Mod (K:lK) (mg:Str->Option Value) (base:Heap):Prop where
 kin:K.In base
 glob:base.Ns mainGlobals mg
 blt:∃ mb,base.Ns builtinsNs mb/\∀ x:Str,x ≠ "__name__" -> mb x=bootBuiltins x
 nolimit:base.NoLimit
/-- the context: a def's body (or a comprehension's block) running. base: fixed through the whole law;s₀,H₀: the entry;outer: the frames whose slots others may change (a def's callers);stack: all frames that run;
 ex: iterators that were made ahead of the entry and are walked here (a comprehension's);fn: the names whose cells were made at the entry (a def: all;a comprehension's block: its own);calm: not within an except suite;pn: pins that every state bears;xe: what is wanted of an exception that leaves the code -/
structure Cx where
 prog:Program
 w:World
 K:lK
 mg:Str->Option Value
 base:Heap
 A:Around
 N:List Str
 s₀:Shared
 H₀:Hp
 env:Env
 outer:List Env
 stack:List Env
 ex:List Addr
 fn:Str->Bool
 calm:Bool
 pn:List (Addr×Obj)
 xe:Value->Shared->Prop
noncomputable def sX (l:Aa Env):Aa Ad:=l.filterMap (·.frame)
abbrev Cx.fs (X:Cx):Aa Ad:=sX X.outer
def C5 (g:Scope) (x:Af):Prop:=g.names.lookup x=some .local\/g.names.lookup x=some .cell\/g.names.lookup x=some .free
def uN (g:Scope) (x:Af):Prop:=g.names.lookup x=some .local\/g.names.lookup x=some .cell
def Zi (g:Env) (h:Ag) (m:Af->Ab Ac) (x:Af) (u:Ac):Prop :=
 (g.kindOf x=some .local/\m x=some u)\/((g.kindOf x=some .cell\/g.kindOf x=some .free)/\∃ c,g.cells.lookup x=some c/\h.IsCell c (some u))
structure Cx.Ok (X:Cx):Prop where
 mod:Mod X.K X.mg X.base
 kind:X.env.scope.kind = .function
 glob:X.env.globals=mainGlobals
 blt:X.env.builtins=builtinsNs
 above:X.s₀.heap.objs.size<=X.env.locals
 inj:∀ x y c,X.env.cells.lookup x=some c->X.env.cells.lookup y=some c->x=y
 has:∀ x,(X.env.kindOf x=some .cell\/X.env.kindOf x=some .free)->∃ c,X.env.cells.lookup x=some c
 cab:∀ x c,X.fn x=true->X.env.cells.lookup x=some c->X.s₀.heap.objs.size<=c
 hd:X.calm=true->X.A.handled=none
 frames:X.A.frames=some X.stack
 stk:X.stack=X.outer\/(X.stack=X.env::X.outer/\X.env.frame=some X.env.locals)
 exf:∀ b∈X.ex,b≠X.env.locals/\∀ x c,X.env.cells.lookup x=some c->c≠b
 bs:∀ b o,X.base.get? b=some o->X.s₀.heap.get? b=some o/\X.H₀ b=none
 bsz:X.base.objs.size<=X.s₀.heap.objs.size
 noex:∀ b o,X.base.get? b=some o->b∉X.ex
 exfs:∀ b∈X.ex,b∉X.fs
 funs:X.s₀.heap.FunFrames X.base X.outer
 frf:∀ b∈X.fs,X.H₀ b=none
structure Inv (X:Cx) (pins:List (Addr×Obj)) (σ:List (Option V)) (H:Hp) (s:Shared):Prop where
 ok:X.Ok
 os:s.os=X.s₀.os
 bare:AllBare s.gens
 base:Un X.fs X.ex X.H₀ H X.s₀.heap s.heap
 loc:∃ m,s.heap.Ns X.env.locals m/\∀ (i:Nat) (x:Str) (v:V),X.N[i]?=some x->σ[i]?=some (some v)->C5 X.env.scope x->∃ u,lW v u/\Zi X.env s.heap m x u
 cell:∀ x c,X.env.cells.lookup x=some c->∃ v,s.heap.IsCell c v
 free:H X.env.locals=none
 freeC:∀ x c,X.env.cells.lookup x=some c->H c=none
 pin:∀ p∈X.pn++pins,s.heap.get? p.1=some p.2/\H p.1=none/\p.1≠X.env.locals/\p.1∉X.fs/\∀ v,p.2.data ≠ .cell v
 hok:nP X.prog X.w H s.heap
 len:σ.length=X.N.length
section
variable {X:Cx}
theorem Cx.Ok.nofr (ok:X.Ok) (e:X.base.get? b=some o):b∉X.fs:=λa=>by
 have:=(ok.funs.mem a).1;rw[e] at this;cases this
theorem Inv.bs (I:Inv X g j H s):∀ b o,X.base.get? b=some o->s.heap.get? b=some o/\H b=none:=λb o e =>
 ⟨I.base.keep b o (I.ok.bs b o e).1 (I.ok.bs b o e).2 (I.ok.nofr e) (I.ok.noex b o e),I.base.free b o (I.ok.bs b o e).1 (I.ok.bs b o e).2 (I.ok.noex b o e)⟩
theorem Inv.bk (I:Inv X g j H s):∀ b o,X.base.get? b=some o->s.heap.get? b=some o:=λb o e=>(I.bs b o e).1
theorem Inv.mod (I:Inv X g j H s):Mod X.K X.mg X.base:=I.ok.mod
theorem Inv.kIn (I:Inv X g j H s):X.K.In s.heap:=I.ok.mod.kin.keeps I.bk
theorem Inv.lt (I:Inv X g j H s):X.env.locals<s.heap.objs.size:=let ⟨_,a,_⟩:=I.loc;a.lt
theorem Inv.sz (I:Inv X g j H s):X.s₀.heap.objs.size<=s.heap.objs.size:=bP I.ok.above (eD I.lt)
theorem Inv.nofs (I:Inv X g j H s) (h:s.heap.objs.size<=a):a∉X.fs:=λb=>by
 obtain⟨_,o,c,_⟩:=I.ok.funs.mem b;exact absurd (bG (aU c) (bP I.sz h)) (dY _)
theorem Inv.cne (I:Inv X g j H s):∀ x c,X.env.cells.lookup x=some c->c≠X.env.locals:=λx c e z=>by
 obtain⟨v,o,d,hd⟩:=I.cell x c e;obtain⟨m,⟨i,h,f,b,a,_⟩,_⟩:=I.loc;rw[z,b] at d;cases d;rw[a] at hd;cases hd
theorem Inv.funs (I:Inv X g j H s):s.heap.FunFrames X.base X.outer:=by
 have all:∀ (l:Aa Env),(∀ b∈sX l,b∈X.fs)->X.s₀.heap.FunFrames X.base l->s.heap.FunFrames X.base l:=by
  intro l;induction l with
  | nil=>intro _ _;trivial
  | cons h r t =>
   intro f k;obtain⟨i,⟨L,o,d,m,n,hd⟩,q⟩:=k;have a:L∈X.fs:=f L (by unfold sX;rw[List.filterMap_cons,d];exact aF);obtain⟨sl,e⟩:=I.base.slot L o n (I.ok.frf L a) a λz=>I.ok.exfs L z a
   exact⟨i,⟨L,_,d,m,e,hd⟩,t (λb c=>f b (by unfold sX;rw[List.filterMap_cons,d];exact aL _ c)) q⟩
 exact all X.outer (λ_ c=>c) I.ok.funs
theorem Inv.stack (I:Inv X g j H s):s.heap.FunFrames X.base X.stack:=by
 rcases I.ok.stk with e | ⟨e,a⟩
 .rw[e];exact I.funs
 .rw[e];obtain⟨m,b,_⟩:=I.loc;refine .cons (by rw[I.ok.kind];decide) a b ?_ I.funs;exact Heap.get?_none_of_le (bP I.ok.bsz I.ok.above)
theorem Inv.stkSub (I:Inv X g j H s):∀ b∈sX X.stack,b∈X.env.locals::X.fs:=λb a=>by
 rcases I.ok.stk with e | ⟨e,c⟩
 .rw[e] at a;exact aL _ a
 .rw[e] at a;unfold sX at a;rw[iQ,c] at a;exact a
theorem Inv.stkFree (I:Inv X g j H s):∀ b∈sX X.stack,H b=none:=λb a=>by
 rcases aI.mp (I.stkSub b a) with e | a
 .rw[e];exact I.free
 .obtain⟨_,o,c,_⟩:=I.ok.funs.mem a;exact I.base.free b o c (I.ok.frf b a) λz=>I.ok.exfs b z a
theorem Inv.step {g':Array GenState}{t':Nat}{d':Drawn}{ch:Aa Ad}(I:Inv X j σ H s)
  (g:∀ b∈ch,(b∈X.ex\/X.s₀.heap.objs.size<=b)/\b≠X.env.locals/\(∀ x c,X.env.cells.lookup x=some c->c≠b)/\∀ p∈X.pn++j,p.1≠b)
  (keep:∀ b o,b≠X.env.locals->b∉X.fs->b∉ch->s.heap.get? b=some o->H b=none->J.get? b=some o)
  (slot:∀ b o,b≠X.env.locals->b∈X.fs->b∉ch->s.heap.get? b=some o->H b=none->∃ sl,J.get? b=some { o with slots:=sl }) (free:∀ b o,b∉ch->s.heap.get? b=some o->H b=none->T b=none)
  (there:∀ b o,b∉ch->s.heap.get? b=some o->∃ o',J.get? b=some o')
  (ab:∀ b C,H b=some (.t C)->T b=some (.t C)) (U:∀ b o u,H b=some (.frz o u)->T b=some (.frz o u)) (aa:∀ b ps,H b=some (.tbl ps)->∃ more,T b=some (.tbl (ps++more)))
  (ns:∀ m,s.heap.Ns X.env.locals m->J.Ns X.env.locals m) (ac:nP X.prog X.w T J) (hg:AllBare g') :
  Inv X j σ T { s with heap:=J,gens:=g',drawn:=d',toks:=t' }:=by
 have F:∀ b o,X.s₀.heap.get? b=some o->b≠X.env.locals:=λb o e=>bI (bG (aU e) I.ok.above)
 have A:∀ b o,X.s₀.heap.get? b=some o->b∉X.ex->b∉ch:=λb o e a B=>by
  rcases (g b B).1 with z | z
  .exact a z
  .exact absurd (bG (aU e) z) (dY _)
 have f:∀ x c,X.env.cells.lookup x=some c->∀ v,s.heap.IsCell c v->J.IsCell c v:=λx c e v G=>by
  obtain⟨o,D,hd⟩:=G;have h:c∉ch:=λz=>(g c z).2.2.1 x c e rfl
  by_cases L:c∈X.fs
  .obtain⟨sl,q⟩:=slot c o (I.cne x c e) L h D (I.freeC x c e);exact⟨_,q,hd⟩
  .exact⟨o,keep c o (I.cne x c e) L h D (I.freeC x c e),hd⟩
 refine⟨I.ok,I.os,hg,⟨λb o e n B a=>?_,λb o e n B a=>?_,λb o e n a=>?_,λb o e a=>?_,λb C e=>ab b C (I.base.tups b C e),λb o C e=>U b o C (I.base.frzs b o C e),λb ps e=>?_⟩,?_,λx c e=>?_,?_,λx c e=>?_,λp M=>?_,ac,I.len⟩
 .exact keep b o (F b o e) B (A b o e a) (I.base.keep b o e n B a) (I.base.free b o e n a)
 .obtain⟨sl,y⟩:=I.base.slot b o e n B a;obtain⟨K,E⟩:=slot b _ (F b o e) B (A b o e a) y (I.base.free b o e n a);exact⟨K,E⟩
 .obtain⟨o',y⟩:=I.base.there b o e a;exact free b o' (A b o e a) y (I.base.free b o e n a)
 .obtain⟨o',y⟩:=I.base.there b o e a;exact there b o' (A b o e a) y
 .obtain⟨R,y⟩:=I.base.tbls b ps e;obtain⟨S,E⟩:=aa b _ y;exact⟨R++S,by rw[E,Array.append_assoc]⟩
 .obtain⟨m,Q,P⟩:=I.loc;refine⟨m,ns m Q,λi x v y E O=>?_⟩;obtain⟨u,r,l⟩:=P i x v y E O;refine⟨u,r,?_⟩;rcases l with l | ⟨k,c,e,z⟩
  .exact .inl l
  .exact .inr ⟨k,c,e,f x c e _ z⟩
 .obtain⟨v,z⟩:=I.cell x c e;exact⟨v,f x c e v z⟩
 .obtain⟨m,⟨o,_,_,D,_⟩,_⟩:=I.loc;exact free _ o (λz=>(g _ z).2.1 rfl) D I.free
 .obtain⟨v,o,D,hd⟩:=I.cell x c e;exact free c o (λz=>(g c z).2.2.1 x c e rfl) D (I.freeC x c e)
 .obtain⟨e,n,ne,N,d⟩:=I.pin p M;have h:p.1∉ch:=λz=>(g p.1 z).2.2.2 p M rfl
  exact⟨keep p.1 p.2 ne N h e n,free p.1 p.2 h e n,ne,N,d⟩
theorem Inv.un (I:Inv X g p H s) (u:Un X.fs [] H l s.heap h') (j:nP X.prog X.w l h'):Inv X g p l { s with heap:=h',toks:=t' }:=by
 obtain⟨m,⟨o,v,t,h,r⟩,_⟩:=id I.loc;obtain⟨sl,i⟩:=u.any h I.free (by simp);exact I.step (g':=s.gens) (d':=s.drawn) (ch:=[]) (λ_ z=>nomatch z) (λb o _ f _ e n=>u.keep b o e n f (by simp)) (λb o _ f _ e n=>u.slot b o e n f (by simp)) (λb o _ e n=>u.free b o e n (by simp)) (λb o _ e=>u.there b o e (by simp)) u.tups u.frzs u.tbls (λx k=>by
  obtain⟨y,d,c,a,q⟩:=k;rw[h] at a;cases a;exact⟨_,d,c,i,q⟩) j I.bare
theorem Inv.call (I:Inv X g T H s) (u:Un (sX X.stack) ch H C s.heap h') (l:nP X.prog X.w C h') (J:AllBare g')
  (j:∀ b∈ch,(b∈X.ex\/X.s₀.heap.objs.size<=b)/\b≠X.env.locals/\(∀ x c,X.env.cells.lookup x=some c->c≠b)/\∀ p∈X.pn++g,p.1≠b) :
  Inv X g T C { s with heap:=h',gens:=g',drawn:=d',toks:=t' }:=by
 obtain⟨m,⟨o,A,y,k,r⟩,_⟩:=id I.loc;obtain⟨sl,i⟩:=u.any k I.free λz=>(j _ z).2.1 rfl
 exact I.step (ch:=ch) j (λb o i q a e n=>u.keep b o e n (λz=>(aI.mp (I.stkSub b z)).elim i q) a) (λb o _ _ a e n=>u.any e n a) (λb o a e n=>u.free b o e n a) (λb o a e=>u.there b o e a) u.tups u.frzs u.tbls (λB t=>by
  obtain⟨D,h,f,d,v⟩:=t;rw[k] at d;cases d;exact⟨_,h,f,i,v⟩) l J
theorem Inv.turned (I:Inv X j σ H s) (k:∀ b o,b≠g->s.heap.get? b=some o->C.get? b=some o) (hn:H g=none) (l:g≠X.env.locals)
  (J:g∈X.ex\/X.s₀.heap.objs.size<=g) (T:∀ x c,X.env.cells.lookup x=some c->c≠g) (U:∀ p∈X.pn++j,p.1≠g):Inv X j σ H { s with heap:=C,toks:=t' }:=by
 have d:∀ b u,H b=some u->b≠g:=λb u e z=>by rw[z,hn] at e;cases e
 refine I.step (g':=s.gens) (d':=s.drawn) (ch:=[g]) (λb i=>?_) (λb o _ _ a e _=>k b o (λz=>a (by simp[z])) e) (λb o _ _ a e _=>⟨o.slots,k b o (λz=>a (by simp[z])) e⟩) (λ_ _ _ _ n=>n)
  (λb o a e=>⟨o,k b o (λz=>a (by simp[z])) e⟩) (λ_ _ e=>e) (λ_ _ _ e=>e) (λb y e=>⟨#[],by rw[e];simp⟩) (λm t=>?_) (λb u e=>?_) I.bare
 .have e:b=g:=by simpa using i
  subst e;exact⟨J,l,T,U⟩
 .obtain⟨o,h,f,w,r⟩:=t;exact⟨o,h,f,k _ o (eJ l) w,r⟩
 .refine (I.hok b u e).stay (λc v a q=>k c v ?_ q) (λ_ q=>q) λ_ _ q=>q
  rcases a with z | z
  .rw[z];exact d b u e
  .exact d c _ z
theorem Inv.tok (I:Inv X g j H s) (t:Nat):Inv X g j H { s with toks:=t }:=I.un (h':=s.heap) (t':=t) Un.refl I.hok
theorem Inv.kept (I:Inv X g l H s) (k:∀ b u,s.heap.get? b=some u->j.get? b=some u):Inv X g l H { s with heap:=j,toks:=t' }:=I.un (Un.kept k) (I.hok.kept k)
theorem Inv.laid (I:Inv X g l H s) (k:∀ b u,s.heap.get? b=some u->h'.get? b=some u) (j:s.heap.objs.size<=a) (new:oZ X.prog X.w (upd H a o) h' a o) :
  Inv X g l (upd H a o) { s with heap:=h',toks:=t' }:=I.un (Un.laid k j (I.hok.fresh j)) (I.hok.laid k j new)
theorem Inv.write (I:Inv X j C H s) (r:B7 (H x)) (p:e=x\/H e=some (.o x)) (k:∀ b u,b≠e->s.heap.get? b=some u->l.get? b=some u) (g:∃ u,l.get? e=some u)
  (new:oZ X.prog X.w (upd H x o) l x o):Inv X j C (upd H x o) { s with heap:=l,toks:=J }:=I.un (Un.write r p k g) (I.hok.write r p k g new)
theorem Inv.pins_of (I:Inv X j l H s) (h:∀ p∈g,s.heap.get? p.1=some p.2/\H p.1=none/\p.1≠X.env.locals/\p.1∉X.fs/\∀ v,p.2.data ≠ .cell v):Inv X g l H s :=
 ⟨I.ok,I.os,I.bare,I.base,I.loc,I.cell,I.free,I.freeC,λp a=>(bE.mp a).elim (λz=>I.pin p (bB _ z)) (h p),I.hok,I.len⟩
theorem Qd {N:Aa Af}(g:N.Nodup){i j:Nat}{x:Af}(a:N[i]?=some x) (b:N[j]?=some x):i=j:=by
 obtain⟨e,c⟩:=aV.mp a;obtain⟨f,d⟩:=aV.mp b;exact (List.getElem_inj g).mp (c.trans d.symm)
theorem T1 (I:Inv X J σ H s) (hN:X.N.Nodup) (l:X.N[i]?=some x) (g:uN X.env.scope x) (r:lW v u)
  (h:∀ s',Inv X J (σ.set i (some v)) H s'->(∃ a,Heap.SameBut a s.heap s'.heap/\(a=X.env.locals\/X.env.cells.lookup x=some a))->Q () s') (hf:X.fn x=true\/X.env.scope.names.lookup x=some .local:=by first | exact .inl rfl | exact .inr rfl | assumption):wpAny M A (storeName X.env x u) Q E s:=by
 obtain⟨m,hn,hl⟩:=id I.loc;have Y:(X.env.scope.kind == .class||(X.env.scope.kind == .module&&X.env.locals != X.env.globals))=false:=by rw[I.ok.kind];rfl
 have K:i<σ.length:=by rw[I.len];exact (aV.mp l).1
 have cne:=I.cne;have B:∀ {a:Ad} {S:Ag},(∃ o,s.heap.get? a=some o/\H a=none)->Heap.SameBut a s.heap S->nP X.prog X.w H S:=λ{a S} ha f b ob e=>by
  obtain⟨_,_,F⟩:=ha;refine (I.hok b ob e).stay (λc U D q=>(f.2 c ?_).trans q) (λ_ q=>q) λ_ _ q=>q
  rintro rfl;rcases D with rfl | D
  .rw[F] at e;cases e
  .rw[F] at D;cases D
 rcases g with L | L
 .refine wpAny_storeName_local L hn (λS aa f=>?_) Y;obtain⟨oL,_,_,ab,_⟩:=id hn;refine h _ ⟨I.ok,I.os,I.bare,⟨λb o e n O g=>?_,λb o e n O g=>?_,I.base.free,λb o e g=>?_,I.base.tups,I.base.frzs,I.base.tbls⟩,⟨_,aa,λj y v' t G e3=>?_⟩,λy c e=>?_,I.free,I.freeC,λp hp=>?_,B ⟨oL,ab,I.free⟩ f,by simpa using I.len⟩ ⟨_,f,.inl rfl⟩
  .exact (f.2 b (bI (bG (aU e) I.ok.above))).trans (I.base.keep b o e n O g)
  .obtain⟨sl,t⟩:=I.base.slot b o e n O g;exact⟨sl,(f.2 b (bI (bG (aU e) I.ok.above))).trans t⟩
  .obtain⟨o',t⟩:=I.base.there b o e g;exact⟨o',(f.2 b (bI (bG (aU e) I.ok.above))).trans t⟩
  .by_cases R:j=i
   .subst R;rw[l] at t;cases t;rw[fZ K] at G;cases G;exact⟨u,r,.inl ⟨L,by simp⟩⟩
   .rw[cQ (eJ R)] at G;obtain⟨u',r',q⟩:=hl j y v' t G e3;refine⟨u',r',?_⟩;rcases q with⟨k,e⟩ | ⟨k,c,e,z⟩
    .refine .inl ⟨k,?_⟩;have:y≠x:=λe=>R (Qd hN t (e▸l))
     simp[this,e]
    .exact .inr ⟨k,c,e,z.sameBut f (cne y c e)⟩
  .obtain⟨U,z⟩:=I.cell y c e;exact⟨U,z.sameBut f (cne y c e)⟩
  .obtain⟨e,n,ne,nf,d⟩:=I.pin p hp;exact⟨(f.2 p.1 ne).trans e,n,ne,nf,d⟩
 .have P:X.fn x=true:=by
   rcases hf with z | z
   .exact z
   .rw[z] at L;cases L
  obtain⟨c,D⟩:=I.ok.has x (.inl L);obtain⟨U,z⟩:=I.cell x c D;refine wpAny_storeName_cell I.ok.kind L D z (λS V f=>?_);obtain⟨oc,Z,C⟩:=id z;refine h { s with heap:=S } ⟨I.ok,I.os,I.bare,⟨λb o e n O g=>?_,λb o e n O g=>?_,I.base.free,λb o e g=>?_,I.base.tups,I.base.frzs,I.base.tbls⟩,⟨m,hn.sameBut f (eJ (cne x c D)),λj y v' t G e3=>?_⟩,λy T e=>?_,I.free,I.freeC,λp hp=>?_,B ⟨oc,Z,I.freeC x c D⟩ f,by simpa using I.len⟩ ⟨c,f,.inr D⟩
  .exact (f.2 b (bI (bG (aU e) (I.ok.cab x c P D)))).trans (I.base.keep b o e n O g)
  .obtain⟨sl,t⟩:=I.base.slot b o e n O g;exact⟨sl,(f.2 b (bI (bG (aU e) (I.ok.cab x c P D)))).trans t⟩
  .obtain⟨o',t⟩:=I.base.there b o e g;exact⟨o',(f.2 b (bI (bG (aU e) (I.ok.cab x c P D)))).trans t⟩
  .by_cases R:j=i
   .subst R;rw[l] at t;cases t;rw[fZ K] at G;cases G;exact⟨u,r,.inr ⟨.inl L,c,D,V⟩⟩
   .rw[cQ (eJ R)] at G;obtain⟨u',r',q⟩:=hl j y v' t G e3;refine⟨u',r',?_⟩;rcases q with q | ⟨k,T,e,z'⟩
    .exact .inl q
    .refine .inr ⟨k,T,e,z'.sameBut f ?_⟩;rintro rfl;exact R (Qd hN t (I.ok.inj _ _ _ e D▸l))
  .by_cases W:T=c
   .subst W;exact⟨_,V⟩
   .obtain⟨w2,z2⟩:=I.cell y T e;exact⟨w2,z2.sameBut f W⟩
  .obtain⟨e,n,ne,nf,d⟩:=I.pin p hp;refine⟨(f.2 p.1 ?_).trans e,n,ne,nf,d⟩;intro q;rw[q,Z] at e;have q':oc=p.2:=bZ e;exact d U (by rw[<- q'];exact C)
theorem Jv (I:Inv X g J H s) (l:X.N.Nodup) (p:X.N[i]?=some x) (C:uN X.env.scope x) (r:lW v u)
  (h:∀ j,Inv X g (J.set i (some v)) H j->Q () j) (o:X.fn x=true\/X.env.scope.names.lookup x=some .local:=by first | exact .inl rfl | exact .inr rfl | assumption):wpAny M A (storeName X.env x u) Q E s :=
 T1 I l p C r (λj a _=>h j a) o
theorem Inv.call' (I:Inv X g J H s) (C:s'.os=s.os) (u:Un (sX X.stack) ch H o s.heap s'.heap) (l:nP X.prog X.w o s'.heap) (r:AllBare s'.gens)
  (j:∀ b∈ch,(b∈X.ex\/X.s₀.heap.objs.size<=b)/\b≠X.env.locals/\(∀ x c,X.env.cells.lookup x=some c->c≠b)/\∀ p∈X.pn++g,p.1≠b):Inv X g J o s':=by
 obtain⟨i,d,a,h,f⟩:=s';have e:f=s.os:=C;subst e;exact I.call (g':=d) (t':=h) (d':=a) u l r j
end
abbrev XK:=Ac->Ab Ad->Hp->Prop
abbrev St:=Aa (Ab V)
abbrev VK:=V->Hp->Prop
abbrev TE:=St->Hp->VK->Prop
abbrev TT:=St->Hp->(Bool->Hp->Prop)->Prop
abbrev TA:=St->Hp->(Aa V->Hp->Prop)->Prop
structure Ends where
 nx:St->Hp->Prop
 rt:VK
 bk:St->Hp->Prop:=λ_ _=>False
 ct:St->Hp->Prop:=λ_ _=>False
abbrev TS:=Ends->St->Hp->Prop
def EP (X:Cx) (g:Aa (Ad×Obj)) (l:St) (Q:VK) (u:Ac) (j:Ae):Prop:=∃ v a,Inv X g l a j/\lW v u/\Q v a
def TP (X:Cx) (g:Aa (Ad×Obj)) (l:St) (Q:Bool->Hp->Prop) (b:Bool) (j:Ae):Prop:=∃ a,Inv X g l a j/\Q b a
def AP (X:Cx) (g:Aa (Ad×Obj)) (o:St) (Q:Aa V->Hp->Prop) (l:Aa Ac) (j:Ae):Prop:=∃ b a,Inv X g o a j/\lL b l/\Q b a
def SP (X:Cx) (g:Aa (Ad×Obj)) (D:Ends) (f:Flow) (j:Ae):Prop :=
 match f with
 | .next=>∃ a b,Inv X g a b j/\D.nx a b
 | .brk=>∃ a b,Inv X g a b j/\D.bk a b
 | .cont=>∃ a b,Inv X g a b j/\D.ct a b
 | .ret u=>∃ v a b,Inv X g a b j/\lW v u/\D.rt v b
def PE (X:Cx) (e:Expr) (t:TE):Prop :=
 ∀ (a:Aa (Ad×Obj)) (s:Ae) (b:St) (H:Hp) (Q:VK),Inv X a b H s->t b H Q->wpAny (model X.prog X.w) X.A (eval e X.env) (EP X a b Q) X.xe s
def PT (X:Cx) (e:Expr) (t:TT):Prop :=
 ∀ (a:Aa (Ad×Obj)) (s:Ae) (b:St) (H:Hp) (Q:Bool->Hp->Prop),Inv X a b H s->t b H Q->wpAny (model X.prog X.w) X.A (isTrue e X.env (eval e X.env)) (TP X a b Q) X.xe s
def PW (X:Cx) (e:Expr) (t:TT):Prop :=
 ∀ (whole:Sem Ac) (a:Aa (Ad×Obj)) (s:Ae) (b:St) (H:Hp) (Q:Bool->Hp->Prop),Inv X a b H s->t b H Q->wpAny (model X.prog X.w) X.A (isTrue e X.env whole) (TP X a b Q) X.xe s
theorem PW.pt {X:Cx}(h:PW X e t):PT X e t:=h _
def PA (X:Cx) (g:Aa Expr) (t:TA):Prop :=
 ∀ (pos:Pos) (a:Aa (Ad×Obj)) (s:Ae) (b:St) (H:Hp) (Q:Aa V->Hp->Prop),Inv X a b H s->t b H Q->wpAny (model X.prog X.w) X.A (spliced (backTo pos (starEach g X.env))) (AP X a b Q) X.xe s
def PS (X:Cx) (st:Stmt) (t:TS):Prop :=
 ∀ (a:Aa (Ad×Obj)) (s:Ae) (b:St) (H:Hp) (D:Ends),Inv X a b H s->t D b H->wpAny (model X.prog X.w) X.A (exec st X.env) (SP X a D) X.xe s
def oN (X:Cx) (st:Aa Stmt) (t:TS):Prop :=
 ∀ (a:Aa (Ad×Obj)) (s:Ae) (b:St) (H:Hp) (D:Ends),Inv X a b H s->t D b H->wpAny (model X.prog X.w) X.A (execs st X.env) (SP X a D) X.xe s
theorem lA (h:wpAny M A t Q E s) (j:∀ a s,Q a s->g a s):wpAny M A t g E s:=cX h j λ_ _ x=>x
section
variable {X:Cx}
def pJ (i:Nat):TE:=λa H Q=>∃ v,a[i]?=some (some v)/\Q v H
def tC (v:V):TE:=λ_ H Q=>Q v H
theorem LW (j:X.N[i]?=some x) (o:C5 X.env.scope x) (hd:(x == ("__debug__" : Af))=false:=by decide) (g:(x == ("__classdict__" : Af))=false:=by decide):PE X (.Name x pos) (pJ i):=by
 intro d s t H Q I h;obtain⟨v,e,h⟩:=h;obtain⟨m,q,k⟩:=I.loc;obtain⟨u,r,l⟩:=k i x v j e o;have fin:EP X d t Q u s:=⟨v,H,I,r,h⟩;rcases l with⟨b,n⟩ | ⟨b,c,f,a⟩
 .exact wpAny_Name (wpAny_loadName_local I.ok.kind b q n fin) hd
 .rcases b with b | b
  .exact wpAny_Name (wpAny_loadName_cell I.ok.kind b f a fin) hd
  .exact wpAny_Name (wpAny_loadName_free I.ok.kind b f a fin g) hd
theorem nH {i j pos}:PE X (.Constant (.int i) j pos) (tC (.int i)):=λ_ _ _ H _ I h=>wpAny_Constant_int ⟨.int i,H,I.tok _,⟨_,rfl⟩,h⟩
theorem U7 {b j pos}:PE X (.Constant (.bool b) j pos) (tC (.b b)):=λ_ _ _ H _ I h=>Constant_bool ⟨.b b,H,I,rfl,h⟩
theorem IJ {j pos}:PE X (.Constant .none j pos) (tC .e):=λ_ _ _ H _ I h=>Constant_none ⟨.e,H,I,rfl,h⟩
theorem wC {x j pos}:PE X (.Constant (.str x) j pos) (tC (.str x)):=λ_ _ _ H _ I h=>Calls.Constant_str ⟨.str x,H,I.tok _,⟨_,rfl⟩,h⟩
def Gl (X:Cx) (x:Af):Prop:=X.env.kindOf x=some .globalImplicit
theorem S9 (I:Inv X g o H s) (j:Gl X x) (l:X.mg x=some u) (h:Q u s)
  (hd:(x == ("__debug__" : Af))=false:=by decide):wpAny (model X.prog X.w) X.A (eval (.Name x pos) X.env) Q E s :=
 Calls.Name_function_global I.ok.kind j (Calls.loadGlobal_global (by rw[I.ok.glob];exact I.mod.glob.keeps I.bk) l h) hd
theorem uT (I:Inv X g r H s) (j:Gl X x) (l:X.mg x=none) (p:bootBuiltins x=some u) (h:Q u s)
  (o:x ≠ "__name__" := by decide) (hd:(x == ("__debug__" : Af))=false:=by decide):wpAny (model X.prog X.w) X.A (eval (.Name x pos) X.env) Q E s:=by
 obtain⟨c,a,b⟩:=I.mod.blt;exact Calls.Name_function_global I.ok.kind j (Calls.loadGlobal_builtin (by rw[I.ok.glob];exact I.mod.glob.keeps I.bk) l (by rw[I.ok.blt];exact a.keeps I.bk) ((b x o).trans p) h) hd
def PC (X:Cx) (op:CmpOp) (a b:Expr) (t:TE):Prop :=
 ∀ (c:Aa (Ad×Obj)) (s:Ae) (f:St) (H:Hp) (Q:VK),Inv X c f H s->t f H Q ->
  wpAny (model X.prog X.w) X.A (eval a X.env) (λv d=>wpAny (model X.prog X.w) X.A (eval b X.env) (λu e=>wpAny (model X.prog X.w) X.A (compareOp op v u) (EP X c f Q) X.xe e) X.xe d) X.xe s
def tB (t:TE):TT:=λd H Q=>t d H λx a=>∃ c,x = .b c/\Q c a
theorem KY (h:PC X op a b t) (g:behindInMarks op b=false:=by first | exact nobehind _ (by decide) (by decide) | rfl):PT X (.Compare a [op] [b] pos) (tB t):=by
 intro e s y H Q I hw;refine wpAny_isTrue_Compare1 (lA (h e s y H _ I hw) λv z g=>lA g λu A m=>lA m λc B f=>?_) g;obtain⟨x,i,k,w,n⟩:=f;obtain⟨d,rfl,q⟩:=n;cases w;exact eY ⟨i,k,q⟩
variable {rest:Aa Expr}
def FH (t u:TT):TT:=λb H Q=>t b H λc a=>if c=true then u b a Q else Q false a
def JV (t:TT):TT:=λb H Q=>t b H λc a=>Q (!c) a
theorem Vi (g:PT X a j):PW X (.BoolOp .And [a] pos) j:=by
 intro i b s d H Q I h;refine isTrue_and (lA (g b s d H Q I h) λc f e=>?_);cases c with
 | true=>exact isTrue_and_nil e
 | false=>exact e
theorem Y9 (j:PT X a o) (l:PW X (.BoolOp .And (b::rest) pos) g):PW X (.BoolOp .And (a::b::rest) pos) (FH o g):=by
 intro q d s m H Q I h;refine isTrue_and (lA (j d s m H _ I h) λc n e=>?_);obtain⟨f,i,k⟩:=e;cases c with
 | true=>exact l q d n m f Q i k
 | false=>exact⟨f,i,k⟩
theorem HL (g:PT X a j):PT X (.UnaryOp .Not a pos) (JV j):=by
 intro b s e H Q I h;exact isTrue_not (g b s e H (λc d=>Q (!c) d) I h)
def BC (g j:TE):TE:=λd H Q=>g d H λx a=>∃ c,x = .b c/\if c=true then j d a Q else Q (.b false) a
def JL (g j:TE):TE:=λd H Q=>g d H λx a=>∃ c,x = .b c/\if c=true then Q (.b true) a else j d a Q
theorem Zu {op}(h:PE X a t):PE X (.BoolOp op [a] pos) t:=λb s c H Q I hw=>BoolOp_one (h b s c H Q I hw)
theorem CH (g:PE X a l) (j:PE X (.BoolOp .And (b::rest) pos) o):PE X (.BoolOp .And (a::b::rest) pos) (BC l o):=by
 intro d s m H Q I h;refine BoolOp_and (lA (g d s m H _ I h) λv q f=>?_);obtain⟨x,i,k,n,e⟩:=f;obtain⟨c,rfl,e⟩:=e;cases n;refine eY ?_;cases c with
 | true=>exact j d q m i Q k e
 | false=>exact⟨.b false,i,k,rfl,e⟩
theorem EX (g:PE X a l) (j:PE X (.BoolOp .Or (b::rest) pos) o):PE X (.BoolOp .Or (a::b::rest) pos) (JL l o):=by
 intro d s m H Q I h;refine BoolOp_or (lA (g d s m H _ I h) λv q f=>?_);obtain⟨x,i,k,n,e⟩:=f;obtain⟨c,rfl,e⟩:=e;cases n;refine eY ?_;cases c with
 | false=>exact j d q m i Q k e
 | true=>exact⟨.b true,i,k,rfl,e⟩
def MU (t:TT) (g j:TE):TE:=λa H Q=>t a H λc b=>if c=true then g a b Q else j a b Q
theorem ET (l:PT X c o) (g:PE X a p) (j:PE X b r):PE X (.IfExp c a b pos) (MU o p r):=by
 intro e s i H Q I h;refine wpAny_IfExp (lA (l e s i H _ I h) λd q f=>?_);obtain⟨k,m,n⟩:=f;cases d with
 | true=>exact g e q i k Q m n
 | false=>exact j e q i k Q m n
end
def hI (K:lK) (H:Hp) (a:Ad) (g:Aa V):Prop :=
 Rd H a (.l g) \/
  ∃ (o:Obj) (b:Array Ac) (n:Nat),K.lookup a=some o/\o.cls = .type "list" /\ o.dict=none/\o.data = .seq b n/\b.size<=sizeLine/\lL g b.toList
def mK (K:lK) (H:Hp) (a:Ad) (g:Aa V):Prop :=
 Rd H a (.t g) \/
  ∃ (o:Obj) (b:Array Ac) (n:Nat),K.lookup a=some o/\o.cls = .type "tuple" /\ o.data = .seq b n/\b.size<=sizeLine/\lL g b.toList
noncomputable def LF:Ac->Ab V
 | .none=>some .e
 | .bool b=>some (.b b)
 | .int i _=>some (.int i)
 | .str x _=>some (.str x)
 | .bytes b _=>some (.byt b)
 | .float b _=>some (.flt b)
 | .ref a=>some (.ref a)
 | .type n=>some (.ty n)
 | _=>none
theorem lW.abs (r:lW x u):LF u=some x:=by
 cases x with
 | e=>cases r;rfl
 | b _=>cases r;rfl
 | int _=>obtain⟨t,rfl⟩:=r;rfl
 | str _=>obtain⟨t,rfl⟩:=r;rfl
 | byt _=>obtain⟨t,rfl⟩:=r;rfl
 | flt _=>obtain⟨t,rfl⟩:=r;rfl
 | ref _=>cases r;rfl
 | ty _=>cases r;rfl
theorem lW.inj (r:lW x u) (q:lW y u):x=y:=bZ (r.abs.symm.trans q.abs)
theorem lL.inj:∀ {j l:Aa V}{g:Aa Ac},lL j g->lL l g->j=l
 | _,_,_,.nil,.nil=>rfl
 | _,_,_,.cons r t,.cons a b=>by rw[r.inj a,lL.inj t b]
section
variable {X:Cx}
theorem hI.of {K:lK}(h:H a=some (.l g)):hI K H a g:=.inl (.inl h)
theorem mK.of {K:lK}(h:H a=some (.t g)):mK K H a g:=.inl (.inl h)
theorem Inv.list (I:Inv X j p H s) (h:hI X.K H a l):∃ g:Aa Ac,lL l g/\PlainL s.heap a g.toArray/\l.length<=sizeLine:=by
 rcases h with h | ⟨o,g,n,c,b,hd,d,f,r⟩
 .obtain⟨z,g,n,r,e⟩:=h.ok I.hok;exact⟨g,r,⟨_,n,e,rfl,rfl,rfl⟩,z⟩
 .refine⟨g.toList,r,⟨o,n,I.kIn a o c,b,hd,by simpa using d⟩,?_⟩;have e:=r.length;simp only[dJ] at e;omega
theorem Inv.tuple (I:Inv X j C H s) (h:mK X.K H a l):∃ g:Aa Ac,lL l g/\IsTup s.heap a g.toArray/\l.length<=sizeLine:=by
 rcases h with h | ⟨o,g,n,c,b,d,f,r⟩
 .obtain⟨z,g,r,p,_⟩:=h.ok I.hok;exact⟨g,r,p,z⟩
 .refine⟨g.toList,r,⟨o,I.kIn a o c,b,n,by simpa using d⟩,?_⟩;have e:=r.length;simp only[dJ] at e;omega
theorem Inv.list_inj (I:Inv X g C H s) (h:hI X.K H a l) (j:hI X.K H a p):l=p:=by
 obtain⟨c,r,⟨o,n,e,_,_,d⟩,_⟩:=I.list h;obtain⟨b,k,⟨q,m,i,_,_,f⟩,_⟩:=I.list j;rw[e] at i;cases i;rw[d] at f;injection f with d1 _;have:c=b:=by simpa using dD Array.toList d1
 subst this;exact r.inj k
theorem Inv.tuple_inj (I:Inv X g C H s) (h:mK X.K H a l) (j:mK X.K H a p):l=p:=by
 obtain⟨c,r,⟨o,e,_,n,d⟩,_⟩:=I.tuple h;obtain⟨b,k,⟨q,i,_,m,f⟩,_⟩:=I.tuple j;rw[e] at i;cases i;rw[d] at f;injection f with d1 _;have:c=b:=by simpa using dD Array.toList d1
 subst this;exact r.inj k
end
noncomputable abbrev Cx.wish (X:Cx) (E:Ac->Ae->Prop):Cx:={ X with xe:=E }
abbrev Cx.nox (X:Cx):Cx:=X.wish λ_ _=>False
theorem Cx.Ok.wish {X:Cx}(ok:X.Ok) (E:Ac->Ae->Prop):(X.wish E).Ok :=
 ⟨ok.mod,ok.kind,ok.glob,ok.blt,ok.above,ok.inj,ok.has,ok.cab,ok.hd,ok.frames,ok.stk,ok.exf,ok.bs,ok.bsz,ok.noex,ok.exfs,ok.funs,ok.frf⟩
theorem Cx.Ok.unwish {X:Cx}(ok:(X.wish E).Ok):X.Ok :=
 ⟨ok.mod,ok.kind,ok.glob,ok.blt,ok.above,ok.inj,ok.has,ok.cab,ok.hd,ok.frames,ok.stk,ok.exf,ok.bs,ok.bsz,ok.noex,ok.exfs,ok.funs,ok.frf⟩
section
variable {X:Cx}
theorem Inv.wish (I:Inv X g j H s) (E:Ac->Ae->Prop):Inv (X.wish E) g j H s:=⟨I.ok.wish E,I.os,I.bare,I.base,I.loc,I.cell,I.free,I.freeC,I.pin,I.hok,I.len⟩
theorem Inv.unwish (I:Inv (X.wish E) g j H s):Inv X g j H s:=⟨I.ok.unwish,I.os,I.bare,I.base,I.loc,I.cell,I.free,I.freeC,I.pin,I.hok,I.len⟩
theorem SP.unwish {D:Ends}(h:SP (X.wish E) g D f j):SP X g D f j:=by
 cases f with
 | next=>obtain⟨a,b,I,q⟩:=h;exact⟨a,b,I.unwish,q⟩
 | brk=>obtain⟨a,b,I,q⟩:=h;exact⟨a,b,I.unwish,q⟩
 | cont=>obtain⟨a,b,I,q⟩:=h;exact⟨a,b,I.unwish,q⟩
 | ret u=>obtain⟨v,a,b,I,r,q⟩:=h;exact⟨v,a,b,I.unwish,r,q⟩
theorem oN.nox {st:Aa Stmt}(h:oN X.nox st t):oN X st t:=λa s b H D I hw =>
 cX (h a s b H D (I.wish _) hw) (λ_ _ q=>q.unwish) λ_ _ z=>False.elim z
end
section
variable {X:Cx}{st:Stmt}{rest:Aa Stmt}
def EN:TS:=λD a H=>D.nx a H
def Kh (t u:TS):TS:=λD a H=>t { D with nx:=u D } a H
theorem A3:oN X [] EN:=λ_ _ a H _ I h=>jX ⟨a,H,I,h⟩
theorem pE (g:PS X st t) (j:oN X rest u):oN X (st::rest) (Kh t u):=by
 intro a s i H D I h;refine wpAny_execs_cons (lA (g a s i H { D with nx:=u D } I h) λf e q=>?_);cases f with
 | next =>
  obtain⟨b,c,d,q⟩:=q;exact j a e b c D d q
 | ret v=>exact q
 | brk=>exact q
 | cont=>exact q
theorem rZ (g:PS X st t):oN X [st] t:=by
 intro a s b H D I h;refine wpAny_execs_cons (lA (g a s b H D I h) λf c q=>?_);cases f with
 | next=>exact jX q
 | ret v=>exact q
 | brk=>exact q
 | cont=>exact q
theorem Inv.quiet (I:Inv X g j H s):interactive X.env=false:=by simp[interactive,I.ok.kind]
def Va (g:TE):TS:=λD a H=>g a H λ_ b=>D.nx a b
theorem Ts (g:PE X e l) (j:swapsWith e none pos.line X.env=pure false:=by rfl):PS X (.Expr e pos) (Va l):=by
 intro a s b H D I h;exact wpAny_Expr_any (lA (g a s b H _ I h) λv k ⟨x,c,d,i,f⟩=>⟨b,c,d,f⟩) I.quiet j
def Ot (g:TE):TS:=λD a H=>g a H D.rt
theorem yZ (g:PE X e j):PS X (.Return (some e) pos) (Ot j):=by
 intro a s b H D I h;exact wpAny_Return_some (lA (g a s b H _ I h) λv k ⟨x,c,d,i,f⟩=>⟨x,b,c,d,i,f⟩)
def FX (c:TT) (t u:TS):TS:=λD a H=>c a H λb d=>if b=true then t D a d else u D a d
theorem A7 (l:PT X c o) (g:oN X a t) (j:oN X b u):PS X (.If c a b pos) (FX o t u):=by
 intro e s i H D I h;refine wpAny_If (lA (l e s i H _ I h) λd q f=>?_);obtain⟨k,m,n⟩:=f;cases d with
 | true=>exact g e q i k D m n
 | false=>exact j e q i k D m n
def Yl:TS:=λ_ _ _=>False
theorem HY:PS X st Yl:=λ_ _ _ _ _ _ h=>h.elim
end
abbrev TG:=V->St->Hp->(St->Hp->Prop)->Prop
abbrev yM:=Aa V->St->Hp->(St->Hp->Prop)->Prop
def PG (X:Cx) (target:Expr) (t:TG):Prop :=
 ∀ (a:Aa (Ad×Obj)) (s:Ae) (d:St) (H:Hp) (v:V) (u:Ac) (Q:St->Hp->Prop),Inv X a d H s->lW v u->t v d H Q ->
  wpAny (model X.prog X.w) X.A (assign target X.env u) (λ_ e=>∃ b c,Inv X a b c e/\Q b c) X.xe s
def vZ (X:Cx) (g:Aa Expr) (t:yM):Prop :=
 ∀ (a:Aa (Ad×Obj)) (s:Ae) (f:St) (H:Hp) (e:Aa V) (d:Aa Ac) (Q:St->Hp->Prop),Inv X a f H s->lL e d->t e f H Q ->
  wpAny (model X.prog X.w) X.A (assignInOrder ((assignEach g X.env).map (·.2)) d) (λ_ h=>∃ b c,Inv X a b c h/\Q b c) X.xe s
abbrev Hh:=V->V->V->Hp->(Hp->Prop)->Prop
def Iq (X:Cx) (t:Hh):Prop :=
 ∀ (a:Aa (Ad×Obj)) (s:Ae) (e:St) (H:Hp) (o i v:V) (d c u:Ac) (Q:Hp->Prop),Inv X a e H s->lW o d->lW i c->lW v u->t o i v H Q ->
  wpAny (model X.prog X.w) X.A (setItem d c u) (λ_ f=>∃ b,Inv X a e b f/\Q b) X.xe s
abbrev Kk:=V->V->Hp->VK->Prop
def Kb (X:Cx) (op:Operator) (t:Kk):Prop :=
 ∀ (a:Aa (Ad×Obj)) (s:Ae) (b:St) (H:Hp) (x y:V) (v u:Ac) (Q:VK),Inv X a b H s->lW x v->lW y u->t x y H Q ->
  wpAny (model X.prog X.w) X.A (inplaceOp op v u) (EP X a b Q) X.xe s
section
variable {X:Cx}
def Ap (i:Nat):TG:=λv a H Q=>Q (a.set i (some v)) H
theorem xM (g:X.N.Nodup) (l:X.N[i]?=some x) (o:uN X.env.scope x) (j:X.fn x=true\/X.env.scope.names.lookup x=some .local:=by first | exact .inl rfl | exact .inr rfl | assumption):PG X (.Name x pos) (Ap i):=by
 intro a s d H v u Q I r h;exact wpAny_assign_Name (Jv I g l o r (λc b=>⟨_,H,b,h⟩) j)
def AZ:yM:=λa b H Q=>a=[]/\Q b H
def DI (t:TG) (u:yM):yM:=λc d H Q=>∃ v r,c=v::r/\t v d H λa b=>u r a b Q
theorem DE:vZ X [] AZ:=by
 intro a s b H d c Q I r h;obtain⟨e,h⟩:=h;subst e;cases r;exact assignInOrder_nil ⟨b,H,I,h⟩
theorem FR (j:PG X e t) (l:vZ X g u)
  (o:(assignEach (e::g) X.env).map (·.2)=assign e X.env::(assignEach g X.env).map (·.2):=by rfl):vZ X (e::g) (DI t u):=by
 intro a s q H y w Q I r h;obtain⟨v,x,i,h⟩:=h;subst i;cases r with
 | cons r m =>
  rw[o];refine assignInOrder_cons (lA (j a s q H _ _ _ I r h) λ_ n b=>?_);obtain⟨c,d,f,k⟩:=b;exact l a n c d _ _ Q f m k
def FD (K:lK) (n:Nat) (t:yM):TG:=λv c H Q=>∃ a b,v = .ref a/\mK K H a b/\b.length=n/\t b c H Q
theorem AC (l:X.calm=true) (h:vZ X g t)
  (p:(assignEach g X.env).length=n:=by rfl) (j:(assignEach g X.env).findIdx? (·.1)=none:=by rfl):PG X (.Tuple g k pos) (FD X.K n t):=by
 intro c s f H v u Q I r hw;obtain⟨a,B,m,x,w,hw⟩:=hw;subst m;cases r;obtain⟨A,d,y,D⟩:=I.tuple x;refine assign_Tuple_tuple (I.ok.hd l) y (by simp[p,<- w,d.length]) j λq z=>?_
 have i:Inv X c f H { s with heap:=q }:=I.kept (t':=s.toks) λb o e=>z b o (bI (aU e)) e
 exact h c _ f H B _ Q i (by simpa using d) hw
def CC (j g:TE) (t:Hh):TG:=λv a H Q=>j a H λo b=>g a b λi c=>t o i v c λd=>Q a d
theorem Fv (C:PE X o U) (p:PE X i T) (J:Iq X t)
  (l:∀ v,assign (.Subscript o i pos) X.env v=(do
   let g <- holding [v] (eval o X.env);let j <- holding [v,g] (eval i X.env)
   standAt pos
   holding [v,g,j] (setItem g j v)
   release [v,g,j] []):=by intro _;rfl):PG X (.Subscript o i pos) (CC U T t):=by
 intro b s c H v u Q I r h;rw[l];refine aB (bT (lA (C b s c H _ I h) λg D a=>?_));obtain⟨x,d,k,A,q⟩:=a;refine aB (bT (lA (p b D c d _ k q) λj E a=>?_));obtain⟨y,e,m,B,w⟩:=a;refine aB (kS (aB (bT (lA (J b E c e x y v g j u _ m A B r w) λ_ F a=>?_))));obtain⟨f,n,z⟩:=a;exact wpAny_release ⟨c,f,n,z⟩
def Gy (j:TE) (g:TG):TS:=λD a H=>j a H λx b=>g x a b D.nx
theorem Ck (o:PE X e C) (p:PG X j g) (r:swapsWithSole [j] e pos.line X.env=pure false:=by rfl) (hw:swappedStores [j] e X.env=pure none:=by rfl)
  (l:(assignEach [j] X.env).map (·.2)=[assign j X.env]:=by rfl):PS X (.Assign [j] e pos) (Gy C g):=by
 intro a s c H D I h;refine wpAny_Assign_stores (lA (o a s c H _ I h) λv m b=>?_) r hw;obtain⟨x,d,f,k,i⟩:=b;rw[l];exact lA (p a m c d x v _ f k i) λ_ n q=>q
theorem pR (j:X.N.Nodup) (p:X.N[i]?=some x) (C:uN X.env.scope x) (l:PE X e J) (r:swapsWith e (some (.Name x g)) pos.line X.env=pure false:=by rfl) (o:X.fn x=true\/X.env.scope.names.lookup x=some .local:=by first | exact .inl rfl | exact .inr rfl | assumption) :
  PS X (.Assign [.Name x g] e pos) (Gy J (Ap i)):=by
 intro a s n H D I h;refine wpAny_Assign_Name (lA (l a s n H _ I h) λv q b=>?_) r;obtain⟨y,c,d,m,k⟩:=b;exact Jv d j p C m (λt f=>⟨_,c,f,k⟩) o
def Vd (i:Nat) (g:TE) (j:Kk):TS:=λD a H=>∃ x,a[i]?=some (some x)/\g a H λy b=>j x y b λz c=>D.nx (a.set i (some z)) c
theorem Ym (p:X.N.Nodup) (j:X.N[i]?=some x) (g:uN X.env.scope x) (C:PE X e U) (T:Kb X op ti) (J:X.fn x=true\/X.env.scope.names.lookup x=some .local:=by first | exact .inl rfl | exact .inr rfl | assumption) :
  PS X (.AugAssign (.Name x o) op e pos) (Vd i U ti):=by
 intro a s B H D I h;obtain⟨v,M,h⟩:=h;obtain⟨m,R,P⟩:=I.loc;have t:C5 X.env.scope x:=by rcases g with k | k;exact .inl k;exact .inr (.inl k)
 obtain⟨u,r,l⟩:=P i x v j M t;refine wpAny_AugAssign_Name ?_;have go:wpAny (model X.prog X.w) X.A (eval e X.env) (λw n=>wpAny (model X.prog X.w) X.A (inplaceOp op u w) (λr q=>wpAny (model X.prog X.w) X.A (storeName X.env x r) (λ_=>SP X a D .next) X.xe q) X.xe n) X.xe s:=by
  refine lA (C a s B H _ I h) λw Z f=>?_
  obtain⟨y,E,G,W,S⟩:=f;refine lA (T a Z B E v y u w _ G r W S) λz s2 f=>?_
  obtain⟨zv,F,K,Y,V⟩:=f;exact Jv K p j g Y (λs3 L=>⟨_,F,L,V⟩) J
 rcases l with⟨b,Q⟩ | ⟨b,c,O,d⟩
 .exact wpAny_loadName_local I.ok.kind b R Q go
 .rcases b with b | b
  .exact wpAny_loadName_cell I.ok.kind b O d go
  .rcases g with k | k
   .have:X.env.scope.names.lookup x=some .free:=b;rw[k] at this;cases this
   .have:X.env.scope.names.lookup x=some .free:=b;rw[k] at this;cases this
def Nq (f:Int->Int->Int):Kk:=λx y H Q=>∃ i j,x = .int i/\y = .int j/\Q (.int (f i j)) H
theorem Kc:Kb X .Add (Nq λi j=>i+j):=by
 intro a s k H x y v u Q I d e h;obtain⟨i,j,b,c,q⟩:=h;subst b;subst c;obtain⟨t,rfl⟩:=d;obtain⟨f,rfl⟩:=e;exact iadd_int ⟨.int _,H,I.tok _,⟨_,rfl⟩,q⟩
end
section
variable {X:Cx}
def Xm (c:TT) (g:TS):TS:=λD a H=>∃ W:Nat->St->Hp->Prop,(∃ m,W m a H)/\∀ m a H,W m a H ->
 c a H λb f=>if b=true then ∃ N:St->Hp->Prop,(∀ d e,N d e->∃ h,h<m/\W h d e)/\g { D with nx:=N,ct:=N,bk:=D.nx } a f else D.nx a f
theorem W3 (g:PassesOwn (model X.prog X.w) X.A X.env X.xe) (l:PT X c p) (j:oN X body o):PS X (.While c body [] pos) (Xm p o):=by
 intro a s Z H D I h;obtain⟨W,⟨P,V⟩,k⟩:=h;refine wpAny_While (codeAny_whileLoop (λn Q=>∃ m F,Inv X a m F Q/\W n m F) ?_ P ⟨Z,H,I,V⟩);rintro n R ⟨e,G,O,Y⟩;refine gJ g (lA (l a R e G _ O (k n e G Y)) λb S y=>?_);obtain⟨K,L,q⟩:=y;cases b with
 | true =>
  obtain⟨N,M,q⟩:=q;rw[aO rfl];refine gJ g (lA (j a S e K _ L q) λf r t=>?_);cases f with
  | next =>
   obtain⟨d,i,u,B⟩:=t;obtain⟨z,x,E⟩:=M d i B;exact⟨z,x,d,i,u,E⟩
  | cont =>
   obtain⟨d,i,u,B⟩:=t;obtain⟨z,x,E⟩:=M d i B;exact⟨z,x,d,i,u,E⟩
  | brk=>exact t
  | ret v=>exact t
 | false =>
  rw[aJ aT];exact jX ⟨e,K,L,q⟩
end
structure It where
 go:Nat->Hp->Prop
 yld:Nat->Hp->V->Hp->Prop
 stop:Nat->Hp->Prop
def sQ (X:Cx) (g:Aa (Ad×Obj)) (H:Hp) (b:Ad):Prop :=
 H b=none/\b≠X.env.locals/\b∉X.fs/\(b∈X.ex\/X.s₀.heap.objs.size<=b)/\(∀ x c,X.env.cells.lookup x=some c->c≠b)/\∀ p∈X.pn++g,p.1≠b
theorem Inv.fpOk {X:Cx}(I:Inv X j r H s) (g:s.heap.objs.size<=b) (o:l b=none):sQ X j l b:=by
 refine⟨o,hZ (bG I.lt g),I.nofs g,.inr (bP I.sz g),λx c e z=>?_,λp a z=>?_⟩
 .obtain⟨v,q⟩:=I.cell x c e;exact absurd (bG q.lt (by rw[z];exact g)) (dY _)
 .exact absurd (bG (aU (I.pin p a).1) (by rw[z];exact g)) (dY _)
structure Turn (P:Program) (w:World) (K:lK) (tg:Expr) (J:It) (fp:List Addr) (it:Addr) (tn:Nat->Heap->Prop):Prop where
 mem:it∈fp
 obj:∀ i h,tn i h->∀ b∈fp,∃ o,h.get? b=some o/\∀ v,o.data ≠ .cell v
 keep:∀ i h h',tn i h->(∀ b∈fp,∀ o,h.get? b=some o->h'.get? b=some o)->tn i h'
 item:∀ (X:Cx),X.prog=P->X.w=w->X.K=K->X.calm=true->∀ (i:Nat) (pins:List (Addr×Obj)) (s:Shared) (σ:St) (H:Hp) (E:Value->Shared->Prop),Inv X pins σ H s->(∀ b∈fp,sQ X pins H b)->tn i s.heap->J.go i H ->
  wpAny (model P w) X.A (pyNext (.ref it)) (λr s1=>∃ u,r=some u /\ wpAny (model P w) X.A (letOwnedTupleGo tg (.ref it) u) (λ_ s2=>∃ x H',Inv X pins σ H' s2/\lW x u/\J.yld i H x H'/\tn (i+1) s2.heap/\∀ b∈fp,H' b=none) E s1) E s
 done:∀ (X:Cx),X.prog=P->X.w=w->X.K=K->X.calm=true->∀ (i:Nat) (pins:List (Addr×Obj)) (s:Shared) (σ:St) (H:Hp) (E:Value->Shared->Prop),Inv X pins σ H s->(∀ b∈fp,sQ X pins H b)->tn i s.heap->J.stop i H ->
  wpAny (model P w) X.A (pyNext (.ref it)) (λr s1=>r=none/\Inv X pins σ H s1) E s
 self:∀ (A:Around) (i:Nat) (s:Shared) (Q:Value->Shared->Prop) (E:Value->Shared->Prop),tn i s.heap->Q (.ref it) s->wpAny (model P w) A (pyIter (.ref it)) Q E s
abbrev TI:=St->Hp->(It->Hp->Prop)->Prop
def S2 (X:Cx) (g:Aa (Ad×Obj)) (p:St) (o:Expr) (R:It->Hp->Prop) (j:Ac) (l:Ae):Prop :=
 ∃ (d:Ad) (c:Aa Ad) (e:Nat->Ag->Prop) (J:It) (a:Hp),j = .ref d/\Inv X g p a l/\Turn X.prog X.w X.K o J c d e/\e 0 l.heap/\(∀ b∈c,sQ X g a b)/\R J a
def PI (X:Cx) (g iter:Expr) (j:TI):Prop :=
 ∀ (a:Aa (Ad×Obj)) (s:Ae) (b:St) (H:Hp) (R:It->Hp->Prop),Inv X a b H s->j b H R ->
  wpAny (model X.prog X.w) X.A (eval iter X.env) (λv c=>wpAny (model X.prog X.w) X.A (pyIter v) (S2 X a b g R) X.xe c) X.xe s
theorem A4 (p:s.heap.get? r=some o) (j:o.cls = .type n) (hd:o.data = .fields I)
  (l:["enumerate","zip","dict_itemiterator","dict_reverseitemiterator","odict_iterator","itertools.zip_longest","itertools.pairwise"].contains n=false) (g:Q () s):wpAny M A (letOwnedTupleGo C (.ref r) u) Q E s:=by
 unfold letOwnedTupleGo;cases C<;>first
  | exact aE g
  | (cases u<;>first
    | exact aE g
    | (refine aB (wpAny_load p ?_);rw[j,hd];show wpAny M A (if (["enumerate","zip","dict_itemiterator","dict_reverseitemiterator","odict_iterator","itertools.zip_longest","itertools.pairwise"].contains n&&I[0]? == some (rawInt _))=true then _ else _) Q E s;rw[aJ (by intro h;rw[l,Bool.false_and] at h;cases h)];exact aE g))
def vS (K:lK) (a:Ad):It :=
 ⟨λi H=>∃ b x,hI K H a b/\b[i]?=some x,λi H x c=>c=H/\∀ b,hI K H a b->b[i]?=some x,λi H=>∃ b,hI K H a b/\b.length<=i⟩
def zJ (K:lK) (a:Ad):It :=
 ⟨λi H=>∃ b x,mK K H a b/\b[i]?=some x,λi H x c=>c=H/\∀ b,mK K H a b->b[i]?=some x,λi H=>∃ b,mK K H a b/\b.length<=i⟩
def sO (lo:Int) (n:Nat):It:=⟨λi _=>i<n,λi H x a=>a=H/\x = .int (lo+i),λi _=>n<=i⟩
theorem Mh {P:Ah}{K:lK}(a g:Ad):Turn P w K T (vS K a) [g] g (λi h=>h.IsListIter g a i) where
 mem:=by simp
 obj:=λi h st b m=>by
  have e:b=g:=by simpa using m
  subst e;obtain⟨o,e,c,d⟩:=st;exact⟨o,e,λv z=>by rw[d] at z;cases z⟩
 keep:=λi h q st k=>st.at λo e=>k g (by simp) o e
 item:=by
  intro X L hw G R i f s S H E I t st M;subst L hw G;obtain⟨C,x,y,N⟩:=M;obtain⟨O,Q,p,j⟩:=I.list y;obtain⟨u,Y,l⟩:=Q.get N;obtain⟨A,f1,f2,B,D,F⟩:=t g (by simp);refine wpAny_pyNext_list_item st p.isList (x:=u) (by simpa using Y) λq n r=>?_
  have V:Inv X f S H { s with heap:=q }:=I.turned (t':=s.toks) (λb o m e=>(r.2 b m).trans e) A f1 B D F;obtain⟨o,e,c,d⟩:=id n;exact⟨u,rfl,A4 (s:={ s with heap:=q }) e c d (by decide) ⟨x,H,V,l,⟨rfl,λU Z=>by rw[I.list_inj Z y];exact N⟩,n,λb m=>(t b m).1⟩⟩
 done:=by
  intro X L hw G R i f s S H E I t st M;subst L hw G;obtain⟨C,y,N⟩:=M;obtain⟨O,Q,p,j⟩:=I.list y;obtain⟨A,f1,f2,B,D,F⟩:=t g (by simp);have J:=Q.length;exact wpAny_pyNext_list_end (I.ok.hd R) st p.isList (by simp;omega) λq W=>⟨rfl,I.turned (t':=s.toks) (λb o m e=>W b o m e) A f1 B D F⟩
 self:=λ_ _ _ _ _ st h=>wpAny_pyIter_listiter st h
theorem FN {P:Ah}{K:lK}(a g:Ad):Turn P w K T (zJ K a) [g] g (λi h=>h.IsTupleIter g a i) where
 mem:=by simp
 obj:=λi h st b m=>by
  have e:b=g:=by simpa using m
  subst e;obtain⟨o,e,c,d⟩:=st;exact⟨o,e,λv z=>by rw[d] at z;cases z⟩
 keep:=λi h t st k=>st.at λo e=>k g (by simp) o e
 item:=by
  intro X M hw L R i f s S H E I y st N;subst M hw L;obtain⟨C,x,A,O⟩:=N;obtain⟨n,Q,p,j⟩:=I.tuple A;obtain⟨u,Y,l⟩:=Q.get O;obtain⟨B,f1,f2,D,F,G⟩:=y g (by simp);refine wpAny_pyNext_tuple_item st (show s.heap.IsTuple a n.toArray from p) (x:=u) (by simpa using Y) λt q r=>?_
  have V:Inv X f S H { s with heap:=t }:=I.turned (t':=s.toks) (λb o m e=>(r.2 b m).trans e) B f1 D F G;obtain⟨o,e,c,d⟩:=id q;exact⟨u,rfl,A4 (s:={ s with heap:=t }) e c d (by decide) ⟨x,H,V,l,⟨rfl,λU Z=>by rw[I.tuple_inj Z A];exact O⟩,q,λb m=>(y b m).1⟩⟩
 done:=by
  intro X M hw L R i f s S H E I y st N;subst M hw L;obtain⟨C,A,O⟩:=N;obtain⟨n,Q,p,j⟩:=I.tuple A;obtain⟨B,f1,f2,D,F,G⟩:=y g (by simp);have J:=Q.length;exact wpAny_pyNext_tuple_end (I.ok.hd R) st (show s.heap.IsTuple a n.toArray from p) (by simp;omega) λt W=>⟨rfl,I.turned (t':=s.toks) (λb o m e=>W b o m e) B f1 D F G⟩
 self:=λ_ _ _ _ _ st h=>wpAny_pyIter_tupleiter st h
theorem BE {P:Ah}{K:lK}(g:Ad) (lo:Int) (n:Nat):Turn P w K j (sO lo n) [g] g (λi h=>IsRangeIter h g (lo+(i:Nat)*1) ((n:Int)-(i:Nat)) 1) where
 mem:=by simp
 obj:=λi h st b c=>by
  have e:b=g:=by simpa using c
  subst e;exact⟨_,st,λv z=>by
   have R:Data.fields _=Data.cell v:=z;cases R⟩
 keep:=λi h f st k=>k g (by simp) _ st
 item:=by
  intro X B hw A D i a s L H E I m st F;subst B hw A;obtain⟨q,f1,f2,u,x,y⟩:=m g (by simp);have W:=Walks.range (prog:=X.prog) (w:=X.w) (I.ok.hd D) g lo 1 n;refine W.item i s _ _ F st λv f G O d Q=>?_
  obtain⟨t,rfl⟩:=O;have M:Inv X a L H { s with heap:=f,toks:=G }:=I.turned (λb o c e=>Q b o (by simpa using c) e) q f1 u x y;refine⟨_,rfl,A4 (s:={ s with heap:=f,toks:=G }) (n := "range_iterator") d rfl rfl (by decide) ⟨.int (lo+i),H,M,⟨t,?_⟩,⟨rfl,rfl⟩,d,λb c=>(m b c).1⟩⟩;rw[Int.mul_one]
 done:=by
  intro X B hw A D i a s L H E I m st F;subst B hw A;obtain⟨q,f1,f2,u,x,y⟩:=m g (by simp);exact wpAny_pyNext_range_end (I.ok.hd D) st (by have:n<=i:=F;omega) λf N=>⟨rfl,I.turned (t':=s.toks) (λb o c e=>N b o c e) q f1 u x y⟩
 self:=λ_ _ _ _ _ st h=>jK st h
section
variable {X:Cx}
def LX (K:lK) (g:TE):TI:=λd H R=>g d H λx b=>∃ a,x = .ref a/\(∃ c,hI K b a c)/\R (vS K a) b
theorem Wg (g:PE X l j):PI X r l (LX X.K j):=by
 intro c s y H R I h;refine lA (g c s y H _ I h) λv f i=>?_
 obtain⟨x,k,d,w,u⟩:=i;obtain⟨a,e,⟨B,n⟩,q⟩:=u;subst e;cases w;obtain⟨t,A,p,z⟩:=d.list n;refine eZ p.isList ?_;refine⟨f.heap.objs.size,[f.heap.objs.size],_,_,k,rfl,d.kept (t':=f.toks) λb o e=>aG _ e,Mh a _,⟨_,aX _ rfl,rfl,rfl⟩,λb m=>?_,q⟩;have e:b=f.heap.objs.size:=by simpa using m
 subst e;exact d.fpOk (aP _) (d.hok.fresh (aP _))
theorem Ss {R:It->Hp->Prop}{lo:Int}(I:Inv X j p H s) (r:-(2 ^ 62)<=lo) (C:lo<2 ^ 62) (J:-(2 ^ 62)<=g) (T:g<2 ^ 62)
  (q:R (sO lo (g-lo).toNat) H):wpAny (model X.prog X.w) X.A (pyIter (.ref s.heap.objs.size)) (S2 X j p U R) E { s with heap:=s.heap.push { cls:=.type "range",data:=.fields #[.int lo t,.int g u,.int 1 v] },toks:=l }:=by
 refine wpAny_pyIter_range (IsRange.new ..) (small_one r C J T) ?_;have a:Inv X j p H { s with heap:=s.heap.push { cls:=.type "range",data:=.fields #[.int lo t,.int g u,.int 1 v] },toks:=l }:=I.kept λb o e=>aG _ e
 refine⟨(s.heap.push { cls:=.type "range",data:=.fields #[.int lo t,.int g u,.int 1 v] }).objs.size,[(s.heap.push { cls:=.type "range",data:=.fields #[.int lo t,.int g u,.int 1 v] }).objs.size],_,_,H,rfl,
  a.kept (t':=l) λb o e=>aG _ e,BE _ lo (g-lo).toNat,?_,λb f=>?_,q⟩
 .have c:lo+((0:Nat):Int)*1=lo:=by simp
  have d:(((g-lo).toNat:Nat):Int)-((0:Nat):Int)=Builtin.Range.rangeSize lo g 1:=by rw[rangeSize_one];split<;>omega
  show IsRangeIter _ _ (lo+((0:Nat):Int)*1) ((((g-lo).toNat:Nat):Int)-((0:Nat):Int)) 1;rw[c,d];exact aX _ rfl
 .have e:b=(s.heap.push { cls:=.type "range",data:=.fields #[.int lo t,.int g u,.int 1 v] }).objs.size:=by simpa using f
  subst e;exact a.fpOk (aP _) (a.hok.fresh (aP _))
def Xp (g:TA):TI:=λc H R=>g c H λb a=>∃ j:Int,b=[.int j]/\-(2 ^ 62)<=j/\j<2 ^ 62/\R (sO 0 j.toNat) a
def Xq (g:TA):TI:=λc H R=>g c H λb a=>∃ i j:Int,b=[.int i,.int j]/\(-(2 ^ 62)<=i/\i<2 ^ 62/\-(2 ^ 62)<=j/\j<2 ^ 62)/\R (sO i (j-i).toNat) a
theorem A9 (l:Gl X "range") (o:X.mg "range" = none) (g:PA X [a] J) (C:starEach [a] X.env=[(false,eval a X.env)]:=by rfl):PI X T (.Call (.Name "range" p) [a] [] pos) (Xp J):=by
 intro b s n H R I h;refine Call_ (uT I l o boot_range (cF (lA (g pos b s n H _ I h) λw v c=>?_) C rfl));obtain⟨x,u,f,k,d⟩:=c;obtain⟨j,e,d,i,q⟩:=d;subst e;cases k with
 | cons r m =>
  cases m;obtain⟨t,rfl⟩:=r;exact call_range_1 (Ss f (by omega) (by omega) d i (by simpa using q))
theorem CF (o:Gl X "range") (C:X.mg "range" = none) (l:PA X [a,b] T) (J:starEach [a,b] X.env=[(false,eval a X.env),(false,eval b X.env)]:=by rfl) (g:starEach [b] X.env=[(false,eval b X.env)]:=by rfl) :
  PI X U (.Call (.Name "range" p) [a,b] [] pos) (Xq T):=by
 intro c s y H R I h;refine Call_ (uT I o C boot_range (cF (lA (l pos c s y H _ I h) λD A d=>?_) (by rw[J,g]) (by rw[g];rfl)));obtain⟨E,z,m,x,f⟩:=d;obtain⟨i,j,e,⟨f,n,u,v⟩,q⟩:=f;subst e;cases x with
 | cons r k =>
  cases k with
  | cons w k =>
   cases k;obtain⟨t,rfl⟩:=r;obtain⟨B,rfl⟩:=w;exact call_range_2 (Ss m f n u v q)
def GJ (l:TI) (g:TG) (j:TS):TS:=λD a H=>l a H λJ f=>∃ W:Nat->Nat->St->Hp->Prop,(∃ m,W 0 m a f)/\∀ i m a H,W i m a H ->
 (J.stop i H/\D.nx a H)\/(J.go i H/\∃ N:St->Hp->Prop,(∀ c b,N c b->∃ e,e<m/\W (i+1) e c b)/\∀ x b,J.yld i H x b->g x a b λd h=>j { D with nx:=N,ct:=N,bk:=D.nx } d h)
def B1 (g:Aa Ad) (h:Ag):Aa (Ad×Obj):=g.filterMap λb=>(h.get? b).map λo=>(b,o)
theorem Ev (j:b∈g) (e:h.get? b=some o):(b,o)∈B1 g h:=kJ.mpr ⟨b,j,by rw[e];rfl⟩
theorem Wj (j:p∈B1 g h):p.1∈g/\h.get? p.1=some p.2:=by
 obtain⟨b,c,e⟩:=kJ.mp j;cases q:h.get? b with
 | none=>rw[q] at e;cases e
 | some o =>
  rw[q] at e;have a:(b,o)=p:=bZ e;subst a;exact⟨c,q⟩
theorem Inv.pinned (I:Inv X g C H s) (l:∀ b∈j,sQ X g H b) (r:∀ b∈j,∃ o,s.heap.get? b=some o/\∀ v,o.data ≠ .cell v):Inv X (g++B1 j s.heap) C H s :=
 I.pins_of λp h=>(bE.mp h).elim (λz=>I.pin p (bA _ z)) λz=>by
  obtain⟨c,e⟩:=Wj z;obtain⟨f,f1,f2,_⟩:=l p.1 c;obtain⟨o,a,d⟩:=r p.1 c;rw[e] at a;cases a;exact⟨e,f,f1,f2,d⟩
theorem Inv.unpinned (I:Inv X (g++l) j H s):Inv X g j H s:=I.pins_of λp a=>I.pin p (bA _ (bB _ a))
theorem En {iter:Expr}(l:PassesOwn (model X.prog X.w) X.A X.env X.xe) (hc:X.calm=true) (hi:PI X tg iter wi) (hg:PG X tg g) (j:oN X body tb)
  (hs:∀ x,foldedSetIterable iter X.env x=pure x:=by intro _;rfl):PS X (.For tg iter body [] pos) (GJ wi g tb):=by
 intro a s σ H D I h;refine wpAny_For (lA (hi a s σ H _ I h) λv s1 h1=>lA h1 λaa s2 h2=>?_) hs;obtain⟨it,K,tn,J,H2,e,I2,T,Z,f2,W,⟨m0,w0⟩,P⟩:=h2;subst e;have y:∀ {E:Hp},(∀ b∈K,E b=none)->∀ b∈K,sQ X a E b:=λhn b j=>⟨hn b j,(f2 b j).2⟩
 refine codeAny_forLoop_any (λn s'=>∃ i z E,Inv X a z E s'/\tn i s'.heap/\(∀ b∈K,E b=none)/\W i n z E) ?_ m0 ⟨0,σ,H2,I2,Z,λb j=>(f2 b j).1,w0⟩;rintro n s3 ⟨i,B,Q,U,O,L,w3⟩;rcases P i n B Q w3 with⟨stop,qn⟩ | ⟨go,N,hN,step⟩
 .refine gJ l (lA (T.done X rfl rfl rfl hc i a s3 B Q X.xe U (y L) O stop) λr s4 k=>?_);obtain⟨V,I4⟩:=k;subst V;exact jX ⟨B,Q,I4,qn⟩
 .refine gJ l (lA (T.item X rfl rfl rfl hc i a s3 B Q X.xe U (y L) O go) λr s4 k=>?_);obtain⟨u,V,h4⟩:=k;subst V;refine gJ l (lA h4 λ_ s5 k=>?_);obtain⟨x,C,I5,r5,y5,G,S⟩:=k;have R:=I5.pinned (y S) (T.obj _ _ G);refine gJ l (lA (hg _ s5 B C x u _ R r5 (step x C y5)) λ_ s6 k=>?_);obtain⟨p,H6,I6,q6⟩:=k;refine gJ l (lA (j _ s6 p H6 _ I6 q6) λf Y F=>?_);have again:∀ {c:St} {q:Hp},Inv X (a++B1 K s5.heap) c q Y->N c q->∃ m,m<n/\∃ i z E,Inv X a z E Y/\tn i Y.heap/\(∀ b∈K,E b=none)/\W i m z E:=λ{c q} t M=>by
   obtain⟨m',hm,w7⟩:=hN c q M;refine⟨m',hm,i+1,c,q,t.unpinned,T.keep _ _ _ G λb j o e=>(t.pin (b,o) (bA _ (bA _ (Ev j e)))).1,λb j=>?_,w7⟩;obtain⟨o,e,d⟩:=T.obj _ _ G b j;exact (t.pin (b,o) (bA _ (bA _ (Ev j e)))).2.1
  cases f with
  | next=>obtain⟨c,q,t,M⟩:=F;exact again t M
  | cont=>obtain⟨c,q,t,M⟩:=F;exact again t M
  | brk=>obtain⟨c,q,t,F⟩:=F;exact⟨c,q,t.unpinned,F⟩
  | ret v=>obtain⟨x7,c,q,t,r7,F⟩:=F;exact⟨x7,c,q,t.unpinned,r7,F⟩
end
theorem Vu {K:lK}{a:Ad}{xs:Aa V}{g:TG}{J:TS}{D:Ends}{j:St}{H:Hp}(Pv:Nat->St->Hp->Prop) (T:Pv 0 j H) (U:∀ i j H,i<=xs.length->Pv i j H->hI K H a xs)
  (hs:∀ i x j H,xs[i]?=some x->Pv i j H->g x j H λr C=>J { D with nx:=Pv (i+1),ct:=Pv (i+1),bk:=D.nx } r C) (hd:∀ j H,Pv xs.length j H->D.nx j H) :
  ∃ W:Nat->Nat->St->Hp->Prop,(∃ m,W 0 m j H)/\∀ i m j H,W i m j H ->
   ((vS K a).stop i H/\D.nx j H)\/((vS K a).go i H/\∃ N:St->Hp->Prop,(∀ o l,N o l->∃ I,I<m/\W (i+1) I o l)/\∀ x l,(vS K a).yld i H x l->g x j l λr C=>J { D with nx:=N,ct:=N,bk:=D.nx } r C):=by
 refine⟨λi m j H=>m=xs.length-i/\i<=xs.length/\Pv i j H,⟨xs.length,by simp,dB _,T⟩,?_⟩;rintro i m j H ⟨rfl,c,p⟩;have q:=U i j H c p;by_cases b:i<xs.length
 .refine .inr ⟨⟨xs,xs[i],q,by simp[b]⟩,Pv (i+1),λo l d=>⟨xs.length-(i+1),by omega,rfl,b,d⟩,λx l y=>?_⟩;obtain⟨e,y⟩:=y;subst e;exact hs i x j _ (y xs q) p
 .have e:i=xs.length:=by omega
  subst e;exact .inl ⟨⟨xs,q,aP _⟩,hd j H p⟩
theorem AV {K:lK}{a:Ad}{xs:Aa V}{g:TG}{J:TS}{D:Ends}{j:St}{H:Hp}(Pv:Nat->St->Hp->Prop) (T:Pv 0 j H) (U:∀ i j H,i<=xs.length->Pv i j H->mK K H a xs)
  (hs:∀ i x j H,xs[i]?=some x->Pv i j H->g x j H λr C=>J { D with nx:=Pv (i+1),ct:=Pv (i+1),bk:=D.nx } r C) (hd:∀ j H,Pv xs.length j H->D.nx j H) :
  ∃ W:Nat->Nat->St->Hp->Prop,(∃ m,W 0 m j H)/\∀ i m j H,W i m j H ->
   ((zJ K a).stop i H/\D.nx j H)\/((zJ K a).go i H/\∃ N:St->Hp->Prop,(∀ o l,N o l->∃ I,I<m/\W (i+1) I o l)/\∀ x l,(zJ K a).yld i H x l->g x j l λr C=>J { D with nx:=N,ct:=N,bk:=D.nx } r C):=by
 refine⟨λi m j H=>m=xs.length-i/\i<=xs.length/\Pv i j H,⟨xs.length,by simp,dB _,T⟩,?_⟩;rintro i m j H ⟨rfl,c,p⟩;have q:=U i j H c p;by_cases b:i<xs.length
 .refine .inr ⟨⟨xs,xs[i],q,by simp[b]⟩,Pv (i+1),λo l d=>⟨xs.length-(i+1),by omega,rfl,b,d⟩,λx l y=>?_⟩;obtain⟨e,y⟩:=y;subst e;exact hs i x j _ (y xs q) p
 .have e:i=xs.length:=by omega
  subst e;exact .inl ⟨⟨xs,q,aP _⟩,hd j H p⟩
theorem Tz {lo:Int}{n:Nat}{g:TG}{J:TS}{D:Ends}{j:St}{H:Hp}(Pv:Nat->St->Hp->Prop) (T:Pv 0 j H)
  (U:∀ i j H,i<n->Pv i j H->g (.int (lo+i)) j H λr C=>J { D with nx:=Pv (i+1),ct:=Pv (i+1),bk:=D.nx } r C) (hd:∀ j H,Pv n j H->D.nx j H) :
  ∃ W:Nat->Nat->St->Hp->Prop,(∃ m,W 0 m j H)/\∀ i m j H,W i m j H ->
   ((sO lo n).stop i H/\D.nx j H)\/((sO lo n).go i H/\∃ N:St->Hp->Prop,(∀ o l,N o l->∃ I,I<m/\W (i+1) I o l)/\∀ x l,(sO lo n).yld i H x l->g x j l λr C=>J { D with nx:=N,ct:=N,bk:=D.nx } r C):=by
 refine⟨λi m j H=>m=n-i/\i<=n/\Pv i j H,⟨n,by simp,dB _,T⟩,?_⟩;rintro i m j H ⟨rfl,c,p⟩;by_cases a:i<n
 .refine .inr ⟨a,Pv (i+1),λo l b=>⟨n-(i+1),by omega,rfl,a,b⟩,λx l y=>?_⟩;obtain⟨e,y⟩:=y;subst e y;exact U i j _ a p
 .have e:i=n:=by omega
  subst e;exact .inl ⟨aP _,hd j H p⟩
abbrev R2:=V->V->Hp->VK->Prop
def mL (X:Cx) (f:Ac->Ac->Sem Ac) (r:R2):Prop :=
 ∀ (a:Aa (Ad×Obj)) (s:Ae) (b:St) (H:Hp) (x y:V) (v u:Ac) (Q:VK),Inv X a b H s->lW x v->lW y u->r x y H Q ->
  wpAny (model X.prog X.w) X.A (f v u) (EP X a b Q) X.xe s
def Ik (X:Cx) (f:Ac->Sem Ac) (r:V->Hp->VK->Prop):Prop :=
 ∀ (a:Aa (Ad×Obj)) (s:Ae) (b:St) (H:Hp) (x:V) (v:Ac) (Q:VK),Inv X a b H s->lW x v->r x H Q ->
  wpAny (model X.prog X.w) X.A (f v) (EP X a b Q) X.xe s
def nF (X:Cx) (f:Ac) (r:Aa V->Hp->VK->Prop):Prop :=
 ∀ (a:Aa (Ad×Obj)) (s:Ae) (d:St) (H:Hp) (c:Aa V) (b:Aa Ac) (Q:VK),Inv X a d H s->lL c b->r c H Q ->
  wpAny (model X.prog X.w) X.A (call f b) (EP X a d Q) X.xe s
def BU (X:Cx) (r:V->Hp->(Bool->Hp->Prop)->Prop):Prop :=
 ∀ (a:Aa (Ad×Obj)) (s:Ae) (b:St) (H:Hp) (x:V) (v:Ac) (Q:Bool->Hp->Prop),Inv X a b H s->lW x v->r x H Q ->
  wpAny (model X.prog X.w) X.A (truthy v) (TP X a b Q) X.xe s
def F8 (r:R2) (g j:TE):TE:=λa H Q=>g a H λx b=>j a b λy c=>r x y c Q
def GV (r:V->Hp->VK->Prop) (g:TE):TE:=λb H Q=>g b H λx a=>r x a Q
def rI (C:Int->Int->Prop) (g:Int->Int->V):R2:=λx y H Q=>∃ i j,x = .int i/\y = .int j/\C i j/\Q (g i j) H
def uE (g:Int->Int->V):R2:=λx y H Q=>∃ i j,x = .int i/\y = .int j/\Q (g i j) H
def rU (g:Int->V):V->Hp->VK->Prop:=λx H Q=>∃ i,x = .int i/\Q (g i) H
section
variable {X:Cx}
theorem Ht (J:PE X a ta) (T:PE X b tb){g:Aa (Ad×Obj)}{s:Ae}{l:St}{H:Hp}{R:V->V->Hp->Prop}(I:Inv X g l H s)
  (h:ta l H λx C=>tb l C λy j=>R x y j){Q:Ac->Ae->Prop}{f:Ac->Ac->Sem Ac}
  (U:∀ v u r x y j,Inv X g l j r->lW x v->lW y u->R x y j->wpAny (model X.prog X.w) X.A (f v u) Q X.xe r) :
  wpAny (model X.prog X.w) X.A (eval a X.env) (λv o=>wpAny (model X.prog X.w) X.A (eval b X.env) (λu p=>wpAny (model X.prog X.w) X.A (f v u) Q X.xe p) X.xe o) X.xe s:=by
 refine lA (J g s l H _ I h) λv q c=>?_
 obtain⟨x,C,d,m,i⟩:=c;refine lA (T g q l C _ d i) λu r c=>?_
 obtain⟨y,j,e,n,k⟩:=c;exact U v u r x y j e m n k
theorem mU (l:mL X (binaryOp op) r) (g:PE X a o) (j:PE X b p):PE X (.BinOp a op b pos) (F8 r o p):=by
 intro c s m H Q I h;exact wpAny_BinOp (Ht g j I h λv u k x y d e f i q=>l c k m d x y v u Q e f i q)
theorem Xv (j:Ik X (unaryOp op) r) (g:PE X a l):PE X (.UnaryOp op a pos) (GV r l):=by
 intro b s c H Q I h;exact UnaryOp_ (lA (g b s c H _ I h) λv k ⟨x,d,e,i,f⟩=>j b k c d x v Q e i f)
theorem zH {f:Ac->Ac->Sem Ac}{C:Int->Int->Prop}{g:Int->Int->Int}
  (rule:∀ (i j:Int) (t u:Tok) (s:Ae) (Q:Ac->Ae->Prop) (E:Ac->Ae->Prop),C i j->Q (.int (g i j) s.toks) { s with toks:=s.toks+1 }->wpAny (model X.prog X.w) X.A (f (.int i t) (.int j u)) Q E s) :
  mL X f (rI C λi j=>.int (g i j)):=by
 intro a s k H x y v u Q I c d h;obtain⟨i,j,rfl,rfl,b,q⟩:=h;obtain⟨t,rfl⟩:=c;obtain⟨e,rfl⟩:=d;exact rule i j t e s _ _ b ⟨.int (g i j),H,I.tok _,⟨_,rfl⟩,q⟩
theorem T3 {f:Ac->Ac->Sem Ac}{g:Int->Int->Int}
  (rule:∀ (i j:Int) (t u:Tok) (s:Ae) (Q:Ac->Ae->Prop) (E:Ac->Ae->Prop),Q (.int (g i j) s.toks) { s with toks:=s.toks+1 }->wpAny (model X.prog X.w) X.A (f (.int i t) (.int j u)) Q E s) :
  mL X f (uE λi j=>.int (g i j)):=by
 intro a s e H x y v u Q I b c h;obtain⟨i,j,rfl,rfl,q⟩:=h;obtain⟨t,rfl⟩:=b;obtain⟨d,rfl⟩:=c;exact rule i j t d s _ _ ⟨.int (g i j),H,I.tok _,⟨_,rfl⟩,q⟩
theorem Qj {f:Ac->Ac->Sem Ac}{g:Int->Int->Bool}
  (rule:∀ (i j:Int) (t u:Tok) (s:Ae) (Q:Ac->Ae->Prop) (E:Ac->Ae->Prop),Q (.bool (g i j)) s->wpAny (model X.prog X.w) X.A (f (.int i t) (.int j u)) Q E s) :
  mL X f (uE λi j=>.b (g i j)):=by
 intro a s k H x y v u Q I c d h;obtain⟨i,j,rfl,rfl,q⟩:=h;obtain⟨t,rfl⟩:=c;obtain⟨e,rfl⟩:=d;exact rule i j t e s _ _ ⟨.b (g i j),H,I,rfl,q⟩
def X2 (i j:Int):Prop:=0<j/\j<1073741824
def C6 (i j:Int):Prop:=0<=j/\j<=1000000/\i.natAbs<2 ^ 64
def Fs (i j:Int):Prop:=(-(2 ^ 64)<i/\i<2 ^ 64)\/(-(2 ^ 64)<j/\j<2 ^ 64)
theorem Fs.ok (h:Fs i j):IntMulOk i j:=by
 rcases h with⟨a,b⟩ | ⟨a,b⟩
 .exact .of_left (intBits_le_64 a b)
 .exact .of_right (intBits_le_64 a b)
theorem vG:mL X (binaryOp .Add) (uE λi j=>.int (i+j)):=T3 λ_ _ _ _ _ _ _ q=>add_int q
theorem uJ:mL X (binaryOp .Sub) (uE λi j=>.int (i-j)):=T3 λ_ _ _ _ _ _ _ q=>sub_int q
theorem vQ:mL X (binaryOp .Mult) (rI Fs λi j=>.int (i*j)):=zH λ_ _ _ _ _ _ _ a q=>mul_int q a.ok
theorem Zy:mL X (binaryOp .FloorDiv) (rI X2 λi j=>.int (i/j)):=zH λi j _ _ _ _ _ a q=>by
 have b:(0:Int)<j:=a.1;have c:j<1073741824:=a.2;exact floordiv_int (by omega) (by rw[Int.fdiv_eq_ediv_of_nonneg i (by omega)];exact q) (.inl (PyProof.noPylong_small (by omega)))
theorem sG:mL X (binaryOp .Mod) (rI (λ_ j=>0<j) λi j=>.int (i%j)):=zH λi j _ _ _ _ _ a q=>by
 have b:(0:Int)<j:=a;exact mod_int' (by omega) (by rw[Int.fmod_eq_emod_of_nonneg i (by omega)];exact q)
theorem KJ:mL X (binaryOp .Pow) (rI C6 λi j=>.int (i ^ j.toNat)):=zH λ_ _ _ _ _ _ _ a q=>pow_int_small a.1 a.2.1 a.2.2 q
theorem N3:mL X (binaryOp .LShift) (rI C6 λi j=>.int (i*2 ^ j.toNat)):=zH λ_ _ _ _ _ _ _ a q=>lshift_int_small a.1 a.2.1 a.2.2 q
theorem Us {f:Ac->Sem Ac}{g:Int->Int}
  (rule:∀ (i:Int) (t:Tok) (s:Ae) (Q:Ac->Ae->Prop) (E:Ac->Ae->Prop),Q (.int (g i) s.toks) { s with toks:=s.toks+1 }->wpAny (model X.prog X.w) X.A (f (.int i t)) Q E s) :
  Ik X f (rU λi=>.int (g i)):=by
 intro a s c H x v Q I b h;obtain⟨i,rfl,q⟩:=h;obtain⟨t,rfl⟩:=b;exact rule i t s _ _ ⟨.int (g i),H,I.tok _,⟨_,rfl⟩,q⟩
theorem AM:Ik X (unaryOp .USub) (rU λi=>.int (-i)):=Us λ_ _ _ _ _ q=>neg_int q
end
noncomputable def Jj:V->V->Bool
 | .e,.e=>true | .e,.int _=>true | .int _,.e=>true | .e,.b _=>true | .b _,.e=>true | .e,.str _=>true | .str _,.e=>true
 | .int _,.int _=>true | .b _,.b _=>true | .str _,.str _=>true | .byt _,.byt _=>true
 | .int _,.str _=>true | .str _,.int _=>true | .b _,.str _=>true | .str _,.b _=>true
 | _,_=>false
def AQ:R2:=λx y H Q=>Jj x y=true/\Q (.b (decide (x=y))) H
def KC:R2:=λx y H Q=>Jj x y=true/\Q (.b (!decide (x=y))) H
theorem Pk:decide (V.int i=V.int j)=(i == j):=by
 rw[iE];simp
theorem T6:decide (V.b i=V.b j)=(i == j):=by
 rw[iE];simp
theorem Pg:decide (V.str i=V.str j)=(i == j):=by
 rw[iE];simp
theorem P7:decide (V.byt i=V.byt j)=(i.toList == j.toList):=by
 rw[iE];cases i;cases j;simp
section
variable {X:Cx}
theorem nU (I:Inv X g l H s) (q:Q (.b k) H) (e:k=j):EP X g l Q (.bool j) s:=by
 subst e;exact⟨.b k,H,I,rfl,q⟩
theorem C3:mL X (compareOp .Eq) AQ:=by
 intro k s m H x y v u Q I f a h;obtain⟨d,q⟩:=h;cases x with
 | e =>
  cases f;cases y with
  | e=>cases a;exact PySem.EqNone.eq_none_none (nU I q (by simp))
  | b j=>cases a;exact PySem.EqNone.eq_none_bool (nU I q (by simp))
  | int j=>obtain⟨c,rfl⟩:=a;exact PySem.EqNone.eq_none_int (nU I q (by simp))
  | str j=>obtain⟨c,rfl⟩:=a;exact PySem.EqNone.eq_none_str (nU I q (by simp))
  | _=>exact absurd (show false=true from d) aT
 | b i =>
  cases f;cases y with
  | e=>cases a;exact PySem.EqNone.eq_bool_none (nU I q (by simp))
  | b j=>cases a;exact eq_bool (nU I q T6)
  | str j=>obtain⟨c,rfl⟩:=a;exact PySem.EqMixed.eq_bool_str (nU I q (by simp))
  | _=>exact absurd (show false=true from d) aT
 | int i =>
  obtain⟨t,rfl⟩:=f;cases y with
  | e=>cases a;exact PySem.EqNone.eq_int_none (nU I q (by simp))
  | int j=>obtain⟨c,rfl⟩:=a;exact eq_int (nU I q Pk)
  | str j=>obtain⟨c,rfl⟩:=a;exact PySem.EqMixed.eq_int_str (nU I q (by simp))
  | _=>exact absurd (show false=true from d) aT
 | str i =>
  obtain⟨t,rfl⟩:=f;cases y with
  | e=>cases a;exact PySem.EqNone.eq_str_none (nU I q (by simp))
  | b j=>cases a;exact PySem.EqMixed.eq_str_bool (nU I q (by simp))
  | int j=>obtain⟨c,rfl⟩:=a;exact PySem.EqMixed.eq_str_int (nU I q (by simp))
  | str j=>obtain⟨c,rfl⟩:=a;exact eq_str (nU I q Pg)
  | _=>exact absurd (show false=true from d) aT
 | byt i =>
  obtain⟨t,rfl⟩:=f;cases y with
  | byt j=>obtain⟨c,rfl⟩:=a;exact PySem.W.eq_bytes (nU I q P7)
  | _=>exact absurd (show false=true from d) aT
 | _=>cases y<;>exact absurd (show false=true from d) aT
theorem EL:mL X (compareOp .NotEq) KC:=by
 intro k s m H x y v u Q I f a h;obtain⟨d,q⟩:=h;cases x with
 | e =>
  cases f;cases y with
  | e=>cases a;exact PySem.EqNone.ne_none_none (nU I q (by simp))
  | b j=>cases a;exact PySem.EqNone.ne_none_bool (nU I q (by simp))
  | int j=>obtain⟨c,rfl⟩:=a;exact PySem.EqNone.ne_none_int (nU I q (by simp))
  | str j=>obtain⟨c,rfl⟩:=a;exact PySem.EqNone.ne_none_str (nU I q (by simp))
  | _=>exact absurd (show false=true from d) aT
 | b i =>
  cases f;cases y with
  | e=>cases a;exact PySem.EqNone.ne_bool_none (nU I q (by simp))
  | b j=>cases a;exact ne_bool (nU I q (dD not T6))
  | str j=>obtain⟨c,rfl⟩:=a;exact PySem.EqMixed.ne_bool_str (nU I q (by simp))
  | _=>exact absurd (show false=true from d) aT
 | int i =>
  obtain⟨t,rfl⟩:=f;cases y with
  | e=>cases a;exact PySem.EqNone.ne_int_none (nU I q (by simp))
  | int j=>obtain⟨c,rfl⟩:=a;exact ne_int (nU I q (dD not Pk))
  | str j=>obtain⟨c,rfl⟩:=a;exact PySem.EqMixed.ne_int_str (nU I q (by simp))
  | _=>exact absurd (show false=true from d) aT
 | str i =>
  obtain⟨t,rfl⟩:=f;cases y with
  | e=>cases a;exact PySem.EqNone.ne_str_none (nU I q (by simp))
  | b j=>cases a;exact PySem.EqMixed.ne_str_bool (nU I q (by simp))
  | int j=>obtain⟨c,rfl⟩:=a;exact PySem.EqMixed.ne_str_int (nU I q (by simp))
  | str j=>obtain⟨c,rfl⟩:=a;exact ne_str (nU I q (dD not Pg))
  | _=>exact absurd (show false=true from d) aT
 | byt i =>
  obtain⟨t,rfl⟩:=f;cases y with
  | byt j=>obtain⟨c,rfl⟩:=a;exact PySem.W.ne_bytes (nU I q (dD not P7))
  | _=>exact absurd (show false=true from d) aT
 | _=>cases y<;>exact absurd (show false=true from d) aT
theorem FU:mL X (compareOp .Gt) (uE λi j=>.b (decide (j<i))):=Qj λ_ _ _ _ _ _ _ q=>gt_int q
theorem Xl:mL X (compareOp .GtE) (uE λi j=>.b (decide (j<=i))):=Qj λ_ _ _ _ _ _ _ q=>ge_int q
theorem BF:mL X (compareOp .Is) (λx y H Q=>y = .e/\Q (.b (decide (x = .e))) H):=by
 intro a s f H x y v u Q I c d h;obtain⟨rfl,q⟩:=h;cases d;refine is_none_gen (nU I q ?_);cases x<;>first
  | (cases c;rfl)
  | (obtain⟨t,rfl⟩:=c;rfl)
theorem HB:mL X (compareOp .NotIn) (λx y H Q=>∃ i j,x = .str i/\y = .str j/\Q (.b (!(!(Builtin.Str.occurrences j i 0 j.length 1).isEmpty))) H):=by
 intro a s f H x y v u Q I c d h;obtain⟨i,j,rfl,rfl,q⟩:=h;obtain⟨t,rfl⟩:=c;obtain⟨e,rfl⟩:=d;exact notIn_str (nU I q rfl)
theorem mL.or (h:mL X f r) (g:mL X f j):mL X f (λx y H Q=>r x y H Q\/j x y H Q):=by
 intro a s d H x y v u Q I b c q;rcases q with q | q
 .exact h a s d H x y v u Q I b c q
 .exact g a s d H x y v u Q I b c q
theorem vR (b:Expr) (h:op ≠ .In:=by decide) (g:op ≠ .NotIn:=by decide):behindInMarks op b=false:=by
 have a:(op == CmpOp.In)=false:=by cases op<;>first | rfl | exact absurd rfl h
 have c:(op == CmpOp.NotIn)=false:=by cases op<;>first | rfl | exact absurd rfl g
 cases b<;>simp[behindInMarks,a,c]
theorem Nm (o:mL X (compareOp op) r) (g:PE X a p) (j:PE X b C) (l:behindInMarks op b=false):PE X (.Compare a [op] [b] pos) (F8 r p C):=by
 intro c s m H Q I h;exact wpAny_Compare1 (Ht g j I h λv u k x y d e f i q=>o c k m d x y v u Q e f i q) l
def Xs (t:TE):TT:=λc H Q=>t c H λx a=>∃ k,x = .b k/\Q k a
theorem xE (o:mL X (compareOp op) r) (g:PE X a p) (j:PE X b C) (l:behindInMarks op b=false):PT X (.Compare a [op] [b] pos) (Xs (F8 r p C)):=by
 intro d s f H Q I h;refine wpAny_isTrue_Compare1 (lA (g d s f H _ I h) λv K ⟨x,i,q,E,A⟩=>lA (j d K f i _ q A) λu L ⟨y,m,t,F,B⟩ =>lA (o d L f m x y v u _ t E F B) λc M ⟨z,n,w,G,k,e,D⟩=>?_) l;subst e;cases G;exact eY ⟨n,w,D⟩
def Jz (K:lK) (x:V) (H:Hp) (k:Bool):Prop :=
 match x with
 | .e=>k=false
 | .b b=>k=b
 | .int i=>k=(i != 0)
 | .str y=>y.length<=sizeLine/\k=((y.length:Int) != 0)
 | .byt y=>y.size<=sizeLine/\k=((y.size:Int) != 0)
 | .ref p=>(∃ c,hI K H p c/\k = !c.isEmpty)\/(∃ c,mK K H p c/\k = !c.isEmpty)\/∃ a,H p=some (.k a)/\k = !a.isEmpty
 | _=>False
theorem Z4 (r:KV g j):(!j.isEmpty) = !g.isEmpty:=by
 cases r<;>rfl
theorem Lf (r:lL j g):(!g.toArray.isEmpty) = !j.isEmpty:=by
 cases r<;>simp
theorem xS:(sizeLine:Nat)<2 ^ 63:=by rw[jF];decide
theorem JG:BU X (λx H Q=>∃ k,Jz X.K x H k/\Q k H):=by
 intro E s N H x v Q I n h;obtain⟨k,e,q⟩:=h;have L:=xS;have M:sizeLine=16777216:=jF;cases x with
 | e =>
  cases n;have a:k=false:=e;subst a;exact truthy_none ⟨H,I,q⟩
 | b b =>
  cases n;have a:k=b:=e;subst a;exact eY ⟨H,I,q⟩
 | int i =>
  obtain⟨t,rfl⟩:=n;have a:k=(i != 0):=e;subst a;exact PySem.P.truthy_int ⟨H,I,q⟩
 | str y =>
  obtain⟨t,rfl⟩:=n;obtain⟨G,a⟩:y.length<=sizeLine/\k=((y.length:Int) != 0):=e;subst a;exact PySem.P.truthy_str (by omega) ⟨H,I.tok _,q⟩
 | byt y =>
  obtain⟨t,rfl⟩:=n;obtain⟨G,a⟩:y.size<=sizeLine/\k=((y.size:Int) != 0):=e;subst a;exact PySem.W.truthy_bytes (by omega) ⟨H,I.tok _,q⟩
 | ref p =>
  cases n;have a:(∃ f,hI X.K H p f/\k = !f.isEmpty)\/(∃ f,mK X.K H p f/\k = !f.isEmpty)\/∃ c,H p=some (.k c)/\k = !c.isEmpty:=e;rcases a with⟨f,u,a⟩ | ⟨f,u,a⟩ | ⟨c,u,a⟩
  .subst a;obtain⟨A,r,B,D⟩:=I.list u;have d:=r.length;exact wpAny_truthy_list B.isList (by simp only[aR];omega) ⟨H,I.tok _,by rw[Lf r];exact q⟩
  .subst a;obtain⟨A,r,B,D⟩:=I.tuple u;have d:=r.length;exact truthy_tuple B (by simp only[aR];omega) ⟨H,I.tok _,by rw[Lf r];exact q⟩
  .subst a;obtain⟨D,F,z,r,m⟩:c.length<=sizeLine/\(p == sysModules)=false/\∃ z,KV c z/\s.heap.DictOf (oM X.prog X.w) p z:=I.hok p _ u;have d:c.length=z.length:=fN r;exact wpAny_truthy_dict F m (by omega) ⟨H,I.tok _,by rw[Z4 r];exact q⟩
 | _=>exact (show False from e).elim
theorem Og (l:PE X a p) (o:∀ whole,isTrue a X.env whole=(do let v <- whole;standAt a.pos;holding [v] (truthy v))) :
  PT X a (λg H Q=>p g H λx j=>∃ k,Jz X.K x j k/\Q k j):=by
 intro b s g H Q I h;exact isTrue_plain (lA (l b s g H _ I h) λv i ⟨x,c,d,f,e⟩=>JG b i g c x v Q d f e) (o _)
theorem vB:mL X (binaryOp .Add) (λx y H Q=>∃ i j,x = .str i/\y = .str j/\i.length+j.length<=sizeLine/\Q (.str (i++j)) H):=by
 intro a s k H x y v u Q I c d h;obtain⟨i,j,rfl,rfl,b,q⟩:=h;obtain⟨t,rfl⟩:=c;obtain⟨e,rfl⟩:=d;exact add_str (λe f=>⟨.str (i++j),H,I.tok _,⟨_,rfl⟩,q⟩) b
theorem oS (r:lL [x] g):∃ u,g=[u]/\lW x u:=by
 cases r with
 | cons a b=>cases b;exact⟨_,rfl,a⟩
theorem Ed (r:lL [x,y] j):∃ u g,j=[u,g]/\lW x u/\lW y g:=by
 cases r with
 | cons a b =>
  cases b with
  | cons c d=>cases d;exact⟨_,_,rfl,a,c⟩
theorem Xu (l:X.calm=true):nF X (.builtin "max") (λg H Q=>∃ i j,g=[.int i,.int j]/\Q (.int (if j>i then j else i)) H):=by
 intro b s n H g f Q I r h;obtain⟨i,j,rfl,q⟩:=h;obtain⟨u,m,rfl,⟨t,rfl⟩,⟨d,rfl⟩⟩:=Ed r;refine max_two_ints (I.ok.hd l) λc e k=>⟨_,H,I.kept k,?_,q⟩
 by_cases a:j>i
 .rw[aO a,aO a];exact⟨_,rfl⟩
 .rw[aJ a,aJ a];exact⟨_,rfl⟩
theorem Zb (l:X.calm=true):nF X (.builtin "min") (λg H Q=>∃ i j,g=[.int i,.int j]/\Q (.int (if j<i then j else i)) H):=by
 intro b s n H g f Q I r h;obtain⟨i,j,rfl,q⟩:=h;obtain⟨u,m,rfl,⟨t,rfl⟩,⟨d,rfl⟩⟩:=Ed r;refine min_two_ints (I.ok.hd l) λc e k=>⟨_,H,I.kept k,?_,q⟩
 by_cases a:j<i
 .rw[aO a,aO a];exact⟨_,rfl⟩
 .rw[aJ a,aJ a];exact⟨_,rfl⟩
theorem GY:nF X (.type "int") (λg H Q=>(∃ i,g=[.int i]/\Q (.int i) H)\/∃ k,g=[.b k]/\Q (.int (if k then 1 else 0)) H):=by
 intro a s e H g d Q I r h;rcases h with⟨i,rfl,q⟩ | ⟨k,rfl,q⟩
 .obtain⟨u,rfl,t,rfl⟩:=oS r;exact call_int_int ⟨.int i,H,I,⟨_,rfl⟩,q⟩
 .obtain⟨u,rfl,c⟩:=oS r;cases c;exact call_int_bool ⟨.int (if k then 1 else 0),H,I.tok _,⟨_,rfl⟩,q⟩
end
theorem sW.some_of (r:sW (some v) o):∃ u,o=some u/\lW v u:=by
 cases o with
 | none=>exact (show False from r).elim
 | some u=>exact⟨u,rfl,r⟩
structure Room (k:Nat) (A:Around):Prop where
 hd:A.handled=none
 dp:A.depth+3*k+5<recursionLimit
 un:A.units+16*k+200<cLine
theorem Room.mono (r:Room k A) (h:j<=k):Room j A:=⟨r.hd,by have:=r.dp;omega,by have:=r.un;omega⟩
theorem Room.deeper (r:Room (k+1) A) (g:Env):Room k (A.deeper g) :=
 ⟨r.hd,by have:=r.dp;show A.depth+1+3*k+5<_;omega,by have:=r.un;show A.units+3+16*k+200<_;omega⟩
theorem Room.depth (r:Room k A):A.depth<recursionLimit:=by have:=r.dp;omega
theorem Room.units (r:Room k A):A.units+64<cLine:=by have:=r.un;omega
def Ic:TA:=λ_ H Q=>Q [] H
def Gq (g:TE) (j:TA):TA:=λa H Q=>g a H λx b=>j a b λd c=>Q (x::d) c
section
variable {X:Cx}
theorem nJ:PA X [] Ic:=λ_ _ _ _ H Q I h=>jL ⟨[],H,I,.nil,h⟩
theorem vP (j:PE X e p) (l:PA X g t) (o:starEach (e::g) X.env=(false,eval e X.env)::starEach g X.env:=by rfl):PA X (e::g) (Gq p t):=by
 intro pos a s c H Q I h;rw[o];show wpAny _ _ (spliced ((false,eval e X.env)::backTo pos (starEach g X.env))) _ _ s;refine iA (lA (j a s c H _ I h) λu w b=>?_);obtain⟨x,d,i,q,m⟩:=b;exact lA (l pos a w c d _ i m) λA z ⟨y,f,k,v,n⟩=>⟨x::y,f,k,.cons q v,n⟩
def HP (t:TA):TE:=λc H Q=>t c H λb a=>b.length<=sizeLine/\∀ p,a p=none->Q (.ref p) (upd a p (.t b))
def Rs (t:TA):TE:=λc H Q=>t c H λb a=>b.length<=sizeLine/\∀ p,a p=none->Q (.ref p) (upd a p (.l b))
theorem Xx {j}(h:PA X g t):PE X (.Tuple g j pos) (HP t):=by
 intro a s v H Q I k;refine wpAny_Tuple_spliced (lA (h pos a s v H _ I k) λm c ⟨n,d,f,r,z,q⟩=>⟨by rw[<- r.length];exact z,?_⟩);have i:d c.heap.objs.size=none:=f.hok.fresh (aP _);refine⟨.ref c.heap.objs.size,upd d c.heap.objs.size (.t n),f.laid (t':=c.toks) (λb u e=>aG _ e) (aP _) ?_,rfl,q _ i⟩;exact⟨z,m,r,⟨_,aX _ rfl,rfl,_,rfl⟩,_,aX _ rfl,rfl⟩
theorem sS (h:PA X g t):PE X (.List g pos) (Rs t):=by
 intro a s v H Q I k;refine wpAny_List_spliced (lA (h pos a s v H _ I k) λm c ⟨n,d,f,r,z,q⟩=>⟨by rw[<- r.length];exact z,?_⟩);have i:d c.heap.objs.size=none:=f.hok.fresh (aP _);refine⟨.ref c.heap.objs.size,upd d c.heap.objs.size (.l n),f.laid (t':=c.toks) (λb u e=>aG _ e) (aP _) ?_,rfl,q _ i⟩;exact⟨z,m,0,r,aX _ rfl⟩
end
abbrev Sp:=Aa V->Hp->VK->XK->Prop
abbrev Ak:=Aa Env->Hp->Ae->XK->Ac->Ae->Prop
structure Env0 (P:Program) (w:World) (K:lK) (mg:Str->Option Value) (base:Heap) (A:Around) (outer:List Env) (s:Shared) (H:Hp):Prop where
 frames:A.frames=some outer
 mod:Mod K mg base
 bs:∀ b o,base.get? b=some o->s.heap.get? b=some o/\H b=none
 bsz:base.objs.size<=s.heap.objs.size
 funs:s.heap.FunFrames base outer
 frf:∀ b∈sX outer,H b=none
 hok:nP P w H s.heap
 bare:AllBare s.gens
def CE (g:Aa Env) (P:Ah) (w:World) (H:Hp) (s:Ae) (Q:VK) (u:Ac) (j:Ae):Prop :=
 ∃ v a,j.os=s.os/\AllBare j.gens/\Un (sX g) [] H a s.heap j.heap/\nP P w a j.heap/\lW v u/\Q v a
def CR (l:Ak) (g:Aa Env) (P:Ah) (w:World) (H:Hp) (s:Ae) (Q:VK) (E:XK) (r:Result) (j:Ae):Prop :=
 match r with
 | .ok (.ret u)=>CE g P w H s Q u j
 | .ok _=>False
 | .error e=>l g H s E e j
structure FnOk (P:Program) (w:World) (K:lK) (mg:Str->Option Value) (base:Heap) (CX:Ak) (k:Nat) (f:Addr) (fd:FuncData) (ps:List Str) (sp:Sp):Prop where
 len:∀ vs H Q E,sp vs H Q E->vs.length=ps.length
 run:∀ (A:Around) (outer:List Env) (s:Shared) (H:Hp) (args:Args) (us:List Value) (vs:List V) (Q:VK) (E:XK),Room k A->Env0 P w K mg base A outer s H->BindsTo s fd args (ps.zip us)->lL vs us->sp vs H Q E ->
  codeAny (model P w) A (.call (.ref f) args) (CR CX outer P w H s Q E) s
theorem FnOk.imp {P:Ah}{K:lK}(F:FnOk P w K o base l k f fd p r)
  (h:∀ g H Q E,j g H Q E->r g H Q E):FnOk P w K o base l k f fd p j :=
 ⟨λg H Q E q=>F.len g H Q E (h _ _ _ _ q),λA a s H args m g Q E d c b i e=>F.run A a s H args m g Q E d c b i (h _ _ _ _ e)⟩
section
variable {X:Cx}
theorem Inv.env0 (I:Inv X g j H s):Env0 X.prog X.w X.K X.mg X.base X.A X.stack s H :=
 ⟨I.ok.frames,I.ok.mod,I.bs,bP I.ok.bsz I.sz,I.stack,I.stkFree,I.hok,I.bare⟩
theorem Inv.after (I:Inv X j o H s) (h:CE X.stack X.prog X.w H s Q u l):EP X j o Q u l:=by
 obtain⟨v,e,os,bare,un,a,r,q⟩:=h;obtain⟨f,g,d,t,c⟩:=l;obtain rfl:c=s.os:=os;exact⟨v,e,I.call (h':=f) (g':=g) (d':=d) (t':=t) (ch:=[]) un a bare (λb z=>absurd z (by simp)),r,q⟩
end
def Ou (j:Sp) (g:Aa V) (E:XK) (t:TA):TE:=λc H Q=>t c H λb a=>j (b++g) a Q E
def wJ (K:lK) (fd:FuncData) (j:Aa Af) (g:Aa Ac):Prop :=
 ∀ (s:Ae) (a:Aa Ac),K.In s.heap->(a++g).length=j.length->BindsTo s fd ⟨a,[]⟩ (j.zip (a++g))
theorem wJ.all {K:lK}(h:∀ g:Aa Ac,g.length=j.length->bindArgs fd ⟨g,[]⟩=pure (j.zip g)):wJ K fd j []:=λs g _ a=>by
 rw[gL] at a |-;exact .of_eq (h g a)
def E3 (g:Ak) (X:Cx) (E:XK):Prop:=∀ (a:Aa (Ad×Obj)) (c:St) (H:Hp) (s:Ae) (e:Ac) (b:Ae),Inv X a c H s->g X.stack H s E e b->X.xe e b
section
variable {X:Cx}
theorem R4 (F:FnOk X.prog X.w X.K X.mg X.base J k f fd p sp) (U:Room k X.A) (T:wJ X.K fd p l) (hd:lL j l) (hx:E3 J X E)
  (I:Inv X g C H s) (r:lL o us) (h:sp (o++j) H Q E):wpAny (model X.prog X.w) X.A (call (.ref f) us) (EP X g C Q) X.xe s:=by
 have b:lL (o++j) (us++l):=r.append hd;have d:(us++l).length=p.length:=by rw[<- b.length];exact F.len _ _ _ _ h
 refine wpAny_call (codeAny_mono (F.run X.A X.stack s H ⟨us,[]⟩ (us++l) (o++j) Q E U I.env0 (T s us I.kIn d) b h) λr i a=>?_);cases r with
 | error e=>exact hx g C H s e i I a
 | ok c =>
  cases c with
  | ret u=>exact I.after a
  | next=>exact False.elim a
  | brk=>exact False.elim a
  | cont=>exact False.elim a
structure StB (X:Cx) (e:Expr) (es:List Expr) (pos:Pos):Prop where
 a:starEach (e::es) X.env=(false,eval e X.env)::starEach es X.env:=by rfl
 b:(backTo pos (starEach es X.env)).any (·.1)=false:=by rfl
theorem uG (F:FnOk X.prog X.w X.K X.mg X.base C k f fd ps sp) (hr:Room k X.A) (hg:Gl X x) (hm:X.mg x=some (.ref f)) (hk:PySem.W.keepIn X.K (.ref f)=true) (U:wJ X.K fd ps J) (hd:lL j J) (hx:E3 C X E)
  (T:PA X (e::o) t) (l:(x == ("__debug__" : Af))=false:=by decide) (g:StB X e o pos:=by exact {}) :
  PE X (.Call (.Name x p) (e::o) [] pos) (Ou sp j E t):=by
 intro c s i H Q I h;refine eQ (S9 I hg hm ?_ l);refine PySem.W.callWith_K (h₀:=X.base) I.ok.mod.kin hk (lA (T pos c s i H _ I h) λu n ⟨v,m,d,r,q⟩=>⟨d.kIn,?_⟩) g.a g.b;exact R4 F hr U hd hx d r q
theorem T2 (F:FnOk X.prog X.w X.K X.mg X.base l k f fd ps sp) (U:Room k X.A) (C:Gl X x) (T:X.mg x=some (.ref f)) (J:PySem.W.keepIn X.K (.ref f)=true) (r:wJ X.K fd ps o) (hd:lL g o) (hx:E3 l X E)
  (j:(x == ("__debug__" : Af))=false:=by decide):PE X (.Call (.Name x p) [] [] pos) (Ou sp g E Ic):=by
 intro a s b H Q I h;refine eQ (S9 I C T ?_ j);exact PySem.W.callWith_K0 I.kIn J (R4 (us:=[]) F U r hd hx I .nil h)
end
structure FnScope (N P:List Str) (sc:Scope):Prop where
 kind:sc.kind = .function
 co:sc.isCoroutine=false
 gen:sc.isGenerator=false
 nd:N.Nodup
 pre:N.take P.length=P
 par:∀ x∈P,sc.names.lookup x=some .local\/sc.names.lookup x=some .cell
 nofree:∀ y∈sc.names,y.2 ≠ .free
theorem Qr {kindOf:Af->Ab NameKind}:∀ {binds:Aa (Af×Ac)}{m:Af->Ab Ac},(∀ v,(x,v)∉binds)->bindL kindOf binds m x=m x
 | [],_,_=>rfl
 | (n,v)::r,m,h=>by
  unfold bindL;rw[Qr λw hw=>h w (aL _ hw)];split
  .have:x≠n:=by rintro rfl;exact h v aF
   simp[this]
  .rfl
theorem Q9 {kindOf:Af->Ab NameKind}:∀ {binds:Aa (Af×Ac)}{m:Af->Ab Ac},(∀ v,(x,v)∉binds)->bindC kindOf binds m x=m x
 | [],_,_=>rfl
 | (n,v)::r,m,h=>by
  unfold bindC;rw[Q9 λw hw=>h w (aL _ hw)];split
  .rfl
  .have:x≠n:=by rintro rfl;exact h v aF
   simp[this]
theorem P9 {kindOf:Af->Ab NameKind}:∀ {P:Aa Af}{g:Aa Ac}{i:Nat}{m:Af->Ab Ac},P.Nodup->P[i]?=some x->g[i]?=some v->kindOf x=some .local ->
  bindL kindOf (P.zip g) m x=some v
 | [],_,_,_,_,h,_,_=>by simp at h
 | _::_,[],_,_,_,_,h,_=>by simp at h
 | p::P,w::g,0,m,d,a,b,c=>by
  simp at a b;subst a;subst b;show bindL kindOf ((p,w)::P.zip g) m p=_;unfold bindL;rw[Qr λv e=>(bX.mp d).1 (fE e).1,aO c];simp
 | p::P,w::g,i+1,m,d,a,b,c=>by
  show bindL kindOf ((p,w)::P.zip g) m x=_;unfold bindL;exact P9 (i:=i) (bX.mp d).2 (by simpa using a) (by simpa using b) c
theorem No {kindOf:Af->Ab NameKind}:∀ {P:Aa Af}{g:Aa Ac}{i:Nat}{m:Af->Ab Ac},P.Nodup->P[i]?=some x->g[i]?=some v->kindOf x≠some .local ->
  bindC kindOf (P.zip g) m x=some v
 | [],_,_,_,_,h,_,_=>by simp at h
 | _::_,[],_,_,_,_,h,_=>by simp at h
 | p::P,w::g,0,m,d,a,b,c=>by
  simp at a b;subst a;subst b;show bindC kindOf ((p,w)::P.zip g) m p=_;unfold bindC;rw[Q9 λv e=>(bX.mp d).1 (fE e).1,aJ c];simp
 | p::P,w::g,i+1,m,d,a,b,c=>by
  show bindC kindOf ((p,w)::P.zip g) m x=_;unfold bindC;exact No (i:=i) (bX.mp d).2 (by simpa using a) (by simpa using b) c
def start (N:Aa Af) (g:Aa V):St:=g.map some++List.replicate (N.length-g.length) none
noncomputable def xH (o:Ak) (P:Ah) (w:World) (K:lK) (p:Af->Ab Ac) (base:Ag) (N:Aa Af) (l:Af) (g:Scope) (f:Ad) (cd:Ac) (A:Around) (j:Aa Env) (s:Ae) (H:Hp) (E:XK):Cx where
 prog:=P
 w:=w
 K:=K
 mg:=p
 base:=base
 A:=A.deeper (envOfC l g s.heap.objs.size f cd)
 N:=N
 s₀:=s
 H₀:=H
 env:=envOfC l g s.heap.objs.size f cd
 outer:=j
 stack:=envOfC l g s.heap.objs.size f cd::j
 ex:=[]
 calm:=true
 fn:=λ_=>true
 pn:=[]
 xe:=λe c=>wpAny (model P w) (A.deeper (envOfC l g s.heap.objs.size f cd)) (leaving (envOfC l g s.heap.objs.size f cd) e) (λ_ a=>o j H s E e a) (λb a=>o j H s E b a) c
theorem Qy {g:Scope}{n:Nat}{x:Af}(h:g.names.lookup x=some .cell):∃ c,(cellsFrom n g.names []).lookup x=some c:=by
 have q:=PySem.W.cellsFrom_some g.names n [] (.inl h);exact dZ.mp q
theorem Uv {P:Ah}{K:lK}{cd:Ac}
  (S:FnScope N C g) (hd:A.handled=none) (o:Env0 P w K J base A j s H) (hl:I.length=C.length) (r:lL I T)
  (x:InCallC s s.heap.objs.size (bindL (envOfC l g s.heap.objs.size f cd).kindOf (C.zip T) λ_=>none) (cellsFrom (s.heap.objs.size+1) g.names []) (bindC (envOfC l g s.heap.objs.size f cd).kindOf (C.zip T) λ_=>none) s1) :
  Inv (xH U P w K J base N l g f cd A j s H E) [] (start N I) H s1:=by
 have Q:C.length<=N.length:=by have:=dD List.length S.pre;rw[bN] at this;omega
 obtain⟨F,W,rfl,L⟩:=x.done;have t:∀ b:Ad,b∉(xH U P w K J base N l g f cd A j s H E).ex:=λb z=>absurd (show b∈([]:Aa Ad) from z) (by simp)
 refine⟨⟨o.mod,S.kind,rfl,rfl,aP _,λy z c F d=>?_,λy m=>?_,λy c _ h=>?_,λ_=>hd,Around.frames_deeper o.frames,.inr ⟨rfl,rfl⟩,λb z=>absurd z (t b),o.bs,o.bsz,λb _ _=>t b,λb z=>absurd z (t b),o.funs,o.frf⟩,
  rfl,o.bare,Un.kept L,⟨_,x.toInCall.ns,λi y v F d V=>?_⟩,λy c h=>⟨_,x.cell y c h⟩,o.hok.fresh (aP _),λy c h=>?_,λp B=>absurd (show p∈([]:Aa (Ad×Obj)) from B) (by simp),o.hok.kept L,?_⟩
 .exact name_of_addr x.apart (eA F) (eA d)
 .have m:g.names.lookup y=some .cell\/g.names.lookup y=some .free:=m;rcases m with m | m
  .exact Qy m
  .exact absurd rfl (S.nofree _ (eA m))
 .exact eD (x.above y c (eA h))
 .have G:i<I.length:=by
   unfold start at d;by_cases G:i<I.length
   .exact G
   .rw[cS (by simpa using G)] at d;rw[List.getElem?_replicate] at d;split at d<;>cases d
  have O:I[i]?=some v:=by
   unfold start at d;rw[eI (by simpa using G),bD] at d;cases e:I[i]? with
   | none=>rw[e] at d;cases d
   | some a=>rw[e] at d;cases d;rfl
  obtain⟨u,M,R⟩:=r.get O;have B:C[i]?=some y:=by
   rw[<- S.pre,List.getElem?_take_of_lt (by omega)];exact F
  have D:C.Nodup:=by rw[<- S.pre];exact S.nd.sublist (List.take_sublist _ _)
  refine⟨u,R,?_⟩;rcases S.par y (aQ B) with k | k
  .exact .inl ⟨k,P9 D B M k⟩
  .obtain⟨c,e⟩:=Qy (n:=s.heap.objs.size+1) k;refine .inr ⟨.inl k,c,e,?_⟩;have q:=x.cell y c e;rw[No D B M (by show g.names.lookup y≠_;rw[k];decide)] at q;exact q
 .exact o.hok.fresh (eD (x.above y c (eA h)))
 .unfold start;show _=N.length;rw[aW,aA,cO];omega
theorem EG {P:Ah}{K:lK}{kV:Ac}
(lk:K.lookup f=some ⟨oc,od,.func (PySem.W.fnOf name l C body g dV kV ab pm an p ct),ae⟩) (ac:PySem.W.codeIn K p l=true) (S:FnScope N ps g)
  (len:∀ T H Q E,sp T H Q E->T.length=ps.length)
  (aa:∀ (A:Around) (j:Aa Env) (s:Ae) (H:Hp) (T:Aa V) (Q:VK) (E:XK),Room k (A.deeper (envOfC l g s.heap.objs.size f p))->sp T H Q E ->∃ t,oN (xH CX P w K mg base N l g f p A j s H E) body t/\t { nx:=λ_ U=>Q .e U,rt:=Q } (start N T) H) :
  FnOk P w K mg base CX (k+1) f (PySem.W.fnOf name l C body g dV kV ab pm an p ct) ps sp:=by
 refine⟨len,λA j s H args us T Q E m h O r i=>?_⟩;have X:=len _ _ _ _ i;have F:K.In s.heap:=h.mod.kin.keeps λb o e=>(h.bs b o e).1
 have z:s.heap.NoLimit:=h.mod.nolimit.keeps λb o e=>(h.bs b o e).1
 have c:∀ y∈ps.zip us,g.names.lookup y.1=some .local\/(g.names.lookup y.1=some .cell/\((cellsFrom (s.heap.objs.size+1) g.names []).lookup y.1).isSome=true):=λ⟨n,v⟩ hy=>by
  rcases S.par n (fE hy).1 with q | q
  .exact .inl q
  .exact .inr ⟨q,PySem.W.cellsFrom_some _ _ _ (.inl q)⟩
 refine codeAny_call_function m.depth (F _ _ lk) rfl S.co S.gen rfl (PySem.W.codeRec_of F ac) (O _ _ _ _ ?_);refine wpAny_newFunctionEnv_cells S.kind c λL R G x=>?_
 subst R;refine⟨z.keeps x.toInCall.keep,codeAny_func ?_⟩;obtain⟨t,Z,Y⟩:=aa A j s H T Q E (m.deeper _) i;have I:Inv (xH CX P w K mg base N l g f p A j s H E) [] (start N T) H G:=Uv S m.hd h X r x;refine cX (Z [] G (start N T) H _ I Y) (λM D d=>?_) λe D d=>d
 have fin:∀ {a:St} {U:Hp} {v:V} {u:Ac},Inv (xH CX P w K mg base N l g f p A j s H E) [] a U D->lW v u->Q v U->CE j P w H s Q u D :=
  λ{a U v u} J B q=>⟨v,U,J.os,J.bare,J.base,J.hok,B,q⟩
 cases M with
 | ret u =>
  obtain⟨v,a,U,J,B,q⟩:=d;exact fin J B q
 | next =>
  obtain⟨a,U,J,q⟩:=d;exact fin (v:=V.e) (u:=Value.none) J rfl q
 | brk =>
  obtain⟨_,_,_,q⟩:=d;exact False.elim q
 | cont =>
  obtain⟨_,_,_,q⟩:=d;exact False.elim q
section
variable {X:Cx}{id:String}
def Sh (r:Aa V->Hp->VK->Prop) (t:TA):TE:=λc H Q=>t c H λb a=>r b a Q
theorem wG (C:nF X (.builtin id) r) (J:Gl X x) (T:X.mg x=none) (hv:bootBuiltins x=some (.builtin id)) (o:PA X (e::l) t) (U:x ≠ "__name__" := by decide) (j:(x == ("__debug__" : Af))=false:=by decide)
  (g:StB X e l pos:=by exact {}):PE X (.Call (.Name x p) (e::l) [] pos) (Sh r t):=by
 intro c s d H Q I h;refine eQ (uT I J T hv ?_ U j);exact PyProof.Rows.callWith_builtin1 (lA (o pos c s d H _ I h) λq n ⟨u,f,i,m,k⟩=>C c n d f u q Q i m k) g.a g.b
theorem Sy (C:nF X (.type T) r) (J:Gl X x) (U:X.mg x=none) (hv:bootBuiltins x=some (.type T)) (o:PA X (e::l) t) (hn:x ≠ "__name__" := by decide) (j:(x == ("__debug__" : Af))=false:=by decide)
  (g:StB X e l pos:=by exact {}):PE X (.Call (.Name x p) (e::l) [] pos) (Sh r t):=by
 intro c s d H Q I h;refine eQ (uT I J U hv ?_ hn j);exact cF (lA (o pos c s d H _ I h) λq n ⟨u,f,i,m,k⟩=>C c n d f u q Q i m k) g.a g.b
end
end L2
namespace HT
open PySem PyProof.Rows
section
theorem cat_tup (J:IsTup s.heap t j.toArray) (I:IsTup s.heap b g.toArray) (o:j≠[])
  (r:g=[]->Q (.ref t) s) (C:g≠[]->Q (.ref s.heap.objs.size) { s with heap:=s.heap.push { cls:=.type "tuple",data:=.seq (j++g).toArray } })
  (l:j.length+g.length<=sizeLine):wpAny (model p w) A (binaryOp .Add (.ref t) (.ref b)) Q E s:=by
 obtain⟨⟨cls,m,data,sl⟩,i,q,n,hd⟩:=id J;obtain⟨⟨k,c,data2,h⟩,a,d,u,f⟩:=id I;simp only at q hd d f;subst q hd d f;have e:j.toArray++g.toArray=(j++g).toArray:=by simp
 by_cases hw:g=[]
 .exact concat_meets ⟨_,i,rfl⟩ ⟨_,a,rfl⟩ noFill_tuple_add seq_tuple_add jM jG (iT _ _)
   (tuple_addW1 t b j.toArray g.toArray n u m c sl h (by simpa using o) (by simp[hw])) ⟨i,a,r hw⟩
 .refine concat_meets ⟨_,i,rfl⟩ ⟨_,a,rfl⟩ noFill_tuple_add seq_tuple_add jM jG (iT _ _)
   (tuple_addW2 t b j.toArray g.toArray n u m c sl h (by simpa using o) (by simpa using hw) (by rw[aR,aR];exact l)) ⟨i,a,?_⟩
  rw[e];exact C hw
noncomputable def sIx (n d:Nat):Ab Int->Nat
 | none=>d
 | some v=>if v<0 then (v+(n:Int)).toNat else min v.toNat n
theorem sIx_none (n d:Nat):sIx n d none=d:=rfl
theorem sIx_nat (n d k:Nat):sIx n d (some (k:Int))=min k n:=by
 show (if (k:Int)<0 then ((k:Int)+(n:Int)).toNat else min (k:Int).toNat n)=min k n;rw[aJ (by omega),cR]
theorem sIx_le (n d:Nat) (hd:d<=n) (o:Ab Int):sIx n d o<=n:=by
 cases o with
 | none=>exact hd
 | some v =>
  show (if v<0 then (v+(n:Int)).toNat else min v.toNat n)<=n;by_cases a:v<0
  .rw[aO a];omega
  .rw[aJ a];exact Nat.min_le_right _ _
theorem M9 (v:Int) (n d:Nat):(if v<0 then max (v+(n:Int)) 0 else min v (n:Int))=((sIx n d (some v):Nat):Int):=by
 show (if v<0 then max (v+(n:Int)) 0 else min v (n:Int))=(((if v<0 then (v+(n:Int)).toNat else min v.toNat n):Nat):Int);by_cases a:v<0
 .simp only[aO a];omega
 .simp only[aJ a];omega
theorem JO (lo g:Ab Int) (n:Nat):Builtin.Slice.sliceAdjust lo g 1 (n:Int)=(((sIx n 0 lo:Nat):Int),((sIx n n g:Nat):Int)):=by
 have a:¬ ((1:Int)<0):=by omega
 unfold Builtin.Slice.sliceAdjust;simp only[a,fX];refine Prod.ext ?_ ?_
 .cases lo with
  | none=>rfl
  | some v=>exact M9 v n 0
 .cases g with
  | none=>rfl
  | some v=>exact M9 v n n
theorem BX (i j:Nat):Builtin.Slice.slicePlaces (i:Int) (j:Int) 1=j-i:=by
 unfold Builtin.Slice.slicePlaces;have a:(1:Int)>0:=by omega
 simp only[a,gA,Int.ediv_one];split<;>omega
theorem Ma (p:IsPart v o) (h:Q o s):wpAny (model g w) A (Builtin.Slice.slicePartIndex v) Q E s:=by
 cases p with
 | none=>exact slicePart_none h
 | int i t=>exact slicePart_int h
theorem V3 {sl:Ad}{j l:Ac}{lo g:Ab Int}{n:Nat}{Q:Int×Int×Nat->Ae->Prop}(p:s.heap.IsSliceOf sl j l .none) (r:IsPart j lo) (C:IsPart l g)
  (h:Q (((sIx n 0 lo:Nat):Int),1,sIx n n g-sIx n 0 lo) s):wpAny (model o w) A (Builtin.Slice.sliceApplied (.ref sl) (pure (n:Int))) Q E s:=by
 obtain⟨os,b,c,a⟩:=id p;unfold Builtin.Slice.sliceApplied Builtin.Slice.sliceFields;refine aB (aB (dQ b a (x:=j) rfl (aB (dQ b a (x:=l) rfl (aB (dQ b a (x:=.none) rfl (aE ?_)))))));refine aB (slicePart_none ?_);show wpAny _ _ (if ((1:Int) == 0)=true then _ else _) _ _ s;rw[aJ (by decide)];refine aB (Ma r (aB (Ma C (aB (aE ?_)))));show wpAny _ _ (match Builtin.Slice.sliceAdjust lo g 1 (n:Int) with | (lo,g)=>pure (lo,(1:Int),Builtin.Slice.slicePlaces lo g 1)) _ _ s;rw[JO lo g n];show wpAny _ _ (pure (((sIx n 0 lo:Nat):Int),(1:Int),Builtin.Slice.slicePlaces ((sIx n 0 lo:Nat):Int) ((sIx n n g:Nat):Int) 1)) _ _ s;rw[BX];exact aE h
theorem V4 (g:Array Ac) (i k:Nat):((List.range k).filterMap λ(m:Nat)=>g[((i:Int)+(m:Int)*1).toNat]?).toArray=((g.toList.drop i).take k).toArray:=by
 have e:(λ(m:Nat)=>g[((i:Int)+(m:Int)*1).toNat]?)=λm=>g[i+m]?:=by
  funext m
  have:((i:Int)+(m:Int)*1).toNat=i+m:=by omega
  rw[this]
 rw[e];have:=pick_run g i k;rw[List.filterMap_map] at this;have a:((λx=>g[x]?)∘λx=>i+x)=λm=>g[i+m]?:=rfl
 rw[a] at this;rw[this]
theorem getItem_tuple_cut {sl:Ad}{lo:Ab Int}(j:IsTup s.heap t items) (l:s.heap.IsSliceOf sl I J .none) (r:IsPart I lo) (C:IsPart J g)
  (hw:¬ (sIx items.size 0 lo=0/\sIx items.size items.size g=items.size))
  (h:Q (.ref s.heap.objs.size) { s with heap:=s.heap.push { cls:=.type "tuple",data:=.seq ((items.toList.drop (sIx items.size 0 lo)).take (sIx items.size items.size g-sIx items.size 0 lo)).toArray } })
  (p:items.size<=sizeLine):wpAny (model o w) A (getItem (.ref t) (.ref sl)) Q E s:=by
 have a:sizeOk (.seq ((items.toList.drop (sIx items.size 0 lo)).take (sIx items.size items.size g-sIx items.size 0 lo)).toArray):=by
  show ((items.toList.drop (sIx items.size 0 lo)).take (sIx items.size items.size g-sIx items.size 0 lo)).toArray.size<=sizeLine;rw[aR,bN,eT,dJ];omega
 have i:sIx items.size items.size g<=items.size:=sIx_le _ _ (aP _) g;obtain⟨os,e,c,f⟩:=id l;have b:s.TypeIs (.ref sl) "slice" := ⟨os,e,c⟩;unfold getItem
 try with_reducible refine bT ?_
 first | refine aB (aE ?_) | skip
 refine aB (wpAny_sequenceKey j.typeIs (by decide) ?_);refine aB (cL (name:=Str.ofString "__getitem__") j.typeIs gY (cY gY j.typeIs entry_tuple_getitem ?_ (args_tuple_getitem _ _)));show wpAny _ _ (Builtin.Tuple.tupleItemsOf (.ref t) >>= _) _ _ s;refine aB (tupleItemsOf_ j ?_);refine aB (fA b ?_);rw[aO (by decide)];refine aB (V3 l r C ?_);have d:¬ ((((sIx items.size 0 lo:Nat):Int) == 0&&(1:Int) == 1&&(sIx items.size items.size g-sIx items.size 0 lo) == items.size)=true):=by
  intro q;rw[cB,cB] at q;have k:((sIx items.size 0 lo:Nat):Int)=0:=eq_of_beq q.1.1;have n:sIx items.size items.size g-sIx items.size 0 lo=items.size:=eq_of_beq q.2;exact hw ⟨by omega,by omega⟩
 show wpAny _ _ (if (((sIx items.size 0 lo:Nat):Int) == 0&&(1:Int) == 1&&(sIx items.size items.size g-sIx items.size 0 lo) == items.size)=true then _ else _) _ _ s;rw[aJ d,V4]
 first
  | exact aB (m:=Builtin.Tuple.tupleExact _) (eK (aE ⟨_,rfl,aE h⟩) a)
  | exact aB (m:=Builtin.Tuple.tupleExact _) (eK (aB (aE (aE ⟨_,rfl,aE h⟩))) a)
  | exact aB (aB (m:=Builtin.Tuple.tupleExact _) (eK (aE (aE ⟨_,rfl,aE h⟩)) a))
  | exact aB (aB (m:=Builtin.Tuple.tupleExact _) (eK (aE ⟨_,rfl,aE h⟩) a))
end
end HT
namespace L2
open PySem PySem.Spec PyProof.Rows
abbrev TO:=St->Hp->(Ab Int->Hp->Prop)->Prop
def PO (X:Cx) (e:Ab Expr) (t:TO):Prop :=
 ∀ (a:Aa (Ad×Obj)) (s:Ae) (b:St) (H:Hp) (Q:Ab Int->Hp->Prop),Inv X a b H s->t b H Q ->
  wpAny (model X.prog X.w) X.A (evalPart e X.env) (λu d=>∃ o c,Inv X a b c d/\IsPart u o/\Q o c) X.xe s
def L0:TO:=λ_ H Q=>Q none H
def Ln (t:TE):TO:=λb H Q=>t b H λx a=>∃ i,x = .int i/\Q (some i) a
section
variable {X:Cx}{lo:Ab Expr}
theorem Ch:PO X none L0:=by
 intro a s b H Q I h;rw[evalPart_none];exact aE ⟨none,H,I,.none,h⟩
theorem B5 (h:PE X e g):PO X (some e) (Ln g):=by
 intro a s m H Q I hw;rw[evalPart_some];refine lA (h a s m H _ I hw) λu n b=>?_
 obtain⟨x,c,d,k,f⟩:=b;obtain⟨i,rfl,q⟩:=f;obtain⟨t,rfl⟩:=k;exact⟨some i,c,d,.int i t,q⟩
def tK (X:Cx) (r:V->Ab Int->Ab Int->Hp->VK->Prop):Prop :=
 ∀ (a:Aa (Ad×Obj)) (s:Ae) (e:St) (H:Hp) (x:V) (v c d:Ac) (lo b:Ab Int) (sl:Ad) (Q:VK),Inv X a e H s->lW x v->s.heap.IsSliceOf sl c d .none->IsPart c lo->IsPart d b->r x lo b H Q ->
  ∃ T id,typeLookup (.type T) "__getitem__" = pure (some (.builtin id))/\s.TypeIs v T/\wpAny (model X.prog X.w) X.A (getItem v (.ref sl)) (EP X a e Q) X.xe s
theorem tK.or (h:tK X r) (j:tK X l):tK X (λx lo g H Q=>r x lo g H Q\/l x lo g H Q):=by
 intro a s k H x v f i lo g sl Q I e b c d q;rcases q with q | q
 .exact h a s k H x v f i lo g sl Q I e b c d q
 .exact j a s k H x v f i lo g sl Q I e b c d q
def Zw (r:V->Ab Int->Ab Int->Hp->VK->Prop) (g:TE) (o j:TO):TE:=λa H Q=>g a H λx b=>o a b λl c=>j a c λu d=>r x l u d Q
theorem zV (p:tK X r) (j:PE X e U) (o:PO X lo tl) (C:PO X g th):PE X (.Subscript e (.Slice lo g none J) pos) (Zw r U tl th):=by
 intro a s f H Q I h;refine Subscript_ (lA (j a s f H _ I h) λv R d=>?_);obtain⟨x,n,y,P,M⟩:=d;refine wpAny_Slice (lA (o a R f n _ y M) λi S ⟨l,t,z,K,N⟩=>lA (C a S f t _ z N) λk c d=>?_);obtain⟨u,m,B,L,O⟩:=d;rw[evalPart_none];refine aE ?_;have D:Inv X a f m { c with heap:=c.heap.push { cls:=.type "slice",data:=.fields #[i,k,.none] } }:=B.kept (t':=c.toks) λb V q=>aG _ q
 obtain⟨T,id,E,G,F⟩:=p a { c with heap:=c.heap.push { cls:=.type "slice",data:=.fields #[i,k,.none] } } f m x v i k l u c.heap.objs.size Q D P (Heap.IsSliceOf.new ..) K L O;show wpAny (model X.prog X.w) X.A (subscriptTail e (.Slice lo g none J) v (.ref c.heap.objs.size)) (EP X a f Q) X.xe { c with heap:=c.heap.push { cls:=.type "slice",data:=.fields #[i,k,.none] } };exact tail_any (ops:=[.ref c.heap.objs.size,v]) G E F (by with_unfolding_all rfl)
def tY (g:Aa V) (lo j:Ab Int):Aa V:=(g.drop (HT.sIx g.length 0 lo)).take (HT.sIx g.length g.length j-HT.sIx g.length 0 lo)
theorem Ls (g:Aa V) (lo j:Ab Int):(tY g lo j).length<=g.length:=by
 unfold tY;rw[bN,eT];omega
def Pd (K:lK):V->Ab Int->Ab Int->Hp->VK->Prop:=λx lo c H Q=>∃ a b,x = .ref a/\mK K H a b /\
 ¬ (HT.sIx b.length 0 lo=0/\HT.sIx b.length b.length c=b.length)/\∀ p,H p=none->Q (.ref p) (upd H p (.t (tY b lo c)))
theorem Vk:tK X (Pd X.K):=by
 intro m s E H x v B D lo e sl Q I z n w y h;obtain⟨a,d,rfl,u,hw,q⟩:=h;cases z;obtain⟨f,r,i,k⟩:=I.tuple u;have c:f.toArray.size=d.length:=by rw[aR];exact r.length.symm
 refine⟨"tuple",_,gY.lookup,i.typeIs,?_⟩;refine HT.getItem_tuple_cut i n w y (by rw[c];exact hw) ?_ (by rw[c];exact k);rw[c];refine⟨.ref s.heap.objs.size,_,I.laid (t':=s.toks) (o:=.t (tY d lo e)) (λb A q=>aG _ q) (aP _) ?_,rfl,q _ (I.hok.fresh (aP _))⟩;exact⟨bP (Ls d lo e) k,_,(r.drop (HT.sIx d.length 0 lo)).take (HT.sIx d.length d.length e-HT.sIx d.length 0 lo),vH.new _ _⟩
def Su (K:lK):R2:=λx y H Q=>∃ a b d c,x = .ref a/\y = .ref b/\mK K H a d/\mK K H b c/\d≠[]/\d.length+c.length<=sizeLine /\
 (c=[]->Q (.ref a) H)/\(c≠[]->∀ p,H p=none->Q (.ref p) (upd H p (.t (d++c))))
theorem lL.nil_iff (r:lL j g):g=[]↔j=[]:=by
 cases r with
 | nil=>simp
 | cons _ _=>simp
theorem Wt:mL X (binaryOp .Add) (Su X.K):=by
 intro i s P H x y v u Q I G L h;obtain⟨a,b,M,N,rfl,rfl,k,m,n,e,E,F⟩:=h;cases G;cases L;obtain⟨A,d,B,_⟩:=I.tuple k;obtain⟨f,c,D,_⟩:=I.tuple m;refine HT.cat_tup B D (λz=>n (d.nil_iff.mp z)) (λz=>⟨.ref a,H,I,rfl,E (c.nil_iff.mp z)⟩) (λz=>?_) (by rw[<- d.length,<- c.length];exact e);refine⟨.ref s.heap.objs.size,_,I.laid (t':=s.toks) (o:=.t (M++N)) (λb O q=>aG _ q) (aP _) ?_,rfl,F (λw=>z (c.nil_iff.mpr w)) _ (I.hok.fresh (aP _))⟩;exact⟨by rw[aW];exact e,_,d.append c,vH.new _ _⟩
end
noncomputable def rQ (n:Nat) (i:Int):Ab Nat:=if 0<=i then (if i<n then some i.toNat else none) else if -(n:Int)<=i then some (i+n).toNat else none
def nM {l:Type}(g:Aa l) (i:Int):Ab l:=(rQ g.length i).bind λj=>g[j]?
theorem Qx (h:rQ n i=some j):seqIndex? i n=some j/\j<n/\-(n:Int)<=i/\i<n:=by
 unfold rQ at h;by_cases b:0<=i
 .rw[aO b] at h;by_cases a:i<n
  .rw[aO a] at h;have e:i.toNat=j:=bZ h;exact⟨by rw[seqIndex_of b a,e],by omega,by omega,a⟩
  .rw[aJ a] at h;cases h
 .rw[aJ b] at h;by_cases a:-(n:Int)<=i
  .rw[aO a] at h;have e:(i+n).toNat=j:=bZ h;exact⟨by rw[seqIndex_neg (by omega) a,e],by omega,a,by omega⟩
  .rw[aJ a] at h;cases h
theorem J2 (h:nM g i=some v):∃ j,seqIndex? i g.length=some j/\g[j]?=some v/\j<g.length/\-(g.length:Int)<=i/\i<g.length:=by
 unfold nM at h;cases e:rQ g.length i with
 | none=>rw[e] at h;cases h
 | some j =>
  rw[e] at h;obtain⟨a,b,c,d⟩:=Qx e;exact⟨j,a,h,b,c,d⟩
theorem sC {l:Type}{g:Aa l}{j:Nat}{v:l}(h:g[j]?=some v):nM g (j:Int)=some v:=by
 have a:j<g.length:=(aV.mp h).1;have e:rQ g.length (j:Int)=some j:=by
  unfold rQ;rw[aO (by omega),aO (by omega)];simp
 unfold nM;rw[e];exact h
def Gx (b:Expr):Prop:=∀ o i,subscripted b false o i=operate [o,i] (getItem o i)
def uC (X:Cx) (r:R2):Prop :=
 ∀ (value slice:Expr) (a:Aa (Ad×Obj)) (s:Ae) (b:St) (H:Hp) (x y:V) (v u:Ac) (Q:VK),Inv X a b H s->lW x v->lW y u->r x y H Q ->
  subscripted slice false v u=operate [v,u] (getItem v u)->wpAny (model X.prog X.w) X.A (subscriptTail value slice v u) (EP X a b Q) X.xe s
def uK (X:Cx) (id:String) (r:V->Aa V->Hp->VK->Prop):Prop :=
 ∀ (a:Aa (Ad×Obj)) (s:Ae) (d:St) (H:Hp) (x:V) (c:Aa V) (v:Ac) (b:Aa Ac) (Q:VK),Inv X a d H s->lW x v->lL c b->r x c H Q ->
  wpAny (model X.prog X.w) X.A (call (.builtin id) (v::b)) (EP X a d Q) X.xe s
section
variable {X:Cx}
theorem uC.or (h:uC X r) (g:uC X j):uC X (λx y H Q=>r x y H Q\/j x y H Q):=by
 intro value slice a s e H x y v u Q I c d q b;rcases q with q | q
 .exact h value slice a s e H x y v u Q I c d q b
 .exact g value slice a s e H x y v u Q I c d q b
theorem rK (l:uC X r) (g:PE X a p) (j:PE X b C) (o:Gx b):PE X (.Subscript a b pos) (F8 r p C):=by
 intro c s m H Q I h;exact Subscript_ (Ht g j I h λv u k x y d e f i q=>l a b c k m d x y v u Q e f i q (o _ _))
def Te (K:lK):R2:=λx y H Q=>∃ p a i v,x = .ref p/\y = .int i/\hI K H p a/\nM a i=some v/\Q v H
def Tk (K:lK):R2:=λx y H Q=>∃ p a i v,x = .ref p/\y = .int i/\mK K H p a/\nM a i=some v/\Q v H
def Rl:R2:=λx y H Q=>∃ z i c,x = .str z/\y = .int i/\z.length<=sizeLine/\nM z.cps.toList i=some c/\Q (.str ⟨#[c]⟩) H
theorem sT:uC X (Te X.K):=by
 intro value slice a s A H x y v u Q I M N h n;obtain⟨p,V,i,z,rfl,rfl,L,F,q⟩:=h;cases M;obtain⟨t,rfl⟩:=N;obtain⟨d,r,e,S⟩:=I.list L;obtain⟨j,b,B,P,D,E⟩:=J2 F;obtain⟨w,k,f⟩:=r.get B;have G:=r.length;have R:=xS;have fin:EP X a A Q w s:=⟨z,H,I,f,q⟩;by_cases m:0<=i
 .have c:i.toNat=j:=by
   rw[seqIndex_of m E] at b;exact bZ b
  exact item_listR e.isList m (by omega) (by rw[c];simpa using k) fin n
 .have c:(i+(d.toArray.size:Int)).toNat=j:=by
   rw[seqIndex_neg (by omega) D] at b;rw[aR,<- G];exact bZ b
  exact subscriptTail_builtinR (x:=w) e.isList.typeIs slot_list_getitem.lookup
   (wpAny_getItem_list_neg (Q:=λr O=>r=w/\EP X a A Q r O) e.isList (by omega) (by rw[aR]<;>omega) (by omega) (by rw[c];simpa using k) ⟨rfl,fin⟩) n
theorem EI:uC X (Tk X.K):=by
 intro value slice a s d H x y v u Q I E F h B;obtain⟨p,R,i,z,rfl,rfl,A,m,q⟩:=h;cases E;obtain⟨t,rfl⟩:=F;obtain⟨D,r,c,P⟩:=I.tuple A;obtain⟨j,f,k,L,M,N⟩:=J2 m;obtain⟨w,e,b⟩:=r.get k;have n:=r.length;have O:=xS;have fin:EP X a d Q w s:=⟨z,H,I,b,q⟩;exact subscriptTail_builtinR (x:=w) c.typeIs slot_tuple_getitem.lookup
  (getItem_tuple (j:=j) (Q:=λr G=>r=w/\EP X a d Q r G) c (by omega) (by omega) (by rw[aR,<- n];exact f) (by simpa using e) ⟨rfl,fin⟩) B
theorem E2:uC X Rl:=by
 intro value slice b s L H x y v u Q I B D h A;obtain⟨z,i,c,rfl,rfl,G,n,q⟩:=h;obtain⟨t,rfl⟩:=B;obtain⟨K,rfl⟩:=D;obtain⟨j,a,f,E,k,m⟩:=J2 n;have w:z.cps.toList.length=z.length:=by simp[Str.length]
 rw[w] at a k m;have F:=xS;exact tail_any (kK s z t) slot_str_getitem.lookup (getItem_str (c:=c) (by
  have d:decide (i < -(2 ^ 63:Int))=false:=bM (by omega);have e:decide (i>=2 ^ 63)=false:=bM (by omega);rw[d,e,Bool.or_false]) (by rw[a];simpa using f) ⟨.str ⟨#[c]⟩,H,I.tok _,⟨_,rfl⟩,q⟩) A
def Ro (K:lK):R2:=λx y H Q=>Te K x y H Q\/Tk K x y H Q\/Rl x y H Q
theorem IE:uC X (Ro X.K):=sT.or (EI.or E2)
theorem X3 (g:Aa Ac) (n j:Nat) (u:Ac):Obj.mapSeq (·.setIfInBounds j u) { cls:=.type "list",data:=.seq g.toArray n }={ cls:=.type "list",data:=.seq (g.set j u).toArray n }:=by
 simp[Obj.mapSeq]
theorem Inv.lst (I:Inv X j C H s) (h:H p=some (.l o)) :
  ∃ (g:Aa Ac) (n:Nat),lL o g/\s.heap.get? p=some { cls:=.type "list",data:=.seq g.toArray n }/\o.length<=sizeLine:=by
 obtain⟨z,g,n,r,e⟩:=I.hok p _ h;exact⟨g,n,r,e,z⟩
theorem Inv.lstUpd {j:Aa Ac}(I:Inv X o σ H s) (h:H p=some (.l xs))
  (U:s.heap.get? p=some { cls:=.type "list",data:=.seq j.toArray n }) (C:f { cls:=.type "list",data:=.seq j.toArray n }={ cls:=.type "list",data:=.seq g.toArray J }) (r:lL T g) (hz:T.length<=sizeLine) (t:Nat) :
  Inv X o σ (upd H p (.l T)) { s with heap:=s.heap.update p f,toks:=t }:=by
 have e:(s.heap.update p f).get? p=some { cls:=.type "list",data:=.seq g.toArray J }:=by
  rw[fH f U (by rw[C]<;>rfl),C]
 refine I.write (x:=p) (e:=p) (by rw[h];trivial) (.inl rfl) (λb u a q=>(Heap.get?_update_other _ _ (eJ a)).trans q) ⟨_,e⟩ ?_;exact⟨hz,g,J,r,e⟩
def Nw:V->V->V->Hp->(Hp->Prop)->Prop:=λo i v H Q=>∃ p a k j,o = .ref p/\i = .int k/\H p=some (.l a)/\rQ a.length k=some j/\Q (upd H p (.l (a.set j v)))
theorem F2:Iq X Nw:=by
 intro b s K H o i v O N u Q I E D F h;obtain⟨p,G,k,j,rfl,rfl,z,A,q⟩:=h;cases E;obtain⟨t,rfl⟩:=D;obtain⟨a,n,r,f,B⟩:=I.lst z;obtain⟨c,L,x,y⟩:=Qx A;have e:=r.length;have M:=xS;have m:Inv X b K (upd H p (.l (G.set j v))) { s with heap:=s.heap.update p (Obj.mapSeq (·.setIfInBounds j u)) } :=
  I.lstUpd z f (X3 a n j u) (r.set F j) (by rw[bL];exact B) s.toks
 by_cases w:0<=k
 .have d:k.toNat=j:=by
   rw[seqIndex_of w y] at c;exact bZ c
  exact PySem.W.ki_setAt f w (by omega) (by rw[aR,<- e];exact y) (by rw[d];exact⟨_,m,q⟩)
 .have d:(k+(a.toArray.size:Int)).toNat=j:=by
   rw[seqIndex_neg (by omega) x] at c;rw[aR,<- e];exact bZ c
  exact PySem.W.ki_setBack f (by omega) (by rw[aR,<- e];exact x) (by omega) (by rw[d];exact⟨_,m,q⟩)
theorem Ze (lo g:Ab Int) (n:Nat):(sliceBounds lo g none n).1=((HT.sIx n 0 lo:Nat):Int)/\(sliceBounds lo g none n).2.1=((HT.sIx n n g:Nat):Int)/\(sliceBounds lo g none n).2.2=1:=by
 refine⟨?_,?_,rfl⟩
 .cases lo with
  | none=>simp[sliceBounds,HT.sIx]
  | some i =>
   simp only[sliceBounds,HT.sIx,Option.getD_none,show (1:Int)>0 by decide,gA];by_cases h:i<0
   .simp only[h,gA]<;>omega
   .simp only[h,fX]<;>omega
 .cases g with
  | none=>simp[sliceBounds,HT.sIx]
  | some i =>
   simp only[sliceBounds,HT.sIx,Option.getD_none,show (1:Int)>0 by decide,gA];by_cases h:i<0
   .simp only[h,gA]<;>omega
   .simp only[h,fX]<;>omega
theorem Vm (g:Aa Ac) (lo j:Ab Int):slicePick g.toArray lo j none=((g.drop (HT.sIx g.length 0 lo)).take (HT.sIx g.length g.length j-HT.sIx g.length 0 lo)).toArray:=by
 obtain⟨a,b,c⟩:=Ze lo j g.toArray.size;unfold slicePick;rw[a,b,c];simp only[sliceRange_one,pick_run,aR]<;>rfl
def Qh (K:lK):V->Ab Int->Ab Int->Hp->VK->Prop:=λx lo c H Q=>∃ a b,x = .ref a/\hI K H a b/\∀ p,H p=none->Q (.ref p) (upd H p (.l (tY b lo c)))
theorem G9:tK X (Qh X.K):=by
 intro i s D H x v A B lo e sl Q I y k u w h;obtain⟨a,c,rfl,m,q⟩:=h;cases y;obtain⟨t,r,f,n⟩:=I.list m;have d:=r.length;refine⟨"list",_,slot_list_getitem.lookup,f.isList.typeIs,?_⟩;refine wpAny_getItem_list_slice f.isList k u w .none (by simp) ?_ (by rw[aR]<;>omega);rw[Vm,<- d];refine⟨.ref s.heap.objs.size,_,I.laid (t':=s.toks) (o:=.l (tY c lo e)) (λb z q=>aG _ q) (aP _) ?_,rfl,q _ (I.hok.fresh (aP _))⟩;exact⟨bP (Ls c lo e) n,_,0,(r.drop (HT.sIx c.length 0 lo)).take (HT.sIx c.length c.length e-HT.sIx c.length 0 lo),aX _ rfl⟩
def rV:V->Bool
 | .e=>true
 | .b _=>true
 | .int _=>true
 | .str _=>true
 | _=>false
noncomputable def pT:V->V->Bool
 | .e,.e=>true
 | .b a,.b b=>a == b
 | .b a,.int b=>(if a then 1 else 0) == b
 | .int a,.b b=>a == (if b then 1 else 0)
 | .int a,.int b=>a == b
 | .str a,.str b=>a == b
 | _,_=>false
theorem Dh (l:lW y u) (g:lW x v) (o:rV y=true) (j:rV x=true):SeqAt.EqAt A s u v (pT y x):=by
 cases y with
 | e =>
  cases l;cases x with
  | e=>cases g;exact SeqAt.EqAt.same _
  | b b=>cases g;exact SeqAt.EqAt.none_bool b
  | int b=>obtain⟨t,rfl⟩:=g;exact SeqAt.EqAt.none_int b t
  | str b=>obtain⟨t,rfl⟩:=g;exact SeqAt.EqAt.none_str b t
  | _=>exact absurd (show false=true from j) aT
 | b a =>
  cases l;cases x with
  | e=>cases g;exact SeqAt.EqAt.bool_none a
  | b b=>cases g;exact SeqAt.EqAt.bool_bool a b
  | int b=>obtain⟨t,rfl⟩:=g;exact SeqAt.EqAt.bool_int a b t
  | str b=>obtain⟨t,rfl⟩:=g;exact SeqAt.EqAt.bool_str a b t
  | _=>exact absurd (show false=true from j) aT
 | int a =>
  obtain⟨c,rfl⟩:=l;cases x with
  | e=>cases g;exact SeqAt.EqAt.int_none a c
  | b b=>cases g;exact SeqAt.EqAt.int_bool a c b
  | int b=>obtain⟨t,rfl⟩:=g;exact SeqAt.EqAt.int_int a c b t
  | str b=>obtain⟨t,rfl⟩:=g;exact SeqAt.EqAt.int_str a c b t
  | _=>exact absurd (show false=true from j) aT
 | str a =>
  obtain⟨c,rfl⟩:=l;cases x with
  | e=>cases g;exact SeqAt.EqAt.str_none a c
  | b b=>cases g;exact SeqAt.EqAt.str_bool a c b
  | int b=>obtain⟨t,rfl⟩:=g;exact SeqAt.EqAt.str_int a c b t
  | str b=>obtain⟨t,rfl⟩:=g;exact SeqAt.EqAt.str_str a c b t
  | _=>exact absurd (show false=true from j) aT
 | _=>exact absurd (show false=true from o) aT
def rO (x:V) (u:Ac):Bool:=match u with
 | .none=>pT .e x
 | .bool b=>pT (.b b) x
 | .int i _=>pT (.int i) x
 | .str z _=>pT (.str z) x
 | _=>false
theorem Tu (r:lW y u) (f:rV y=true):rO x u=pT y x:=by
 cases y with
 | e=>cases r;rfl
 | b b=>cases r;rfl
 | int i=>obtain⟨t,rfl⟩:=r;rfl
 | str z=>obtain⟨t,rfl⟩:=r;rfl
 | _=>exact absurd (show false=true from f) aT
theorem B8:∀ {g:Aa V}{j:Aa Ac},lL g j->g.all rV=true->j.any (rO x)=g.any λy=>pT y x
 | _,_,.nil,_=>rfl
 | y::g,u::j,.cons r t,f=>by
  rw[List.all_cons,cB] at f;rw[fO,fO,Tu r f.1,B8 t f.2]
theorem Bv (o:lW x v) (l:rV x=true):∀ {j:Aa V}{g:Aa Ac},lL j g->j.all rV=true->∀ u∈g,SeqAt.EqAt A s u v (rO x u)
 | _,_,.nil,_=>λu a=>by cases a
 | y::j,u::g,.cons r t,f=>λb a=>by
  rw[List.all_cons,cB] at f;rcases aI.mp a with rfl | a
  .rw[Tu r f.1];exact Dh r o f.1 l
  .exact Bv o l t f.2 b a
def xD (x:V) (g:Aa V):Bool:=g.any λy=>pT y x
def Fk (K:lK) (neg:Bool):R2:=λx y H Q=>∃ p a,y = .ref p/\(hI K H p a\/mK K H p a)/\rV x=true/\a.all rV=true/\Q (.b (if neg then !xD x a else xD x a)) H
theorem AO:mL X (compareOp .In) (Fk X.K false):=by
 intro f s t H x y v u Q I i m h;obtain⟨p,n,rfl,c,e,fs,q⟩:=h;cases m;rcases c with c | c
 .obtain⟨a,r,d,k⟩:=I.list c;refine SeqAt.in_listAt (rO x) d.isList (λw hw=>Bv i e r fs w (by simpa using hw)) ⟨.b _,H,I,rfl,?_⟩;rw[show a.toArray.any (rO x)=a.any (rO x) by simp,B8 r fs];exact q
 .obtain⟨a,r,d,k⟩:=I.tuple c;refine SeqAt.in_tupleAt (rO x) d (λw hw=>Bv i e r fs w (by simpa using hw)) ⟨.b _,H,I,rfl,?_⟩;rw[show a.toArray.any (rO x)=a.any (rO x) by simp,B8 r fs];exact q
theorem Uy:mL X (compareOp .NotIn) (Fk X.K true):=by
 intro f s t H x y v u Q I i m h;obtain⟨p,n,rfl,c,e,fs,q⟩:=h;cases m;rcases c with c | c
 .obtain⟨a,r,d,k⟩:=I.list c;refine SeqAt.notIn_listAt (rO x) d.isList (λw hw=>Bv i e r fs w (by simpa using hw)) ⟨.b _,H,I,rfl,?_⟩;rw[show a.toArray.any (rO x)=a.any (rO x) by simp,B8 r fs];exact q
 .obtain⟨a,r,d,k⟩:=I.tuple c;refine SeqAt.notIn_tupleAt (rO x) d (λw hw=>Bv i e r fs w (by simpa using hw)) ⟨.b _,H,I,rfl,?_⟩;rw[show a.toArray.any (rO x)=a.any (rO x) by simp,B8 r fs];exact q
theorem Ba:nF X (.builtin "len") (λj H Q=>∃ p g,j=[.ref p]/\(hI X.K H p g\/mK X.K H p g)/\Q (.int g.length) H):=by
 intro f s t H j n Q I r h;obtain⟨p,g,rfl,b,q⟩:=h;obtain⟨u,rfl,k⟩:=oS r;cases k;have m:=xS;rcases b with b | b
 .obtain⟨c,e,d,i⟩:=I.list b;have a:=e.length;exact Calls.call_len_list d.isList (by simp only[aR]<;>omega) ⟨.int g.length,H,I.tok _,⟨s.toks+1,by rw[aR,a]⟩,q⟩
 .obtain⟨c,e,d,i⟩:=I.tuple b;have a:=e.length;exact len_tuple d (by simp only[aR]<;>omega) ⟨.int g.length,H,I.tok _,⟨s.toks+1,by rw[aR,a]⟩,q⟩
theorem K2:nF X (.builtin "len") (λg H Q=>∃ z,g=[.str z]/\z.length<=sizeLine/\Q (.int z.length) H):=by
 intro a s e H g d Q I r h;obtain⟨z,rfl,c,q⟩:=h;obtain⟨u,rfl,t,rfl⟩:=oS r;have b:=xS;exact len_str (by omega) ⟨.int z.length,H,I.tok _,⟨_,rfl⟩,q⟩
theorem nF.or (h:nF X f r) (j:nF X f l):nF X f (λg H Q=>r g H Q\/l g H Q):=by
 intro a s d H g c Q I b q;rcases q with q | q
 .exact h a s d H g c Q I b q
 .exact j a s d H g c Q I b q
theorem Mv:nF X (.type "list") (λj H Q=>∃ p g,j=[.ref p]/\(hI X.K H p g\/mK X.K H p g)/\∀ l,H l=none->Q (.ref l) (upd H l (.l g))):=by
 intro v s D H j E Q I r h;obtain⟨p,g,rfl,k,q⟩:=h;obtain⟨u,rfl,B⟩:=oS r;cases B;have fin:∀ (a:Aa Ac),lL g a->g.length<=sizeLine->∀ (c:Ag) (d:Nat),(∀ b A,s.heap.get? b=some A->c.get? b=some A) ->
   c.get? s.heap.objs.size=some { cls:=.type "list",dict:=none,data:=.seq a.toArray d,slots:=#[] }->EP X v D Q (.ref s.heap.objs.size) { s with heap:=c }:=λa f m c d t e =>
  ⟨.ref s.heap.objs.size,_,I.laid (t':=s.toks) t (aP _) (show oZ X.prog X.w _ c _ (.l g) from ⟨m,a,d,f,e⟩),rfl,q _ (I.hok.fresh (aP _))⟩
 rcases k with k | k
 .obtain⟨a,f,z,m⟩:=I.list k;have i:=f.length;obtain⟨o,y,x,n,hd⟩:=z.isList;exact call_list_seq p (.inl rfl) y x hd (λc d t e=>fin a f m c d t e) (by simp only[aR]<;>omega)
 .obtain⟨a,f,z,m⟩:=I.tuple k;have i:=f.length;obtain⟨o,y,x,n,hd⟩:=z;exact call_list_seq p (.inr rfl) y x hd (λc d t e=>fin a f m c d t e) (by simp only[aR]<;>omega)
theorem wS:nF X (.type "tuple") (λj H Q=>∃ p g,j=[.ref p]/\((hI X.K H p g/\∀ l,H l=none->Q (.ref l) (upd H l (.t g)))\/(mK X.K H p g/\Q (.ref p) H))):=by
 intro a s x H j B Q I r h;obtain⟨p,g,rfl,h⟩:=h;obtain⟨u,rfl,A⟩:=oS r;cases A;rcases h with⟨f,q⟩ | ⟨f,q⟩
 .obtain⟨c,k,i,v⟩:=I.list f;have n:=k.length;refine call_tuple_list i.isList (λd z=>?_) (by simp only[aR]<;>omega);have m:Inv X a x H { s with heap:=d }:=I.kept (t':=s.toks) z;have y:Inv X a x (upd H d.objs.size (.t g)) { s with heap:=d.push { cls:=.type "tuple",data:=.seq c.toArray } } :=
   m.laid (t':=s.toks) (λb o e=>aG _ e) (aP _) (show oZ X.prog X.w _ _ _ (.t g) from ⟨v,c,k,vH.new _ _⟩)
  exact⟨.ref d.objs.size,_,y,rfl,q _ (m.hok.fresh (aP _))⟩
 .obtain⟨c,k,i,v⟩:=I.tuple f;exact call_tuple_same i ⟨.ref p,H,I,rfl,q⟩
def B0 (K:lK) (T:String) (x:V) (H:Hp):Prop:=match x with
 | .str _=>T = "str"
 | .int _=>T = "int"
 | .ref p=>(T = "list" /\ ∃ b,hI K H p b)\/(T = "tuple" /\ ∃ o,K.lookup p=some o/\o.cls = .type "tuple" /\ o.dict=none) \/
   (T = "dict" /\ ((∃ a,H p=some (.k a))\/∃ a,H p=some (.T a)))\/(T = "set" /\ ∃ S n,H p=some (.set S n))
 | _=>False
theorem Y7 (I:Inv X j l H s) (r:lW x v) (ty:B0 X.K T x H) :
  s.TypeIs v T/\∀ a,v = .ref a->∃ g,s.heap.get? a=some g/\g.dict=none:=by
 cases x with
 | str z =>
  obtain⟨t,rfl⟩:=r;cases (show T = "str" from ty);exact⟨kK s z t,λ_ e=>nomatch e⟩
 | int i =>
  obtain⟨t,rfl⟩:=r;cases (show T = "int" from ty);exact⟨typeIs_int s i t,λ_ e=>nomatch e⟩
 | ref p =>
  cases r;rcases ty with⟨rfl,w,q⟩ | ⟨rfl,o,b,m,hd⟩ | ⟨rfl,b⟩ | ⟨rfl,S,n,b⟩
  .obtain⟨u,_,k,_⟩:=I.list q;refine⟨k.isList.typeIs,λa e=>?_⟩;cases e;obtain⟨o,n,e,c,hd,_⟩:=k;exact⟨o,e,hd⟩
  .refine⟨⟨o,I.kIn p o b,m⟩,λa e=>?_⟩;cases e;exact⟨o,I.kIn _ o b,hd⟩
  .have z:∃ o,s.heap.get? p=some o/\o.ExactDict:=by
    rcases b with⟨h,b⟩ | ⟨h,b⟩
    .obtain⟨_,_,_,_,o,_,_,e,d,_⟩:=I.hok p _ b;exact⟨o,e,d⟩
    .obtain⟨_,_,_,_,o,_,_,e,d,_⟩:=I.hok p _ b;exact⟨o,e,d⟩
   obtain⟨o,e,d⟩:=z;refine⟨⟨o,e,d.1⟩,λa f=>?_⟩;cases f;exact⟨o,e,d.2.1⟩
  .obtain⟨o,_,_,_,e,d,_⟩:=I.hok p _ b;refine⟨⟨o,e,d.1⟩,λa f=>?_⟩;cases f;exact⟨o,e,d.2.1⟩
 | _=>exact False.elim ty
def Sz (K:lK) (T:String) (r:V->Aa V->Hp->VK->Prop) (g:TE) (t:TA):TE:=λb H Q=>g b H λx a=>B0 K T x a/\t b a λd c=>r x d c Q
variable {id:String}
structure MtB (X:Cx) (o:Expr) (name:Str) (apos:Pos) (e:Expr) (es:List Expr) (cpos:Pos):Prop extends StB X e es cpos where
 c:attributeBase o name X.env (eval o X.env)=eval o X.env:=by rfl
 d:((backTo cpos (starEach (e::es) X.env)).all (λx=>!x.1)&&(backToKw cpos (keywordEach [] X.env)).all (λx=>x.1.isSome)&&decide ((e::es).length+([]:List Keyword).length+(if ([]:List Keyword).isEmpty then 0 else 1)<30))=true:=by rfl
 f:(apos.endLine == cpos.line)=true:=by rfl
theorem zK (pa:PlainAttrs T) (slot:Slot T name id) (p:typeOf (.builtin id)=pure (.type "method_descriptor")) (J:uK X id r) (U:PE X o to) (C:PA X (e::l) t)
  (j:MtB X o name apos e l g:=by exact {}) :
  PE X (.Call (.Attribute o name apos) (e::l) [] g) (Sz X.K T r to t):=by
 intro i s m H Q I h;refine wpAny_Call_method_late j.c j.d j.f rfl (lA (U i s m H _ I h) λv G k=>?_);obtain⟨x,w,n,u,ty,D⟩:=k;obtain⟨A,B⟩:=Y7 n u ty;refine⟨T,id,pa,slot,p,A,B,?_⟩;have q:=C g i G m w _ n D;rw[j.a] at q |-;refine Calls.callWith_builtin (by show (false||(backTo g (starEach l X.env)).any (·.1))=false;rw[j.b]<;>rfl) (Calls.evalArgs_plain ?_);exact lA q λM L ⟨N,y,z,F,E⟩=>J i L m y x N v M Q z u F E
/- xs.append(e),list.index on a module's tuple .. are uK facts of 06m -/
end
def Sc (X:Cx) (id:String) (r:V->Aa V->Hp->VK->Prop):Prop :=
 ∀ (a:Aa (Ad×Obj)) (s:Ae) (d:St) (H:Hp) (x:V) (c:Aa V) (v:Ac) (b:Aa Ac) (Q:VK),Inv X a d H s->lW x v->lL c b->r x c H Q ->
  wpAny (model X.prog X.w) X.A (call (.builtin id) (v::b)) (EP X a d Q) X.xe s
theorem lL.one:∀ {x:V}{g:Aa Ac},lL [x] g->∃ u,g=[u]/\lW x u
 | _,_,.cons r .nil=>⟨_,rfl,r⟩
theorem lL.eraseIdx:∀ {j:Aa V}{g:Aa Ac}(i:Nat),lL j g->lL (j.eraseIdx i) (g.eraseIdx i)
 | _,_,_,.nil=>.nil
 | _,_,0,.cons _ t=>t
 | _,_,i+1,.cons r t=>.cons r (lL.eraseIdx i t)
theorem lL.rep (h:lL j g):∀ k:Nat,lL (List.replicate k j).flatten (List.replicate k g).flatten
 | 0=>.nil
 | k+1=>by
  rw[dM,dM,gR,gR];exact lL.append h (lL.rep h k)
theorem Le:∀ (l:Aa g) (i:Nat),(l.eraseIdx i).length<=l.length
 | [],_=>aP _
 | _::_,0=>iK _
 | _::r,i+1=>Nat.succ_le_succ (Le r i)
theorem Ru (j:Aa Ac):∀ (k:Nat) (g:Aa Ac),
  List.foldl (λl o=>l++o) g.toArray (List.replicate k j.toArray)=(g++(List.replicate k j).flatten).toArray
 | 0,g=>by simp
 | k+1,g=>by
  have e:g.toArray++j.toArray=(g++j).toArray:=by simp
  have a:(g++j)++(List.replicate k j).flatten=g++(List.replicate (k+1) j).flatten:=by
   rw[dM,gR,bH]
  rw[<- a,<- Ru j k (g++j),<- e,dM,iY]
section
variable {X:Cx}
theorem Inv.lset {g:Aa Ac}(I:Inv X j T H s) (p:H l=some (.l xs))
  (e:s.heap.get? l=some { cls:=.type "list",data:=.seq g.toArray n }) (r:f g.toArray=its'.toArray) (C:lL o its') (J:o.length<=sizeLine) :
  Inv X j T (upd H l (.l o)) { s with heap:=s.heap.update l (Obj.mapSeq f),toks:=U }:=by
 have q:=PySem.IsL.update e f;rw[r] at q;refine I.write (x:=l) (e:=l) (by rw[p];exact trivial) (.inl rfl) (λc u a b=>(Heap.get?_update_other s.heap (Obj.mapSeq f) (eJ a)).trans b) ⟨_,q⟩ ?_;exact⟨J,its',_,C,q⟩
theorem Inv.lnew (I:Inv X g p H s) (j:lL ys its) (o:ys.length<=sizeLine) :
  Inv X g p (upd H s.heap.objs.size (.l ys)) { s with heap:=s.heap.push { cls:=.type "list",data:=.seq its.toArray },toks:=t' } :=
 I.laid (λ_ _ q=>aG _ q) (aP _) ⟨o,its,0,j,aX _ rfl⟩
theorem Inv.fresh (I:Inv X g j H s):H s.heap.objs.size=none:=I.hok.fresh (aP _)
theorem Inv.lstM (I:Inv X o C H s) (p:H l=some (.l j)):j.length<=sizeLine/\∃ (g:Aa Ac) (n:Nat),lL j g/\j.length=g.length/\s.heap.get? l=some { cls:=.type "list",data:=.seq g.toArray n }:=by
 obtain⟨z,g,n,r,e⟩:=I.hok l _ p;exact⟨z,g,n,r,r.length,e⟩
theorem EE (h:n<=sizeLine):Builtin.List.listTooLong n=false:=by
 unfold Builtin.List.listTooLong;exact bM (by omega)
end
section
variable {X:Cx}
def Tt:V->Aa V->Hp->VK->Prop:=λx b H Q=>∃ l a y,x = .ref l/\b=[y]/\H l=some (.l a)/\a.length<sizeLine/\Q .e (upd H l (.l (a++[y])))
theorem tJ:Sc X "list.append" Tt:=by
 intro c s B H x w v t Q I i f h;obtain⟨l,A,y,rfl,rfl,b,m,q⟩:=h;cases i;obtain⟨u,rfl,d⟩:=f.one;obtain⟨z,a,n,r,k,e⟩:=I.lstM b;refine iL F.slot_list_append ⟨_,e,rfl⟩ F.entry_list_append (F.args_list_append_2 _ _) (PySem.list_append l a.toArray n u (by rw[aR];omega)) ⟨e,?_⟩;refine⟨.e,_,I.lset (its':=a++[u]) b e (by simp) (r.append (.cons d .nil)) ?_,rfl,q⟩;rw[aW,eM];omega
def MW:V->Aa V->Hp->VK->Prop:=λx d H Q=>∃ l b a c,x = .ref l/\d=[.ref b]/\H l=some (.l a)/\H b=some (.l c)/\a.length+c.length<=sizeLine/\Q .e (upd H l (.l (a++c)))
def N4:V->Aa V->Hp->VK->Prop:=λx b H Q=>∃ l a i k y,x = .ref l/\b=[.int i]/\H l=some (.l a)/\-(2 ^ 63)<=i/\i<2 ^ 63/\seqIndex? i a.length=some k/\a[k]?=some y/\Q y (upd H l (.l (a.eraseIdx k)))
theorem Q5:Sc X "list.pop" N4:=by
 intro d s O H x N v M Q I K G h;obtain⟨l,L,i,k,y,rfl,rfl,c,f,m,A,D,q⟩:=h;cases K;obtain⟨u,rfl,E⟩:=G.one;obtain⟨t,rfl⟩:=E;obtain⟨z,a,n,r,B,e⟩:=I.lstM c;obtain⟨w,hw,b⟩:=r.get D;refine iL F.slot_list_pop ⟨_,e,rfl⟩ F.entry_list_pop (F.args_list_pop_2 _ _)
  (MeetsSeq.list_pop_at l a.toArray n i t k w (fitsIndex_both f m) (by rw[aR,<- B];exact A) (by rw[<- dF];exact hw) (by rw[aR];omega)) ⟨e,?_⟩
 refine⟨y,_,I.lset (its':=a.eraseIdx k) c e ?_ (r.eraseIdx k) ?_,b,q⟩
 .show a.toArray.eraseIdxIfInBounds k=(a.eraseIdx k).toArray;rw[List.eraseIdxIfInBounds_toArray]
 .have:=Le L k;omega
def Q8:R2:=λx y H Q=>∃ l b a c,x = .ref l/\y = .ref b/\H l=some (.l a)/\H b=some (.l c)/\a.length+c.length<=sizeLine/\∀ p,H p=none->Q (.ref p) (upd H p (.l (a++c)))
theorem Ay:mL X (binaryOp .Add) Q8:=by
 intro d s M H x y v u Q I A B h;obtain⟨l,b,G,L,rfl,rfl,m,k,E,q⟩:=h;cases A;cases B;obtain⟨z,c,n,r,D,e⟩:=I.lstM m;obtain⟨K,a,F,w,t,f⟩:=I.lstM k;refine PySem.P.add_list e f ?_ (by rw[aR,aR];omega);have i:c.toArray++a.toArray=(c++a).toArray:=by simp
 rw[i];exact⟨.ref _,_,I.lnew (t':=s.toks) (r.append w) (by rw[aW];omega),rfl,q _ I.fresh⟩
def Oh:R2:=λx y H Q=>∃ l k a,x = .ref l/\y = .int k/\H l=some (.l a)/\-(2 ^ 63)<=k/\k<2 ^ 63/\a.length*k.toNat<=sizeLine /\
 ∀ p,H p=none->Q (.ref p) (upd H p (.l (List.replicate k.toNat a).flatten))
theorem U3 (g:Aa j) (k:Nat):(List.replicate k g).flatten.length=k*g.length:=by
 induction k with
 | zero=>simp
 | succ k a=>rw[dM,gR,aW,a,Nat.succ_mul,Nat.add_comm]
theorem DL:mL X (binaryOp .Mult) Oh:=by
 intro E s W H x y v u Q I O P h;obtain⟨l,k,V,rfl,rfl,M,K,L,D,q⟩:=h;cases O;obtain⟨t,rfl⟩:=P;obtain⟨z,b,n,r,N,e⟩:=I.lstM M;have i:b.toArray.size*k.toNat<=sizeLine:=by rw[aR,<- N];exact D
 have d:¬ b.toArray.size*k.toNat>(2 ^ 63-1)/8:=by
  have:(sizeLine:Nat)<=(2 ^ 63-1)/8:=by decide
  omega
 have f:¬ (!Builtin.List.listFitsIndex k)=true:=by
  rw[fitsIndex_both K L];exact aT
 have c:¬ Builtin.List.listTooLong (b.toArray.size*k.toNat)=true:=by
  rw[EE i];exact aT
 have w:List.foldl (λA B=>A++B) #[] (List.replicate (if b.toArray.isEmpty=true then 0 else k.toNat) b.toArray)=(List.replicate k.toNat b).flatten.toArray:=by
  have G:∀ m:Nat,List.foldl (λA B=>A++B) #[] (List.replicate m b.toArray)=(List.replicate m b).flatten.toArray:=λm=>by
   have:=Ru b m [];rw[fF] at this;exact this
  rw[G];cases b with
  | nil=>simp
  | cons a S=>rw[aJ (by simp)]
 refine wpAny_binaryOp_repeat_ref (T := "list") (U := "int") (by decide) ⟨_,e,rfl⟩ (λR=>typeIs_int R k t) noFill_list_mul F.fills_int_mul F.slot_int_rmul repeat_list F.slot_int_index.lookup
  (iL F.slot_int_rmul (typeIs_int s k t) F.entry_int_rmul (F.args_int_rmul_2 _ _) (int___rmul___int_list k t l b.toArray n) ⟨e,rfl,⟨_,e,rfl⟩,iL F.slot_list_mul ⟨_,e,rfl⟩ F.entry_list_mul (F.args_list_mul_2 _ _) (AutoListH.list___mul___list_int_3 l b.toArray n k t f d c) ⟨e,?_⟩⟩)
 rw[w];exact⟨.ref _,_,I.lnew (t':=s.toks) (r.rep k.toNat) (by rw[U3,Nat.mul_comm];exact D),rfl,q _ I.fresh⟩
end
section
variable [DecidableEq κ]
noncomputable def qE (g:Aa (κ×V)) (k:κ):Ab V:=(g.find? λa=>decide (a.1=k)).map (·.2)
noncomputable def mY (g:Aa (κ×V)) (k:κ) (v:V):Aa (κ×V) :=
 if (g.any λa=>decide (a.1=k))=true then g.map (λa=>if a.1=k then (a.1,v) else a) else g++[(k,v)]
theorem E7 {p:κ×V}{r:Aa (κ×V)}{k:κ}(e:p.1=k):qE (p::r) k=some p.2:=by simp[qE,cZ,e]
theorem Eu {p:κ×V}{r:Aa (κ×V)}{k:κ}(e:¬ p.1=k):qE (p::r) k=qE r k:=by simp[qE,cZ,e]
theorem O0 (k:κ):∀ g:Aa (κ×V),(g.any λj=>decide (j.1=k))=(qE g k).isSome
 | []=>rfl
 | p::r=>by
  rw[fO];by_cases e:p.1=k
  .simp only[E7 e,bQ e,Bool.true_or,kL]
  .rw[Eu e,bM e,Bool.false_or];exact O0 k r
theorem Bh (g:Aa (κ×V)) (k:κ) (v:V):(mY g k v).length<=g.length+1:=by
 unfold mY;split
 .rw[aA];omega
 .rw[aW,bJ,fG];omega
theorem sW.isSome_eq (r:sW o u):o.isSome=u.isSome:=by
 cases o with
 | none=>cases u with
  | none=>rfl
  | some _=>exact (show False from r).elim
 | some _=>cases u with
  | none=>exact (show False from r).elim
  | some _=>rfl
theorem sW.getD (r:sW o u) (rd:lW d g):lW (o.getD d) (u.getD g):=by
 cases o with
 | none=>cases u with
  | none=>exact rd
  | some _=>exact (show False from r).elim
 | some _=>cases u with
  | none=>exact (show False from r).elim
  | some _=>exact r
theorem KV.val (r:KV g j) (k:κ):sW (qE g k) (valueAt j k):=by
 unfold KV at r;induction r with
 | nil=>exact True.intro
 | @cons p q m c h t i =>
  obtain⟨d,f⟩:=h;by_cases e:p.1=k
  .have a:q.1=k:=d.symm.trans e;have b:valueAt (q::c) k=some q.2:=by simp[valueAt,cZ,a]
   rw[E7 e,b];exact f
  .have a:¬ q.1=k:=λz=>e (d.trans z)
   have b:valueAt (q::c) k=valueAt c k:=by simp[valueAt,cZ,a]
   rw[Eu e,b];exact i
theorem KV.any (r:KV j l) (k:κ):(j.any λg=>decide (g.1=k))=l.any λg=>decide (g.1=k):=by
 unfold KV at r;induction r with
 | nil=>rfl
 | cons h t a=>rw[fO,fO,a,h.1]
theorem KV.repl (r:KV j o) (k:κ) (l:lW y u) :
  KV (j.map λg=>if g.1=k then (g.1,y) else g) (o.map λg=>if g.1=k then (g.1,u) else g):=by
 unfold KV at r |-;induction r with
 | nil=>exact .nil
 | @cons p q d f h t c =>
  rw[aM,aM];refine .cons ?_ c;obtain⟨a,b⟩:=h;by_cases e:p.1=k
  .rw[aO e,aO (a.symm.trans e)];exact⟨a,l⟩
  .rw[aJ e,aJ (λz=>e (a.trans z))];exact⟨a,b⟩
theorem KV.put (r:KV g l) (k:κ) (j:lW y u):KV (mY g k y) (stored l k u):=by
 unfold mY stored;rw[r.any k];by_cases e:(l.any λa=>decide (a.1=k))=true
 .rw[aO e,aO e];exact r.repl k j
 .rw[aJ e,aJ e];exact Paired.snoc r ⟨rfl,j⟩
theorem KV.length (r:KV g j):g.length=j.length:=fN r
end
theorem wN {P:Ah}(r:lW (kV k) u):(oM P w).is k u=true:=by
 cases k with
 | inl i=>obtain⟨t,e⟩:=(show ∃ t,u=Value.int i t from r);subst e;exact MJ P w i t
 | inr x=>obtain⟨t,e⟩:=(show ∃ t,u=Value.str x t from r);subst e;exact HZ P w x t
theorem Pw {P:Ah}:∀ {g:Aa eF}{j:Aa Ac},lL (g.map kV) j->ItemsAre (oM P w) g j
 | [],_,r=>by rw[kI] at r;cases r;exact .nil
 | k::g,_,r=>by
  rw[aM] at r;cases r with
  | cons h t=>exact .cons (wN h) (Pw t)
abbrev KT (H:Hp):Aa (Aa eF×V)->Aa (Aa eF×Ad×Ac)->Prop:=Paired λp q=>p.1=q.1/\H q.2.1=some (.t (p.1.map kV))/\lW p.2 q.2.2
theorem KT.val (r:KT H g j) (k:Aa eF):sW (qE g k) ((atKey j k).map (·.2)):=by
 induction r with
 | nil=>exact True.intro
 | @cons p q m c h t i =>
  obtain⟨d,_,f⟩:=h;by_cases e:p.1=k
  .have a:q.1=k:=d.symm.trans e;have b:atKey (q::c) k=some q.2:=by simp[atKey,cZ,a]
   rw[E7 e,b];exact f
  .have a:¬ q.1=k:=λz=>e (d.trans z)
   have b:atKey (q::c) k=atKey c k:=by simp[atKey,cZ,a]
   rw[Eu e,b];exact i
theorem KT.repl (r:KT H j o) (k:Aa eF) (l:lW y u) :
  KT H (j.map λg=>if g.1=k then (g.1,y) else g) (o.map (putAt k u)):=by
 induction r with
 | nil=>exact .nil
 | @cons p q f i h t d =>
  rw[aM,aM];refine .cons ?_ d;obtain⟨a,b,c⟩:=h;unfold putAt;by_cases e:p.1=k
  .rw[aO e,aO (a.symm.trans e)];exact⟨a,b,l⟩
  .rw[aJ e,aJ (λz=>e (a.trans z))];exact⟨a,b,c⟩
theorem KT.put (r:KT H g j) (k:Aa eF) (o:H b=some (.t (k.map kV))) (l:lW y u) :
  KT H (mY g k y) (storedH j k b u):=by
 have e:(g.any λa=>decide (a.1=k))=(atKey j k).isSome:=by
  rw[O0,(r.val k).isSome_eq,Option.isSome_map]
 unfold mY storedH;rw[e];by_cases q:(atKey j k).isSome=true
 .rw[aO q,aO q];exact r.repl k l
 .rw[aJ q,aJ q];exact Paired.snoc r ⟨rfl,o,l⟩
theorem KT.keeps (r:KT H g p) (o:∀ b j,H b=some (.t j)->l b=some (.t j)):KT l g p :=
 Paired.mapP r λ_ _ z=>⟨z.1,o _ _ z.2.1,z.2.2⟩
section
variable {P:Ah}
theorem Ij (ok:nP P w H h) (e:Rd H a u):oZ P w H h a u:=e.ok ok
theorem wM (ok:nP P w H h) (e:Rd H a (.k g)):g.length<=sizeLine/\(a == sysModules)=false/\∃ j,KV g j/\h.DictOf (oM P w) a j :=
 show oZ P w H h a (.k g) from Ij ok e
theorem zE (ok:nP P w H h) (e:H a=some (.k g)):g.length<=sizeLine/\(a == sysModules)=false/\∃ j,KV g j/\h.DictOf (oM P w) a j:=wM ok (.inl e)
theorem zR (ok:nP P w H h) (e:H a=some (.t (g.map kV))):(tupleKind (oM P w)).is h g a:=by
 obtain⟨_,b,r,⟨o,c,d,n,f⟩,_⟩:=(show oZ P w H h a (.t (g.map kV)) from ok a _ e);exact⟨o,b.toArray,n,c,d,f,by simpa using Pw r⟩
theorem yO (ok:nP P w H h) (e:Rd H a (.T g)):g.length<=sizeLine/\(a == sysModules)=false /\
  ∃ j,KT H g j/\h.DictOfH (tupleKind (oM P w)) a j:=by
 obtain⟨z,y,j,r,o,f,d,i,k,n,s,u⟩:=(show oZ P w H h a (.T g) from Ij ok e);refine⟨z,y,j,r,o,f,d,i,k,n,s,λx b=>?_,u⟩;have all:∀ {l:Aa (Aa eF×V)} {m:Aa (Aa eF×Ad×Ac)},KT H l m->∀ x∈m,(tupleKind (oM P w)).is h x.1 x.2.1:=by
  intro l m q;induction q with
  | nil=>intro x b;exact nomatch b
  | @cons p q A B c t v =>
   intro x b;rcases aI.mp b with e | b
   .subst e;exact zR ok (by rw[<- c.1];exact c.2.1)
   .exact v x b
 exact all r x b
theorem Op (ok:nP P w H h) (e:H a=some (.T g)):g.length<=sizeLine/\(a == sysModules)=false /\
  ∃ j,KT H g j/\h.DictOfH (tupleKind (oM P w)) a j:=yO ok (.inl e)
end
def rY (H:Hp) (a:Ad) (y:V) (r:Ab V):Prop :=
 (∃ c k,Rd H a (.k c)/\y=kV k/\r=qE c k)\/∃ c k b,Rd H a (.T c)/\y = .ref b/\H b=some (.t (k.map kV))/\r=qE c k
def wQ (H:Hp) (a:Ad) (y v:V) (g:Hp):Prop :=
 (∃ c k,H a=some (.k c)/\y=kV k/\c.length<sizeLine/\g=upd H a (.k (mY c k v))) \/
 ∃ c k b,H a=some (.T c)/\y = .ref b/\H b=some (.t (k.map kV))/\c.length<sizeLine/\g=upd H a (.T (mY c k v))
theorem rY.k {k:eF}(e:H a=some (.k g)):rY H a (kV k) (qE g k):=.inl ⟨g,k,.inl e,rfl,rfl⟩
theorem wQ.k {k:eF}(e:H a=some (.k g)) (j:g.length<sizeLine):wQ H a (kV k) v (upd H a (.k (mY g k v))):=.inl ⟨g,k,e,rfl,j,rfl⟩
theorem wQ.t {H:Hp}{a b:Ad}{g:Aa (Aa eF×V)}{k:Aa eF}{v:V}(e:H a=some (.T g)) (j:H b=some (.t (k.map kV))) (l:g.length<sizeLine) :
  wQ H a (.ref b) v (upd H a (.T (mY g k v))):=.inr ⟨g,k,b,e,rfl,j,l,rfl⟩
section
variable {X:Cx}
theorem Inv.big (I:Inv X g j H s):sysModules<s.heap.objs.size:=by
 have h:mainGlobals<s.heap.objs.size:=(I.mod.glob.keeps I.bk).lt;exact Nat.lt_trans (by decide) h
theorem U9 (T:A.units+1<cLine) (I:Inv X r U H s) (g:rY H a y (some v)) (C:lW y u) (h:∀ j J,Inv X r U H J->lW v j->Q j J) :
  wpAny (model X.prog X.w) A (getItem (.ref a) u) Q E s:=by
 rcases g with⟨m,k,e,f,l⟩ | ⟨m,k,b,e,f,n,l⟩
 .subst f;obtain⟨z,hd,t,rel,d⟩:=wM I.hok e;obtain⟨j,hw,c⟩:=sW.some_of (v:=v) (o:=valueAt t k) (by rw[l];exact rel.val k);exact wpAny_getItem_of (wN C) d.mapOf hw (h j _ (I.tok _) c)
 .subst f;cases (show u=Value.ref b from C);obtain⟨z,hd,x,rel,d⟩:=yO I.hok e;obtain⟨j,hw,c⟩:=sW.some_of (v:=v) (o:=(atKey x k).map (·.2)) (by rw[l];exact rel.val k);obtain⟨p,q,i⟩:=cI.mp hw;refine wpAny_getItem_heap (iB T) (zR I.hok n) d q ?_;rw[i];exact h j _ (I.tok _) c
theorem To (C:A.units+1<cLine) (I:Inv X j J H s) (g:rY H a y o) (p:lW y u) (h:∀ r,Inv X j J H r->Q (.bool (!o.isSome)) r) :
  wpAny (model X.prog X.w) A (compareOp .NotIn u (.ref a)) Q E s:=by
 rcases g with⟨f,k,e,d,l⟩ | ⟨f,k,b,e,d,i,l⟩
 .subst d;obtain⟨z,hd,m,rel,c⟩:=wM I.hok e;refine wpAny_notIn_of (wN p) hd c.mapOf ?_;rw[<- (rel.val k).isSome_eq,<- l];exact h _ (I.tok _)
 .subst d;cases (show u=Value.ref b from p);obtain⟨z,hd,n,rel,c⟩:=yO I.hok e;refine wpAny_notIn_heap (iB C) (zR I.hok i) hd c ?_;have q:=(rel.val k).isSome_eq;rw[Option.isSome_map] at q;rw[<- q,<- l];exact h _ (I.tok _)
theorem Ct (I:Inv X g r H s) (p:B7 (H a)) (o:Heap.SameBut a s.heap j) (l:∃ q,j.get? a=some q) (new:oZ X.prog X.w (upd H a ob) j a ob) :
  Inv X g r (upd H a ob) { s with heap:=j,toks:=C } :=
 I.write (x:=a) (e:=a) p (.inl rfl) (λb q c z=>(o.2 b c).trans z) l new
theorem zP {P:Ah}(z:g.length<=sizeLine) (hd:(a == sysModules)=false) (rel:KV g j) (l:o.DictOf (oM P w) a j) :
  oZ P w p o a (.k g):=⟨z,hd,j,rel,l⟩
theorem LY (T:A.units+1<cLine) (I:Inv X j U H s) (g:wQ H a y v J) (p:lW y u) (o:lW v r) (h:∀ C,Inv X j U J C->Q () C) :
  wpAny (model X.prog X.w) A (setItem (.ref a) u r) Q E s:=by
 rcases g with⟨d,k,e,t,l,n⟩ | ⟨d,k,b,e,t,F,l,n⟩
 .subst t n;obtain⟨z,hd,V,rel,m⟩:=zE I.hok e;have D:V.length<=sizeLine:=by rw[<- rel.length];exact z
  have x:(mY d k v).length<=sizeLine:=by have:=Bh d k v;omega
  refine wpAny_setItem_pairs (hsz:=D) (wN p) m λK f B=>h _ ?_
  have S:∃ q,K.get? a=some q:=let ⟨q,_,_,i,_⟩:=f;⟨q,i⟩;exact Ct I (by rw[e];exact True.intro) B S (zP x hd (rel.put k o) f)
 .subst t n;cases (show u=Value.ref b from p);obtain⟨z,hd,W,rel,m⟩:=Op I.hok e;have D:W.length<=sizeLine:=by rw[<- fN rel];exact z
  have x:(mY d k v).length<=sizeLine:=by have:=Bh d k v;omega
  refine wpAny_setItem_heap (hsz:=D) (iB T) (zR I.hok F) m λK f B=>h _ ?_
  obtain⟨q,M,L,i,N,O,P,_,R⟩:=f;refine Ct I (by rw[e];exact True.intro) B ⟨q,i⟩ ⟨x,hd,_,(rel.put k F o).keeps λc Y G=>?_,q,M,L,i,N,O,P,R⟩;rw[lT (BN G e (λz=>nomatch z))];exact G
end
section
variable {X:Cx}
theorem FK (I:Inv X g o H s) (e:Rd H a (.k j)) (h:∀ t l,Inv X g o H l->Q (.int j.length t) l):wpAny (model X.prog X.w) A (call (.builtin "len") [.ref a]) Q E s:=by
 obtain⟨z,hd,c,rel,b⟩:=wM I.hok e;refine call_len_dict hd b (by rw[<- rel.length];rw[jF] at z;omega) ?_;rw[<- rel.length];exact h _ _ (I.tok _)
end
theorem S0 {X:Cx}(I:Inv X j l H s) (g:rY H a y o):s.TypeIs (.ref a) "dict" := by
 rcases g with⟨d,k,e,_,_⟩ | ⟨d,k,b,e,_,_,_⟩
 .obtain⟨_,_,f,_,c⟩:=wM I.hok e;exact c.typeIs
 .obtain⟨_,_,h,_,c⟩:=yO I.hok e;exact c.typeIs
def GG (ty g:TE):TE:=λd H Q=>ty d H λy e=>g d e λx c=>∃ a o,x = .ref a/\rY c a y o/\Q (.b (!o.isSome)) c
section
variable {X:Cx}
theorem Xh (p:X.A.units+1<cLine) (j:PE X i ty) (l:PE X o r):PC X .NotIn i o (GG ty r):=by
 intro c s e H Q I h;refine lA (j c s e H _ I h) λF E ⟨y,f,m,D,w⟩=>lA (l c E e f _ m w) λu G d=>?_
 obtain⟨x,k,n,B,a,v,t,g,z⟩:=d;subst t;obtain rfl:u=Value.ref a:=B;exact To p n g D λK q=>⟨.b (!v.isSome),k,q,rfl,z⟩
end
theorem Sq {P:Ah}(h:Ag) (g:sysModules<h.objs.size):oZ P w H (h.push { cls:=.type "dict",data:=.dict #[] }) h.objs.size (.k []) :=
 ⟨dB _,cV.mpr (eJ (bI g)),[],.nil,Heap.DictOf.new h⟩
theorem Vp {P:Ah}(h:Ag) (g:sysModules<h.objs.size):oZ P w H (h.push { cls:=.type "dict",data:=.dict #[] }) h.objs.size (.T []) :=
 ⟨dB _,cV.mpr (eJ (bI g)),[],.nil,_,#[],0,aX _ rfl,⟨rfl,rfl,rfl⟩,rfl,rfl,fQ⟩
def Vl:TE:=λ_ H Q=>∀ p,H p=none->Q (.ref p) (upd H p (.k []))
def AE:TE:=λ_ H Q=>∀ p,H p=none->Q (.ref p) (upd H p (.T []))
section
variable {X:Cx}
theorem JU:PE X (.Dict [] [] pos) Vl:=λb s c H Q I h =>
 wpAny_Dict_empty ⟨.ref s.heap.objs.size,_,I.laid (a:=s.heap.objs.size) (o:=.k []) (t':=s.toks) (λ_ _ q=>aG _ q) (aP _) (Sq s.heap I.big),rfl,h _ (I.hok.fresh (aP _))⟩
theorem Xc:PE X (.Dict [] [] pos) AE:=λb s c H Q I h =>
 wpAny_Dict_empty ⟨.ref s.heap.objs.size,_,I.laid (a:=s.heap.objs.size) (o:=.T []) (t':=s.toks) (λ_ _ q=>aG _ q) (aP _) (Vp s.heap I.big),rfl,h _ (I.hok.fresh (aP _))⟩
end
def G3:Aa (TE×TE)->St->Hp->(Aa (V×V)->Hp->Prop)->Prop
 | [],_,H,Q=>Q [] H
 | (f,h)::r,a,H,Q=>f a H λx b=>h a b λy c=>G3 r a c λe d=>Q ((x,y)::e) d
abbrev VV:Aa (V×V)->Aa (Ac×Ac)->Prop:=Paired λp q=>lW p.1 q.1/\lW p.2 q.2
def Dt (X:Cx) (pos:Pos) (keys:Aa (Ab Expr)) (values:Aa Expr) (g:Aa (TE×TE)):Prop :=
 ∀ (a:Aa (Ad×Obj)) (s:Ae) (b:St) (H:Hp) (Q:Aa (V×V)->Hp->Prop),Inv X a b H s->G3 g b H Q ->
  wpAny (model X.prog X.w) X.A (evalPairs (pairTrees keys values X.env pos)) (λf e=>∃ d c,Inv X a b c e/\VV d f/\Q d c) X.xe s
theorem CK {X:Cx}:Dt X pos [] [] []:=λa s b H Q I h=>pairTrees_nil_walk ⟨[],H,I,.nil,h⟩
theorem MM {X:Cx}(j:PE X k r) (o:PE X v C) (l:Dt X pos p J g) :
  Dt X pos (some k::p) (v::J) ((r,C)::g):=λa s b H Q I h =>
 pairTrees_cons_walk (lA (j a s b H _ I h) λu B ⟨x,c,f,z,q⟩=>lA (o a B b c _ f q) λF D ⟨y,d,i,A,t⟩ =>lA (l a D b d _ i t) λG E ⟨n,e,m,rel,w⟩=>⟨(x,y)::n,e,m,.cons ⟨z,A⟩ rel,w⟩)
def pU (g more:Aa (eF×V)):Aa (eF×V):=more.foldl (λa b=>mY a b.1 b.2) g
theorem KV.merge:∀ {more:Aa (eF×V)}{l:Aa (eF×Ac)}{g:Aa (eF×V)}{j:Aa (eF×Ac)},KV more l->KV g j->KV (pU g more) (merged j l):=by
 intro more l g j r;unfold KV at r;induction r generalizing g j with
 | nil=>intro q;exact q
 | @cons p q c d h t a =>
  intro b;have e:KV (mY g p.1 p.2) (stored j q.1 q.2):=by
   have:=b.put p.1 h.2;rw[<- h.1];exact this
  exact a e
theorem B2:∀ (more g:Aa (eF×V)),(pU g more).length<=g.length+more.length
 | [],g=>by show g.length<=g.length+0;omega
 | p::r,g=>by
  have a:=B2 r (mY g p.1 p.2);have b:=Bh g p.1 p.2;show (pU (mY g p.1 p.2) r).length<=_;rw[bJ];omega
theorem Pj {P:Ah}:∀ {g:Aa (eF×V)}{o:Aa (Ac×Ac)},VV (g.map λl=>(kV l.1,l.2)) o->∃ j,Carries (oM P w) o j/\KV g j
 | [],_,r=>by rw[kI] at r;cases r;exact⟨[],True.intro,.nil⟩
 | p::g,_,r=>by
  rw[aM] at r;cases r with
  | @cons a b as bs h t =>
   obtain⟨j,c,q⟩:=Pj (P:=P) (w:=w) t;obtain⟨e,d⟩:=b;exact⟨(p.1,d)::j,⟨wN h.1,rfl,c⟩,.cons ⟨rfl,h.2⟩ q⟩
def EZ (g:Aa (TE×TE)):TE:=λe H Q=>∀ p,H p=none->G3 g e (upd H p (.k [])) λd b=>b p=some (.k [])/\∃ a:Aa (eF×V),d=a.map (λc=>(kV c.1,c.2))/\a.length<=15/\Q (.ref p) (upd b p (.k (pU [] a)))
theorem ME {X:Cx}(h:Dt X pos keys values l) (g:keys.all (·.isSome)=true) (r:keys.length=values.length) (p:keys≠[])
  (j:keys.length<=15):PE X (.Dict keys values pos) (EZ l):=by
 intro f s N H Q I q;have A:=I.hok.fresh (aP s.heap.objs.size);have n:=I.laid (a:=s.heap.objs.size) (o:=.k []) (h':=s.heap.push { cls:=.type "dict",data:=.dict #[] }) (t':=s.toks) (λ_ _ q=>aG _ q) (aP _) (Sq s.heap I.big);refine wpAny_Dict_walk (knd:=oM X.prog X.w) g r p j (lA (h f _ N _ _ n (q _ A)) λW V i=>?_);obtain⟨S,O,m,rel,e,d,u,R,F⟩:=i;subst u;obtain⟨L,c,K⟩:=Pj (P:=X.prog) (w:=X.w) rel;obtain⟨z,hd,M,G,t⟩:=zE m.hok e;cases G;refine⟨L,c,t,λv b D=>⟨.ref s.heap.objs.size,_,?_,rfl,F⟩⟩;have E:(pU [] d).length<=sizeLine:=by
  have x:=B2 d [];rw[fG] at x;rw[jF];omega
 have y:∃ q,v.get? s.heap.objs.size=some q:=let ⟨q,_,_,B,_⟩:=b;⟨q,B⟩;exact Ct m (by rw[e];exact True.intro) D y (zP E hd (K.merge .nil) b)
structure M2 (X:Cx) (o:Expr) (m:Str) (apos:Pos) (e f:Expr) (cpos:Pos):Prop where
 base:attributeBase o m X.env (eval o X.env)=eval o X.env
 few:((backTo cpos (starEach [e,f] X.env)).all (λx=>!x.1)&&(backToKw cpos (keywordEach [] X.env)).all (λx=>x.1.isSome) && decide (([e,f]:List Expr).length+([]:List Keyword).length+(if ([]:List Keyword).isEmpty then 0 else 1)<30))=true
 line:(apos.endLine == cpos.line)=true
 trees:backTo cpos (starEach [e,f] X.env)=[(false,eval e X.env),(false,eval f X.env)]
def G6 (H:Hp) (a:Ad):Prop:=(∃ b,Rd H a (.k b))\/∃ b,Rd H a (.T b)
theorem Uo {X:Cx}(I:Inv X j l H s) (d:G6 H a) :
  s.TypeIs (.ref a) "dict" /\ (∀ b,Value.ref a = .ref b->∃ g,s.heap.get? b=some g/\g.dict=none)/\(a == sysModules)=false:=by
 rcases d with⟨i,e⟩ | ⟨i,e⟩
 .obtain⟨_,hd,k,_,c⟩:=wM I.hok e;refine⟨c.typeIs,λb q=>?_,hd⟩;cases q;obtain⟨g,_,_,f,h,_⟩:=c;exact⟨g,f,h.2.1⟩
 .obtain⟨_,hd,m,_,c⟩:=yO I.hok e;refine⟨c.typeIs,λb q=>?_,hd⟩;cases q;obtain⟨g,_,_,f,h,_⟩:=c;exact⟨g,f,h.2.1⟩
section
variable {X:Cx}
theorem IQ (T:A.units+1<cLine) (I:Inv X j U H s) (g:rY H a y o) (p:lW y u) (rd:lW d r) (h:∀ J C,Inv X j U H C->lW (o.getD d) J->Q J C) :
  wpAny (model X.prog X.w) A (call (.builtin "dict.get") [.ref a,u,r]) Q E s:=by
 rcases g with⟨i,k,e,f,l⟩ | ⟨i,k,b,e,f,m,l⟩
 .subst f;obtain⟨z,hd,q,rel,c⟩:=wM I.hok e;refine call_meetsIn jR c.typeIs PySem.F.entry_dict_get (PySem.F.args_dict_get_3 _ _ _) (meets_dict_get_default (oM X.prog X.w) a (wN p) hd r) ⟨_,c.mapOf,h _ _ (I.tok _) ?_⟩;rw[l];exact (rel.val k).getD rd
 .subst f;cases (show u=Value.ref b from p);obtain⟨z,hd,n,rel,c⟩:=yO I.hok e;refine call_meetsIn jR c.typeIs PySem.F.entry_dict_get (PySem.F.args_dict_get_3 _ _ _) (meetsH_dict_get_default (tupleKind (oM X.prog X.w)) a b hd r) ⟨iB T,k,n,zR I.hok m,c,h _ _ (I.tok _) ?_⟩;rw[l];exact (rel.val k).getD rd
end
def AH (g ty j:TE):TE:=λb H Q=>g b H λx c=>∃ a,x = .ref a/\G6 c a/\ty b c λy e=>j b e λz d=>∃ o,rY d a y o/\Q (o.getD z) d
section
variable {X:Cx}
theorem BP (C:X.A.units+1<cLine) (r:PE X o J) (l:PE X e ty) (p:PE X f T) (m:M2 X o "get" apos e f j):PE X (.Call (.Attribute o "get" apos) [e,f] [] j) (AH J ty T):=by
 intro b s k H Q I h;refine wpAny_Call_method m.base m.few m.line jH jR PySem.F.type_dict_get (lA (r b s k H _ I h) λu P c=>?_);obtain⟨x,q,n,M,a,E,d,G⟩:=c;subst E;obtain rfl:u=Value.ref a:=M;obtain⟨S,V,_⟩:=Uo n d;refine⟨S,V,?_⟩;rw[m.trees];refine Calls.callWith_builtin rfl (Calls.evalArgs_plain (iA (lA (l b P k q _ n G) λY R ⟨y,t,w,N,K⟩ =>iA (lA (p b R k t _ w K) λW U ⟨z,v,B,O,Z,g,L⟩=>jL ?_))));exact IQ C B g N O λw' s4 D i=>⟨_,v,D,i,L⟩
end
section
variable {X:Cx}
theorem GF (I:Inv X j r H s) (e:Rd H a (.k g)) (h:∀ p l,H p=none->Inv X j r (upd H p (.k g)) l->Q (.ref p) l):wpAny (model X.prog X.w) A (call (.type "dict") [.ref a]) Q E s:=by
 obtain⟨z,hd,n,rel,f⟩:=wM I.hok e;refine kt_call_dict hd f (by rw[<- rel.length];exact z) λm c i=>?_
 refine h _ _ (I.hok.fresh (aP _)) (I.laid (a:=s.heap.objs.size) (o:=.k g) (t':=s.toks) (λb q d=>?_) (aP _) (zP z (cV.mpr (eJ (bI I.big))) rel c));exact (i.2 b (bI (aU d))).trans (aG _ d)
end
end L2
namespace Att
open PySem PySem.W PySem.Calls PyProof.Rows
theorem Xt {P:Params}:∀ (g:Aa Int) (j:Aa Ac),WellAll P h j (g.map WData.int)->IntsAre j g:=by
 intro g;induction g with
 | nil =>
  intro j w;rw[kI] at w;cases w;exact .nil
 | cons n g c =>
  intro j w;rw[aM] at w;cases w with
  | cons a b =>
   cases a;exact .cons _ _ (c _ b)
theorem Xj {l:OpenLaw}(I:l.most=some n){P:Params}
  (j:l.row.toRowW.claim.pre args=true) (p:WellAll P h o args) :
  ∃ a C g,o=[Value.ref a]/\args=[WData.list (g.map WData.int)]/\h.get? a=some { cls:=.type "list",data:=.seq C.toArray }/\IntsAre C g/\g.length<=n:=by
 have i:WShape.hasAll [] args [.list .int]=true:=(pre_splitW j).1;have k:l.pre.holds [] { args:=args }=true:=(pre_splitW j).2;obtain⟨d,r,rfl,m,s⟩:=hasAllW_cons i;obtain rfl:=hasAllW_nil s;obtain⟨y,rfl,t⟩:=hasW_list m;obtain⟨g,rfl⟩:=items_int t;have c:g.length<=n:=by
  unfold OpenLaw.pre at k;have e:(WTm.not (.lt (.lit (.int (n:Int))) (.len (.arg 0)))).holds [] { args:=[.list (g.map .int)] }=true:=by
   have e:=(holds_andW k).1;rw[I] at e;exact e
  have f:=condW_of e (w_not (w_lt w_lit (w_len_list (w_arg rfl))));rw[aA] at f;refine Nat.le_of_not_lt λq=>?_
  have v:(n:Int)<((g.length:Nat):Int):=by omega
  first
   | (rw[bQ v] at f;exact absurd f (by decide))
   | (simp at f;omega)
 cases p with
 | cons w x =>
  cases x;cases w with
  | list u b=>exact⟨_,_,g,rfl,rfl,u,Xt g _ b,c⟩
theorem GP (l:OpenLaw) (args:Aa WData):l.row.toRowW.claim.post args (.bool true) args=true :=
 postW_of (r:=l.row.toRowW) (X:=(true == true))
  (show WShape.has [] (.bool true) .bool=true by first | rfl | decide | simp[WShape.has,WShape.arms,WShape.armsAll])
  (show (WTm.eq .res (.lit (.bool true))).value [] { args:=args,res:=some (.bool true),after:=args }=some (.bool (true == true)) from w_eq_bool (w_res rfl) w_lit) rfl
theorem attach_call {l:OpenLaw}
  (hn:l.most=some n) (aa:d.params.defaults=[])
  (call:∀ (w:World) (j g:Ae) (T mb:Af->Ab Ac) (J:Ad) (o:Obj) (pm cd p:Ac) (a:Ad) (I:Aa Ac) (U:Aa Int),Ground q C [] XP w j T mb g.heap->YP w g.heap ->g.heap.get? J=some o->o.data = .func (docDef d.name d.params d.body d.scope pm cd p)->g.heap.CodeRec cd d.name->T d.name=some (.ref J) ->g.heap.get? a=some { cls:=.type "list",data:=.seq I.toArray }->IntsAre I U->U.length<=n->g.gens=#[] ->
   codeAny (model l.prog w) callerA (.call (.ref J) ⟨[.ref a],[]⟩) (λr s'=>r = .ok (.ret (.bool true))/\OldK g.heap s'.heap/\s'.os=g.os/\AllBare s'.gens) g) :
  WalkO q C XP YP l.row.toRowW d [] (λf I=>PySem.call f I):=by
 intro w j g T mb G Y J o pm cd p v kV E hd i s k A args u as h t H m B;obtain rfl:v = .none:=Dflts.none s aa;obtain rfl:kV = .none:=Dflts.noKw s;obtain⟨a,I,U,rfl,rfl,e,b,c⟩:=Xj hn h m;refine enter_call (codeAny_mono (call w j g T mb J o pm cd p a I U G Y E (fd_plain hd) i k e b c A) λr s' F=>?_);obtain⟨rfl,x,y,z⟩:=F;exact⟨.inl ⟨.bool true,.bool true,[],rfl,λ_=>rfl,.bool true,GP l _,λ_=>⟨List.Pairwise.nil,λ_ D=>(nomatch D)⟩⟩,x,y,z⟩
end Att
namespace L2
open PySem PySem.Spec PyProof.Rows
theorem Kx:∀ {j:Aa Ac}{g:Aa Int},IntsAre j g->lL (g.map V.int) j
 | _,_,.nil=>.nil
 | _,_,.cons n t h=>.cons ⟨t,rfl⟩ (Kx h)
def Hx (H:Hp):Prop:=∀ b,H b=none\/∃ o a,H b=some (.frz o (.l a))
theorem Wh {P:Ah}{K:lK}
  (KX:K.In g.heap) (T:g.heap.Ns mainGlobals mg) (j:g.heap.Ns builtinsNs mb) (ab:∀ x:Af,x ≠ "__name__" -> mb x=bootBuiltins x) (J:g.heap.NoLimit) (hg:g.gens=#[])
  (U:g.heap.get? a=some { cls:=.type "list",data:=.seq I.toArray }) (hi:IntsAre I ns) (hl:ns.length<=sizeLine) (hr:Room k callerA)
  (F:∀ base:Ag,K.In base->base.Ns mainGlobals mg->FnOk P w K mg base CX k fa fd [x] sp) (C:∀ (s:Ae) (u:Ac),BindsTo s fd ⟨[u],[]⟩ [(x,u)])
  (ac:∀ H:Hp,Hx H->hI K H a (ns.map V.int)->sp [.ref a] H (λv _=>v = .b true) λ_ _ _=>False)
  (aa:∀ H e p,CX [] H g (λ_ _ _=>False) e p->False) :
  codeAny (model P w) callerA (.call (.ref fa) ⟨[.ref a],[]⟩) (λr p=>r = .ok (.ret (.bool true))/\OldK g.heap p.heap/\p.os=g.os/\AllBare p.gens) g:=by
 have R:=Kx hi;have D:=hi.length;have core:∀ H:Hp,Hx H->hI K H a (ns.map V.int)->nP P w H g.heap->(∀ b,H b≠none->b=a)->(H a≠none->K.lookup a=none) ->
   codeAny (model P w) callerA (.call (.ref fa) ⟨[.ref a],[]⟩) (λr p=>r = .ok (.ret (.bool true))/\OldK g.heap p.heap/\p.os=g.os/\AllBare p.gens) g:=by
  intro H Q hS A O hK;have c:∀ {b:Ad} {o:Obj},g.heap.get? b=some o->H b=none->(vU g.heap H).get? b=some o:=λe n=>Z3 e n
  have M:∀ {b:Ad} {o:Obj} {t:Array DictEntry} {i:Nat},g.heap.get? b=some o->o.data = .dict t i->H b=none:=λ{b o t i} e d=>by
   cases q:H b with
   | none=>rfl
   | some u =>
    have G:b=a:=O b (by rw[q];simp);subst G;rw[U] at e;cases e;have S:Data.seq I.toArray _=Data.dict t i:=d;cases S
  have f:∀ {b:Ad} {m:Af->Ab Ac},g.heap.Ns b m->(vU g.heap H).Ns b m:=λ{b m} ⟨o,t,i,e,d,r⟩=>⟨o,t,i,c e (M e d),d,r⟩
  have y:K.In (vU g.heap H):=λb o e=>c (KX b o e) (by
   cases q:H b with
   | none=>rfl
   | some u =>
    have G:b=a:=O b (by rw[q];simp);subst G;rw[hK (by rw[q];simp)] at e;cases e)
  have hM:Mod K mg (vU g.heap H):=⟨y,f T,⟨mb,f j,ab⟩,let ⟨mc,Z,h2⟩:=J;⟨mc,f Z,h2⟩⟩;have W:Env0 P w K mg (vU g.heap H) callerA [] g H:=⟨rfl,hM,λb o e=>Xy e,kW (ER _ _),trivial,λb j=>absurd (show b∈([]:Aa Ad) from j) (by simp),A,.of_eq hg⟩;refine codeAny_mono ((F _ y (f T)).run callerA [] g H ⟨[.ref a],[]⟩ [.ref a] [.ref a] _ _ hr W (C g (.ref a)) (.cons rfl .nil) (ac H Q hS)) λr p h=>?_
  cases r with
  | error e=>exact (aa H e p h).elim
  | ok Y =>
   cases Y with
   | next=>exact False.elim h
   | brk=>exact False.elim h
   | cont=>exact False.elim h
   | ret u =>
    obtain⟨v,H',os,bare,un,B,r',q⟩:=h;have q':v = .b true:=q;subst q';obtain rfl:u=Value.bool true:=r';refine⟨rfl,OldK.of_keep λb o e=>?_,os,bare⟩;cases q:H b with
    | none=>exact un.keep b o e q (by intro z;exact absurd (show b∈([]:Aa Ad) from z) (by simp)) (by simp)
    | some u =>
     rcases Q b with z | ⟨ob,xs,z⟩
     .rw[q] at z;cases z
     .have z2:=un.frzs b ob _ z;obtain⟨N,_⟩:=A b _ z;obtain⟨X,_⟩:=B b _ z2;rw[e] at N;cases N;exact X
 cases L:K.lookup a with
 | some o =>
  have e:=KX a o L;rw[U] at e;cases e;refine core (λ_=>none) (λ_=>.inl rfl) (.inr ⟨_,I.toArray,_,L,rfl,rfl,rfl,by rw[aR,D];exact hl,by simpa using R⟩) (λb u z=>by have E:(none:Ab HO)=some u:=z;cases E) (λb z=>absurd rfl z) λz=>absurd rfl z
 | none =>
  refine core (λb=>if b=a then some (.frz { cls:=.type "list",data:=.seq I.toArray } (.l (ns.map V.int))) else none) (λb=>?_) (.inl (.inr ⟨{ cls:=.type "list",data:=.seq I.toArray },aO rfl⟩)) (λb u z=>?_) (λb z=>?_) λ_=>L
  .by_cases j:b=a
   .exact .inr ⟨_,_,aO j⟩
   .exact .inl (aJ j)
  .by_cases j:b=a
   .have E:=(aO j).symm.trans z;cases E;subst j;exact⟨U,by rw[aA];exact hl,I,_,R,U⟩
   .have E:=(aJ j).symm.trans z;cases E
  .by_cases j:b=a
   .exact j
   .exact absurd (aJ j) z
theorem walk_of {l:PySem.W.OpenLaw}{n k:Nat}{q:Ah}{j:Aa Af}{XP:(Af->Ab Ac)->Ag->Prop}{YP:World->Ag->Prop}{d:DefRec}{K:Params->lK}{CX:World->Ak}{sp:World->Sp}{x:Af}
  (hn:l.most=some n) (U:n<=sizeLine) (J:d.params.defaults=[]) (hr:Room k callerA)
  (hY:∀ (w:World) (h:Ag),YP w h->(K w.params).In h)
  (F:∀ (w:World) (p:Af->Ab Ac) (r:Ad) (h:Ag),(K w.params).In h->h.Ns mainGlobals p->p d.name=some (.ref r) ->∃ fd:FuncData,(∀ (s:Ae) (u:Ac),BindsTo s fd ⟨[u],[]⟩ [(x,u)]) /\ ∀ base:Ag,(K w.params).In base->base.Ns mainGlobals p->FnOk l.prog w (K w.params) p base (CX w) k r fd [x] (sp w))
  (aa:∀ (w:World) (H:Hp) (a:Ad) (C:Aa Int),C.length<=n->Hx H->hI (K w.params) H a (C.map V.int)->sp w [.ref a] H (λv _=>v = .b true) λ_ _ _=>False)
  (I:∀ (w:World) (H:Hp) (s:Ae) (e:Ac) (s':Ae),CX w [] H s (λ_ _ _=>False) e s'->False) :
  PySem.W.WalkO q j XP YP l.row.toRowW d [] (λf vs=>PySem.call f vs):=by
 refine Att.attach_call hn J λw A t p Q r o pm cd B a vs C G Y P hd N y m i c O=>?_
 have z:=hY w _ Y;obtain⟨fd,M,D⟩:=F w p r _ z G.T.g y;exact Wh z G.T.g G.T.b G.T.builtins G.T.nolimit O m i (bP c U) hr D M (λH E L=>aa w H a C c E L) λH e s'=>I w H t e s'
def rX (s:Stmt):Arguments:=match s with
 | .FunctionDef _ a _ _ _ _ _ _ _ _=>a
 | _=>{ posonlyargs:=[],args:=[],vararg:=none,kwonlyargs:=[],kw_defaults:=[],kwarg:=none,defaults:=[] }
def qS (s:Stmt):Aa Stmt:=match s with
 | .FunctionDef _ _ b _ _ _ _ _ _ _=>b
 | _=>[]
def mA (s:Stmt):Scope:=match s with
 | .FunctionDef _ _ _ _ _ _ a _ _ _=>a
 | _=>{ kind:=.function,names:=[],isGenerator:=false,isCoroutine:=false }
abbrev oD:Ak:=λ_ _ _ _ _ _=>False
abbrev E0:XK:=λ_ _ _=>False
theorem tG {X:Cx}:E3 oD X E0:=λ_ _ _ _ _ _ _ h=>h.elim
structure Fun (K:lK) (x qual:Str) (st:Stmt) (f:Addr) (fd:FuncData):Prop where
 ex:∃ (oc:Value) (od:Option Addr) (kV doc pm:Value) (an:Option Addr) (cdv ct:Value) (osl:Array (Option Value)),
  fd=PySem.W.fnOf x qual (rX st) (qS st) (mA st) .none kV doc pm an cdv ct/\K.lookup f=some ⟨oc,od,.func fd,osl⟩/\PySem.W.codeIn K cdv qual=true
 kp:PySem.W.keepIn K (.ref f)=true
section
variable {P:Ah}{K:lK}
theorem Fun.ok {st:Stmt}(F:Fun K x l st f fd) (S:FnScope N r (mA st)) (len:∀ p H Q E,C p H Q E->p.length=r.length)
  (o:∀ (j:Ac) (A:Around) (g:Aa Env) (s:Ae) (H:Hp) (p:Aa V) (Q:VK) (E:XK),Room k (A.deeper (envOfC l (mA st) s.heap.objs.size f j))->C p H Q E ->∃ t,oN (xH oD P w K J base N l (mA st) f j A g s H E).nox (qS st) t/\t { nx:=λ_ I=>Q .e I,rt:=Q } (start N p) H):FnOk P w K J base oD (k+1) f fd r C:=by
 obtain⟨v,y,kV,c,pm,n,j,u,m,rfl,i,a⟩:=F.ex;refine EG i a S len λA g s H p Q E d b=>?_
 obtain⟨t,h,q⟩:=o j A g s H p Q E d b;exact⟨t,h.nox,q⟩
theorem Fun.binds {st:Stmt}(F:Fun K x l st f fd)
  (h:∀ (kV j pm:Ac) (o:Ab Ad) (g p:Ac) (r:Aa Ac),r.length=C.length->bindArgs (PySem.W.fnOf x l (rX st) (qS st) (mA st) .none kV j pm o g p) ⟨r,[]⟩=pure (C.zip r)):wJ K fd C []:=by
 obtain⟨d,e,kV,j,pm,o,g,p,b,rfl,c,a⟩:=F.ex;exact .all (h kV j pm o g p)
theorem Lx {st:Stmt}{kV:Ac}(l:K.lookup f=some ⟨I,J,.func (PySem.W.fnOf x g (rX st) (qS st) (mA st) .none kV o pm r j C),p⟩)
  (c:PySem.W.codeIn K j g=true) (k:PySem.W.keepIn K (.ref f)=true):Fun K x g st f (PySem.W.fnOf x g (rX st) (qS st) (mA st) .none kV o pm r j C):=⟨⟨I,J,kV,o,pm,r,j,C,p,rfl,l,c⟩,k⟩
end
theorem Gv (g:Room k A):A.units+1<cLine:=cT (Nat.add_le_add_left (by decide:1<=64) _) g.units
section
variable {X:Cx}
theorem pv (i:Nat) (j:X.N[i]?=some x:=by rfl) (l:C5 X.env.scope x:=by first | exact Or.inl rfl | exact Or.inr (Or.inl rfl) | exact Or.inr (Or.inr rfl)) (hd:(x == ("__debug__" : Af))=false:=by decide)
  (g:(x == ("__classdict__" : Af))=false:=by decide):PE X (.Name x pos) (pJ i):=LW j l hd g
theorem CJ:nF X (.builtin "len") (λj H Q=>∃ a g,j=[V.ref a]/\H a=some (.k g)/\Q (.int g.length) H):=by
 intro b s m H j i Q I r h;obtain⟨a,g,rfl,d,q⟩:=h;obtain⟨u,rfl,e⟩:=oS r;cases e;exact FK I (.inl d) λt f c=>⟨.int g.length,H,c,⟨t,rfl⟩,q⟩
end
theorem wB {A B:Prop}(h:B):if false=true then A else B:=by
 rw[aJ aT];exact h
theorem Bo {c A B:Prop} [Decidable c] (g:c->A) (j:¬ c->B):if c then A else B:=by
 by_cases h:c
 .rw[aO h];exact g h
 .rw[aJ h];exact j h
def oW (H g:Hp):Prop:=∀ b o,H b=some o->g b=some o
theorem oW.trans (a:oW H g) (b:oW g j):oW H j:=λc o h=>b c o (a c o h)
theorem oW.free (e:oW H g) (h:g l=Option.none):H l=Option.none:=by
 cases q:H l with
 | none=>rfl
 | some o =>
  rw[e l o q] at h;cases h
theorem oW.seq {K:lK}(e:oW H g) (h:hI K H a j):hI K g a j:=by
 rcases h with (h | ⟨o,h⟩) | h
 .exact .inl (.inl (e _ _ h))
 .exact .inl (.inr ⟨o,e _ _ h⟩)
 .exact .inr h
section
variable [DecidableEq κ]
theorem S1:∀ {l:Aa κ}{k:κ},l.Nodup->¬ k∈l->(l++[k]).Nodup
 | [],k,_,_=>by simp
 | a::r,k,h,b=>by
  obtain⟨c,d⟩:=bX.mp h;show (a::(r++[k])).Nodup;refine bX.mpr ⟨λm=>?_,S1 d λm=>b (aI.mpr (Or.inr m))⟩;rcases bE.mp m with q | q
  .exact c q
  .exact b (aI.mpr (Or.inl (bF.mp q).symm))
end
section
variable {X:Cx}
theorem Gb {K:lK}:∀ {j:Aa Int}{g:Aa Ac},lL (j.map V.int) g->∃ xs:Array (Int×Tok),g.toArray=intItems xs/\j=xs.toList.map (·.1)
 | [],_,.nil=>⟨#[],by simp[intItems],rfl⟩
 | n::j,_,.cons r c=>by
  obtain⟨t,rfl⟩:=r;obtain⟨xs,a,b⟩:=Gb (K:=K) c;refine⟨(⟨(n,t)::xs.toList⟩:Array (Int×Tok)),?_,by rw[b];rfl⟩;have:(intItems xs).toList=_:=(dD Array.toList a).symm;unfold intItems at this |-;refine kT.mp ?_;simp only[Array.toList_map] at this |-;rw[aM,this]
theorem E9 (p:l=o.toList.map (·.1)) (g:j<o.size):∃ h:j<l.length,numAt o j=l[j]:=by
 subst p;refine⟨by simpa using g,?_⟩;simp[numAt,g]
theorem F7 (l:X.calm=true):nF X (.builtin "sum") (λj H Q=>∃ (p:Ad) (g:Aa Int),j=[.ref p]/\hI X.K H p (g.map V.int)/\Q (.int g.sum) H):=by
 intro a s z H j y Q I r h;obtain⟨p,g,rfl,d,q⟩:=h;obtain⟨u,rfl,m⟩:=oS r;cases m;obtain⟨f,k,i,w⟩:=I.list d;obtain⟨t,e,b⟩:=Gb (K:=X.K) k;refine sum_intListG (xs:=t) (I.ok.hd l) (e▸i.isList) λv x n c=>⟨.int g.sum,H,I.kept c,⟨n,?_⟩,q⟩
 rw[preSum_eq,bW (by simp),b]
theorem BA (l:X.calm=true):nF X (.builtin "min") (λxs H Q=>∃ (p:Ad) (g:Aa Int),xs=[.ref p]/\hI X.K H p (g.map V.int)/\g≠[]/\∀ m:Int,m∈g->(∀ a∈g,m<=a)->Q (.int m) H):=by
 intro n s Y H xs W Q I r h;obtain⟨p,g,rfl,B,f,q⟩:=h;obtain⟨u,rfl,N⟩:=oS r;cases N;obtain⟨E,M,L,P⟩:=I.list B;obtain⟨b,e,d⟩:=Gb (K:=X.K) M;have i:0<b.size:=by
  rcases kM b.size with z | z
  .exfalso;apply f;rw[d];simp[Array.size_eq_zero_iff.mp z]
  .exact z
 refine min_intList (xs:=b) (I.ok.hd l) (e▸L.isList) i λv O S D A=>?_
 obtain⟨t,rfl⟩:=intItems_at (xs:=b) D;have c:=argBest_lt (numAt b) (b.size-1);obtain⟨G,w⟩:=E9 d (cT c.1 (show b.size-1<b.size by omega));refine⟨.int _,H,I.kept A,⟨t,rfl⟩,q _ (w▸bR G) λa y=>?_⟩;obtain⟨j,k,rfl⟩:=cW y;have F:j<b.size:=by rw[d] at k;simpa using k
 obtain⟨R,x⟩:=E9 d F;exact x▸c.2 j (by omega)
theorem DR (l:X.calm=true):nF X (.builtin "max") (λxs H Q=>∃ (p:Ad) (g:Aa Int),xs=[.ref p]/\hI X.K H p (g.map V.int)/\g≠[]/\∀ m:Int,m∈g->(∀ a∈g,a<=m)->Q (.int m) H):=by
 intro n s Y H xs W Q I r h;obtain⟨p,g,rfl,B,f,q⟩:=h;obtain⟨u,rfl,N⟩:=oS r;cases N;obtain⟨E,M,L,P⟩:=I.list B;obtain⟨b,e,d⟩:=Gb (K:=X.K) M;have i:0<b.size:=by
  rcases kM b.size with z | z
  .exfalso;apply f;rw[d];simp[Array.size_eq_zero_iff.mp z]
  .exact z
 refine max_intList (xs:=b) (I.ok.hd l) (e▸L.isList) i λv O S D A=>?_
 obtain⟨t,rfl⟩:=intItems_at (xs:=b) D;have c:=argBest_gt (numAt b) (b.size-1);obtain⟨G,w⟩:=E9 d (cT c.1 (show b.size-1<b.size by omega));refine⟨.int _,H,I.kept A,⟨t,rfl⟩,q _ (w▸bR G) λa y=>?_⟩;obtain⟨j,k,rfl⟩:=cW y;have F:j<b.size:=by rw[d] at k;simpa using k
 obtain⟨R,x⟩:=E9 d F;exact x▸c.2 j (by omega)
theorem Hy:∀ {j:Aa Af}{g:Aa Ac},lL (j.map V.str) g->StrsAre g j:=by
 intro j;induction j with
 | nil=>intro g r;cases r;exact .nil
 | cons y r c =>
  intro g h;cases h with
  | cons a b =>
   obtain⟨t,rfl⟩:=a;exact .cons _ _ (c b)
def V8 (K:lK):V->Aa V->Hp->VK->Prop:=λx b H Q=>∃ (z:Af) (l:Ad) (a:Aa Af),x = .str z/\b=[.ref l]/\(hI K H l (a.map V.str)\/mK K H l (a.map V.str)) /\
 (a.map (·.length)).sum+a.length*z.length<=16777216/\Q (.str (Txt.join z a)) H
theorem AS:uK X "str.join" (V8 X.K):=by
 intro e s B H x y v w Q I m i h;obtain⟨z,l,A,rfl,rfl,a,d,q⟩:=h;obtain⟨t,rfl⟩:=m;obtain⟨u,rfl,f⟩:=i.one;cases f;rcases a with a | a
 .obtain⟨b,r,c,_⟩:=I.list a;exact join_list c.isList (by simpa using Hy r) d λn k=>⟨.str _,H,I.tok _,⟨_,rfl⟩,q⟩
 .obtain⟨b,r,c,_⟩:=I.tuple a;exact join_tuple c (by simpa using Hy r) d λn k=>⟨.str _,H,I.tok _,⟨_,rfl⟩,q⟩
end
section
variable {X:Cx}
def J6 (K:lK) (neg:Bool):R2:=λx y H Q=>∃ (a b:Ad) (c:Aa V),x = .ref a/\y = .ref b/\hI K H a c/\hI K H b []/\Q (.b (if neg then !c.isEmpty else c.isEmpty)) H
theorem O8 (g:X.A.units+64<cLine):mL X (compareOp .Eq) (J6 X.K false):=by
 intro c s M H x y v u Q I F G h;obtain⟨a,b,L,rfl,rfl,f,z,q⟩:=h;cases F;cases G;obtain⟨B,D,m,_⟩:=I.list f;obtain⟨k,E,n,_⟩:=I.list z;cases E;have t:∀ d,d=L.isEmpty->EP X c M Q (.bool d) s:=λd e=>⟨.b d,H,I,rfl,by subst e;exact q⟩
 cases D with
 | nil=>exact SeqAt.RcAt.lists (e:=λ_=>true) m.isList n.isList rfl (by omega) (λi f _=>by simp at f) X.prog X.w _ _ (t _ (by simp))
 | cons r N=>exact SeqAt.RcAt.lists_lengths m.isList n.isList (by simp) (by omega) X.prog X.w _ _ (t _ rfl)
end
section
variable {X:Cx}
def pC (z:Af) (lo g:Ab Int):Af:=⟨((z.cps.toList.drop (HT.sIx z.length 0 lo)).take (HT.sIx z.length z.length g-HT.sIx z.length 0 lo)).toArray⟩
theorem V1 (lo g:Ab Int) (n:Nat):Builtin.Str.strSliceIndices lo g 1 n=(List.range (HT.sIx n n g-HT.sIx n 0 lo)).map (HT.sIx n 0 lo+·):=by
 unfold Builtin.Str.strSliceIndices;rw[<- sliceRange_one];have c:∀ (v:Ab Int) (d:Nat),d<=n->(match v with | none=>((d:Nat):Int) | some i=>if (1:Int)>0 then max 0 (min (if i<0 then i+(n:Int) else i) (n:Int)) else max (-1) (min (if i<0 then i+(n:Int) else i) ((n:Int)-1)))=((HT.sIx n d v:Nat):Int):=by
  intro v d hd;cases v with
  | none=>rfl
  | some i =>
   simp only[HT.sIx,show (1:Int)>0 by decide,gA];by_cases h:i<0
   .simp only[h,gA]<;>omega
   .simp only[h,fX]<;>omega
 have a:=c lo 0 (dB _);have b:=c g n (aP _);simp only[show (1:Int)>0 by decide,gA] at a b |-;rw[<- a,<- b];cases lo<;>cases g<;>rfl
def Lh:V->Ab Int->Ab Int->Hp->VK->Prop:=λx lo a H Q=>∃ z:Af,x = .str z/\z.length<=sizeLine/\Q (.str (pC z lo a)) H
theorem Ob (p:IsPart v o):∃ l:Ab (Int×Tok),v=partValue l/\o=l.map (·.1):=by
 cases p with
 | none=>exact⟨none,rfl,rfl⟩
 | int i t=>exact⟨some (i,t),rfl,rfl⟩
theorem wL (z:Af):z.cps.toList.length=z.length:=by
 rw[dJ];rfl
theorem Ww {a b:Af}(h:a.cps.toList=b.cps.toList):a=b:=by
 obtain⟨a⟩:=a;obtain⟨b⟩:=b
 congr
 exact kT.mp h
theorem J0:tK X Lh:=by
 intro c s K H x v E G lo B sl Q I A n w y h;obtain⟨z,rfl,D,q⟩:=h;obtain⟨t,rfl⟩:=A;obtain⟨l,rfl,rfl⟩:=Ob w;obtain⟨u,rfl,rfl⟩:=Ob y;refine⟨"str",_,PySem.F.slot_str_getitem.lookup,kK _ z t,?_⟩;refine wpAny_getItem_str_slice (l:=l) (u:=u) (st:=none) n rfl ?_;have e:slicePicked z l u none=(List.range (HT.sIx z.length z.length (u.map (·.1))-HT.sIx z.length 0 (l.map (·.1)))).map (HT.sIx z.length 0 (l.map (·.1))+·):=V1 _ _ _;have d:(⟨((slicePicked z l u none).filterMap (z.cps[·]?)).toArray⟩:Af)=pC z (l.map (·.1)) (u.map (·.1)):=by
  rw[e,pick_run];rfl
 have m:=HT.sIx_le z.length z.length (aP _) (u.map (·.1));have b:=HT.sIx_le z.length 0 (dB _) (l.map (·.1));unfold sliceMade;split
 .rename_i k
  have a:(slicePicked z l u none).length=z.length:=by
   have:=(cB _ _).mp k;exact eq_of_beq this.2
  have f:pC z (l.map (·.1)) (u.map (·.1))=z:=by
   rw[e,aA,bU] at a;apply Ww;show ((z.cps.toList.drop _).take _)=z.cps.toList;have i:HT.sIx z.length 0 (l.map (·.1))=0:=by omega
   rw[i] at a |-;rw[List.drop_zero,bW];rw[wL];omega
  rw[f] at q;exact⟨.str z,H,I,⟨t,rfl⟩,q⟩
 .rw[d];refine⟨?_,.str _,H,I.tok _,⟨_,rfl⟩,q⟩;have:(pC z (l.map (·.1)) (u.map (·.1))).length<=z.length:=by
   show ((z.cps.toList.drop _).take _).toArray.size<=_;rw[aR,bN,eT,wL];omega
  omega
theorem Up:nF X (.type "dict") (λj H Q=>∃ (a:Ad) (g:Aa (eF×V)),j=[.ref a]/\H a=some (.k g)/\∀ p,H p=none->Q (.ref p) (upd H p (.k g))):=by
 intro b s n H j m Q I r h;obtain⟨a,g,rfl,d,q⟩:=h;obtain⟨u,rfl,f⟩:=oS r;cases f;exact GF I (.inl d) λp i e c=>⟨.ref p,_,c,rfl,q p e⟩
end
def tO (z:Af):It:=⟨λi _=>i<z.length,λi H x a=>a=H/\∃ c,z.cps[i]?=some c/\x = .str ⟨#[c]⟩,λi _=>z.length<=i⟩
theorem Pp {P:Ah}{K:lK}(z:Af) (t:Tok) (it:Ad):Turn P w K tg (tO z) [it] it (λi h=>h.IsStrIter it "str_ascii_iterator" z t i) where
 mem:=by simp
 obj:=λi h st b hb=>by
  have e:b=it:=by simpa using hb
  subst e;obtain⟨o,e,c,d⟩:=st;exact⟨o,e,λv z=>by rw[d] at z;cases z⟩
 keep:=λi h h' st k=>by
  obtain⟨o,e,r⟩:=st;exact⟨o,k it (by simp) o e,r⟩
 item:=by
  intro X hP hw hK hc i pins s σ H E I hf st hg;subst hP hw hK;have hg:i<z.length:=hg;obtain⟨f0,f1,f2,f3,f4,f5⟩:=hf it (by simp);have hz:z.cps[i]?=some (z.cps[i]'hg):=cE hg;refine wpAny_pyNext_ascii_item st hz λh' st' sb=>?_
  have I1:Inv X pins σ H { s with heap:=h',toks:=s.toks+1 }:=I.turned (t':=s.toks+1) (λb o hb e=>(sb.2 b hb).trans e) f0 f1 f3 f4 f5;obtain⟨o,e,c,d⟩:=id st';exact⟨_,rfl,A4 (s:={ s with heap:=h',toks:=s.toks+1 }) e c d (by decide) ⟨.str ⟨#[z.cps[i]'hg]⟩,H,I1,⟨_,rfl⟩,⟨rfl,_,hz,rfl⟩,st',λb hb=>(hf b hb).1⟩⟩
 done:=by
  intro X hP hw hK hc i pins s σ H E I hf st hg;subst hP hw hK;have hg:z.length<=i:=hg;obtain⟨f0,f1,f2,f3,f4,f5⟩:=hf it (by simp);exact wpAny_pyNext_ascii_end (I.ok.hd hc) st (gB (by exact hg)) λh' eb=>⟨rfl,I.turned (t':=s.toks) (λb o hb e=>eb b o hb e) f0 f1 f3 f4 f5⟩
 self:=λ_ _ _ _ _ st h=>wpAny_pyIter_striter_ascii st h
section
variable {X:Cx}
def X4 (g:TE):TI:=λb H R=>g b H λx a=>∃ z:Af,x = .str z/\z.cps.all (·<128)=true/\R (tO z) a
theorem JW (g:PE X l j):PI X o l (X4 j):=by
 intro a s k H R I h;refine lA (g a s k H _ I h) λv c f=>?_
 obtain⟨x,i,d,y,z,n,u,q⟩:=f;subst n;obtain⟨t,rfl⟩:=y;refine wpAny_pyIter_ascii u ?_;have m:Inv X a k i { c with heap:=c.heap.push { cls:=.type "str_ascii_iterator",data:=.fields #[.str z t,.int 0 0] } }:=d.kept (t':=c.toks) λb A q=>aG _ q
 refine⟨c.heap.objs.size,[c.heap.objs.size],_,tO z,i,rfl,m,Pp z t _,⟨_,aX _ rfl,rfl,rfl⟩,λb w=>?_,q⟩;have e:b=c.heap.objs.size:=by simpa using w
 subst e;exact d.fpOk (aP _) (d.hok.fresh (aP _))
end
def sB (g:Aa Af) (x:Af):Aa Af:=if x∈g then g else g++[x]
def oB (l:Aa Af):Aa Af:=l.foldl sB []
theorem Ko (l:Aa Af) (x:Af):oB (l++[x])=sB (oB l) x:=by unfold oB;rw[List.foldl_append];rfl
theorem IN (g:Aa Af) (x y:Af):y∈sB g x↔y∈g\/y=x:=by
 unfold sB;split
 .rename_i h
  constructor
  .exact .inl
  .rintro (q | q)
   .exact q
   .rw[q];exact h
 .simp[bE]
theorem F6 (g:Aa Af) (x:Af):(sB g x).length=if x∈g then g.length else g.length+1:=by
 unfold sB;split<;>simp
theorem Yr (l:Aa Af):∀ k,(oB (l.take k)).length<=k:=by
 intro k;induction k with
 | zero=>simp[oB]
 | succ k a =>
  rw[cA];cases e:l[k]? with
  | none=>simp;omega
  | some x =>
   simp only[Option.toList_some];rw[Ko,F6];split<;>omega
theorem HA (r:Aa Af):∀ g,g.length<=(r.foldl sB g).length/\(r.foldl sB g).length<=g.length+r.length:=by
 induction r with
 | nil=>intro g;simp
 | cons x r a =>
  intro g;have h:=a (sB g x);rw[F6] at h;simp only[iY,bJ];split at h<;>omega
theorem Y5:∀ (r g:Aa Af),g.Nodup->(r.foldl sB g).length=g.length+r.length->(g++r).Nodup:=by
 intro r;induction r with
 | nil=>intro g h _;simpa using h
 | cons x r d =>
  intro g h e;simp only[iY,bJ] at e;have b:=HA r (sB g x);rw[F6] at b;by_cases a:x∈g
  .rw[aO a] at b;omega
  .have c:sB g x=g++[x]:=by unfold sB;rw[if_neg a]
   rw[c] at e;have:=d (g++[x]) (S1 h a) (by rw[e];simp;omega)
   simpa using this
theorem Z0 (h:(oB l).length=l.length):l.Nodup:=by
 have:=Y5 l [] fQ (by simpa [oB] using h)
 simpa using this
theorem K4 {P:Ah}{w:World}{h:Ag}{a:Ad}{S g:Af->Bool}{n j:Nat}(z:h.SetOf (PySem.strKind P w) a S n) (e:∀ k,S k=g k) (l:n=j):h.SetOf (PySem.strKind P w) a g j:=by
 have:S=g:=funext e;subst this l;exact z
section
variable {R:Result->Ae->Prop}{P:Nat->Ac->Prop}{St:Nat->Ae->Prop}
theorem Zk (W:WalksS g w A.in1 J I C G n P St) (a:Ad) (p:a∉I) (j:Aa Af) (aa:j.length=n) (hp:∀ i v,P i v->∃ x t,j[i]?=some x/\v = .str x t) (r:n+1<scanBound) :
  ∀ (k i:Nat) (s:Ae),n-i=k->i<=n->St i s->s.heap.SetOf (PySem.strKind g w) a (λx=>decide (x∈oB (j.take i))) (oB (j.take i)).length ->
   (∀ l,Moved (a::C) G s l->l.heap.SetOf (PySem.strKind g w) a (λx=>decide (x∈oB j)) (oB j).length->R (.ok (.ret .none)) l) ->
   codeAny (model g w) A (.builtin "set.update.loop" ⟨[.ref a,.ref J],[]⟩) R s:=by
 have h:a∉C:=λz=>p (W.sub _ z)
 have c:∀ b∈C,b∈a::C:=λb z=>aL _ z
 intro k;induction k with
 | zero =>
  intro i s hk U st E L;have Z:i=n:=by omega
  subst Z;rw[bW (by omega)] at E;refine fS iR ?_;rw[eU fY _];show wpAny _ A.in1 (pyNext (.ref J) >>= _) _ _ s;refine aB (W.done s _ _ st λl u=>?_);show wpAny _ A.in1 (ret Value.none) _ _ l;obtain⟨o,H,F,t,Q,rest⟩:=E;exact aE (L l (u.mono c) ⟨o,H,F,t,u.heap a _ h Q,rest⟩)
 | succ k ih =>
  intro i s hk U st E L;have q:i<n:=by omega
  refine fS iR ?_;rw[eU fY _];show wpAny _ A.in1 (pyNext (.ref J) >>= _) _ _ s;refine aB (W.item i s _ _ q st λv l hv V u=>?_);obtain⟨x,t,hx,rfl⟩:=hp i v hv;have M:l.heap.SetOf (PySem.strKind g w) a (λx=>decide (x∈oB (j.take i))) (oB (j.take i)).length:=by
   obtain⟨o,H,F,tb,Q,rest⟩:=E;exact⟨o,H,F,tb,u.heap a _ h Q,rest⟩
  show wpAny _ A.in1 (holding [Value.str x t] (setAdd a (.str x t)) >>= _) _ _ l;refine aB (bT ?_);unfold setAdd;refine bT ?_;have m:(PySem.strKind g w).is x (.str x t)=true:=by simp[PySem.strKind,Value.isStrOf]
  refine aB ((PySem.strKind g w).pyHash (k:=x) m ?_);have d:(oB (j.take i)).length+1<scanBound:=by have:=Yr j i;omega
  refine wpAny_setAddHashed_of (knd:=strKind g w) (s:={ l with toks:=l.toks+1 }) m rfl M d λT Y N=>?_
  have X:j.take (i+1)=j.take i++[x]:=by rw[cA,hx];rfl
  have O:T.SetOf (PySem.strKind g w) a (λx=>decide (x∈oB (j.take (i+1)))) (oB (j.take (i+1))).length:=by
   refine K4 N (λy=>?_) ?_
   .rw[X,Ko];have:=IN (oB (j.take i)) x y;by_cases D:y∈oB (j.take i)<;>by_cases K:y=x<;>simp only[D,K,true_or,or_true,fJ,false_or] at this<;>simp[this,D,K]
    all_goals (subst K;simp[this])
   .rw[X,Ko,F6];by_cases D:x∈oB (j.take i)<;>simp[D]
  refine aE ⟨iU fY _,ih (i+1) _ (by omega) q (W.frame _ l _ _ V (iK _) λb r o e=>?_) O λS B f=>?_⟩
  .rw[Y.2 b (λz:b=a=>p (by rw[<- z];exact r))];exact e
  .refine L S (Moved.trans W.gtrans ((u.mono c).then_heap (iK _) λb o r e=>?_) B) f;rw[Y.2 b (λz:b=a=>r (by rw[z];exact aF))];exact e
end
end L2
namespace PySem
open PyProof.Rows L2
section
theorem LR
  (fill:∀ g,wpAny (model j w) A.in1.in1 (Builtin.«set.__init__» ⟨[.ref s.heap.objs.size,x],[]⟩) (λf l=>f = .done (.ret .none)/\Q (.ref s.heap.objs.size) l) E { s with heap:=s.heap.push { cls:=.type "set",dict:=none,data:=.set #[] 0 (.fresh 0 0 g) } }) :
  wpAny (model j w) A (call (.type "set") [x]) Q E s:=by
 obtain⟨c,r,d⟩:=F.called_set.mro;refine wpAny_call (codeAny_of_tree (aE ⟨Code.quiet_builtin _ (by decide +kernel),fS F.entry_type_call ?_⟩));have b:=F.called_set;have body:wpAny (model j w) A.in1 (Builtin.«type.__call__» ⟨[.type "set",x],[]⟩) (λf l=>match f with | .done f=>wants Q E (.ok f) l | .again h=>h.quiet=true/\codeAny (model j w) A h (wants Q E) l) (λe l=>wants Q E (.error e) l) s:=by
  unfold Builtin.«type.__call__»;dsimp only;rw[b.notType];simp only[dU,fX,b.canCreate];refine aB (dR (F.typeCall_set_1 x) (aB (dR d ?_)));rw[aJ (show ¬ (c::r).isEmpty=true from aT)];refine aB (dR b.made (aB (aE (aB (bT (wpAny_call (code_set_new_1 x λg=>?_)))))));have a:Shared.TypeIs { s with heap:=s.heap.push { cls:=.type "set",dict:=none,data:=.set #[] 0 (.fresh 0 0 g) } } (.ref s.heap.objs.size) "set" := ⟨_,aX _ rfl,rfl⟩;refine aB (dN a b.sub ?_);rw[aJ (show ¬ (!true)=true from aT)];refine aB (bT (cL a b.init (wpAny_call (codeAny_call_builtin b.init.plain F.entry_set_init (check_set_init_1 a ?_)))));refine cX (fill g) (λf l q=>?_) λ_ _ q=>q
  obtain⟨rfl,q⟩:=q;exact aE q
 exact body
theorem X1 {S:Ad}(p:s.heap.IsList l C)
  (o:codeAny (model g w) A (.builtin "set.update.loop" ⟨[.ref S,.ref s.heap.objs.size],[]⟩) (λr j=>match r with | .ok (.ret _)=>Q () j | .ok _=>False | .error e=>E e j) { s with heap:=s.heap.push { cls:=.type "list_iterator",data:=.fields #[.ref l,.int 0 0] } }) :
  wpAny (model g w) A (Builtin.Frozenset.updateFrom "set.__init__" S (.ref l)) Q E s:=by
 have a:wpAny (model g w) A (Builtin.Frozenset.isAnySet (.ref l)) (λb j=>b=false/\j=s) E s :=
  aB (dN p.typeIs F.sub_list_set (dN p.typeIs F.sub_list_frozenset ⟨rfl,rfl⟩))
 refine aB (cX a (λb j q=>?_) λ_ _ q=>q);obtain⟨rfl,rfl⟩:=q;refine aB (fA p.typeIs (aB (eZ p (aB (wpAny_runValue ?_)))));exact codeAny_mono o λr j q=>by
  match r,q with
  | .ok (.ret v),q=>exact aE q
  | .error e,q=>exact q
abbrev Bb (g:Bool):Obj:={ cls:=.type "set",dict:=none,data:=.set #[] 0 (.fresh 0 0 g) }
theorem Vh {S:Ad}(o:s.heap.get? S=some (Bb g))
  (fill:wpAny (model j w) A (Builtin.Frozenset.updateFrom "set.__init__" S x) (λ_ l=>Q (.done (.ret .none)) l) E s) :
  wpAny (model j w) A (Builtin.«set.__init__» ⟨[.ref S,x],[]⟩) Q E s:=by
 unfold Builtin.«set.__init__»;generalize Builtin.Frozenset.updateFrom=up at fill |-
 wp_walk
 exact cX fill (λ_ _ q=>aE q) λ_ _ q=>q
theorem Um (z:StrsAre g j):j.length=g.length:=by
 induction z with
 | nil=>rfl
 | cons _ _ _ a=>rw[bJ,bJ,a]
theorem FQ (z:StrsAre g j):∀ {i:Nat}{v:Ac},g[i]?=some v->∃ x t,j[i]?=some x/\v = .str x t:=by
 induction z with
 | nil=>intro i v e;cases e
 | cons x t _ a =>
  intro i v e
  match i,e with
  | 0,e=>exact⟨x,t,rfl,(bZ e).symm⟩
  | i+1,e=>exact a (i:=i) e
theorem Na {s g:Ae}(a:g.gens=s.gens) (b:g.drawn=s.drawn) (c:g.os=s.os):g={ s with heap:=g.heap,toks:=g.toks }:=by
 cases s;cases g;cases a;cases b;cases c;rfl
theorem Vc (T:A.handled=none) (C:s.heap.IsList l items) (I:StrsAre items.toList p) (J:items.size+1<scanBound)
  (h:∀ (r:Ag) (U:Nat),r.SetOf (PySem.strKind j w) s.heap.objs.size (λx=>decide (x∈oB p)) (oB p).length->(∀ b o,b<s.heap.objs.size->s.heap.get? b=some o->r.get? b=some o) ->Q (.ref s.heap.objs.size) { s with heap:=r,toks:=U }):wpAny (model j w) A (call (.type "set") [.ref l]) Q E s:=by
 refine LR λg=>Vh (aX _ rfl) (X1 (C.push _) ?_)
 have two:(s.heap.push (Bb g)).objs.size=s.heap.objs.size+1:=dX ..;have lt:l<s.heap.objs.size:=by
  obtain⟨o,e,_⟩:=C;exact aU e
 have d:l≠(s.heap.push (Bb g)).objs.size:=by
  rw[two];exact bI (Nat.lt_succ_of_lt lt)
 have f:s.heap.objs.size∉[(s.heap.push (Bb g)).objs.size,l]:=λz=>by
  rw[two] at z;rcases aI.mp z with q | q
  .exact bI (Nat.lt_succ_self _) q
  .exact hZ lt (bF.mp q)
 have len:p.length=items.size:=by rw[Um I,dJ]
 have item:∀ (i:Nat) (v:Ac),items[i]?=some v->∃ x t,p[i]?=some x/\v = .str x t:=λi v e=>FQ I (by rw[dF];exact e)
 have empty:((s.heap.push (Bb g)).push { cls:=.type "list_iterator",data:=.fields #[.ref l,.int 0 0] }).SetOf (PySem.strKind j w) s.heap.objs.size (λx=>decide (x∈oB (p.take 0))) (oB (p.take 0)).length :=
  K4 ((setObjOf_fresh (knd:=PySem.strKind j w) g).setOf (aG _ (aX _ rfl)) (by unfold scanBound;omega)) (λ_=>by simp[oB]) (by simp[oB])
 refine Zk ((Walks.list (by simp[T]) _ l d items).toS) s.heap.objs.size f p len item J items.size 0 _ (by omega) (dB _) ⟨⟨_,aX _ rfl,rfl,rfl⟩,(C.push _).push _⟩ empty λa c fin=>?_
 have res:=h a.heap a.toks fin λb o k e=>c.heap b o (λz=>?_) (aG _ (aG _ e))
 .rw[show a={ s with heap:=a.heap,toks:=a.toks } from Na c.gens c.drawn c.os];exact⟨rfl,res⟩
 .rcases aI.mp z with q | q
  .exact bI k q
  .have q:=bF.mp q;rw[two] at q;exact bI (Nat.lt_succ_of_lt k) q
end
end PySem
namespace L2
open PySem PySem.Spec PyProof.Rows
section
variable {X:Cx}
def zG (P:Ah) (w:World) (a:Ad) (n:Nat):HO:=.ext λh=>∃ S,h.SetOf (PySem.strKind P w) a S n
theorem DT (l:X.calm=true):nF X (.type "set") (λj H Q=>∃ (p:Ad) (g:Aa Af),j=[.ref p]/\hI X.K H p (g.map V.str)/\g.length<=4000/\∀ a,H a=none->Q (.ref a) (upd H a (zG X.prog X.w a (oB g).length))):=by
 intro f s N H j M Q I r h;obtain⟨p,g,rfl,y,L,q⟩:=h;obtain⟨u,rfl,D⟩:=oS r;cases D;obtain⟨A,i,B,_⟩:=I.list y;have c:=i.length;rw[aA] at c;refine Vc (I.ok.hd l) B.isList (by simpa using Hy i) (by rw[aR];unfold scanBound;omega) λv E d x=>?_
 have hex:∃ o,v.get? s.heap.objs.size=some o:=by obtain⟨o,_,_,_,e,_⟩:=d;exact⟨o,e⟩
 refine⟨.ref s.heap.objs.size,_,I.laid (a:=s.heap.objs.size) (o:=zG X.prog X.w s.heap.objs.size (oB g).length) (t':=E) (λb o e=>x b o (aU e) e) (aP _) ?_,rfl,q _ I.fresh⟩;refine⟨⟨_,d⟩,hex,λF G ⟨S,z⟩ k=>⟨S,?_⟩⟩;obtain⟨o,n,m,t,e,rest⟩:=z;exact⟨o,n,m,t,k o e,rest⟩
theorem IV:nF X (.builtin "len") (λg H Q=>∃ (a:Ad) (n:Nat),g=[.ref a]/\H a=some (zG X.prog X.w a n)/\Q (.int n) H):=by
 intro b s y H g x Q I r h;obtain⟨a,n,rfl,f,q⟩:=h;obtain⟨u,rfl,k⟩:=oS r;cases k;obtain⟨⟨S,o,c,m,t,e,d,hd,_,_,v,i,rfl⟩,_⟩:=I.hok a _ f;refine call_len_set e d hd i ?_ ⟨.int c.size,H,I.tok _,⟨_,rfl⟩,q⟩;have:scanBound=4096:=rfl;omega
end
end L2
namespace PySem
open PyProof.Rows L2
theorem Em:entryFor table "dict.update.loop" = some Builtin.«dict.update.loop»:=entryFor_of_tree (by kernel_rfl)
theorem xC:plainId "dict.update.loop" = true:=by decide +kernel
theorem Vw:typeLookup (.type "list") "keys" = pure none:=am_miss_of_fast (by decide +kernel)
section
theorem MK {sl:Array (Ab Ac)}
  (l:s.heap.get? a=some { cls:=.type "list",dict:=none,data:=.seq j n,slots:=sl }) (calm:A.handled=none) (o:∀ p r e,Heap.NewAttrErr s.heap p e (.ref a) "keys" -> E (.ref e) { s with heap:=p,toks:=r }) :
  wpAny (model g w) A (boundAndCalled (.builtin "list.__getattribute__") (.ref a) (.str "keys" u)) Q E s:=by
 have ask:wpAny (model g w) A (call (.builtin "list.__getattribute__") [.ref a,.str "keys" u]) Q E s :=
  iL iW ⟨_,l,rfl⟩ am_entry_list_getattribute (F.args_list_getattribute_2 _ _) (meets_getattribute_miss_list a j n sl "keys" u Vw (by decide +kernel)) ⟨l,calm,o⟩
 unfold boundAndCalled;rw[iW.bind (.ref a)];exact aB (aE ask)
theorem ES (t:s.TypeIs (.ref e) "AttributeError") (j:E (.ref e) s) :
  wpAny (model g w) A (getattributeRaised o name (.type "list") (.ref e) none false false) Q E s:=by
 have last:wpAny (model g w) A (hookOrError o name (.ref e) false false none) Q E s:=aB (wpAny_throw j);have a:hookBehind (.type "list") none=pure none:=am_list_getattr_none;unfold getattributeRaised;refine aB (dN t jA ?_);rw[aO rfl,a];exact aB (aE last)
theorem HS {sl:Array (Ab Ac)}
  (l:s.heap.get? a=some { cls:=.type "list",dict:=none,data:=.seq I n,slots:=sl }) (calm:A.handled=none) (C:∀ j p e,Heap.NewExcOf s.heap j e "AttributeError" -> Q none { s with heap:=j,toks:=p }) :
  wpAny (model g w) A (getAttr? (.ref a) "keys") Q E s:=by
 have c:∀ j p e,Heap.NewAttrErr s.heap j e (.ref a) "keys" -> (∃ o,j.get? e=some o/\o.cls = .type "AttributeError")/\Q none { s with heap:=j,toks:=p }:=λj p e x=>by
  obtain⟨_,_,y⟩:=x.there;exact⟨⟨_,y,rfl⟩,C j p e x.of⟩
 let d:Ae:={ s with toks:=s.toks+1 };let b:Except Ac Ac->Ae->Prop:=λr i=>wpAny (model g w) A (match r with | .ok v=>pure (some v) | .error e=>do if <- isInstance e (.type "AttributeError") then pure none else throw e) Q E i
 have lS:wpAny (model g w) A (getAttrBy (.ref a) (.str "keys" s.toks) false) (λv=>b (.ok v)) (λe=>b (.error e)) d:=by
  refine bT (aB (fA (T := "list") ⟨_,l,rfl⟩ (aB (dR iW.lookup ?_))));have own:wpAny (model g w) A (getAttrByItsOwn (.ref a) (.str "keys" s.toks) (.type "list") (.builtin "list.__getattribute__") false false) (λv=>b (.ok v)) (λe=>b (.error e)) d:=by
   refine aB (aE (aB (fP (bT (MK (s:=d) l calm λj p e x=>?_)))));obtain⟨⟨o,f,h⟩,q⟩:=c j p e x;exact ES ⟨o,f,h⟩ (aB (dN (T := "AttributeError") ⟨o,f,h⟩ jA (aE q)))
  exact own
 exact aB (wpAny_mkText (aB (fP lS)))
end
section
variable {R:Result->Ae->Prop}{P:Nat->Ac->Prop}{St:Nat->Ae->Prop}
theorem JJ (W:WalksS j w A.in1 J fp l G n P St) (d:Ad) (I:d∉fp) (C:Ag) (M:Nat->Ag->Prop) (U:∀ i h p,(∀ b o,b∉l->h.get? b=some o->p.get? b=some o)->M i h->M i p)
  (hT:∀ i v,i<n->P i v->∃ (t:Ad) (o:Obj) (m:Nat) (r x:Ac),v = .ref t/\t∉d::l/\C.get? t=some o/\o.cls = .type "tuple" /\ o.data = .seq #[r,x] m /\ ∀ (s:Ae) (Q:Unit->Ae->Prop) (E:Ac->Ae->Prop),(∀ b o,b∉d::l->C.get? b=some o->s.heap.get? b=some o)->M i s.heap ->(∀ p c,M (i+1) p->Heap.SameBut d s.heap p->Q () { s with heap:=p,toks:=s.toks+c })->wpAny (model j w) A.in1 (dictSet d r x) Q E s) :
  ∀ (k i:Nat) (s:Ae),n-i=k->i<=n->St i s->(∀ b o,b∉d::l->C.get? b=some o->s.heap.get? b=some o)->M i s.heap ->
   (∀ g,Moved (d::l) G s g->M n g.heap->R (.ok (.ret .none)) g) ->
   codeAny (model j w) A (.builtin "dict.update.loop" ⟨[.ref d,.ref J,.int (i:Int) 0,.none],[]⟩) R s:=by
 have q:∀ b∈l,b∈d::l:=λb z=>aL _ z
 intro k;induction k with
 | zero =>
  intro i s hk hi st f L K;have ei:i=n:=by omega
  subst ei;refine fS Em ?_;rw[eU xC _];show wpAny _ A.in1 (pyNext (.ref J) >>= _) _ _ s;refine aB (W.done s _ _ st λg D=>?_);show wpAny _ A.in1 (Builtin.Dict.addKeywords d [] >>= _) _ _ g;exact aB (aE (aE (K g (D.mono q) (U _ _ _ D.heap L))))
 | succ k ih =>
  intro i s hk hi st f L K;have B:i<n:=by omega
  refine fS Em ?_;rw[eU xC _];show wpAny _ A.in1 (pyNext (.ref J) >>= _) _ _ s;refine aB (W.item i s _ _ B st λv g hv Z D=>?_);obtain⟨t,o,m,r,x,rfl,ht,V,O,S,put⟩:=hT i v B hv;have a:∀ b o,b∉d::l->C.get? b=some o->g.heap.get? b=some o:=λb o u e=>D.heap b o (λz=>u (q _ z)) (f b o u e)
  have y:=a t o ht V;show wpAny _ A.in1 (holding [Value.ref t] _ >>= _) _ _ g;refine aB (bT ?_);refine aB (wpAny_tryCatch ?_);unfold Builtin.Dict.pairItems;refine aB (fA (T := "tuple") ⟨o,y,O⟩ ?_);rw[aO (by decide)];refine aB (fR y S ?_);refine aE ?_;show wpAny _ A.in1 (holding [r,x] (dictSet d r x)) _ _ g;refine bT (put g _ _ a (U _ _ _ D.heap L) λp c N Y=>?_);refine aE ⟨iU xC _,?_⟩;have e1:(rawInt ((i:Int)+1))=Value.int ((i+1:Nat):Int) 0:=by rfl
  rw[e1];refine ih (i+1) _ (by omega) B (W.frame _ g _ _ Z (gF _ _) λb u o e=>?_) (λb o u e=>?_) N λX H F=>?_
  .rw[Y.2 b (λz:b=d=>I (by rw[<- z];exact u))];exact e
  .rw[Y.2 b (λz:b=d=>u (by rw[z];exact aF))];exact a b o u e
  .refine K X (Moved.trans W.gtrans ((D.mono q).then_heap (gF _ _) λb o u e=>?_) H) F;rw[Y.2 b (λz:b=d=>u (by rw[z];exact aF))];exact e
end
section
variable {K:Type} [DecidableEq K] {knd:KeyKind prog w K}{A:Around}
abbrev Hm (l:Ad):Obj:={ cls:=.type "list_iterator",data:=.fields #[.ref l,.int 0 0] }
abbrev V0 (g:Array Ac) (n:Nat) (sl:Array (Ab Ac)):Obj:={ cls:=.type "list",dict:=none,data:=.seq g n,slots:=sl }
theorem Y1 {sl:Array (Ab Ac)}(t:s.TypeIs (.ref d) "dict") (j:s.heap.get? l=some (V0 r n sl)) (calm:A.handled=none)
  (C:∀ g o e,Heap.NewExcOf s.heap g e "AttributeError" -> Q (.again (.builtin "dict.update.loop" ⟨[.ref d,.ref g.objs.size,.int 0 0,.none],[]⟩)) { s with heap:=g.push (Hm l),toks:=o }) :
  wpAny (model prog w) A (Builtin.«dict.__init__» ⟨[.ref d,.ref l],[]⟩) Q E s:=by
 have first:wpAny (model prog w) A (Builtin.Dict.selfAndRest "__init__" ⟨[.ref d,.ref l],[]⟩) (λp b=>p=(d,[Value.ref l])/\b=s) E s:=aB (iH t (aE ⟨rfl,rfl⟩))
 have a:wpAny (model prog w) A (Builtin.Dict.updateFrom "dict.__init__" d (.ref l) [] .none) Q E s:=by
  refine aB (fA (T := "list") ⟨_,j,rfl⟩ ?_);rw[aO (by decide)];refine aB (HS j calm λg o e x=>?_);exact aB (jB (aB (eZ ⟨_,x.keeps _ _ j,rfl,n,rfl⟩ (aE (C g o e x)))))
 exact aB (cX first (λp b q=>by obtain⟨rfl,rfl⟩:=q;exact a) λ_ _ q=>q)
def yF (s:Ae):Ae:={ s with heap:=s.heap.push { cls:=.type "dict",data:=.dict #[] } }
theorem Nu (M:Nat->Ag->Prop) (I:A.handled=none) (C:s.heap.get? l=some o) (hc:o.cls = .type "list") (hd:o.dict=none) (r:o.data = .seq items nl)
  (m0:∀ h:Ag,h.get? s.heap.objs.size=some { cls:=.type "dict",data:=.dict #[] }->M 0 h) (T:∀ i h g,(∀ b o,b<=s.heap.objs.size->h.get? b=some o->g.get? b=some o)->M i h->M i g)
  (U:∀ (i:Nat) v,items[i]?=some v->∃ (t:Ad) (o:Obj) (m:Nat) (p x:Ac),v = .ref t/\s.heap.get? t=some o/\o.cls = .type "tuple" /\ o.data = .seq #[p,x] m /\ ∀ (B:Around) (j:Ae) (Q:Unit->Ae->Prop) (E:Ac->Ae->Prop),(A.units+2<cLine->B.units<cLine)->(∀ b o,s.heap.get? b=some o->j.heap.get? b=some o)->M i j.heap ->(∀ g c,M (i+1) g->Heap.SameBut s.heap.objs.size j.heap g->Q () { j with heap:=g,toks:=j.toks+c })->wpAny (model prog w) B (dictSet s.heap.objs.size p x) Q E j)
  (h:∀ (g:Ag) (J:Nat),M items.size g->(∀ b o,s.heap.get? b=some o->g.get? b=some o)->Q (.ref s.heap.objs.size) { s with heap:=g,toks:=J }) :
  wpAny (model prog w) A (call (.type "dict") [.ref l]) Q E s:=by
 obtain⟨oc,od,Y,Z⟩:=o;cases hc;cases hd;cases r;let D:=s.heap.objs.size;have N:(yF s).heap.get? D=some { cls:=.type "dict",data:=.dict #[] }:=aX _ rfl;have ty:(yF s).TypeIs (.ref D) "dict" := ⟨_,N,rfl⟩;have old:∀ b o,s.heap.get? b=some o->(yF s).heap.get? b=some o:=λb o e=>aG _ e
 refine callType_codes F.kt_called_dict (F.kt_typeCall_dict_1 _) F.entry_dict_init (kt_code_dict_new _ (Q₁:=λv L=>v = .ref D/\L=yF s) ⟨rfl,rfl⟩) λv L q=>?_
 obtain⟨rfl,rfl⟩:=q;refine⟨ty,F.args_dict_init_2 _ _,Y1 ty (old _ _ C) (by simp[I]) λn J e x=>⟨iU xC _,?_⟩⟩;have rM:D<n.objs.size:=aU (x.keeps _ _ N);have G:l<D:=aU C;have keeps:∀ b o,s.heap.get? b=some o->(n.push (Hm l)).get? b=some o:=λb o e=>aG _ (x.keeps _ _ (old b o e))
 have a:∀ {b:Ad},b<D->b∉[D,n.objs.size]:=λ{b} u z=>by
  rcases aI.mp z with q | q
  .exact bI u q
  .exact bI (Nat.lt_trans u rM) (bF.mp q)
 have f:D∉[n.objs.size,l]:=λz=>by
  rcases aI.mp z with q | q
  .exact bI rM q
  .exact hZ G (bF.mp q)
 have d:(n.push (Hm l)).IsList l items:=⟨_,keeps _ _ C,rfl,nl,rfl⟩;refine JJ ((Walks.list (by simp[I]) n.objs.size l (bI (Nat.lt_trans G rM)) items).toS) D f s.heap M (λi h g k m=>T i h g (λb o S e=>k b o (λz=>bI (cT S rM) (bF.mp z)) e) m) (λi v _ W=>?_) items.size 0 _ (by omega) (dB _) ⟨⟨_,aX _ rfl,rfl,rfl⟩,d⟩ (λb o _ e=>keeps b o e) (m0 _ (aG _ (x.keeps _ _ N))) λj H fin=>?_
 .obtain⟨t,ot,m,p,y,rfl,O,r1,r2,put⟩:=U i v W;exact⟨t,ot,m,p,y,rfl,a (aU O),O,r1,r2,λL R P X=>put _ L R P (λV=>by simpa using V) λb o e=>X b o (a (aU e)) e⟩
 .have res:=h j.heap j.toks fin λb o e=>H.heap b o (a (aU e)) (keeps b o e)
  rw[show j={ s with heap:=j.heap,toks:=j.toks } from Na H.gens H.drawn H.os];exact⟨rfl,res⟩
theorem U0 (J:A.handled=none) (T:s.heap.get? l=some o) (I:o.cls = .type "list") (hd:o.dict=none) (p:o.data = .seq items nl)
  (hn:more.length=items.size)
  (C:∀ (i:Nat) v,items[i]?=some v->∃ (t:Ad) (o:Obj) (m:Nat) (k:K) (j x:Ac),v = .ref t/\s.heap.get? t=some o/\o.cls = .type "tuple" /\ o.data = .seq #[j,x] m/\knd.is k j=true/\more[i]?=some (k,x)) (U:items.size<=sizeLine)
  (h:∀ (g:Ag) (r:Nat),g.DictOf knd s.heap.objs.size (merged [] more)->(∀ b o,s.heap.get? b=some o->g.get? b=some o)->Q (.ref s.heap.objs.size) { s with heap:=g,toks:=r }) :
  wpAny (model prog w) A (call (.type "dict") [.ref l]) Q E s:=by
 refine Nu (λi g=>g.DictOf knd s.heap.objs.size (merged [] (more.take i))) J T I hd p (λn e=>?_) (λi n y k m=>?_) (λi v H=>?_) λg r m=>h g r (by rw[bW (by omega)] at m;exact m)
 .obtain⟨z,f,d,u,rest⟩:=Heap.DictOf.new (knd:=knd) s.heap;cases u.symm.trans (aX _ rfl);exact⟨_,f,d,e,rest⟩
 .obtain⟨z,f,d,u,rest⟩:=m;exact⟨z,f,d,k _ _ (aP _) u,rest⟩
 .obtain⟨t,M,m,L,j,x,rfl,n,y,F,c,a⟩:=C i v H;refine⟨t,M,m,j,x,rfl,n,y,F,λB O Q E _ _ G k=>wpAny_dictSet_pairs (hsz:=?_) c G λg q N=>k g 1 (by rw[merged_take_succ [] more i (L,x) a];exact q) N⟩;have D:=merged_length_le ([]:Aa (K×Ac)) (more.take i);rw[fG,bN] at D;omega
end
end PySem
namespace L2
open PySem PySem.Spec PyProof.Rows
section
variable {X:Cx}
def B9 (H:Hp) (j:Aa Ad) (g:Aa (eF×V)):Prop:=Paired (λt (a:eF×V)=>H t=some (.t [kV a.1,a.2])) j g
theorem X8 {P:Ah}(p:nP P w H h):∀ {l:Aa Ad}{g:Aa (eF×V)},B9 H l g->∃ more:Aa (eF×Ac),KV g more /\
  ∀ (i:Nat) t,l[i]?=some t->∃ (o:Obj) (m:Nat) (k:eF) (j x:Ac),h.get? t=some o/\o.cls = .type "tuple" /\ o.data = .seq #[j,x] m/\(oM P w).is k j=true/\more[i]?=some (k,x):=by
 intro l g r;unfold B9 at r;induction r with
 | nil=>exact⟨[],.nil,λi t e=>by simp at e⟩
 | @cons t j l g d G u =>
  obtain⟨more,B,q⟩:=u;obtain⟨z,v,a,⟨o,s,f,n,b⟩,_⟩:=p t _ d;cases a with
  | @cons _ E _ K y a =>
   cases a with
   | @cons _ c _ F A a =>
    cases a;refine⟨(j.1,c)::more,.cons ⟨rfl,A⟩ B,λi D e=>?_⟩;cases i with
    | zero =>
     simp at e;subst e;exact⟨o,n,j.1,E,c,s,f,b,wN y,rfl⟩
    | succ i=>simpa using q i D (by simpa using e)
theorem BG (l:X.calm=true):nF X (.type "dict") (λC H Q=>∃ (p:Ad) (j:Aa Ad) (g:Aa (eF×V)),C=[.ref p]/\hI X.K H p (j.map V.ref)/\B9 H j g/\g.length<=1000/\∀ d,H d=none->Q (.ref d) (upd H d (.k (pU [] g)))):=by
 intro E s σ H C us Q I r h;obtain⟨p,j,g,rfl,U,D,hz,q⟩:=h;obtain⟨u,rfl,B⟩:=oS r;cases B;obtain⟨c,F,⟨o,n,e,L,M,N⟩,_⟩:=I.list U;have f:=F.length;rw[aA] at f;have Z:j.length=g.length:=D.length;obtain⟨more,G,J⟩:=X8 I.hok D;have T:=G.length;have b:∀ (i:Nat) v,c[i]?=some v->∃ t,j[i]?=some t/\v = .ref t:=by
  intro i v y;have hi:i<c.length:=(aV.mp y).1;have:i<j.length:=by omega
  obtain⟨u,hu,B⟩:=F.get (i:=i) (x:=V.ref j[i]) (by simp[this]);rw[hu] at y;cases y;cases B;exact⟨j[i],by simp[this],rfl⟩
 refine U0 (knd:=oM X.prog X.w) (more:=more) (I.ok.hd l) e L M N (by rw[aR];omega) ?_ (by rw[aR];exact eD (cT (show c.length<=1000 by omega) (by decide))) λh' tk W Y=>?_
 .intro i v y;obtain⟨t,ht,rfl⟩:=b i v (by simpa using y);obtain⟨o,m,k,kv,x,z,O,P,R,S⟩:=J i t ht;exact⟨t,o,m,k,kv,x,rfl,z,O,P,R,S⟩
 .have A:(pU [] g).length<=sizeLine:=by
   have z:=B2 g [];rw[fG] at z;exact eD (cT (show (pU [] g).length<=1000 by omega) (by decide))
  refine⟨.ref s.heap.objs.size,_,I.laid (a:=s.heap.objs.size) (o:=.k (pU [] g)) (t':=tk) Y (aP _) ?_,rfl,q _ I.fresh⟩;exact zP A (cV.mpr (eJ (bI I.big))) (G.merge .nil) W
end
noncomputable def J4 (o:Ab Af) (N:Aa Af) (kind:Af->Ab NameKind) (g:Scope) (T j:Aa Af) (l:Aa Nat):Bool :=
 decide (g.names.filter (λp=>p.2 == .cell)=o.toList.map λn=>(n,NameKind.cell))&&o.all (λa=>g.names.lookup a == some .cell)&&g.names.all (λp=>p.2 != .free||kind p.1 == some .cell) &&
 g.names.all (λp=>p.2 != .local||g.names.lookup p.1 == some .local) &&
 (j.zip l).all (λp=>decide (N[p.2]?=some p.1)&&g.names.lookup p.1 == some .free)&&j.length == l.length
abbrev Eo:=J4 none
noncomputable def qN (T:Aa Af) (g:Aa Nat) (j:St):St:=T.map (λ_=>none)++g.map (λi=>(j[i]?).join)
noncomputable def sR (X:Cx) (p:Aa Af) (g:Scope) (o:Aa (Af×Ad)) (C:Ad) (l:Ae) (j:Hp) (r:Aa Ad):Cx :=
 { prog:=X.prog,w:=X.w,K:=X.K,mg:=X.mg,base:=X.base,A:=X.A,N:=p,s₀:=l,H₀:=j,env:=compEnvC g o C X.env,outer:=X.stack,stack:=X.stack,ex:=r, fn:=λx=>(o.lookup x).isNone,calm:=X.calm,pn:=[],xe:=λ_ _=>False }
def wA (X:Cx) (g:Aa Expr) (t:TT):Prop :=
 ∀ (a:Aa (Ad×Obj)) (s:Ae) (b:St) (H:Hp) (Q:Bool->Hp->Prop),Inv X a b H s->t b H Q ->
  wpAny (model X.prog X.w) X.A (forIn g true λc r=>if r=true then do let ok <- isTrue c X.env (eval c X.env);pure (ForInStep.yield ok) else pure (ForInStep.yield r)) (TP X a b Q) X.xe s
def Es:TT:=λ_ H Q=>Q true H
theorem Fd {X:Cx}:wA X [] Es:=λa s b H Q I h=>wpAny_tests_nil ⟨H,I,h⟩
theorem Td {X:Cx}(h:PT X c t):wA X [c] t:=λa s b H Q I hw=>wpAny_tests_one (h a s b H Q I hw)
def Bc (T:Aa Af) (j:Aa Nat) (J:It) (g:TG) (r:TT) (p:TE) (C:St) (o:Hp) (Q:VK) (D:Ad):Prop :=
 ∃ W:Nat->Nat->Aa V->St->Hp->Prop,(∃ m,W 0 m [] (qN T j C) (upd o D (.l [])))/\∀ i m c h d,W i m c h d ->
  (J.stop i d/\Q (.ref D) d)\/(J.go i d/\∃ (N:St->V->Hp->Prop) (F:St->Hp->Prop),(∀ a v k,N a v k->k D=some (.l c)/\c.length<sizeLine/\∃ f,f<m/\W (i+1) f (c++[v]) a (upd k D (.l (c++[v]))))/\(∀ a e,F a e->∃ f,f<m/\W (i+1) f c a e) /\ ∀ x n,J.yld i d x n->g x h n λa q=>r a q λb e=>if b=true then p a e (N a) else F a e)
def Ep (T:Aa Af) (j:Aa Nat) (p:TI) (g:TG) (o:TT) (l:TE):TE:=λb H Q=>p b H λJ a=>∀ D,a D=none->Bc T j J g o l b a Q D
theorem Ig:∀ (names:Aa (Af×NameKind)) (g:Aa (Af×Ad)),(∀ p∈names,p.2 = .free->∃ c,env.cells.lookup p.1=some c) ->
  (∀ x c,g.lookup x=some c->env.cells.lookup x=some c) ->
  ∃ j,(forIn names g λx r=>if (x.2 == NameKind.free)=true then (cellOf env x.1 >>= λa=>pure (ForInStep.yield ((x.1,a)::r))) else pure (ForInStep.yield r):Sem (Aa (Af×Ad)))=pure j /\
   (∀ x c,j.lookup x=some c->env.cells.lookup x=some c)/\(∀ x,(x,NameKind.free)∈names->(j.lookup x).isSome=true)/\(∀ x,(g.lookup x).isSome=true->(j.lookup x).isSome=true)
 | [],g,_,i=>⟨g,rfl,i,λx h=>by simp at h,λ_ h=>h⟩
 | (n,k)::r,g,v,i=>by
  by_cases w:k = .free
  .subst w;obtain⟨c,z⟩:=v (n,.free) aF rfl;have u:∀ x d,((n,c)::g).lookup x=some d->env.cells.lookup x=some d:=by
    intro x d h;rw[dO] at h;cases e:x == n with
    | true=>rw[e] at h;have:=jC.mp e;subst this;cases h;exact z
    | false=>rw[e] at h;exact i x d h
   obtain⟨j,m,s,t,f⟩:=Ig r ((n,c)::g) (λp y=>v p (aL _ y)) u;have A:(((n,c)::g).lookup n).isSome=true:=by rw[dO];simp
   refine⟨j,?_,s,λx b=>?_,λx b=>f x ?_⟩
   .rw[jY];simp only[iP,gA];have:cellOf env n=pure c:=by unfold cellOf;rw[z]
    rw[this];exact m
   .rcases aI.mp b with q | q
    .cases q;exact f _ A
    .exact t x q
   .rw[dO];cases e:x == n with
    | true=>rfl
    | false=>exact b
  .obtain⟨j,m,s,t,f⟩:=Ig r g (λp y=>v p (aL _ y)) i;refine⟨j,?_,s,λx b=>?_,f⟩
   .rw[jY];have:(k == NameKind.free)=false:=by simpa using w
    simp only[this,dU,fX];exact m
   .rcases aI.mp b with q | q
    .cases q;exact absurd rfl w
    .exact t x q
theorem MI (o:∀ p∈g.names,p.2 = .free->∃ c,j.cells.lookup p.1=some c) :
  ∃ l,closureFor g j=pure l/\(∀ x c,l.lookup x=some c->j.cells.lookup x=some c)/\(∀ x,(x,NameKind.free)∈g.names->(l.lookup x).isSome=true):=by
 obtain⟨l,e,d,f,_⟩:=Ig (env:=j) g.names [] o (λx c h=>by simp at h);refine⟨l,?_,d,f⟩;simp only[closureFor];have b:(forIn g.names [] λx r=>if (x.2 == NameKind.free)=true then (cellOf j x.1 >>= λa=>pure (ForInStep.yield ((x.1,a)::r))) else pure (ForInStep.yield r):Sem (Aa (Af×Ad)))=pure l:=e
 first
  | exact b
  | (simp only[bind_pure];exact b)
theorem Vg (h:g.names.lookup x=some k):∃ j,(relabel g env).names.lookup x=some j/\(j=k\/(k = .free/\j = .cell)):=by
 have:∀ names:Aa (Af×NameKind),names.lookup x=some k->∃ j,(names.map λ(p:Af×NameKind)=>match p with | (n,k)=>if (k == NameKind.free&&env.scope.kind == .function&&env.kindOf n == some .cell) then (n,NameKind.cell) else (n,k)).lookup x=some j/\(j=k\/(k = .free/\j = .cell)):=by
  intro names;induction names with
  | nil=>intro h;simp at h
  | cons p r b =>
   obtain⟨n,c⟩:=p;intro h;rw[aM];by_cases a:(c == NameKind.free&&env.scope.kind == .function&&env.kindOf n == some .cell)=true
   .simp only[a,gA];rw[dO] at h |-;cases e:x == n with
    | true =>
     rw[e] at h;cases h;have:k=NameKind.free:=by
      have:=(cB _ _).mp ((cB _ _).mp a).1;exact jC.mp this.1
     exact⟨_,rfl,.inr ⟨this,rfl⟩⟩
    | false=>rw[e] at h;exact b h
   .simp only[a,fX];rw[aJ (by simp)];rw[dO] at h |-;cases e:x == n with
    | true=>rw[e] at h;cases h;exact⟨_,rfl,.inl rfl⟩
    | false=>rw[e] at h;exact b h
 exact this g.names h
theorem X0 {R:Result->Ae->Prop}{iter:Expr}(I:Nat->Ae->Prop)
  (ae:∀ n s,I n s->wpAny (model g w) A (pyNext it) (λr l=>match r with
   | none=>R (.ok .next) l
   | some v=>wpAny (model g w) A (letOwnedTupleGo target it v) (λ_ o=>wpAny (model g w) A (assign target j v) (λ_ C =>
     wpAny (model g w) A (forIn ac true λc r=>if r=true then do let ok <- isTrue c j (eval c j);pure (ForInStep.yield ok) else pure (ForInStep.yield r)) (λok p =>if ok=true then wpAny (model g w) A (eval ab j) (λx J =>wpAny (model g w) A (call (.builtin "list.append") [aa,x]) (λ_ T=>∃ m,m<n/\I m T) (λ_ _=>False) J) (λ_ _=>False) p else ∃ m,m<n/\I m p) (λ_ _=>False) C) (λ_ _=>False) o) (λ_ _=>False) l) (λ_ _=>False) s)
  (n:Nat) (h:I n s) :
  codeAny (model g w) A (.compLoop (.ListComp ab [⟨target,iter,ac,0⟩] U pos) 0 it aa j) R s:=by
 refine codeAny_loop rfl I (λn s q=>?_) n h;show wpAny _ A ((compTurn (.ListComp ab [⟨target,iter,ac,0⟩] U pos) 0 it aa j).onRaise (λx=>do noteFrame x j;theTreesLotGoes x)) _ _ s;refine wpAny_noted ?_;rw[compTurn_list];refine aB (kS (aB (cX (ae n s q) (λr l b=>?_) λ_ _ a=>a.elim)));cases r with
 | none=>exact aE b
 | some v =>
  refine aB (cX b (λ_ o e=>?_) λ_ _ a=>a.elim);refine aB (cX e (λ_ C f=>aB (cX f (λok p d=>?_) λ_ _ a=>a.elim)) λ_ _ a=>a.elim);cases ok with
  | false=>exact aE ⟨rfl,d⟩
  | true =>
   exact aB (aB (cX d (λx J i=>aB (cX i (λ_ T k=>aE (aE ⟨rfl,k⟩)) λ_ _ a=>a.elim)) λ_ _ a=>a.elim))
structure LcO (nw:Option Str) (N:List Str) (kind:Str->Option NameKind) (scope:Scope) (capN:List Str) (caps:List Nat):Prop where
 one:scope.names.filter (λp=>p.2 == .cell)=nw.toList.map λn=>(n,NameKind.cell)
 cel:∀ nm,nw=some nm->scope.names.lookup nm=some .cell
 free:∀ p∈scope.names,p.2 = .free->kind p.1=some .cell
 loc:∀ p∈scope.names,p.2 = .local->scope.names.lookup p.1=some .local
 cap:∀ (j:Nat) (x:Str),capN[j]?=some x->∃ i:Nat,caps[j]?=some i/\N[i]?=some x/\scope.names.lookup x=some .free
 len:capN.length=caps.length
theorem K5 (h:J4 r N kind o T l g=true):LcO r N kind o l g:=by
 unfold J4 at h;simp only[cB] at h;obtain⟨⟨⟨⟨⟨d,c⟩,f⟩,k⟩,m⟩,n⟩:=h;have q:l.length=g.length:=jC.mp n;refine⟨cM d,λu e=>?_,λp a e=>?_,λp a e=>?_,λj x e=>?_,q⟩
 .rw[e] at c;exact jC.mp c
 .have:=bY.mp f p a;rw[e] at this
  simpa using this
 .have:=bY.mp k p a;rw[e] at this
  simpa using this
 .have t:j<l.length:=(aV.mp e).1;have b:g[j]?=some (g[j]'(by omega)):=aD (by omega);have s:(x,g[j]'(by omega))∈l.zip g:=aQ (i:=j) (by rw[List.getElem?_zip_eq_some];exact⟨e,b⟩);have:=bY.mp m _ s;simp only[cB,eL,jC] at this;exact⟨_,b,this.1,this.2⟩
theorem LcO.only (h:LcO o N kind g j l) (x:Af) (e:g.names.lookup x=some .cell):o=some x:=by
 have a:(x,NameKind.cell)∈g.names.filter (λp=>p.2 == .cell):=bV.mpr ⟨eA e,rfl⟩;rw[h.one] at a;cases o with
 | none=>cases a
 | some n=>rw[(Prod.mk.inj (bF.mp a)).1]
theorem Nf:∀ {g:Scope},(relabel g j).names.lookup x=some k->(k = .cell\/k = .free)->g.names.lookup x=some .cell\/g.names.lookup x=some .free:=by
 intro g;unfold relabel;have all:∀ names:Aa (Af×NameKind),(names.map λ(n,k)=>if (k == NameKind.free&&j.scope.kind == .function&&j.kindOf n == some .cell) then (n,NameKind.cell) else (n,k)).lookup x=some k->(k = .cell\/k = .free)->names.lookup x=some .cell\/names.lookup x=some .free:=by
  intro names;induction names with
  | nil=>intro h _;simp at h
  | cons p r d =>
   intro h b;obtain⟨n,e⟩:=p;rw[aM] at h;rw[dO];cases c:x == n with
   | true =>
    by_cases a:(e == NameKind.free&&j.scope.kind == .function&&j.kindOf n == some .cell)=true
    .simp only[cB,jC] at a;exact .inr (by rw[a.1.1])
    .simp only[a,dU,fX,dO,c] at h;cases h;rcases b with q | q
     .exact .inl (by rw[q])
     .exact .inr (by rw[q])
   | false =>
    by_cases a:(e == NameKind.free&&j.scope.kind == .function&&j.kindOf n == some .cell)=true
    .simp only[a,gA,dO,c] at h;exact d h b
    .simp only[a,dU,fX,dO,c] at h;exact d h b
 exact all g.names
theorem G4:∀ (names:Aa (Af×NameKind)) (n:Nat) (g:Aa (Af×Ad)) (h:Ag),names.filter (λp=>p.2 == .cell)=[]->cellsFrom n names g=g/\pushCells h names=h
 | [],_,_,_,_=>⟨rfl,rfl⟩
 | (y,k)::r,n,g,h,e=>by
  unfold cellsFrom pushCells;by_cases a:(k == NameKind.cell)=true
  .rw[List.filter_cons_of_pos (by exact a)] at e;cases e
  .rw[List.filter_cons_of_neg (by exact a)] at e;rw[aJ a,aJ a];exact G4 r n g h e
theorem Rb:∀ (names:Aa (Af×NameKind)) (n:Nat) (g:Aa (Af×Ad)) (h:Ag),names.filter (λp=>p.2 == .cell)=[(j,.cell)]->cellsFrom n names g=(j,n)::g/\pushCells h names=h.push { cls:=.type "cell",data:=.cell none }
 | [],_,_,_,e=>by cases e
 | (y,k)::r,n,g,h,e=>by
  unfold cellsFrom pushCells;by_cases a:(k == NameKind.cell)=true
  .rw[List.filter_cons_of_pos (by exact a)] at e;have b:=(gE e).1;have c:=(gE e).2;rw[aO a,aO a];have:=G4 r (n+1) ((y,n)::g) (h.push { cls:=.type "cell",data:=.cell none }) c;rw[this.1,this.2,(Prod.mk.inj b).1];exact⟨rfl,rfl⟩
  .rw[List.filter_cons_of_neg (by exact a)] at e;rw[aJ a,aJ a];exact Rb r n g h e
def xV (g:Ab Af) (C:Ad):Aa (Af×Ad):=match g with
 | none=>[]
 | some a=>[(a,C+1)]
theorem MR {globals:Ad}(one:g.names.filter (λp=>p.2 == .cell)=T.toList.map λn=>(n,NameKind.cell))
  (h:∀ j,j.Ns s.heap.objs.size (λ_=>none)->(∀ J,T=some J->j.IsCell (s.heap.objs.size+1) none)->(∀ b o,s.heap.get? b=some o->j.get? b=some o) ->Q { scope:=g,locals:=s.heap.objs.size,globals:=globals,cells:=xV T s.heap.objs.size++r,qual:=C,func:=none,code:=l.code,frame:=l.frame,builtins:=l.builtins } { s with heap:=j }) :
  wpAny M A (newFunctionEnv g globals r [] C none .none (some l)) Q E s:=by
 simp only[newFunctionEnv,kL,gA];refine aB (wpAny_alloc ?_);refine aB (wpAny_layCells _ (λname kind I=>by cases i:kind == NameKind.cell<;>simp[i]) _ _ _ _ ?_);have z:(s.heap.push { cls:=.type "dict",data:=.dict #[] }).objs.size=s.heap.objs.size+1:=dX ..;have a:=Heap.Ns.new s.heap (.type "dict");show wpAny M A _ Q E _;cases T with
 | none =>
  obtain⟨c,f⟩:=G4 g.names (s.heap.push { cls:=.type "dict",data:=.dict #[] }).objs.size r (s.heap.push { cls:=.type "dict",data:=.dict #[] }) one;rw[c,f];exact aB (aE (aE (h _ a (λ_ e=>nomatch e) λb o e=>aG _ e)))
 | some J =>
  obtain⟨c,f⟩:=Rb g.names (s.heap.push { cls:=.type "dict",data:=.dict #[] }).objs.size r (s.heap.push { cls:=.type "dict",data:=.dict #[] }) one;have d:cellsFrom ({ s with heap:=s.heap.push { cls:=.type "dict",data:=.dict #[] } }:Ae).heap.objs.size g.names r=(J,s.heap.objs.size+1)::r:=by rw[<- z];exact c
  rw[d,f];refine aB (aE (aE (h _ (a.keeps λb o e=>aG _ e) (λ_ _=>?_) λb o e=>aG _ (aG _ e))));exact⟨_,by rw[<- z];exact aX _ rfl,rfl⟩
noncomputable def GU (j:Ab Af) (g:Aa (Af×Ad)):Af->Bool:=match j with
 | none=>λx=>(g.lookup x).isNone
 | some a=>λx=>x == a||(g.lookup x).isNone
def tN (p:Ab Af) (X:Cx) (r:Aa Af) (g:Scope) (o:Aa (Af×Ad)) (C:Ad) (l:Ae) (j:Hp) (I:Aa Ad):Cx :=
 { prog:=X.prog,w:=X.w,K:=X.K,mg:=X.mg,base:=X.base,A:=X.A,N:=r,s₀:=l,H₀:=j,env:=compEnvC g (xV p C++o) C X.env,outer:=X.stack,stack:=X.stack,ex:=I, fn:=GU p o,calm:=X.calm,pn:=[],xe:=λ_ _=>False }
section
variable {X:Cx}
theorem Inv.moved {t':Nat}{fp:Aa Ad}(I:Inv X g p H s) (j:∀ b∈fp,sQ X g H b) (k:∀ b o,b∉fp->s.heap.get? b=some o->l.get? b=some o):Inv X g p H { s with heap:=l,toks:=t' }:=by
 have d:∀ b u,H b=some u->b∉fp:=λb u e z=>by rw[(j b z).1] at e;cases e
 refine I.step (g':=s.gens) (d':=s.drawn) (ch:=fp) (λb f=>⟨(j b f).2.2.2.1,(j b f).2.1,(j b f).2.2.2.2.1,(j b f).2.2.2.2.2⟩) (λb o _ _ a e _=>k b o a e) (λb o _ _ a e _=>⟨o.slots,k b o a e⟩) (λ_ _ _ _ n=>n)
  (λb o a e=>⟨o,k b o a e⟩) (λ_ _ e=>e) (λ_ _ _ e=>e) (λb x e=>⟨#[],by rw[e];simp⟩) (λm t=>?_) (λb u e=>?_) I.bare
 .obtain⟨o,i,h,w,r⟩:=t;exact⟨o,i,h,k _ o (λz=>(j _ z).2.1 rfl) w,r⟩
 .refine (I.hok b u e).stay (λc v a q=>k c v ?_ q) (λ_ q=>q) λ_ _ q=>q
  rcases a with z | z
  .rw[z];exact d b u e
  .exact d c _ z
end
section
variable {X:Cx}
theorem Ra {iter:Expr}(T U:Aa Af) (aa:Aa Nat) (hc:X.calm=true) (hi:PI X tg iter wi)
  (hk:j.kind = .function) (O:LcO nw X.N X.env.kindOf j U aa)
  (hg:∀ ae ab C cl fp,PG (tN nw X (T++U) j cl C ae ab fp) tg g)
  (ht:∀ ae ab C cl fp,wA (tN nw X (T++U) j cl C ae ab fp) af tt)
  (he:∀ ae ab C cl fp,PE (tN nw X (T++U) j cl C ae ab fp) a4 te)
  (hs:∀ x,foldedSetIterable iter X.env x=pure x)
(I:Inv X ac σ H s) (h:Ep T aa wi g tt te σ H Q)
  (fin:∀ (C D:Ad) (s6:Ae) (H5:Hp),Inv X ac σ H5 s6->Q (.ref D) H5->sQ X ac H5 C->(∃ m,s6.heap.Ns C m)->compPost (model X.prog X.w) X.A X.xe a2 Qs (.ref D) C (.ok .next) s6) :
  wpAny (model X.prog X.w) X.A (comprehension (.ListComp a4 [⟨tg,iter,af,0⟩] j pos) j X.env (firstIterPos [⟨tg,iter,af,0⟩] pos) (newList []) (firstAsync [⟨tg,iter,af,0⟩]) (firstIter [⟨tg,iter,af,0⟩] X.env) a2) Qs X.xe s:=by
 have ax:∀ p∈j.names,p.2 = .free->∃ c,X.env.cells.lookup p.1=some c:=λp hp e=>I.ok.has p.1 (.inl (O.free p hp e))
 obtain⟨cl,aw,P,a3⟩:=MI ax;refine wpAny_comprehension_free (use:=a2) rfl hs aw hk O.loc (lA (hi ac s σ H _ I h) λv s1 h1=>lA h1 λb4 s2 h2=>?_);obtain⟨it,fp,tn,J,H2,rfl,I2,B,bb,f2,hD⟩:=h2;refine eK ?_;have f:Inv X ac σ (upd H2 s2.heap.objs.size (.l [])) { s2 with heap:=s2.heap.push { cls:=.type "list",data:=.seq ([]:Aa Ac).toArray } }:=I2.lnew (t':=s2.toks) (its:=[]) (ys:=[]) .nil (dB _);have fD:H2 s2.heap.objs.size=none:=I2.fresh;obtain⟨W,⟨m0,w0⟩,ao⟩:=hD s2.heap.objs.size fD;generalize bo:s2.heap.objs.size=D at f fD w0 ao |-;have bz:tn 0 (s2.heap.push { cls:=.type "list",data:=.seq ([]:Aa Ac).toArray }):=B.keep _ _ _ bb λb _ o e=>aG _ e
 have a9:∀ b∈fp,b<D:=λb a=>by
  obtain⟨o,e,_⟩:=B.obj _ _ bb b a;rw[<- bo];exact aU e
 generalize bt:({ s2 with heap:=s2.heap.push { cls:=.type "list",data:=.seq ([]:Aa Ac).toArray } }:Ae)=K at f |-;have ag:tn 0 K.heap:=by rw[<- bt];exact bz
 generalize bp:upd H2 D (.l [])=M at f w0;have f3:∀ b∈fp,sQ X ac M b:=λb a=>by
  obtain⟨z0,z⟩:=f2 b a;exact⟨by rw[<- bp,lT (bI (a9 b a))];exact z0,z⟩
 refine MR O.one (λZ V S old=>?_);have av:M K.heap.objs.size=none:=f.fresh;have ak:M (K.heap.objs.size+1)=none:=f.hok.fresh (iK _);generalize hC:K.heap.objs.size=C at V S av ak |-;have ba:∀ b o,K.heap.get? b=some o->b≠C:=λb o e=>by rw[<- hC];exact bI (aU e)
 have a5:∀ b∈fp,b≠C:=λb a=>by
  obtain⟨o,e,_⟩:=B.obj _ _ ag b a;exact ba b o e
 have a6:∀ b∈fp,b∉sX X.stack:=λb a z=>by
  rcases aI.mp (f.stkSub b z) with q | q
  .exact (f3 b a).2.1 q
  .exact (f3 b a).2.2.1 q
 have bm:∀ b∈fp,b<C:=λb a=>by
  obtain⟨o,e,_⟩:=B.obj _ _ ag b a;rw[<- hC];exact aU e
 have lS:∀ x c,(xV nw C++cl).lookup x=some c->(nw=some x/\c=C+1)\/(nw≠some x/\cl.lookup x=some c):=λx c e=>by
  cases nw with
  | none=>exact .inr ⟨(λz=>nomatch z),e⟩
  | some nm =>
   have e:((nm,C+1)::cl).lookup x=some c:=e;rw[dO] at e;cases a:x == nm with
   | true=>rw[a] at e;cases e;exact .inl ⟨by rw[jC.mp a],rfl⟩
   | false=>rw[a] at e;exact .inr ⟨(λz=>by cases z;simp at a),e⟩
 have lift:∀ x c,nw≠some x->cl.lookup x=some c->(xV nw C++cl).lookup x=some c:=λx c n e=>by
  cases nw with
  | none=>exact e
  | some nm =>
   show ((nm,C+1)::cl).lookup x=some c;rw[dO,show (x == nm)=false from cV.mpr λz=>n (by rw[z])];exact e
 have ai:∀ x c,cl.lookup x=some c->c<C:=λx c e=>by
  obtain⟨v,o,ho,_⟩:=f.cell x c (P x c e);rw[<- hC];exact aU ho
 have aj:∀ b∈fp,∀ x c,(xV nw C++cl).lookup x=some c->c≠b:=λb a x c e=>by
  rcases lS x c e with⟨_,q⟩ | ⟨_,q⟩
  .exact λz=>absurd (bm b a) (by rw[<- z,q];exact Nat.not_lt.mpr (iK C))
  .exact (f3 b a).2.2.2.2.1 x c (P x c q)
 have a8:(tN nw X (T++U) j cl C K M fp).Ok:=by
  refine⟨f.ok.mod,hk,f.ok.glob,f.ok.blt,kW hC,λx y c R E=>?_,λx hx=>?_,λx c R E=>?_,f.ok.hd,f.ok.frames,.inl rfl,λb a=>⟨a5 b a,λx c e=>aj b a x c e⟩,λb o e=>f.bs b o e,?_,λb o e z=>?_,λb a=>a6 b a,f.stack,f.stkFree⟩
  .rcases lS x c R with⟨q1,r1⟩ | ⟨q1,r1⟩
   .rcases lS y c E with⟨q2,r2⟩ | ⟨q2,r2⟩
    .exact bZ (q1.symm.trans q2)
    .exact absurd (ai y c r2) (by rw[r1];exact Nat.not_lt.mpr (iK C))
   .rcases lS y c E with⟨q2,r2⟩ | ⟨q2,r2⟩
    .exact absurd (ai x c r1) (by rw[r2];exact Nat.not_lt.mpr (iK C))
    .exact f.ok.inj x y c (P x c r1) (P y c r2)
  .have bu:(relabel j X.env).names.lookup x=some .cell\/(relabel j X.env).names.lookup x=some .free:=hx;have hf:j.names.lookup x=some .cell\/j.names.lookup x=some .free:=by
    rcases bu with q | q
    .exact Nf q (.inl rfl)
    .exact Nf q (.inr rfl)
   show ∃ c,(xV nw C++cl).lookup x=some c;by_cases a:nw=some x
   .subst a;exact⟨C+1,by show ((x,C+1)::cl).lookup x=_;rw[dO,iP]⟩
   .rcases hf with q | q
    .exact absurd (O.only x q) a
    .obtain⟨c,e⟩:=dZ.mp (a3 x (eA q));exact⟨c,lift x c a e⟩
  .rcases lS x c E with⟨q,r⟩ | ⟨q,r⟩
   .show K.heap.objs.size<=c;rw[r,hC];exact iK C
   .cases nw with
    | none =>
     have R:(cl.lookup x).isNone=true:=R;rw[r] at R;cases R
    | some nm =>
     have R:(x == nm||(cl.lookup x).isNone)=true:=R;rw[r,show (x == nm)=false from cV.mpr λz=>q (by rw[z])] at R;cases R
  .exact bP f.ok.bsz f.sz
  .obtain⟨z0,z1,z2,z3,_⟩:=f3 b z;rcases z3 with q | q
   .exact f.ok.noex b o e q
   .exact absurd (bG (aU e) (bP f.ok.bsz q)) (dY _)
 have I4:Inv (tN nw X (T++U) j cl C K M fp) [] (qN T aa σ) M { K with heap:=Z }:=by
  refine⟨a8,rfl,f.bare,Un.kept old,⟨_,V,λi x v R E e3=>?_⟩,λx c e=>?_,av,λx c e=>?_,λp hp=>absurd (show p∈([]:Aa (Ad×Obj)) from hp) (by simp),f.hok.kept old,?_⟩
  .have R:(T++U)[i]?=some x:=R;unfold qN at E;by_cases hi:i<T.length
   .rw[eI (by simpa using hi),bD] at E;cases q:T[i]? with
    | none=>rw[q] at E;cases E
    | some z=>rw[q] at E;cases E
   .rw[cS (by omega)] at R;rw[cS (by simpa using hi),bD,aA] at E;obtain⟨k,k1,k2,k3⟩:=O.cap _ x R;rw[k1] at E;have E:(σ[k]?).join=some v:=bZ E;have bj:σ[k]?=some (some v):=by
     cases q:σ[k]? with
     | none=>rw[q] at E;cases E
     | some z=>rw[q] at E;exact dD some E
    have Y:X.env.kindOf x=some .cell:=O.free (x,.free) (eA k3) rfl;obtain⟨m,hn,hl⟩:=f.loc;obtain⟨u,r,l⟩:=hl k x v k2 bj (.inr (.inl Y));refine⟨u,r,.inr ⟨?_,?_⟩⟩
    .obtain⟨k',e5,e6⟩:=Vg (env:=X.env) k3;rcases e6 with z | ⟨_,z⟩
     .subst z;exact .inr e5
     .subst z;exact .inl e5
    .rcases l with⟨l1,_⟩ | ⟨_,c,e7,o,ay,az⟩
     .rw[Y] at l1;cases l1
     .obtain⟨c',e8⟩:=dZ.mp (a3 x (eA k3));have:=P x c' e8;rw[e7] at this;cases this;exact⟨c,lift x c (λz=>by rw[O.cel x z] at k3;cases k3) e8,o,old c o ay,az⟩
  .rcases lS x c e with⟨n,q⟩ | ⟨_,q⟩
   .exact⟨none,q▸S x n⟩
   .obtain⟨v,o,ay,az⟩:=f.cell x c (P x c q);exact⟨v,o,old c o ay,az⟩
  .rcases lS x c e with⟨_,q⟩ | ⟨_,q⟩
   .exact q▸ak
   .exact f.freeC x c (P x c q)
  .show (qN T aa σ).length=(T++U).length;unfold qN;rw[aW,aW,aA,aA,O.len]
 have au:∀ {H':Hp},(∀ b∈fp,H' b=none)->∀ b∈fp,sQ (tN nw X (T++U) j cl C K M fp) [] H' b:=λhn b a =>
  ⟨hn b a,a5 b a,a6 b a,.inl a,λx c e=>aj b a x c e,λp hp=>absurd (show p∈([]:Aa (Ad×Obj)) from hp) (by simp)⟩
 have bc:tn 0 Z:=B.keep _ _ _ ag λb _ o e=>old b o e
 have b0:W 0 m0 [] (qN T aa σ) M:=w0;have an:codeAny (model X.prog X.w) X.A (.compLoop (.ListComp a4 [⟨tg,iter,af,0⟩] j pos) 0 (.ref it) (.ref D) (compEnvC j (xV nw C++cl) C X.env))
   (compPost (model X.prog X.w) X.A X.xe a2 Qs (.ref D) C) { K with heap:=Z }:=by
  refine X0 (λn s'=>∃ i ys be H',Inv (tN nw X (T++U) j cl C K M fp) [] be H' s'/\tn i s'.heap/\(∀ b∈fp,H' b=none)/\W i n ys be H') ?_ m0 ⟨0,[],qN T aa σ,M,I4,bc,λb a=>(f3 b a).1,b0⟩;rintro n s5 ⟨i,ys,ah,H5,I5,bd,a7,w5⟩;rcases ao i n ys ah H5 w5 with⟨stop,qn⟩ | ⟨go,N,F,hN,hF,step⟩
  .refine lA (B.done (tN nw X (T++U) j cl C K M fp) rfl rfl rfl hc i [] s5 ah H5 _ I5 (au a7) bd stop) λr s6 t=>?_
   obtain⟨hr,I6⟩:=t;subst hr;obtain⟨m6,br,_⟩:=I6.loc;have bq:H5 C=none:=I6.free;have ub:=I6.base;have a0:=f.fpOk (kW hC) av;refine fin C D s6 H5 (Inv.call' (s':=s6) (ch:=fp) f I6.os ?_ I6.hok I6.bare (λb a=>⟨(f3 b a).2.2.2.1,(f3 b a).2.1,(f3 b a).2.2.2.2.1,(f3 b a).2.2.2.2.2⟩)) qn ⟨bq,a0.2⟩ ⟨m6,br⟩;exact⟨λb o q n a hx=>ub.keep b o q n a hx,λb o q n a hx=>ub.slot b o q n a hx,ub.free,λb o q hx=>ub.there b o q hx,ub.tups,ub.frzs,ub.tbls⟩
  .refine lA (B.item (tN nw X (T++U) j cl C K M fp) rfl rfl rfl hc i [] s5 ah H5 _ I5 (au a7) bd go) λr s6 t=>?_
   obtain⟨u,hr,h6⟩:=t;subst hr;refine lA h6 λ_ s7 t=>?_
   obtain⟨x,H7,I7,r7,y7,a1,bn⟩:=t;have bh:=I7.pinned (au bn) (B.obj _ _ a1);have G:∀ {L:St} {H8:Hp} {s8:Ae},Inv (tN nw X (T++U) j cl C K M fp) ([]++B1 fp s7.heap) L H8 s8->tn (i+1) s8.heap/\(∀ b∈fp,H8 b=none):=λ{L H8 s8} I8=>by
    refine⟨B.keep _ _ _ a1 λb a o e=>(I8.pin (b,o) (bA _ (bA _ (Ev a e)))).1,λb a=>?_⟩;obtain⟨o,e,d⟩:=B.obj _ _ a1 b a;exact (I8.pin (b,o) (bA _ (bA _ (Ev a e)))).2.1
   refine lA (hg K M C cl fp _ s7 ah H7 x u _ bh r7 (step x H7 y7)) λ_ s8 t=>?_
   obtain⟨L,H8,I8,q8⟩:=t;refine lA (ht K M C cl fp _ s8 L H8 _ I8 q8) λok s9 t=>?_
   obtain⟨H9,I9,q9⟩:=t;cases ok with
   | false =>
    rw[aJ (by simp)] at q9;rw[aJ (by simp)];obtain⟨m',hm,w9⟩:=hF _ _ q9;exact⟨m',hm,i+1,ys,L,H9,I9.unpinned,(G I9).1,(G I9).2,w9⟩
   | true =>
    rw[aO rfl] at q9;rw[aO rfl];refine lA (he K M C cl fp _ s9 L H9 _ I9 q9) λvv bx t=>?_
    obtain⟨v,bf,bg,bw,bv⟩:=t;obtain⟨bi,b3,m',hm,b1⟩:=hN _ _ _ bv;refine lA (tJ (X:=tN nw X (T++U) j cl C K M fp) _ bx L bf (.ref D) [v] (.ref D) [vv] (λ_ aq=>W (i+1) m' (ys++[v]) L aq) bg rfl (.cons bw .nil) ⟨D,ys,v,rfl,rfl,bi,b3,b1⟩) λ_ b5 t=>?_
    obtain⟨_,aq,ar,_,b2⟩:=t;exact⟨m',hm,i+1,ys++[v],L,aq,ar.unpinned,(G ar).1,(G ar).2,b2⟩
 exact codeAny_compStart_list an (B.self _ 0 _ _ _ bc an)
theorem BD {D:Ad}(I:Inv X g J j p) (q:Q (.ref D) j) (r:sQ X g j C) (l:∃ m,p.heap.Ns C m):compPost (model X.prog X.w) X.A X.xe none (EP X g J Q) (.ref D) C (.ok .next) p:=by
 obtain⟨m,l⟩:=l;refine⟨m,l,λd c=>⟨.ref D,j,I.moved (t':=p.toks) (fp:=[C]) (λb a=>?_) (λb o a e=>?_),rfl,q⟩⟩
 .rw[bF.mp a];exact r
 .exact c.extBut b o (λz=>a (bF.mpr z)) e
theorem Bm {iter:Expr}(T o:Aa Af) (r:Aa Nat) (hc:X.calm=true) (hi:PI X tg iter wi)
  (hk:j.kind = .function) (ho:Eo X.N X.env.kindOf j T o r=true)
  (hg:∀ p l C U J,PG (sR X (T++o) j U C p l J) tg g)
  (ht:∀ p l C U J,wA (sR X (T++o) j U C p l J) ab tt)
  (he:∀ p l C U J,PE (sR X (T++o) j U C p l J) aa te)
  (hs:∀ x,foldedSetIterable iter X.env x=pure x:=by intro _;rfl) :
  PE X (.ListComp aa [⟨tg,iter,ab,0⟩] j pos) (Ep T r wi g tt te):=by
 intro a s e H Q I h;rw[eval_ListComp];exact Ra (nw:=none) T o r hc hi hk (K5 ho) hg ht he hs I h λC D d c I q J b=>BD I q J b
end
structure Yields (J:It) (xs:List V) (R:Hp->Prop):Prop where
 go:∀ i H,i<xs.length->R H->J.go i H
 yld:∀ i H x H',i<xs.length->R H->J.yld i H x H'->H'=H/\xs[i]?=some x
 stop:∀ i H,i=xs.length->R H->J.stop i H
theorem Wk {K:lK}:Yields (vS K a) g (λH=>hI K H a g) :=
 ⟨λi H b r=>⟨g,g[i],r,aD b⟩,λi H x c b r y=>⟨y.1,y.2 g r⟩,λi H e r=>⟨g,r,by omega⟩⟩
theorem R6 {lo:Int}:Yields (sO lo n) ((List.range n).map λ(i:Nat)=>V.int (lo+(i:Int))) (λ_=>True) :=
 ⟨λi H a _=>by simpa [sO] using a,λi H x b a _ y=>⟨y.1,by rw[y.2];simp at a;simp[a]⟩,λi H e _=>by simp[sO,e]⟩
def xY (z:Af):Aa V:=z.cps.toList.map λc=>V.str ⟨#[c]⟩
theorem IM:Yields (tO z) (xY z) (λ_=>True) :=
 ⟨λi H a _=>by simpa [tO,xY,Str.length] using a,
  λi H x d a _ y=>by
   obtain⟨e,c,b,rfl⟩:=y;refine⟨e,?_⟩;unfold xY;rw[bD,dF,b];rfl,
  λi H e _=>by simp[tO,e,xY,Str.length]⟩
def Iv (o:St) (D:Ad) (Pv:Nat->Aa V->Hp->Prop) (i:Nat) (g:Aa V) (j:St):VK:=λv a=>(∃ t,j=t::o)/\a D=some (.l g)/\g.length<sizeLine/\Pv (i+1) (g++[v]) (upd a D (.l (g++[v])))
def Th (l:St) (Pv:Nat->Aa V->Hp->Prop) (i:Nat) (o:Aa V) (g:St) (j:Hp):Prop:=(∃ t,g=t::l)/\Pv (i+1) o j
theorem Uh {R:Hp->Prop}{D:Ad}(Y:Yields J o R) (Pv:Nat->Aa V->Hp->Prop)
  (U:Pv 0 [] (upd T D (.l []))) (I:∀ i j H,i<=o.length->Pv i j H->R H)
  (hs:∀ i x j H,o[i]?=some x->Pv i j H->tt (some x::g.map (λi=>(r[i]?).join)) H λb C =>if b=true then te (some x::g.map (λi=>(r[i]?).join)) C (Iv (g.map (λi=>(r[i]?).join)) D Pv i j (some x::g.map (λi=>(r[i]?).join))) else Th (g.map (λi=>(r[i]?).join)) Pv i j (some x::g.map (λi=>(r[i]?).join)) C)
  (hd:∀ j H,Pv o.length j H->Q (.ref D) H):Bc [nm] g J (Ap 0) tt te r T Q D:=by
 refine⟨λi m j d H=>m=o.length-i/\i<=o.length/\(∃ t,d=t::g.map (λi=>(r[i]?).join))/\Pv i j H,⟨o.length,by simp,dB _,⟨none,rfl⟩,U⟩,?_⟩;rintro i m j d c ⟨rfl,h,⟨t,rfl⟩,p⟩;by_cases a:i<o.length
 .refine .inr ⟨Y.go i c a (I i j c h p),Iv (g.map (λi=>(r[i]?).join)) D Pv i j,Th (g.map (λi=>(r[i]?).join)) Pv i j,?_,?_,λx q y=>?_⟩
  .rintro n v z ⟨k,s,u,f⟩;exact⟨s,u,o.length-(i+1),by omega,rfl,a,k,f⟩
  .rintro n C ⟨k,f⟩;exact⟨o.length-(i+1),by omega,rfl,a,k,f⟩
  .obtain⟨rfl,w⟩:=Y.yld i c x q a (I i j c h p) y;exact hs i x j q w p
 .have e:i=o.length:=by omega
  subst e;exact .inl ⟨Y.stop _ _ rfl (I _ j c h p),hd j c p⟩
def vN:Expr->Bool
 | .Starred _ _=>false
 | _=>true
theorem Yg (h:vN e=true):starEach (e::j) g=(false,eval e g)::starEach j g:=by
 cases e<;>first | rfl | (cases h;done)
section
variable {X:Cx}
theorem mX (j:PE X e o) (l:PA X g t) (h:vN e=true:=by rfl):PA X (e::g) (Gq o t):=vP j l (Yg h)
def Xo (g:Aa Af):TA:=λ_ H Q=>Q (g.map V.str) H
theorem Br:∀ (l:Aa (Af×Nat×Pos)),PA X (l.map λp=>.Constant (.str p.1) p.2.1 p.2.2) (Xo (l.map (·.1)))
 | []=>nJ
 | a::r=>λpos b s c H Q I h=>mX (wC (x:=a.1) (j:=a.2.1) (pos:=a.2.2)) (Br r) (by rfl) pos b s c H Q I h
end
theorem Hz {R:Hp->Prop}{D:Ad}(Y:Yields J o R) (Pv:Nat->Aa V->Hp->Prop)
  (I:Pv 0 [] (upd C D (.l []))) (T:∀ i j H,i<=o.length->Pv i j H->R H)
  (U:∀ i x j H,o[i]?=some x->Pv i j H->te (some x::g.map (λi=>(r[i]?).join)) H (Iv (g.map (λi=>(r[i]?).join)) D Pv i j (some x::g.map (λi=>(r[i]?).join))))
  (hd:∀ j H,Pv o.length j H->Q (.ref D) H):Bc [nm] g J (Ap 0) Es te r C Q D:=by
 refine Uh Y Pv I T (λi x j H a p=>?_) hd;unfold Es;dsimp only;rw[aO rfl];exact U i x j H a p
theorem HR {R:Hp->Prop}{D:Ad}(Y:Yields J g R) (f:V->V) (T:j D=none) (C:∀ H,oW j H->R H) (hl:g.length<=1000)
  (I:∀ (i:Nat) x H (k:VK),g[i]?=some x->oW j H->k (f x) H->U (some x::r.map (λi=>(σ[i]?).join)) H k)
  (hd:Q (.ref D) (upd j D (.l (g.map f)))):Bc [nm] r J (Ap 0) Es U σ j Q D:=by
 have sm:∀ o,oW j (upd j D o):=λo b u e=>by rw[lT (mT e T)];exact e
 refine Hz Y (λi a H=>i<=g.length/\a=(g.take i).map f/\H=upd j D (.l a)) ⟨dB _,by simp,rfl⟩ (λi a H _ p=>C H (by rw[p.2.2];exact sm _)) ?_ ?_
 .rintro i x a H d ⟨m,rfl,rfl⟩;have c:=(aV.mp d).1;have h:g.take (i+1)=g.take i++[x]:=by rw[cA,d];rfl
  refine I i x _ _ d (sm _) ⟨⟨_,rfl⟩,mM,?_,c,?_,?_⟩
  .rw[aA,bN];exact cT (show min i g.length<=1000 by omega) (by decide)
  .rw[h,aZ];rfl
  .rw[Xd]
 .rintro a H ⟨_,rfl,rfl⟩;rw[bW (aP _)];exact hd
theorem Ey {X:Cx}{st:Stmt}{rest:Aa Stmt}{D:Ends}(I:St->Hp->Prop) (g:∀ u:TS,(∀ j l,I j l->u D j l)->∃ t,PS X st t/\t { D with nx:=u D } o H)
  (h:∀ j l,I j l->∃ u,oN X rest u/\u D j l):∃ t,oN X (st::rest) t/\t D o H:=by
 let u:TS:=λb j l=>∃ c,oN X rest c/\c b j l
 have k:oN X rest u:=λa s j l b d ⟨c,i,e⟩=>i a s j l b d e
 obtain⟨t,pt,f⟩:=g u h;exact⟨Kh t u,pE pt k,f⟩
theorem S5 {X:Cx}{st:Stmt}{rest:Aa Stmt}{D:Ends}(t:TS) (p:PS X st t) (h:t { D with nx:=λg j=>∃ u,oN X rest u/\u D g j } l H):∃ t,oN X (st::rest) t/\t D l H:=by
 let u:TS:=λb g j=>∃ c,oN X rest c/\c b g j
 have i:oN X rest u:=λa s g j b d ⟨c,f,e⟩=>f a s g j b d e
 exact⟨Kh t u,pE p i,h⟩
section
variable {X:Cx}{id:String}
def KI (K:lK):Aa V->Hp->VK->Prop:=λb H Q=>∃ p a,b=[.ref p]/\(hI K H p a\/mK K H p a)/\Q (.int a.length) H
theorem Wx (K:lK) (g:X.K=K:=by rfl):nF X (.builtin "len") (KI K):=by subst g;exact Ba
theorem DA (K:lK) (pa:PlainAttrs T) (slot:Slot T name id) (j:typeOf (.builtin id)=pure (.type "method_descriptor")) (J:uK X id r) (U:PE X o to) (C:PA X (e::l) t) (p:X.K=K:=by rfl)
  (I:MtB X o name apos e l g:=by exact {}) :
  PE X (.Call (.Attribute o name apos) (e::l) [] g) (Sz K T r to t):=by
 subst p;exact zK pa slot j J U C I
end
section
variable {X:Cx}
theorem IR (g:X.A.units+64<cLine):mL X (compareOp .NotEq) (J6 X.K true):=by
 intro c s M H x y v u Q I F G h;obtain⟨a,b,L,rfl,rfl,f,z,q⟩:=h;cases F;cases G;obtain⟨B,D,m,_⟩:=I.list f;obtain⟨k,E,n,_⟩:=I.list z;cases E;have t:∀ d,d = !L.isEmpty->EP X c M Q (.bool d) s:=λd e=>⟨.b d,H,I,rfl,by subst e;exact q⟩
 cases D with
 | nil=>exact SeqAt.RcNeAt.lists (e:=λ_=>true) m.isList n.isList rfl (by omega) (λi f _=>by simp at f) X.prog X.w _ _ (t _ (by simp))
 | cons r N=>exact SeqAt.RcNeAt.lists_lengths m.isList n.isList (by simp) (by omega) X.prog X.w _ _ (t _ rfl)
end
section
variable {X:Cx}
theorem Lk {bs:Aa Bool}{g:Aa Ac}(r:lL (bs.map V.b) g){i:Nat}{v:Ac}(h:g[i]?=some v):∃ b,bs[i]?=some b/\v = .bool b:=by
 have d:=r.length;rw[aA] at d;have f:i<g.length:=(aV.mp h).1;have a:bs[i]?=some (bs[i]'(by omega)):=aD (by omega);obtain⟨u,c,e⟩:=r.get (i:=i) (x:=V.b (bs[i]'(by omega))) (by rw[bD,a];rfl);rw[h] at c;cases c;exact⟨_,a,e⟩
theorem Xw (bs:Aa Bool):((List.range bs.length).all λi=>(bs[i]?).getD true)=bs.all id:=by
 have e:(List.range bs.length).map (λi=>(bs[i]?).getD true)=bs:=by
  apply jU (by simp);intro i p q;simp[q]
 calc ((List.range bs.length).all λi=>(bs[i]?).getD true)=((List.range bs.length).map λi=>(bs[i]?).getD true).all id:=by rw[List.all_map];rfl
  _=bs.all id:=by rw[e]
def Uk (K:lK):Aa V->Hp->VK->Prop:=λa H Q=>∃ (p:Ad) (bs:Aa Bool),a=[.ref p]/\hI K H p (bs.map V.b)/\Q (.b (bs.all id)) H
theorem HW (g:X.calm=true):nF X (.builtin "all") (Uk X.K):=by
 intro m s P H O N Q I r h;obtain⟨p,bs,rfl,z,q⟩:=h;obtain⟨u,rfl,D⟩:=oS r;cases D;obtain⟨c,n,B,_⟩:=I.list z;have d:=B.isList;have a:=n.length;rw[aA] at a;have f:p<s.heap.objs.size:=by obtain⟨_,e,_⟩:=id d;exact aU e
 refine call_all_walk (eZ d ?_);refine⟨s.heap.objs.size,[s.heap.objs.size,p],[s.heap.objs.size],c.toArray.size,_,_,λi=>(bs[i]?).getD true,rfl,Walks.list (A:=X.A.in1) (I.ok.hd g) _ p (bI f) c.toArray,⟨⟨_,aX _ rfl,rfl,rfl⟩,d.push _⟩,λi v L F E t k=>?_,λG M w=>?_⟩
 .obtain⟨b,e,rfl⟩:=Lk n (by simpa using t);simp only[e,Option.getD_some] at k;exact eY k
 .have e:((List.range c.toArray.size).all λi=>(bs[i]?).getD true)=bs.all id:=by
   rw[aR,<- a];exact Xw bs
  rw[e];exact⟨.b _,H,I.kept λb x e=>w b x (λy=>by rw[bF.mp y] at e;exact dY _ (aU e)) (aG _ e),rfl,q⟩
def Sg:V->Aa V->Hp->VK->Prop:=λx a H Q=>∃ (z y:Af),x = .str z/\a=[.str y]/\y.length≠0/\z.length<=1000000/\∀ p,H p=none->Q (.ref p) (upd H p (.l ((Txt.split z y).map V.str)))
theorem Pa:∀ (l:Aa (Af×Tok)),lL ((l.map (·.1)).map V.str) (strValues l)
 | []=>.nil
 | a::r=>.cons ⟨a.2,rfl⟩ (Pa r)
theorem Vr:uK X "str.split" Sg:=by
 intro b s A H x F v E Q I w n h;obtain⟨z,y,rfl,rfl,m,D,q⟩:=h;obtain⟨t,rfl⟩:=w;obtain⟨u,rfl,c,rfl⟩:=n.one;have a:(y.length == 0)=false:=by simpa using m
 have fin:∀ (l:Aa (Af×Tok)) (d:Nat),l.map (·.1)=Txt.split z y->l.length<=sizeLine->EP X b A Q (.ref s.heap.objs.size) { s with heap:=s.heap.push { cls:=.type "list",data:=.seq (strValues l).toArray },toks:=d }:=by
  intro l d e k;refine⟨.ref _,_,I.lnew (its:=strValues l) (ys:=(Txt.split z y).map V.str) (t':=d) (by rw[<- e];exact Pa l) ?_,rfl,q _ I.fresh⟩;rw[aA,<- e,aA];exact k
 have f:(Builtin.Str.partsBetween z (Builtin.Str.occurrences z y 0 z.length (z.length+1)) y.length).length<=sizeLine:=by
  have B:=StrLaws.occ_length_le z y 0 z.length (z.length+1);rw[length_partsBetween,jF];omega
 cases g1:(decide (z.length<y.length)||decide (Builtin.Str.strKind z<Builtin.Str.strKind y)) with
 | false =>
  cases g2:(Builtin.Str.occurrences z y 0 z.length (z.length+1)).isEmpty with
  | false =>
   refine iL iC (kK _ _ _) jI (iX _ _) (meets_str_split_sep z y t c g1 a g2 (by rw[jF];omega) f) ?_;show wants _ _ _ { s with toks:=_,heap:=s.heap.push { cls:=.type "list",data:=.seq (strsFrom s.toks (Builtin.Str.partsBetween z (Builtin.Str.occurrences z y 0 z.length (z.length+1)) y.length)).toArray } };rw[strsFrom_eq];have i:(numbered s.toks (Builtin.Str.partsBetween z (Builtin.Str.occurrences z y 0 z.length (z.length+1)) y.length)).map (·.1)=Txt.split z y:=(numbered_texts _ _).trans ((aJ (kF g1)).trans (aJ (kF g2))).symm;refine fin _ _ i ?_;have:=dD List.length (numbered_texts s.toks (Builtin.Str.partsBetween z (Builtin.Str.occurrences z y 0 z.length (z.length+1)) y.length));rw[aA] at this;rw[this];exact f
  | true =>
   exact iL iC (kK _ _ _) jI (iX _ _) (meets_str_split_not_found z y t c g1 a g2)
    (fin [(z,t)] s.toks ((aJ (kF g1)).trans (aO g2)).symm (by show 1<=sizeLine;decide))
 | true =>
  exact iL iC (kK _ _ _) jI (iX _ _) (meets_str_split_cannot_occur z y t c g1)
   (fin [(z,t)] s.toks (aO g1).symm (by show 1<=sizeLine;decide))
end
section
variable {X:Cx}
theorem Inv.movedT {t':Nat}{p:Aa Ad}{ys:Aa V}{j:Aa Ac}(I:Inv X g U H s) (l:∀ b∈p,sQ X g H b) (k:∀ b o,b∉p->s.heap.get? b=some o->C.get? b=some o)
  (new:vH C s.heap.objs.size j.toArray) (T:lL ys j) (J:ys.length<=sizeLine):Inv X g U (upd H s.heap.objs.size (.t ys)) { s with heap:=C,toks:=t' }:=by
 have f:=I.fresh;have h:∀ b u,H b=some u->b∉p:=λb u e z=>by rw[(l b z).1] at e;cases e
 have lt:∀ b o,s.heap.get? b=some o->b≠s.heap.objs.size:=λb o e=>bI (aU e)
 refine I.step (g':=s.gens) (d':=s.drawn) (ch:=p) (λb a=>⟨(l b a).2.2.2.1,(l b a).2.1,(l b a).2.2.2.2.1,(l b a).2.2.2.2.2⟩) (λb o _ _ d e _=>k b o d e) (λb o _ _ d e _=>⟨o.slots,k b o d e⟩) (λb o _ e n=>by rw[lT (lt b o e)];exact n)
  (λb o d e=>⟨o,k b o d e⟩) (λb A e=>by rw[lT (mT e f)];exact e) (λb o u e=>by rw[lT (mT e f)];exact e) (λb B e=>⟨#[],by rw[lT (mT e f),e];simp⟩) (λm x=>?_) (λb u e=>?_) I.bare
 .obtain⟨o,w,i,y,r⟩:=x;exact⟨o,w,i,k _ o (λz=>(l _ z).2.1 rfl) y,r⟩
 .by_cases a:b=s.heap.objs.size
  .subst a;rw[mM] at e;cases e;exact⟨J,j,T,new⟩
  .rw[lT a] at e;refine (I.hok b u e).stay (λc v d q=>k c v ?_ q) (λc q=>by rw[lT (mT q f)];exact q) λc A q=>by rw[lT (mT q f)];exact q
   rcases d with z | z
   .rw[z];exact h b u e
   .exact h c _ z
end
section
variable {X:Cx}
theorem Wp {iter:Expr}(T p:Aa Af) (J:Aa Nat) (hN:X.N.Nodup) (af:X.N[i]?=some x) (hx:uN X.env.scope x)
  (hc:X.calm=true) (hi:PI X tg iter wi) (hk:j.kind = .function) (ho:Eo X.N X.env.kindOf j T p J=true)
  (hg:∀ r l C cl U,PG (sR X (T++p) j cl C r l U) tg g)
  (ht:∀ r l C cl U,wA (sR X (T++p) j cl C r l U) ac tt)
  (he:∀ r l C cl U,PE (sR X (T++p) j cl C r l U) ab te)
  (ag:swapsWith (.ListComp ab [⟨tg,iter,ac,0⟩] j pos) (some (.Name x aa)) ae.line X.env=pure true:=by rfl)
  (hs:∀ x,foldedSetIterable iter X.env x=pure x:=by intro _;rfl)
  (hf:X.fn x=true\/X.env.scope.names.lookup x=some .local:=by first | exact .inl rfl | exact .inr rfl | assumption) :
  PS X (.Assign [.Name x aa] (.ListComp ab [⟨tg,iter,ac,0⟩] j pos) ae) (Gy (Ep T J wi g tt te) (Ap i)):=by
 intro u s M H D I h;rw[exec_Assign_Name_used _ _ _ _ ag];refine aB (kS (aB ?_));show wpAny _ _ (comprehension _ _ _ _ _ _ _ _ >>= λ_=>pure ()) _ _ _;refine aB (Ra (nw:=none) T p J hc hi hk (K5 ho) hg ht he hs I h λC t L w A q U k=>?_);obtain⟨m,E⟩:=k;show wpAny _ _ (assign (.Name x aa) X.env (.ref t)) _ _ _;refine wpAny_assign_Name (T1 A hN af hx (v:=.ref t) rfl (λF y f=>?_) hf);obtain⟨a,G,B⟩:=f;have c:C≠a:=by
  rcases B with z | z
  .rw[z];exact U.2.1
  .exact (U.2.2.2.2.1 x a z).symm
 refine⟨m,E.sameBut G c,λK n=>aE (aE ⟨_,w,y.moved (t':=F.toks) (fp:=[C]) (λb d=>?_) (λb o d e=>?_),q⟩)⟩
 .rw[bF.mp d];exact U
 .exact n.extBut b o (λz=>d (bF.mpr z)) e
end
inductive D where
 | e | b (b:Bool) | int (i:Int) | str (x:Str) | r (v:V)
 | t (xs:List D) | l (xs:List D)
 | k (kvs:List (eF×D)) | T (kvs:List (List eF×D))
 | c (xs:List D)
 | con (xs:List D)
def A2 (K:lK) (a:Ad) (g:Aa V):Prop:=∃ (o:Obj) (b:Array Ac) (n:Nat),K.lookup a=some o/\o.cls = .type "tuple" /\ o.data = .seq b n/\b.size<=sizeLine/\lL g b.toList
theorem A2.sqT {K:lK}(h:A2 K a g):mK K H a g:=.inr h
def yQ (K:lK) (H:Hp) (a:Ad) (g:Aa V):Prop:=(∃ o,H a=some (.frz o (.l g))) \/
 ∃ (o:Obj) (b:Array Ac) (n:Nat),K.lookup a=some o/\o.cls = .type "list" /\ o.dict=none/\o.data = .seq b n/\b.size<=sizeLine/\lL g b.toList
theorem yQ.sqL {K:lK}(h:yQ K H a g):hI K H a g:=h.elim (λh=>.inl (.inr h)) .inr
mutual
inductive Rep (K:lK) (A:Addr->Prop) (H:Hp):D->V->Prop where
 | e:Rep K A H .e .e
 | b (b:Bool):Rep K A H (.b b) (.b b)
 | int (i:Int):Rep K A H (.int i) (.int i)
 | str (x:Str):Rep K A H (.str x) (.str x)
 | r (v:V):Rep K A H (.r v) v
 | t {a:Addr} {vs:List V} {ds:List D}:H a=some (.t vs)->Reps K A H ds vs->Rep K A H (.t ds) (.ref a)
 | con {a:Addr} {vs:List V} {ds:List D}:A2 K a vs->Reps K A H ds vs->Rep K A H (.con ds) (.ref a)
 | l {a:Addr} {vs:List V} {ds:List D}:A a->H a=some (.l vs)->Reps K A H ds vs->Rep K A H (.l ds) (.ref a)
 | c {a:Addr} {vs:List V} {ds:List D}:yQ K H a vs->Reps K A H ds vs->Rep K A H (.c ds) (.ref a)
 | k {a:Addr} {kvs:List (eF×V)} {ds:List (eF×D)}:A a->H a=some (.k kvs)->ds.map (·.1)=kvs.map (·.1)->Reps K A H (ds.map (·.2)) (kvs.map (·.2))->Rep K A H (.k ds) (.ref a)
 | T {a:Addr} {kvs:List (List eF×V)} {ds:List (List eF×D)}:A a->Rd H a (.T kvs)->ds.map (·.1)=kvs.map (·.1)->Reps K A H (ds.map (·.2)) (kvs.map (·.2))->Rep K A H (.T ds) (.ref a)
inductive Reps (K:lK) (A:Addr->Prop) (H:Hp):List D->List V->Prop where
 | nil:Reps K A H [] []
 | cons {d:D} {v:V} {ds:List D} {vs:List V}:Rep K A H d v->Reps K A H ds vs->Reps K A H (d::ds) (v::vs)
end
def Dy:HO->Bool
 | .t _=>true
 | .frz _ _=>true
 | _=>false
def Kp (A j:Ad->Prop) (H g:Hp):Prop:=(∀ a o,A a->H a=some o->j a/\g a=some o)/\∀ a o,Dy o=true->H a=some o->g a=some o
section
variable {K:lK}
theorem Kp.sqF (k:Kp A l H g) (h:yQ K H a j):yQ K g a j:=by
 rcases h with⟨o,h⟩ | h
 .exact .inl ⟨o,k.2 _ _ rfl h⟩
 .exact .inr h
theorem Kp.rd (k:Kp A j H l) (g:A a) (h:Rd H a u):j a/\Rd l a u:=by
 rcases h with h | ⟨o,h⟩
 .exact⟨(k.1 _ _ g h).1,.inl (k.1 _ _ g h).2⟩
 .exact⟨(k.1 _ _ g h).1,.inr ⟨o,(k.1 _ _ g h).2⟩⟩
theorem Rep.mono (k:Kp A g H j) (h:Rep K A H d v):Rep K g j d v :=
 Rep.rec (motive_1:=λd v _=>Rep K g j d v) (motive_2:=λf i _=>Reps K g j f i) .e .b .int .str .r (λh _ r=>.t (k.2 _ _ rfl h) r) (λh _ r=>.con h r)
  (λa h _ r=>.l (k.1 _ _ a h).1 (k.1 _ _ a h).2 r) (λh _ r=>.c (k.sqF h) r) (λa h e _ r=>.k (k.1 _ _ a h).1 (k.1 _ _ a h).2 e r) (λa h e _ r=>.T (k.rd a h).1 (k.rd a h).2 e r) .nil (λ_ _ h r=>.cons h r) h
theorem Reps.mono (k:Kp A o H p) (h:Reps K A H j l):Reps K o p j l:=by
 induction j generalizing l with
 | nil=>cases h;exact .nil
 | cons d j a=>cases h with | cons g r=>exact .cons (g.mono k) (a r)
theorem Kp.all (h:∀ a,A a->g a):Kp A g H H:=⟨λa o b e=>⟨h a b,e⟩,λ_ _ _ e=>e⟩
theorem Kp.trans (a:Kp A l H r) (b:Kp l g r j):Kp A g H j:=⟨λx o c e=>let ⟨p,q⟩:=a.1 x o c e;b.1 x o p q,λx o t e=>b.2 x o t (a.2 x o t e)⟩
theorem Kp.laid (g:H p=none) (h:∀ a,A a->a≠p->j a):Kp A j H (upd H p o) :=
 ⟨λa u b e=>⟨h a b (mT e g),by rw[lT (mT e g)];exact e⟩,λa u _ e=>by rw[lT (mT e g)];exact e⟩
theorem Kp.same (s:oW H j) (h:∀ a,A a->g a):Kp A g H j:=⟨λa o b e=>⟨h a b,s a o e⟩,λa o _ e=>s a o e⟩
theorem Kp.write (l:H p=some u) (g:Dy u=false) (j:¬ A p):Kp A A H (upd H p o):=by
 refine⟨λa w b e=>⟨b,?_⟩,λa w t e=>?_⟩
 .rw[lT (λz:a=p=>j (by rw[<- z];exact b))];exact e
 .rw[lT (λz=>?_)]
  .exact e
  .subst z;rw[l] at e;cases e;rw[t] at g;cases g
theorem Reps.length (h:Reps K A H j l):j.length=l.length:=by
 induction j generalizing l with
 | nil=>cases h;rfl
 | cons d j a=>cases h with | cons g r=>exact dD (·+1) (a r)
theorem Reps.get {j:Aa D}{l:Aa V}{i:Nat}{d:D}(h:Reps K A H j l) (e:j[i]?=some d):∃ v,l[i]?=some v/\Rep K A H d v:=by
 induction j generalizing l i with
 | nil=>cases e
 | cons c j a =>
  cases h with
  | cons g r =>
   cases i with
   | zero=>cases e;exact⟨_,rfl,g⟩
   | succ i=>exact a r (i:=i) e
theorem Reps.getV {j:Aa D}{l:Aa V}{i:Nat}{v:V}(h:Reps K A H j l) (e:l[i]?=some v):∃ d,j[i]?=some d/\Rep K A H d v:=by
 induction j generalizing l i with
 | nil=>cases h;cases e
 | cons c j a =>
  cases h with
  | cons g r =>
   cases i with
   | zero=>cases e;exact⟨_,rfl,g⟩
   | succ i=>exact a r (i:=i) e
theorem Reps.append (h:Reps K A H j l) (s:Reps K A H o p):Reps K A H (j++o) (l++p):=by
 induction j generalizing l with
 | nil=>cases h;exact s
 | cons d j a=>cases h with | cons g r=>exact .cons g (a r)
theorem Reps.take:∀ {g:Aa D}{j:Aa V}(n:Nat),Reps K A H g j->Reps K A H (g.take n) (j.take n)
 | _,_,0,_=>by rw[List.take_zero,List.take_zero];exact .nil
 | _,_,n+1,.nil=>.nil
 | _,_,n+1,.cons h r=>.cons h (Reps.take n r)
theorem Reps.drop:∀ {g:Aa D}{j:Aa V}(n:Nat),Reps K A H g j->Reps K A H (g.drop n) (j.drop n)
 | _,_,0,h=>h
 | _,_,n+1,.nil=>.nil
 | _,_,n+1,.cons h r=>Reps.drop n r
theorem Reps.set (h:Rep K A H d v):∀ {j:Aa D}{l:Aa V}(i:Nat),Reps K A H j l->Reps K A H (j.set i d) (l.set i v)
 | _,_,_,.nil=>.nil
 | _,_,0,.cons _ r=>.cons h r
 | _,_,i+1,.cons g r=>.cons g (Reps.set h i r)
theorem Reps.erase:∀ {j:Aa D}{l:Aa V}(i:Nat),Reps K A H j l->Reps K A H (j.eraseIdx i) (l.eraseIdx i)
 | _,_,_,.nil=>.nil
 | _,_,0,.cons _ r=>r
 | _,_,i+1,.cons g r=>.cons g (Reps.erase i r)
theorem Reps.nil_iff (h:Reps K A H g j):j=[]↔g=[]:=by
 cases h<;>simp
theorem Rep.int_inv (h:Rep K A H (.int i) v):v = .int i:=by cases h;rfl
theorem Rep.str_inv (h:Rep K A H (.str i) v):v = .str i:=by cases h;rfl
theorem Rep.bl_inv (h:Rep K A H (.b i) v):v = .b i:=by cases h;rfl
theorem Rep.non_inv (h:Rep K A H .e v):v = .e:=by cases h;rfl
theorem Rep.raw_inv (h:Rep K A H (.r u) v):v=u:=by cases h;rfl
theorem Rep.tup_inv (h:Rep K A H (.t j) v):∃ a g,v = .ref a/\H a=some (.t g)/\Reps K A H j g:=by
 cases h with | t h r=>exact⟨_,_,rfl,h,r⟩
theorem Rep.lst_inv (h:Rep K A H (.l j) v):∃ a g,v = .ref a/\A a/\H a=some (.l g)/\Reps K A H j g:=by
 cases h with | l d h r=>exact⟨_,_,rfl,d,h,r⟩
theorem Rep.con_inv (h:Rep K A H (.con j) v):∃ a g,v = .ref a/\A2 K a g/\Reps K A H j g:=by
 cases h with | con h r=>exact⟨_,_,rfl,h,r⟩
theorem Rep.scr_inv (h:Rep K A H (.c j) v):∃ a g,v = .ref a/\yQ K H a g/\Reps K A H j g:=by
 cases h with | c h r=>exact⟨_,_,rfl,h,r⟩
theorem Rep.dK_inv (h:Rep K A H (.k j) v):∃ a g,v = .ref a/\A a/\H a=some (.k g)/\j.map (·.1)=g.map (·.1)/\Reps K A H (j.map (·.2)) (g.map (·.2)):=by
 cases h with | k d h e r=>exact⟨_,_,rfl,d,h,e,r⟩
theorem Rep.dT_inv (h:Rep K A H (.T j) v):∃ a g,v = .ref a/\A a/\Rd H a (.T g)/\j.map (·.1)=g.map (·.1)/\Reps K A H (j.map (·.2)) (g.map (·.2)):=by
 cases h with | T d h e r=>exact⟨_,_,rfl,d,h,e,r⟩
end
mutual
def imm:D->Bool
 | .t a=>vF a
 | .c a=>vF a
 | .con a=>vF a
 | .l _=>false
 | .k _=>false
 | .T _=>false
 | _=>true
def vF:Aa D->Bool
 | []=>true
 | d::a=>imm d&&vF a
end
section
variable {K:lK}
theorem Rep.imm (h:Rep K A H d v):imm d=true->Rep K g H d v :=
 Rep.rec (motive_1:=λd v _=>L2.imm d=true->Rep K g H d v) (motive_2:=λa f _=>vF a=true->Reps K g H a f) (λ_=>.e) (λb _=>.b b) (λi _=>.int i) (λx _=>.str x) (λv _=>.r v) (λh _ r e=>.t h (r e)) (λh _ r e=>.con h (r e))
  (λ_ _ _ _ e=>Bool.noConfusion (show false=true from e)) (λh _ r e=>.c h (r e)) (λ_ _ _ _ _ e=>Bool.noConfusion (show false=true from e)) (λ_ _ _ _ _ e=>Bool.noConfusion (show false=true from e)) (λ_=>.nil) (λ_ _ h r e=>.cons (h (iM.mp e).1) (r (iM.mp e).2)) h
theorem Reps.imm (h:Reps K A H j l) (e:vF j=true):Reps K o H j l:=by
 induction j generalizing l with
 | nil=>cases h;exact .nil
 | cons d j a=>cases h with | cons g r=>exact .cons (g.imm (iM.mp e).1) (a r (iM.mp e).2)
end
end L2
namespace Lw
open PySem L2
structure DeckAt (H:Hp) (d c:Addr):Prop where
 ex:∃ (ns:List Int) (p:Int),H d=some (.l [.ref c,.int p])/\H c=some (.l (ns.map V.int))/\0<ns.length/\ns.length<=100
def nA (d c:Ad) (H g:Hp):Prop:=∀ b o,H b=some o->b≠d->b≠c->g b=some o
theorem nA.trans (a:nA d c H g) (b:nA d c g j):nA d c H j:=λx o e f h=>b x o (a x o e f h) f h
theorem nA.new (h:H p=none):nA d c H (upd H p o):=λb u e _ _=>by rw[lT (mT e h)];exact e
theorem DeckAt.ne (D:DeckAt H d c):d≠c:=by
 obtain⟨i,p,f,b,h,_⟩:=D.ex;intro e;subst e;rw[f] at b;injection b with b;injection b with b;cases i with
 | nil=>simp at h
 | cons a r=>simp at b
theorem DeckAt.upd_other (D:DeckAt H d c) (hd:p≠d) (g:p≠c):DeckAt (upd H p o) d c:=by
 obtain⟨h,q,a,b,e,f⟩:=D.ex;exact⟨h,q,by rw[lT hd.symm];exact a,by rw[lT g.symm];exact b,e,f⟩
theorem DeckAt.ned (D:DeckAt H d c) (h:H p=none):p≠d/\p≠c:=by
 obtain⟨e,q,a,b,_⟩:=D.ex;exact⟨(mT a h).symm,(mT b h).symm⟩
theorem DeckAt.new (D:DeckAt H d c) (h:H p=none):DeckAt (upd H p o) d c:=D.upd_other (D.ned h).1 (D.ned h).2
end Lw
namespace L2
open PySem PySem.Spec PyProof.Rows Lw
inductive Sl where
 | n | v (d:D) | o (d:D)
abbrev nO:=Aa (Sl×Ab V)
def Dk (g:Aa Ad) (H:Hp):Prop:=g=[]\/∃ d c,g=[d,c]/\DeckAt H d c
theorem Dk.some (h:Dk j H) (g:a∈j):∃ o,H a=some (.l o):=by
 rcases h with rfl | ⟨d,c,rfl,h⟩
 .cases g
 .obtain⟨f,p,b,e,_⟩:=h.ex;rcases aI.mp g with rfl | g
  .exact⟨_,b⟩
  .rcases aI.mp g with rfl | g
   .exact⟨_,e⟩
   .cases g
theorem Dk.keep (h:Dk g H) (k:∀ a∈g,j a=H a):Dk g j:=by
 rcases h with rfl | ⟨d,c,rfl,h⟩
 .exact .inl rfl
 .refine .inr ⟨d,c,rfl,?_⟩;obtain⟨i,p,b,e,f⟩:=h.ex;exact⟨i,p,by rw[k d (by simp)];exact b,by rw[k c (by simp)];exact e,f⟩
theorem Dk.upd (h:Dk g H) (j:p∉g):Dk g (upd H p o):=h.keep λa b=>lT λz=>j (z▸b)
noncomputable def Aq:Sl×Ab V->Ab Ad
 | (.o _,some (.ref a))=>some a
 | _=>none
def gV (L:nO):Aa Ad:=L.filterMap Aq
structure Bs where
 dk:List Addr
 A0:Addr->Prop
 H0:Hp
def Al (B:Bs) (R:Aa Ad) (a:Ad):Prop:=a∉B.dk/\a∉R/\(B.A0 a\/B.H0 a=none)
def oY (K:lK) (A:Ad->Prop) (H:Hp) (a:Ad):D->Prop
 | .l c=>∃ d,H a=some (.l d)/\Reps K A H c d
 | .k c=>∃ b,H a=some (.k b)/\c.map (·.1)=b.map (·.1)/\Reps K A H (c.map (·.2)) (b.map (·.2))
 | .T c=>∃ b,H a=some (.T b)/\c.map (·.1)=b.map (·.1)/\Reps K A H (c.map (·.2)) (b.map (·.2))
 | _=>False
def sU (K:lK) (A:Ad->Prop) (H:Hp):Sl->Ab V->Prop
 | .n,_=>True
 | .v d,x=>∃ v,x=some v/\Rep K A H d v
 | .o d,x=>∃ a,x=some (.ref a)/\oY K A H a d
structure DS (K:lK) (B:Bs) (L:nO) (H:Hp):Prop where
 fr:∀ b o,B.H0 b=some o->b∉B.dk->H b=some o
 dk:Dk B.dk H
 nd:(gV L).Nodup
 new:∀ a∈gV L,B.H0 a=none/\a∉B.dk
 ok:∀ p∈L,sU K (Al B (gV L)) H p.1 p.2
section
variable {K:lK}{L2:nO}
theorem oY.mono (k:Kp A p H j) (g:∀ o,H a=some o->j a=some o) (h:oY K A H a d):oY K p j a d:=by
 cases d with
 | l _=>obtain⟨b,h,r⟩:=h;exact⟨b,g _ h,r.mono k⟩
 | k _=>obtain⟨b,h,e,r⟩:=h;exact⟨b,g _ h,e,r.mono k⟩
 | T _=>obtain⟨b,h,e,r⟩:=h;exact⟨b,g _ h,e,r.mono k⟩
 | _=>exact False.elim h
theorem oY.some:∀ {d:D},oY K A H a d->∃ o,H a=some o/\Dy o=false
 | .l _,⟨b,h,r⟩=>⟨_,h,rfl⟩
 | .k _,⟨b,h,e,r⟩=>⟨_,h,rfl⟩
 | .T _,⟨b,h,e,r⟩=>⟨_,h,rfl⟩
theorem oY.rep (g:∀ b,A b->o b) (j:o a):∀ {d:D},oY K A H a d->Rep K o H d (.ref a)
 | .l _,⟨c,h,r⟩=>.l j h (r.mono (.all g))
 | .k _,⟨c,h,e,r⟩=>.k j h e (r.mono (.all g))
 | .T _,⟨c,h,e,r⟩=>.T j (.inl h) e (r.mono (.all g))
theorem sU.mono (k:Kp A j H g) (h:sU K A H s y) (l:∀ a,Aq (s,y)=some a->∀ o,H a=some o->g a=some o):sU K j g s y:=by
 cases s with
 | n=>trivial
 | v d=>obtain⟨v,e,r⟩:=h;exact⟨v,e,r.mono k⟩
 | o d=>obtain⟨a,rfl,r⟩:=h;exact⟨a,rfl,r.mono k (l a rfl)⟩
theorem qK:gV (g++L2)=gV g++gV L2:=List.filterMap_append
theorem uY:a∈gV L↔∃ p∈L,Aq p=some a:=kJ
theorem pS:gV (L1++x::L2)=gV L1++((Aq x).toList++gV L2):=by
 unfold gV;rw[List.filterMap_append,List.filterMap_cons];cases Aq x<;>rfl
theorem DS.live (h:DS K B L H) (g:a∈gV L):∃ o,H a=some o/\Dy o=false:=by
 obtain⟨p,c,e⟩:=uY.mp g;have:=h.ok p c;obtain⟨s,y⟩:=p;cases s with
 | n=>cases e
 | v d=>cases e
 | o d =>
  obtain⟨b,rfl,r⟩:=this;cases e;exact r.some
theorem DS.drop (h:DS K B (L1++x::L2) H):DS K B (L1++L2) H:=by
 have e:=pS (L1:=L1) (x:=x) (L2:=L2);have d:∀ a,a∈gV (L1++L2)->a∈gV (L1++x::L2):=λa c=>by
  rw[qK] at c;rw[e];simp only[bE] at c |-;rcases c with q | q
  .exact .inl q
  .exact .inr (.inr q)
 refine⟨h.fr,h.dk,?_,λa c=>h.new a (d a c),λp f=>?_⟩
 .have n:=h.nd;rw[e] at n;rw[qK];obtain⟨k,m,s⟩:=bK.mp n;exact bK.mpr ⟨k,(bK.mp m).2.1,λa c b i=>s a c b (bA _ i)⟩
 .refine (h.ok p (by simp only[bE,aI] at f |-;rcases f with q | q;exact .inl q;exact .inr (.inr q))).mono (.all λa z=>⟨z.1,λq=>z.2.1 (d a q),z.2.2⟩) (λ_ _ _ q=>q)
theorem DS.at (h:DS K B (g++x::L2) H):sU K (Al B (gV (g++x::L2))) H x.1 x.2:=h.ok x (bA _ aF)
theorem DS.valAt (h:DS K B (g++(.v d,some v)::L2) H):Rep K (Al B (gV (g++L2))) H d v:=by
 obtain⟨u,e,r⟩:=h.at;cases e;have:gV (g++(Sl.v d,some v)::L2)=gV (g++L2):=by rw[pS,qK];rfl
 rw[this] at r;exact r
theorem DS.push (h:DS K B (L1++L2) H) (r:Rep K (Al B (gV (L1++L2))) H d v):DS K B (L1++(.v d,some v)::L2) H:=by
 have e:gV (L1++(Sl.v d,some v)::L2)=gV (L1++L2):=by rw[pS,qK];rfl
 refine⟨h.fr,h.dk,by rw[e];exact h.nd,by rw[e];exact h.new,λp a=>?_⟩;rw[e];simp only[bE,aI] at a;rcases a with q | q | q
 .exact h.ok p (bB _ q)
 .subst q;exact⟨v,rfl,r⟩
 .exact h.ok p (bA _ q)
theorem DS.pushN (h:DS K B (L1++L2) H) (y:Ab V):DS K B (L1++(.n,y)::L2) H:=by
 have e:gV (L1++(Sl.n,y)::L2)=gV (L1++L2):=by rw[pS,qK];rfl
 refine⟨h.fr,h.dk,by rw[e];exact h.nd,by rw[e];exact h.new,λp a=>?_⟩;rw[e];simp only[bE,aI] at a;rcases a with q | q | q
 .exact h.ok p (bB _ q)
 .subst q;trivial
 .exact h.ok p (bA _ q)
theorem DS.grow (h:DS K B L H) (s:oW H g) (j:Dk B.dk g):DS K B L g :=
 ⟨λb o e n=>s b o (h.fr b o e n),j,h.nd,h.new,λp a=>(h.ok p a).mono (.same s λ_ z=>z) (λ_ _ o q=>s _ o q)⟩
theorem DS.free (h:DS K B L H) (g:H a=none):B.H0 a=none/\a∉B.dk/\a∉gV L:=by
 have n:a∉B.dk:=λz=>by obtain⟨b,e⟩:=h.dk.some z;rw[e] at g;cases g
 refine⟨?_,n,λz=>by obtain⟨o,e,_⟩:=h.live z;rw[e] at g;cases g⟩;cases e:B.H0 a with
 | none=>rfl
 | some o=>rw[h.fr a o e n] at g;cases g
theorem DS.laid (h:DS K B L H) (g:H a=none):DS K B L (upd H a o) :=
 h.grow (λb u e=>by rw[lT (mT e g)];exact e) (h.dk.upd (h.free g).2.1)
theorem DS.tup (h:DS K B (L1++L2) H) (g:H a=none) (r:Reps K (Al B (gV (L1++L2))) H j l):DS K B (L1++(.v (.t j),some (.ref a))::L2) (upd H a (.t l)) :=
 (h.laid g).push (.t mM (r.mono (.laid g λ_ z _=>z)))
theorem DS.make (h:DS K B (L1++L2) H) (g:H a=none) (r:∀ j,Kp (Al B (gV (L1++L2))) j H (upd H a o)->oY K j (upd H a o) a d):DS K B (L1++(.o d,some (.ref a))::L2) (upd H a o):=by
 obtain⟨f1,f2,k⟩:=h.free g;have e:gV (L1++(Sl.o d,some (.ref a))::L2)=gV L1++a::gV L2:=pS;have m:∀ b,b∈gV L1++a::gV L2↔b=a\/b∈gV (L1++L2):=λb=>by
  rw[qK];simp only[bE,aI];constructor
  .rintro (q | q | q)
   .exact .inr (.inl q)
   .exact .inl q
   .exact .inr (.inr q)
  .rintro (q | q | q)
   .exact .inr (.inl q)
   .exact .inl q
   .exact .inr (.inr q)
 have s:Kp (Al B (gV (L1++L2))) (Al B (gV L1++a::gV L2)) H (upd H a o):=.laid g λb z n=>⟨z.1,λq=>(m b).mp q |>.elim n z.2.1,z.2.2⟩
 refine⟨λb u q n=>by rw[lT (mT (h.fr b u q n) g)];exact h.fr b u q n,h.dk.upd f2,?_,λb i=>?_,λp f=>?_⟩
 .rw[e];have n:=h.nd;rw[qK] at n k;obtain⟨v,x,y⟩:=bK.mp n;refine bK.mpr ⟨v,bX.mpr ⟨λz=>k (bA _ z),x⟩,λb i c t=>?_⟩;rcases aI.mp t with q | q
  .intro z;subst z;subst q;exact k (bB _ i)
  .exact y b i c q
 .rw[e] at i;rcases (m b).mp i with q | q
  .subst q;exact⟨f1,f2⟩
  .exact h.new b q
 .rw[e];simp only[bE,aI] at f;have old:∀ p∈L1++L2,sU K (Al B (gV L1++a::gV L2)) (upd H a o) p.1 p.2:=λp f=>(h.ok p f).mono s λb i w q=>by rw[lT (mT q g)];exact q
  rcases f with q | q | q
  .exact old p (bB _ q)
  .subst q;exact⟨a,rfl,r _ s⟩
  .exact old p (bA _ q)
theorem DS.freeze (h:DS K B (g++(.o d,some v)::L2) H):DS K B (g++(.v d,some v)::L2) H:=by
 obtain⟨a,e,r⟩:=h.at;cases e;have c:gV (g++(Sl.o d,some (V.ref a))::L2)=gV g++a::gV L2:=pS;have hd:=h.drop;have f:=h.new a (by rw[c];simp);refine hd.push (r.rep (λb z=>⟨z.1,λq=>z.2.1 ?_,z.2.2⟩) ⟨f.2,λq=>?_,.inr f.1⟩)
 .rw[c];rw[qK] at q;simp only[bE,aI] at q |-;rcases q with q | q
  .exact .inl q
  .exact .inr (.inr q)
 .have n:=h.nd;rw[c] at n;rw[qK] at q;obtain⟨m,i,k⟩:=bK.mp n;rcases bE.mp q with q | q
  .exact k a q a aF rfl
  .exact (bX.mp i).1 q
theorem DS.write (h:DS K B (g++(.o d,some (.ref a))::L2) H) (r:∀ j,Kp (Al B (gV g++a::gV L2)) j H (upd H a o)->oY K j (upd H a o) a d'):DS K B (g++(.o d',some (.ref a))::L2) (upd H a o):=by
 have e:∀ d,gV (g++(Sl.o d,some (V.ref a))::L2)=gV g++a::gV L2:=λd=>pS
 have s:=h.new a (by rw[e];simp);obtain⟨u,t,A⟩:=h.live (a:=a) (by rw[e];simp);have k:Kp (Al B (gV g++a::gV L2)) (Al B (gV g++a::gV L2)) H (upd H a o):=.write t A λz=>z.2.1 (by simp)
 have n:=h.nd;rw[e] at n;have y:∀ b,b∈gV g\/b∈gV L2->b≠a:=λb c z=>by
  subst z;obtain⟨D,v,x⟩:=bK.mp n;rcases c with c | c
  .exact x b c b aF rfl
  .exact (bX.mp v).1 c
 refine⟨λb w q m=>?_,h.dk.upd s.2,by rw[e];exact n,λb c=>h.new b (by rw[e] at c |-;exact c),λp f=>?_⟩
 .have:b≠a:=λz=>by subst z;rw[s.1] at q;cases q
  rw[lT this];exact h.fr b w q m
 .rw[e];have old:∀ p,p∈g\/p∈L2->sU K (Al B (gV g++a::gV L2)) (upd H a o) p.1 p.2:=λp i=>by
   have:=h.ok p (by simp only[bE,aI];rcases i with q | q;exact .inl q;exact .inr (.inr q));rw[e] at this;refine this.mono k λb c w q=>?_
   rw[lT (y b ?_)]
   .exact q
   .rcases i with z | z
    .exact .inl (uY.mpr ⟨p,z,c⟩)
    .exact .inr (uY.mpr ⟨p,z,c⟩)
  simp only[bE,aI] at f;rcases f with q | q | q
  .exact old p (.inl q)
  .subst q;exact⟨a,rfl,r _ k⟩
  .exact old p (.inr q)
theorem DS.ownAt (h:DS K B (g++(.o d,some v)::L2) H):∃ a,v = .ref a/\oY K (Al B (gV g++a::gV L2)) H a d:=by
 obtain⟨a,e,r⟩:=h.at;cases e;rw[show gV (g++(Sl.o d,some (V.ref a))::L2)=gV g++a::gV L2 from pS] at r;exact⟨a,rfl,r⟩
theorem DS.perm (h:DS K B L H) (p:L.Perm M):DS K B M H:=by
 have e:(gV L).Perm (gV M):=p.filterMap Aq;refine⟨h.fr,h.dk,e.nodup_iff.mp h.nd,λa b=>h.new a (e.mem_iff.mpr b),λq c=>(h.ok q (p.mem_iff.mpr c)).mono (.all λa z=>⟨z.1,λw=>z.2.1 (e.mem_iff.mpr w),z.2.2⟩) λ_ _ _ w=>w⟩
end
section
theorem sZ {g:Aa Sl}{σ:St}(C:g.length=σ.length){i:Nat}{s:Sl}(h:g[i]?=some s):∃ j y l,σ[i]?=some y/\j.length=i/\g.zip σ=j++(s,y)::l/\∀ o p,(g.set i o).zip (σ.set i p)=j++(o,p)::l:=by
 induction g generalizing σ i with
 | nil=>simp at h
 | cons r g e =>
  cases σ with
  | nil=>simp at C
  | cons z σ =>
   cases i with
   | zero=>simp at h;subst h;exact⟨[],z,g.zip σ,rfl,rfl,rfl,λ_ _=>rfl⟩
   | succ i =>
    obtain⟨j,y,l,a,b,c,d⟩:=e (σ:=σ) (by simpa using C) (i:=i) (by simpa using h);exact⟨(r,z)::j,y,l,by simpa using a,by simp[b],by simp[c],λo p=>by simp[d]⟩
theorem yY {g:St}{i:Nat}{y:Ab V}(h:g[i]?=some y):g.set i y=g:=by
 obtain⟨a,rfl⟩:=aV.mp h;exact List.set_getElem_self a
end
abbrev mE:=Aa Ad->Aa Sl->(Sl->Aa Sl->Prop)->Prop
abbrev rS:=Aa Ad->Aa Sl->(Bool->Aa Sl->Prop)->Prop
def dE (K:lK) (g:mE):TE:=λb H Q=>∃ (B:Bs) (c:Aa Sl) (T:nO) (e:Sl->Aa Sl->Prop),c.length=b.length/\DS K B (c.zip b++T) H/\g B.dk c e /\
 ∀ r a v d,a.length=b.length->DS K B (a.zip b++(r,some v)::T) d->e r a->Q v d
def uX (K:lK) (g:rS):TT:=λc H Q=>∃ (B:Bs) (d:Aa Sl) (T:nO) (f:Bool->Aa Sl->Prop),d.length=c.length/\DS K B (d.zip c++T) H/\g B.dk d f /\
 ∀ b a e,a.length=c.length->DS K B (a.zip c++T) e->f b a->Q b e
theorem dE.elim {K:lK}{P:Prop}(h:dE K C o H Q) (f:∀ (B:Bs) (j:Aa Sl) (T:nO) (l:Sl->Aa Sl->Prop),j.length=o.length->DS K B (j.zip o++T) H->C B.dk j l ->(∀ r g v p,g.length=o.length->DS K B (g.zip o++(r,some v)::T) p->l r g->Q v p)->P):P:=by
 obtain⟨B,j,T,l,a,hd,b,k⟩:=h;exact f B j T l a hd b k
theorem uX.elim {K:lK}{P:Prop}(h:uX K r o H Q) (f:∀ (B:Bs) (j:Aa Sl) (T:nO) (l:Bool->Aa Sl->Prop),j.length=o.length->DS K B (j.zip o++T) H->r B.dk j l ->(∀ b g p,g.length=o.length->DS K B (g.zip o++T) p->l b g->Q b p)->P):P:=by
 obtain⟨B,j,T,l,a,hd,c,k⟩:=h;exact f B j T l a hd c k
abbrev PD (X:Cx) (e:Expr) (g:mE):Prop:=PE X e (dE X.K g)
abbrev tT (X:Cx) (e:Expr) (g:rS):Prop:=PT X e (uX X.K g)
theorem PE.mono {X:Cx}(h:PE X e t) (k:∀ g H Q,j g H Q->t g H Q):PE X e j:=λa s g H Q I q=>h a s g H Q I (k g H Q q)
theorem PT.mono {X:Cx}(h:PT X e t) (k:∀ g H Q,j g H Q->t g H Q):PT X e j:=λa s g H Q I q=>h a s g H Q I (k g H Q q)
def sd:Sl->Ab D
 | .v d=>some d
 | .o d=>some d
 | .n=>none
section
variable {K:lK}{L2:nO}
theorem Ii:gV (g++(Sl.v d,y)::L2)=gV (g++L2):=by rw[pS,qK];rfl
theorem DS.thaw (h:DS K B (g++(r,some v)::L2) H) (e:sd r=some d):DS K B (g++(.v d,some v)::L2) H:=by
 cases r with
 | n=>cases e
 | v c=>cases e;exact h
 | o c=>cases e;exact h.freeze
theorem DS.one (h:DS K B (L++(r,some v)::T) H) (e:sd r=some d):DS K B (L++T) H/\Rep K (Al B (gV (L++T))) H d v:=by
 have a:=h.thaw e;exact⟨a.drop,a.valAt⟩
theorem DS.two (h:DS K B (L++(l,some u)::(r,some v)::T) H) (g:sd r=some d) (j:sd l=some e):DS K B (L++T) H/\Rep K (Al B (gV (L++T))) H d v/\Rep K (Al B (gV (L++T))) H e u:=by
 have m:=h.thaw j;have n:DS K B ((L++[(Sl.v e,some u)])++(r,some v)::T) H:=by simpa using m
 have a:=n.thaw g;have b:DS K B (L++(Sl.v e,some u)::(.v d,some v)::T) H:=by simpa using a
 have c:=b.valAt;have f:=a.valAt;have i:gV (L++(Sl.v d,some v)::T)=gV (L++T):=by rw[pS,qK];rfl
 have k:gV ((L++[(Sl.v e,some u)])++T)=gV (L++T):=by
  rw[bH];show gV (L++(Sl.v e,some u)::T)=_;rw[pS,qK];rfl
 rw[i] at c;rw[k] at f;exact⟨b.drop.drop,f,c⟩
theorem DS.mid (h:DS K B (x::(L++T)) H):DS K B (L++x::T) H:=h.perm gZ.symm
theorem DS.front (h:DS K B (L++x::T) H):DS K B (x::(L++T)) H:=h.perm gZ
theorem DS.pushF (h:DS K B L H) (r:Rep K (Al B (gV L)) H d v):DS K B ((.v d,some v)::L) H:=DS.push (L1:=[]) h r
theorem DS.tupF (h:DS K B L H) (j:H a=none) (r:Reps K (Al B (gV L)) H g l):DS K B ((.v (.t g),some (.ref a))::L) (upd H a (.t l)):=DS.tup (L1:=[]) h j r
theorem DS.lstF (h:DS K B L H) (p:H a=none) (r:Reps K (Al B (gV L)) H j g):DS K B ((.o (.l j),some (.ref a))::L) (upd H a (.l g)) :=
 DS.make (L1:=[]) h p λb k=>⟨g,mM,r.mono k⟩
theorem DS.dKF (h:DS K B L H) (g:H a=none) (e:ds.map (·.1)=kvs.map (·.1)) (r:Reps K (Al B (gV L)) H (ds.map (·.2)) (kvs.map (·.2))):DS K B ((.o (.k ds),some (.ref a))::L) (upd H a (.k kvs)) :=
 DS.make (L1:=[]) h g λb k=>⟨kvs,mM,e,r.mono k⟩
theorem DS.dTF (h:DS K B L H) (g:H a=none) (e:ds.map (·.1)=kvs.map (·.1)) (r:Reps K (Al B (gV L)) H (ds.map (·.2)) (kvs.map (·.2))):DS K B ((.o (.T ds),some (.ref a))::L) (upd H a (.T kvs)) :=
 DS.make (L1:=[]) h g λb k=>⟨kvs,mM,e,r.mono k⟩
end
def mV (K:lK) (A:Ad->Prop) (H:Hp):D->V->Prop
 | .l f,v=>∃ a h,v = .ref a/\H a=some (.l h)/\Reps K A H f h
 | .k f,v=>∃ a d,v = .ref a/\H a=some (.k d)/\f.map (·.1)=d.map (·.1)/\Reps K A H (f.map (·.2)) (d.map (·.2))
 | .T f,v=>∃ a d,v = .ref a/\Rd H a (.T d)/\f.map (·.1)=d.map (·.1)/\Reps K A H (f.map (·.2)) (d.map (·.2))
 | .e,v=>Rep K A H .e v
 | .b b,v=>Rep K A H (.b b) v
 | .int b,v=>Rep K A H (.int b) v
 | .str b,v=>Rep K A H (.str b) v
 | .r b,v=>Rep K A H (.r b) v
 | .t b,v=>Rep K A H (.t b) v
 | .con b,v=>Rep K A H (.con b) v
 | .c b,v=>Rep K A H (.c b) v
section
variable {K:lK}
theorem Rep.peek (h:Rep K A H d v):mV K A H d v:=by
 cases h with
 | l _ h r=>exact⟨_,_,rfl,h,r⟩
 | k _ h e r=>exact⟨_,_,rfl,h,e,r⟩
 | T _ h e r=>exact⟨_,_,rfl,h,e,r⟩
 | e=>exact .e
 | b=>exact .b _
 | int=>exact .int _
 | str=>exact .str _
 | r=>exact .r _
 | t h r=>exact .t h r
 | con h r=>exact .con h r
 | c h r=>exact .c h r
theorem oY.peek:∀ {d:D},oY K A H a d->mV K A H d (.ref a)
 | .l _,⟨b,h,r⟩=>⟨_,b,rfl,h,r⟩
 | .k _,⟨b,h,e,r⟩=>⟨_,b,rfl,h,e,r⟩
 | .T _,⟨b,h,e,r⟩=>⟨_,b,rfl,.inl h,e,r⟩
theorem mV.lst_inv (h:mV K A H (.l j) v):∃ a g,v = .ref a/\H a=some (.l g)/\Reps K A H j g:=h
theorem mV.dK_inv (h:mV K A H (.k j) v):∃ a g,v = .ref a/\H a=some (.k g)/\j.map (·.1)=g.map (·.1)/\Reps K A H (j.map (·.2)) (g.map (·.2)):=h
theorem mV.dT_inv (h:mV K A H (.T j) v):∃ a g,v = .ref a/\Rd H a (.T g)/\j.map (·.1)=g.map (·.1)/\Reps K A H (j.map (·.2)) (g.map (·.2)):=h
theorem mV.tup_inv (h:mV K A H (.t j) v):∃ a g,v = .ref a/\H a=some (.t g)/\Reps K A H j g:=Rep.tup_inv h
theorem mV.con_inv (h:mV K A H (.con j) v):∃ a g,v = .ref a/\A2 K a g/\Reps K A H j g:=Rep.con_inv h
theorem mV.scr_inv (h:mV K A H (.c j) v):∃ a g,v = .ref a/\yQ K H a g/\Reps K A H j g:=Rep.scr_inv h
theorem mV.int_inv (h:mV K A H (.int i) v):v = .int i:=Rep.int_inv h
theorem mV.str_inv (h:mV K A H (.str i) v):v = .str i:=Rep.str_inv h
theorem mV.bl_inv (h:mV K A H (.b i) v):v = .b i:=Rep.bl_inv h
theorem mV.non_inv (h:mV K A H .e v):v = .e:=Rep.non_inv h
theorem mV.raw_inv (h:mV K A H (.r u) v):v=u:=Rep.raw_inv h
def at? (g:Aa Sl) (i:Nat):Ab D:=(g[i]?).bind sd
theorem DS.peek (l:g.length=j.length) (h:DS K B (g.zip j++T) H) (e:at? g i=some d):∃ v,j[i]?=some (some v)/\mV K (Al B (gV (g.zip j++T))) H d v:=by
 unfold at? at e;cases f:g[i]? with
 | none=>rw[f] at e;cases e
 | some s =>
  rw[f] at e;obtain⟨q,y,t,k,_,m,_⟩:=sZ l f;have b:=h;rw[m] at b;have:=b.ok (s,y) (by simp);rw[<- m] at this;cases s with
  | n=>cases e
  | v c=>cases e;obtain⟨v,rfl,r⟩:=this;exact⟨v,k,r.peek⟩
  | o c=>cases e;obtain⟨a,rfl,r⟩:=this;exact⟨_,k,r.peek⟩
end
noncomputable def vd (i:Nat):mE:=λ_ a b=>match a[i]? with
 | some (.v d)=>b (.v d) a
 | some (.o d)=>b (.v d) (a.set i (.v d))
 | _=>False
def cd (d:D):mE:=λ_ b a=>a (.v d) b
section
variable {X:Cx}
theorem dT (i:Nat) (h:PE X (.Name x pos) (pJ i):=by exact pv _):PD X (.Name x pos) (vd i):=h.mono λL H Q z=>z.elim λB D T M w hd c k=>by
 unfold vd at c;cases e:D[i]? with
 | none=>rw[e] at c;exact c.elim
 | some s =>
  rw[e] at c;obtain⟨f,y,m,A,_,G,q⟩:=sZ w e;have b:DS X.K B (f++(s,y)::(m++T)) H:=by rw[G] at hd;simpa using hd
  cases s with
  | n=>exact c.elim
  | v d =>
   obtain⟨v,rfl,_⟩:=b.at;refine⟨v,A,k _ _ v H w ?_ c⟩;refine hd.push ?_;have:=b.valAt;rw[G];have t:gV ((f++(Sl.v d,some v)::m)++T)=gV (f++(m++T)):=by
    rw[bH,cD,Ii]
   rw[t];exact this
  | o d =>
   obtain⟨a,rfl,_⟩:=b.at;have E:=b.freeze;have F:(D.set i (.v d)).zip L=f++(.v d,some (.ref a))::m:=by
    have:=q (.v d) (some (.ref a));rw[yY A] at this;exact this
   have u:DS X.K B ((D.set i (.v d)).zip L++T) H:=by rw[F];simpa using E
   refine⟨.ref a,A,k _ _ _ H (by rw[bL];exact w) ?_ c⟩;refine u.push ?_;have:=E.valAt;rw[F];have t:gV ((f++(Sl.v d,some (V.ref a))::m)++T)=gV (f++(m++T)):=by
    rw[bH,cD,Ii]
   rw[t];exact this
theorem Eg (h:PE X e (tC v)) (r:∀ K A H,Rep K A H d v):PD X e (cd d):=h.mono λm H Q a=>a.elim λB f T i b hd c k=>k _ f v H b (hd.push (r _ _ _)) c
theorem lQ:PD X (.Constant (.int i) j pos) (cd (.int i)):=Eg nH λ_ _ _=>.int i
theorem mB:PD X (.Constant (.str x) j pos) (cd (.str x)):=Eg wC λ_ _ _=>.str x
theorem P0:PD X (.Constant (.bool x) j pos) (cd (.b x)):=Eg U7 λ_ _ _=>.b x
theorem K7:PD X (.Constant .none j pos) (cd .e):=Eg IJ λ_ _ _=>.e
abbrev O2:=D->D->(Sl->Prop)->Prop
def oP (K:lK) (r:R2) (f:O2):Prop:=∀ (B:Bs) (L:nO) (H:Hp) (d e:D) (x y:V) (b:Sl->Prop) (Q:VK),DS K B L H->mV K (Al B (gV L)) H d x->mV K (Al B (gV L)) H e y->f d e b ->
 (∀ s v a,b s->DS K B ((s,some v)::L) a->Q v a)->r x y H Q
def d2 (f:O2) (g j:mE):mE:=λc m k=>g c m λh a=>j c a λi b=>match sd h,sd i with
 | some d,some e=>f d e λr=>k r b
 | _,_=>False
theorem E1 (o:oP X.K r f) (h:dE X.K (d2 f p C) l H Q):dE X.K p l H λx j=>dE X.K C l j λy g=>r x y g Q:=by
 obtain⟨B,N,T,O,w,hd,A,k⟩:=h;refine⟨B,N,T,_,w,hd,A,λq m x j D d1 u=>⟨B,m,(q,some x)::T,_,D,d1,u,λM n y g E d2 a=>?_⟩⟩;cases b:sd q with
 | none=>rw[b] at a;exact a.elim
 | some d =>
  cases c:sd M with
  | none=>rw[b,c] at a;exact a.elim
  | some e =>
   rw[b,c] at a;obtain⟨F,G,L⟩:=d2.two b c;exact o B _ g d e x y _ Q F G.peek L.peek a λs v t z i=>k s n v t E i.mid z
def tR (f:O2) (i:Nat) (g:mE):mE:=λc b k=>(at? b i).isSome=true/\g c b λh a=>match at? a i,sd h with
 | some d,some e=>f d e λr=>k r a
 | _,_=>False
def Kg (f:O2) (g:mE) (i:Nat):mE:=λb k h=>g b k λc a=>match sd c,at? a i with
 | some d,some e=>f d e λr=>h r a
 | _,_=>False
theorem Fx (o:oP X.K r f) (h:dE X.K (tR f i p) j H Q):pJ i j H λx l=>dE X.K p j l λy g=>r x y g Q:=by
 obtain⟨B,O,T,S,t,hd,⟨E,G⟩,k⟩:=h;obtain⟨P,D⟩:=dZ.mp E;obtain⟨x,u,_⟩:=hd.peek t D;refine⟨x,u,B,O,T,_,t,hd,G,λN c y g w d2 a=>?_⟩;cases m:at? c i with
 | none=>rw[m] at a;exact a.elim
 | some d =>
  cases n:sd N with
  | none=>rw[m,n] at a;exact a.elim
  | some e =>
   rw[m,n] at a;obtain⟨z,M⟩:=d2.one n;obtain⟨R,b,L⟩:=z.peek w m;rw[u] at b;cases b;exact o B _ g d e x y _ Q z L M.peek a λs v A F q=>k s c v A w q.mid F
theorem Yh (o:oP X.K r f) (h:dE X.K (Kg f p i) j H Q):dE X.K p j H λx g=>pJ i j g λy l=>r x y l Q:=by
 obtain⟨B,G,T,L,w,hd,A,k⟩:=h;refine⟨B,G,T,_,w,hd,A,λF b x g q d1 a=>?_⟩;cases c:sd F with
 | none=>rw[c] at a;exact a.elim
 | some d =>
  cases m:at? b i with
  | none=>rw[c,m] at a;exact a.elim
  | some e =>
   rw[c,m] at a;obtain⟨t,E⟩:=d1.one c;obtain⟨y,D,py⟩:=t.peek q m;exact⟨y,D,o B _ g d e x y _ Q t E.peek py a λs v u z n=>k s b v u q n.mid z⟩
theorem sL (o:mL X (binaryOp op) r) (l:oP X.K r f) (i:Nat) (j:PD X b p) (g:PE X a (pJ i):=by exact pv _):PD X (.BinOp a op b pos) (tR f i p):=(mU o g j).mono λ_ _ _ h=>Fx l h
theorem Hn (p:mL X (compareOp op) r) (l:oP X.K r f) (g:PE X a (pJ i)) (j:PD X b C) (o:behindInMarks op b=false:=by first | exact vR _ | (with_unfolding_all rfl)):PD X (.Compare a [op] [b] pos) (tR f i C) :=
 (Nm p g j o).mono λ_ _ _ h=>Fx l h
theorem mR (o:mL X (binaryOp op) r) (l:oP X.K r f) (g:PD X a p) (j:PD X b C):PD X (.BinOp a op b pos) (d2 f p C):=(mU o g j).mono λ_ _ _ h=>E1 l h
theorem C8 (p:mL X (compareOp op) r) (l:oP X.K r f) (g:PD X a C) (j:PD X b I) (o:behindInMarks op b=false:=by first | exact vR _ | (with_unfolding_all rfl)):PD X (.Compare a [op] [b] pos) (d2 f C I) :=
 (Nm p g j o).mono λ_ _ _ h=>E1 l h
def zW (t:mE):rS:=λc e d=>t c e λr a=>match r with
 | .v (.b b)=>d b a
 | _=>False
theorem Hk (h:uX X.K (zW t) j H Q):dE X.K t j H λx g=>∃ k,x = .b k/\Q k g:=by
 obtain⟨B,m,T,q,e,hd,f,k⟩:=h;refine⟨B,m,T,_,e,hd,f,λr c v g i d1 a=>?_⟩;cases r with
 | n=>exact a.elim
 | o d=>exact a.elim
 | v d =>
  cases d with
  | b b=>exact⟨b,d1.valAt.bl_inv,k b c g i d1.drop a⟩
  | _=>exact a.elim
theorem vV (p:mL X (compareOp op) r) (l:oP X.K r f) (g:PE X a (pJ i)) (j:PD X b C) (o:behindInMarks op b=false:=by first | exact vR _ | (with_unfolding_all rfl)):tT X (.Compare a [op] [b] pos) (zW (tR f i C)) :=
 (xE p g j o).mono λc H Q h=>Fx l (Hk h)
theorem Ho (p:mL X (compareOp op) r) (l:oP X.K r f) (g:PD X a C) (j:PE X b (pJ i)) (o:behindInMarks op b=false:=by first | exact vR _ | (with_unfolding_all rfl)):tT X (.Compare a [op] [b] pos) (zW (Kg f C i)) :=
 (xE p g j o).mono λc H Q h=>Yh l (Hk h)
theorem Ud (p:mL X (compareOp op) r) (l:oP X.K r f) (g:PD X a C) (j:PD X b I) (o:behindInMarks op b=false:=by first | exact vR _ | (with_unfolding_all rfl)):tT X (.Compare a [op] [b] pos) (zW (d2 f C I)) :=
 (xE p g j o).mono λc H Q h=>by
  have:=Hk h;exact E1 l this
end
section
variable [DecidableEq κ]
noncomputable def mG (g:Aa (κ×D)) (k:κ):Ab D:=(g.find? λa=>decide (a.1=k)).map (·.2)
noncomputable def mP (g:Aa (κ×D)) (k:κ) (d:D):Aa (κ×D):=if g.any (λa=>decide (a.1=k)) then g.map (λa=>if a.1=k then (a.1,d) else a) else g++[(k,d)]
theorem Jr:mG ([]:Aa (κ×D)) k=none:=rfl
theorem uS {k j:κ}{d:D}{r:Aa (κ×D)}:mG ((j,d)::r) k=if j=k then some d else mG r k:=by
 unfold mG;rw[List.find?_cons];by_cases h:j=k<;>simp[h]
theorem Gc (k:κ):∀ g:Aa (κ×D),(g.any λl=>decide (l.1=k))=(mG g k).isSome
 | []=>rfl
 | (j,d)::r=>by
  rw[uS,fO,Gc k r];by_cases h:j=k<;>simp[h]
theorem O4 (g:Aa (κ×D)) (k j:κ) (d:D):mG (mP g k d) j=if k=j then some d else mG g j:=by
 unfold mP;rw[Gc];have a:∀ r:Aa (κ×D),mG (r.map λf=>if f.1=k then (f.1,d) else f) j=if k=j then (mG r j).map (λ_=>d) else mG r j:=by
  intro r;induction r with
  | nil=>simp[Jr]
  | cons p r b =>
   obtain⟨i,e⟩:=p;rw[aM];by_cases h:i=k
   .subst h;simp only[gA,uS,b];by_cases z:i=j<;>simp[z]
   .simp only[h,fX,uS,b];by_cases z:i=j
    .subst z;simp[eJ h]
    .simp[z]
 have c:∀ r:Aa (κ×D),mG r k=none->mG (r++[(k,d)]) j=if k=j then some d else mG r j:=by
  intro r;induction r with
  | nil=>intro _;rw[fF,uS,Jr]
  | cons p r b =>
   obtain⟨i,e⟩:=p;rw[uS];by_cases h:i=k
   .simp[h]
   .rw[aJ h];intro m;rw[cD,uS,b m,uS];by_cases z:i=j
    .subst z;simp[eJ h]
    .simp[z]
 cases e:mG g k with
 | none=>simp only[Option.isSome_none,dU,fX];exact c g e
 | some w =>
  simp only[kL,gA,a];by_cases z:k=j
  .subst z;simp[e]
  .simp[z]
theorem KP (g:Aa (κ×D)) (k:κ) (d:D):(mP g k d).length<=g.length+1:=by
 unfold mP;split<;>simp
end
section
variable [DecidableEq κ] {K:lK}
theorem Ec:∀ {l:Aa (κ×D)}{g:Aa (κ×V)},l.map (·.1)=g.map (·.1)->Reps K A H (l.map (·.2)) (g.map (·.2))->∀ k,(∀ d,mG l k=some d->∃ v,qE g k=some v/\Rep K A H d v)/\(mG l k=none->qE g k=none)
 | [],[],_,_,k=>⟨λd h=>by simp[Jr] at h,λ_=>rfl⟩
 | [],_::_,e,_,_=>by simp at e
 | _::_,[],e,_,_=>by simp at e
 | (i,d)::l,(j,v)::g,e,r,k=>by
  simp only[aM,fU] at e;obtain⟨a,b⟩:=e;subst a;cases r with
  | cons h r =>
   have c:=Ec b r k;rw[uS];by_cases z:i=k
   .rw[aO z,E7 z];exact⟨λf q=>by cases q;exact⟨v,rfl,h⟩,λq=>by cases q⟩
   .rw[aJ z,Eu z];exact c
theorem Cf {o:Aa (κ×D)}{l:Aa (κ×V)}(e:o.map (·.1)=l.map (·.1)) (r:Reps K A H (o.map (·.2)) (l.map (·.2))){k:κ}{d:D}{v:V}(h:Rep K A H d v) :
  (mP o k d).map (·.1)=(mY l k v).map (·.1)/\Reps K A H ((mP o k d).map (·.2)) ((mY l k v).map (·.2)):=by
 have m:∀ (o:Aa (κ×D)) (l:Aa (κ×V)),o.map (·.1)=l.map (·.1)->(o.any λa=>decide (a.1=k))=l.any λa=>decide (a.1=k):=by
  intro o;induction o with
  | nil=>intro l e;cases l with
   | nil=>rfl
   | cons _ _=>simp at e
  | cons p o b=>intro l e;cases l with
   | nil=>simp at e
   | cons q l =>
    simp only[aM,fU] at e;rw[fO,fO,b l e.2,e.1]
 have n:∀ (o:Aa (κ×D)) (l:Aa (κ×V)),o.map (·.1)=l.map (·.1)->Reps K A H (o.map (·.2)) (l.map (·.2)) ->
   (o.map λa=>if a.1=k then (a.1,d) else a).map (·.1)=(l.map λa=>if a.1=k then (a.1,v) else a).map (·.1) /\
   Reps K A H ((o.map λa=>if a.1=k then (a.1,d) else a).map (·.2)) ((l.map λa=>if a.1=k then (a.1,v) else a).map (·.2)):=by
  intro o;induction o with
  | nil=>intro l e r;cases l with
   | nil=>exact⟨rfl,.nil⟩
   | cons _ _=>simp at e
  | cons p o b=>intro l e r;cases l with
   | nil=>simp at e
   | cons q l =>
    simp only[aM,fU] at e;cases r with
    | cons g r =>
     obtain⟨c,f⟩:=b l e.2 r;obtain⟨i,s⟩:=p;obtain⟨j,v0⟩:=q;obtain⟨rfl,t⟩:=e;by_cases z:i=k
     .simp only[aM,z,gA];exact⟨by rw[c],.cons h f⟩
     .simp only[aM,z,fX];exact⟨by rw[c],.cons g f⟩
 unfold mP mY;rw[m o l e];by_cases z:(l.any λa=>decide (a.1=k))=true
 .rw[aO z,aO z];exact n o l e r
 .rw[aJ z,aJ z];simp only[aZ,aM,kI];exact⟨by rw[e],r.append (.cons h .nil)⟩
end
section
variable {X:Cx}{K:lK}
def Mw (K:lK):R2:=λx y H Q=>∃ a b c,x = .ref a/\y = .ref b/\mK K H a []/\mK K H b c/\Q (.ref b) H
theorem JT:mL X (binaryOp .Add) (Mw X.K):=by
 intro w s Y H x y v u Q I N O h;obtain⟨a,b,W,rfl,rfl,B,D,q⟩:=h;cases N;cases O;obtain⟨E,M,G,_⟩:=I.tuple B;obtain⟨t,V,L,_⟩:=I.tuple D;cases M;obtain⟨⟨P,A,S,sl⟩,m,k,n,hd⟩:=id G;obtain⟨⟨R,f,z,i⟩,e,c,F,d⟩:=id L;simp only at k hd c d;subst k hd c d;exact concat_meets ⟨_,m,rfl⟩ ⟨_,e,rfl⟩ noFill_tuple_add seq_tuple_add jM jG (iT _ _)
  (tuple_addW0 a b _ _ n F A f sl i (by simp)) ⟨m,e,⟨.ref b,H,I,rfl,q⟩⟩
def Rn (K:lK):R2:=λx y H Q=>(uE λi j=>.int (i+j)) x y H Q\/(∃ i j,x = .str i/\y = .str j/\i.length+j.length<=sizeLine/\Q (.str (i++j)) H)\/Q8 x y H Q\/Su K x y H Q\/Mw K x y H Q
theorem nD:mL X (binaryOp .Add) (Rn X.K):=vG.or (vB.or (Ay.or (Wt.or JT)))
theorem yD (h:n<=100000):n<=sizeLine:=bP h (by decide)
def zT:O2
 | .int i,.int j,a=>a (.v (.int (i+j)))
 | .str i,.str j,a=>i.length+j.length<=100000/\a (.v (.str (i++j)))
 | .l b,.l c,a=>b.length+c.length<=100000/\a (.o (.l (b++c)))
 | .t b,.t c,a=>b.length+c.length<=100000/\a (.v (.t (b++c)))
 | _,_,_=>False
theorem nC:oP K (Rn K) zT:=by
 intro B L H d e x y A Q hd n s c k;cases d<;>first | exact False.elim c | skip<;>cases e<;>first | exact False.elim c | skip
 .cases n;cases s;exact .inl ⟨_,_,rfl,rfl,k _ _ H c (hd.pushF (.int _))⟩
 .cases n;cases s;exact .inr (.inl ⟨_,_,rfl,rfl,yD c.1,k _ _ H c.2 (hd.pushF (.str _))⟩)
 .obtain⟨a,m,rfl,t,f⟩:=n.tup_inv;obtain⟨b,i,rfl,u,h⟩:=s.tup_inv;have v:m.length+i.length<=100000:=by rw[<- f.length,<- h.length];exact c.1
  by_cases z:m=[]
  .subst z;have:=f.nil_iff.mp rfl;subst this;exact .inr (.inr (.inr (.inr ⟨a,b,i,rfl,rfl,mK.of t,mK.of u,k _ _ H c.2 (hd.pushF s)⟩)))
  .refine .inr (.inr (.inr (.inl ⟨a,b,m,i,rfl,rfl,mK.of t,mK.of u,z,yD v,λq=>?_,λ_ p w=>k _ _ _ c.2 (hd.tupF w (f.append h))⟩)));subst q;have:=h.nil_iff.mp rfl;subst this;exact k _ _ H c.2 (by rw[gL];exact hd.pushF n)
 .obtain⟨a,m,rfl,t,f⟩:=n.lst_inv;obtain⟨b,i,rfl,u,h⟩:=s.lst_inv;have v:m.length+i.length<=100000:=by rw[<- f.length,<- h.length];exact c.1
  exact .inr (.inr (.inl ⟨a,b,m,i,rfl,rfl,t,u,yD v,λp w=>k _ _ _ c.2 (hd.lstF w (f.append h))⟩))
def fI (C:Int->Int->Prop) (g:Int->Int->D):O2
 | .int i,.int j,a=>C i j/\a (.v (g i j))
 | _,_,_=>False
theorem Ir (p:∀ i j,C i j->l i j) (r:∀ A H i j,Rep K A H (g i j) (o i j)):oP K (rI l o) (fI C g):=by
 intro B L H d e x y f Q hd b c a k;cases d<;>first | exact False.elim a | skip<;>cases e<;>first | exact False.elim a | skip
 cases b;cases c;exact⟨_,_,rfl,rfl,p _ _ a.1,k _ _ H a.2 (hd.pushF (r _ _ _ _))⟩
def Ft (g:Int->Int->D):O2
 | .int i,.int j,a=>a (.v (g i j))
 | _,_,_=>False
theorem Kf (o:∀ A H i j,Rep K A H (g i j) (l i j)):oP K (uE l) (Ft g):=by
 intro B L H d e x y f Q hd b c a k;cases d<;>first | exact False.elim a | skip<;>cases e<;>first | exact False.elim a | skip
 cases b;cases c;exact⟨_,_,rfl,rfl,k _ _ H a (hd.pushF (o _ _ _ _))⟩
abbrev T4:O2:=Ft λi j=>.int (i-j)
theorem uF:oP K (uE λi j=>.int (i-j)) T4:=Kf λ_ _ _ _=>.int _
def Pf:R2:=λx y H Q=>(rI Fs λi j=>.int (i*j)) x y H Q\/Oh x y H Q
theorem xZ:mL X (binaryOp .Mult) Pf:=vQ.or DL
def Jh:O2
 | .int i,.int j,a=>((-(2 ^ 64)<i/\i<2 ^ 64)\/(-(2 ^ 64)<j/\j<2 ^ 64))/\a (.v (.int (i*j)))
 | .l b,.int k,a=>0<=k/\k<=1000/\b.length<=100/\a (.o (.l (List.replicate k.toNat b).flatten))
 | _,_,_=>False
theorem Mi (r:Reps K A H g j):∀ k:Nat,Reps K A H (List.replicate k g).flatten (List.replicate k j).flatten
 | 0=>.nil
 | k+1=>by rw[dM,dM,gR,gR];exact r.append (Mi r k)
theorem yA:oP K Pf Jh:=by
 intro B L H d e x y w Q hd h i b k;cases d<;>first | exact False.elim b | skip<;>cases e<;>first | exact False.elim b | skip
 .cases h;cases i;exact .inl ⟨_,_,rfl,rfl,b.1,k _ _ H b.2 (hd.pushF (.int _))⟩
 .cases i
  rename_i n
  obtain⟨a,m,rfl,q,f⟩:=h.lst_inv;obtain⟨u,v,s,b⟩:=b;have c:m.length<=100:=by rw[<- f.length];exact s
  refine .inr ⟨a,n,m,rfl,rfl,q,by omega,by omega,bP (Nat.mul_le_mul c (show n.toNat<=1000 by omega)) (by decide),λp t=>?_⟩;exact k _ _ _ b (hd.lstF t (Mi f _))
theorem DK {j:Int}(g:0<j) (h:j<2 ^ 64):j.natAbs.log2<9000:=by
 have:j.natAbs<2 ^ 64:=by omega
 exact bG ((Nat.log2_lt (by omega)).mpr this) (by decide)
theorem DJ:mL X (binaryOp .FloorDiv) (rI (λ_ j=>0<j/\j<2 ^ 64) λi j=>.int (i/j)):=zH λi j _ _ _ _ _ a q=>by
 refine floordiv_int (by omega) ?_ (.inl (PyProof.noPylong_of_log2 (DK a.1 a.2)));rw[Int.fdiv_eq_ediv_of_nonneg _ (by omega)];exact q
abbrev MD:O2:=fI (λ_ j=>0<j) λi j=>.int (i%j)
theorem W0:oP K (rI (λ_ j=>0<j) λi j=>.int (i%j)) MD:=Ir (λ_ _ h=>h) λ_ _ _ _=>.int _
abbrev Vv:O2:=fI (λi j=>0<=j/\j<=1000000/\i.natAbs<2 ^ 64) λi j=>.int (i*2 ^ j.toNat)
theorem Lm:oP K (rI C6 λi j=>.int (i*2 ^ j.toNat)) Vv:=Ir (λ_ _ h=>h) λ_ _ _ _=>.int _
abbrev FT:O2:=fI (λi j=>0<=j/\j<=1000000/\i.natAbs<2 ^ 64) λi j=>.int (i ^ j.toNat)
theorem Y8:oP K (rI C6 λi j=>.int (i ^ j.toNat)) FT:=Ir (λ_ _ h=>h) λ_ _ _ _=>.int _
abbrev JN:O2:=Ft λi j=>.b (decide (j<i))
theorem DM:oP K (uE λi j=>.b (decide (j<i))) JN:=Kf λ_ _ _ _=>.b _
abbrev IY:O2:=Ft λi j=>.b (decide (j<=i))
theorem MA:oP K (uE λi j=>.b (decide (j<=i))) IY:=Kf λ_ _ _ _=>.b _
def Wc (neg:Bool):O2
 | .e,.e,a=>a (.v (.b (!neg)))
 | .r v,.e,a=>v ≠ .e/\a (.v (.b neg))
 | _,.e,a=>a (.v (.b neg))
 | _,_,_=>False
theorem IS (r:mV K A H d x):(d = .e/\x = .e)\/(∃ v,d = .r v/\x=v)\/(x ≠ .e/\d ≠ .e/\∀ v,d ≠ .r v):=by
 cases d with
 | e=>exact .inl ⟨rfl,r.non_inv⟩
 | r v=>exact .inr (.inl ⟨_,rfl,r.raw_inv⟩)
 | l _=>obtain⟨a,f,rfl,_⟩:=r.lst_inv;exact .inr (.inr ⟨by simp,by simp,by simp⟩)
 | k _=>obtain⟨a,f,rfl,_⟩:=r.dK_inv;exact .inr (.inr ⟨by simp,by simp,by simp⟩)
 | T _=>obtain⟨a,f,rfl,_⟩:=r.dT_inv;exact .inr (.inr ⟨by simp,by simp,by simp⟩)
 | t _=>obtain⟨a,f,rfl,_⟩:=r.tup_inv;exact .inr (.inr ⟨by simp,by simp,by simp⟩)
 | con _=>obtain⟨a,f,rfl,_⟩:=r.con_inv;exact .inr (.inr ⟨by simp,by simp,by simp⟩)
 | c _=>obtain⟨a,f,rfl,_⟩:=r.scr_inv;exact .inr (.inr ⟨by simp,by simp,by simp⟩)
 | b _=>have:=r.bl_inv;subst this;exact .inr (.inr ⟨by simp,by simp,by simp⟩)
 | int _=>have:=r.int_inv;subst this;exact .inr (.inr ⟨by simp,by simp,by simp⟩)
 | str _=>have:=r.str_inv;subst this;exact .inr (.inr ⟨by simp,by simp,by simp⟩)
theorem KZ (neg:Bool):oP K (λx y H Q=>y = .e/\Q (.b (if neg then !decide (x = .e) else decide (x = .e))) H) (Wc neg):=by
 intro B L H d e x y w Q hd t u a k;have n:e = .e:=by
  cases e<;>first | rfl | (exfalso;cases d<;>exact a)
 subst n;have s:=u.non_inv;subst s;refine⟨rfl,?_⟩;rcases IS t with⟨rfl,rfl⟩ | ⟨v,rfl,rfl⟩ | ⟨h,i,m⟩
 .have c:(if neg then !decide ((V.e) = .e) else decide (V.e = .e)) = !neg:=by cases neg<;>rfl
  rw[c];exact k _ _ H a (hd.pushF (.b _))
 .obtain⟨q,a⟩:=a;have c:(if neg then !decide (x=V.e) else decide (x = .e))=neg:=by cases neg<;>simp[q]
  rw[c];exact k _ _ H a (hd.pushF (.b _))
 .have c:(if neg then !decide (x=V.e) else decide (x = .e))=neg:=by cases neg<;>simp[h]
  rw[c];have f:w (.v (.b neg)):=by
   cases d with
   | e=>exact absurd rfl i
   | r v=>exact absurd rfl (m v)
   | _=>exact a
  exact k _ _ H f (hd.pushF (.b _))
theorem Wm:mL X (compareOp .Is) (λx y H Q=>y = .e/\Q (.b (if false then !decide (x = .e) else decide (x = .e))) H):=BF
end
noncomputable def rD:D->Ab eF
 | .int i=>some (.inl i)
 | .str x=>some (.inr x)
 | _=>none
def sF:Aa D->Ab (Aa eF)
 | []=>some []
 | d::a=>match rD d,sF a with
  | some k,some b=>some (k::b)
  | _,_=>none
noncomputable def nb (neg b:Bool):Bool:=if neg then !b else b
section
variable {X:Cx}{K:lK}
theorem zZ (h:rD d=some k) (r:mV K A H d v):v=kV k:=by
 cases d<;>cases h
 .exact r.int_inv
 .exact r.str_inv
theorem Ox (h:sF g=some j) (l:Reps K A H g o):o=j.map kV:=by
 induction g generalizing j o with
 | nil=>cases l;cases h;rfl
 | cons d g c =>
  cases l with
  | cons r l =>
  have h:=(show (match rD d,sF g with | some k,some j=>some (k::j) | _,_=>none)=some j from h);cases a:rD d with
  | none=>rw[a] at h;cases h
  | some k =>
   cases b:sF g with
   | none=>rw[a,b] at h;cases h
   | some e =>
    rw[a,b] at h;cases h;rw[zZ a r.peek,c b l];rfl
def uZ:D->D->Ab (Ab D)
 | .k a,d=>(rD d).map (mG a)
 | .T a,.t b=>(sF b).map (mG a)
 | _,_=>none
theorem Ku (h:uZ d e=some o) (g:mV K A H d x) (j:mV K A H e y):∃ a w,x = .ref a/\rY H a y w/\(∀ c,o=some c->∃ v,w=some v/\Rep K A H c v)/\(o=none->w=none):=by
 cases d with
 | k q =>
  obtain⟨a,D,rfl,i,f,z⟩:=g.dK_inv;obtain⟨k,n,rfl⟩:=cI.mp h;rw[zZ n j];obtain⟨s,u⟩:=Ec f z k;exact⟨a,_,rfl,rY.k i,λc m=>s c m,u⟩
 | T q =>
  obtain⟨a,D,rfl,i,f,z⟩:=g.dT_inv;cases e with
  | t G =>
   obtain⟨b,F,rfl,B,E⟩:=j.tup_inv;obtain⟨k,n,rfl⟩:=cI.mp h;rw[Ox n E] at B;obtain⟨s,u⟩:=Ec f z k;exact⟨a,_,rfl,.inr ⟨D,k,b,i,rfl,B,rfl⟩,λc m=>s c m,u⟩
  | _=>cases h
 | _=>cases h
def My:R2:=λx y H Q=>∃ a v,x = .ref a/\rY H a y (some v)/\Q v H
theorem Z9 (j:X.A.units+1<cLine):uC X My:=by
 intro value slice b s m H x y v u Q I i k h f;obtain⟨a,w,rfl,g,q⟩:=h;cases i;unfold subscriptTail;refine aB ?_;rw[getitemInPython_of_ne (S0 I g).not_modules];refine aB (jZ (S0 I g) PySem.F.slot_dict_getitem.lookup ?_);have fin:wpAny (model X.prog X.w) X.A (subscripted slice false (.ref a) u) (λr c=>wpAny (model X.prog X.w) X.A (letTemporaryGo value (.ref a) r >>= λ_=>pure r) (EP X b m Q) X.xe c) X.xe s:=by
  rw[f];exact wpAny_operating (U9 j I g k λt n e d=>aB (wpAny_letTemporaryGo (aE ⟨w,H,e,d,q⟩)))
 first
  | exact aE (aB fin)
  | exact aB (aE (aB fin))
  | exact aB fin
def G5 (K:lK):R2:=λx y H Q=>Ro K x y H Q\/My x y H Q
theorem Mp (g:X.A.units+1<cLine):uC X (G5 X.K):=IE.or (Z9 g)
def wH:O2:=λd e b=>match d,e with
 | .l a,.int i=>∃ c,nM a i=some c/\b (.v c)
 | .t a,.int i=>∃ c,nM a i=some c/\b (.v c)
 | .con a,.int i=>∃ c,nM a i=some c/\b (.v c)
 | .c a,.int i=>∃ c,nM a i=some c/\b (.v c)
 | .str z,.int i=>z.length<=100000/\∃ c,nM z.cps.toList i=some c/\b (.v (.str ⟨#[c]⟩))
 | d,e=>∃ c,uZ d e=some (some c)/\b (.v c)
theorem Fa (r:Reps K A H g l) (h:nM g i=some c):∃ v,nM l i=some v/\Rep K A H c v:=by
 unfold nM at h |-;rw[<- r.length];cases e:rQ g.length i with
 | none=>rw[e] at h;cases h
 | some j =>
  rw[e] at h;obtain⟨v,a,b⟩:=r.get (i:=j) h;exact⟨v,a,b⟩
theorem N0:oP K (G5 K) wH:=by
 intro B L H d e x y D Q hd t u b k;have f:(∃ c,uZ d e=some (some c)/\D (.v c))->G5 K x y H Q:=λz=>by
  obtain⟨c,h,b⟩:=z;obtain⟨a,w,rfl,g,i,_⟩:=Ku h t u;obtain⟨v,rfl,m⟩:=i c rfl;exact .inr ⟨a,v,rfl,g,k _ _ H b (hd.pushF m)⟩
 cases d<;>first | exact f b | skip
 .cases e<;>first | exact f b | skip
  cases u;cases t;obtain⟨A,c,h,b⟩:=b;exact .inl (.inr (.inr ⟨_,_,c,rfl,rfl,yD A,h,k _ _ H b (hd.pushF (.str _))⟩))
 .obtain⟨a,s,rfl,i,q⟩:=t.tup_inv;cases e<;>first | exact f b | skip
  cases u;obtain⟨c,h,b⟩:=b;obtain⟨v,n,m⟩:=Fa q h;exact .inl (.inr (.inl ⟨a,s,_,v,rfl,rfl,mK.of i,n,k _ _ H b (hd.pushF m)⟩))
 .obtain⟨a,s,rfl,i,q⟩:=t.lst_inv;cases e<;>first | exact f b | skip
  cases u;obtain⟨c,h,b⟩:=b;obtain⟨v,n,m⟩:=Fa q h;exact .inl (.inl ⟨a,s,_,v,rfl,rfl,hI.of i,n,k _ _ H b (hd.pushF m)⟩)
 .obtain⟨a,s,rfl,i,q⟩:=t.scr_inv;cases e<;>first | exact f b | skip
  cases u;obtain⟨c,h,b⟩:=b;obtain⟨v,n,m⟩:=Fa q h;exact .inl (.inl ⟨a,s,_,v,rfl,rfl,i.sqL,n,k _ _ H b (hd.pushF m)⟩)
 .obtain⟨a,s,rfl,i,q⟩:=t.con_inv;cases e<;>first | exact f b | skip
  cases u;obtain⟨c,h,b⟩:=b;obtain⟨v,n,m⟩:=Fa q h;exact .inl (.inr (.inl ⟨a,s,_,v,rfl,rfl,i.sqT,n,k _ _ H b (hd.pushF m)⟩))
theorem oJ (o:X.A.units+1<cLine) (g:PD X a p) (j:PD X b r) (l:Gx b:=by exact λ_ _=>rfl):PD X (.Subscript a b pos) (d2 wH p r) :=
 (rK (Mp o) g j l).mono λ_ _ _ h=>E1 N0 h
def Sa (neg:Bool):R2:=λy x H Q=>∃ a o,x = .ref a/\rY H a y o/\Q (.b (nb neg o.isSome)) H
theorem Wo (j:X.A.units+1<cLine):mL X (compareOp .NotIn) (Sa true):=by
 intro c s k H x y v u Q I e f h;obtain⟨a,o,rfl,g,q⟩:=h;cases f;exact To j I g e λi d=>⟨.b (!o.isSome),H,d,rfl,q⟩
def Qm (neg:Bool):R2:=λx y H Q=>∃ i j,x = .str i/\y = .str j/\Q (.b (nb neg (!(Builtin.Str.occurrences j i 0 j.length 1).isEmpty))) H
def Fc (K:lK) (neg:Bool):R2:=λx y H Q=>Fk K neg x y H Q\/Qm neg x y H Q\/Sa neg x y H Q
theorem Hg (g:X.A.units+1<cLine):mL X (compareOp .NotIn) (Fc X.K true):=Uy.or ((show mL X (compareOp .NotIn) (Qm true) from HB).or (Wo g))
noncomputable def yH:D->Ab V
 | .e=>some .e
 | .b b=>some (.b b)
 | .int i=>some (.int i)
 | .str x=>some (.str x)
 | _=>none
def xK:Aa D->Ab (Aa V)
 | []=>some []
 | d::a=>match yH d,xK a with
  | some v,some b=>some (v::b)
  | _,_=>none
theorem Sn {l:Type}{f:l->D}{g:l->V}(h:∀ x,yH (f x)=some (g x)):∀ j:Aa l,xK (j.map f)=some (j.map g)
 | []=>rfl
 | x::j=>by
  show (match yH (f x),xK (j.map f) with | some v,some a=>some (v::a) | _,_=>none)=_;rw[h x,Sn h j];rfl
theorem N8 (h:yH d=some u) (r:mV K A H d v):v=u/\rV u=true:=by
 cases d<;>cases h<;>cases r<;>exact⟨rfl,rfl⟩
theorem MB (h:xK g=some l) (j:Reps K A H g o):o=l/\l.all rV=true:=by
 induction g generalizing l o with
 | nil=>cases j;cases h;exact⟨rfl,rfl⟩
 | cons d g m =>
  cases j with
  | cons r j =>
  have h:=(show (match yH d,xK g with | some v,some o=>some (v::o) | _,_=>none)=some l from h);cases a:yH d with
  | none=>rw[a] at h;cases h
  | some k =>
   cases b:xK g with
   | none=>rw[a,b] at h;cases h
   | some n =>
    rw[a,b] at h;cases h;obtain⟨c,e⟩:=N8 a r.peek;obtain⟨f,i⟩:=m b j;exact⟨by rw[c,f],by rw[List.all_cons,e,i];rfl⟩
def C9 (neg:Bool) (d:D) (g:Aa D) (j:Sl->Prop):Prop:=∃ v a,yH d=some v/\xK g=some a/\j (.v (.b (nb neg (xD v a))))
def Ml (neg:Bool):O2:=λd e c=>match e with
 | .l a=>C9 neg d a c
 | .t a=>C9 neg d a c
 | .con a=>C9 neg d a c
 | .str j=>∃ i,d = .str i/\c (.v (.b (nb neg (!(Builtin.Str.occurrences j i 0 j.length 1).isEmpty))))
 | e=>∃ o,uZ e d=some o/\c (.v (.b (nb neg o.isSome)))
theorem Iw (neg:Bool):oP K (Fc K neg) (Ml neg):=by
 intro B L H d e x y G Q hd E s h k;have seq:∀ (a:Ad) (F:Aa D) (t:Aa V),C9 neg d F G->y = .ref a->(hI K H a t\/mK K H a t)->Reps K (Al B (gV L)) H F t->Fc K neg x y H Q:=by
  rintro a F t ⟨v,m,f,z,M⟩ rfl O r;obtain⟨P,R⟩:=N8 f E;obtain⟨S,W⟩:=MB z r;subst P S;exact .inl ⟨a,t,rfl,O,R,W,k _ _ H M (hd.pushF (.b _))⟩
 have u:(∃ o,uZ e d=some o/\G (.v (.b (nb neg o.isSome))))->Fc K neg x y H Q:=λA=>by
  obtain⟨o,N,h⟩:=A;obtain⟨a,w,rfl,g,f,z⟩:=Ku N s E;have e:o.isSome=w.isSome:=by
   cases o with
   | none=>rw[z rfl];rfl
   | some c=>obtain⟨v,rfl,_⟩:=f c rfl;rfl
  exact .inr (.inr ⟨a,w,rfl,g,by rw[<- e];exact k _ _ H h (hd.pushF (.b _))⟩)
 cases e<;>first | exact u h | skip
 .obtain⟨i,rfl,h⟩:=h;cases E;cases s;exact .inr (.inl ⟨_,_,rfl,rfl,k _ _ H h (hd.pushF (.b _))⟩)
 .obtain⟨a,m,n,f,q⟩:=s.tup_inv;exact seq a _ m h n (.inr (mK.of f)) q
 .obtain⟨a,m,n,f,q⟩:=s.lst_inv;exact seq a _ m h n (.inl (hI.of f)) q
 .obtain⟨a,m,n,f,q⟩:=s.con_inv;exact seq a _ m h n (.inr f.sqT) q
end
section
variable {X:Cx}{K:lK}
theorem IT {A:Around}{s:Ae}{g:Aa (eF×V)}{o:Aa (eF×Ac)}(C:KV g o) (r:Aa (eF×V)) (j:Aa (eF×Ac)) (h:KV r j)
  (l:∀ p∈r,∃ w,qE g p.1=some w/\rV p.2=true/\rV w=true/\pT p.2 w=true):PySem.W.KeqHits A s o j true:=by
 induction h with
 | nil=>exact .nil
 | @cons a b r j m B q =>
  obtain⟨k,v⟩:=a;obtain⟨t,z⟩:=b;obtain⟨e,u⟩:=m;have e:k=t:=e;subst e;obtain⟨w,hw,f1,f2,i⟩:=l (k,v) aF;have d:=C.val k;rw[hw] at d;obtain⟨y,f,x⟩:=d.some_of;have c:SeqAt.EqAt A s z y (pT v w):=Dh u x f1 f2;rw[i] at c;have:=PySem.W.KeqHits.hit f c (q λp n=>l p (aL _ n));rw[Bool.true_and] at this;exact this
def Gu (neg:Bool):R2:=λx y H Q=>Jj x y=true/\Q (.b (nb neg (decide (x=y)))) H
end
def tE (g:Aa D) (lo j:Ab Int):Aa D:=(g.drop (HT.sIx g.length 0 lo)).take (HT.sIx g.length g.length j-HT.sIx g.length 0 lo)
def pt (o:Ab mE):Aa Ad->Aa Sl->(Ab Int->Aa Sl->Prop)->Prop:=λc b k=>match o with
 | none=>k none b
 | some t=>t c b λr a=>match r with
  | .v (.int i)=>k (some i) a
  | _=>False
def yE (K:lK):Ab mE->TO
 | none=>L0
 | some t=>Ln (dE K t)
abbrev O3:=D->Ab Int->Ab Int->(Sl->Prop)->Prop
def Q7 (f:O3) (j:mE) (lo g:Ab mE):mE:=λa k i=>j a k λh b=>pt lo a b λl c=>pt g a c λu e=>match sd h with
 | some d=>f d l u λr=>i r e
 | none=>False
def GX (f:O3) (i:Nat) (lo g:Ab mE):mE:=λc e h=>(at? e i).isSome=true/\pt lo c e λl b=>pt g c b λu a=>match at? a i with
 | some d=>f d l u λr=>h r a
 | none=>False
abbrev R3:=V->Ab Int->Ab Int->Hp->VK->Prop
def Iu (K:lK) (r:R3) (f:O3):Prop:=∀ (B:Bs) (L:nO) (H:Hp) (d:D) (lo b:Ab Int) (x:V) (c:Sl->Prop) (Q:VK),DS K B L H->mV K (Al B (gV L)) H d x->f d lo b c ->
 (∀ s v a,c s->DS K B ((s,some v)::L) a->Q v a)->r x lo b H Q
section
variable {X:Cx}{K:lK}{lo:Ab Expr}
theorem Fw (I:l.length=p.length) (hd:DS K B (l.zip p++T) H) (h:pt o B.dk l k)
  (C:∀ i g j,g.length=p.length->DS K B (g.zip p++T) j->k i g->Q i j):yE K o p H Q:=by
 cases o with
 | none=>exact C none l H I hd h
 | some t =>
  refine⟨B,l,T,_,I,hd,h,λr g v j b d1 a=>?_⟩;cases r with
  | n=>exact a.elim
  | o d=>exact a.elim
  | v d =>
   cases d with
   | int i=>exact⟨i,d1.valAt.int_inv,C (some i) g j b d1.drop a⟩
   | _=>exact a.elim
theorem yW:PO X none (yE X.K none):=Ch
theorem xQ (h:PD X e t):PO X (some e) (yE X.K (some t)):=B5 h
theorem Ai (I:tK X r) (p:Iu X.K r f) (o:PD X a U) (g:PO X lo (yE X.K ol)) (j:PO X C (yE X.K J)):PD X (.Subscript a (.Slice lo C none p2) pos) (Q7 f U ol J) :=
 (zV I o g j).mono λW H Q h=>h.elim λB N T V t hd y k=>⟨B,N,T,_,t,hd,y,λG O x R z d1 E=>Fw z d1 E λl P S A d2 F=>Fw A d2 F λu i n D q b=>by
  cases c:sd G with
  | none=>rw[c] at b;exact b.elim
  | some d =>
   rw[c] at b;obtain⟨L,M⟩:=q.one c;exact p B _ n d l u x _ Q L M.peek b λs v m w e=>k s i v m D e.mid w⟩
theorem GS (I:tK X r) (p:Iu X.K r f) (o:PE X a (pJ i)) (g:PO X lo (yE X.K ol)) (j:PO X C (yE X.K J)):PD X (.Subscript a (.Slice lo C none U) pos) (GX f i ol J) :=
 (zV I o g j).mono λY H Q q=>q.elim λB W T V w hd ⟨n,G⟩ k=>by
  obtain⟨R,E⟩:=dZ.mp n;obtain⟨x,y,_⟩:=hd.peek w E;refine⟨x,y,Fw w hd G λl O P L d2 N=>Fw L d2 N λu c D z t e=>?_⟩;cases h:at? c i with
  | none=>rw[h] at e;exact e.elim
  | some d =>
   rw[h] at e;obtain⟨S,b,M⟩:=t.peek z h;rw[y] at b;cases b;exact p B _ D d l u x _ Q t M e λs v A F m=>k s c v A z m.mid F
def T8 (K:lK):R3:=λx lo a H Q=>Qh K x lo a H Q\/Pd K x lo a H Q\/Lh x lo a H Q
theorem zB:tK X (T8 X.K):=G9.or (Vk.or J0)
def Lz:O3
 | .l a,lo,b,d=>d (.o (.l (tE a lo b)))
 | .c a,lo,b,d=>d (.o (.l (tE a lo b)))
 | .t a,lo,b,d=>¬ (HT.sIx a.length 0 lo=0/\HT.sIx a.length a.length b=a.length)/\d (.v (.t (tE a lo b)))
 | .str z,lo,b,d=>z.length<=100000/\d (.v (.str (pC z lo b)))
 | _,_,_,_=>False
theorem Jc (r:Reps K A H j l) (lo g:Ab Int):Reps K A H (tE j lo g) (tY l lo g):=by
 unfold tE tY;rw[r.length];exact (r.drop _).take _
theorem xR:Iu K (T8 K) Lz:=by
 intro B L H d lo m x n Q hd i b k;cases d<;>first | exact False.elim b | skip
 .cases i;exact .inr (.inr ⟨_,rfl,yD b.1,k _ _ _ b.2 (hd.pushF (.str _))⟩)
 .obtain⟨a,h,rfl,e,c⟩:=i.tup_inv;exact .inr (.inl ⟨a,h,rfl,mK.of e,by rw[<- c.length];exact b.1,λp f=>k _ _ _ b.2 (hd.tupF f (Jc c lo m))⟩)
 .obtain⟨a,h,rfl,e,c⟩:=i.lst_inv;exact .inl ⟨a,h,rfl,hI.of e,λp f=>k _ _ _ b (hd.lstF f (Jc c lo m))⟩
 .obtain⟨a,h,rfl,e,c⟩:=i.scr_inv;exact .inl ⟨a,h,rfl,e.sqL,λp f=>k _ _ _ b (hd.lstF f (Jc c lo m))⟩
abbrev O1:=D->(Sl->Prop)->Prop
abbrev R1:=V->Hp->VK->Prop
def W5 (K:lK) (r:R1) (f:O1):Prop:=∀ (B:Bs) (L:nO) (H:Hp) (d:D) (x:V) (b:Sl->Prop) (Q:VK),DS K B L H->mV K (Al B (gV L)) H d x->f d b->(∀ s v a,b s->DS K B ((s,some v)::L) a->Q v a)->r x H Q
def d1 (f:O1) (g:mE):mE:=λb h e=>g b h λc a=>match sd c with
 | some d=>f d λr=>e r a
 | none=>False
theorem Yu (j:W5 X.K r f) (h:dE X.K (d1 f l) o H Q):dE X.K l o H λx g=>r x g Q:=by
 obtain⟨B,z,T,A,m,hd,q,k⟩:=h;refine⟨B,z,T,_,m,hd,q,λy e x g t d1 a=>?_⟩;cases b:sd y with
 | none=>rw[b] at a;exact a.elim
 | some d =>
  rw[b] at a;obtain⟨u,w⟩:=d1.one b;exact j B _ g d x _ Q u w.peek a λs v i n c=>k s e v i t c.mid n
def L5:O1
 | .int i,a=>a (.v (.int (-i)))
 | _,_=>False
theorem S3 (g:PD X a j):PD X (.UnaryOp .USub a pos) (d1 L5 j):=(Xv AM g).mono λ_ _ _ h=>Yu (f:=L5) (λB L H d x e Q hd c b k=>by
 cases d<;>first | exact False.elim b | skip
 cases c;exact⟨_,rfl,k _ _ H b (hd.pushF (.int _))⟩) h
noncomputable def Dj:D->Ab Bool
 | .e=>some false
 | .b b=>some b
 | .int i=>some (i != 0)
 | .str x=>some ((x.length:Int) != 0)
 | .l a=>some (!a.isEmpty)
 | .t a=>some (!a.isEmpty)
 | .k a=>some (!a.isEmpty)
 | _=>none
noncomputable def Fy:D->Bool
 | .str x=>decide (x.length<=100000)
 | _=>true
theorem T0 (h:mV K A H d x) (e:Dj d=some k) (g:Fy d=true):Jz K x H k:=by
 cases d<;>simp only[Dj,reduceCtorEq,Option.some.injEq] at e<;>subst e
 .have:=h.non_inv;subst this;rfl
 .have:=h.bl_inv;subst this;rfl
 .have:=h.int_inv;subst this;rfl
 .have:=h.str_inv;subst this;exact⟨yD (cM g),rfl⟩
 .obtain⟨a,b,rfl,h,r⟩:=h.tup_inv;exact .inr (.inl ⟨b,mK.of h,by cases r<;>rfl⟩)
 .obtain⟨a,b,rfl,h,r⟩:=h.lst_inv;exact .inl ⟨b,hI.of h,by cases r<;>rfl⟩
 .rename_i c
  obtain⟨a,b,rfl,h,e,r⟩:=h.dK_inv;refine .inr (.inr ⟨b,h,?_⟩);cases c<;>cases b<;>simp at e |-
def Je (t:mE):rS:=λc f e=>t c f λr a=>match sd r with
 | some d=>Fy d=true/\∃ b,Dj d=some b/\e b a
 | none=>False
def Ia (i:Nat):rS:=λe a c=>match at? a i with
 | some d=>Fy d=true/\∃ b,Dj d=some b/\c b a
 | none=>False
theorem E8 (g:PD X a l) (j:∀ whole,isTrue a X.env whole=(do let v <- whole;standAt a.pos;holding [v] (truthy v)):=by intro _;rfl):tT X a (Je l) :=
 (Og g j).mono λz H Q f=>f.elim λB x T y n hd s k=>⟨B,x,T,_,n,hd,s,λr h v i t d1 c=>by
  cases e:sd r with
  | none=>rw[e] at c;exact c.elim
  | some d =>
   rw[e] at c;obtain⟨q,b,m,c⟩:=c;obtain⟨u,w⟩:=d1.one e;exact⟨b,T0 w.peek m q,k b h i t u c⟩⟩
theorem Hu (g:PE X a (pJ i)) (j:∀ whole,isTrue a X.env whole=(do let v <- whole;standAt a.pos;holding [v] (truthy v)):=by intro _;rfl):tT X a (Ia i) :=
 (Og g j).mono λw H Q f=>f.elim λB m T u h hd c k=>by
  unfold Ia at c;cases e:at? m i with
  | none=>rw[e] at c;exact c.elim
  | some d =>
   rw[e] at c;obtain⟨q,b,n,c⟩:=c;obtain⟨x,s,t⟩:=hd.peek h e;exact⟨x,s,b,T0 t n q,k b m H h hd c⟩
def DD (t:rS):rS:=λb e d=>t b e λc a=>d (!c) a
variable {rest:Aa Expr}
theorem IB (h:tT X a g):tT X (.UnaryOp .Not a pos) (DD g):=(HL h).mono λt H Q b=>b.elim λB q T s i hd m k=>⟨B,q,T,_,i,hd,m,λc d e n d1 f=>k _ d e n d1 f⟩
def Uz (t u:mE):mE:=λc e d=>t c e λr a=>match r with
 | .v (.b true)=>u c a d
 | .v (.b false)=>d (.v (.b false)) a
 | _=>False
def F3 (t u:mE):mE:=λc e d=>t c e λr a=>match r with
 | .v (.b true)=>d (.v (.b true)) a
 | .v (.b false)=>u c a d
 | _=>False
theorem Gz (h:PD X a g):PD X (.BoolOp op [a] pos) g:=Zu h
theorem U5 (g:PD X a l) (j:PD X (.BoolOp .And (b::rest) pos) p):PD X (.BoolOp .And (a::b::rest) pos) (Uz l p) :=
 (CH g j).mono λw H Q h=>h.elim λB u T t q hd s k=>⟨B,u,T,_,q,hd,s,λr f v m i d1 e=>by
  cases r with
  | n=>exact e.elim
  | o d=>exact e.elim
  | v d =>
   cases d with
   | b c =>
    have:=d1.valAt.bl_inv;subst this;refine⟨c,rfl,?_⟩;cases c with
    | true=>exact (aO rfl).mpr ⟨B,f,T,t,i,d1.drop,e,k⟩
    | false=>exact wB (k _ f _ m i (d1.drop.push (.b _)) e)
   | _=>exact e.elim⟩
theorem K8 (g:PD X a l) (j:PD X (.BoolOp .Or (b::rest) pos) p):PD X (.BoolOp .Or (a::b::rest) pos) (F3 l p) :=
 (EX g j).mono λw H Q h=>h.elim λB u T t q hd s k=>⟨B,u,T,_,q,hd,s,λr f v m i d1 e=>by
  cases r with
  | n=>exact e.elim
  | o d=>exact e.elim
  | v d =>
   cases d with
   | b c =>
    have:=d1.valAt.bl_inv;subst this;refine⟨c,rfl,?_⟩;cases c with
    | true=>exact (aO rfl).mpr (k _ f _ m i (d1.drop.push (.b _)) e)
    | false=>exact wB ⟨B,f,T,t,i,d1.drop,e,k⟩
   | _=>exact e.elim⟩
def ED (t:rS) (u w:mE):mE:=λb e d=>t b e λc a=>if c=true then u b a d else w b a d
theorem Lg (l:tT X c o) (g:PD X a p) (j:PD X b r):PD X (.IfExp c a b pos) (ED o p r) :=
 (ET l g j).mono λt H Q e=>e.elim λB q T i m hd n k=>⟨B,q,T,_,m,hd,n,λc d s h d1 f=>by
  cases c with
  | true=>exact (aO rfl).mpr ⟨B,d,T,i,h,d1,(aO rfl).mp f,k⟩
  | false=>exact wB ⟨B,d,T,i,h,d1,(aJ (by decide)).mp f,k⟩⟩
end
inductive Ar where
 | t (d:D) | al (i:Nat)
abbrev rP:=Aa Ad->Aa Sl->(Aa Ar->Aa Sl->Prop)->Prop
def sM:Aa Ar->Aa V->nO
 | .t d::as,v::a=>(.v d,some v)::sM as a
 | .al _::as,_::a=>sM as a
 | _,_=>[]
inductive ArOk (σ:St):List Ar->List V->Prop where
 | nil:ArOk σ [] []
 | t {d:D} {v:V} {as:List Ar} {vs:List V}:ArOk σ as vs->ArOk σ (.t d::as) (v::vs)
 | al {i:Nat} {v:V} {as:List Ar} {vs:List V}:σ[i]?=some (some v)->ArOk σ as vs->ArOk σ (.al i::as) (v::vs)
noncomputable def uA (g:Aa Sl):Aa Ar->Ab (Aa D)
 | []=>some []
 | .t d::as=>(uA g as).map (d::·)
 | .al i::as=>match at? g i,uA g as with
  | some d,some a=>some (d::a)
  | _,_=>none
noncomputable def uU:Aa Ar->Ab (Aa D)
 | []=>some []
 | .t d::as=>(uU as).map (d::·)
 | .al _::_=>none
def Bz:Aa Ar->Bool
 | []=>true
 | .t _::as=>Bz as
 | .al _::_=>false
def dA (K:lK) (g:rP):TA:=λb H Q=>∃ (B:Bs) (d:Aa Sl) (T:nO) (f:Aa Ar->Aa Sl->Prop),d.length=b.length/\DS K B (d.zip b++T) H/\g B.dk d f /\
 ∀ as a c e,a.length=b.length->ArOk b as c->DS K B (a.zip b++(sM as c++T)) e->f as a->Q c e
theorem dA.elim {K:lK}{P:Prop}(h:dA K C l H Q) (f:∀ (B:Bs) (j:Aa Sl) (T:nO) (o:Aa Ar->Aa Sl->Prop),j.length=l.length->DS K B (j.zip l++T) H->C B.dk j o ->(∀ as g p r,g.length=l.length->ArOk l as p->DS K B (g.zip l++(sM as p++T)) r->o as g->Q p r)->P):P:=by
 obtain⟨B,j,T,o,a,hd,b,k⟩:=h;exact f B j T o a hd b k
abbrev rF (X:Cx) (g:Aa Expr) (j:rP):Prop:=PA X g (dA X.K j)
def Bx:rP:=λ_ b a=>a [] b
def aC (g:mE) (j:rP):rP:=λc f e=>g c f λr a=>j c a λas b=>match sd r with
 | some d=>e (.t d::as) b
 | none=>False
def aS (i:Nat) (g:rP):rP:=λc b d=>(at? b i).isSome=true/\g c b λas a=>d (.al i::as) a
theorem PA.mono {X:Cx}(h:PA X j t) (k:∀ g H Q,l g H Q->t g H Q):PA X j l:=λp a s g H Q I q=>h p a s g H Q I (k g H Q q)
def Am (B:Bs) (a:Ad):Prop:=a∉B.dk/\(B.A0 a\/B.H0 a=none)
inductive Peeks (K:lK) (A:Addr->Prop) (H:Hp):List D->List V->Prop where
 | nil:Peeks K A H [] []
 | cons {d:D} {v:V} {ds:List D} {vs:List V}:mV K A H d v->Peeks K A H ds vs->Peeks K A H (d::ds) (v::vs)
section
variable {X:Cx}{K:lK}
theorem gD:rF X [] Bx:=nJ.mono λf H Q a=>a.elim λB d T e b hd c k=>k [] d [] H b .nil hd c
theorem dK (j:PD X e p) (l:rF X g o) (h:vN e=true:=by rfl):rF X (e::g) (aC p o):=(mX j l h).mono λD H Q f=>f.elim λB A T F v hd w k =>
 ⟨B,A,T,_,v,hd,w,λr i x E y d1 u=>⟨B,i,(r,some x)::T,_,y,d1,u,λas a n m z ok d2 b=>by
  cases c:sd r with
  | none=>rw[c] at b;exact b.elim
  | some d =>
   rw[c] at b;refine k (.t d::as) a (x::n) m z (.t ok) ?_ b;have q:DS X.K B ((a.zip D++sM as n)++(r,some x)::T) m:=by simpa using d2
   have s:=(q.thaw c).front;exact DS.mid (by simpa using s)⟩⟩
theorem zY (j:PE X e (pJ i)) (l:rF X g o) (h:vN e=true:=by rfl):rF X (e::g) (aS i o):=(mX j l h).mono λz H Q a=>a.elim λB v T y c hd ⟨q,s⟩ k=>by
 obtain⟨w,m⟩:=dZ.mp q;obtain⟨x,d,_⟩:=hd.peek c m;exact⟨x,d,B,v,T,_,c,hd,s,λas b u f t ok d2 n=>k (.al i::as) b (x::u) f t (.al d ok) d2 n⟩
theorem DS.rmArgs:∀ {as:Aa Ar}{vs:Aa V},DS K B (L++(sM as vs++T)) H->DS K B (L++T) H
 | [],_,h=>h
 | .t d::as,[],h=>h
 | .al _::as,[],h=>h
 | .t d::as,v::vs,h=>DS.rmArgs (as:=as) (vs:=vs) (DS.drop (L1:=L) (L2:=sM as vs++T) h)
 | .al _::as,v::vs,h=>DS.rmArgs (as:=as) (vs:=vs) h
theorem Fi:∀ {as:Aa Ar}{vs:Aa V},gV (L++(sM as vs++T))=gV (L++T)
 | [],_=>rfl
 | .t d::as,[]=>rfl
 | .al _::as,[]=>rfl
 | .t d::as,v::vs=>(show gV (L++(Sl.v d,some v)::(sM as vs++T))=_ from Ii).trans (Fi (as:=as) (vs:=vs))
 | .al _::as,v::vs=>Fi (as:=as) (vs:=vs)
theorem DS.temps (h:DS K B (L++(sM as j++T)) H) (ok:ArOk σ as j):∀ g,uU as=some g->Reps K (Al B (gV (L++T))) H g j:=by
 have key:∀ p∈sM as j,sU K (Al B (gV (L++T))) H p.1 p.2:=λp b=>by
  have:=h.ok p (by simp[b]);rw[Fi] at this;exact this
 clear h;induction ok with
 | nil=>intro g e;cases e;exact .nil
 | @t d v as j ok i =>
  intro g e;obtain⟨a,c,rfl⟩:=cI.mp e;obtain⟨u,f,r⟩:=key (.v d,some v) aF;cases f;exact .cons r (i (λp b=>key p (aL _ b)) a c)
 | al _ _ _=>intro g e;cases e
theorem DS.argsP (I:g.length=C.length) (h:DS K B (g.zip C++(sM as l++T)) H) (ok:ArOk C as l):∀ j,uA g as=some j ->
  Peeks K (Al B (gV (g.zip C++T))) H j l/\Reps K (Am B) H j l/\(Bz as=true->Reps K (Al B (gV (g.zip C++T))) H j l):=by
 have key:∀ p∈sM as l,sU K (Al B (gV (g.zip C++T))) H p.1 p.2:=λp m=>by
  have:=h.ok p (by simp[m]);rw[Fi] at this;exact this
 have A:=h.rmArgs;have am:∀ a,Al B (gV (g.zip C++T)) a->Am B a:=λa z=>⟨z.1,z.2.2⟩
 clear h;induction ok with
 | nil=>intro j e;cases e;exact⟨.nil,.nil,λ_=>.nil⟩
 | @t d v as l ok D =>
  intro j e;obtain⟨f,b,rfl⟩:=cI.mp e;obtain⟨u,k,r⟩:=key (.v d,some v) aF;cases k;obtain⟨E,F,O⟩:=D (λp m=>key p (aL _ m)) f b;exact⟨.cons r.peek E,.cons (r.mono (.all am)) F,λn=>.cons r (O n)⟩
 | @al i v as l G ok D =>
  intro j e;have e:=(show (match at? g i,uA g as with | some d,some j=>some (d::j) | _,_=>none)=some j from e);cases b:at? g i with
  | none=>rw[b] at e;cases e
  | some d =>
   cases k:uA g as with
   | none=>rw[b,k] at e;cases e
   | some f =>
    rw[b,k] at e;cases e;obtain⟨E,F,O⟩:=D (λp m=>key p m) f k;obtain⟨V,q,pv⟩:=A.peek I b;rw[G] at q;cases q;have Q:Rep K (Am B) H d v:=by
     unfold at? at b;cases w:g[i]? with
     | none=>rw[w] at b;cases b
     | some s =>
      rw[w] at b;obtain⟨R,y,S,M,_,P,_⟩:=sZ I w;rw[G] at M;cases M;have L:(s,some v)∈g.zip C++T:=by rw[P];simp
      have:=A.ok _ L;cases s with
      | n=>cases b
      | v c=>cases b;obtain⟨u,x,r⟩:=this;cases x;exact r.mono (.all am)
      | o c =>
       cases b;obtain⟨a,x,r⟩:=this;cases x;have N:=A.new a (uY.mpr ⟨_,L,rfl⟩);exact r.rep am ⟨N.2,.inr N.1⟩
    exact⟨.cons pv E,.cons Q F,λn=>by simp[Bz] at n⟩
def AK (g:rP):mE:=λc e d=>g c e λas a=>match uU as with
 | some b=>b.length<=1000/\d (.v (.t b)) a
 | none=>False
def HF (g:rP):mE:=λc e d=>g c e λas a=>match uU as with
 | some b=>b.length<=1000/\d (.o (.l b)) a
 | none=>False
theorem Mu (h:n<=1000):n<=sizeLine:=bP h (by decide)
theorem qO (h:rF X g j):PD X (.Tuple g l pos) (AK j):=(Xx h).mono λv H Q c=>c.elim λB q T u f hd m k=>⟨B,q,T,_,f,hd,m,λas d t s n ok d1 a=>by
 cases b:uU as with
 | none=>rw[b] at a;exact a.elim
 | some e =>
  rw[b] at a;have r:=d1.temps ok e b;exact⟨Mu (by rw[<- r.length];exact a.1),λp i=>k _ d _ _ n (d1.rmArgs.tup i r) a.2⟩⟩
theorem qF (h:rF X g j):PD X (.List g pos) (HF j):=(sS h).mono λv H Q c=>c.elim λB q T u f hd m k=>⟨B,q,T,_,f,hd,m,λas d t s n ok d1 a=>by
 cases b:uU as with
 | none=>rw[b] at a;exact a.elim
 | some e =>
  rw[b] at a;have r:=d1.temps ok e b;exact⟨Mu (by rw[<- r.length];exact a.1),λp i=>k _ d _ _ n (d1.rmArgs.lstF i r).mid a.2⟩⟩
def W9:mE:=λ_ b a=>a (.o (.k [])) b
def HJ:mE:=λ_ b a=>a (.o (.T [])) b
theorem KH:PD X (.Dict [] [] pos) W9:=JU.mono λh H Q a=>a.elim λB e T f b hd d k p c=>k _ e _ _ b (hd.dKF (ds:=[]) (kvs:=[]) c rfl .nil).mid d
theorem Ex:PD X (.Dict [] [] pos) HJ:=Xc.mono λh H Q a=>a.elim λB e T f b hd d k p c=>k _ e _ _ b (hd.dTF (ds:=[]) (kvs:=[]) c rfl .nil).mid d
abbrev OC:=Aa D->(Sl->Prop)->Prop
def pW (K:lK) (r:Aa V->Hp->VK->Prop) (f:OC):Prop:=∀ (B:Bs) (L:nO) (H:Hp) (b:Aa D) (c:Aa V) (d:Sl->Prop) (Q:VK),DS K B L H->Peeks K (Al B (gV L)) H b c->f b d ->
 (∀ s v a,d s->DS K B ((s,some v)::L) a->Q v a)->r c H Q
def dC (f:OC) (g:rP):mE:=λb e d=>g b e λas a=>match uA a as with
 | some c=>f c λr=>d r a
 | none=>False
theorem Hq (l:pW X.K r f) (h:dE X.K (dC f o) p H Q):dA X.K o p H λj g=>r j g Q:=by
 obtain⟨B,u,T,w,n,hd,t,k⟩:=h;refine⟨B,u,T,_,n,hd,t,λas a j g i ok d1 b=>?_⟩;cases c:uA a as with
 | none=>rw[c] at b;exact b.elim
 | some e =>
  rw[c] at b;exact l B _ g e j _ Q d1.rmArgs (d1.argsP i ok e c).1 b λs v m q d=>k s a v m i d.mid q
variable {id:String}
theorem qA (C:nF X (.builtin id) r) (I:pW X.K r f) (T:X.mg x=none) (hv:bootBuiltins x=some (.builtin id)) (o:rF X (e::l) ta) (J:Gl X x:=by rfl) (U:x ≠ "__name__" := by decide) (g:(x == ("__debug__" : Af))=false:=by decide)
  (j:StB X e l pos:=by exact {}):PD X (.Call (.Name x p) (e::l) [] pos) (dC f ta) :=
 (wG C J T hv o U g j).mono λ_ _ _ h=>Hq I h
theorem pD (C:nF X (.type id) r) (I:pW X.K r f) (T:X.mg x=none) (hv:bootBuiltins x=some (.type id)) (o:rF X (e::l) ta) (J:Gl X x:=by rfl) (U:x ≠ "__name__" := by decide) (g:(x == ("__debug__" : Af))=false:=by decide)
  (j:StB X e l pos:=by exact {}):PD X (.Call (.Name x p) (e::l) [] pos) (dC f ta) :=
 (Sy C J T hv o U g j).mono λ_ _ _ h=>Hq I h
end
def Kj:Sl->Bool
 | .v d=>imm d
 | .o (.l b)=>vF b
 | .o (.k a)=>vF (a.map (·.2))
 | .o (.T a)=>vF (a.map (·.2))
 | _=>false
def RV (K:lK) (g:Aa Ad) (A:Ad->Prop) (H:Hp) (s:Sl) (v:V) (j:Hp):Prop:=match s with
 | .n=>True
 | .v d=>Rep K (λa=>a∉g/\(A a\/H a=none)) j d v
 | .o d=>∃ a,v = .ref a/\H a=none/\a∉g/\oY K (λb=>b∉g/\b≠a/\(A b\/H b=none)) j a d
def zF (j:Aa Ad) (H g:Hp):Prop:=∀ b o,H b=some o->b∉j->g b=some o
abbrev RD:=Aa Ad->Aa D->(Sl->Prop)->Prop
def xF (K:lK) (R:RD):Sp:=λf H Q _=>∃ (b:Aa Ad) (A:Ad->Prop) (d:Aa D) (e:Sl->Prop),Dk b H/\(∀ a,A a->a∉b)/\Reps K A H d f/\R b d e /\
 ∀ s v c,e s->zF b H c->Dk b c->RV K b A H s v c->Q v c
section
variable {K:lK}
theorem oY.immR (h:oY K A H a d) (e:Kj (.o d)=true):oY K g H a d:=by
 cases d with
 | l _=>obtain⟨b,h,r⟩:=h;exact⟨b,h,r.imm e⟩
 | k _=>obtain⟨b,h,k,r⟩:=h;exact⟨b,h,k,r.imm e⟩
 | T _=>obtain⟨b,h,k,r⟩:=h;exact⟨b,h,k,r.imm e⟩
 | _=>exact False.elim h
theorem Kp.frm (f:zF g H l) (p:Dk g H) (h:∀ a,A a->a∉g/\j a):Kp A j H l:=by
 refine⟨λa o b e=>⟨(h a b).2,f a o e (h a b).1⟩,λa o t e=>f a o e λz=>?_⟩;obtain⟨c,q⟩:=p.some z;rw[e] at q;cases q;cases t
theorem DS.call (h:DS K B L H) (f:zF B.dk H g) (j:Dk B.dk g):DS K B L g :=
 ⟨λb o e n=>f b o (h.fr b o e n) n,j,h.nd,h.new,λp c=>(h.ok p c).mono (.frm f h.dk λa z=>⟨z.1,z⟩) λb d o q=>f b o q (h.new b (uY.mpr ⟨p,c,d⟩)).2⟩
theorem DS.adopt (h:DS K B L H) (f:zF B.dk H g) (l:Dk B.dk g) (j:H a=none) (r:oY K (Al B (a::gV L)) g a d):DS K B ((.o d,some (.ref a))::L) g:=by
 obtain⟨f1,f2,k⟩:=h.free j;have s:Kp (Al B (gV L)) (Al B (a::gV L)) H g:=by
  refine⟨λb o c e=>⟨⟨c.1,λz=>?_,c.2.2⟩,f b o e c.1⟩,λb o t e=>f b o e λz=>?_⟩
  .rcases aI.mp z with q | q
   .subst q;rw[j] at e;cases e
   .exact c.2.1 q
  .obtain⟨u,q⟩:=h.dk.some z;rw[e] at q;cases q;cases t
 have i:gV ((Sl.o d,some (V.ref a))::L)=a::gV L:=rfl;refine⟨λb o e n=>f b o (h.fr b o e n) n,l,by rw[i];exact bX.mpr ⟨k,h.nd⟩,λb c=>?_,λp m=>?_⟩
 .rw[i] at c;rcases aI.mp c with q | q
  .subst q;exact⟨f1,f2⟩
  .exact h.new b q
 .rw[i];rcases aI.mp m with q | q
  .subst q;exact⟨a,rfl,r⟩
  .exact (h.ok p q).mono s λb c o w=>f b o w (h.new b (uY.mpr ⟨p,q,c⟩)).2
theorem DS.result (h:DS K B L H) (f:zF B.dk H j) (l:Dk B.dk j) (r:RV K B.dk p H s v j) (g:(∀ a,p a->Al B (gV L) a)\/Kj s=true):DS K B ((s,some v)::L) j:=by
 have fresh:∀ b,b∉B.dk->H b=none->Al B (gV L) b:=λb n e=>⟨n,(h.free e).2.2,.inr (h.free e).1⟩
 cases s with
 | n=>exact (h.call f l).pushN (L1:=[]) _
 | v d =>
  refine (h.call f l).pushF ?_;rcases g with g | g
  .exact (show Rep K _ j d v from r).mono (.all λb z=>z.2.elim (g b) (fresh b z.1))
  .exact (show Rep K _ j d v from r).imm g
 | o d =>
  obtain⟨a,rfl,c,hd,r⟩:=r;refine h.adopt f l c ?_;rcases g with g | g
  .refine r.mono (.all λb z=>?_) λ_ q=>q
   have:=z.2.2.elim (g b) (fresh b z.1);exact⟨this.1,λq=>(aI.mp q).elim z.2.1 this.2.1,this.2.2⟩
  .exact r.immR g
end
def zD (R:RD) (g:rP):mE:=λb e d=>g b e λas a=>match uA a as with
 | some c=>R b c λs=>(Bz as=true\/Kj s=true)/\d s a
 | none=>False
section
variable {X:Cx}{R:RD}
theorem CV (h:dE X.K (zD R l) o H Q):dA X.K l o H λj g=>xF X.K R (j++[]) g Q E0:=by
 obtain⟨B,A,T,D,u,hd,w,k⟩:=h;refine⟨B,A,T,_,u,hd,w,λas b j g q ok d1 c=>?_⟩;cases m:uA b as with
 | none=>rw[m] at c;exact c.elim
 | some i =>
  rw[m] at c;obtain⟨_,x,y⟩:=d1.argsP q ok i m;have d2:=d1.rmArgs;rw[gL];by_cases t:Bz as=true
  .exact⟨B.dk,_,i,_,d2.dk,λa z=>z.1,y t,c,λs v e d f n r=>k s b v e q (d2.result f n r (.inl λa z=>z)).mid d.2⟩
  .exact⟨B.dk,_,i,_,d2.dk,λa z=>z.1,x,c,λs v e d f n r=>k s b v e q (d2.result f n r (.inr (d.1.resolve_left t))).mid d.2⟩
theorem BZ (F:FnOk X.prog X.w X.K X.mg X.base oD k f fd U (xF X.K R)) (T:Room k X.A) (C:Gl X x) (J:X.mg x=some (.ref f)) (I:PySem.W.keepIn X.K (.ref f)=true) (r:wJ X.K fd U [])
  (o:rF X (e::l) ta) (g:(x == ("__debug__" : Af))=false:=by decide) (j:StB X e l pos:=by exact {}) :
  PD X (.Call (.Name x p) (e::l) [] pos) (zD R ta):=(uG F T C J I r .nil tG o g j).mono λ_ _ _ h=>CV h
end
structure DEnds where
 nx:List Sl->Prop
 rt:Sl->Prop
 bk:List Sl->Prop:=λ_=>False
 ct:List Sl->Prop:=λ_=>False
abbrev pQ:=Aa Ad->DEnds->Aa Sl->Prop
def B6 (K:lK) (B:Bs) (T:nO) (n:Nat) (g:DEnds) (j:Ends):Prop :=
 (∀ b a c,b.length=a.length->a.length=n->DS K B (b.zip a++T) c->(g.nx b->j.nx a c)/\(g.bk b->j.bk a c)/\(g.ct b->j.ct a c)) /\
 ∀ (r:Sl) (v:V) (b:Aa Sl) (a:St) (c:Hp),b.length=a.length->DS K B (b.zip a++(r,some v)::T) c->g.rt r->j.rt v c
def dS (K:lK) (g:pQ):TS:=λd b H=>∃ (B:Bs) (a:Aa Sl) (T:nO) (c:DEnds),a.length=b.length/\DS K B (a.zip b++T) H/\g B.dk c a/\B6 K B T b.length c d
theorem dS.elim {K:lK}{P:Prop}(h:dS K p o j H) (f:∀ (B:Bs) (g:Aa Sl) (T:nO) (l:DEnds),g.length=j.length->DS K B (g.zip j++T) H->p B.dk l g->B6 K B T j.length l o->P):P:=by
 obtain⟨B,g,T,c,a,hd,b,k⟩:=h;exact f B g T c a hd b k
abbrev sY (X:Cx) (st:Stmt) (g:pQ):Prop:=PS X st (dS X.K g)
abbrev uI (X:Cx) (st:Aa Stmt) (g:pQ):Prop:=oN X st (dS X.K g)
theorem PS.mono {X:Cx}{st:Stmt}(h:PS X st t) (k:∀ D g H,j D g H->t D g H):PS X st j:=λa s g H D I q=>h a s g H D I (k D g H q)
theorem oN.mono {X:Cx}{st:Aa Stmt}(h:oN X st t) (k:∀ D g H,j D g H->t D g H):oN X st j:=λa s g H D I q=>h a s g H D I (k D g H q)
def Nl:pQ:=λ_ a b=>a.nx b
def Jg (t u:pQ):pQ:=λb a c=>t b { a with nx:=u b a } c
def rA (g:mE):pQ:=λb a c=>g b c λr _=>a.rt r
def K3 (g:mE):pQ:=λc b d=>g c d λ_ a=>b.nx a
def L9 (c:rS) (t u:pQ):pQ:=λd e f=>c d f λb a=>if b=true then t d e a else u d e a
def qU (i:Nat) (g:mE):pQ:=λc b d=>g c d λr a=>b.nx (a.set i r)
section
variable {X:Cx}{K:lK}{st:Stmt}{rest:Aa Stmt}
theorem B6.seq (h:B6 K B T n o p){P:Aa Sl->Prop}(k:∀ j g l,j.length=g.length->g.length=n->DS K B (j.zip g++T) l->P j->N g l):B6 K B T n { o with nx:=P } { p with nx:=N } :=
 ⟨λj g l a b d=>⟨k j g l a b d,(h.1 j g l a b d).2⟩,h.2⟩
theorem wY:uI X [] Nl:=A3.mono λi f H a=>a.elim λB e T h b hd c d=>(d.1 e f H b rfl hd).1 c
theorem hO (g:sY X st t) (j:uI X rest u):uI X (st::rest) (Jg t u):=(pE g j).mono λs w H a=>a.elim λB m T e f hd h c =>
 ⟨B,m,T,_,f,hd,h,c.seq λb n v i k d q=>⟨B,b,T,e,i,d,q,by rw[k];exact c⟩⟩
theorem lZ (h:sY X st t):uI X [st] t:=rZ h
theorem nK (h:PD X e g):sY X (.Return (some e) pos) (rA g):=(yZ h).mono λt q H a=>a.elim λB n T s f hd i m=>⟨B,n,T,_,f,hd,i,λr b v c k d1 d=>m.2 r v b q c k d1 d⟩
theorem tA (h:PD X e j) (g:swapsWith e none pos.line X.env=pure false:=by rfl):sY X (.Expr e pos) (K3 j):=(Ts h g).mono λt q H a=>a.elim λB n T s f hd i m=>⟨B,n,T,_,f,hd,i,λr b v c k d1 d=>(m.1 b q c k rfl d1.drop).1 d⟩
theorem uP (l:tT X c o) (g:uI X a t) (j:uI X b u):sY X (.If c a b pos) (L9 o t u):=(A7 l g j).mono λs w H e=>e.elim λB q T f m hd n k=>⟨B,q,T,_,m,hd,n,λc d v i d1 h=>by
 cases c with
 | true=>exact (aO rfl).mpr ⟨B,d,T,f,i,d1,(aO rfl).mp h,k⟩
 | false=>exact wB ⟨B,d,T,f,i,d1,(aJ (by decide)).mp h,k⟩⟩
theorem DS.assign {g:Aa Sl}{j:St}(l:g.length=j.length) (h:DS K B (g.zip j++(r,some v)::T) H) (i:Nat):DS K B ((g.set i r).zip (j.set i (some v))++T) H:=by
 by_cases m:i<g.length
 .obtain⟨b,y,c,_,_,n,a⟩:=sZ l (aD m);rw[a r (some v)];rw[n] at h;have d:DS K B (b++(c++(r,some v)::T)) H:=DS.drop (L1:=b) (x:=(g[i],y)) (by simpa using h);have e:DS K B ((b++c)++(r,some v)::T) H:=by simpa using d
  have f:=e.front;have k:DS K B ((r,some v)::(b++(c++T))) H:=by simpa using f
  simpa using k.mid
 .rw[gX (by omega),gX (by omega)];exact h.drop
theorem mH (i:Nat) (j:X.N.Nodup) (l:PD X e J) (p:X.N[i]?=some x:=by rfl) (I:uN X.env.scope x:=by first | exact Or.inl rfl | exact Or.inr rfl) (C:swapsWith e (some (.Name x g)) pos.line X.env=pure false:=by rfl)
  (o:X.fn x=true\/X.env.scope.names.lookup x=some .local:=by first | exact .inl rfl | exact .inr rfl | assumption):sY X (.Assign [.Name x g] e pos) (qU i J) :=
 (pR j p I l C o).mono λs t H a=>a.elim λB m T q f hd h k=>⟨B,m,T,_,f,hd,h,λr n v c b d1 d=>(k.1 _ _ c (by rw[bL,bL];exact b) (bL ..) (d1.assign b i)).1 d⟩
end
def zC (N:Aa Af) (g:Aa D):Aa Sl:=g.map .v++List.replicate (N.length-g.length) .n
section
variable {P:Ah}{K:lK}
theorem Oq:∀ {g:Aa D}{j:Aa V}(n:Nat),g.length=j.length->(g.map Sl.v++List.replicate n Sl.n).zip (j.map some++List.replicate n none)=(g.zip j).map (λp=>(Sl.v p.1,some p.2))++List.replicate n (Sl.n,none)
 | [],[],n,_=>by simp
 | [],_::_,_,e=>by simp at e
 | _::_,[],_,e=>by simp at e
 | d::g,v::j,n,e=>by
  simp only[aM,cD,cP,fU,true_and];exact Oq n (by simpa using e)
theorem Zx (l:Reps K A H g j):∀ p∈g.zip j,Rep K A H p.1 p.2:=by
 induction g generalizing j with
 | nil=>intro p a;cases a
 | cons d g b =>
  cases l with
  | cons h r =>
  intro p a;rw[cP] at a;rcases aI.mp a with rfl | q
  .exact h
  .exact b r p q
theorem Fun.okD {st:Stmt}{R:RD}(F:Fun K x J st f fd) (S:FnScope N ps (mA st)) (I:∀ C g T,R C g T->g.length=ps.length) (aa:ps.length<=N.length)
  (U:∀ (l:Ac) (A:Around) (j:Aa Env) (s:Ae) (H:Hp) (E:XK) (C:Aa Ad) (g:Aa D) (T:Sl->Prop),Room k (A.deeper (envOfC J (mA st) s.heap.objs.size f l))->R C g T ->∃ t,uI (xH oD P w K mg base N J (mA st) f l A j s H E).nox (qS st) t/\t C { nx:=λ_=>T (.v .e),rt:=T } (zC N g)):FnOk P w K mg base oD (k+1) f fd ps (xF K R):=by
 refine F.ok S (λm H Q E M=>by obtain⟨C,A,g,T,_,_,r,u,_⟩:=M;rw[<- r.length];exact I _ _ _ u) λl A j s H m Q E hr M=>?_
 obtain⟨C,A1,g,T,L,hA,r,u,X⟩:=M;obtain⟨t,ht,hb⟩:=U l A j s H E C g T hr u;have G:g.length=m.length:=r.length;have dl:g.length=ps.length:=I _ _ _ u;refine⟨_,ht,⟨C,A1,H⟩,zC N g,[],_,?_,?_,hb,?_,?_⟩
 .unfold zC start;rw[List.length_append,List.length_append,List.length_map,List.length_map,List.length_replicate,List.length_replicate,G]
 .have W:(zC N g).zip (start N m)=(g.zip m).map (λp=>(Sl.v p.1,some p.2))++List.replicate (N.length-g.length) (Sl.n,none):=by
   unfold zC start;rw[<- G];exact Oq _ G
  have B:gV ((zC N g).zip (start N m))=[]:=by
   rw[W];refine hU.mpr λa i=>?_
   obtain⟨q,c,e⟩:=uY.mp i;rcases bE.mp c with z | z
   .obtain⟨p,_,rfl⟩:=aH.mp z;cases e
   .rw[(gG.mp z).2] at e;cases e
  rw[gL];refine⟨λb o e _=>e,L,by rw[B];exact fQ,(λa i=>by rw[B] at i;exact absurd i aY),λq c=>?_⟩;rw[B];rw[W] at c;rcases bE.mp c with z | z
  .obtain⟨p,hp,rfl⟩:=aH.mp z;exact⟨p.2,rfl,(Zx r p hp).mono (.all λa i=>⟨hA a i,aY,.inl i⟩)⟩
  .rw[(gG.mp z).2];trivial
 .intro O V y l1 l2 d1;refine⟨λh=>X _ _ y h d1.fr d1.dk .e,λh=>h.elim,λh=>h.elim⟩
 .intro Z v O V y l1 d1 h;refine X Z v y h d1.fr d1.dk ?_;cases Z with
  | n=>trivial
  | v d=>exact d1.valAt.mono (.all λa z=>⟨z.1,z.2.2⟩)
  | o d =>
   obtain⟨a,rfl,r'⟩:=d1.ownAt;have Y:=d1.new a (by rw[pS];exact bA _ aF);exact⟨a,rfl,Y.1,Y.2,r'.mono (.all λb z=>⟨z.1,λq=>z.2.1 (by simp[q]),z.2.2⟩) λ_ q=>q⟩
end
abbrev sK:=D->Aa Sl->(Aa Sl->Prop)->Prop
abbrev xX:=Aa D->Aa Sl->(Aa Sl->Prop)->Prop
noncomputable def oR (g:Aa D) (j:Aa V):nO:=(g.zip j).map λp=>(Sl.v p.1,some p.2)
def dG (K:lK) (n:Nat) (g:sK):TG:=λv c H Q=>∃ (B:Bs) (e:Aa Sl) (T:nO) (d:D) (h:Aa Sl->Prop),e.length=c.length/\DS K B (e.zip c++(.v d,some v)::T) H/\g d e h /\
 ∀ (b:Aa Sl) (a:St) (f:Hp),b.length=a.length->a.length=c.length->(∀ j,n<=j->a[j]?=c[j]?)->DS K B (b.zip a++T) f->h b->Q a f
def G1 (K:lK) (n:Nat) (g:xX):yM:=λh c H Q=>∃ (B:Bs) (e:Aa Sl) (T:nO) (d:Aa D) (i:Aa Sl->Prop),e.length=c.length/\d.length=h.length/\DS K B (e.zip c++(oR d h++T)) H/\g d e i /\
 ∀ (b:Aa Sl) (a:St) (f:Hp),b.length=a.length->a.length=c.length->(∀ j,n<=j->a[j]?=c[j]?)->DS K B (b.zip a++T) f->i b->Q a f
theorem dG.elim {K:lK}{P:Prop}(h:dG K n I v r H Q) (f:∀ (B:Bs) (o:Aa Sl) (T:nO) (d:D) (p:Aa Sl->Prop),o.length=r.length->DS K B (o.zip r++(.v d,some v)::T) H->I d o p ->(∀ (l:Aa Sl) (g:St) (C:Hp),l.length=g.length->g.length=r.length->(∀ j,n<=j->g[j]?=r[j]?)->DS K B (l.zip g++T) C->p l->Q g C)->P):P:=by
 obtain⟨B,o,T,d,p,a,hd,b,k⟩:=h;exact f B o T d p a hd b k
theorem G1.elim {K:lK}{P:Prop}(h:G1 K n U J C H Q) (f:∀ (B:Bs) (p:Aa Sl) (T:nO) (o:Aa D) (r:Aa Sl->Prop),p.length=C.length->o.length=J.length->DS K B (p.zip C++(oR o J++T)) H->U o p r ->(∀ (l:Aa Sl) (g:St) (I:Hp),l.length=g.length->g.length=C.length->(∀ j,n<=j->g[j]?=C[j]?)->DS K B (l.zip g++T) I->r l->Q g I)->P):P:=by
 obtain⟨B,p,T,o,r,a,c,hd,b,k⟩:=h;exact f B p T o r a c hd b k
abbrev wT (X:Cx) (n:Nat) (e:Expr) (g:sK):Prop:=PG X e (dG X.K n g)
abbrev Cq (X:Cx) (n:Nat) (g:Aa Expr) (j:xX):Prop:=vZ X g (G1 X.K n j)
theorem PG.mono {X:Cx}(h:PG X e t) (k:∀ v g H Q,j v g H Q->t v g H Q):PG X e j:=λa s g H v u Q I r q=>h a s g H v u Q I r (k v g H Q q)
theorem vZ.mono {X:Cx}(h:vZ X j t) (k:∀ v g H Q,l v g H Q->t v g H Q):vZ X j l:=λa s g H v u Q I r q=>h a s g H v u Q I r (k v g H Q q)
def gN (i:Nat):sK:=λd b a=>a (b.set i (.v d))
def HV:xX:=λa c b=>a=[]/\b c
def Yb (g:sK) (j:xX):xX:=λa e c=>match a with
 | d::a=>g d e λb=>j a b c
 | []=>False
def Uq (n:Nat) (g:xX):sK:=λd c b=>match d with
 | .t a=>a.length=n/\g a c b
 | _=>False
section
variable {X:Cx}{K:lK}
theorem DS.pushs {A:Ad->Prop}:∀ {ds:Aa D}{vs:Aa V},DS K B (L++T) H->Reps K (Al B (gV (L++T))) H ds vs->DS K B (L++(oR ds vs++T)) H
 | _,_,h,.nil=>h
 | _,_,h,.cons (ds:=ds) (vs:=vs) r i=>by
  have c:=DS.pushs (A:=A) h i;have b:gV (L++(oR ds vs++T))=gV (L++T):=by
   have:∀ (ds:Aa D) (vs:Aa V),gV (oR ds vs)=[]:=λds vs=>by
    refine hU.mpr λa d=>?_
    obtain⟨q,f,e⟩:=uY.mp d;obtain⟨p,_,rfl⟩:=aH.mp f;cases e
   rw[qK,qK,qK,this,fF]
  exact c.push (by rw[b];exact r)
theorem lX (i:Nat) (g:X.N.Nodup) (o:X.N[i]?=some x:=by rfl) (p:uN X.env.scope x:=by first | exact Or.inl rfl | exact Or.inr rfl) (r:i<m:=by decide) (l:X.fn x=true\/X.env.scope.names.lookup x=some .local:=by first | exact .inl rfl | exact .inr rfl | assumption):wT X m (.Name x pos) (gN i) :=
 (xM g o p l).mono λv n H Q a=>a.elim λB h T d f b hd c k=>k _ _ H (by rw[bL,bL];exact b) (bL ..) (λj e=>cQ (by omega)) (hd.assign b i) c
theorem sP:Cq X m [] HV:=DE.mono λf i H Q a=>a.elim λB h T n q c e hd ⟨b,d⟩ k=>by
 subst b;cases f with
 | nil=>exact⟨rfl,k h i H c rfl (λ_ _=>rfl) hd d⟩
 | cons _ _=>simp at e
theorem oA (p:wT X m e g) (r:Cq X m l o) (C:(assignEach (e::l) X.env).map (·.2)=assign e X.env::(assignEach l X.env).map (·.2):=by rfl):Cq X m (e::l) (Yb g o) :=
 (FR p r C).mono λb M H Q c=>c.elim λB F T a E w t hd s k=>by
  cases a with
  | nil=>exact s.elim
  | cons d a =>
   cases b with
   | nil=>simp at t
   | cons v b =>
    refine⟨v,b,rfl,B,F,oR a b++T,d,_,w,hd,s,λf G L x y f1 d1 q=>⟨B,f,T,a,E,x,by simpa using t,d1,q,λh i u z A f2 d2 D=>k h i u z (A.trans y) (λj n=>(f2 j n).trans (f1 j n)) d2 D⟩⟩
theorem vJ (o:X.calm=true) (h:Cq X m g l) (p:(assignEach g X.env).length=n:=by rfl) (j:(assignEach g X.env).findIdx? (·.1)=none:=by rfl):wT X m (.Tuple g k pos) (Uq n l) :=
 (AC o h p j).mono λv x H Q b=>b.elim λB w T d u q hd c k=>by
  cases d with
  | t f =>
   obtain⟨a,s,rfl,i,e⟩:=hd.valAt.tup_inv;exact⟨a,s,rfl,mK.of i,by rw[<- e.length];exact c.1,B,w,T,f,u,q,e.length,hd.drop.pushs (A:=λ_=>True) e,c.2,k⟩
  | _=>exact c.elim
end
def FC (j:mE) (g:sK):pQ:=λc b e=>j c e λr a=>match sd r with
 | some d=>g d a b.nx
 | none=>False
def tV:D->D->D->Ab D
 | .l b,.int i,d=>(rQ b.length i).map λj=>.l (b.set j d)
 | .k a,k,d=>if a.length<100000 then (rD k).map λk=>.k (mP a k d) else none
 | .T a,.t c,d=>if a.length<100000 then (sF c).map λk=>.T (mP a k d) else none
 | _,_,_=>none
def Cd (i:Nat) (g j:mE):pQ:=λf h q=>j f q λn a=>(at? a i).isSome=true/\g f a λm b=>match sd n,sd m,b[i]? with
 | some d,some k,some (.o c)=>∃ e,tV c k d=some e/\h.nx (b.set i (.o e))
 | _,_,_=>False
section
variable {X:Cx}{K:lK}
theorem Db (o:PD X e I) (p:wT X m l g) (C:swapsWithSole [l] e pos.line X.env=pure false:=by rfl) (hw:swappedStores [l] e X.env=pure none:=by rfl)
  (j:(assignEach [l] X.env).map (·.2)=[assign l X.env]:=by rfl):sY X (.Assign [l] e pos) (FC I g):=(Ck o p C hw j).mono λz D H b=>b.elim λB x T y k hd n s=>⟨B,x,T,_,k,hd,n,λr c v A q d1 j=>by
 cases a:sd r with
 | none=>rw[a] at j;exact j.elim
 | some d =>
  rw[a] at j;exact⟨B,c,T,d,_,q,d1.thaw a,j,λf h i t u _ d2 w=>(s.1 f h i t u d2).1 w⟩⟩
def R9:Hh:=λo i v H Q=>Nw o i v H Q\/∃ a b,o = .ref a/\wQ H a i v b/\Q b
theorem BB (j:X.A.units+1<cLine):Iq X R9:=by
 intro b s t H o i v n m u Q I d c e h;rcases h with h | ⟨a,f,rfl,g,q⟩
 .exact F2 b s t H o i v n m u Q I d c e h
 .cases d;exact LY j I g c e λw k=>⟨f,k,q⟩
theorem DS.slotW {g:Aa Sl}{j:St}(C:g.length=j.length) (h:DS K B (g.zip j++T) H){i:Nat}{c:D}(e:g[i]?=some (.o c)):∃ a,j[i]?=some (some (.ref a))/\oY K (Al B (gV (g.zip j++T))) H a c /\
  ∀ (o:HO) (l:D),(∀ p,Kp (Al B (gV (g.zip j++T))) p H (upd H a o)->oY K p (upd H a o) a l)->DS K B ((g.set i (.o l)).zip j++T) (upd H a o):=by
 obtain⟨q,y,s,m,_,n,b⟩:=sZ C e;have d:DS K B (q++(.o c,y)::(s++T)) H:=by rw[n] at h;simpa using h
 obtain⟨a,rfl,_⟩:=d.at;have f:gV (g.zip j++T)=gV q++a::gV (s++T):=by rw[n,bH,cD,pS];rfl
 obtain⟨v,t,r⟩:=d.ownAt;cases t;refine⟨a,m,by rw[f];exact r,λo l k=>?_⟩;rw[f] at k;have u:=d.write (o:=o) (d':=l) k;have:=b (.o l) (some (.ref a));rw[yY m] at this;rw[this]
 simpa using u
theorem GA (h:tV c k d=some p) (r:oY K A H a c) (J:mV K A H k y) (I:Rep K A H d v)
  (C:∀ o,(∀ g,Kp A g H (upd H a o)->oY K g (upd H a o) a p)->Q (upd H a o)):R9 (.ref a) y v H Q:=by
 cases c with
 | l M =>
  cases k with
  | int i =>
   obtain⟨m,s,n⟩:=r;obtain⟨j,u,rfl⟩:=cI.mp h;have:=J.int_inv;subst this;exact .inl ⟨a,m,i,j,rfl,rfl,s,by rw[<- n.length];exact u,C _ λg w=>⟨_,mM,(n.set I j).mono w⟩⟩
  | _=>cases h
 | k e =>
  obtain⟨m,s,q,n⟩:=r;have h:=(show (if e.length<100000 then (rD k).map λj=>D.k (mP e j d) else none)=some p from h);by_cases f:e.length<100000
  .rw[aO f] at h;obtain⟨j,u,rfl⟩:=cI.mp h;rw[zZ u J];obtain⟨z,B⟩:=Cf q n (k:=j) I;have x:m.length<sizeLine:=by
    have:=dD List.length q;simp only[aA] at this;exact bG (show m.length<100000 by omega) (by decide)
   exact .inr ⟨a,_,rfl,wQ.k s x,C _ λg w=>⟨_,mM,z,B.mono w⟩⟩
  .rw[aJ f] at h;cases h
 | T e =>
  cases k with
  | t F =>
   obtain⟨m,s,q,n⟩:=r;have h:=(show (if e.length<100000 then (sF F).map λj=>D.T (mP e j d) else none)=some p from h);by_cases f:e.length<100000
   .rw[aO f] at h;obtain⟨j,u,rfl⟩:=cI.mp h;obtain⟨b,L,rfl,E,G⟩:=J.tup_inv;rw[Ox u G] at E;obtain⟨z,B⟩:=Cf q n (k:=j) I;have x:m.length<sizeLine:=by
     have:=dD List.length q;simp only[aA] at this;exact bG (show m.length<100000 by omega) (by decide)
    exact .inr ⟨a,_,rfl,wQ.t s E x,C _ λg w=>⟨_,mM,z,B.mono w⟩⟩
   .rw[aJ f] at h;cases h
  | _=>cases h
 | _=>cases h
theorem vA (U:X.A.units+1<cLine) (hv:PD X e tv) (I:PE X o (pJ n)) (r:PD X i ti)
  (j:∀ v,assign (.Subscript o i g) X.env v=(do
   let l <- holding [v] (eval o X.env);let C <- holding [v,l] (eval i X.env)
   standAt g
   holding [v,l,C] (setItem l C v)
   release [v,l,C] []):=by intro _;rfl)
  (J:swapsWithSole [.Subscript o i g] e pos.line X.env=pure false:=by rfl) (hw:swappedStores [.Subscript o i g] e X.env=pure none:=by rfl)
  (p:(assignEach [.Subscript o i g] X.env).map (·.2)=[assign (.Subscript o i g) X.env]:=by rfl):sY X (.Assign [.Subscript o i g] e pos) (Cd n ti tv) :=
 (Ck hv (Fv I r (BB U) j) J hw p).mono λDn σ H q=>q.elim λB ρ T De N hd P Q=>⟨B,ρ,T,_,N,hd,P,λF u v H1 D d1 t=>by
  obtain⟨r,p⟩:=t;obtain⟨d0,L⟩:=dZ.mp r;obtain⟨x,z,_⟩:=d1.peek D L;refine⟨x,z,B,u,(F,some v)::T,_,D,d1,p,λY w y H2 E d2 b=>?_⟩;cases f:sd F with
  | none=>rw[f] at b;exact b.elim
  | some d =>
   cases h:sd Y with
   | none=>rw[f,h] at b;exact b.elim
   | some k =>
    cases m:w[n]? with
    | none=>rw[f,h,m] at b;exact b.elim
    | some s =>
     cases s with
     | n=>rw[f,h,m] at b;exact b.elim
     | v c=>rw[f,h,m] at b;exact b.elim
     | o c =>
      rw[f,h,m] at b;obtain⟨G,M,b⟩:=b;obtain⟨R,S,V⟩:=d2.two f h;obtain⟨a,j,W,Z⟩:=R.slotW E m;rw[z] at j;cases j;exact GA M W V.peek S λo O=>(Q.1 _ _ _ (by rw[bL];exact E) rfl (Z o G O)).1 b⟩
def Rr (n:Nat) (f:Int->Int->Int) (g:mE):pQ:=λd c b=>match at? b n with
 | some (.int i)=>g d b λr a=>match r with
  | .v (.int j)=>c.nx (a.set n (.v (.int (f i j))))
  | _=>False
 | _=>False
theorem Il (j:X.N.Nodup) (p:X.N[n]?=some x) (I:uN X.env.scope x) (l:PD X e J) (C:Kb X op (Nq f)) (o:X.fn x=true\/X.env.scope.names.lookup x=some .local:=by first | exact .inl rfl | exact .inr rfl | assumption) :
  sY X (.AugAssign (.Name x g) op e pos) (Rr n f J):=(Ym j p I l C o).mono λz A H h=>h.elim λB m T w i hd a t=>by
 unfold Rr at a;cases b:at? m n with
 | none=>rw[b] at a;exact False.elim a
 | some d =>
 rw[b] at a;cases d<;>first | exact False.elim a | skip
 .obtain⟨v,s,pv⟩:=hd.peek i b;have:=pv.int_inv;subst this;refine⟨_,s,B,m,T,_,i,hd,a,λr u y q k d1 c=>?_⟩;cases r<;>first | exact False.elim c | skip
  rename_i d
  cases d<;>first | exact False.elim c | skip
  have:=d1.valAt.int_inv;subst this;exact⟨_,_,rfl,rfl,(t.1 _ _ q (by rw[bL,bL];exact k) (bL ..) ((d1.drop.push (.int _)).assign k n)).1 c⟩
end
section
variable {X:Cx}
def Y0 (K:lK) (R:It->Hp->Prop) (x:V) (H:Hp):Prop:=(∃ a,x = .ref a/\(∃ b,hI K H a b)/\R (vS K a) H)\/(∃ a,x = .ref a/\(∃ b,mK K H a b)/\R (zJ K a) H)\/∃ z:Af,x = .str z/\z.cps.all (·<128)=true/\R (tO z) H
def CW (K:lK) (g:TE):TI:=λb H R=>g b H λx a=>Y0 K R x a
theorem L8 (g:PE X l j):PI X r l (CW X.K j):=by
 intro d s G H R I h;refine lA (g d s G H _ I h) λv c u=>?_
 obtain⟨x,k,f,w,D⟩:=u;have m:∀ b∈[c.heap.objs.size],sQ X d k b:=λb A=>by
  have e:b=c.heap.objs.size:=by simpa using A
  subst e;exact f.fpOk (aP _) (f.hok.fresh (aP _))
 rcases D with⟨a,rfl,⟨F,n⟩,q⟩ | ⟨a,rfl,⟨F,n⟩,q⟩ | ⟨z,rfl,y,q⟩
 .cases w;obtain⟨i,E,p,B⟩:=f.list n;exact eZ p.isList ⟨c.heap.objs.size,[c.heap.objs.size],_,_,k,rfl,f.kept (t':=c.toks) λb o e=>aG _ e,Mh a _,⟨_,aX _ rfl,rfl,rfl⟩,m,q⟩
 .cases w;obtain⟨i,E,p,B⟩:=f.tuple n;exact wpAny_pyIter_tuple (show c.heap.IsTuple a i.toArray from p) ⟨c.heap.objs.size,[c.heap.objs.size],_,_,k,rfl,f.kept (t':=c.toks) λb o e=>aG _ e,FN a _,⟨_,aX _ rfl,rfl,rfl⟩,m,q⟩
 .obtain⟨t,rfl⟩:=w;exact wpAny_pyIter_ascii y ⟨c.heap.objs.size,[c.heap.objs.size],_,tO z,k,rfl,f.kept (t':=c.toks) λb L q=>aG _ q,Pp z t _,⟨_,aX _ rfl,rfl,rfl⟩,m,q⟩
end
def wP (K:lK) (A:Ad->Prop) (H:Hp) (E:nO):Prop:=∀ p∈E,sU K A H p.1 p.2
structure YD (K:lK) (J:It) (ds:List D) (E:nO):Prop where
 vals:gV E=[]
 go:∀ i H A,i<ds.length->wP K A H E->J.go i H
 yld:∀ i H A x H',i<ds.length->wP K A H E->J.yld i H x H'->∃ d,ds[i]?=some d/\((H'=H/\Rep K A H d x)\/∃ p es vs,H p=none/\x = .ref p/\H'=upd H p (.t vs)/\d = .t es/\Reps K A H es vs)
 stop:∀ i H A,i=ds.length->wP K A H E->J.stop i H
abbrev tQ:=Aa Ad->Aa Sl->(Aa D->Aa Sl->Prop)->Prop
def dI (K:lK) (g:tQ):TI:=λb H R=>∃ (B:Bs) (c:Aa Sl) (T:nO) (f:Aa D->Aa Sl->Prop),c.length=b.length/\DS K B (c.zip b++T) H/\g B.dk c f /\
 ∀ (J:It) (e:Aa D) (a:Aa Sl) (E:nO) (d:Hp),a.length=b.length->DS K B (a.zip b++(E++T)) d->YD K J e E->f e a->R J d
theorem dI.elim {K:lK}{R:It->Hp->Prop}{P:Prop}(h:dI K C o H R) (f:∀ (B:Bs) (j:Aa Sl) (T:nO) (l:Aa D->Aa Sl->Prop),j.length=o.length->DS K B (j.zip o++T) H->C B.dk j l ->(∀ (J:It) (r:Aa D) (g:Aa Sl) (E:nO) (p:Hp),g.length=o.length->DS K B (g.zip o++(E++T)) p->YD K J r E->l r g->R J p)->P):P:=by
 obtain⟨B,j,T,l,a,hd,b,k⟩:=h;exact f B j T l a hd b k
abbrev vL (X:Cx) (g iter:Expr) (j:tQ):Prop:=PI X g iter (dI X.K j)
theorem PI.mono {X:Cx}{iter:Expr}(h:PI X j iter w) (k:∀ g H R,l g H R->w g H R):PI X j iter l:=λa s g H R I q=>h a s g H R I (k g H R q)
noncomputable def tH (z:Af):Aa D:=z.cps.toList.map λc=>D.str ⟨#[c]⟩
def Yv:D->Ab (Aa D)
 | .l a=>some a
 | .t a=>some a
 | .con a=>some a
 | .c a=>some a
 | .str z=>if z.cps.all (·<128) then some (tH z) else none
 | _=>none
def iV (g:mE):tQ:=λb e d=>g b e λr a=>match (sd r).bind Yv with
 | some c=>d c a
 | none=>False
noncomputable def oG (lo:Int) (n:Nat):Aa D:=(List.range n).map λ(i:Nat)=>D.int (lo+i)
def MP (g:mE):tQ:=λb d c=>g b d λr a=>match r with
 | .v (.int j)=>-(2 ^ 62)<=j/\j<2 ^ 62/\c (oG 0 j.toNat) a
 | _=>False
def Yi (g l:mE):tQ:=λc f e=>g c f λr a=>l c a λd b=>match r,d with
 | .v (.int i),.v (.int j)=>(-(2 ^ 62)<=i/\i<2 ^ 62/\-(2 ^ 62)<=j/\j<2 ^ 62)/\e (oG i (j-i).toNat) b
 | _,_=>False
section
variable {X:Cx}{K:lK}
theorem Xe {a:Ad}{g:Aa D}:YD K (vS K a) g [(.v (.l g),some (.ref a))] where
 vals:=rfl
 go:=λi H A h ok=>by
  obtain⟨v,e,r⟩:=ok _ aF;cases e;obtain⟨k,b,e,_,c,f⟩:=r.lst_inv;cases e;exact⟨b,b[i]'(by rw[<- f.length];exact h),hI.of c,aD _⟩
 yld:=λi H A x m h ok y=>by
  obtain⟨v,e,r⟩:=ok _ aF;cases e;obtain⟨k,b,e,_,c,f⟩:=r.lst_inv;cases e;obtain⟨d,hd,rd⟩:=f.getV (y.2 b (hI.of c));exact⟨d,hd,.inl ⟨y.1,rd⟩⟩
 stop:=λi H A h ok=>by
  obtain⟨v,e,r⟩:=ok _ aF;cases e;obtain⟨k,b,e,_,c,f⟩:=r.lst_inv;cases e;exact⟨b,hI.of c,by rw[<- f.length];omega⟩
theorem KA {a:Ad}{g:Aa D}:YD K (vS K a) g [(.v (.c g),some (.ref a))] where
 vals:=rfl
 go:=λi H A k ok=>by
  obtain⟨v,e,r⟩:=ok _ aF;cases e;obtain⟨m,b,e,f,h⟩:=r.scr_inv;cases e;exact⟨b,b[i]'(by rw[<- h.length];exact k),f.sqL,aD _⟩
 yld:=λi H A x n k ok y=>by
  obtain⟨v,e,r⟩:=ok _ aF;cases e;obtain⟨m,b,e,f,h⟩:=r.scr_inv;cases e;obtain⟨d,hd,rd⟩:=h.getV (y.2 b f.sqL);exact⟨d,hd,.inl ⟨y.1,rd⟩⟩
 stop:=λi H A k ok=>by
  obtain⟨v,e,r⟩:=ok _ aF;cases e;obtain⟨m,b,e,f,h⟩:=r.scr_inv;cases e;exact⟨b,f.sqL,by rw[<- h.length];omega⟩
theorem L4 {a:Ad}{d:D}{g:Aa D}(hd:d = .t g\/d = .con g):YD K (zJ K a) g [(.v d,some (.ref a))]:=by
 have key:∀ A H,wP K A H [(.v d,some (.ref a))]->∃ b,mK K H a b/\Reps K A H g b:=λA H ok=>by
  obtain⟨v,e,r⟩:=ok _ aF;cases e;rcases hd with rfl | rfl
  .obtain⟨k,b,e,c,f⟩:=r.tup_inv;cases e;exact⟨b,mK.of c,f⟩
  .obtain⟨k,b,e,c,f⟩:=r.con_inv;cases e;exact⟨b,c.sqT,f⟩
 refine⟨rfl,λi H A h ok=>?_,λi H A x m h ok y=>?_,λi H A h ok=>?_⟩
 .obtain⟨b,c,f⟩:=key A H ok;exact⟨b,b[i]'(by rw[<- f.length];exact h),c,aD _⟩
 .obtain⟨b,c,f⟩:=key A H ok;obtain⟨d,hd,rd⟩:=f.getV (y.2 b c);exact⟨d,hd,.inl ⟨y.1,rd⟩⟩
 .obtain⟨b,c,f⟩:=key A H ok;exact⟨b,c,by rw[<- f.length];omega⟩
theorem MT:YD K (tO z) (tH z) [] where
 vals:=rfl
 go:=λi H A a _=>by simpa [tO,tH,Str.length] using a
 yld:=λi H A x d a _ y=>by
  obtain⟨e,c,b,rfl⟩:=y;refine⟨.str ⟨#[c]⟩,?_,.inl ⟨e,.str _⟩⟩;unfold tH;rw[bD,dF,b];rfl
 stop:=λi H A a _=>by simp[tO,a,tH,Str.length]
theorem P4 {lo:Int}:YD K (sO lo n) (oG lo n) [] where
 vals:=rfl
 go:=λi H A a _=>by simpa [sO,oG] using a
 yld:=λi H A x c a _ y=>by
  have b:i<n:=by simpa [oG] using a
  refine⟨.int (lo+i),by simp[oG,b],.inl ⟨y.1,?_⟩⟩;rw[y.2];exact .int _
 stop:=λi H A a _=>by simp[sO,oG,a]
theorem nL (g:PD X e j):vL X o e (iV j):=(L8 g).mono λM H R w=>w.elim λB L T G E hd F k=>⟨B,L,T,_,E,hd,F,λr f v n q d1 b=>by
 cases u:sd r with
 | none=>rw[u] at b;exact b.elim
 | some d =>
  rw[u] at b;have d2:=d1.thaw u;have s:=d2.valAt;cases d with
  | l m=>obtain⟨a,i,rfl,_,h,y⟩:=s.lst_inv;exact .inl ⟨a,rfl,⟨i,hI.of h⟩,k _ m f [_] n q d2 Xe b⟩
  | c m=>obtain⟨a,i,rfl,h,y⟩:=s.scr_inv;exact .inl ⟨a,rfl,⟨i,h.sqL⟩,k _ m f [_] n q d2 KA b⟩
  | t m=>obtain⟨a,i,rfl,h,y⟩:=s.tup_inv;exact .inr (.inl ⟨a,rfl,⟨i,mK.of h⟩,k _ m f [_] n q d2 (L4 (.inl rfl)) b⟩)
  | con m=>obtain⟨a,i,rfl,h,y⟩:=s.con_inv;exact .inr (.inl ⟨a,rfl,⟨i,h.sqT⟩,k _ m f [_] n q d2 (L4 (.inr rfl)) b⟩)
  | str z =>
   have:=s.str_inv;subst this;have b:=(show (match (if z.cps.all (·<128)=true then some (tH z) else none:Ab (Aa D)) with | some A=>G A f | none=>False) from b);by_cases x:z.cps.all (·<128)=true
   .rw[aO x] at b;exact .inr (.inr ⟨z,rfl,x,k _ _ f [] n q d2.drop MT b⟩)
   .rw[aJ x] at b;exact b.elim
  | _=>exact b.elim⟩
theorem Fl (j:Gl X "range") (l:X.mg "range" = none) (g:PD X a I) (C:starEach [a] X.env=[(false,eval a X.env)]:=by rfl) (o:vN a=true:=by rfl):vL X J (.Call (.Name "range" p) [a] [] pos) (MP I) :=
 (A9 j l (mX g nJ o) C).mono λs H R c=>c.elim λB n T q h hd i k=>⟨B,n,T,_,h,hd,i,λr e v f m d1 b=>by
  cases r<;>first | exact False.elim b | skip
  rename_i d
  cases d<;>first | exact False.elim b | skip
  have:=d1.valAt.int_inv;subst this;exact⟨_,rfl,b.1,b.2.1,k _ _ e [] f m d1.drop P4 b.2.2⟩⟩
theorem P2 (C:Gl X "range") (I:X.mg "range" = none) (l:PD X a ta) (o:PD X b tb) (U:starEach [a,b] X.env=[(false,eval a X.env),(false,eval b X.env)]:=by rfl) (j:starEach [b] X.env=[(false,eval b X.env)]:=by rfl) (J:vN a=true:=by rfl) (g:vN b=true:=by rfl):vL X tg (.Call (.Name "range" p) [a,b] [] pos) (Yi ta tb) :=
 (CF C I (mX l (mX o nJ g) J) U j).mono λG H R d=>d.elim λB A T F q hd s k=>⟨B,A,T,_,q,hd,s,λr e v D t d1 n=>⟨B,e,(r,some v)::T,_,t,d1,n,λE f u h w d2 c=>by
  split at c
  .obtain⟨x,y,z⟩:=d2.two rfl rfl;have i:=y.int_inv;have m:=z.int_inv;subst i m;exact⟨_,_,rfl,c.1,k _ _ f [] h w x P4 c.2⟩
  .exact c.elim⟩⟩
def Sr (l:tQ) (g:sK) (j:pQ):pQ:=λf b k=>l f k λh c=>∃ Pv:Nat->Aa Sl->Prop,Pv 0 c /\
 (∀ i d a,h[i]?=some d->Pv i a->g d a λe=>j f { nx:=Pv (i+1),ct:=Pv (i+1),bk:=b.nx,rt:=b.rt } e)/\∀ a,Pv h.length a->b.nx a
theorem DS.rmE:∀ {E:nO},DS K B (L++(E++T)) H->DS K B (L++T) H
 | [],h=>h
 | x::E,h=>DS.rmE (E:=E) (DS.drop (L1:=L) (x:=x) (by simpa using h))
theorem qW {iter:Expr}{body:Aa Stmt}{o:tQ}{g:sK}{j:pQ}(hi:vL X l iter o) (hg:wT X 99 l g) (I:uI X body j) (hp:PassesOwn (model X.prog X.w) X.A X.env X.xe:=by exact iF) (U:X.calm=true:=by rfl)
  (hs:∀ x,foldedSetIterable iter X.env x=pure x:=by intro _;rfl):sY X (.For l iter body [] pos) (Sr o g j) :=
 (En hp U hi hg I hs).mono λDn W H O=>O.elim λB ρ T De hl hd ht Q=>⟨B,ρ,T,_,hl,hd,ht,λJ F S E H1 l1 d1 Y P=>by
  obtain⟨Pv,p0,step,fin⟩:=P;refine⟨λi m c k=>m=F.length-i/\i<=F.length/\∃ a,a.length=c.length/\c.length=W.length/\DS X.K B (a.zip c++(E++T)) k/\Pv i a,⟨_,rfl,dB _,S,l1,rfl,d1,p0⟩,?_⟩;rintro i m c k ⟨rfl,aa,a,V,m2,L,pv⟩;have n:wP X.K (Al B (gV (a.zip c++(E++T)))) k E:=λq hq=>L.ok q (by simp[hq])
  by_cases s:i<F.length
  .refine .inr ⟨Y.go i k _ s n,λf t=>∃ b,b.length=f.length/\f.length=W.length/\DS X.K B (b.zip f++(E++T)) t/\Pv (i+1) b,λf t ⟨b,q1,q2,R,q4⟩=>⟨_,(by omega:F.length-(i+1)<_),rfl,s,b,q1,q2,R,q4⟩,λx t y=>?_⟩;obtain⟨d,M,alt⟩:=Y.yld i k _ x t s n y;have d2:DS X.K B (a.zip c++(.v d,some x)::(E++T)) t:=by
    rcases alt with⟨rfl,rx⟩ | ⟨p,es,vs,N,rfl,rfl,rfl,rr⟩
    .exact L.push rx
    .exact L.tup N rr
   refine⟨B,a,E++T,d,_,V,d2,step i d a M pv,λb f H3 n1 n2 _ Z R=>⟨B,b,E++T,_,n1,Z,R,?_,?_⟩⟩
   .intro e h G u a2 D;refine⟨λz=>⟨e,u,by omega,D,z⟩,λz=>?_,λz=>⟨e,u,by omega,D,z⟩⟩;exact (Q.1 e h G u (by omega) D.rmE).1 z
   .intro r v e h G u D z;refine Q.2 r v e h G u ?_ z;have:DS X.K B ((e.zip h++[(r,some v)])++(E++T)) G:=by simpa using D
    simpa using this.rmE
  .have C:i=F.length:=by omega
   subst C;exact .inl ⟨Y.stop _ k _ rfl n,(Q.1 a c k V m2 L.rmE).1 (fin a pv)⟩⟩
def JY (c:rS) (g:pQ):pQ:=λi h d=>∃ (Pv:Aa Sl->Prop) (f:Aa Sl->Nat),Pv d/\∀ d,Pv d->c i d λb e =>
 if b=true then g i { nx:=λa=>Pv a/\f a<f d,ct:=λa=>Pv a/\f a<f d,bk:=h.nx,rt:=h.rt } e else h.nx e
theorem Rk {c:Expr}{body:Aa Stmt}{j:rS}{g:pQ}(p:PassesOwn (model X.prog X.w) X.A X.env X.xe) (o:tT X c j) (l:uI X body g):sY X (.While c body [] pos) (JY j g) :=
 (W3 p o l).mono λI G H t=>t.elim λB Z T C N hd ⟨Pv,x,Q,step⟩ u=>by
  refine⟨λm f y=>∃ a,m=x a/\a.length=f.length/\f.length=G.length/\DS X.K B (a.zip f++T) y/\Pv a,⟨_,Z,rfl,N,rfl,hd,Q⟩,?_⟩;rintro m f y ⟨a,rfl,O,P,M,pv⟩;refine⟨B,a,T,_,O,M,step a pv,λb q L F d1 E=>?_⟩;cases b with
  | true =>
   refine (aO rfl).mpr ⟨λh D=>∃ d,d.length=h.length/\h.length=G.length/\DS X.K B (d.zip h++T) D/\Pv d/\x d<x a,λh D ⟨d,R,S,V,W,Y⟩=>⟨_,Y,d,rfl,R,S,V,W⟩,B,q,T,_,F,d1,(aO rfl).mp E,?_,?_⟩
   .intro e i s k J n;exact⟨λz=>⟨e,k,by omega,n,z⟩,λz=>(u.1 e i s k (by omega) n).1 z,λz=>⟨e,k,by omega,n,z⟩⟩
   .exact λr v e i s k n z=>u.2 r v e i s k n z
  | false=>exact wB ((u.1 q f L F P d1).1 ((aJ (by decide)).mp E))
end
def mW (B:Bs) (D:Ad) (g:Aa V):Bs:=⟨B.dk,λa=>(B.A0 a\/B.H0 a=none)/\a≠D,λa=>if a=D then some (.l g) else B.H0 a⟩
section
variable {K:lK}{R:nO}{D:Ad}
theorem B4 {R:Aa Ad}:Al (mW B D g) R a↔Al B R a/\a≠D:=by
 unfold Al mW;constructor
 .rintro ⟨c,d,b | b⟩
  .exact⟨⟨c,d,b.1⟩,b.2⟩
  .dsimp only at b;by_cases z:a=D
   .rw[aO z] at b;cases b
   .rw[aJ z] at b;exact⟨⟨c,d,.inr b⟩,z⟩
 .rintro ⟨⟨c,d,b⟩,e⟩;exact⟨c,d,.inl ⟨b,e⟩⟩
theorem DS.pin (h:DS K B L H) (g:H D=none):DS K (mW B D []) L (upd H D (.l [])):=by
 obtain⟨f1,f2,d⟩:=h.free g;refine⟨λb o e n=>?_,h.dk.upd f2,h.nd,λa c=>?_,λp f=>(h.ok p f).mono (.laid g λa z n=>B4.mpr ⟨z,n⟩) λb i o q=>by rw[lT (mT q g)];exact q⟩
 .by_cases z:b=D
  .subst z;simp only[mW,gA] at e;cases e;exact mM
  .simp only[mW,aJ z] at e;rw[lT z];exact h.fr b o e n
 .have:=h.new a c;have z:a≠D:=λq=>d (q▸c)
  exact⟨by simp only[mW,aJ z];exact this.1,this.2⟩
theorem DS.pinAt (h:DS K (mW B D j) L H) (g:D∉B.dk):H D=some (.l j):=h.fr D _ (by simp[mW]) g
theorem DS.pinW (h:DS K (mW B D j) L H) (g:D∉B.dk):DS K (mW B D ys') L (upd H D (.l ys')):=by
 have d:=h.pinAt g;have k:Kp (Al (mW B D j) (gV L)) (Al (mW B D ys') (gV L)) H (upd H D (.l ys')) :=
  (Kp.write (A:=Al (mW B D j) (gV L)) d rfl λz=>(B4.mp z).2 rfl).trans (.all λa z=>B4.mpr (B4.mp z))
 refine⟨λb o e n=>?_,h.dk.upd g,h.nd,λa f=>?_,λp c=>(h.ok p c).mono k λb i o q=>?_⟩
 .by_cases z:b=D
  .subst z;simp only[mW,gA] at e;cases e;exact mM
  .simp only[mW,aJ z] at e;rw[lT z];exact h.fr b o (by simp only[mW,aJ z];exact e) n
 .have:=h.new a f;have z:a≠D:=λq=>by subst q;simp[mW] at this
  simp only[mW,aJ z] at this |-;exact this
 .have:=(h.new b (uY.mpr ⟨p,c,i⟩)).1;have z:b≠D:=λw=>by subst w;simp[mW] at this
  rw[lT z];exact q
theorem DS.unpin (h:DS K (mW B D g) L H) (r:Reps K (Al (mW B D g) (gV L)) H I g) (j:B.H0 D=none) (C:D∉B.dk):DS K B ((.o (.l I),some (.ref D))::L) H:=by
 have k:=h.pinAt C;have i:D∉gV L:=λz=>by have:=(h.new D z).1;simp[mW] at this
 have c:gV ((Sl.o (.l I),some (V.ref D))::L)=D::gV L:=rfl;have al:∀ a,Al (mW B D g) (gV L) a->Al B (D::gV L) a:=λa z=>by
  obtain⟨d,s⟩:=B4.mp z;exact⟨d.1,λq=>(aI.mp q).elim s d.2.1,d.2.2⟩
 refine⟨λb o e n=>?_,h.dk,by rw[c];exact bX.mpr ⟨i,h.nd⟩,λa f=>?_,λp m=>?_⟩
 .have z:b≠D:=λq=>by subst q;rw[j] at e;cases e
  exact h.fr b o (by simp only[mW,aJ z];exact e) n
 .rw[c] at f;rcases aI.mp f with q | q
  .subst q;exact⟨j,C⟩
  .have:=h.new a q;have z:a≠D:=λw=>i (w▸q)
   simp only[mW,aJ z] at this;exact this
 .rw[c];rcases aI.mp m with q | q
  .subst q;exact⟨D,rfl,g,k,r.mono (.all al)⟩
  .exact (h.ok p q).mono (.all al) λ_ _ _ w=>w
theorem DS.lend1 {g:Aa Sl}{j:St}(l:g.length=j.length) (h:DS K B (g.zip j++R) H) (i:Nat):DS K B ((g.set i .n).zip j++((g[i]?).getD .n,(j[i]?).join)::R) H:=by
 by_cases d:i<g.length
 .obtain⟨b,y,c,f,_,t,a⟩:=sZ l (aD d);rw[t] at h;have k:DS K B (b++(g[i],y)::(c++R)) H:=by simpa using h
  have m:=k.front;have q:DS K B (((g[i],y)::b)++(.n,y)::(c++R)) H:=DS.pushN (L1:=(g[i],y)::b) (by simpa using m) y;have e:=a .n y;rw[yY f] at e;rw[e,aD d,f];have s:DS K B ((g[i],y)::((b++(Sl.n,y)::c)++R)) H:=by simpa using q
  exact s.mid
 .rw[gX (by omega),gI (by omega),gI (by omega)];exact h.pushN _
theorem DS.back1 {g:Aa Sl}{l:St}{s:Sl}{y:Ab V}(o:g.length=l.length) (h:DS K B (g.zip l++(s,y)::R) H){i:Nat}(j:(l[i]?).join=y):DS K B ((g.set i s).zip l++R) H:=by
 by_cases q:i<g.length
 .obtain⟨d,a,f,c,_,t,b⟩:=sZ o (aD q);rw[c] at j;have j:a=y:=j;subst j;have e:=b s a;rw[yY c] at e;rw[e];rw[t] at h;have k:DS K B (d++(f++(s,a)::R)) H:=DS.drop (L1:=d) (x:=(g[i],a)) (by simpa using h);have m:DS K B ((d++f)++(s,a)::R) H:=by simpa using k
  have n:DS K B ((s,a)::(d++(f++R))) H:=by simpa using m.front
  simpa using n.mid
 .rw[gX (by omega)];exact h.drop
def nS (g:Aa Nat) (j:Aa Sl):Aa Sl:=g.map λi=>(j[i]?).getD .n
def qI (g:Aa Nat) (j:St):St:=g.map λi=>(j[i]?).join
def oO (g:Aa Nat) (j:Aa Sl):Aa Sl:=g.foldl (λj i=>j.set i .n) j
def oU:Aa Nat->Aa Sl->Aa Sl->Aa Sl
 | i::a,s::c,b=>oU a c (b.set i s)
 | _,_,b=>b
theorem Jb:∀ (g:Aa Nat) (j:Aa Sl),(oO g j).length=j.length
 | [],_=>rfl
 | i::g,j=>by show (oO g (j.set i .n)).length=_;rw[Jb g,bL]
theorem Li:∀ (g:Aa Nat) (l:Aa Sl) (j:Aa Sl),(oU g l j).length=j.length
 | [],_,_=>rfl
 | _::_,[],_=>rfl
 | i::g,s::l,j=>(Li g l (j.set i s)).trans (bL ..)
theorem DS.lend:∀ {caps:Aa Nat}{g:Aa Sl}{R:nO},caps.Nodup->g.length=l.length->DS K B (g.zip l++R) H->DS K B ((oO caps g).zip l++((nS caps g).zip (qI caps l)++R)) H
 | [],g,R,_,a,h=>h
 | i::caps,g,R,d,a,h=>by
  obtain⟨f,k⟩:=bX.mp d;have b:=DS.lend (caps:=caps) (R:=((g[i]?).getD .n,(l[i]?).join)::R) k (by rw[bL];exact a) (h.lend1 a i);have e:nS caps (g.set i .n)=nS caps g:=bO λj c=>by rw[cQ (λz:i=j=>f (by rw[z];exact c))]
  rw[e] at b;show DS K B ((oO caps (g.set i .n)).zip l++((((g[i]?).getD .n,(l[i]?).join)::(nS caps g).zip (qI caps l))++R)) H;refine b.perm (jS _ ?_);rw[cD];exact gZ
theorem DS.back:∀ {caps:Aa Nat}{cs:Aa Sl}{g:Aa Sl}{R:nO},cs.length=caps.length->g.length=j.length->DS K B (g.zip j++(cs.zip (qI caps j)++R)) H->DS K B ((oU caps cs g).zip j++R) H
 | [],[],g,R,_,a,h=>h
 | [],_::_,_,_,e,_,_=>by simp at e
 | _::_,[],_,_,e,_,_=>by simp at e
 | i::caps,s::cs,g,R,e,a,h=>by
  have b:DS K B (g.zip j++(s,(j[i]?).join)::(cs.zip (qI caps j)++R)) H:=h;exact DS.back (caps:=caps) (cs:=cs) (by simpa using e) (by rw[bL];exact a) (b.back1 a rfl)
theorem LM (g:Aa Nat):∀ (o:Aa Sl) (l:Aa Sl),o.length=g.length->g.Nodup->oU g o (oO g l)=oU g o l:=by
 have ext:∀ (g:Aa Nat) (o:Aa Sl) (l a:Aa Sl),o.length=g.length->l.length=a.length->(∀ j,j∉g->l[j]?=a[j]?)->oU g o l=oU g o a:=by
  intro g;induction g with
  | nil=>intro o l a _ _ h;cases o<;>exact kQ λj=>h j aY
  | cons i g c =>
   intro o l a e d h;cases o with
   | nil=>simp at e
   | cons s o =>
    show oU g o (l.set i s)=oU g o (a.set i s);refine c o _ _ (by simpa using e) (by simp[d]) λj b=>?_
    by_cases z:j=i
    .subst z;rw[List.getElem?_set,List.getElem?_set,d,aO rfl,aO rfl]
    .rw[cQ (eJ z),cQ (eJ z)];exact h j λq=>(aI.mp q).elim z b
 intro o l e _;refine ext g o _ _ e (Jb g l) λj b=>?_
 have:∀ (g:Aa Nat) (l:Aa Sl),j∉g->(oO g l)[j]?=l[j]?:=by
  intro g;induction g with
  | nil=>intro l _;rfl
  | cons i g c =>
   intro l b;show (oO g (l.set i .n))[j]?=_;rw[c _ (λz=>b (aL _ z)),cQ (λz=>b (by simp[z]))]
 exact this g l b
theorem Lj:∀ {g:Aa L2.D}{j:Aa V},g.length=j.length->(∀ p∈oR g j,sU K A H p.1 p.2)->Reps K A H g j
 | [],[],_,_=>.nil
 | [],_::_,e,_=>by simp at e
 | _::_,[],e,_=>by simp at e
 | c::g,y::j,e,key=>by
  obtain⟨u,b,r⟩:=key (.v c,some y) (by simp[oR]);cases b;exact .cons r (Lj (by simpa using e) λp a=>key p (by simp only[oR,cP,aM,aI] at a |-;exact .inr a))
theorem DS.forget {ρ:Aa Sl}(n:Nat) (g:ρ.length=σ.length) (j:n<=ρ.length) (h:DS K B (ρ.zip σ++R) H):DS K B ((List.replicate n Sl.n++ρ.drop n).zip σ++R) H:=by
 induction n generalizing ρ σ R with
 | zero=>simpa using h
 | succ n c =>
  cases ρ with
  | nil=>simp at j
  | cons r ρ =>
   cases σ with
   | nil=>simp at g
   | cons y σ =>
    have a:DS K B (ρ.zip σ++R) H:=DS.drop (L1:=[]) (x:=(r,y)) h;have b:=c (ρ:=ρ) (σ:=σ) (R:=R) (by simpa using g) (by simpa using j) a;rw[dM,cD,List.drop_succ_cons,cP];exact DS.pushN (L1:=[]) b y
end
def Ka:rS:=λ_ b a=>a true b
def wX (n:Nat) (j:Aa Nat) (I:tQ) (g:sK) (C:rS) (p:mE):mE:=λk u t=>I k u λs f=>∃ Pv:Nat->Aa D->Aa Sl->Prop,Pv 0 [] (nS j f) /\
 (∀ i d e a,s[i]?=some d->a.length=j.length->Pv i e a->g d (List.replicate n Sl.n++a) λm=>C k m λb h=>if b=true then p k h λr q=>match sd r with
  | some c=>e.length<100000/\Pv (i+1) (e++[c]) (q.drop n)
  | none=>False
  else Pv (i+1) e (h.drop n)) /\
 ∀ e a,a.length=j.length->Pv s.length e a->t (.o (.l e)) (oU j a f)
section
variable {X:Cx}
theorem R5:wA X [] (uX X.K Ka):=λa s f H Q I b=>b.elim λB e T h c hd d k=>Fd a s f H Q I (k true e H c hd d)
theorem yV (h:tT X c t):wA X [c] (uX X.K t):=Td h
theorem Z5 {T:Aa Af}{C:Aa Nat}{g:sK}{tt:rS}{te:mE}{K:lK}(ac:C.Nodup){σ:St}{H1:Hp}{Q:VK}{B:Bs}{I:Aa Sl}{Tm:nO}{Φ:Sl->Aa Sl->Prop}{J:It}{ds:Aa L2.D}{D:Ad}(l1:I.length=σ.length) (d1:DS K B (I.zip σ++Tm) H1)
  (hJ:∀ i U La M H,(∀ q∈Tm,q∈M)->DS K (mW B D U) (La++M) H->(i<ds.length->J.go i H)/\(i=ds.length->J.stop i H)/\∀ x H2,i<ds.length->J.yld i H x H2->∃ d,ds[i]?=some d/\DS K (mW B D U) (La++(.v d,some x)::M) H2)
  (ag:∃ Pv:Nat->Aa L2.D->Aa Sl->Prop,Pv 0 [] (nS C I) /\ (∀ i d U cs,ds[i]?=some d->cs.length=C.length->Pv i U cs->g d (List.replicate T.length Sl.n++cs) λaf=>tt B.dk af λb ab=>if b=true then te B.dk ab λr aa=>match sd r with
    | some c=>U.length<100000/\Pv (i+1) (U++[c]) (aa.drop T.length)
    | none=>False
    else Pv (i+1) U (ab.drop T.length)) /\
   ∀ U cs,cs.length=C.length->Pv ds.length U cs->Φ (.o (.l U)) (oU C cs I))
  (k:∀ r ae v H',ae.length=σ.length->DS K B (ae.zip σ++(r,some v)::Tm) H'->Φ r ae->Q v H') (hD:H1 D=none):Bc T C J (dG K T.length g) (uX K tt) (dE K te) σ H1 Q D:=by
 obtain⟨Pv,p0,step,fin⟩:=ag;obtain⟨f1,f2,f3⟩:=d1.free hD;refine⟨λi m U s H'=>m=ds.length-i/\i<=ds.length/\s.length=T.length+C.length/\(∀ j,T.length<=j->s[j]?=(qN T C σ)[j]?)/\∃ (h:Aa L2.D) (cs:Aa Sl),cs.length=C.length/\h.length=U.length /\ DS K (mW B D U) ((List.replicate T.length Sl.n++cs).zip s++((oO C I).zip σ++(oR h U++Tm))) H'/\Pv i h cs,?_,?_⟩
 .refine⟨_,rfl,dB _,by simp[qN],λ_ _=>rfl,[],nS C I,by simp[nS],rfl,?_,p0⟩;have h2:=(d1.lend ac l1).pin hD;have e:(List.replicate T.length Sl.n++nS C I).zip (qN T C σ)=List.replicate T.length (Sl.n,none)++(nS C I).zip (qI C σ):=by
   have:∀ n,(List.replicate n Sl.n++nS C I).zip (List.replicate n none++qI C σ)=List.replicate n (Sl.n,none)++(nS C I).zip (qI C σ):=by
    intro n;induction n with
    | zero=>rfl
    | succ n ih=>simp only[dM,cD,cP,ih]
   have W:qN T C σ=List.replicate T.length none++qI C σ:=by unfold qN qI;rw[List.map_const']
   rw[W];exact this _
  rw[e];have h3:DS K (mW B D []) ((nS C I).zip (qI C σ)++((oO C I).zip σ++Tm)) (upd H1 D (.l [])):=h2.perm (by
   rw[<- bH,<- bH (as:=(nS C I).zip (qI C σ))];exact List.perm_append_comm.append_right _)
  have:∀ n,DS K (mW B D []) (List.replicate n (Sl.n,none)++((nS C I).zip (qI C σ)++((oO C I).zip σ++Tm))) (upd H1 D (.l [])):=by
   intro n;induction n with
   | zero=>exact h3
   | succ n ih=>rw[dM];exact DS.pushN (L1:=[]) ih none
  have e3:oR ([]:Aa L2.D) ([]:Aa V)=[]:=rfl;rw[e3]
  simpa using this T.length
 .rintro i m U s H' ⟨rfl,hi,ls,fs,h,cs,G,z,N,pv⟩;obtain⟨j1,j2,j3⟩:=hJ i U _ _ H' (λq hq=>by simp[hq]) N;by_cases w:i<ds.length
  .refine .inr ⟨j1 w,λf v R=>f.length=T.length+C.length/\(∀ j,T.length<=j->f[j]?=(qN T C σ)[j]?)/\U.length<100000/\∃ (c:L2.D) (aa:Aa Sl),aa.length=f.length/\DS K (mW B D U) (aa.zip f++(.v c,some v)::((oO C I).zip σ++(oR h U++Tm))) R/\Pv (i+1) (h++[c]) (aa.drop T.length),λf P=>f.length=T.length+C.length/\(∀ j,T.length<=j->f[j]?=(qN T C σ)[j]?)/\∃ aa:Aa Sl,aa.length=f.length/\DS K (mW B D U) (aa.zip f++((oO C I).zip σ++(oR h U++Tm))) P/\Pv (i+1) h (aa.drop T.length),?_,?_,λx H2 y=>?_⟩
   .rintro f v R ⟨q1,q2,q3,c,aa,A,t,q6⟩;refine⟨t.pinAt f2,bG q3 (by decide),ds.length-(i+1),by omega,rfl,w,q1,q2,h++[c],aa.drop T.length,by rw[eT];omega,by simp[z],?_,q6⟩;have w1:=(t.pinW (ys':=U++[v]) f2).forget T.length A (by omega);refine w1.perm (jS _ ?_);have ev:oR (h++[c]) (U++[v])=oR h U++[(.v c,some v)]:=by unfold oR;rw[List.zip_append z,List.map_append];rfl
    rw[ev];have p1:((Sl.v c,some v)::((oO C I).zip σ++(oR h U++Tm))).Perm ((oO C I).zip σ++(oR h U++((Sl.v c,some v)::Tm))):=by
     rw[<- bH,<- bH (as:=(oO C I).zip σ)];exact gZ.symm
    simpa using p1
   .rintro f P ⟨q1,q2,aa,A,t,q6⟩;exact⟨ds.length-(i+1),by omega,rfl,w,q1,q2,h,aa.drop T.length,by rw[eT];omega,z,t.forget T.length A (by omega),q6⟩
   .obtain⟨d,Z,d2⟩:=j3 x H2 w y;refine⟨mW B D U,_,_,d,_,by simp[G,ls],d2,step i d h cs Z G pv,λaf f H3 n1 n2 fr d3 q3=>⟨mW B D U,af,_,_,n1,d3,q3,λb ab P m1 d4 A=>?_⟩⟩;have F:∀ j,T.length<=j->f[j]?=(qN T C σ)[j]?:=λj O=>(fr j O).trans (fs j O)
    cases b with
    | false=>exact wB ⟨by omega,F,ab,m1,d4,(aJ (by decide)).mp A⟩
    | true =>
     refine (aO rfl).mpr ⟨mW B D U,ab,_,_,m1,d4,(aO rfl).mp A,λr aa v R m4 d5 t=>?_⟩;cases S:sd r with
     | none=>rw[S] at t;exact t.elim
     | some c =>
      rw[S] at t;exact⟨by omega,F,by rw[<- z];exact t.1,c,aa,m4,d5.thaw S,t.2⟩
  .have ei:i=ds.length:=by omega
   subst ei;refine .inl ⟨j2 rfl,?_⟩;have es:s=s.take T.length++qI C σ:=by
    apply kQ;intro j;by_cases O:j<T.length
    .rw[eI (by rw[bN];omega),List.getElem?_take_of_lt O]
    .rw[cS (by rw[bN];omega),bN,fs j (by omega)];have W:qN T C σ=List.replicate T.length none++qI C σ:=by unfold qN qI;rw[List.map_const']
     rw[W,cS (by rw[cO];omega),cO]
     congr 1
     omega
   have ez:(List.replicate T.length Sl.n++cs).zip s=(List.replicate T.length Sl.n).zip (s.take T.length)++cs.zip (qI C σ):=by
    conv=>lhs;rw[es]
    exact lC (by rw[cO,bN];omega)
   have rr:Reps K (Al (mW B D U) (gV ((oU C cs (oO C I)).zip σ++Tm))) H' h U/\DS K (mW B D U) ((oU C cs (oO C I)).zip σ++Tm) H':=by
    have g1:DS K (mW B D U) (cs.zip (qI C σ)++((oO C I).zip σ++(oR h U++Tm))) H':=by
     rw[ez,bH] at N;exact DS.rmE (L:=[]) (E:=(List.replicate T.length Sl.n).zip (s.take T.length)) N
    have g2:DS K (mW B D U) ((oO C I).zip σ++(cs.zip (qI C σ)++(oR h U++Tm))) H':=g1.perm (by
     rw[<- bH,<- bH (as:=(oO C I).zip σ)];exact List.perm_append_comm.append_right _)
    have g3:=g2.back G (by rw[Jb];exact l1);have Y:DS K (mW B D U) ((oU C cs (oO C I)).zip σ++(oR h U++Tm)) H':=g3;refine⟨?_,Y.rmE⟩;have er:gV ((oU C cs (oO C I)).zip σ++(oR h U++Tm))=gV ((oU C cs (oO C I)).zip σ++Tm):=by
     have:gV (oR h U)=[]:=by
      refine hU.mpr λa ha=>?_
      obtain⟨q,hq,e⟩:=uY.mp ha;obtain⟨p,_,rfl⟩:=aH.mp hq;cases e
     rw[qK,qK,qK,this,fF]
    have key:∀ p∈oR h U,sU K (Al (mW B D U) (gV ((oU C cs (oO C I)).zip σ++Tm))) H' p.1 p.2:=λp hp=>by
     have:=Y.ok p (by simp[hp]);rw[er] at this;exact this
    clear g1 g2 g3 Y er N ez es;revert key z;generalize Al (mW B D U) (gV ((oU C cs (oO C I)).zip σ++Tm))=AA;intro z key;exact Lj z key
   have u:=DS.unpin rr.2 rr.1 f1 f2;rw[LM C cs I G ac] at u;exact k _ _ _ H' (by rw[Li];exact l1) u.mid (fin h cs G pv)
theorem T5 {K:lK}(o:j.Nodup) (h:dE K (wX T.length j ι g U I) C H Q) :
  Ep T j (dI K ι) (dG K T.length g) (uX K U) (dE K I) C H Q:=by
 obtain⟨B,R,Tm,Φ,A,hd,G,k⟩:=h;refine⟨B,R,Tm,_,A,hd,G,λJ W S E V L d1 Y z D u=>Z5 o (Tm:=E++Tm) L d1 (λi P s M H w d=>?_) z (λr c v m l d h=>k r c v m l (by
  have:DS K B ((c.zip C++[(r,some v)])++(E++Tm)) m:=by simpa using d
  simpa using this.rmE) h) u⟩
 have a:wP K (Al (mW B D P) (gV (s++M))) H E:=λq F=>d.ok q (by simp[w q (by simp[F])])
 refine⟨λb=>Y.go i H _ b a,λb=>Y.stop i H _ b a,λx n b y=>?_⟩;obtain⟨t,e,alt⟩:=Y.yld i H _ x n b a y;refine⟨t,e,?_⟩;rcases alt with⟨rfl,O⟩ | ⟨p,Z,vs,f,rfl,rfl,rfl,N⟩
 .exact d.push O
 .exact d.tup f N
theorem oK {iter:Expr}(T o:Aa Af) (r:Aa Nat) (hi:vL X tg iter ι)
  (hg:∀ p l C I J,wT (sR X (T++o) j I C p l J) T.length tg g)
  (he:∀ p l C I J,PD (sR X (T++o) j I C p l J) aa te)
  (ht:∀ p l C I J,wA (sR X (T++o) j I C p l J) ab (uX X.K tt):=by exact λ_ _ _ _ _=>R5) (hc:X.calm=true:=by rfl) (hk:j.kind = .function:=by rfl) (ho:Eo X.N X.env.kindOf j T o r=true:=by rfl) (U:r.Nodup:=by decide) (hs:∀ x,foldedSetIterable iter X.env x=pure x:=by intro _;rfl):PD X (.ListComp aa [⟨tg,iter,ab,0⟩] j pos) (wX T.length r ι g tt te) :=
 (Bm T o r hc hi hk ho hg ht he hs).mono λ_ _ _ h=>T5 U h
theorem Kd (i:Nat){iter:Expr}(T o:Aa Af) (I:Aa Nat) (hN:X.N.Nodup) (hi:vL X tg iter ι) (hg:∀ p l C J fp,wT (sR X (T++o) j J C p l fp) T.length tg g)
  (he:∀ p l C J fp,PD (sR X (T++o) j J C p l fp) U te)
  (ht:∀ p l C J fp,wA (sR X (T++o) j J C p l fp) ab (uX X.K tt):=by exact λ_ _ _ _ _=>R5) (hc:X.calm=true:=by rfl) (hk:j.kind = .function:=by rfl) (ho:Eo X.N X.env.kindOf j T o I=true:=by rfl) (af:X.N[i]?=some x:=by rfl) (hx:uN X.env.scope x:=by first | exact Or.inl rfl | exact Or.inr rfl) (aa:I.Nodup:=by decide)
  (ag:swapsWith (.ListComp U [⟨tg,iter,ab,0⟩] j pos) (some (.Name x ac)) ae.line X.env=pure true:=by rfl)
  (hs:∀ x,foldedSetIterable iter X.env x=pure x:=by intro _;rfl)
  (hf:X.fn x=true\/X.env.scope.names.lookup x=some .local:=by first | exact .inl rfl | exact .inr rfl | assumption) :
  sY X (.Assign [.Name x ac] (.ListComp U [⟨tg,iter,ab,0⟩] j pos) ae) (qU i (wX T.length I ι g tt te)) :=
 (Wp T o I hN af hx hc hi hk ho hg ht he ag hs hf).mono λn q H a=>a.elim λB h Tm m e hd ht f=>T5 aa ⟨B,h,Tm,_,e,hd,ht,λr k v c b d1 d=>(f.1 _ _ c (by rw[bL,bL];exact b) (bL ..) (d1.assign b i)).1 d⟩
end
section
variable {X:Cx}{K:lK}
theorem pV (h:Peeks K A H [d] g):∃ x,g=[x]/\mV K A H d x:=by
 cases h with | cons h r=>cases r;exact⟨_,rfl,h⟩
theorem Ei (h:Peeks K A H [d,e] j):∃ x y,j=[x,y]/\mV K A H d x/\mV K A H e y:=by
 cases h with | cons h r=>cases r with | cons g r=>cases r;exact⟨_,_,rfl,h,g⟩
def Y2:D->Ab Nat
 | .l a=>some a.length
 | .t a=>some a.length
 | .con a=>some a.length
 | .c a=>some a.length
 | .str z=>some z.length
 | .k b=>some b.length
 | _=>none
def Zj:OC:=λa b=>match a with
 | [d]=>Fy d=true/\∃ n,Y2 d=some n/\b (.v (.int n))
 | _=>False
def Qt (K:lK):Aa V->Hp->VK->Prop:=λc H Q=>(∃ p d,c=[.ref p]/\(hI K H p d\/mK K H p d)/\Q (.int d.length) H)\/(∃ z,c=[.str z]/\z.length<=sizeLine/\Q (.int z.length) H)\/∃ a b,c=[V.ref a]/\H a=some (.k b)/\Q (.int b.length) H
theorem uQ:nF X (.builtin "len") (Qt X.K):=Ba.or (K2.or CJ)
theorem uW:pW K (Qt K) Zj:=by
 intro B L H m t u Q hd q i k;cases m with
 | nil=>exact False.elim i
 | cons d m =>
 cases m with
 | cons _ _=>exact False.elim i
 | nil =>
 obtain⟨x,rfl,f⟩:=pV q;obtain⟨s,n,c,i⟩:=i;have fin:Q (.int n) H:=k _ _ H i (hd.pushF (.int _));cases d<;>first | (cases c;done) | skip
 .cases c;have:=f.str_inv;subst this;exact .inr (.inl ⟨_,rfl,yD (cM s),fin⟩)
 .cases c;obtain⟨a,b,rfl,h,r⟩:=f.tup_inv;exact .inl ⟨a,b,rfl,.inr (mK.of h),by rw[<- r.length];exact fin⟩
 .cases c;obtain⟨a,b,rfl,h,r⟩:=f.lst_inv;exact .inl ⟨a,b,rfl,.inl (hI.of h),by rw[<- r.length];exact fin⟩
 .cases c;obtain⟨a,b,rfl,h,e,r⟩:=f.dK_inv;refine .inr (.inr ⟨a,b,rfl,h,?_⟩);have:=dD List.length e;rw[aA,aA] at this;rw[<- this];exact fin
 .cases c;obtain⟨a,b,rfl,h,r⟩:=f.scr_inv;exact .inl ⟨a,b,rfl,.inl h.sqL,by rw[<- r.length];exact fin⟩
 .cases c;obtain⟨a,b,rfl,h,r⟩:=f.con_inv;exact .inl ⟨a,b,rfl,.inr h.sqT,by rw[<- r.length];exact fin⟩
noncomputable def yJ:Aa D->Ab (Aa Int)
 | []=>some []
 | .int i::a=>(yJ a).map (i::·)
 | _=>none
theorem Im:∀ (g:Aa Int),yJ (g.map D.int)=some g
 | []=>rfl
 | n::g=>by
  show (yJ (g.map D.int)).map (n::·)=_;rw[Im g];rfl
theorem Hb (h:yJ j=some l) (g:Reps K A H j o):o=l.map V.int:=by
 induction j generalizing l o with
 | nil=>cases g;cases h;rfl
 | cons d j b =>
  cases g with
  | cons r g =>
  cases d with
  | int i =>
   obtain⟨c,a,rfl⟩:=cI.mp h;rw[r.int_inv,b a g];rfl
  | _=>cases h
def DW:OC:=λb d=>match b with
 | [.l c]=>∃ a,yJ c=some a/\d (.v (.int a.sum))
 | _=>False
theorem I0:pW K (λj H Q=>∃ (p:Ad) (g:Aa Int),j=[.ref p]/\hI K H p (g.map V.int)/\Q (.int g.sum) H) DW:=by
 intro B L H c j n Q hd f b k;cases c with
 | nil=>exact False.elim b
 | cons d c =>
 cases d<;>first | exact False.elim b | skip
 cases c with
 | cons _ _=>exact False.elim b
 | nil =>
 obtain⟨x,rfl,i⟩:=pV f;obtain⟨g,e,b⟩:=b;obtain⟨a,m,rfl,h,r⟩:=i.lst_inv;rw[Hb e r] at h;exact⟨a,g,rfl,hI.of h,k _ _ H b (hd.pushF (.int _))⟩
def Kl:OC:=λd c=>match d with
 | [.l e]=>∃ b,yJ e=some b/\b≠[]/\∀ m:Int,m∈b->(∀ a∈b,m<=a)->c (.v (.int m))
 | [.int i,.int j]=>∀ m:Int,(m=i\/m=j)->m<=i->m<=j->c (.v (.int m))
 | _=>False
def Zv:OC:=λd c=>match d with
 | [.l e]=>∃ b,yJ e=some b/\b≠[]/\∀ m:Int,m∈b->(∀ a∈b,a<=m)->c (.v (.int m))
 | [.int i,.int j]=>∀ m:Int,(m=i\/m=j)->i<=m->j<=m->c (.v (.int m))
 | _=>False
def Ks (K:lK):Aa V->Hp->VK->Prop:=λc H Q=>(∃ (p:Ad) (b:Aa Int),c=[.ref p]/\hI K H p (b.map V.int)/\b≠[]/\∀ m:Int,m∈b->(∀ a∈b,m<=a)->Q (.int m) H)\/∃ i j,c=[.int i,.int j]/\Q (.int (if j<i then j else i)) H
def Ky (K:lK):Aa V->Hp->VK->Prop:=λc H Q=>(∃ (p:Ad) (b:Aa Int),c=[.ref p]/\hI K H p (b.map V.int)/\b≠[]/\∀ m:Int,m∈b->(∀ a∈b,a<=m)->Q (.int m) H)\/∃ i j,c=[.int i,.int j]/\Q (.int (if j>i then j else i)) H
theorem CS (g:X.calm=true):nF X (.builtin "min") (Ks X.K):=(BA g).or (Zb g)
theorem AB (g:X.calm=true):nF X (.builtin "max") (Ky X.K):=(DR g).or (Xu g)
theorem GR:pW K (Ks K) Kl:=by
 intro B L H c A D Q hd n b k;cases c with
 | nil=>exact False.elim b
 | cons d c =>
 cases d<;>first | exact False.elim b | skip
 .cases c with
  | nil=>exact False.elim b
  | cons e c =>
  cases e<;>first | exact False.elim b | skip
  cases c with
  | cons _ _=>exact False.elim b
  | nil =>
  obtain⟨x,y,rfl,f,py⟩:=Ei n;have:=f.int_inv;have:=py.int_inv;subst_vars
  rename_i i j
  refine .inr ⟨_,_,rfl,?_⟩;by_cases z:j<i
  .rw[aO z];exact k _ _ H (b _ (.inr rfl) (by omega) (by omega)) (hd.pushF (.int _))
  .rw[aJ z];exact k _ _ H (b _ (.inl rfl) (by omega) (by omega)) (hd.pushF (.int _))
 .cases c with
  | cons _ _=>exact False.elim b
  | nil =>
  obtain⟨x,rfl,f⟩:=pV n;obtain⟨v,u,q,b⟩:=b;obtain⟨a,w,rfl,h,r⟩:=f.lst_inv;rw[Hb u r] at h;exact .inl ⟨a,v,rfl,hI.of h,q,λm s t=>k _ _ H (b m s t) (hd.pushF (.int _))⟩
theorem KL:pW K (Ky K) Zv:=by
 intro B L H c A D Q hd n b k;cases c with
 | nil=>exact False.elim b
 | cons d c =>
 cases d<;>first | exact False.elim b | skip
 .cases c with
  | nil=>exact False.elim b
  | cons e c =>
  cases e<;>first | exact False.elim b | skip
  cases c with
  | cons _ _=>exact False.elim b
  | nil =>
  obtain⟨x,y,rfl,f,py⟩:=Ei n;have:=f.int_inv;have:=py.int_inv;subst_vars
  rename_i i j
  refine .inr ⟨_,_,rfl,?_⟩;by_cases z:j>i
  .rw[aO z];exact k _ _ H (b _ (.inr rfl) (by omega) (by omega)) (hd.pushF (.int _))
  .rw[aJ z];exact k _ _ H (b _ (.inl rfl) (by omega) (by omega)) (hd.pushF (.int _))
 .cases c with
  | cons _ _=>exact False.elim b
  | nil =>
  obtain⟨x,rfl,f⟩:=pV n;obtain⟨v,u,q,b⟩:=b;obtain⟨a,w,rfl,h,r⟩:=f.lst_inv;rw[Hb u r] at h;exact .inl ⟨a,v,rfl,hI.of h,q,λm s t=>k _ _ H (b m s t) (hd.pushF (.int _))⟩
def Nj:D->Ab (Aa D)
 | .l a=>some a
 | .t a=>some a
 | .con a=>some a
 | .c a=>some a
 | _=>none
theorem Wd (h:Nj d=some j) (p:mV K A H d x):∃ a g,x = .ref a/\(hI K H a g\/mK K H a g)/\Reps K A H j g:=by
 cases d<;>cases h
 .obtain⟨a,g,rfl,h,r⟩:=p.tup_inv;exact⟨a,g,rfl,.inr (mK.of h),r⟩
 .obtain⟨a,g,rfl,h,r⟩:=p.lst_inv;exact⟨a,g,rfl,.inl (hI.of h),r⟩
 .obtain⟨a,g,rfl,h,r⟩:=p.scr_inv;exact⟨a,g,rfl,.inl h.sqL,r⟩
 .obtain⟨a,g,rfl,h,r⟩:=p.con_inv;exact⟨a,g,rfl,.inr h.sqT,r⟩
def JK:OC:=λb c=>match b with
 | [d]=>∃ a,Nj d=some a/\c (.o (.l a))
 | _=>False
theorem Qg:pW K (λg H Q=>∃ p j,g=[.ref p]/\(hI K H p j\/mK K H p j)/\∀ l,H l=none->Q (.ref l) (upd H l (.l j))) JK:=by
 intro B L H c g q Q hd f b k;cases c with
 | nil=>exact False.elim b
 | cons d c =>
 cases c with
 | cons _ _=>exact False.elim b
 | nil =>
 obtain⟨x,rfl,m⟩:=pV f;obtain⟨g,i,b⟩:=b;obtain⟨a,n,rfl,h,r⟩:=Wd i m;exact⟨a,n,rfl,h,λl e=>k _ _ _ b (hd.lstF e r)⟩
def CQ:OC:=λc b=>match c with
 | [.l a]=>b (.v (.t a))
 | [.t a]=>b (.v (.t a))
 | _=>False
theorem xJ:pW K (λj H Q=>∃ p g,j=[.ref p]/\((hI K H p g/\∀ l,H l=none->Q (.ref l) (upd H l (.t g)))\/(mK K H p g/\Q (.ref p) H))) CQ:=by
 intro B L H e j q Q hd m b k;cases e with
 | nil=>exact False.elim b
 | cons d e =>
 cases d<;>first | exact False.elim b | skip<;>cases e<;>first | exact False.elim b | skip
 .obtain⟨x,rfl,c⟩:=pV m;have f:=c;obtain⟨a,i,rfl,h,r⟩:=c.tup_inv;exact⟨a,i,rfl,.inr ⟨mK.of h,k _ _ _ b (hd.pushF f)⟩⟩
 .obtain⟨x,rfl,c⟩:=pV m;obtain⟨a,i,rfl,h,r⟩:=c.lst_inv;exact⟨a,i,rfl,.inl ⟨hI.of h,λl n=>k _ _ _ b (hd.tupF n r)⟩⟩
def uR:Aa D->Ab (Aa (eF×D))
 | []=>some []
 | .t [k,d]::a=>match rD k,uR a with
  | some k,some r=>some ((k,d)::r)
  | _,_=>none
 | _=>none
theorem Fu {l:Type}{f:l->D}{g:l->eF×D}(h:∀ x,∃ k,f x = .t [k,(g x).2]/\rD k=some (g x).1):∀ j:Aa l,uR (j.map f)=some (j.map g)
 | []=>rfl
 | x::j=>by
  obtain⟨k,a,b⟩:=h x;rw[aM,a];show (match rD k,uR (j.map f) with | some k,some r=>some ((k,(g x).2)::r) | _,_=>none)=_;rw[b,Fu h j];rfl
def oX (g more:Aa (eF×D)):Aa (eF×D):=more.foldl (λa b=>mP a b.1 b.2) g
theorem U8 (h:uR l=some j) (o:Reps K A H l C):∃ (p:Aa Ad) (g:Aa (eF×V)),C=p.map V.ref/\B9 H p g/\j.map (·.1)=g.map (·.1)/\Reps K A H (j.map (·.2)) (g.map (·.2)):=by
 induction l generalizing j C with
 | nil=>cases o;cases h;exact⟨[],[],rfl,.nil,rfl,.nil⟩
 | cons d l t =>
  cases o with
  | cons r o =>
  cases d<;>first | (cases h;done) | skip
  rename_i x
  rcases x with _ | ⟨k,_ | ⟨e,_ | ⟨_,_⟩⟩⟩<;>first | (cases h;done) | skip
  .have h:=(show (match rD k,uR l with | some k,some r=>some ((k,e)::r) | _,_=>none)=some j from h);cases c:rD k with
   | none=>rw[c] at h;cases h
   | some u =>
    cases f:uR l with
    | none=>rw[c,f] at h;cases h
    | some y =>
     rw[c,f] at h;cases h;obtain⟨a,z,rfl,s,b⟩:=r.tup_inv;obtain⟨p,g,i,m,n,q⟩:=t f o;cases b with
     | cons v b =>
      cases b with
      | cons w b =>
       cases b;have:=zZ c v.peek;subst this;exact⟨a::p,(u,_)::g,by rw[i];rfl,.cons s m,by rw[aM,aM,n],.cons w q⟩
theorem Fo:∀ {more:Aa (eF×D)}{mv:Aa (eF×V)}{kvs:Aa (eF×D)}{vs:Aa (eF×V)},more.map (·.1)=mv.map (·.1)->Reps K A H (more.map (·.2)) (mv.map (·.2))->kvs.map (·.1)=vs.map (·.1)->Reps K A H (kvs.map (·.2)) (vs.map (·.2)) ->
  (oX kvs more).map (·.1)=(pU vs mv).map (·.1)/\Reps K A H ((oX kvs more).map (·.2)) ((pU vs mv).map (·.2))
 | [],[],_,_,_,_,e,r=>⟨e,r⟩
 | [],_::_,_,_,e,_,_,_=>by simp at e
 | _::_,[],_,_,e,_,_,_=>by simp at e
 | (k,d)::more,(j,v)::mv,kvs,vs,a,b,e,r=>by
  simp only[aM,fU] at a;obtain⟨rfl,a⟩:=a;cases b with
  | cons h b =>
   obtain⟨c,f⟩:=Cf e r (k:=k) h;exact Fo (more:=more) (mv:=mv) a b c f
def DY:OC:=λc b=>match c with
 | [.k a]=>b (.o (.k a))
 | [.l d]=>∃ a,uR d=some a/\a.length<=1000/\b (.o (.k (oX [] a)))
 | _=>False
def Po (K:lK):Aa V->Hp->VK->Prop:=λe H Q=>(∃ (a:Ad) (b:Aa (eF×V)),e=[.ref a]/\H a=some (.k b)/\∀ p,H p=none->Q (.ref p) (upd H p (.k b))) \/
 ∃ (p:Ad) (c:Aa Ad) (b:Aa (eF×V)),e=[.ref p]/\hI K H p (c.map V.ref)/\B9 H c b/\b.length<=1000/\∀ d,H d=none->Q (.ref d) (upd H d (.k (pU [] b)))
theorem Cm (g:X.calm=true):nF X (.type "dict") (Po X.K):=Up.or (BG g)
theorem Cc:pW K (Po K) DY:=by
 intro B L H i E F Q hd c b k;cases i with
 | nil=>exact False.elim b
 | cons d i =>
 cases d<;>first | exact False.elim b | skip<;>cases i<;>first | exact False.elim b | skip
 .obtain⟨x,rfl,n⟩:=pV c;obtain⟨w,v,D,b⟩:=b;obtain⟨a,s,rfl,h,r⟩:=n.lst_inv;obtain⟨A,f,rfl,t,q,u⟩:=U8 v r;obtain⟨y,z⟩:=Fo (kvs:=[]) (vs:=[]) q u rfl .nil;have m:f.length<=1000:=by
   have:=dD List.length q;simp only[aA] at this;omega
  exact .inr ⟨a,A,f,rfl,hI.of h,t,m,λp c=>k _ _ _ b (hd.dKF c y z)⟩
 .obtain⟨x,rfl,n⟩:=pV c;obtain⟨a,s,rfl,h,e,r⟩:=n.dK_inv;exact .inl ⟨a,s,rfl,h,λp c=>k _ _ _ b (hd.dKF c e r)⟩
def Ip:OC:=λc a=>match c with
 | [.int i]=>a (.v (.int i))
 | [.b b]=>a (.v (.int (if b then 1 else 0)))
 | _=>False
theorem MN:pW K (λg H Q=>(∃ i,g=[.int i]/\Q (.int i) H)\/∃ k,g=[.b k]/\Q (.int (if k then 1 else 0)) H) Ip:=by
 intro B L H c g h Q hd f a k;cases c with
 | nil=>exact False.elim a
 | cons d c =>
 cases d<;>first | exact False.elim a | skip<;>cases c<;>first | exact False.elim a | skip
 .obtain⟨x,rfl,e⟩:=pV f;have:=e.bl_inv;subst this;exact .inr ⟨_,rfl,k _ _ H a (hd.pushF (.int _))⟩
 .obtain⟨x,rfl,e⟩:=pV f;have:=e.int_inv;subst this;exact .inl ⟨_,rfl,k _ _ H a (hd.pushF (.int _))⟩
noncomputable def vK:Aa D->Ab (Aa Bool)
 | []=>some []
 | .b b::a=>(vK a).map (b::·)
 | _=>none
theorem Er:∀ (g:Aa Bool),vK (g.map D.b)=some g
 | []=>rfl
 | n::g=>by rw[aM,vK,Er g];rfl
theorem Pq (h:vK g=some j) (r:Reps K A H g l):l=j.map V.b:=by
 induction g generalizing j l with
 | nil=>cases r;simp only[vK,Option.some.injEq] at h;subst h;rfl
 | cons d g c =>
  cases r with
  | cons r e =>
  cases d with
  | b i =>
   simp only[vK,cI] at h;obtain⟨f,a,rfl⟩:=h;rw[r.bl_inv,c a e];rfl
  | _=>simp[vK] at h
def ID:OC:=λa d=>match a with
 | [.l c]=>∃ bs,vK c=some bs/\d (.v (.b (bs.all id)))
 | _=>False
theorem Y6:pW K (Uk K) ID:=by
 intro B L H e s t Q hd i c k;cases e with
 | nil=>exact False.elim c
 | cons d e =>
  cases e with
  | cons _ _=>cases d<;>exact False.elim c
  | nil =>
   cases d<;>first | exact False.elim c | skip
   obtain⟨x,rfl,n⟩:=pV i;obtain⟨m,f,c⟩:=c;obtain⟨a,q,rfl,h,r⟩:=n.lst_inv;rw[Pq f r] at h;exact⟨a,m,rfl,hI.of h,k _ _ H c (hd.pushF (.b _))⟩
end
def Jn (T:String):D->Bool
 | .str _=>T == "str"
 | .l _=>T == "list"
 | .c _=>T == "list"
 | .k _=>T == "dict"
 | _=>false
section
variable {X:Cx}{K:lK}
theorem Kw (h:Jn T d=true) (p:mV K A H d x):B0 K T x H:=by
 cases d<;>first | (cases h;done) | skip
 all_goals (have h:=eq_of_beq h;subst h)
 .have:=p.str_inv;subst this;rfl
 .obtain⟨a,b,rfl,h,r⟩:=p.lst_inv;exact .inl ⟨rfl,b,hI.of h⟩
 .obtain⟨a,b,rfl,h,e,r⟩:=p.dK_inv;exact .inr (.inr (.inl ⟨rfl,.inl ⟨b,h⟩⟩))
 .obtain⟨a,b,rfl,h,r⟩:=p.scr_inv;exact .inl ⟨rfl,b,h.sqL⟩
abbrev OM:=D->Aa D->(Sl->Prop)->Prop
abbrev RM:=V->Aa V->Hp->VK->Prop
def Q2 (K:lK) (r:RM) (f:OM):Prop:=∀ (B:Bs) (L:nO) (H:Hp) (d:D) (b:Aa D) (x:V) (c:Aa V) (e:Sl->Prop) (Q:VK),DS K B L H->mV K (Al B (gV L)) H d x->Peeks K (Al B (gV L)) H b c->f d b e ->
 (∀ s v a,e s->DS K B ((s,some v)::L) a->Q v a)->r x c H Q
def Xf (T:String) (f:OM) (i:Nat) (g:rP):mE:=λc b h=>(match at? b i with | some d=>Jn T d=true | none=>False)/\g c b λas a=>match at? a i,uA a as with
 | some d,some e=>f d e λs=>h s a
 | _,_=>False
variable {id:String}
theorem LZ (pa:PlainAttrs T) (slot:Slot T name id) (j:typeOf (.builtin id)=pure (.type "method_descriptor")) (J:uK X id r) (I:Q2 X.K r f) (U:PE X o (pJ i)) (p:rF X (e::l) ta)
  (C:MtB X o name apos e l g:=by exact {}) :
  PD X (.Call (.Attribute o name apos) (e::l) [] g) (Xf T f i ta) :=
 (zK pa slot j J U p C).mono λW H Q u=>u.elim λB F Tm V D hd ⟨m,N⟩ k=>by
  cases n:at? F i with
  | none=>rw[n] at m;exact m.elim
  | some R =>
   rw[n] at m;obtain⟨x,E,O⟩:=hd.peek D n;refine⟨x,E,Kw m O,B,F,Tm,_,D,hd,N,λas a P L w ok d2 b=>?_⟩;cases h:at? a i with
   | none=>rw[h] at b;exact b.elim
   | some d =>
    cases q:uA a as with
    | none=>rw[h,q] at b;exact b.elim
    | some A =>
     rw[h,q] at b;have z:=d2.rmArgs;obtain⟨S,c,y⟩:=z.peek w h;rw[E] at c;cases c;exact I B _ L d A x P _ Q z y (d2.argsP w ok A q).1 b λs v G M t=>k s a v G w t.mid M
abbrev OW:=D->Aa D->(D->D->Prop)->Prop
def wO (K:lK) (r:RM) (f:OW):Prop:=∀ (A:Ad->Prop) (H:Hp) (a:Ad) (c:D) (h:Aa D) (i:Aa V) (k:D->D->Prop) (Q:VK),¬ A a->oY K A H a c->Reps K A H h i->f c h k ->
 (∀ d v o e,k d e->Rep K A H d v->(∀ b,Kp A b H (upd H a o)->oY K b (upd H a o) a e)->Q v (upd H a o))->r (.ref a) i H Q
def dW (T:String) (f:OW) (i:Nat) (g:rP):mE:=λh b m=>(match at? b i with | some d=>Jn T d=true | none=>False)/\g h b λas a=>match a[i]?,uU as with
 | some (.o c),some k=>f c k λd e=>m (.v d) (a.set i (.o e))
 | _,_=>False
theorem LG {f:OW}(C:wO X.K r f){g:St}{H:Hp}{Q:VK}(h:dE X.K (dW T f i ta) g H Q):pJ i g H λx l=>B0 X.K T x l/\dA X.K ta g l λxs j=>r x xs j Q:=by
 obtain⟨B,Y,Tm,Φ,S,hd,⟨A,J⟩,k⟩:=h;cases F:at? Y i with
 | none=>rw[F] at A;exact A.elim
 | some d0 =>
  rw[F] at A;obtain⟨x,t,px⟩:=hd.peek S F;refine⟨x,t,Kw A px,B,Y,Tm,_,S,hd,J,λas e vs j D ok d2 b=>?_⟩;cases m:e[i]? with
  | none=>rw[m] at b;exact b.elim
  | some s =>
   cases s with
   | n=>rw[m] at b;exact b.elim
   | v c=>rw[m] at b;exact b.elim
   | o c =>
    cases G:uU as with
    | none=>rw[m,G] at b;exact b.elim
    | some P =>
     rw[m,G] at b;have O:=d2.temps ok P G;have Z:=d2.rmArgs;obtain⟨a,R,W,wr⟩:=Z.slotW D m;rw[t] at R;cases R;obtain⟨u,U,tu⟩:=W.some;have V:¬ Al B (gV (e.zip g++Tm)) a:=λz=>z.2.1 (by
      obtain⟨l1,y,N,w,_,L,_⟩:=sZ D m;rw[t] at w;cases w;rw[L,bH,cD,pS];exact bA _ aF)
     refine C _ j a c P vs _ Q V W O b λd v o E M rd I=>k _ _ v _ (by rw[bL];exact D) ?_ M
     refine (wr o E I).push ?_;have p:gV ((e.set i (.o E)).zip g++Tm)=gV (e.zip g++Tm):=by
      obtain⟨l1,y,N,w,_,L,q⟩:=sZ D m;rw[t] at w;cases w;have:=q (.o E) (some (.ref a));rw[yY t] at this;rw[this,L,bH,bH,cD,cD,pS,pS];rfl
     rw[p];exact rd.mono (.write U tu V)
theorem tP {f:OW}(pa:PlainAttrs T) (slot:Slot T name id) (j:typeOf (.builtin id)=pure (.type "method_descriptor")) (J:uK X id r) (I:wO X.K r f) (U:PE X o (pJ i)) (p:rF X (e::l) ta)
  (C:MtB X o name apos e l g:=by exact {}) :
  PD X (.Call (.Attribute o name apos) (e::l) [] g) (dW T f i ta):=(zK pa slot j J U p C).mono λ_ _ _ h=>LG I h
noncomputable def Sk:OW:=λc b f=>match c,b with
 | .l a,[d]=>a.length<100000/\f .e (.l (a++[d]))
 | _,_=>False
theorem vD:wO K Tt Sk:=by
 intro A H a c q s t Q _ i rd b k;cases c<;>first | exact False.elim b | skip
 cases rd with
 | nil=>exact False.elim b
 | cons f rd =>
 cases rd with
 | cons _ _=>exact False.elim b
 | nil =>
 .obtain⟨m,h,r⟩:=i
  .refine⟨a,m,_,rfl,rfl,h,bG (by rw[<- r.length];exact b.1) (by decide),k _ _ _ _ b.2 .e λn d=>⟨_,mM,(r.append (.cons f .nil)).mono d⟩⟩
def IG:OW:=λc b d=>match c,b with
 | .l a,[.int i]=>∃ k y,-(2 ^ 63)<=i/\i<2 ^ 63/\seqIndex? i a.length=some k/\a[k]?=some y/\d y (.l (a.eraseIdx k))
 | _,_=>False
theorem LP:wO K N4 IG:=by
 intro A H a c z B D Q _ t rd b k;cases c<;>first | exact False.elim b | skip
 cases rd with
 | nil=>exact False.elim b
 | cons s rd =>
 rename_i d _ _ _
 cases d<;>first | exact False.elim b | skip
 cases rd with
 | cons _ _=>exact False.elim b
 | nil =>
 .obtain⟨w,h,r⟩:=t
  .have:=s.int_inv;subst this;obtain⟨j,y,e,f,i,m,b⟩:=b;obtain⟨v,n,u⟩:=r.get m;exact⟨a,w,_,j,v,rfl,rfl,h,e,f,by rw[<- r.length];exact i,n,k _ _ _ _ b u λx q=>⟨_,mM,(r.erase j).mono q⟩⟩
def DQ:D->Bool
 | .k _=>true
 | .T _=>true
 | _=>false
def KR (i:Nat) (ty g:mE):mE:=λc e m=>(match at? e i with | some d=>DQ d=true | none=>False)/\ty c e λf b=>g c b λh a=>match at? a i,sd f,sd h with
 | some d,some k,some x=>∃ o,uZ d k=some o/\m (.v (o.getD x)) a
 | _,_,_=>False
theorem Jy (U:X.A.units+1<cLine) (l:PE X o (pJ i)) (I:PD X k ty) (J:PD X x tx) (m:M2 X o "get" apos k x j:=by exact⟨rfl,rfl,rfl,rfl⟩):PD X (.Call (.Attribute o "get" apos) [k,x] [] j) (KR i ty tx) :=
 (BP U l I J m).mono λσ H Q E=>E.elim λB W Tm Φ N hd ⟨t,T⟩ k=>by
  cases u:at? W i with
  | none=>rw[u] at t;exact t.elim
  | some Z =>
   rw[u] at t;obtain⟨x,O,R⟩:=hd.peek N u;obtain⟨a,rfl,F⟩:∃ a,x = .ref a/\G6 H a:=by
    cases Z<;>first | (cases t;done) | skip
    .obtain⟨a,L,rfl,h,e,r⟩:=R.dK_inv;exact⟨a,rfl,.inl ⟨L,.inl h⟩⟩
    .obtain⟨a,L,rfl,h,e,r⟩:=R.dT_inv;exact⟨a,rfl,.inr ⟨L,h⟩⟩
   refine⟨.ref a,O,a,rfl,F,B,W,Tm,_,N,hd,T,λV M y H1 l1 d1 C=>⟨B,M,(V,some y)::Tm,_,l1,d1,C,λrx q z Y P d2 b=>?_⟩⟩;cases f:at? q i with
   | none=>rw[f] at b;exact b.elim
   | some d =>
    cases s:sd V with
    | none=>rw[f,s] at b;exact b.elim
    | some kk =>
     cases D:sd rx with
     | none=>rw[f,s,D] at b;exact b.elim
     | some xx =>
      rw[f,s,D] at b;obtain⟨oo,l,b⟩:=b;obtain⟨S,q2,q3⟩:=d2.two s D;obtain⟨x',n,G⟩:=S.peek P f;rw[O] at n;cases n;obtain⟨a',w,p,g,g1,g2⟩:=Ku l G q2.peek;cases p;refine⟨w,g,k _ q _ Y P (S.push ?_) b⟩;cases oo with
      | none=>rw[g2 rfl];exact q3
      | some c=>obtain⟨v,rfl,rv⟩:=g1 c rfl;exact rv
def C4:Aa D->Ab (Aa Af)
 | []=>some []
 | .str b::a=>(C4 a).map (b::·)
 | _=>none
theorem Ie:∀ (g:Aa Af),C4 (g.map D.str)=some g
 | []=>rfl
 | n::g=>by
  show (C4 (g.map D.str)).map (n::·)=_;rw[Ie g];rfl
theorem Mt (h:C4 j=some l) (g:Reps K A H j o):o=l.map V.str:=by
 induction j generalizing l o with
 | nil=>cases g;cases h;rfl
 | cons d j b =>
  cases g with
  | cons r g =>
  cases d with
  | str i =>
   obtain⟨c,a,rfl⟩:=cI.mp h;rw[r.str_inv,b a g];rfl
  | _=>cases h
noncomputable def Vo:OM:=λd a b=>match d,a with
 | .str z,[.str y]=>y.length≠0/\z.length<=1000000/\b (.o (.l ((Txt.split z y).map D.str)))
 | _,_=>False
theorem Gr:∀ (g:Aa Af),Reps K A H (g.map D.str) (g.map V.str)
 | []=>.nil
 | y::g=>.cons (.str y) (Gr g)
theorem Ys:Q2 K Sg Vo:=by
 intro B L H d b x i m Q hd h f a k;cases d<;>first | exact False.elim a | skip
 cases b with
 | nil=>exact False.elim a
 | cons e b =>
  cases b with
  | cons _ _=>cases e<;>exact False.elim a
  | nil =>
   cases e<;>first | exact False.elim a | skip
   obtain⟨y,rfl,py⟩:=pV f;have:=h.str_inv;have:=py.str_inv;subst_vars;exact⟨_,_,rfl,rfl,a.1,a.2.1,λp c=>k _ _ _ a.2.2 (hd.lstF c (Gr _))⟩
end
section
variable {X:Cx}
theorem mQ (o:X.A.units+1<cLine) (i:Nat) (j:PD X b p) (g:PE X a (pJ i):=by exact pv _) (l:Gx b:=by exact λ_ _=>rfl):PD X (.Subscript a b pos) (tR wH i p) :=
 (rK (Mp o) g j l).mono λ_ _ _ h=>Fx N0 h
end
section
variable {X:Cx}{K:lK}
theorem Wy (l:X.calm=true):nF X (.builtin "min") (λg H Q=>∃ i j k,g=[.int i,.int j,.int k]/\∀ m:Int,(m=i\/m=j\/m=k)->m<=i->m<=j->m<=k->Q (.int m) H):=by
 intro f s A H g F Q I r h;obtain⟨i,j,k,rfl,q⟩:=h;cases r with
 | cons y r =>
  obtain⟨v,u,rfl,⟨D,rfl⟩,⟨E,rfl⟩⟩:=Ed r;obtain⟨B,rfl⟩:=y;refine min_three_ints (I.ok.hd l) λw z x=>?_
  have fin:∀ (m:Int) (t:Tok),(m=i\/m=j\/m=k)->m<=i->m<=j->m<=k->EP X f A Q (.int m t) { s with heap:=w,toks:=z }:=λm t a b c d=>⟨.int m,H,I.kept x,⟨t,rfl⟩,q m a b c d⟩
  by_cases n:j<i
  .rw[aO n];by_cases e:k<j
   .rw[aO e];exact fin _ _ (.inr (.inr rfl)) (by omega) (by omega) (by omega)
   .rw[aJ e];exact fin _ _ (.inr (.inl rfl)) (by omega) (by omega) (by omega)
  .rw[aJ n];by_cases e:k<i
   .rw[aO e];exact fin _ _ (.inr (.inr rfl)) (by omega) (by omega) (by omega)
   .rw[aJ e];exact fin _ _ (.inl rfl) (by omega) (by omega) (by omega)
def Kr (K:lK):Aa V->Hp->VK->Prop:=λa H Q=>Ks K a H Q\/∃ i j k,a=[.int i,.int j,.int k]/\∀ m:Int,(m=i\/m=j\/m=k)->m<=i->m<=j->m<=k->Q (.int m) H
theorem LD (g:X.calm=true):nF X (.builtin "min") (Kr X.K):=(CS g).or (Wy g)
def Zq:OC:=λa b=>match a with
 | [.int i,.int j,.int k]=>∀ m:Int,(m=i\/m=j\/m=k)->m<=i->m<=j->m<=k->b (.v (.int m))
 | a=>Kl a b
theorem JC:pW K (Kr K) Zq:=by
 intro B L H i n q Q hd h f k;have two:Kl i q->Kr K n H Q:=λf=>.inl (GR B L H _ n q Q hd h f k)
 rcases i with _ | ⟨d,_ | ⟨e,_ | ⟨g,_ | ⟨_,_⟩⟩⟩⟩
 .exact two f
 .cases d<;>exact two f
 .cases d<;>first | exact two f | (cases e<;>exact two f)
 .cases d<;>first | exact two f | skip
  cases e<;>first | exact two f | skip
  cases g<;>first | exact two f | skip
  cases h with
  | cons s h =>
   obtain⟨x,y,rfl,t,py⟩:=Ei h;have:=s.int_inv;have:=t.int_inv;have:=py.int_inv;subst_vars;exact .inr ⟨_,_,_,rfl,λm a b c d=>k _ _ H (f m a b c d) (hd.pushF (.int _))⟩
 .cases d<;>first | exact two f | (cases e<;>first | exact two f | (cases g<;>exact two f))
end
end L2
namespace PySem
open PyProof.Rows L2
abbrev wV (h:Ag) (z TI TO T:Ad) (f:Bool):Prop:=h.get? z=some { cls:=.type "zip",dict:=none,data:=.fields #[rawInt T,.bool f,.bool false,.ref TI,.ref TO],slots:=#[] }
section
theorem CZ (j:s.heap.get? a=some o) (h:Q (some o) s):wpAny (model g w) A (loadIfAlive a) Q E s:=λ_ _ _=>by
 show Q (s.heap.get? a) s;rw[j];exact h
theorem BK {TI TO:Ad}(g:wV s.heap z TI TO T f) (p:s.heap.get? T=some r) (l:∀ j,wV j z TI TO T true->Heap.SameBut z s.heap j->Q false { s with heap:=j }) :
  wpAny (model o w) A (Builtin.SmallTypes.ownedTupleIsFree (.ref z)) Q E s:=by
 unfold Builtin.SmallTypes.ownedTupleIsFree;refine aB (dQ g rfl (x:=rawInt T) rfl ?_);show wpAny _ _ (loadIfAlive ((T:Int).toNat) >>= _) _ _ _;rw[cR];refine aB (CZ p ?_);simp only[Option.isNone_some,dU,fX];refine aB (dQ g rfl (x:=.bool f) rfl ?_);cases f with
 | true =>
  rw[aJ (show ¬ ((Value.bool true != Value.bool true)=true) from aT)];exact aE (l _ g (Heap.SameBut.refl _ _))
 | false =>
  rw[aO (show (Value.bool false != Value.bool true)=true from rfl)];exact aB (iD g (by simp) λc b a=>aE (l _ b a))
def Mc (g:Ah) (w:World) (A:Around) (a b:Ac) (Q:Fin->Ae->Prop) (E:Ac->Ae->Prop) (s:Ae):Prop :=
 wpAny (model g w) A (Builtin.SmallTypes.nextOf a) (λx c=>wpAny (model g w) A (Builtin.SmallTypes.nextOf b) (λy d=>wpAny (model g w) A (newTuple [x,y]) (λt e=>Q (.done (.ret t)) e) E d) E c) E s
theorem Sv {TI TO:Ad}(p:wV s.heap z TI TO T f) (r:s.heap.get? T=some C) (o:IsPair s.heap TI a b)
  (go:∀ l,wV l z TI TO T true->Heap.SameBut z s.heap l->Mc j w A a b Q E { s with heap:=l }) :
  wpAny (model j w) A (Builtin.«zip.__next__» ⟨[.ref z],[]⟩) Q E s:=by
 have c:wpAny (model j w) A (Builtin.SmallTypes.ownedTupleIsFree (.ref z)) (λx d=>x=false/\Mc j w A a b Q E d) E s :=
  BK p r λl e k=>⟨rfl,go l e k⟩
 unfold Builtin.«zip.__next__»;refine aB (aE (aB (dQ p rfl (x:=.bool false) rfl (aB (dQ p rfl (x:=.ref TI) rfl (aB (fR o rfl ?_)))))));refine aB (lA c ?_);rintro _ d ⟨rfl,g⟩;simp only[aJ aT,<- Array.forIn_toList,jY,List.forIn_nil,bind_assoc];refine aB (bT (aB (lA g λx h g1=>aE (aB (aE ?_)))));refine aB (aB (bT (aB (lA g1 λy i g2=>aE (aB (aE (aE ?_)))))));exact aB (lA g2 λt m g3=>aE g3)
def Co (h:Ag) (z TI TO g j:Ad):Prop:=IsPair h TI (.ref g) (.ref j)/\(∃ a b,IsPair h TO a b)/\(IsZip h z TI TO .none\/∃ T f o,wV h z TI TO T f/\h.get? T=some o/\T≠z/\T≠TO/\T≠g/\T≠j)
end
theorem DX:typeLookup (.type "zip") "keys" = pure none:=am_miss_of_fast (by decide +kernel)
theorem CL:entryFor table "zip.__getattribute__" = some Builtin.«object.__getattribute__»:=entryFor_alias (id' := "object.__getattribute__") (by kernel_rfl) (by decide +kernel) (by decide +kernel) (by kernel_rfl)
theorem Zo:typeLookup (.type "zip") "__getattr__" = pure none:=am_miss_of_fast (by decide +kernel)
theorem IC {sl:Array (Ab Ac)}
  (l:s.heap.get? a=some { cls:=.type "zip",dict:=none,data:=.fields fs,slots:=sl }) (q:Q .missing s):wpAny (model g w) A (Builtin.ObjectAttr.find (.ref a) (.type "zip") "keys") Q E s:=by
 have own:wpAny (model g w) A (Builtin.ObjectAttr.inOwnDict "keys" (.ref a)) (λr b=>r=none/\b=s) E s :=
  aB (aB (wpAny_loadPart l (aB (wpAny_loadPart l (aE (aE ⟨rfl,rfl⟩))))))
 have guard:wpAny (model g w) A (Builtin.ObjectAttr.copiedAttributeGuard "keys" (.ref a)) (λ_ b=>b=s) E s:=by
  have no:¬ (([Str.ofString "__module__",Str.ofString "__name__",Str.ofString "__qualname__",Str.ofString "__doc__",Str.ofString "__annotations__"]:Aa Af).contains (Str.ofString "keys")=true):=by decide +kernel
  simp only[Builtin.ObjectAttr.copiedAttributeGuard,aJ no];exact aE rfl
 unfold Builtin.ObjectAttr.find;rw[DX];refine aB (aE (aB (aE (aB (aE (aB (lA own ?_)))))));rintro _ _ ⟨rfl,rfl⟩;refine aB (lA guard ?_);rintro _ _ rfl;exact aB (jB (aE q))
theorem LQ (a:Ad) (fs:Array Ac) (sl:Array (Ab Ac)) (u:Tok):Meets (Builtin.«object.__getattribute__» ⟨[.ref a,.str "keys" u],[]⟩) (λA R s=>s.heap.get? a=some { cls:=.type "zip",dict:=none,data:=.fields fs,slots:=sl }/\raisesAttr (.ref a) "keys" A R s) :=
 Meets.of_wp λb w A R s h=>by
  obtain⟨l,calm,c⟩:=h;have f:s.TypeIs (.ref a) "zip" := ⟨_,l,rfl⟩;unfold Builtin.«object.__getattribute__»;refine aB (aE (aB (aE (aB (fA f (aB (IC l ?_)))))));have named:wpAny (model b w) A.in1 (typeNameOfCut 100 (.ref a)) (λn d=>n = "zip" /\ d=s) (λe d=>R (.error e) d) s :=
   aB (aB (fA f (aE (aE ⟨by decide +kernel,rfl⟩))))
  show wpAny _ _ (Builtin.ObjectAttr.noSuchAttribute (.ref a) "keys") _ _ _;unfold Builtin.ObjectAttr.noSuchAttribute;refine aB (lA named ?_);rintro _ _ ⟨rfl,rfl⟩;exact wpAny_raiseAttrError calm c (by decide +kernel)
section
theorem DU {sl:Array (Ab Ac)}
  (l:s.heap.get? a=some { cls:=.type "zip",dict:=none,data:=.fields fs,slots:=sl }) (calm:A.handled=none) (j:∀ o p e,Heap.NewAttrErr s.heap o e (.ref a) "keys" -> E (.ref e) { s with heap:=o,toks:=p }) :
  wpAny (model g w) A (boundAndCalled (.builtin "zip.__getattribute__") (.ref a) (.str "keys" u)) Q E s:=by
 have ask:wpAny (model g w) A (call (.builtin "zip.__getattribute__") [.ref a,.str "keys" u]) Q E s :=
  iL jJ ⟨_,l,rfl⟩ CL (F.args_zip_getattribute_2 _ _) (LQ a fs sl u) ⟨l,calm,j⟩
 unfold boundAndCalled;rw[jJ.bind (.ref a)];exact aB (aE ask)
theorem JE (t:s.TypeIs (.ref e) "AttributeError") (j:E (.ref e) s) :
  wpAny (model g w) A (getattributeRaised o name (.type "zip") (.ref e) none false false) Q E s:=by
 have last:wpAny (model g w) A (hookOrError o name (.ref e) false false none) Q E s:=aB (wpAny_throw j);have a:hookBehind (.type "zip") none=pure none:=Zo;unfold getattributeRaised;refine aB (dN t jA ?_);rw[aO rfl,a];exact aB (aE last)
theorem Xz {sl:Array (Ab Ac)}
  (l:s.heap.get? a=some { cls:=.type "zip",dict:=none,data:=.fields fs,slots:=sl }) (calm:A.handled=none) (C:∀ j p e,Heap.NewExcOf s.heap j e "AttributeError" -> Q none { s with heap:=j,toks:=p }) :
  wpAny (model g w) A (getAttr? (.ref a) "keys") Q E s:=by
 have c:∀ j p e,Heap.NewAttrErr s.heap j e (.ref a) "keys" -> (∃ o,j.get? e=some o/\o.cls = .type "AttributeError")/\Q none { s with heap:=j,toks:=p }:=λj p e x=>by
  obtain⟨_,_,y⟩:=x.there;exact⟨⟨_,y,rfl⟩,C j p e x.of⟩
 let d:Ae:={ s with toks:=s.toks+1 };let b:Except Ac Ac->Ae->Prop:=λr i=>wpAny (model g w) A (match r with | .ok v=>pure (some v) | .error e=>do if <- isInstance e (.type "AttributeError") then pure none else throw e) Q E i
 have lS:wpAny (model g w) A (getAttrBy (.ref a) (.str "keys" s.toks) false) (λv=>b (.ok v)) (λe=>b (.error e)) d:=by
  refine bT (aB (fA (T := "zip") ⟨_,l,rfl⟩ (aB (dR jJ.lookup ?_))));have own:wpAny (model g w) A (getAttrByItsOwn (.ref a) (.str "keys" s.toks) (.type "zip") (.builtin "zip.__getattribute__") false false) (λv=>b (.ok v)) (λe=>b (.error e)) d:=by
   refine aB (aE (aB (fP (bT (DU (s:=d) l calm λj p e x=>?_)))));obtain⟨⟨o,f,h⟩,q⟩:=c j p e x;exact JE ⟨o,f,h⟩ (aB (dN (T := "AttributeError") ⟨o,f,h⟩ jA (aE q)))
  exact own
 exact aB (wpAny_mkText (aB (fP lS)))
end
section
variable {K:Type} [DecidableEq K] {R:Result->Ae->Prop}
theorem V6 {TI TO:Ad}(t:s.TypeIs (.ref d) "dict") (l:IsZip s.heap z TI TO .none) (calm:A.handled=none)
  (r:∀ j o e,Heap.NewExcOf s.heap j e "AttributeError" -> Q (.again (.builtin "dict.update.loop" ⟨[.ref d,.ref z,.int 0 0,.none],[]⟩)) { s with heap:=j,toks:=o }) :
  wpAny (model g w) A (Builtin.«dict.__init__» ⟨[.ref d,.ref z],[]⟩) Q E s:=by
 have first:wpAny (model g w) A (Builtin.Dict.selfAndRest "__init__" ⟨[.ref d,.ref z],[]⟩) (λp c=>p=(d,[Value.ref z])/\c=s) E s:=aB (iH t (aE ⟨rfl,rfl⟩))
 have a:wpAny (model g w) A (Builtin.Dict.updateFrom "dict.__init__" d (.ref z) [] .none) Q E s:=by
  refine aB (fA (T := "zip") ⟨_,l,rfl⟩ ?_);rw[aO (by decide)];refine aB (Xz l calm λj o e x=>?_);have b:IsZip j z TI TO .none:=x.keeps _ _ l;exact aB (jB (aB (wpAny_pyIter_zip b (aE (r j o e x)))))
 exact aB (cX first (λp c q=>by obtain⟨rfl,rfl⟩:=q;exact a) λ_ _ q=>q)
end
end PySem
namespace L2
open PySem PySem.Spec PyProof.Rows Lw
section
variable {X:Cx}
theorem R8:∀ (g:Aa eF){j:Aa V}{l:Aa Ac},lL j l->KV (g.zip j) (g.zip l)
 | [],_,_,_=>.nil
 | k::g,_,_,.nil=>.nil
 | k::g,_,_,.cons h r=>.cons ⟨rfl,h⟩ (R8 g r)
end
def yS:Aa D->Ab (Aa eF)
 | []=>some []
 | d::a=>match rD d,yS a with
  | some k,some b=>some (k::b)
  | _,_=>none
section
variable {X:Cx}{K:lK}
theorem BJ (h:yS g=some j) (l:Reps K A H g o):o=j.map kV:=by
 induction g generalizing j o with
 | nil=>cases l;cases h;rfl
 | cons d g c =>
  cases l with
  | cons r l =>
  have h:=(show (match rD d,yS g with | some k,some j=>some (k::j) | _,_=>none)=some j from h);cases a:rD d with
  | none=>rw[a] at h;cases h
  | some k =>
   cases b:yS g with
   | none=>rw[a,b] at h;cases h
   | some e =>
    rw[a,b] at h;cases h;rw[c b l,zZ a r.peek];rfl
theorem Tw:∀ (g:Aa eF){j:Aa D}{l:Aa V}{A:Ad->Prop}{H:Hp},Reps K A H j l->(g.zip j).map (·.1)=(g.zip l).map (·.1)/\Reps K A H ((g.zip j).map (·.2)) ((g.zip l).map (·.2))
 | [],_,_,_,_,_=>⟨rfl,.nil⟩
 | k::g,_,_,_,_,.nil=>⟨rfl,.nil⟩
 | k::g,_,_,_,_,.cons h r=>by
  obtain⟨a,b⟩:=Tw g r;exact⟨by simp[a],.cons h b⟩
end
def Bu (lo c:Int) (n:Nat):It:=⟨λi _=>i<n,λi H x a=>a=H/\x = .int (lo+i*c),λi _=>n<=i⟩
theorem Vf {P:Ah}{K:lK}(g:Ad) (lo c:Int) (n:Nat):Turn P w K j (Bu lo c n) [g] g (λi h=>IsRangeIter h g (lo+(i:Nat)*c) ((n:Int)-(i:Nat)) c) where
 mem:=by simp
 obj:=λi h st b d=>by
  have e:b=g:=by simpa using d
  subst e;exact⟨_,st,λv z=>by
   have S:Data.fields _=Data.cell v:=z;cases S⟩
 keep:=λi h m st k=>k g (by simp) _ st
 item:=by
  intro X D hw B F i a s M H E I q st G;subst D hw B;obtain⟨u,f1,f2,x,y,A⟩:=q g (by simp);have W:=Walks.range (prog:=X.prog) (w:=X.w) (I.ok.hd F) g lo c n;refine W.item i s _ _ G st λv m L Q f R=>?_
  obtain⟨t,rfl⟩:=Q;have N:Inv X a M H { s with heap:=m,toks:=L }:=I.turned (λb o d e=>R b o (by simpa using d) e) u f1 x y A;exact⟨_,rfl,A4 (s:={ s with heap:=m,toks:=L }) (n := "range_iterator") f rfl rfl (by decide) ⟨.int (lo+i*c),H,N,⟨t,rfl⟩,⟨rfl,rfl⟩,f,λb d=>(q b d).1⟩⟩
 done:=by
  intro X D hw B F i a s M H E I q st G;subst D hw B;obtain⟨u,f1,f2,x,y,A⟩:=q g (by simp);exact wpAny_pyNext_range_end (I.ok.hd F) st (by have:n<=i:=G;omega) λm O=>⟨rfl,I.turned (t':=s.toks) (λb o d e=>O b o d e) u f1 x y A⟩
 self:=λ_ _ _ _ _ st h=>jK st h
section
variable {X:Cx}{K:lK}
noncomputable def tM (lo c:Int) (n:Nat):Aa D:=(List.range n).map λ(i:Nat)=>D.int (lo+i*c)
theorem Yw {lo c:Int}{n:Nat}:YD K (Bu lo c n) (tM lo c n) [] where
 vals:=rfl
 go:=λi H A a _=>by simpa [Bu,tM] using a
 yld:=λi H A x d a _ y=>by
  have b:i<n:=by simpa [tM] using a
  refine⟨.int (lo+i*c),by simp[tM,b],.inl ⟨y.1,?_⟩⟩;rw[y.2];exact .int _
 stop:=λi H A a _=>by simp[Bu,tM,a]
end
def Iy (K:lK) (a:Ad):It :=
 ⟨λi H=>∃ b x,hI K H a b/\b[i]?=some x,λi H v c=>∃ p x,H p=none/\v = .ref p/\c=upd H p (.t [.int i,x])/\∀ b,hI K H a b->b[i]?=some x,λi H=>∃ b,hI K H a b/\b.length<=i⟩
def BI (a e g:Ad) (i:Nat) (h:Ag):Prop:=(∃ old,IsEnum h e g i old)/\h.IsListIter g a i
theorem IP {P:Ah}{K:lK}(g:e≠it) :
  Turn P w K (.Tuple j x1 pos) (Iy K a) [e,it] e (BI a e it) where
 mem:=by simp
 obj:=λi h st c m=>by
  obtain⟨⟨old,d⟩,⟨o4,f,c4,p⟩⟩:=st;simp only[aI,aY,fJ] at m;rcases m with e | e<;>subst e
  .exact⟨_,d,λv z=>nomatch z⟩
  .exact⟨_,f,λv z=>by rw[p] at z;cases z⟩
 keep:=λi h R st k=>by
  obtain⟨⟨old,d⟩,f⟩:=st;exact⟨⟨old,k e (by simp) _ d⟩,f.at λo q=>k it (by simp) o q⟩
 item:=by
  intro X B hw A m i n s σ H E I t st D;subst B hw A;obtain⟨⟨old,d⟩,f⟩:=st;obtain⟨xs,x,u,W⟩:=D;obtain⟨G,N,L,_⟩:=I.list u;obtain⟨Q,F,M⟩:=N.get W;refine wpAny_pyNext_enum_item d f L.isList (x:=Q) (by simpa using F) g λR T U Y n4 n5=>?_
  refine⟨_,rfl,wpAny_letOwnedTupleGo_enum T λS J y=>?_⟩;have C:∀ c o,c∉[e,it]->s.heap.get? c=some o->S.get? c=some o:=λc o b q=>by
   simp only[aI,aY,fJ,lJ] at b;exact y.extBut c o b.1 (n5 c o b.1 b.2 q)
  have Z:s.heap.objs.size≠e:=λq=>dY _ (by have:=aU d;rw[<- q] at this;exact this)
  have nt:vH S s.heap.objs.size [.int i s.toks,Q].toArray:=⟨⟨_,y.extBut _ _ Z Y,rfl,_,rfl⟩,_,y.extBut _ _ Z Y,rfl⟩;have l:=I.movedT (t':=s.toks+1) (ys:=[.int i,x]) t C nt (.cons ⟨_,rfl⟩ (.cons M .nil)) (by show 2<=sizeLine;decide);refine⟨.ref s.heap.objs.size,_,l,rfl,⟨_,x,I.fresh,rfl,rfl,λaa q'=>by rw[I.list_inj q' u];exact W⟩,⟨⟨Q,?_⟩,?_⟩,λc b=>?_⟩
  .have:((i+1:Nat):Int)=(i:Int)+1:=by omega
   rw[this];exact J
  .exact U.at λo q=>y.extBut _ o (eJ g) q
  .rw[lT]
   .exact (t c b).1
   .intro q;obtain⟨o,r⟩:∃ o,s.heap.get? c=some o:=by
     obtain⟨o4,O,_⟩:=f;simp only[aI,aY,fJ] at b;rcases b with q | q<;>rw[q]
     .exact⟨_,d⟩
     .exact⟨_,O⟩
    have:=aU r;rw[q] at this;exact dY _ this
 done:=by
  intro X B hw A m i n s σ H E I t st D;subst B hw A;obtain⟨⟨old,d⟩,f⟩:=st;obtain⟨xs,u,V⟩:=D;obtain⟨G,N,L,_⟩:=I.list u;have lx:=N.length;refine wpAny_pyNext_enum_end (I.ok.hd m) d f L.isList (by simp;omega) λR k=>⟨rfl,I.moved (t':=s.toks) t λc o b q=>?_⟩
  simp only[aI,aY,fJ,lJ] at b;exact k c o b.2 q
 self:=λ_ _ _ _ _ st h=>by
  obtain⟨⟨old,d⟩,f⟩:=st;exact wpAny_pyIter_enum d h
section
variable {X:Cx}{K:lK}
def FO (K:lK) (g:TA):TI:=λe H R=>g e H λc b=>∃ a,c=[.ref a]/\(∃ d,hI K b a d)/\R (Iy K a) b
theorem Yj (l:Gl X "enumerate") (o:X.mg "enumerate" = none) (j:PA X [e] C) (r:starEach [e] X.env=[(false,eval e X.env)]:=by rfl) :
  PI X (.Tuple g T J) (.Call (.Name "enumerate" p) [e] [] pos) (FO X.K C):=by
 intro b s t H R I h;refine Call_ (uT I l o boot_enumerate (cF (lA (j pos b s t H _ I h) λM f i=>?_) r rfl));obtain⟨N,k,d,E,B⟩:=i;obtain⟨a,rfl,⟨O,D⟩,q⟩:=B;obtain⟨u,rfl,F⟩:=oS E;cases F;obtain⟨x,L,A,_⟩:=d.list D;refine call_enumerate_list A.isList λw n y G z=>?_
 have v:Inv X b t k { f with heap:=w }:=d.kept (t':=f.toks) z;refine wpAny_pyIter_enum n ⟨_,[_,_],_,_,k,rfl,v,IP (a:=a) (e:=f.heap.objs.size+1) (it:=f.heap.objs.size) (Nat.succ_ne_self _),⟨⟨_,n⟩,y⟩,λc m=>?_,q⟩;simp only[aI,aY,fJ] at m;rcases m with e | e<;>(subst e;exact d.fpOk (by omega) (d.hok.fresh (by omega)))
def yN (g:Aa D):Aa D:=(List.range g.length).zipWith (λi d=>D.t [.int (i:Nat),d]) g
theorem Ul {g:Aa D}{i:Nat}{d:D}(h:g[i]?=some d):(yN g)[i]?=some (.t [.int i,d]):=by
 obtain⟨a,rfl⟩:=aV.mp h;unfold yN;simp[a]
theorem Dm:(yN g).length=g.length:=by simp[yN]
theorem EU:YD K (Iy K a) (yN g) [(.v (.l g),some (.ref a))]:=by
 have key:∀ A H,wP K A H [(.v (.l g),some (.ref a))]->∃ b,hI K H a b/\Reps K A H g b:=λA H ok=>by
  obtain⟨v,e,r⟩:=ok _ aF;cases e;obtain⟨q,b,e,_,c,f⟩:=r.lst_inv;cases e;exact⟨b,hI.of c,f⟩
 refine⟨rfl,λi H A h ok=>?_,λi H A x n h ok y=>?_,λi H A h ok=>?_⟩
 .obtain⟨b,c,f⟩:=key A H ok;rw[Dm] at h;exact⟨b,b[i]'(by rw[<- f.length];exact h),c,aD _⟩
 .obtain⟨b,c,f⟩:=key A H ok;obtain⟨p,z,k,rfl,rfl,m⟩:=y;obtain⟨d,hd,rd⟩:=f.getV (m b c);exact⟨_,Ul hd,.inr ⟨p,_,_,k,rfl,rfl,rfl,.cons (.int _) (.cons rd .nil)⟩⟩
 .obtain⟨b,c,f⟩:=key A H ok;rw[Dm] at h;exact⟨b,c,by rw[<- f.length];omega⟩
def Ye (g:mE):tQ:=λb e d=>g b e λr a=>match sd r with
 | some (.l c)=>d (yN c) a
 | _=>False
theorem Wf (o:Gl X "enumerate") (C:X.mg "enumerate" = none) (j:PD X e U) (J:starEach [e] X.env=[(false,eval e X.env)]:=by rfl) (I:vN e=true:=by rfl) :
  vL X (.Tuple g x1 ps) (.Call (.Name "enumerate" p) [e] [] pos) (Ye U) :=
 (Yj o C (mX j nJ I) J).mono λA H R f=>f.elim λB w T z n hd q k=>⟨B,w,T,_,n,hd,q,λr h v i s d1 b=>by
  cases c:sd r with
  | none=>rw[c] at b;exact b.elim
  | some d =>
   rw[c] at b;have d2:=d1.thaw c;have t:=d2.valAt;cases d with
   | l y=>obtain⟨a,u,rfl,_,m,x⟩:=t.lst_inv;exact⟨a,rfl,⟨u,hI.of m⟩,k _ _ h [_] i s d2 EU b⟩
   | _=>exact b.elim⟩
end
end L2
namespace Lw
open PySem L2
abbrev mO:=Aa (Af×Int)
abbrev zL:=Aa (Af×Af×Aa Af)
noncomputable def hG (t:mO):Aa (eF×D):=t.map λp=>(Sum.inr p.1,D.int p.2)
noncomputable def lS (t:mO) (x:Af):Int:=match t.find? (λp=>decide (p.1=x)) with
 | some p=>p.2
 | none=>0
theorem xW:lS (p::t) x=if p.1=x then p.2 else lS t x:=by
 unfold lS;rw[cZ];by_cases h:p.1=x<;>simp[h]
theorem zA:∀ (t:mO) (x:Af),(x∈t.map (·.1)->mG (hG t) (Sum.inr x)=some (.int (lS t x)))/\(x∉t.map (·.1)->mG (hG t) (Sum.inr x)=none/\lS t x=0)
 | [],x=>⟨λh=>by simp at h,λ_=>⟨rfl,rfl⟩⟩
 | p::t,x=>by
  have a:=zA t x;have e:hG (p::t)=(Sum.inr p.1,D.int p.2)::hG t:=rfl;rw[e,uS,xW];by_cases h:p.1=x
  .subst h;exact⟨λ_=>by rw[aO rfl,aO rfl],λn=>absurd (by simp) n⟩
  .have b:(Sum.inr p.1:eF)≠Sum.inr x:=λq=>h (gQ q)
   rw[aJ b,aJ h];refine⟨λm=>a.1 ?_,λm=>a.2 λq=>m (by simp only[aM,aI];exact .inr q)⟩;simp only[aM,aI] at m;exact m.resolve_left λq=>h q.symm
theorem Jx (t:mO) (x:Af):(mG (hG t) (Sum.inr x)).getD (.int 0) = .int (lS t x):=by
 by_cases h:x∈t.map (·.1)
 .rw[(zA t x).1 h];rfl
 .rw[((zA t x).2 h).1,((zA t x).2 h).2];rfl
theorem V2 (h:x∉t.map (·.1)):mP (hG t) (Sum.inr x) (.int n)=hG (t++[(x,n)]):=by
 unfold mP;rw[Gc,((zA t x).2 h).1];simp[hG]
theorem Ua:∀ (u t:mO),((t++u).map (·.1)).Nodup->oX (hG t) (hG u)=hG (t++u)
 | [],t,_=>by simp[oX,hG]
 | p::u,t,h=>by
  have a:p.1∉t.map (·.1):=λq=>by
   rw[aZ] at h;exact (bK.mp h).2.2 p.1 q p.1 (by simp) rfl
  have e:oX (hG t) (hG (p::u))=oX (mP (hG t) (Sum.inr p.1) (.int p.2)) (hG u):=rfl;rw[e,V2 a,Ua u (t++[p]) (by simpa using h)];simp
theorem Aj (h:(t.map (·.1)).Nodup):oX [] (hG t)=hG t:=by
 have:=Ua t [] (by simpa using h)
 simpa [hG] using this
end Lw
namespace L2
open PySem PySem.Spec PyProof.Rows Lw
section
variable {X:Cx}{K:lK}
theorem AI:nF X (.type "int") (λg H Q=>∃ (x:Af) (n:Int),g=[.str x]/\intText? x=some n/\x.length<=640/\Q (.int n) H):=by
 intro a s k H g i Q I r h;obtain⟨x,n,rfl,c,d,q⟩:=h;obtain⟨u,rfl,f⟩:=oS r;obtain⟨t,rfl⟩:=f;exact PySem.W.KIN.call_text c d ⟨.int n,H,I.kept (t':=s.toks+1) λb o e=>e,⟨_,rfl⟩,q⟩
def Nc:OC:=λa b=>match a with
 | [.str x]=>∃ n,intText? x=some n/\x.length<=640/\b (.v (.int n))
 | a=>Ip a b
def Jw:Aa V->Hp->VK->Prop:=λa H Q=>((∃ i,a=[.int i]/\Q (.int i) H)\/∃ k,a=[.b k]/\Q (.int (if k then 1 else 0)) H)\/∃ (x:Af) (n:Int),a=[.str x]/\intText? x=some n/\x.length<=640/\Q (.int n) H
theorem Gm:nF X (.type "int") Jw:=GY.or AI
theorem Et:pW K Jw Nc:=by
 intro B L H b e f Q hd c a k;have two:Ip b f->Jw e H Q:=λa=>.inl (MN B L H b e f Q hd c a k)
 cases b with
 | nil=>exact two a
 | cons d b =>
 cases d<;>first | exact two a | skip
 cases b with
 | cons _ _=>exact two a
 | nil =>
 obtain⟨x,rfl,m⟩:=pV c;have:=m.str_inv;subst this;obtain⟨n,h,i,a⟩:=a;exact .inr ⟨_,n,rfl,h,i,k _ _ H a (hd.pushF (.int _))⟩
end
section
theorem wW (J:Aa α) (U T:α->D) (p:α->Bool) (C:Aa Sl) (ac:∀ Ψ:Aa D->Aa Sl->Prop,Ψ (J.map U) C->ι dk ρ Ψ) (hl:J.length<=100000)
  (hs:∀ (i:Nat) x (I:Aa D) (Nx:Aa D->Aa Sl->Prop),J[i]?=some x->I.length<100000->(p x=true->Nx (I++[T x]) (nS j C))->(p x=false->Nx I (nS j C))->g (U x) (List.replicate n Sl.n++nS j C) λae=>tt dk ae λb aa=>if b=true then te dk aa λr af=>match sd r with
   | some c=>I.length<100000/\Nx (I++[c]) (af.drop n)
   | none=>False
   else Nx I (aa.drop n))
  (ab:Φ (.o (.l ((J.filter p).map T))) (oU j (nS j C) C)):wX n j ι g tt te dk ρ Φ:=by
 refine ac _ ⟨λi I a=>I=((J.take i).filter p).map T/\a=nS j C,⟨by simp,rfl⟩,?_,?_⟩
 .rintro i d I a hd _ ⟨f,h⟩;rw[bD] at hd;cases e:J[i]? with
  | none=>rw[e] at hd;cases hd
  | some x =>
   rw[e] at hd;cases hd;obtain⟨s,_⟩:=aV.mp e;have k:(J.take (i+1)).filter p=(J.take i).filter p++(if p x=true then [x] else []):=by
    rw[cA,e,List.filter_append];by_cases q:p x=true<;>simp[q]
   have len:I.length<100000:=by
    rw[f,aA];have m:=dH p (J.take i);rw[bN] at m;omega
   rw[h];refine hs i x I (λI a=>I=((J.take (i+1)).filter p).map T/\a=nS j C) e len (λq=>⟨?_,rfl⟩) λq=>⟨?_,rfl⟩
   .rw[k,aO q,f,aZ];rfl
   .rw[k,aJ (by rw[q];decide),gL];exact f
 .rintro I a _ ⟨f,h⟩;rw[f,h,aA,eG];exact ab
theorem pH (J:Aa α) (C I:α->D) (p:Aa Sl) (ab:∀ Ψ:Aa D->Aa Sl->Prop,Ψ (J.map C) p->ι dk ρ Ψ) (hl:J.length<=100000)
  (hs:∀ (i:Nat) x (T:Aa D) (U:Aa D->Aa Sl->Prop),J[i]?=some x->T.length<100000->U (T++[I x]) (nS j p)->g (C x) (List.replicate n Sl.n++nS j p) λac=>te dk ac λr ae=>match sd r with
   | some c=>T.length<100000/\U (T++[c]) (ae.drop n)
   | none=>False)
  (aa:Φ (.o (.l (J.map I))) (oU j (nS j p) p)):wX n j ι g Ka te dk ρ Φ:=by
 refine wW J C I (λ_=>true) p ab hl (λi x T U e a b _=>hs i x T U e a (b rfl)) ?_;have:J.filter (λ_=>true)=J:=List.filter_eq_self.mpr λ_ _=>rfl
 rw[this];exact aa
end
end L2
namespace Lw
open PySem L2
abbrev Av:=Aa (Af×Af)
noncomputable def mJ (t:Av):Aa (eF×D):=t.map λp=>(Sum.inr p.1,D.str p.2)
noncomputable def mI (t:Av) (x:Af):Af:=match t.find? (λp=>decide (p.1=x)) with
 | some p=>p.2
 | none => ""
theorem Do:mI (p::t) x=if p.1=x then p.2 else mI t x:=by
 unfold mI;rw[cZ];by_cases h:p.1=x<;>simp[h]
theorem Jm:∀ (t:Av) (x:Af),(x∈t.map (·.1)->mG (mJ t) (Sum.inr x)=some (.str (mI t x)))/\(x∉t.map (·.1)->mG (mJ t) (Sum.inr x)=none)
 | [],x=>⟨λh=>by simp at h,λ_=>rfl⟩
 | p::t,x=>by
  have a:=Jm t x;have e:mJ (p::t)=(Sum.inr p.1,D.str p.2)::mJ t:=rfl;rw[e,uS,Do];by_cases h:p.1=x
  .subst h;exact⟨λ_=>by rw[aO rfl,aO rfl],λn=>absurd (by simp) n⟩
  .have b:(Sum.inr p.1:eF)≠Sum.inr x:=λq=>h (gQ q)
   rw[aJ b,aJ h];refine⟨λm=>a.1 ?_,λm=>a.2 λq=>m (by simp only[aM,aI];exact .inr q)⟩;simp only[aM,aI] at m;exact m.resolve_left λq=>h q.symm
theorem FS (h:x∉t.map (·.1)):mP (mJ t) (Sum.inr x) (.str n)=mJ (t++[(x,n)]):=by
 unfold mP;rw[Gc,(Jm t x).2 h];simp[mJ]
theorem Qv:∀ (u t:Av),((t++u).map (·.1)).Nodup->oX (mJ t) (mJ u)=mJ (t++u)
 | [],t,_=>by simp[oX,mJ]
 | p::u,t,h=>by
  have a:p.1∉t.map (·.1):=λq=>by
   rw[aZ] at h;exact (bK.mp h).2.2 p.1 q p.1 (by simp) rfl
  have e:oX (mJ t) (mJ (p::u))=oX (mP (mJ t) (Sum.inr p.1) (.str p.2)) (mJ u):=rfl;rw[e,FS a,Qv u (t++[p]) (by simpa using h)];simp
theorem Zf (h:(t.map (·.1)).Nodup):oX [] (mJ t)=mJ t:=by
 have:=Qv t [] (by simpa using h)
 simpa [mJ] using this
theorem Tr:∀ (own g:Aa Af),(own.map λo=>(Sum.inr o:eF)).zip (g.map D.str)=mJ (own.zip g)
 | [],_=>rfl
 | _::_,[]=>rfl
 | o::own,x::g=>by simp only[aM,cP,Tr own g];rfl
theorem Js:∀ (own g:Aa Af),own.length=g.length->(own.zip g).map (·.1)=own
 | [],_,_=>rfl
 | _::_,[],h=>by simp at h
 | o::own,x::g,h=>by simp only[cP,aM,Js own g (by simpa using h)]
theorem Ek:∀ {own g:Aa Af}{o:Af},own.length=g.length->o∈own->mI (own.zip g) o∈g
 | [],_,_,_,h=>by cases h
 | _::_,[],_,h,_=>by simp at h
 | a::own,x::g,o,h,m=>by
  rw[cP,Do];split
  .exact aF
  .rename_i e
   exact aL _ (Ek (by simpa using h) ((aI.mp m).resolve_left λq=>e q.symm))
theorem Ue:∀ {own j:Aa Af}{o g:Af},own.length=j.length->j.Nodup->o∈own->g∈own->mI (own.zip j) o=mI (own.zip j) g->o=g
 | [],_,_,_,_,_,h,_,_=>by cases h
 | _::_,[],_,_,h,_,_,_,_=>by simp at h
 | a::own,x::j,o,g,h,k,m,d,e=>by
  rw[cP,Do,Do] at e;obtain⟨f,i⟩:=bX.mp k;have c:own.length=j.length:=by simpa using h
  by_cases q:a=o
  .by_cases b:a=g
   .rw[<- q,<- b]
   .rw[aO q,aJ b] at e;have:=Ek c ((aI.mp d).resolve_left λz=>b z.symm);dsimp only at e;rw[<- e] at this;exact absurd this f
  .by_cases b:a=g
   .rw[aJ q,aO b] at e;have:=Ek c ((aI.mp m).resolve_left λz=>q z.symm);dsimp only at e;rw[e] at this;exact absurd this f
   .rw[aJ q,aJ b] at e;exact Ue c i ((aI.mp m).resolve_left λz=>q z.symm) ((aI.mp d).resolve_left λz=>b z.symm) e
theorem wZ:∀ {l:Aa g},l.Nodup->(∀ x∈l,∀ y∈l,f x=f y->x=y)->(l.map f).Nodup
 | [],_,_=>.nil
 | a::l,k,h=>by
  obtain⟨d,i⟩:=bX.mp k;refine bX.mpr ⟨λm=>?_,wZ i λx c y b=>h x (aL _ c) y (aL _ b)⟩;obtain⟨y,b,e⟩:=aH.mp m;have:=h a aF y (aL _ b) e.symm;subst this;exact d b
def nE (i:Nat):Stmt:=PySem.Challenge.pw_laidcells_k17_rows_broken_late.main.body.getD i (.Pass ⟨0,0,0,0⟩)
abbrev Dz:Stmt:=nE 4
abbrev Dq:Stmt:=nE 6
abbrev Dv:Stmt:=nE 7
abbrev Dw:Stmt:=nE 8
abbrev xL:Stmt:=nE 9
abbrev Cz:Stmt:=nE 10
abbrev yU:Stmt:=nE 12
abbrev yP:Stmt:=nE 13
abbrev Fn:Stmt:=nE 14
abbrev C0:Stmt:=nE 15
abbrev Ga:Stmt:=nE 16
abbrev Gp:Stmt:=nE 17
abbrev Cv:Stmt:=nE 18
abbrev Ge:Stmt:=nE 19
abbrev Fe:Stmt:=nE 21
abbrev Ci:Stmt:=nE 22
abbrev El:Stmt:=nE 23
abbrev Bp:Stmt:=nE 24
abbrev Ez:Stmt:=nE 25
abbrev Bi:Stmt:=nE 26
abbrev Gi:Stmt:=nE 27
abbrev Ej:Stmt:=nE 28
abbrev E6:Stmt:=nE 29
abbrev Gj:Stmt:=nE 31
abbrev Rt:Stmt:=nE 32
abbrev At:Stmt:=nE 32
abbrev A6:Stmt:=nE 33
abbrev Cy:Stmt:=nE 34
abbrev Fb:Stmt:=nE 35
abbrev Dp:Stmt:=nE 36
abbrev Eh:Stmt:=nE 37
abbrev Ew:Stmt:=nE 38
abbrev Fq:Stmt:=nE 39
abbrev Go:Stmt:=nE 40
abbrev C2:Stmt:=nE 41
abbrev E5:Stmt:=nE 42
abbrev Oe:Stmt:=nE 43
abbrev Cn:Stmt:=nE 43
structure Txt (mg:Str->Option Value):Prop where
 len:mg "len" = none
 range:mg "range" = none
 sum:mg "sum" = none
 min:mg "min" = none
 max:mg "max" = none
 tuple:mg "tuple" = none
 list:mg "list" = none
 set:mg "set" = none
 dict:mg "dict" = none
 int:mg "int" = none
 str:mg "str" = none
 zip:mg "zip" = none
 enumerate:mg "enumerate" = none
 all:mg "all" = none
 any:mg "any" = none
 isinstance:mg "isinstance" = none
 sorted:mg "sorted" = none
 abs:mg "abs" = none
 reversed:mg "reversed" = none
 bool:mg "bool" = none
structure Gd (K:lK) (mg:Str->Option Value) (x:Str) (st:Stmt) (ps:List Str) (f:Addr) (fd:FuncData):Prop where
 F:Fun K x x st f fd
 m:mg x=some (.ref f)
 k:PySem.W.keepIn K (.ref f)=true
 b:wJ K fd ps []
def Kn (P:Ah) (w:World) (K:lK) (g:Af->Ab Ac) (base:Ag) (k:Nat) (x:Af) (st:Stmt) (j:Aa Af) (R:RD):Prop:=∃ f fd,Gd K g x st j f fd/\FnOk P w K g base oD k f fd j (xF K R)
theorem mF {X:Cx}{st:Stmt}{R:RD}(G:Kn X.prog X.w X.K X.mg X.base k x st T R) (I:Room m X.A) (o:rF X (e::l) J) (C:k<=m:=by decide) (r:Gl X x:=by rfl) (g:(x == ("__debug__" : Af))=false:=by decide)
  (j:StB X e l pos:=by exact {}):PD X (.Call (.Name x p) (e::l) [] pos) (zD R J):=G.elim λ_ h=>h.elim λ_ h=>BZ h.2 (I.mono C) r h.1.m h.1.k h.1.b o g j
def nY (P:Ah) (w:World) (K:lK) (g:Af->Ab Ac) (base:Ag) (k:Nat) (x:Af) (st:Stmt) (j:Aa Af) (R:RD):Prop:=∀ f fd,Fun K x x st f fd->FnOk P w K g base oD k f fd j (xF K R)
theorem oE {P:Ah}{K:lK}{st:Stmt}{R:RD}(S:FnScope N I (mA st))
  (j:∀ (f:Ad) (g:Ac) (A:Around) (l:Aa Env) (s:Ae) (H:Hp) (E:XK) (r:Aa Ad) (o:Aa D) (p:Sl->Prop),Room k (A.deeper (PyProof.Rows.envOfC x (mA st) s.heap.objs.size f g))->(A.deeper (PyProof.Rows.envOfC x (mA st) s.heap.objs.size f g)).units+1<cLine->R r o p ->∃ t,uI (xH oD P w K J base N x (mA st) f g A l s H E).nox (qS st) t/\t r { nx:=λ_=>p (.v .e),rt:=p } (zC N o)) (C:I.length<=N.length:=by decide) (hlen:∀ r o p,R r o p->o.length=I.length:=by rintro _ _ _ h;repeat' (rcases h with⟨i,h⟩;try (subst i;rfl))):nY P w K J base (k+1) x st I R:=λ_ _ F=>F.okD S hlen C λ_ _ _ _ _ _ _ _ _ a=>j _ _ _ _ _ _ _ _ _ _ a (Gv a)
def Df:Sp:=λb H Q _=>∃ (d c:Ad) (m:Int),b=[.ref d,.int m]/\DeckAt H d c/\0<m/\m<4611686018427387904/\∀ (r:Int) (a:Hp),0<=r->r<m->DeckAt a d c->nA d c H a->Q (.int r) a
section
variable {P:Ah}{K:lK}
theorem J7:FnScope ["deck","many","at","cell"] ["deck","many"] (mA At):=⟨rfl,rfl,rfl,by decide +kernel,rfl,by decide +kernel,by decide +kernel⟩
theorem Jl (F:Fun K "_law_take" "_law_take" At f fd) (T:Txt g):FnOk P w K g base oD 1 f fd ["deck","many"] Df:=by
 refine F.ok J7 (λR H Q E h=>?_) (λG A x s H R Q E X h=>?_)
 .obtain⟨d,c,m,rfl,_⟩:=h;rfl
 .obtain⟨d,c,m,rfl,D,n,W,k⟩:=h;obtain⟨a,p,t,y,L,M⟩:=id D.ex;have q:=D.ne;refine⟨_,pE (pR (i:=2) J7.nd rfl (Or.inl rfl) (mU sG (rK sT (pv 0) nH (λ_ _=>rfl)) (wG Ba (by rfl) T.len cU (vP (rK sT (pv 0) nH (λ_ _=>rfl)) nJ)))) (pE (Ck (mU vG (rK sT (pv 0) nH (λ_ _=>rfl)) nH) (Fv (pv 0) nH F2)) (pE (pR (i:=3) J7.nd rfl (Or.inl rfl) (rK sT (rK sT (pv 0) nH (λ_ _=>rfl)) (pv 2) (λ_ _=>rfl))) (pE (Ck (mU DJ (pv 3) (pv 1)) (Fv (rK sT (pv 0) nH (λ_ _=>rfl)) (pv 2) F2)) (rZ (yZ (mU sG (pv 3) (pv 1))))))),?_⟩;refine⟨_,rfl,d,_,_,_,rfl,rfl,hI.of t,rfl,_,rfl,d,_,_,_,rfl,rfl,hI.of t,rfl,c,_,rfl,.inl (hI.of y),_,_,rfl,rfl,?_,?_⟩
  .rw[aA];omega
  .rw[aA];have B:=fV p (show (a.length:Int)≠0 by omega);have S:=eR p (show (0:Int)<a.length by omega);obtain⟨j,z⟩:=eV B;have v:j<a.length:=by omega
   have u:(a.map V.int)[j]?=some (V.int a[j]):=by simp[v]
   refine⟨_,rfl,d,_,_,_,rfl,rfl,hI.of t,rfl,_,_,rfl,rfl,_,rfl,d,_,_,1,rfl,rfl,t,rfl,?_⟩;have g1:upd H d (.l ([V.ref c,V.int p].set 1 (V.int (p+1)))) d=some (.l [.ref c,.int (p+1)]):=mM;have g2:upd H d (.l ([V.ref c,V.int p].set 1 (V.int (p+1)))) c=some (.l (a.map V.int)):=by rw[lT q.symm];exact y
   refine⟨_,rfl,d,_,_,_,rfl,rfl,hI.of g1,rfl,_,rfl,c,_,_,V.int a[j],rfl,rfl,hI.of g2,(by rw[z];exact sC u),?_⟩
   .refine⟨_,rfl,_,rfl,_,_,rfl,rfl,⟨n,by omega⟩,_,rfl,d,_,_,_,rfl,rfl,hI.of g1,rfl,_,rfl,c,_,_,j,rfl,rfl,g2,?_,?_⟩
    .rw[z,aA];unfold rQ;rw[aO (by omega),aO (by omega)];simp
    .refine⟨_,rfl,_,rfl,_,_,rfl,rfl,n,?_⟩;refine k _ _ (fV _ (by omega)) (eR _ n) ⟨a.set j (a[j]/m),p+1,?_,?_,by rw[bL];exact L,by rw[bL];exact M⟩ ?_
     .rw[lT q];exact g1
     .rw[mM,List.map_set]
     .intro b o e N O;rw[lT O,lT N];exact e
end
theorem oW.new (h:H p=none):oW H (upd H p o):=λb u e=>by rw[lT (mT e h)];exact e
theorem X7 (g:Aa Int) (lo j:Ab Int):∃ l:Aa Int,tY (g.map V.int) lo j=l.map V.int/\l.length<=g.length:=by
 refine⟨(g.drop (HT.sIx g.length 0 lo)).take (HT.sIx g.length g.length j-HT.sIx g.length 0 lo),?_,?_⟩
 .unfold tY;rw[List.length_map,List.map_take,List.map_drop]
 .rw[bN,eT];omega
def M3 (K:lK):Sp:=λf H Q _=>∃ (a:Ad) (e:Aa Int),f=[.ref a]/\hI K H a (e.map V.int)/\e.length<=63/\∀ (d c:Ad) (b:Hp),DeckAt b d c->H d=none->H c=none->oW H b->Q (.ref d) b
section
variable {P:Ah}{K:lK}
theorem Bf:FnScope ["script","cells","k","mixed"] ["script"] (mA Gj):=⟨rfl,rfl,rfl,by decide +kernel,rfl,by decide +kernel,by decide +kernel⟩
theorem Ws (F:Fun K "_law_deck" "_law_deck" Gj f fd) (T:Txt mg):FnOk P w K mg base oD 1 f fd ["script"] (M3 K):=by
 refine F.ok Bf (λvs H Q E h=>?_) (λab A j s H vs Q E hr h=>?_)
 .obtain⟨a,t,rfl,_⟩:=h;rfl
 .obtain⟨a,t,rfl,W,aa,k⟩:=h;refine⟨_,pE (pR (i:=1) Bf.nd rfl (Or.inl rfl) (mU Ay (zV G9 (pv 0) Ch (B5 nH)) (sS (vP (wG Ba (by rfl) T.len cU (vP (pv 0) nJ)) nJ)))) (pE (A7 (xE C3 (mU sG (wG (F7 rfl) (by rfl) T.sum iI (vP (zV G9 (pv 0) Ch (B5 nH)) nJ)) nH) nH (vR _)) (rZ (En iF rfl (A9 rfl T.range (vP (wG Ba (by rfl) T.len cU (vP (pv 1) nJ)) nJ)) (xM (i:=2) Bf.nd rfl (Or.inl rfl)) (pE (pR (i:=3) Bf.nd rfl (Or.inl rfl) (mU sG (mU vQ (mU vG (mU vG (mU sG (rK sT (pv 1) (pv 2) (λ_ _=>rfl)) nH) (mU vQ nH (pv 2))) nH) nH) nH)) (pE (pR (i:=3) Bf.nd rfl (Or.inl rfl) (mU sG (mU vQ (mU sG (mU vG (mU vQ (pv 3) (pv 3)) (mU vQ nH (pv 2))) nH) nH) nH)) (rZ (Ck (mU vG (mU vQ (mU vQ (pv 3) (pv 3)) nH) (mU sG (mU vQ (pv 3) nH) nH)) (Fv (pv 1) (pv 2) F2))))))) A3) (rZ (yZ (sS (vP (pv 1) (vP nH nJ)))))),?_⟩;obtain⟨q,em,ac⟩:=X7 t none (some 63);refine⟨_,rfl,_,rfl,a,_,rfl,W,λG n1=>?_⟩;have r:oW H (upd H G (.l (tY (t.map V.int) none (some 63)))):=oW.new n1;rw[em] at r |-;refine⟨_,rfl,a,_,rfl,.inl (r.seq W),(by show 1<=sizeLine;decide),λp n2=>?_⟩;have s2:=r.trans (oW.new (o:=.l [V.int ((t.map V.int).length:Nat)]) n2);have q1:upd (upd H G (.l (q.map V.int))) p (.l [V.int ((t.map V.int).length:Nat)]) G=some (.l (q.map V.int)):=by rw[lT (mT mM n2)];exact mM
  refine⟨G,p,_,_,rfl,rfl,q1,mM,?_,λc nc=>?_⟩
  .rw[aA];exact bP (show q.length+1<=64 by omega) (by decide)
  have L:=s2.trans (oW.new (o:=.l (q.map V.int++[V.int ((t.map V.int).length:Nat)])) nc);have ec:q.map V.int++[V.int ((t.map V.int).length:Nat)]=(q++[((t.map V.int).length:Int)]).map V.int:=by simp
  rw[ec] at L |-;generalize Y:q++[((t.map V.int).length:Int)]=u at L;have D:0<u.length/\u.length<=64:=by rw[<- Y,aW,eM];omega
  have B:H c=none:=s2.free nc;generalize S:upd (upd (upd H G (.l (q.map V.int))) p (.l [V.int ((t.map V.int).length:Nat)])) c (.l (u.map V.int))=J at L;have U:J c=some (.l (u.map V.int)):=by rw[<- S];exact mM
  have fin:∀ (m:Aa Int) (v x:Ab V) (O:Hp),oW H O->O c=some (.l (m.map V.int))->0<m.length->m.length<=64 ->
    (Ot (Rs (Gq (pJ 1) (Gq (tC (.int 0)) Ic)))) { nx:=λ_ H'=>Q .e H',rt:=Q } [some (.ref a),some (.ref c),v,x] O:=by
   intro m v x O N y l1 l2;refine⟨_,rfl,(by show 2<=sizeLine;decide),λd g=>?_⟩;refine k d c _ ⟨m,0,mM,by rw[lT (mT y g)];exact y,l1,by omega⟩ (N.free g) B (N.trans (oW.new g))
  refine⟨_,rfl,_,rfl,a,_,rfl,L.seq W,λp4 n4=>?_⟩;rw[em];have N:=L.trans (oW.new (o:=.l (q.map V.int)) n4);have y:upd J p4 (.l (q.map V.int)) c=some (.l (u.map V.int)):=by rw[lT (mT U n4)];exact U
  refine⟨p4,q,rfl,hI.of mM,_,_,rfl,rfl,(by show (0:Int)<2;decide),rfl,_,rfl,?_⟩;refine Bo (λ_=>?_) (λ_=>?_)
  .refine⟨_,rfl,c,_,rfl,.inl (hI.of y),_,rfl,by omega,by rw[aA];omega,?_⟩;rw[aA,cR];refine Tz (lo:=0) (n:=u.length) (λi I z=>∃ (m:Aa Int) (v x:Ab V),I=[some (.ref a),some (.ref c),v,x]/\oW H z/\z c=some (.l (m.map V.int))/\m.length=u.length)
    ⟨u,none,none,rfl,N,y,rfl⟩ ?_ ?_
   .rintro i I z hi ⟨m,v,x,rfl,C,R,Z⟩;have X:(m.map V.int)[i]?=some (V.int (m[i]'(by omega))):=by simp[Z,hi]
    refine⟨_,rfl,_,rfl,c,_,_,V.int (m[i]'(by omega)),rfl,rfl,hI.of R,(by rw[Int.zero_add];exact sC X),_,_,rfl,rfl,(by show (0:Int)<2147483587;decide),_,rfl,_,_,rfl,rfl,.inl (by decide),_,_,rfl,rfl,_,_,rfl,rfl,_,_,rfl,rfl,.inr (by decide),_,_,rfl,rfl,(by show (0:Int)<2147483629;decide),?_⟩;refine⟨_,rfl,_,rfl,_,_,rfl,rfl,.inl ?_,_,rfl,_,_,rfl,rfl,.inl (by decide),_,_,rfl,rfl,_,_,rfl,rfl,(by show (0:Int)<2147483563;decide),_,_,rfl,rfl,.inr (by decide),_,_,rfl,rfl,(by show (0:Int)<2147483549;decide),?_⟩
    .have b0:=fV ((m[i]'(by omega)%2147483587+853*(0+(i:Int))+11)*69621) (show (2147483629:Int)≠0 by decide);have b1:=eR ((m[i]'(by omega)%2147483587+853*(0+(i:Int))+11)*69621) (show (0:Int)<2147483629 by decide);exact⟨by omega,by omega⟩
    generalize hM:((m[i]'(by omega)%2147483587+853*(0+(i:Int))+11)*69621%2147483629)=M;have b0:=fV ((M*M+31*(0+(i:Int)))%2147483563*16807) (show (2147483549:Int)≠0 by decide);have b1:=eR ((M*M+31*(0+(i:Int)))%2147483563*16807) (show (0:Int)<2147483549 by decide);refine⟨_,rfl,_,rfl,_,_,rfl,rfl,.inl ?_,_,_,rfl,rfl,.inr (by decide),_,rfl,_,_,rfl,rfl,.inl ?_,_,_,rfl,rfl,(by show (0:Int)<2147483579;decide),_,_,rfl,rfl,_,rfl,_,rfl,c,_,_,i,rfl,rfl,R,?_,?_⟩
    .exact⟨by omega,by omega⟩
    .exact⟨by omega,by omega⟩
    .rw[aA];unfold rQ;rw[aO (by omega),aO (by omega)]
     congr 1
     omega
    .refine⟨m.set i _,_,_,rfl,?_,by rw[mM,List.map_set],by rw[bL];exact Z⟩;intro b o e;rw[lT (mT e B)];exact C b o e
   .rintro I z ⟨m,v,x,rfl,C,R,Z⟩;exact fin m v x z C R (by omega) (by omega)
  .exact fin u none none _ N y D.1 D.2
end
structure LS (n m:Nat) (x:Str):Prop where
 az:∀ c∈x.cps.toList,97<=c/\c<=122
 lo:n<=x.length
 hi:x.length<=m
theorem DC (x y:Af):(x++y).cps.toList=x.cps.toList++y.cps.toList:=by
 show (x.cps++y.cps).toList=_;simp
theorem qZ (x y:Af):(x++y).length=x.length+y.length:=by
 show (x.cps++y.cps).size=_;simp[Str.length]
theorem LS.app (h:LS a b x) (g:LS c d y):LS (a+c) (b+d) (x++y) :=
 ⟨λz e=>by rw[DC] at e;exact (bE.mp e).elim (h.az z) (g.az z),by rw[qZ];have:=h.lo;have:=g.lo;omega,by rw[qZ];have:=h.hi;have:=g.hi;omega⟩
theorem LS.weak (h:LS a b x) (g:c<=a) (j:b<=d):LS c d x:=⟨h.az,bP g h.lo,bP h.hi j⟩
noncomputable def Dx (n m:Nat) (x:Af):Bool:=x.cps.toList.all (λc=>decide (97<=c)&&decide (c<=122))&&decide (n<=x.length)&&decide (x.length<=m)
theorem LS.of (h:Dx n m x=true):LS n m x:=by
 unfold Dx at h;simp only[cB,bY,eL] at h;exact⟨h.1.1,h.1.2,h.2⟩
theorem LS.cutL (h:LS n n z) (g:k<=n):LS k k (pC z none (some (k:Int))):=by
 have e:z.length=n:=kB h.hi h.lo;have d:HT.sIx z.length z.length (some (k:Int))=k:=by rw[HT.sIx_nat];omega
 have a:(pC z none (some (k:Int))).cps.toList=z.cps.toList.take k:=by
  show ((z.cps.toList.drop (HT.sIx z.length 0 none)).take _).toArray.toList=_;rw[d,HT.sIx_none];simp
 have f:(pC z none (some (k:Int))).length=k:=by
  rw[<- wL,a,bN,wL];omega
 exact⟨λc b=>by rw[a] at b;exact h.az c (gS b),by omega,by omega⟩
theorem LS.cutR (h:LS n n z) (g:k<=n):LS (n-k) (n-k) (pC z (some (k:Int)) none):=by
 have e:z.length=n:=kB h.hi h.lo;have d:HT.sIx z.length 0 (some (k:Int))=k:=by rw[HT.sIx_nat];omega
 have a:(pC z (some (k:Int)) none).cps.toList=z.cps.toList.drop k:=by
  show ((z.cps.toList.drop (HT.sIx z.length 0 (some (k:Int)))).take _).toArray.toList=_;rw[d,HT.sIx_none];simp only[List.toList_toArray];rw[bW];rw[eT,wL];omega
 have f:(pC z (some (k:Int)) none).length=n-k:=by
  rw[<- wL,a,eT,wL];omega
 exact⟨λc b=>by rw[a] at b;exact h.az c (List.mem_of_mem_drop b),by omega,by omega⟩
theorem LS.sign (h:97<=c/\c<=122):LS 1 1 ⟨#[c]⟩:=⟨λd hd=>by simp at hd;subst hd;exact h,aP _,aP _⟩
theorem Qc:∀ (g:Aa Af),(∀ y∈g,LS 1 1 y)->LS g.length g.length (Str.join "" g)
 | [],_=>⟨λc e=>(nomatch e),aP _,aP _⟩
 | [x],h=>h x aF
 | x::y::r,h=>by
  have b:=h x aF;have d:=Qc (y::r) λz f=>h z (aL _ f)
  have a:LS 0 0 (Str.ofString ""):=LS.of (by decide +kernel);have:=(b.app a).app d;show LS _ _ (x++(Str.ofString "")++Str.join "" (y::r));exact this.weak (by simp;omega) (by simp;omega)
theorem Zl (g:0<=i) (l:i<xs.length):∃ v,nM xs i=some v/\v∈xs:=by
 obtain⟨j,rfl⟩:=eV g;have a:j<xs.length:=by omega
 exact⟨xs[j],sC (aD a),bR a⟩
theorem Mn {xs:Aa Af}{i:Int}(g:0<=i) (l:i<xs.length):∃ x,nM (xs.map V.str) i=some (V.str x)/\x∈xs:=by
 obtain⟨j,rfl⟩:=eV g;have a:j<xs.length:=by omega
 exact⟨xs[j],sC (by simp[a]),bR a⟩
def nW:Af := "abcdefghijklmnopqrstuvwxyz"
theorem Hw:nW.length=26:=by decide +kernel
theorem Gw (g:0<=i) (j:i<26):∃ c,nM nW.cps.toList i=some c/\97<=c/\c<=122:=by
 obtain⟨c,e,m⟩:=Zl (xs:=nW.cps.toList) g (by rw[wL,Hw];exact j);have h:LS 26 26 nW:=LS.of (by decide +kernel);exact⟨c,e,h.az c m⟩
noncomputable def qJ:Aa Af:=["and","or","odd","most","not","one","nil","in","out"]
theorem Yf (h:x∈qJ):LS 2 4 x:=by
 have:qJ.all (Dx 2 4)=true:=by decide +kernel
 exact LS.of (bY.mp this x h)
structure GoodName (x:Str):Prop where
 ls:LS 1 8 x
 nk:x∉qJ
def Ix:Sp:=λa H Q _=>a=[]/\∀ l,H l=none->Q (.ref l) (upd H l (.l (qJ.map V.str)))
def Qu:Sp:=λe H Q _=>∃ (d c:Ad) (m:Nat),e=[.ref d,.int m]/\DeckAt H d c/\m<=40/\∀ (l:Ad) (b:Aa Af) (a:Hp),H l=none->a l=some (.l (b.map V.str))->b.length=m->(∀ x∈b,LS 1 8 x) ->
 DeckAt a d c->nA d c H a->Q (.ref l) a
theorem nA.free (k:nA d c H g) (j:l≠d) (p:l≠c) (h:g l=none):H l=none:=by
 cases e:H l with
 | none=>rfl
 | some o=>rw[k l o e j p] at h;cases h
theorem Vq {g:Aa Af}{n m:Nat}(h:∀ y∈g,y.length<=m) (j:g.length<=n):(g.map (·.length)).sum<=n*m:=by
 have:∀ g:Aa Af,(∀ y∈g,y.length<=m)->(g.map (·.length)).sum<=g.length*m:=by
  intro g;induction g with
  | nil=>intro _;simp
  | cons a r c =>
   intro h;have d:=h a aF;have e:=c λy b=>h y (aL _ b)
   simp only[aM,eX,bJ,Nat.add_mul,Nat.one_mul];omega
 exact bP (this g h) (Nat.mul_le_mul_right m j)
theorem I3 (h:n<=1000):n<=sizeLine:=bP h (by decide)
section
variable {P:Ah}{K:lK}
theorem Z8:FnScope [] [] (mA A6):=⟨rfl,rfl,rfl,by decide +kernel,rfl,by decide +kernel,by decide +kernel⟩
theorem Mf (F:Fun K "_law_kept" "_law_kept" A6 f fd):FnOk P w K g base oD 1 f fd [] Ix:=by
 refine F.ok Z8 (λd H Q E h=>?_) (λb A a s H d Q E e h=>?_)
 .obtain⟨rfl,_⟩:=h;rfl
 .obtain⟨rfl,k⟩:=h;refine⟨_,@rZ _ _ _ (@yZ _ _ _ _ (@sS _ _ _ _ (@Br _ [("and",_,_),("or",_,_),("odd",_,_),("most",_,_),("not",_,_),("one",_,_),("nil",_,_),("in",_,_),("out",_,_)]))),?_⟩;have c:9<=sizeLine:=by decide
  refine⟨c,?_⟩;exact k
theorem tW:FnScope ["deck","many","letters","base","at","shift","way","names","k","sign","word","name"] ["deck","many"] (mA Cy):=⟨rfl,rfl,rfl,by decide +kernel,rfl,by decide +kernel,by decide +kernel⟩
theorem CO:(["k","letters","deck"]:Aa Af).Nodup:=by decide +kernel
theorem Qp (j:0<=i) (l:i<2) (q:Af) (g:LS 0 1 q):∃ x,nM [V.str "",V.str q] i=some (V.str x)/\LS 0 1 x:=by
 have:i=0\/i=1:=by omega
 rcases this with rfl | rfl
 .exact⟨"",rfl,LS.of (by decide +kernel)⟩
 .exact⟨q,rfl,g⟩
theorem W8 (F:Fun K "_law_made_names" "_law_made_names" Cy f fd) (T:Txt mg) (g:Gd K mg "_law_take" At ["deck","many"] fT aw) (gK:Gd K mg "_law_kept" A6 [] fK av) :
  FnOk P w K mg base oD 2 f fd ["deck","many"] Qu:=by
 have GT:FnOk P w K mg base oD 1 fT aw ["deck","many"] Df:=Jl g.F T;have GK:FnOk P w K mg base oD 1 fK av [] Ix:=Mf gK.F;refine F.ok tW (λvs H Q E h=>?_) (λa8 A a7 s H vs Q E hr h=>?_)
 .obtain⟨d,c,m,rfl,_⟩:=h;rfl
 .obtain⟨d,c,m,rfl,D,hm,k⟩:=h;refine⟨_,pE (pR (i:=2) tW.nd rfl (Or.inr rfl) wC) (pE (pR (i:=3) tW.nd rfl (Or.inl rfl) (zK PySem.F.plainAttrs_str PySem.F.slot_str_join PySem.F.type_str_join AS wC (mX (Bm ["k"] ["letters","deck"] [2,0] rfl (A9 rfl T.range (mX (uG GT hr rfl g.m g.k g.b .nil tG (mX (pv 0) (mX nH nJ))) nJ)) rfl rfl (λZ S C cl fp=>xM (i:=0) CO rfl (Or.inl rfl)) (λZ S C cl fp=>Fd) (λZ S C cl fp=>rK E2 (pv 1) (uG GT hr rfl g.m g.k g.b .nil tG (mX (pv 2) (mX nH nJ))) (λ_ _=>rfl))) nJ))) (pE (pR (i:=4) tW.nd rfl (Or.inl rfl) (uG GT hr rfl g.m g.k g.b .nil tG (mX (pv 0) (mX (mU vG (wG K2 (by rfl) T.len cU (mX (pv 3) nJ)) nH) nJ)))) (pE (pR (i:=5) tW.nd rfl (Or.inl rfl) (uG GT hr rfl g.m g.k g.b .nil tG (mX (pv 0) (mX nH nJ)))) (pE (pR (i:=6) tW.nd rfl (Or.inl rfl) (uG GT hr rfl g.m g.k g.b .nil tG (mX (pv 0) (mX nH nJ)))) (pE (pR (i:=7) tW.nd rfl (Or.inl rfl) (sS nJ)) (pE (En iF rfl (A9 rfl T.range (mX (pv 1) nJ)) (xM (i:=8) tW.nd rfl (Or.inl rfl)) (pE (pR (i:=9) tW.nd rfl (Or.inl rfl) (rK E2 (pv 2) (mU sG (mU vG (pv 5) (pv 8)) nH) (λ_ _=>rfl))) (pE (pR (i:=10) tW.nd rfl (Or.inl rfl) (rK sT (T2 GK hr rfl gK.m gK.k gK.b .nil tG) (mU sG (mU vG (pv 5) (pv 8)) nH) (λ_ _=>rfl))) (pE (pR (i:=11) tW.nd rfl (Or.inl rfl) (mU vB (mU vB (mU vB (mU vB (zV J0 (pv 3) Ch (B5 (pv 4))) (pv 9)) (rK sT (sS (mX wC (mX wC nJ))) (mU sG (pv 8) nH) (λ_ _=>rfl))) (zV J0 (pv 3) (B5 (pv 4)) Ch)) (rK sT (sS (mX wC (mX wC nJ))) (mU Zy (pv 8) nH) (λ_ _=>rfl)))) (rZ (Ts (zK cC cJ cK tJ (pv 7) (mX (rK sT (sS (mX (pv 11) (mX (mU vB (pv 9) (pv 10)) (mX (mU vB (pv 10) (pv 9)) (mX (mU vB (mU vB (pv 9) (pv 10)) (rK E2 (pv 2) (mU sG (pv 8) nH) (λ_ _=>rfl))) nJ))))) (pv 6) (λ_ _=>rfl)) nJ)))))))) (rZ (yZ (pv 7))))))))),?_⟩;refine⟨rfl,_,rfl,d,c,6,rfl,D,by decide,by decide,λr1 H1 a0 a1 D1 k1=>⟨_,rfl,by omega,by omega,λD0 N=>?_⟩⟩;have u:=D1.ned N;have a2:H D0=none:=k1.free u.1 u.2 N;refine Hz R6 (λi ys H2=>∃ t:Aa Af,ys=t.map V.str/\t.length=i/\(∀ z∈t,LS 1 1 z)/\DeckAt H2 d c/\nA d c H H2/\H2 D0=some (.l ys))
   ⟨[],rfl,rfl,(λz Y=>nomatch Y),D1.new N,k1.trans (nA.new N),mM⟩ (λ_ _ _ _ _=>True.intro) ?_ ?_
  .rintro i x ys H2 hx ⟨t,rfl,hl,a6,D2,k2,hD⟩;have hi:i<6:=by
    have:=(aV.mp hx).1;simp at this;omega
   refine⟨_,rfl,_,rfl,d,c,26,rfl,D2,by decide,by decide,λr H3 b0 b1 D3 k3=>?_⟩;obtain⟨W,a3,I⟩:=Gw b0 b1;have az:=k3 D0 _ hD u.1 u.2;refine⟨nW,_,W,rfl,rfl,(by rw[Hw];decide),a3,⟨_,rfl⟩,az,(by rw[aA];exact bG (show t.length<1000 by omega) (by decide)),t++[⟨#[W]⟩],by simp,by simp[hl],λz Y=>?_,D3.upd_other u.1 u.2,?_,mM⟩
   .rcases bE.mp Y with q | q
    .exact a6 z q
    .rw[bF.mp q];exact LS.sign I
   .exact λb o e h1 h2=>by rw[lT (mT e a2)];exact k3 b o (k2 b o e h1 h2) h1 h2
  .rintro ys H2 ⟨t,rfl,hl,Y,D2,k2,hD⟩;rw[aA,bU] at hl;have hB:=Qc t Y;have ay:t.length<=5:=by omega
   refine⟨"",D0,t,rfl,rfl,.inl (hI.of hD),?_,?_⟩
   .have h1:=Vq (m:=1) (λy hy=>(Y y hy).hi) ay;have h2:(Str.ofString "").length=0:=by decide +kernel
    rw[h2];omega
   have ej:Txt.join (Str.ofString "") t=Str.join (Str.ofString "") t:=StrLaws.glued_eq_join _ _;rw[ej];generalize Str.join (Str.ofString "") t=B at hB;have eB:B.length=t.length:=kB hB.hi hB.lo;refine⟨_,rfl,_,rfl,B,rfl,I3 (by omega),_,_,rfl,rfl,d,c,_,rfl,D2,by omega,by omega,λr2 H3 b0 b1 D3 k3=>?_⟩;refine⟨_,rfl,d,c,26,rfl,D3,by decide,by decide,λr3 H4 c0 c1 D4 k4=>?_⟩;refine⟨_,rfl,d,c,4,rfl,D4,by decide,by decide,λr4 H5 d0 d1 D5 k5=>?_⟩;refine⟨(by show 0<=sizeLine;decide),λl nl=>?_⟩;have kk:nA d c H H5:=((k2.trans k3).trans k4).trans k5;have O:=D5.ned nl;have ae:H l=none:=kk.free O.1 O.2 nl;obtain⟨L,rfl⟩:=eV b0;refine⟨_,rfl,_,rfl,by omega,by omega,?_⟩;rw[cR];refine Tz (lo:=0) (n:=m) (λi σ G=>∃ (v:Aa Af) (v8 v9 v10 v11:Ab V),σ=[some (.ref d),some (.int m),some (.str nW),some (.str B),some (.int L),some (.int r3),some (.int r4),some (.ref l),v8,v9,v10,v11] /\ v.length=i/\(∀ x∈v,LS 1 8 x)/\G l=some (.l (v.map V.str))/\DeckAt G d c/\nA d c H G)
    ⟨[],none,none,none,none,rfl,rfl,(λz Y=>nomatch Y),mM,D5.new nl,kk.trans (nA.new nl)⟩ ?_ ?_
   .rintro i σ G hi ⟨v,v8,v9,v10,v11,rfl,J,U,h6,D6,k6⟩;have M:∀ z:Int,0<=z%26/\z%26<26:=λz=>⟨fV z (by decide),eR z (by decide)⟩
    have e9:∀ z:Int,0<=z%9/\z%9<9:=λz=>⟨fV z (by decide),eR z (by decide)⟩
    have e2:∀ z:Int,0<=z%2/\z%2<2:=λz=>⟨fV z (by decide),eR z (by decide)⟩
    obtain⟨W,af,I⟩:=Gw (M (r3+(0+(i:Int)))).1 (M _).2;obtain⟨wd,ag,a4⟩:=Mn (xs:=qJ) (e9 (r3+(0+(i:Int)))).1 (by exact (e9 _).2);obtain⟨x1,ah,ao⟩:=Qp (e2 (0+(i:Int))).1 (e2 _).2 "q" (LS.of (by decide +kernel));obtain⟨x2,ai,aq⟩:=Qp (i:=(0+(i:Int))/26) (by omega) (by omega) "w" (LS.of (by decide +kernel));obtain⟨c5,aj,an⟩:=Gw (M (0+(i:Int))).1 (M _).2;have j:=LS.sign I;have hW:=Yf a4;have X:L<=t.length:=by omega
    have hP:=hB.cutL X;have hR:=hB.cutR X;have n1:=hP.app j;have n2:=n1.app ao;have n3:=n2.app hR;have n4:=n3.app aq;have w1:=j.app hW;have w2:=hW.app j;have w3:=w1.app (LS.sign an);have sz:∀ {a b c' d':Nat} {x y:Af},LS a b x->LS c' d' y->b+d'<=100->x.length+y.length<=sizeLine:=λg1 g2 hb=>I3 (by have:=g1.hi;have:=g2.hi;omega)
    have au:nW.length<=sizeLine:=by rw[Hw];decide
    have ac:B.length<=sizeLine:=I3 (by omega);refine⟨_,rfl,_,rfl,_,rfl,_,_,rfl,rfl,_,_,rfl,rfl,(by show (0:Int)<26;decide),nW,_,W,rfl,rfl,au,af,?_⟩;refine⟨rfl,λp np=>?_⟩;have D7:DeckAt (upd G p (.l (qJ.map V.str))) d c:=D6.new np;refine⟨_,rfl,_,rfl,_,_,rfl,rfl,_,_,rfl,rfl,(by show (0:Int)<9;decide),p,_,_,.str wd,rfl,rfl,hI.of mM,ag,?_⟩;have k7:nA d c H (upd G p (.l (qJ.map V.str))):=k6.trans (nA.new np);have h7:upd G p (.l (qJ.map V.str)) l=some (.l (v.map V.str)):=by rw[lT (mT h6 np)];exact h6
    generalize upd G p (.l (qJ.map V.str))=H7 at D7 k7 h7 |-;refine⟨_,rfl,_,rfl,_,rfl,B,rfl,ac,_,rfl,_,_,rfl,rfl,sz hP j (by omega),(by show 2<=sizeLine;decide),λp2 aa=>?_⟩;have D8:=D7.new (o:=.l [V.str (Str.ofString ""),V.str (Str.ofString "q")]) aa;have k8:=k7.trans (nA.new (d:=d) (c:=c) (o:=.l [V.str (Str.ofString ""),V.str (Str.ofString "q")]) aa);have h8:upd H7 p2 (.l [V.str (Str.ofString ""),V.str (Str.ofString "q")]) l=some (.l (v.map V.str)):=by rw[lT (mT h7 aa)];exact h7
    refine⟨_,rfl,_,_,rfl,rfl,(by show (0:Int)<2;decide),p2,_,_,.str x1,rfl,rfl,hI.of mM,ah,_,_,rfl,rfl,sz n1 ao (by omega),_,rfl,_,rfl,_,rfl,B,rfl,ac,_,_,rfl,rfl,sz n2 hR (by omega),(by show 2<=sizeLine;decide),λp3 R=>?_⟩;generalize upd H7 p2 (.l [V.str (Str.ofString ""),V.str (Str.ofString "q")])=H8 at D8 k8 h8 R |-;have D9:=D8.new (o:=.l [V.str (Str.ofString ""),V.str (Str.ofString "w")]) R;have k9:=k8.trans (nA.new (d:=d) (c:=c) (o:=.l [V.str (Str.ofString ""),V.str (Str.ofString "w")]) R);have h9:upd H8 p3 (.l [V.str (Str.ofString ""),V.str (Str.ofString "w")]) l=some (.l (v.map V.str)):=by rw[lT (mT h8 R)];exact h8
    refine⟨_,rfl,_,_,rfl,rfl,⟨by decide,by decide⟩,p3,_,_,.str x2,rfl,rfl,hI.of mM,ai,_,_,rfl,rfl,sz n3 aq (by omega),?_⟩;generalize upd H8 p3 (.l [V.str (Str.ofString ""),V.str (Str.ofString "w")])=H9 at D9 k9 h9 |-;generalize a9:(pC B none (some (L:Int))++(⟨#[W]⟩:Af)++x1++pC B (some (L:Int)) none++x2)=nm at n4;refine⟨_,rfl,.inl ⟨rfl,_,hI.of h9⟩,_,rfl,_,rfl,_,rfl,_,_,rfl,rfl,sz j hW (by omega),_,rfl,_,rfl,_,_,rfl,rfl,sz hW j (by omega),_,rfl,_,rfl,_,_,rfl,rfl,sz j hW (by omega),_,rfl,_,rfl,_,_,rfl,rfl,(by show (0:Int)<26;decide),nW,_,c5,rfl,rfl,au,aj,_,_,rfl,rfl,sz w1 (LS.sign an) (by omega),(by show 4<=sizeLine;decide),λp4 ab=>?_⟩;obtain⟨z,ak,ar⟩:=Mn (xs:=[nm,(⟨#[W]⟩:Af)++wd,wd++(⟨#[W]⟩:Af),(⟨#[W]⟩:Af)++wd++(⟨#[c5]⟩:Af)]) d0 (by exact d1);have a5:LS 1 8 z:=by
     simp only[aI,aY,fJ] at ar;rcases ar with rfl | rfl | rfl | rfl
     .exact n4.weak (by omega) (by omega)
     .exact w1.weak (by omega) (by omega)
     .exact w2.weak (by omega) (by omega)
     .exact w3.weak (by omega) (by omega)
    have ax:∀ o4,upd H9 p4 o4 l=some (.l (v.map V.str)):=λo4=>by rw[lT (mT h9 ab)];exact h9
    refine⟨_,rfl,p4,_,_,.str z,rfl,rfl,hI.of mM,ak,l,v.map V.str,.str z,rfl,rfl,?_,?_,v++[z],_,_,_,_,rfl,by simp[J],?_,?_,?_,?_⟩
    .exact ax _
    .rw[aA];exact bG (show v.length<1000 by omega) (by decide)
    .intro y hy;rcases bE.mp hy with q | q
     .exact U y q
     .rw[bF.mp q];exact a5
    .rw[mM];simp
    .exact (D9.new ab).upd_other O.1 O.2
    .exact λb o e g1 g2=>by rw[lT (mT e ae)];exact (k9.trans (nA.new ab)) b o e g1 g2
   .rintro σ G ⟨v,v8,v9,v10,v11,rfl,J,U,h6,D6,k6⟩;exact⟨_,rfl,k l v G ae h6 J U D6 k6⟩
end
def tI:Aa Af:=["cell","along","lay","judge","late","gates","ways","show"]
noncomputable def wR:Aa Af:=["andx","orb","oddly","mosts","nots","ones","nila","inn","outer","aa","ab","ba"]
def Gh:Aa Af:=["abcdefgh","abcdefgi","zzzzzzzz","names","judged","rowsofx"]
def rJ (z:Af):Aa Af:=z.cps.toList.map λc=>(⟨#[c]⟩:Af)
def xU:Aa Af:=rJ nW++tI++wR++Gh
theorem HK:xU.Nodup:=by decide +kernel
theorem IH:xU.length=52:=by decide +kernel
theorem DV:∀ x∈xU,GoodName x:=by
 have h:xU.all (λx=>Dx 1 8 x && !qJ.contains x)=true:=by decide +kernel
 intro x b;have:=bY.mp h x b;rw[cB] at this;refine⟨LS.of this.1,λm=>?_⟩;have a:=this.2;rw[List.contains_iff_mem.mpr m] at a;cases a
def K1:Sp:=λe H Q _=>∃ (d c:Ad) (m:Nat),e=[.ref d,.int m]/\DeckAt H d c/\m<=40/\∀ (l:Ad) (b:Aa Af) (a:Hp),H l=none->a l=some (.l (b.map V.str))->b.length=m->b.Nodup->(∀ x∈b,GoodName x) ->
 DeckAt a d c->nA d c H a->Q (.ref l) a
theorem Tn:∀ {g:Aa Af}{k:Nat}{y:Af},g[k]?=some y->(y::g.eraseIdx k).Perm g
 | [],k,y,h=>by simp at h
 | a::r,0,y,h=>by
  simp at h;subst h;exact List.Perm.refl _
 | a::r,k+1,y,h=>by
  have b:r[k]?=some y:=by simpa using h
  show (y::a::r.eraseIdx k).Perm (a::r);exact (List.Perm.swap a y _).trans ((Tn b).cons a)
theorem N1 (f:g->j):∀ (l:Aa g) (k:Nat),(l.map f).eraseIdx k=(l.eraseIdx k).map f
 | [],_=>rfl
 | _::_,0=>rfl
 | a::r,k+1=>by simp[N1 f r k]
theorem HN (x:Af) (g:Aa Af):xD (.str x) (g.map V.str)=decide (x∈g):=by
 unfold xD;induction g with
 | nil=>rfl
 | cons y r b =>
  rw[aM,fO,b];have:pT (V.str y) (V.str x)=decide (y=x):=by
   simp only[pT];exact Bool.beq_eq_decide_eq y x
  rw[this];by_cases h:x=y
  .subst h;simp
  .have a:¬ y=x:=λe=>h e.symm
   simp[h,a]
theorem EH (g:Aa Af):(g.map V.str).all rV=true:=by
 rw[bY];intro v a;obtain⟨y,_,rfl⟩:=aH.mp a;rfl
section
variable {P:Ah}{K:lK}
theorem An:FnScope ["deck","many","letters","names","spare"] ["deck","many"] (mA Fb):=⟨rfl,rfl,rfl,by decide +kernel,rfl,by decide +kernel,by decide +kernel⟩
theorem Lc (x:Af):([x]:Aa Af).Nodup:=by simp
theorem GN:(["k","spare","deck"]:Aa Af).Nodup:=by decide +kernel
theorem KG (F:Fun K "_law_names" "_law_names" Fb f fd) (T:Txt mg) (gT:Gd K mg "_law_take" At ["deck","many"] fT a6) (gK:Gd K mg "_law_kept" A6 [] fK a4)
  (gM:Gd K mg "_law_made_names" Cy ["deck","many"] fM a5):FnOk P w K mg base oD 3 f fd ["deck","many"] K1:=by
 have GT:FnOk P w K mg base oD 1 fT a6 ["deck","many"] Df:=Jl gT.F T;have GK:FnOk P w K mg base oD 1 fK a4 [] Ix:=Mf gK.F;have GM:FnOk P w K mg base oD 2 fM a5 ["deck","many"] Qu:=W8 gM.F T gT gK;refine F.ok An (λvs H Q E h=>?_) (λbf A bd s H vs Q E hr h=>?_)
 .obtain⟨d,c,m,rfl,_⟩:=h;rfl
 .obtain⟨d,c,m,rfl,D,hm,k⟩:=h;have aj:Room 1 _:=hr.mono (by decide);have hu:=hr.units;refine S5 _ (pR (i:=2) An.nd rfl (Or.inl rfl) wC) ?_;refine Ey (λσ S=>∃ v3,σ=[some (.ref d),some (.int m),some (.str nW),v3,none]/\DeckAt S d c/\nA d c H S) (λu L=>?_) ?_
  .-- if _law_take(deck,2) == 1
   refine⟨_,A7 (xE C3 (uG GT aj rfl gT.m gT.k gT.b .nil tG (mX (pv 0) (mX nH nJ))) nH (vR _)) (pE (pR (i:=3) An.nd rfl (Or.inl rfl) (uG GM hr rfl gM.m gM.k gM.b .nil tG (mX (pv 0) (mX (pv 1) nJ)))) (rZ (A7 (PW.pt (Y9 (xE C3 (wG IV (by rfl) T.len cU (mX (Sy (DT rfl) (by rfl) T.set PyProof.Rows.boot_set (mX (pv 3) nJ)) nJ)) (pv 1) (vR _)) (Vi (xE (O8 hu) (Bm ["name"] [] [] rfl (Wg (pv 3)) rfl rfl (λB v C cl fp=>xM (i:=0) (Lc _) rfl (Or.inl rfl)) (λB v C cl fp=>Td (xE (r:=Fk K false) AO (pv 0) (T2 GK aj rfl gK.m gK.k gK.b .nil tG) rfl)) (λB v C cl fp=>pv 0)) (sS nJ) (vR _))))) (rZ (yZ (pv 3))) A3))) A3,?_⟩;refine⟨_,rfl,d,c,2,rfl,D,by decide,by decide,λr1 H1 a0 a1 D1 k1=>⟨rfl,_,rfl,?_⟩⟩;refine Bo (λ_=>?_) (λ_=>L _ _ ⟨none,rfl,D1,k1⟩);refine⟨_,rfl,_,rfl,d,c,m,rfl,D1,hm,λl O H2 nl hl av ba D2 k2=>?_⟩;have kk:nA d c H H2:=k1.trans k2;have ax:=D1.ned nl;have a8:H l=none:=k1.free ax.1 ax.2 nl;refine⟨_,rfl,l,O,rfl,hI.of hl,by omega,λp np=>?_⟩;have k3:=kk.trans (nA.new (d:=d) (c:=c) (o:=zG P w p (oB O).length) np);have D3:=D2.new (o:=zG P w p (oB O).length) np;have ai:upd H2 p (zG P w p (oB O).length) l=some (.l (O.map V.str)):=by rw[lT (mT hl np)];exact hl
   refine⟨p,_,rfl,mM,_,rfl,rfl,_,rfl,?_⟩;refine Bo (λa9=>?_) (λ_=>wB (L _ _ ⟨_,rfl,D3,k3⟩));have J:O.Nodup:=by
    have:=cM a9;injection this with this;exact Z0 (by omega)
   refine⟨_,rfl,l,rfl,⟨_,hI.of ai⟩,λR n=>?_⟩;have G:=D3.ned n;have ac:H R=none:=k3.free G.1 G.2 n;have lD:l≠R:=mT ai n;refine Uh Wk (λi ys S=>∃ t:Aa Af,ys=t.map V.str/\t.length<=i/\((∃ x∈O.take i,x∈qJ)->t≠[])/\((∀ x∈O.take i,x∉qJ)->t=[])/\DeckAt S d c/\nA d c H S/\S R=some (.l ys)/\S l=some (.l (O.map V.str)))
    ⟨[],rfl,aP _,(λ⟨x,N,_⟩=>by simp at N),(λ_=>rfl),D3.new n,k3.trans (nA.new n),mM,by rw[lT lD];exact ai⟩ (λi ys S _ ⟨_,_,_,_,_,_,_,_,h⟩=>hI.of h) ?_ ?_
   .rintro i x ys S N ⟨t,rfl,aw,U,af,D4,k4,g,I⟩;obtain⟨y,hy,rfl⟩:∃ y,O[i]?=some y/\V.str y=x:=by
     rw[bD] at N;cases e:O[i]? with
     | none=>rw[e] at N;cases N
     | some y=>rw[e] at N;exact⟨y,rfl,bZ N⟩
    have hi:i<O.length:=(aV.mp hy).1;have et:O.take (i+1)=O.take i++[y]:=by rw[cA,hy];rfl
    refine⟨_,rfl,rfl,λq nq=>?_⟩;have bh:=D4.ned nq;refine⟨q,_,rfl,.inl (hI.of mM),rfl,EH _,_,rfl,?_⟩;have D5:=D4.new (o:=.l (qJ.map V.str)) nq;have k5:=k4.trans (nA.new (d:=d) (c:=c) (o:=.l (qJ.map V.str)) nq);have ab:upd S q (.l (qJ.map V.str)) R=some (.l (t.map V.str)):=by rw[lT (mT g nq)];exact g
    have ae:upd S q (.l (qJ.map V.str)) l=some (.l (O.map V.str)):=by rw[lT (mT I nq)];exact I
    rw[HN];refine Bo (λhk=>?_) (λhk=>?_)
    .have ah:y∈qJ:=cM hk;refine⟨_,rfl,⟨_,rfl⟩,ab,?_,t++[y],by simp,by simp;omega,λ_=>by simp,λh=>absurd ah (h y (by rw[et];simp)),D5.upd_other G.1 G.2,?_,mM,?_⟩
     .rw[aA];exact bG (show t.length<1000 by omega) (by decide)
     .exact λb o e g1 g2=>by rw[lT (mT e ac)];exact k5 b o e g1 g2
     .rw[lT lD];exact ae
    .have ah:y∉qJ:=λz=>hk (bQ z)
     refine⟨⟨_,rfl⟩,t,rfl,by omega,?_,?_,D5,k5,ab,ae⟩
     .rintro ⟨z,hz,ak⟩;rw[et] at hz;rcases bE.mp hz with q' | q'
      .exact U ⟨z,q',ak⟩
      .rw[bF.mp q'] at ak;exact absurd ak ah
     .exact λh=>af λz hz=>h z (by rw[et];exact bB _ hz)
   .rintro ys S ⟨t,rfl,aw,U,af,D4,k4,g,I⟩;rw[aA] at aw U af;rw[bW (aP _)] at U af;refine⟨(by show 0<=sizeLine;decide),λq nq=>?_⟩;have D5:=D4.new (o:=.l []) nq;have k5:=k4.trans (nA.new (d:=d) (c:=c) (o:=.l []) nq);have ab:upd S q (.l []) R=some (.l (t.map V.str)):=by rw[lT (mT g nq)];exact g
    have ae:upd S q (.l []) l=some (.l (O.map V.str)):=by rw[lT (mT I nq)];exact I
    refine⟨R,q,_,rfl,rfl,hI.of ab,hI.of mM,_,rfl,?_⟩;refine Bo (λhe=>?_) (λ_=>L _ _ ⟨_,rfl,D5,k5⟩);have bc:t=[]:=by
     cases t with
     | nil=>rfl
     | cons a r=>simp at he
    refine⟨_,rfl,k l O _ a8 ae av J (λx N=>⟨ba x N,λhk=>U ⟨x,N,hk⟩ bc⟩) D5 k5⟩
  .rintro σ S ⟨v3,rfl,D4,k4⟩;refine Ey (λσ H7=>∃ p2,σ=[some (.ref d),some (.int m),some (.str nW),v3,some (.ref p2)]/\H7 p2=some (.l ((rJ nW++tI).map V.str))/\DeckAt H7 d c/\nA d c H H7/\H p2=none) (λu L=>?_) ?_
   .refine⟨_,pR (i:=4) An.nd rfl (Or.inr rfl) (mU Ay (Bm ["sign"] [] [] rfl (JW (pv 2)) rfl rfl (λB v C cl fp=>xM (i:=0) (Lc _) rfl (Or.inl rfl)) (λB v C cl fp=>Fd) (λB v C cl fp=>pv 0)) (@sS _ _ _ _ (@Br _ [("cell",_,_),("along",_,_),("lay",_,_),("judge",_,_),("late",_,_),("gates",_,_),("ways",_,_),("show",_,_)]))),?_⟩;refine⟨_,rfl,nW,rfl,by decide +kernel,λR n=>?_⟩;refine HR IM id n (λ_ _=>True.intro) (by rw[show (xY nW).length=26 by decide +kernel];decide) (λi x H5 kk N _ h=>⟨_,rfl,h⟩) ?_;have e1:(xY nW).map id=(rJ nW).map V.str:=by rw[List.map_id];unfold xY rJ;rw[List.map_map];rfl
    rw[e1];refine⟨(by show 8<=sizeLine;decide),λp1 n1=>?_⟩;have h0:upd (upd S R (.l ((rJ nW).map V.str))) p1 (.l (tI.map V.str)) R=some (.l ((rJ nW).map V.str)):=by rw[lT (mT mM n1)];exact mM
    refine⟨R,p1,_,_,rfl,rfl,h0,mM,(by rw[aA,show (rJ nW).length=26 by decide +kernel];show 26+8<=sizeLine;decide),λp2 n2=>?_⟩;have D7:=((D4.new (o:=.l ((rJ nW).map V.str)) n).new (o:=.l (tI.map V.str)) n1);have k7:=(k4.trans (nA.new (d:=d) (c:=c) (o:=.l ((rJ nW).map V.str)) n)).trans (nA.new (d:=d) (c:=c) (o:=.l (tI.map V.str)) n1);have ay:=D7.ned n2;refine L _ _ ⟨p2,rfl,?_,D7.new n2,k7.trans (nA.new n2),k7.free ay.1 ay.2 n2⟩;rw[mM,aZ];rfl
   rintro σ H7 ⟨p2,rfl,h7,D7,k7,z7⟩;refine Ey (λσ H8=>∃ p3,σ=[some (.ref d),some (.int m),some (.str nW),v3,some (.ref p3)]/\H8 p3=some (.l ((rJ nW++tI++wR).map V.str))/\DeckAt H8 d c/\nA d c H H8/\H p3=none) (λu L=>?_) ?_
   .refine⟨_,pR (i:=4) An.nd rfl (Or.inr rfl) (mU Ay (pv 4) (@sS _ _ _ _ (@Br _ [("andx",_,_),("orb",_,_),("oddly",_,_),("mosts",_,_),("nots",_,_),("ones",_,_),("nila",_,_),("inn",_,_),("outer",_,_),("aa",_,_),("ab",_,_),("ba",_,_)]))),?_⟩;refine⟨_,rfl,(by show 12<=sizeLine;decide),λp1 n1=>?_⟩;have h0:upd H7 p1 (.l (wR.map V.str)) p2=some (.l ((rJ nW++tI).map V.str)):=by rw[lT (mT h7 n1)];exact h7
    refine⟨p2,p1,_,_,rfl,rfl,h0,mM,(by rw[aA,show (rJ nW++tI).length=34 by decide +kernel];show 34+12<=sizeLine;decide),λp3 n3=>?_⟩;have D8:=D7.new (o:=.l (wR.map V.str)) n1;have k8:=k7.trans (nA.new (d:=d) (c:=c) (o:=.l (wR.map V.str)) n1);have az:=D8.ned n3;refine L _ _ ⟨p3,rfl,?_,D8.new n3,k8.trans (nA.new n3),k8.free az.1 az.2 n3⟩;rw[mM,aZ (l₁:=rJ nW++tI)];rfl
   rintro σ H8 ⟨p3,rfl,h8,D8,k8,z8⟩;refine Ey (λσ H9=>∃ Y,σ=[some (.ref d),some (.int m),some (.str nW),v3,some (.ref Y)]/\H9 Y=some (.l (xU.map V.str))/\DeckAt H9 d c/\nA d c H H9/\H Y=none) (λu L=>?_) ?_
   .refine⟨_,pR (i:=4) An.nd rfl (Or.inr rfl) (mU Ay (pv 4) (@sS _ _ _ _ (@Br _ [("abcdefgh",_,_),("abcdefgi",_,_),("zzzzzzzz",_,_),("names",_,_),("judged",_,_),("rowsofx",_,_)]))),?_⟩;refine⟨_,rfl,(by show 6<=sizeLine;decide),λp1 n1=>?_⟩;have h0:upd H8 p1 (.l (Gh.map V.str)) p3=some (.l ((rJ nW++tI++wR).map V.str)):=by rw[lT (mT h8 n1)];exact h8
    refine⟨p3,p1,_,_,rfl,rfl,h0,mM,(by rw[aA,show (rJ nW++tI++wR).length=46 by decide +kernel];show 46+6<=sizeLine;decide),λY n4=>?_⟩;have D9:=D8.new (o:=.l (Gh.map V.str)) n1;have k9:=k8.trans (nA.new (d:=d) (c:=c) (o:=.l (Gh.map V.str)) n1);have X:=D9.ned n4;refine L _ _ ⟨Y,rfl,?_,D9.new n4,k9.trans (nA.new n4),k9.free X.1 X.2 n4⟩;unfold xU;rw[mM,aZ (l₁:=rJ nW++tI++wR)];rfl
   rintro σ H9 ⟨Y,rfl,h9,D9,k9,z9⟩;refine⟨_,rZ (yZ (Bm ["k"] ["spare","deck"] [4,0] rfl (A9 rfl T.range (mX (pv 1) nJ)) rfl rfl (λB v C cl fp=>xM (i:=0) GN rfl (Or.inl rfl)) (λB v C cl fp=>Fd) (λB v C cl fp=>DA K cC PySem.F.slot_list_pop PySem.F.type_list_pop Q5 (pv 1) (mX (uG GT aj rfl gT.m gT.k gT.b .nil tG (mX (pv 2) (mX (wG (Wx K) (by rfl) T.len cU (mX (pv 1) nJ)) nJ))) nJ)))),?_⟩;refine⟨_,rfl,_,rfl,by omega,by omega,λR n=>?_⟩;have G:=D9.ned n;have ac:H R=none:=k9.free G.1 G.2 n;have X:Y≠d/\Y≠c:=D.ned z9;have ar:Y≠R:=mT h9 n;refine Hz R6 (λi ys W=>∃ t M:Aa Af,ys=t.map V.str/\t.length=i/\M.length+i=52/\(t++M).Nodup/\(∀ x∈t++M,GoodName x)/\W Y=some (.l (M.map V.str))/\DeckAt W d c/\nA d c H W/\W R=some (.l ys))
    ⟨[],xU,rfl,rfl,IH,HK,DV,by rw[lT ar];exact h9,D9.new n,k9.trans (nA.new n),mM⟩ (λ_ _ _ _ _=>True.intro) ?_ ?_
   .rintro i x ys W N ⟨t,M,rfl,an,bb,J,hg,aa,ag,ao,Z⟩;have hi:i<40:=by
     have:=(aV.mp N).1;simp at this;omega
    refine⟨_,rfl,.inl ⟨rfl,_,hI.of aa⟩,_,rfl,_,rfl,Y,_,rfl,.inl (hI.of aa),d,c,_,rfl,ag,by rw[aA];omega,by rw[aA];omega,λr be b0 b1 a3 aq=>?_⟩;rw[aA] at b1;obtain⟨j,rfl⟩:=eV b0;have hj:j<M.length:=by omega
    have a7:=aq Y _ aa X.1 X.2;have au:=aq R _ Z G.1 G.2;have hy:M[j]?=some M[j]:=aD hj;have pm:=Tn hy;have a2:((t++[M[j]])++M.eraseIdx j).Perm (t++M):=by
     rw[bH];exact jS t pm
    have bg:(M.eraseIdx j).length+1=M.length:=by
     rw[List.length_eraseIdx,aO hj];omega
    refine⟨Y,_,_,j,.str M[j],rfl,rfl,a7,by omega,by omega,?_,by simp[hj],⟨_,rfl⟩,by rw[lT ar.symm];exact au,?_,t++[M[j]],M.eraseIdx j,by simp,by simp[an],by omega,a2.symm.nodup J,λx N=>hg x (a2.mem_iff.mp N),?_,?_,?_,mM⟩
    .rw[aA];exact PySem.StrLaws.seqIndex_nonneg (by omega) (by omega)
    .rw[aA];exact bG (show t.length<1000 by omega) (by decide)
    .rw[lT ar,mM,N1]
    .exact (a3.upd_other X.1 X.2).upd_other G.1 G.2
    .exact λb o e g1 g2=>by rw[lT (mT e ac),lT (mT e z9)];exact aq b o (ao b o e g1 g2) g1 g2
   .rintro ys W ⟨t,M,rfl,an,bb,J,hg,aa,ag,ao,Z⟩;rw[aA,bU] at an;exact k R t W ac Z (by omega) (List.Nodup.sublist (List.sublist_append_left t M) J) (λx N=>hg x (bB _ N)) ag ao
end
noncomputable def M8:Aa Af:=["and","or","odd"]
structure ArOk (w:Str) (n:Nat):Prop where
 ok:(w∈M8/\(n=2\/n=3))\/(w = "most" /\ n=3)\/(w = "not" /\ n=1)\/(w = "one" /\ n=0)\/(w = "nil" /\ n=0)
structure Cel where
 ins:List Str
 gates:List (Str×Str×List Str)
 outs:List Str
def Cel.names (C:Cel):Aa Af:=C.ins++C.gates.map (·.1)
def DG (H:Hp) (a:Ad) (g:Af×Af×Aa Af):Prop:=∃ q,H a=some (.t [.str g.1,.str g.2.1,.ref q])/\H q=some (.t (g.2.2.map V.str))
abbrev MV (H:Hp):Aa Ad->Aa (Af×Af×Aa Af)->Prop:=Paired (DG H)
def qH:Aa Af->Aa (Af×Af×Aa Af)->Prop
 | _,[]=>True
 | kn,g::r=>ArOk g.2.1 g.2.2.length/\(∀ p∈g.2.2,p∈kn)/\qH (kn++[g.1]) r
def C1:RD:=λa b e=>∃ (d c:Ad) (m:Int),a=[d,c]/\b=[.r (.ref d),.int m]/\0<m/\m<4611686018427387904/\∀ r:Nat,(r:Int)<m->e (.v (.int r))
def Kz:RD:=λb e f=>∃ (d c:Ad) (m:Nat),b=[d,c]/\e=[.r (.ref d),.int m]/\m<=40/\∀ a:Aa Af,a.length=m->a.Nodup->(∀ x∈a,GoodName x)->f (.o (.l (a.map D.str)))
theorem Ki (h:Dk [d,c] H):DeckAt H d c:=by
 rcases h with h | ⟨b,a,e,h⟩
 .cases h
 .cases e;exact h
theorem Mm (k:nA d c H g):zF [d,c] H g:=λb o e n=>k b o e (λz=>n (by simp[z])) (λz=>n (by simp[z]))
theorem GH (D:DeckAt H d c) (h:H l=none):l∉[d,c]:=λz=>by
 have:=D.ned h;rcases aI.mp z with q | q
 .exact this.1 q
 .exact this.2 (by simpa using q)
section
variable {P:Ah}{K:lK}
theorem LU (F:FnOk P w K g base oD k f fd j Df):FnOk P w K g base oD k f fd j (xF K C1):=F.imp λN H Q E y=>by
 obtain⟨G,A,L,O,e,M,r,⟨d,c,m,s,t,u,v,h⟩,x⟩:=y;subst s t;cases r with
 | cons B r =>
  cases r with
  | cons D r =>
   cases r;have:=B.raw_inv;have:=D.int_inv;subst_vars;refine⟨d,c,m,rfl,Ki e,u,v,λr q a b i z=>?_⟩;obtain⟨n,rfl⟩:=eV a;exact x _ _ q (h n b) (Mm z) (.inr ⟨d,c,rfl,i⟩) (.int _)
theorem Vz (F:FnOk P w K g base oD k f fd j K1):FnOk P w K g base oD k f fd j (xF K Kz):=F.imp λR H Q E z=>by
 obtain⟨M,A,N,S,a,O,r,⟨d,c,m,t,u,x,h⟩,y⟩:=z;subst t u;cases r with
 | cons G r =>
  cases r with
  | cons L r =>
   cases r;have:=G.raw_inv;have:=L.int_inv;subst_vars;exact⟨d,c,m,rfl,Ki a,x,λl n s i b e D v q B=>y _ _ s (h n e D v) (Mm B) (.inr ⟨d,c,rfl,q⟩) ⟨l,rfl,i,GH (Ki a) i,_,b,Gr n⟩⟩
end
noncomputable def rG (g:Af×Af×Aa Af):D:=.t [.str g.1,.str g.2.1,.t (g.2.2.map D.str)]
def wF (C:Cel):D:=.t [.t (C.ins.map D.str),.t (C.gates.map rG),.t (C.outs.map D.str)]
def rW (p:Af×Af):D:=.t [.str p.1,.str p.2]
theorem lM (I:Aa Sl->Prop) (o:∀ N:Aa Sl->Prop,(∀ g,I g->N g)->t l { j with nx:=N } r) (p:∀ g,I g->u l j g):Jg t u l j r:=o _ p
theorem qR (p:Aa D) (l:Aa Sl) (r:∀ J:Aa D->Aa Sl->Prop,J p l->ι I ρ J) (Pv:Nat->Aa Sl->Prop) (T:Pv 0 l)
  (U:∀ (i:Nat) d j,p[i]?=some d->Pv i j->g d j λC=>tb I { nx:=Pv (i+1),ct:=Pv (i+1),bk:=o.nx,rt:=o.rt } C) (hd:∀ j,Pv p.length j->o.nx j):Sr ι g tb I o ρ:=r _ ⟨Pv,T,U,hd⟩
theorem vX {j:Type}{f:j->D}{g:Aa j}{i:Nat}{d:D}(h:(g.map f)[i]?=some d):∃ y,g[i]?=some y/\f y=d:=by
 rw[bD] at h;cases e:g[i]? with
 | none=>rw[e] at h;cases h
 | some y=>rw[e] at h;exact⟨y,rfl,bZ h⟩
theorem zS {lo:Int}(h:(oG lo n)[i]?=some d):i<n/\d = .int (lo+i):=by
 unfold oG at h;rw[bD] at h;cases e:(List.range n)[i]? with
 | none=>rw[e] at h;cases h
 | some y =>
  rw[e] at h;obtain⟨a,b⟩:=aV.mp e;rw[bU] at a;rw[jD] at b;subst b;exact⟨a,(bZ h).symm⟩
theorem Q0:∀ {l:Aa g}{n:Nat}{y:g},l[n]?=some y->l.Perm (y::l.eraseIdx n)
 | a::l,0,y,h=>by simp at h;subst h;exact .refl _
 | a::l,n+1,y,h=>by
  have:=Q0 (l:=l) (n:=n) (y:=y) (by simpa using h);rw[List.eraseIdx_cons_succ];exact (this.cons a).trans (.swap y a _)
theorem EV {n k:Nat}(h:k<n):seqIndex? (k:Int) n=some k:=by
 unfold seqIndex?;have:¬ ((k:Int)<0):=by omega
 simp[this,h]
end Lw
namespace L2
open PySem PySem.Spec PyProof.Rows Lw
section
variable {X:Cx}{K:lK}
def Jk (K:lK) (neg:Bool):R2:=λx y H Q=>Gu neg x y H Q\/J6 K neg x y H Q
theorem tX (g:X.A.units+64<cLine):mL X (compareOp .Eq) (Jk X.K false):=(show mL X (compareOp .Eq) (Gu false) from C3).or (O8 g)
theorem Ke (g:X.A.units+64<cLine):mL X (compareOp .NotEq) (Jk X.K true):=(show mL X (compareOp .NotEq) (Gu true) from EL).or (IR g)
def Ib (neg:Bool):O2:=λd e a=>match d,e with
 | .int i,.int j=>a (.v (.b (nb neg (decide (i=j)))))
 | .str i,.str j=>a (.v (.b (nb neg (decide (i=j)))))
 | .b i,.b j=>a (.v (.b (nb neg (decide (i=j)))))
 | .e,.int _=>a (.v (.b (nb neg false)))
 | .l c,.l []=>a (.v (.b (nb neg c.isEmpty)))
 | _,_=>False
theorem sA (neg:Bool):oP K (Jk K neg) (Ib neg):=by
 intro B L H d e x y A Q hd h m f k;cases d<;>first | exact False.elim f | skip<;>cases e<;>first | exact False.elim f | skip
 .cases h;cases m
  rename_i j
  have c:decide (V.e=V.int j)=false:=by simp
  exact .inl ⟨rfl,by rw[c];exact k _ _ H f (hd.pushF (.b _))⟩
 .cases h;cases m
  rename_i i j
  have c:decide (V.b i=V.b j)=decide (i=j):=by simp
  exact .inl ⟨rfl,by rw[c];exact k _ _ H f (hd.pushF (.b _))⟩
 .cases h;cases m
  rename_i i j
  have c:decide (V.int i=V.int j)=decide (i=j):=by simp
  exact .inl ⟨rfl,by rw[c];exact k _ _ H f (hd.pushF (.b _))⟩
 .cases h;cases m
  rename_i i j
  have c:decide (V.str i=V.str j)=decide (i=j):=by simp
  exact .inl ⟨rfl,by rw[c];exact k _ _ H f (hd.pushF (.b _))⟩
 .rename_i v w
  cases w with
  | cons _ _=>exact False.elim f
  | nil =>
  obtain⟨a,n,rfl,q,t⟩:=h.lst_inv;obtain⟨b,z,rfl,s,u⟩:=m.lst_inv;cases u;have c:v.isEmpty=n.isEmpty:=by cases t<;>rfl
  refine .inr ⟨a,b,n,rfl,rfl,hI.of q,hI.of s,?_⟩;rw[<- c];exact k _ _ H f (hd.pushF (.b _))
end
end L2
namespace Lw
open PySem L2
theorem Tx:∀ {gs:zL}{kn:Aa Af}{i:Nat}{g:Af×Af×Aa Af},qH kn gs->gs[i]?=some g->ArOk g.2.1 g.2.2.length/\∀ p∈g.2.2,p∈kn++(gs.take i).map (·.1)
 | a::r,kn,0,g,h,e=>by
  simp at e;subst e;exact⟨h.1,by simpa using h.2.1⟩
 | a::r,kn,i+1,g,h,e=>by
  obtain⟨b,c⟩:=Tx (gs:=r) (i:=i) h.2.2 (by simpa using e);exact⟨b,λp d=>by have:=c p d;simpa using this⟩
def Nn:RD:=λf b h=>∃ (d c:Ad) (a:Aa D),f=[d,c]/\(b=[.r (.ref d),.l a]\/b=[.r (.ref d),.t a])/\a.length<=1000/\∀ e,e.Perm a->h (.v (.l e))
def nV (z:Af):Aa Af:=(Txt.split z " ").filter λx=>nb true (decide (x = ""))
def Sd:RD:=λc a b=>∃ z:Af,a=[.str z]/\z.length<=1000/\(Txt.split z " ").length<=1000/\b (.o (.l ((nV z).map D.str)))
theorem EM:(["word"]:Aa Af).Nodup:=by decide +kernel
section
variable {P:Ah}{K:lK}
theorem nZ {P:Aa Af}(a:j.kind = .function:=by rfl) (b:j.isCoroutine=false:=by rfl) (c:j.isGenerator=false:=by rfl) (d:N.Nodup:=by decide +kernel) (e:N.take P.length=P:=by rfl) (f:∀ x∈P,j.names.lookup x=some .local\/j.names.lookup x=some .cell:=by decide +kernel) (g:∀ y∈j.names,y.2 ≠ .free:=by decide +kernel):L2.FnScope N P j:=⟨a,b,c,d,e,f,g⟩
theorem G2:FnScope ["deck","some","left","found"] ["deck","some"] (mA Dp):=nZ
theorem CY (T:Txt p) (g:Kn P w K p base 1 "_law_take" At ["deck","many"] C1) :
  nY P w K p base 2 "_law_shuffled" Dp ["deck","some"] Nn:=by
 refine oE (hlen:=λO B W ⟨_,_,_,_,e,_⟩=>by rcases e with e | e<;>(rw[e];rfl)) G2 λf M A z s H E O B W G Y Q=>?_
 obtain⟨d,c,i,rfl,e,X,u⟩:=Q;obtain⟨x,rfl,V⟩:∃ x,B=[.r (.ref d),x]/\(x = .l i\/x = .t i):=by
  rcases e with e | e
  .exact⟨_,e,.inl rfl⟩
  .exact⟨_,e,.inr rfl⟩
 refine⟨_,(hO (mH 2 G2.nd (pD Mv Qg T.list gC (dK (dT 1) gD))) (hO (mH 3 G2.nd (qF gD)) (hO (Rk iF (vV (Ke G.units) (sA true) (pv 2) (qF gD)) (lZ (tA (tP cC cJ cK tJ vD (pv 3) (dK (tP cC PySem.F.slot_list_pop PySem.F.type_list_pop Q5 LP (pv 2) (dK (mF g G (dK (dT 0) (dK (qA uQ uW T.len cU (zY (pv 2) gD)) gD))) gD)) gD))))) (lZ (nK (dT 3)))))),?_⟩;refine lM (λb=>b=[.v (.r (.ref d)),.v x,.o (.l i),.n]) (λN m=>?_) ?_
 .rcases V with rfl | rfl
  .exact⟨_,rfl,m _ rfl⟩
  .exact⟨_,rfl,m _ rfl⟩
 rintro _ rfl;refine⟨by show 0<=1000;decide,?_⟩;dsimp only;refine lM (λb=>∃ (q:Aa D),b=[.v (.r (.ref d)),.v x,.o (.l []),.o (.l q)]/\q.Perm i) (λN m=>?_) ?_
 .refine⟨λb=>∃ left found:Aa D,b=[.v (.r (.ref d)),.v x,.o (.l left),.o (.l found)]/\(found++left).Perm i,λ(b:Aa Sl)=>match b[2]? with | some (Sl.o (D.l l))=>l.length | _=>0,⟨i,[],rfl,.refl _⟩,?_⟩;rintro b ⟨left,found,rfl,k⟩;have h:=k.length_eq;rw[aW] at h;refine⟨rfl,by show 0<=1000;decide,?_⟩;cases left with
  | nil=>exact m _ ⟨found,rfl,by simpa using k⟩
  | cons x left =>
   rw[bJ] at h;refine⟨rfl,rfl,rfl,rfl,_,rfl,d,c,_,rfl,rfl,by show (0:Int)<((x::left).length:Nat);simp only[bJ];omega,by show ((x::left).length:Int)<4611686018427387904;simp only[bJ];omega,λj R=>⟨.inr rfl,?_⟩⟩;have a:j<(x::left).length:=by have:(j:Int)<((x::left).length:Nat):=R;omega
   obtain⟨y,L⟩:∃ y,(x::left)[j]?=some y:=⟨_,aD a⟩;have S:=List.length_eraseIdx_of_lt a;refine⟨j,y,by simp only[bJ] at a;omega,by simp only[bJ] at a;omega,EV a,L,by show found.length<100000;omega,⟨(x::left).eraseIdx j,found++[y],rfl,?_⟩,?_⟩
   .rw[bH];exact ((Q0 L).symm.append_left found).trans k
   .show ((x::left).eraseIdx j).length<(x::left).length;omega
 .rintro b ⟨q,rfl,k⟩;exact u q k
end
def Hf (w:Af) (n:Nat):Bool:=(decide (w∈M8)&&(n == 2||n == 3))||((w == "most")&&(n == 3))||((w == "not")&&(n == 1))||((w == "one")&&(n == 0))||((w == "nil")&&(n == 0))
theorem U1 (h:Hf w n=true):ArOk w n:=by
 unfold Hf at h;simp only[Bool.or_eq_true,cB,eL,jC] at h;rcases h with (((h | h) | h) | h) | h
 .exact⟨.inl h⟩
 .exact⟨.inr (.inl h)⟩
 .exact⟨.inr (.inr (.inl h))⟩
 .exact⟨.inr (.inr (.inr (.inl h)))⟩
 .exact⟨.inr (.inr (.inr (.inr h)))⟩
def Dd:Aa Af->zL->Bool
 | _,[]=>true
 | kn,g::r=>Hf g.2.1 g.2.2.length&&(g.2.2.all (λp=>decide (p∈kn))&&Dd (kn++[g.1]) r)
theorem P6:∀ {j:zL}{kn:Aa Af},Dd kn j=true->qH kn j
 | [],_,_=>trivial
 | g::r,kn,h=>by
  unfold Dd at h;simp only[cB,bY,eL] at h;exact⟨U1 h.1,h.2.1,P6 h.2.2⟩
theorem qH.more:∀ {l:zL}{kn j:Aa Af},(∀ x∈kn,x∈j)->qH kn l->qH j l
 | [],_,_,_,_=>trivial
 | g::r,kn,j,h,ok=>⟨ok.1,λp a=>h p (ok.2.1 p a),qH.more (λx b=>by
  rcases bE.mp b with q | q
  .exact bB _ (h x q)
  .exact bA _ q) ok.2.2⟩
noncomputable def ren (f:Af->Af) (g:Af×Af×Aa Af):Af×Af×Aa Af:=(f g.1,g.2.1,g.2.2.map f)
theorem qH.ren (f:Af->Af):∀ {j:zL}{kn:Aa Af},qH kn j->qH (kn.map f) (j.map (Lw.ren f))
 | [],_,_=>trivial
 | g::r,kn,ok=>by
  refine⟨by show ArOk g.2.1 (g.2.2.map f).length;rw[aA];exact ok.1,λp a=>?_,?_⟩
  .obtain⟨q,b,rfl⟩:=aH.mp a;exact aH.mpr ⟨q,ok.2.1 q b,rfl⟩
  .have:=qH.ren f ok.2.2;rw[aZ] at this;exact this
theorem yX (h:x∈t.map (·.1)):uZ (.k (mJ t)) (.str x)=some (some (.str (mI t x))):=by
 show some (mG (mJ t) (Sum.inr x))=_;rw[(Jm t x).1 h]
theorem Qf:∀ {l:Aa Af}{g:Aa D},g.Perm (l.map D.str)->∃ j:Aa Af,j.Perm l/\g=j.map D.str:=by
 intro l g h;have key:∀ (g:Aa D),(∀ y∈g,∃ x:Af,y=D.str x)->∃ j:Aa Af,g=j.map D.str:=by
  intro g;induction g with
  | nil=>exact λ_=>⟨[],rfl⟩
  | cons y g c =>
   intro h;obtain⟨x,rfl⟩:=h y aF;obtain⟨j,rfl⟩:=c λz b=>h z (aL _ b)
   exact⟨x::j,rfl⟩
 obtain⟨j,rfl⟩:=key g λy a=>by
  obtain⟨x,_,rfl⟩:=aH.mp (h.mem_iff.mp a);exact⟨x,rfl⟩
 refine⟨j,?_,rfl⟩;have:=h.map (λd=>match d with | D.str x=>x | _=>("" : Af))
 simpa [gU] using this
theorem FE (h:g.Perm (l.map rW)):∃ j:Aa (Af×Af),j.Perm l/\g=j.map rW:=by
 have key:∀ (g:Aa D),(∀ y∈g,∃ x:Af×Af,y=rW x)->∃ j:Aa (Af×Af),g=j.map rW:=by
  intro g;induction g with
  | nil=>exact λ_=>⟨[],rfl⟩
  | cons y g c =>
   intro h;obtain⟨x,rfl⟩:=h y aF;obtain⟨j,rfl⟩:=c λz b=>h z (aL _ b)
   exact⟨x::j,rfl⟩
 obtain⟨j,rfl⟩:=key g λy a=>by
  obtain⟨x,_,rfl⟩:=aH.mp (h.mem_iff.mp a);exact⟨x,rfl⟩
 refine⟨j,?_,rfl⟩;have:=h.map (λd=>match d with | D.t [D.str x,D.str y]=>(x,y) | _=>(("" : Af),("" : Af)))
 simpa [gU,rW] using this
theorem KD {n:Nat}{j:Aa Nat}{g:sK}{te:mE}{dk:Aa Ad}{Φ:Sl->Aa Sl->Prop}{α:Type}(U:Aa α) (I T:α->D) (p:Aa Sl) (hl:U.length<=100000)
  (hs:∀ (i:Nat) x (C:Aa D) (Nx:Aa D->Aa Sl->Prop),U[i]?=some x->C.length<100000->Nx (C++[T x]) (nS j p)->g (I x) (List.replicate n Sl.n++nS j p) λaa=>te dk aa λr ab=>match sd r with
   | some c=>C.length<100000/\Nx (C++[c]) (ab.drop n)
   | none=>False)
  (ae:Φ (.o (.l (U.map T))) (oU j (nS j p) p)):∃ Pv:Nat->Aa D->Aa Sl->Prop,Pv 0 [] (nS j p) /\
   (∀ i d C J,(U.map I)[i]?=some d->J.length=j.length->Pv i C J->g d (List.replicate n Sl.n++J) λaa=>Ka dk aa λb ac=>if b=true then te dk ac λr ab=>match sd r with
    | some c=>C.length<100000/\Pv (i+1) (C++[c]) (ab.drop n)
    | none=>False
    else Pv (i+1) C (ac.drop n)) /\
   ∀ C J,J.length=j.length->Pv (U.map I).length C J->Φ (.o (.l C)) (oU j J p) :=
 pH (ι:=λ_ _ a=>a (U.map I) p) (dk:=dk) (ρ:=[]) U I T p (λa h=>h) hl hs ae
end Lw
namespace L2
open PySem PySem.Spec PyProof.Rows Lw
def Q1:RM:=λx d H Q=>∃ (a b:Ad) (c more:Aa (eF×V)),x = .ref a/\d=[.ref b]/\a≠b/\H a=some (.k c)/\H b=some (.k more)/\c.length+more.length<=1000/\Q .e (upd H a (.k (pU c more)))
section
variable {X:Cx}{K:lK}
theorem Yy:uK X "dict.update" Q1:=by
 intro n s Z H x V v S Q I G E h;obtain⟨a,b,c,more,rfl,rfl,ne,m,B,O,q⟩:=h;cases G;obtain⟨u,rfl,D⟩:=oS E;cases D;obtain⟨W,L,i,t,k⟩:=zE I.hok m;obtain⟨Y,M,f,y,z⟩:=zE I.hok B;have P:c.length=i.length:=fN t;have R:more.length=f.length:=fN y;have d:i.length+f.length<=sizeLine:=bP (show _<=1000 by omega) (by decide);refine call_meetsIn F.slot_dict_update k.typeIs F.entry_dict_update (F.args_dict_update_2 _ _) (meets_dict_update (oM X.prog X.w) a b ne M) ⟨i,f,k,z,d,λA d1 _ sm=>?_⟩;have N:(pU c more).length<=sizeLine:=by
  have:=B2 more c;exact bP (show (pU c more).length<=1000 by omega) (by decide)
 have there:∃ o,A.get? a=some o:=let ⟨o,_,_,e,_⟩:=d1;⟨o,e⟩;exact⟨.e,_,Ct I (by rw[m];exact True.intro) sm there (zP N L (y.merge t) d1),rfl,q⟩
def JS:OW:=λc d f=>match c,d with
 | .k a,[.k b]=>a.length+b.length<=1000/\f .e (.k (oX a b))
 | _,_=>False
theorem AJ:wO K Q1 JS:=by
 intro A H a c G L M Q w E rd f k;cases c<;>first | exact False.elim f | skip
 cases rd with
 | nil=>exact False.elim f
 | cons B rd =>
 rename_i d _ _ _
 cases d<;>first | exact False.elim f | skip
 cases rd with
 | cons _ _=>exact False.elim f
 | nil =>
 .obtain⟨i,h,e,r⟩:=E
  .obtain⟨b,m,rfl,s,q,n,D⟩:=B.dK_inv;have u:=dD List.length e;have v:=dD List.length n;simp only[aA] at u v;refine⟨a,b,i,m,rfl,rfl,λz=>w (z▸s),h,q,by have:=f.1;omega,k _ _ _ _ f.2 .e λF t=>?_⟩;obtain⟨x,y⟩:=Fo n D e r;exact⟨_,mM,x,y.mono t⟩
end
end L2
namespace PySem
open PyProof.Rows L2
section
variable {s:Ae}
theorem L7 (calm:A.handled=none) (l:∀ g e,(∀ b o,s.heap.get? b=some o->g.get? b=some o)->(∃ o,g.get? e=some o/\o.cls = .type "StopIteration")->E (.ref e) { s with heap:=g }) :
  wpAny (model j w) A (do raiseNew (<- newExc (.type "StopIteration") [])) Q E s:=by
 have c:firstArgMember (.type "StopIteration") []=pure Value.none:=by first | rfl | (simp only[firstArgMember];rfl)
 have made:wpAny (model j w) A (newExc (.type "StopIteration") []) (λv d=>∃ e g,v = .ref e/\d={ s with heap:=g }/\(∀ b o,s.heap.get? b=some o->g.get? b=some o)/\∃ o,g.get? e=some o/\o.cls = .type "StopIteration") E s:=by
  unfold newExc newTuple;refine aB (eK ?_ (by size_fits));refine aB (dR c ?_);exact eK ⟨_,_,rfl,rfl,λb o z=>aG _ (aG _ z),_,aX _ rfl,rfl⟩ (by size_fits)
 refine aB (cX made (λv d a=>?_) λ_ _ z=>z);obtain⟨e,g,h,f,k,t⟩:=a;subst h f;unfold raiseNew;refine aB (wpAny_handled ?_);rw[calm];exact aB (aE (wpAny_throw (l g e k t)))
theorem Ql (x:s.heap.IsTupleIter g t i):∃ o,s.heap.get? g=some o/\o.data = .fields #[.ref t,.int i 0]/\s.TypeIs (.ref g) "tuple_iterator" /\ o.cls = .type "tuple_iterator" := by
 obtain⟨o,a,b,c⟩:=x;exact⟨o,a,c,⟨o,a,b⟩,b⟩
theorem Yp {h:Ag}{g t:Ad}{i:Nat}{o:Obj}(a:h.get? g=some o) (b:o.cls = .type "tuple_iterator") (c:o.data = .fields #[.ref t,.int i 0]):(h.update g (Obj.mapFields (·.setIfInBounds 1 (rawInt ((i:Int)+1))))).IsTupleIter g t (i+1):=by
 refine⟨_,fH _ a (Obj.isFreed_of_fields (jE c _)),?_,?_⟩
 .rw[Obj.cls_mapFields];exact b
 .rw[jE c];simp[rawInt]
end
structure RawD (h:Heap) (d:Addr) (o:Obj) (es:Array DictEntry) (ep:Nat):Prop where
 low:(d == sysModules)=false
 get:h.get? d=some o
 ex:o.ExactDict
 dat:o.data = .dict es ep
section
variable {s:Ae}
theorem RawD.ty (r:RawD s.heap d o j g):s.TypeIs (.ref d) "dict" := ⟨o,r.get,r.ex.1⟩
theorem Ux (r:RawD s.heap d o l j) (q:Q (.ref s.heap.objs.size) { s with heap:=s.heap.push { cls:=.type "dict_keyiterator",data:=.fields #[.ref d,.int 0 0,.int l.size 0,.int j 0] } }) :
  wpAny (model g w) A (pyIter (.ref d)) Q E s:=by
 have fresh:∀ h:Ag,h=s.heap.push { cls:=.type "dict_keyiterator",data:=.fields #[.ref d,rawInt 0,rawInt l.size,rawInt j] }->Shared.TypeIs { s with heap:=h } (.ref s.heap.objs.size) "dict_keyiterator" := λh e=>by
  subst e;exact⟨_,aX _ rfl,rfl⟩
 have body:wpAny (model g w) A.in1 (Builtin.«dict.__iter__» ⟨[.ref d],[]⟩) (λr c=>r = .done (.ret (.ref s.heap.objs.size))/\c={ s with heap:=s.heap.push { cls:=.type "dict_keyiterator",data:=.fields #[.ref d,rawInt 0,rawInt l.size,rawInt j] } }) E s:=by
  have self:wpAny (model g w) A.in1 (Builtin.Dict.dictSlotNone "__iter__" ⟨[.ref d],[]⟩) (λv c=>v = .ref d/\c=s) E s:=aB (iH r.ty (aE ⟨rfl,rfl⟩));refine aB (cX self (λv c a=>?_) λ_ _ z=>z);obtain⟨f,i⟩:=a;subst f i;have b:Builtin.Dict.showsAll d=pure ():=by unfold Builtin.Dict.showsAll;simp[r.low]
  refine aB (dR (show Builtin.Dict.addrOf (.ref d)=pure d from rfl) (aB (dR b ?_)));exact aB (fB r.get r.dat (aB (iZ r.get r.dat (aB (eK (aE ⟨rfl,rfl⟩))))))
 refine wpAny_pyIter_slot r.ty F.slot_dict_iter (cY F.slot_dict_iter r.ty F.entry_dict_iter (cX body (λv c a=>?_) λ_ _ z=>z) (F.args_dict_iter_1 _));obtain⟨f,i⟩:=a;subst f i;refine⟨_,rfl,"dict_keyiterator",_,fresh _ rfl,eO.lookup,?_⟩;exact q
theorem FW (r:RawD s.heap d o j p) (I:s.heap.IsKeyIter g d i j.size p) (J:i<j.size) (q:∀ C,C.IsKeyIter g d (i+1) j.size p->Heap.SameBut g s.heap C->Q (some j[i].key) { s with heap:=C }) :
  wpAny (model l w) A (pyNext (.ref g)) Q E s:=by
 obtain⟨u,f,n,h⟩:=id I;have ty:s.TypeIs (.ref g) "dict_keyiterator" := ⟨u,f,n⟩;have plain:Builtin.Dict_items.ownsTuple "dict_keyiterator" = false:=by decide
 have c:∀ {E:Ac->Ae->Prop} {b:Ae} {k:Nat->Ae->Prop},b.TypeIs (.ref g) "dict_keyiterator" -> k 0 b->wpAny (model l w) A.in1 (do return if Builtin.Dict_items.ownsTuple (<- typeNameOfWhole (.ref g)) then 2 else 0) k E b:=λt z =>
  aB (wpAny_typeNameOfWhole_keyiter t (by rw[plain];exact aE z))
 let e:=s.heap.update g (Obj.mapFields (·.setIfInBounds 1 (rawInt ((i:Int)+1))));have m:e.IsKeyIter g d (i+1) j.size p:=by
  refine⟨_,fH _ f (Obj.isFreed_of_fields (jE h _)),?_,?_⟩
  .rw[Obj.cls_mapFields];exact n
  .rw[jE h];simp[rawInt]
 have body:wpAny (model l w) A.in1 (Builtin.«dict_keyiterator.__next__» ⟨[.ref g],[]⟩) (λx b=>x = .done (.ret j[i].key)/\b={ s with heap:=e }) (λ_ _=>False) s:=by
  refine aB (aE ?_);refine aB (aB (c ty ?_));refine aB (wpAny_fieldsOf f h ?_);have a:¬ ((Value.ref d == Value.none)=true):=aT;show wpAny _ _ (if (Value.ref d == Value.none)=true then _ else _) _ _ s;rw[aJ a];refine aB (aE (aB (fB r.get r.dat ?_)));rw[aJ (by simp)];refine aB (aE (aB (iZ r.get r.dat ?_)));rw[aJ (by simp)];refine aE ?_;have row:(if (i:Int)<0 then none else j[(i:Int).toNat]?)=some j[i]:=by
   rw[aJ (by omega),cR,cE J]
  dsimp only;rw[row];refine aB (c ty ?_);refine aB (wpAny_isOneOf_keyiter ty ?_);change wpAny _ _ (setField (.ref g) 1 (rawInt ((i:Int)+1)) >>= _) _ _ s;refine aB (kN f h (by simp) ?_);refine aB (bT (aB (wpAny_isOneOf_keyiter (s:={ s with heap:=e }) m.typeIs ?_)));exact aE (aE ⟨rfl,rfl⟩)
 unfold pyNext;refine aB (fP (cL (name:=Str.ofString "__next__") ty eO (cY eO ty F.entry_dict_keyiterator_next (cX body (λx b ⟨v,y⟩=>?_) λ_ _ z=>z.elim) (F.args_dict_keyiterator_next_1 _))));subst v y;exact⟨_,rfl,aE (q e m (cG ..))⟩
theorem U6 (calm:A.handled=none) (r:RawD s.heap d o p C) (I:s.heap.IsKeyIter l d p.size p.size C) (q:∀ g,Heap.ExtBut l s.heap g->Q none { s with heap:=g }) :
  wpAny (model j w) A (pyNext (.ref l)) Q E s:=by
 obtain⟨u,h,M,m⟩:=id I;have ty:s.TypeIs (.ref l) "dict_keyiterator" := ⟨u,h,M⟩;have plain:Builtin.Dict_items.ownsTuple "dict_keyiterator" = false:=by decide
 have f:∀ {n:Ac->Ae->Prop} {c:Ae} {i:Nat->Ae->Prop},c.TypeIs (.ref l) "dict_keyiterator" -> i 0 c->wpAny (model j w) A.in1 (do return if Builtin.Dict_items.ownsTuple (<- typeNameOfWhole (.ref l)) then 2 else 0) i n c:=λt z =>
  aB (wpAny_typeNameOfWhole_keyiter t (by rw[plain];exact aE z))
 have body:wpAny (model j w) A.in1 (Builtin.«dict_keyiterator.__next__» ⟨[.ref l],[]⟩) (λ_ _=>False) (λv c=>∃ e g,v = .ref e/\c={ s with heap:=g }/\Heap.ExtBut l s.heap g/\∃ o,g.get? e=some o/\o.cls = .type "StopIteration") s:=by
  refine aB (aE ?_);refine aB (aB (f ty ?_));refine aB (wpAny_fieldsOf h m ?_);have a:¬ ((Value.ref d == Value.none)=true):=aT;show wpAny _ _ (if (Value.ref d == Value.none)=true then _ else _) _ _ s;rw[aJ a];refine aB (aE (aB (fB r.get r.dat ?_)));rw[aJ (by simp)];refine aB (aE (aB (iZ r.get r.dat ?_)));rw[aJ (by simp)];refine aE ?_;have row:(if ((p.size:Nat):Int)<0 then none else p[((p.size:Nat):Int).toNat]?)=none:=by
   rw[aJ (by omega),cR,gB (aP _)]
  dsimp only;rw[row];refine aB (f ty (aB (kN h m (by simp) ?_)));exact L7 calm λg e k z=>⟨e,g,rfl,rfl,λx o L K=>k x o ((cG ..).extBut x o L K),z⟩
 unfold pyNext;refine aB (fP (cL (name:=Str.ofString "__next__") ty eO (cY eO ty F.entry_dict_keyiterator_next (cX body (λ_ _ z=>z.elim) λv c ⟨e,g,y,B,D,o,G,H⟩=>?_) (F.args_dict_keyiterator_next_1 _))));subst y B;exact aB (dN (T := "StopIteration") (b:=true) ⟨o,G,H⟩ isSubtype_stop (aE (q g D)))
end
end PySem
namespace L2
open PySem PySem.Spec PyProof.Rows Lw
theorem Od {F:l->o->Prop}:∀ {g:Aa l}{j:Aa o}{i:Nat}{a:l},Paired F g j->g[i]?=some a->∃ b,j[i]?=some b/\F a b
 | _,_,_,_,.nil,h=>by simp at h
 | _,_,0,_,.cons x r,h=>by simp at h;subst h;exact⟨_,by simp,x⟩
 | _,_,i+1,a,.cons x r,h=>by
  obtain⟨b,c,d⟩:=Od (i:=i) r (by simpa using h);exact⟨b,by simpa using c,d⟩
section
variable {X:Cx}
noncomputable def Hi:eF->D
 | .inl i=>.int i
 | .inr x=>.str x
theorem Ha {K:lK}:∀ k:Aa eF,Reps K A H (k.map Hi) (k.map kV)
 | []=>.nil
 | .inl i::k=>.cons (.int i) (Ha k)
 | .inr x::k=>.cons (.str x) (Ha k)
def Bl (g:Aa (Aa eF×D)):Aa D:=g.map λp=>.t (p.1.map Hi)
end
end L2
namespace PySem
open PyProof.Rows L2
section
theorem MH (I:s.heap.IsTupleIter j t i) (T:s.heap.IsTuple t C) (J:C[i]?=some x) (q:∀ g,g.IsTupleIter j t (i+1)->Heap.SameBut j s.heap g->Q x { s with heap:=g }) :
  wpAny (model l w) A (Builtin.SmallTypes.nextOf (.ref j)) Q E s:=by
 obtain⟨o,a,c,ty,b⟩:=Ql I;obtain⟨p,m,v,n,u⟩:=id T;have body:wpAny (model l w) A.in1 (Builtin.«tuple_iterator.__next__» ⟨[.ref j],[]⟩) (λr d=>∃ g,r = .done (.ret x)/\d={ s with heap:=g }/\g.IsTupleIter j t (i+1)/\Heap.SameBut j s.heap g) E s:=by
  show wpAny _ _ (field (.ref j) 0 >>= _) _ _ s;refine aB (dQ a c (x:=.ref t) rfl ?_);refine (show wpAny _ _ (field (.ref j) 1 >>= _) _ _ s from aB (dQ a c (x:=.int i 0) rfl (aB (fR m u ?_))));simp only[cR,J];exact aB (kN a c (by simp) (aE ⟨_,rfl,rfl,Yp a b c,cG ..⟩))
 unfold Builtin.SmallTypes.nextOf;refine aB (cL (name:=Str.ofString "__next__") ty gH (cY gH ty F.entry_tuple_iterator_next (cX body (λr d ⟨g,e,f,h,k⟩=>?_) λ_ _ z=>z) (F.args_tuple_iterator_next_1 _)));subst e f;exact⟨x,rfl,aE (q g h k)⟩
theorem II (calm:A.handled=none) (I:s.heap.IsTupleIter j t i) (T:s.heap.IsTuple t C) (r:C[i]?=none)
  (q:∀ g e,Heap.ExtBut j s.heap g->(∃ o,g.get? e=some o/\o.cls = .type "StopIteration")->E (.ref e) { s with heap:=g }):wpAny (model l w) A (Builtin.SmallTypes.nextOf (.ref j)) Q E s:=by
 obtain⟨o,a,c,ty,b⟩:=Ql I;obtain⟨p,f,m,n,h⟩:=id T;have body:wpAny (model l w) A.in1 (Builtin.«tuple_iterator.__next__» ⟨[.ref j],[]⟩) (λ_ _=>False) E s:=by
  show wpAny _ _ (field (.ref j) 0 >>= _) _ _ s;refine aB (dQ a c (x:=.ref t) rfl ?_);refine (show wpAny _ _ (field (.ref j) 1 >>= _) _ _ s from aB (dQ a c (x:=.int i 0) rfl (aB (fR f h ?_))));simp only[cR,r];refine aB (jB (aB (kN a c (by simp) ?_)));exact L7 calm λg e k z=>q g e (λx o d r=>k x o ((cG ..).extBut x o d r)) z
 unfold Builtin.SmallTypes.nextOf;exact aB (cL (name:=Str.ofString "__next__") ty gH (cY gH ty F.entry_tuple_iterator_next (cX body (λ_ _ z=>z.elim) λ_ _ z=>z) (F.args_tuple_iterator_next_1 _)))
def Du (z TI TO:Ad) (E:Ac->Ae->Prop):Ac->Ae->Prop:=λe a=>IsZip a.heap z TI TO .ellipsis/\∀ b,Heap.SameBut z a.heap b->E e { a with heap:=b }
theorem Tl {z TI TO:Ad}{a b p q:Ac}{Q:Ac->Ae->Prop}(J:IsZip s.heap z TI TO .none) (aa:IsPair s.heap TI a b)
  (go:∀ C,IsZip C z TI TO .ellipsis->Heap.SameBut z s.heap C->wpAny (model g w) A (Builtin.SmallTypes.nextOf a) (λx T=>IsPair T.heap TO p q/\∀ I,IsPair I TO x q->Heap.SameBut TO T.heap I ->wpAny (model g w) A (Builtin.SmallTypes.nextOf b) (λy U=>IsPair U.heap TO x q/\∀ j,IsPair j TO x y->Heap.SameBut TO U.heap j->IsZip j z TI TO .ellipsis /\ ∀ r,IsZip r z TI TO (rawInt j.objs.size)->IsPair r j.objs.size x y->r.objs.size=j.objs.size+1->(∀ c o,c≠z->j.get? c=some o->r.get? c=some o)->Q (.ref j.objs.size) { U with heap:=r }) (Du z TI TO E) { T with heap:=I }) (Du z TI TO E) { s with heap:=C }) :
  wpAny (model g w) A (Builtin.«zip.__next__» ⟨[.ref z],[]⟩) (λfin l=>∃ v,fin = .done (.ret v)/\Q v l) E s:=by
 have free:wpAny (model g w) A (Builtin.SmallTypes.ownedTupleIsFree (.ref z)) (λx l=>x=true/\l=s) E s:=aB (dQ J rfl (x:=.none) rfl (aE ⟨rfl,rfl⟩));have back:∀ {i:Type} {m:Sem i} {R:i->Ae->Prop} {l:Ae},wpAny (model g w) A m R (Du z TI TO E) l->wpAny (model g w) A (m.onRaise λ_=>setField (.ref z) 0 .none) R E l:=λ{i m R l} h =>
  wpAny_onRaise (cX h (λ_ _ z=>z) λe Y ⟨d,K⟩=>iD d (by simp) λr _ O=>K r O)
 unfold Builtin.«zip.__next__»;refine aB (aE (aB (dQ J rfl (x:=.bool false) rfl (aB (dQ J rfl (x:=.ref TI) rfl (aB (fR aa rfl ?_)))))));refine aB (lA free ?_);rintro _ l ⟨rfl,rfl⟩;simp only[gA];refine aB (jB (aB (dQ J rfl (x:=.ref TO) rfl (aB (iD J (by simp) λC P d=>?_)))));simp only[List.zipIdx_cons,List.zipIdx_nil,jY,List.forIn_nil,bind_assoc];refine aB (back (aB (lA (go C P d) λx T ⟨B,g2⟩=>aE ?_)));refine aB (aB (fR B rfl (aB (wpAny_updateSeq_pair B λI N L=>aB (wpAny_letGo (aE ?_))))));refine aB (aB (back (aB (lA (g2 I N L) λy U ⟨D,H⟩=>aE ?_))));refine aB (aB (fR D rfl (aB (wpAny_updateSeq_pair D λj F M=>aB (wpAny_letGo (aE (aE ?_)))))));obtain⟨G,fin⟩:=H j F M;have f:z<j.objs.size:=aU G;refine aB (fR F rfl (aB (wpAny_newTuple ?_ (hsz:=(show 2<=sizeLine by decide)))));have S:IsZip (j.push (seqObj "tuple" #[x,y] 0)) z TI TO .ellipsis:=aG _ G;refine aB (show wpAny _ _ (setField (.ref z) 0 (rawInt j.objs.size) >>= λ_=>setField (.ref z) 1 (.bool false)) _ _ _ from aB (iD S (by simp) λX V t=>iD V (by simp) λk W u=>?_));have up:∀ c o,c≠z->(j.push (seqObj "tuple" #[x,y] 0)).get? c=some o->k.get? c=some o:=λc o n e=>u.extBut _ _ n (t.extBut _ _ n e)
 refine aE ⟨_,rfl,fin k W (up _ _ (hZ f) (aX _ rfl)) (by rw[u.1,t.1,dX]) λc o n e=>up c o n (aG _ e)⟩
end
def A5 (a b:Ac):Obj:={ cls:=.type "tuple",data:=.seq #[a,b] }
def P1 (a b:Ad):Obj:={ cls:=.type "zip",data:=.fields #[.none,.bool false,.bool false,.ref a,.ref b] }
end PySem
namespace L2
open PySem PySem.Spec PyProof.Rows Lw
section
variable {X:Cx}{K:lK}
def vo (i:Nat):mE:=λ_ a b=>match a[i]? with
 | some (.o d)=>b (.o d) (a.set i .n)
 | _=>False
theorem Dg (i:Nat) (h:PE X (.Name x pos) (pJ i)):PD X (.Name x pos) (vo i):=h.mono λG H Q q=>q.elim λB E T F m hd c k=>by
 unfold vo at c;cases f:E[i]? with
 | none=>rw[f] at c;exact False.elim c
 | some s =>
 rw[f] at c;cases s<;>first | exact False.elim c | skip
 .rename_i d
  obtain⟨a,y,b,t,_,z,e⟩:=sZ m f;have u:=e .n y;rw[yY t] at u;obtain⟨v,w,_⟩:=hd.peek m (d:=d) (i:=i) (by unfold at?;rw[f];rfl);rw[t] at w;cases w;refine⟨v,t,k _ _ v H (by rw[bL];exact m) ?_ c⟩;rw[z,bH,cD] at hd;rw[u,bH,cD];have d1:DS X.K B ((.o d,some v)::(a++(b++T))) H:=hd.perm gZ;have d2:DS X.K B (((.o d,some v)::a)++(Sl.n,some v)::(b++T)) H:=DS.pushN (L1:=(.o d,some v)::a) (L2:=b++T) d1 (some v);refine d2.perm ?_;have A:(((Sl.o d,some v)::a)++(Sl.n,some v)::(b++T)).Perm ((Sl.o d,some v)::(a++(Sl.n,some v)::b++T)):=by simp
  refine A.trans ?_;have D:((Sl.o d,some v)::(a++(Sl.n,some v)::b++T)).Perm ((a++(Sl.n,some v)::b)++(Sl.o d,some v)::T):=gZ.symm;refine D.trans (by simp)
end
section
variable {X:Cx}
def HE (l g:mE):mE:=λc i h=>l c i λe a=>g c a λf b=>match sd e,sd f with
 | some k,some d=>∃ j,rD k=some j/\h (.o (.k [(j,d)])) b
 | _,_=>False
theorem FG (g:PD X r J) (l:PD X C I):PD X (.Dict [some r] [C] pos) (HE J I) :=
 (ME (MM g l CK) rfl rfl (by simp) (show 1<=15 by decide)).mono λO H Q h=>h.elim λB u T W A hd E k=>by
  intro p D;have f:DS X.K B (u.zip O++(.o (.k []),some (.ref p))::T) (upd H p (.k [])):=DS.mid (DS.dKF hd D rfl .nil);refine⟨B,u,(.o (.k []),some (.ref p))::T,_,A,f,E,λs i x R G d1 w=>⟨B,i,(s,some x)::(.o (.k []),some (.ref p))::T,_,G,d1,w,λN m y S L d2 b=>?_⟩⟩;cases c:sd s with
  | none=>rw[c] at b;exact False.elim b
  | some V =>
   cases e:sd N with
   | none=>rw[c,e] at b;exact False.elim b
   | some d =>
    rw[c,e] at b;obtain⟨j,z,b⟩:=b;obtain⟨n,M,q⟩:=d2.two c e;obtain⟨a,v,t,l,g,_⟩:=n.ownAt;cases v;have:t=[]:=by
     cases t with
     | nil=>rfl
     | cons _ _=>cases g
    subst this;obtain rfl:=zZ z M.peek;refine⟨l,[(j,y)],rfl,(show 1<=15 by decide),k _ m _ _ L ?_ b⟩;rw[pS] at q;exact n.write λP F=>⟨[(j,y)],mM,rfl,.cons (q.mono F) .nil⟩
end
end L2
namespace Lw
open PySem L2
def vT (t:mO):Aa (eF×V):=t.map λp=>(Sum.inr p.1,V.int p.2)
noncomputable def xI (t:mO) (x:Af) (i:Int):mO:=if x∈t.map (·.1) then t.map (λp=>if p.1=x then (p.1,i) else p) else t++[(x,i)]
theorem Qe (t:mO) (x:Af) (i:Int):mP (hG t) (Sum.inr x) (.int i)=hG (xI t x i):=by
 unfold mP xI;have e:((hG t).any λa=>decide (a.1=(Sum.inr x:eF)))=decide (x∈t.map (·.1)):=by
  rw[iE];simp only[hG,kX,cN,gU,eL,aH,Sum.inr.injEq]
 rw[e];by_cases h:x∈t.map (·.1)
 .rw[aO (bQ h),aO h];unfold hG;rw[aK,aK];refine bO λp _=>?_
  show (if (Sum.inr p.1:eF)=Sum.inr x then ((Sum.inr p.1:eF),D.int i) else (Sum.inr p.1,D.int p.2))=(Sum.inr (if p.1=x then (p.1,i) else p).1,D.int (if p.1=x then (p.1,i) else p).2);by_cases q:p.1=x
  .rw[aO (by rw[q]),aO q]
  .rw[aJ (λz=>q (gQ z)),aJ q]
 .rw[aJ (by simp[h]),aJ h];unfold hG;rw[List.map_append];rfl
theorem V5 (t u:mO) (x:Af):lS (t++u) x=if x∈t.map (·.1) then lS t x else lS u x:=by
 induction t with
 | nil=>rw[fF,aJ (by simp)]
 | cons p t a =>
  rw[cD,xW,xW];by_cases e:p.1=x
  .rw[aO e,aO e,aO (by rw[<- e];exact aF)]
  .rw[aJ e,aJ e,a,aM];by_cases q:x∈t.map (·.1)
   .rw[aO q,aO (aL _ q)]
   .rw[aJ q,aJ (λz=>(aI.mp z).elim (λz=>e z.symm) q)]
theorem AT {K:lK}:∀ (t:mO) (g:Aa (eF×V)),(hG t).map (·.1)=g.map (·.1)->Reps K A H ((hG t).map (·.2)) (g.map (·.2))->g=vT t:=λt=>by
 induction t with
 | nil =>
  intro g k r;cases g with
  | nil=>rfl
  | cons p q=>simp[hG] at k
 | cons p t d =>
  intro g k r;cases g with
  | nil=>simp[hG] at k
  | cons q g =>
   obtain⟨e,i⟩:=q;simp only[hG,aM,fU] at k r;cases r with
   | cons f h =>
    have a:=d g k.2 h;have b:=f.int_inv;have c:Sum.inr p.1=e:=k.1;subst a b c;rfl
theorem Gn {K:lK}(h:Rep K A H (.k (hG t)) v):∃ a,v = .ref a/\A a/\H a=some (.k (vT t)):=by
 obtain⟨a,b,rfl,c,e,k,r⟩:=h.dK_inv;exact⟨a,rfl,c,by rw[e,AT t b k r]⟩
theorem Vs (g:(t.map (·.1)).Nodup) (h:p∈t):qE (vT t) (Sum.inr p.1)=some (.int p.2):=by
 induction t with
 | nil=>cases h
 | cons q t a =>
  obtain⟨c,d⟩:=bX.mp g;show ((((Sum.inr q.1:eF),V.int q.2)::vT t).find? λb=>decide (b.1=Sum.inr p.1)).map (·.2)=_;rw[cZ];rcases aI.mp h with z | z
  .subst z;rw[bQ rfl];rfl
  .have:¬ (Sum.inr q.1:eF)=Sum.inr p.1:=λe=>c (by show q.1∈t.map (·.1);rw[gQ e];exact cH (f:=λp:Af×Int=>p.1) z)
   rw[bM this];exact a d z
theorem Y3:∀ {x:Af},x∈t.map (·.1)->(x,lS t x)∈t:=by
 induction t with
 | nil=>intro x h;simp at h
 | cons p t a =>
  intro x h;rw[xW];by_cases e:p.1=x
  .rw[aO e,<- e];exact aF
  .rw[aJ e];exact aL _ (a ((aI.mp h).resolve_left λz=>e z.symm))
theorem Fm (g:(t.map (·.1)).Nodup) (h:p∈t):lS t p.1=p.2:=by
 induction t with
 | nil=>cases h
 | cons q t a =>
  obtain⟨b,c⟩:=bX.mp g;rw[xW];rcases aI.mp h with z | z
  .subst z;rw[aO rfl]
  .rw[aJ (λe=>b (by show q.1∈t.map (·.1);rw[e];exact cH (f:=λp:Af×Int=>p.1) z)),a c z]
end Lw
namespace PySem
open PyProof.Rows L2
def nG (b:Bool) (h:Ag) (g t:Ad) (i:Nat):Prop:=match b with
 | true=>h.IsTupleIter g t i
 | false=>h.IsListIter g t i
def nQ (b:Bool) (h:Ag) (a:Ad) (g:Array Ac):Prop:=match b with
 | true=>h.IsTuple a g
 | false=>h.IsList a g
theorem pF (x:nG b h g t i) (k:∀ o,h.get? g=some o->j.get? g=some o):nG b j g t i:=by
 cases b
 .exact let ⟨o,e,r⟩:=(show h.IsListIter g t i from x);⟨o,k o e,r⟩
 .exact let ⟨o,e,r⟩:=(show h.IsTupleIter g t i from x);⟨o,k o e,r⟩
theorem qB (x:nQ b h a g) (k:∀ o,h.get? a=some o->j.get? a=some o):nQ b j a g:=by
 cases b
 .exact let ⟨o,e,r⟩:=(show h.IsList a g from x);⟨o,k o e,r⟩
 .exact let ⟨o,e,r⟩:=(show h.IsTuple a g from x);⟨o,k o e,r⟩
theorem Ao (x:nG b h g t i):∃ o,h.get? g=some o:=by
 cases b
 .exact let ⟨o,e,_⟩:=(show h.IsListIter g t i from x);⟨o,e⟩
 .exact let ⟨o,e,_⟩:=(show h.IsTupleIter g t i from x);⟨o,e⟩
theorem zM (x:nQ b h a g):∃ o,h.get? a=some o:=by
 cases b
 .exact let ⟨o,e,_⟩:=(show h.IsList a g from x);⟨o,e⟩
 .exact let ⟨o,e,_⟩:=(show h.IsTuple a g from x);⟨o,e⟩
section
theorem zX (I:nG b s.heap j t i) (T:nQ b s.heap t l) (o:l[i]?=some x) (q:∀ g,nG b g j t (i+1)->Heap.SameBut j s.heap g->Q x { s with heap:=g }) :
  wpAny (model p w) A (Builtin.SmallTypes.nextOf (.ref j)) Q E s:=by
 cases b
 .exact wpAny_nextOf_list_item I T o q
 .exact MH I T o q
theorem F4 (calm:A.handled=none) (I:nG b s.heap p t i) (T:nQ b s.heap t j) (l:j[i]?=none)
  (q:∀ g e,Heap.ExtBut p s.heap g->(∃ o,g.get? e=some o/\o.cls = .type "StopIteration")->E (.ref e) { s with heap:=g }):wpAny (model r w) A (Builtin.SmallTypes.nextOf (.ref p)) Q E s:=by
 cases b
 .exact wpAny_nextOf_list_end calm I T l q
 .exact II calm I T l q
theorem M6 {I J:Bool}{z TI TO j l r C:Ad}{k1 k2:Nat}{xs ys:Array Ac}{x y a b:Ac}{Q:Ab Ac->Ae->Prop}(D:ZipApart z TI TO j l r C) (hz:IsZip s.heap z TI TO .none) (T:IsPair s.heap TI (.ref j) (.ref l)) (U:IsPair s.heap TO a b)
  (h1:nG I s.heap j r k1) (h2:nG J s.heap l C k2) (aa:nQ I s.heap r xs) (ab:nQ J s.heap C ys) (hx:xs[k1]?=some x) (hy:ys[k2]?=some y)
  (ac:∀ g,IsZip g z TI TO (rawInt s.heap.objs.size)->IsPair g TO x y->nG I g j r (k1+1)->nG J g l C (k2+1)->IsPair g s.heap.objs.size x y->g.objs.size=s.heap.objs.size+1 ->(∀ c o,c≠z->c≠TO->c≠j->c≠l->s.heap.get? c=some o->g.get? c=some o)->Q (some (.ref s.heap.objs.size)) { s with heap:=g }):wpAny (model ae w) A (pyNext (.ref z)) Q E s:=by
 have ty:s.TypeIs (.ref z) "zip" := ⟨_,hz,rfl⟩;unfold pyNext;refine aB (fP (cL (name:=Str.ofString "__next__") ty fW (cY fW ty jV (Tl (p:=a) (q:=b) hz T λg1 Y f=>?_) (jO _))));have d:∀ c o,c≠z->s.heap.get? c=some o->g1.get? c=some o:=λc o n e=>f.extBut _ _ n e
 refine zX (pF h1 λo e=>d _ o D.i1z e) (qB aa λo e=>d _ o D.l1z e) hx λg2 S h=>?_
 have i:∀ c o,c≠j->g1.get? c=some o->g2.get? c=some o:=λc o n e=>h.extBut _ _ n e
 refine⟨i _ _ D.TOi1 (d _ _ D.TOz U),λg3 W H=>?_⟩;have k:∀ c o,c≠TO->g2.get? c=some o->g3.get? c=some o:=λc o n e=>H.extBut _ _ n e
 refine zX (pF h2 λo e=>k _ o D.TOi2.symm (i _ o D.i12.symm (d _ o D.i2z e))) (qB ab λo e=>k _ o D.l2TO (i _ o D.l2i1 (d _ o D.l2z e))) hy λF V K=>?_
 have t:∀ c o,c≠l->g3.get? c=some o->F.get? c=some o:=λc o n e=>K.extBut _ _ n e
 refine⟨t _ _ D.TOi2 W,λG X L=>?_⟩;have u:∀ c o,c≠TO->F.get? c=some o->G.get? c=some o:=λc o n e=>L.extBut _ _ n e
 have sz:G.objs.size=s.heap.objs.size:=by rw[L.1,K.1,H.1,h.1,f.1]
 refine⟨u _ _ D.TOz.symm (t _ _ D.i2z.symm (k _ _ D.TOz.symm (i _ _ D.i1z.symm Y))),λg M N O m=>?_⟩;rw[sz] at M N O |-;refine aE (ac g M (m _ _ D.TOz X) (pF S λo e=>m _ o D.i1z (u _ o D.TOi1.symm (t _ o D.i12 (k _ o D.TOi1.symm e)))) (pF V λo e=>m _ o D.i2z (u _ o D.TOi2.symm e)) N O λc o v B P R e=>?_);exact m c o v (u c o B (t c o R (k c o B (i c o P (d c o v e)))))
theorem Ug {b1 l:Bool}{z TI TO j I l1 l2:Ad}{k1 k2:Nat}{xs ys:Array Ac}{a b:Ac}{Q:Ab Ac->Ae->Prop}(calm:A.handled=none) (D:ZipApart z TI TO j I l1 l2) (hz:IsZip s.heap z TI TO .none) (aa:IsPair s.heap TI (.ref j) (.ref I)) (ab:IsPair s.heap TO a b)
  (h1:nG b1 s.heap j l1 k1) (h2:nG l s.heap I l2 k2) (C:nQ b1 s.heap l1 xs) (ac:nQ l s.heap l2 ys) (r:xs[k1]?=none\/ys[k2]?=none)
  (ae:∀ U,(∀ c o,c≠z->c≠TO->c≠j->c≠I->s.heap.get? c=some o->U.get? c=some o)->Q none { s with heap:=U }):wpAny (model J w) A (pyNext (.ref z)) Q E s:=by
 have ty:s.TypeIs (.ref z) "zip" := ⟨_,hz,rfl⟩;have f:∀ (g:Ag) (e:Ad),(∀ c o,c≠z->c≠TO->c≠j->c≠I->s.heap.get? c=some o->g.get? c=some o)->(∃ o,g.get? e=some o/\o.cls = .type "StopIteration")->IsZip g z TI TO .ellipsis ->
   Du z TI TO (λe V=>wpAny (model J w) A (do if <- isInstance e (.type "StopIteration") then pure none else throw e) Q E V) (.ref e) { s with heap:=g }:=λg e k ⟨o,H,L⟩ O=>by
  refine⟨O,λU M=>?_⟩;have ne:e≠z:=λq=>by
   rw[q,O] at H;cases H;injection L with y;exact absurd y (by decide)
  exact aB (dN (T := "StopIteration") (b:=true) ⟨o,M.extBut _ _ ne H,L⟩ isSubtype_stop (aE (ae U λc o h v i B q=>M.extBut _ _ h (k c o h v i B q))))
 unfold pyNext;refine aB (fP (cL (name:=Str.ofString "__next__") ty fW (cY fW ty jV (Tl (p:=a) (q:=b) hz aa λg1 N F=>?_) (jO _))));have d:∀ c o,c≠z->s.heap.get? c=some o->g1.get? c=some o:=λc o n e=>F.extBut _ _ n e
 rcases Option.eq_none_or_eq_some xs[k1]? with m | ⟨x,m⟩
 .exact F4 calm (pF h1 λo e=>d _ o D.i1z e) (qB C λo e=>d _ o D.l1z e) m λg2 e l W=>f g2 e (λc o h _ i _ q=>l c o i (d c o h q)) W (l _ _ D.i1z.symm N)
 .refine zX (pF h1 λo e=>d _ o D.i1z e) (qB C λo e=>d _ o D.l1z e) m λg2 Y G=>?_
  have t:∀ c o,c≠j->g1.get? c=some o->g2.get? c=some o:=λc o n e=>G.extBut _ _ n e
  refine⟨t _ _ D.TOi1 (d _ _ D.TOz ab),λg3 Z S=>?_⟩;have u:∀ c o,c≠TO->g2.get? c=some o->g3.get? c=some o:=λc o n e=>S.extBut _ _ n e
  have P:ys[k2]?=none:=r.elim (λn=>by rw[n] at m;cases m) id;exact F4 calm (pF h2 λo e=>u _ o D.TOi2.symm (t _ o D.i12.symm (d _ o D.i2z e))) (qB ac λo e=>u _ o D.l2TO (t _ o D.l2i1 (d _ o D.l2z e))) P λR e K X=>f R e (λc o h v i B q=>K c o B (u c o v (t c o i (d c o h q)))) X (K _ _ D.i2z.symm (u _ _ D.TOz.symm (t _ _ D.i1z.symm N)))
end
section
theorem EA {I J:Bool}{z TI TO T j l r C:Ad}{U k2:Nat}{f:Bool}{oT:Obj}{xs ys:Array Ac}{x y:Ac}{Q:Ac->Ae->Prop}(D:ZipApart z TI TO j l r C)
  (hz:wV s.heap z TI TO T f) (hT:s.heap.get? T=some oT) (aa:IsPair s.heap TI (.ref j) (.ref l))
  (h1:nG I s.heap j r U) (h2:nG J s.heap l C k2) (ab:nQ I s.heap r xs) (ac:nQ J s.heap C ys) (hx:xs[U]?=some x) (hy:ys[k2]?=some y)
  (hQ:∀ g,wV g z TI TO T true->nG I g j r (U+1)->nG J g l C (k2+1)->IsPair g s.heap.objs.size x y->g.objs.size=s.heap.objs.size+1 ->(∀ c o,c≠z->c≠j->c≠l->s.heap.get? c=some o->g.get? c=some o)->Q (.ref s.heap.objs.size) { s with heap:=g }) :
  wpAny (model ae w) A (Builtin.«zip.__next__» ⟨[.ref z],[]⟩) (λfin s'=>∃ v,fin = .done (.ret v)/\Q v s') E s:=by
 refine Sv hz hT aa λd K m=>?_
 have up1:∀ c o,c≠z->s.heap.get? c=some o->d.get? c=some o:=λc o n e=>m.extBut _ _ n e
 have there:nG I d j r U/\nG J d l C k2/\nQ I d r xs/\nQ J d C ys:=⟨pF h1 λo e=>up1 _ o D.i1z e,pF h2 λo e=>up1 _ o D.i2z e,qB ab λo e=>up1 _ o D.l1z e,qB ac λo e=>up1 _ o D.l2z e⟩;refine zX there.1 there.2.2.1 hx λk G q=>?_
 have a:∀ c o,c≠j->d.get? c=some o->k.get? c=some o:=λc o n e=>q.extBut _ _ n e
 refine zX (pF there.2.1 λo e=>a _ o D.i12.symm e) (qB there.2.2.2 λo e=>a _ o D.l2i1 e) hy λh H t=>?_
 have b:∀ c o,c≠l->k.get? c=some o->h.get? c=some o:=λc o n e=>t.extBut _ _ n e
 have i:h.objs.size=s.heap.objs.size:=t.1.trans (q.1.trans m.1);have more:∀ {c:Ad} {o p:Obj},h.get? c=some o->(h.push p).get? c=some o:=λe=>aG _ e
 refine wpAny_newTuple ⟨_,rfl,?_⟩ (hsz:=(show 2<=sizeLine by decide));have last:=hQ (h.push (seqObj "tuple" #[x,y] 0)) (more (b _ _ D.i2z.symm (a _ _ D.i1z.symm K))) (pF G λo e=>more (b _ o D.i12 e)) (pF H λo e=>more e) (i▸aX _ rfl) ((dX ..).trans (by rw[i]))
  λc o u B F e=>more (b _ _ F (a _ _ B (up1 _ _ u e)))
 rw[<- i] at last;exact last
theorem Zm {TI TO:Ad}(hh:A.handled=none) (D:ZipApart z TI TO j U l l2)
  (hz:wV s.heap z TI TO T f) (hT:s.heap.get? T=some oT) (C:IsPair s.heap TI (.ref j) (.ref U))
  (h1:nG p s.heap j l k1) (h2:nG b2 s.heap U l2 k2) (I:nQ p s.heap l xs) (J:nQ b2 s.heap l2 ys) (g:xs[k1]?=none\/ys[k2]?=none)
  (hE:∀ r e,(∀ c o,c≠z->c≠j->c≠U->s.heap.get? c=some o->r.get? c=some o)->(∃ o,r.get? e=some o/\o.cls = .type "StopIteration")->E (.ref e) { s with heap:=r }) :
  wpAny (model aa w) A (Builtin.«zip.__next__» ⟨[.ref z],[]⟩) Q E s:=by
 refine Sv hz hT C λi M F=>?_
 have up1:∀ c o,c≠z->s.heap.get? c=some o->i.get? c=some o:=λc o n e=>F.extBut _ _ n e
 have there:nG p i j l k1/\nQ p i l xs:=⟨pF h1 λo e=>up1 _ o D.i1z e,qB I λo e=>up1 _ o D.l1z e⟩;rcases Option.eq_none_or_eq_some xs[k1]? with b | ⟨x,b⟩
 .exact F4 hh there.1 there.2 b λk e t H=>hE k e (λc o d h _ q=>t c o h (up1 c o d q)) H
 .refine zX there.1 there.2 b λk L G=>?_
  have a:∀ c o,c≠z->c≠j->s.heap.get? c=some o->k.get? c=some o:=λc o n m e=>G.extBut _ _ m (up1 c o n e)
  have y:ys[k2]?=none:=g.elim (λn=>by rw[n] at b;cases b) id;exact F4 hh (pF h2 λo e=>a _ o D.i2z D.i12.symm e) (qB J λo e=>a _ o D.l2z D.l2i1 e) y λB e u K=>hE B e (λc o d h v q=>u c o v (a c o d h q)) K
theorem BM {TI TO:Ad}(D:ZipApart z TI TO r C U l2)
  (j:Co s.heap z TI TO r C) (I:nG b1 s.heap r U k) (J:nG b2 s.heap C l2 k) (l:nQ b1 s.heap U xs) (p:nQ b2 s.heap l2 ys) (hx:xs[k]?=some x) (hy:ys[k]?=some y)
  (hQ:∀ g,Co g z TI TO r C->nG b1 g r U (k+1)->nG b2 g C l2 (k+1)->IsPair g s.heap.objs.size x y->g.objs.size=s.heap.objs.size+1 ->(∀ c o,c≠z->c≠TO->c≠r->c≠C->s.heap.get? c=some o->g.get? c=some o)->Q (some (.ref s.heap.objs.size)) { s with heap:=g }) :
  wpAny (model aa w) A (pyNext (.ref z)) Q E s:=by
 obtain⟨d,⟨a,b,i⟩,j⟩:=j;obtain⟨V,P⟩:=Ao I;obtain⟨W,R⟩:=Ao J;have q:∀ {c o},s.heap.get? c=some o->s.heap.objs.size≠c:=λe=>(bI (aU e)).symm
 rcases j with j | ⟨T,f,o,j,F,G,S,H,K⟩
 .refine M6 D j d i I J l p hx hy λg t L u v n B h=>?_
  exact hQ g ⟨h _ _ D.TIz D.TITO D.TIi1 D.TIi2 d,⟨_,_,L⟩,.inr ⟨_,false,_,t,n,q j,q i,q P,q R⟩⟩ u v n B h
 .have m:s.TypeIs (.ref z) "zip" := ⟨_,j,rfl⟩;unfold pyNext;refine aB (fP (cL (name:=Str.ofString "__next__") m fW (cY fW m jV (EA D j F d I J l p hx hy λg t u v n B h=>aE ?_) (jO _))));exact hQ g ⟨h _ _ D.TIz D.TIi1 D.TIi2 d,⟨_,_,h _ _ D.TOz D.TOi1 D.TOi2 i⟩,.inr ⟨T,true,_,t,h _ _ G H K F,G,S,H,K⟩⟩ u v n B λc o M _ N O e=>h c o M N O e
theorem Zp {TI TO:Ad}(hh:A.handled=none) (D:ZipApart z TI TO C I l1 l2)
  (j:Co s.heap z TI TO C I) (J:nG b1 s.heap C l1 k) (U:nG b2 s.heap I l2 k) (l:nQ b1 s.heap l1 xs) (p:nQ b2 s.heap l2 ys) (g:xs[k]?=none\/ys[k]?=none)
  (hQ:∀ r,(∀ c o,c≠z->c≠TO->c≠C->c≠I->s.heap.get? c=some o->r.get? c=some o)->Q none { s with heap:=r }):wpAny (model aa w) A (pyNext (.ref z)) Q E s:=by
 obtain⟨d,⟨a,b,i⟩,j⟩:=j;rcases j with j | ⟨T,f,o,j,t,B,F,G,H⟩
 .exact Ug hh D j d i J U l p g hQ
 .have h:s.TypeIs (.ref z) "zip" := ⟨_,j,rfl⟩;unfold pyNext;refine aB (fP (cL (name:=Str.ofString "__next__") h fW (cY fW h jV (Zm hh D j t d J U l p g λr e x v=>?_) (jO _))));obtain⟨o,y,u⟩:=v;refine aB (dN (T := "StopIteration") (b:=true) ⟨o,y,u⟩ isSubtype_stop ?_);exact aE (hQ _ λc o m _ n q e=>x c o m n q e)
end
section
variable {K:Type} [DecidableEq K] {knd:KeyKind prog w K}{A:Around}{R:Result->Ae->Prop}
theorem Zd {TI TO:Ad}(hh:A.handled=none) (D:ZipApart z TI TO l p I J) (hd:d∉[z,TI,TO,l,p,I,J]) (more:Aa (K×Ac)) (hn:more.length=min U.size ys.size) (j:more.length<=sizeLine)
  (hT:∀ (i:Nat) x y,U[i]?=some x->ys[i]?=some y->∃ k,knd.is k x=true/\more[i]?=some (k,y)) (h0:Ag) :
  ∀ (m i:Nat) (s:Ae),more.length-i=m->i<=more.length->Co s.heap z TI TO l p->nG r s.heap l I i->nG C s.heap p J i->nQ r s.heap I U->nQ C s.heap J ys->(∀ b o,b∉[z,TO,l,p,d]->h0.get? b=some o->s.heap.get? b=some o)->s.heap.DictOf knd d (merged [] (more.take i)) ->
   (∀ g tk,(∀ b o,b∉[z,TO,l,p,d]->h0.get? b=some o->g.get? b=some o)->g.DictOf knd d (merged [] more)->R (.ok (.ret .none)) { s with heap:=g,toks:=tk }) ->
   codeAny (model prog w) A (.builtin "dict.update.loop" ⟨[.ref d,.ref z,.int (i:Int) 0,.none],[]⟩) R s:=by
 simp only[aI,aY,fJ,lJ] at hd;obtain⟨d1,d2,S,V,W,d6,d7⟩:=hd;have na:∀ {b:Ad},b∉[z,TO,l,p,d]->b≠z/\b≠TO/\b≠l/\b≠p/\b≠d:=λj=>by
  simpa only [aI,aY,fJ,lJ] using j
 intro m;induction m with
 | zero =>
  intro i s hm hi hz Z h2 c h kp H hR;have ei:i=more.length:=by omega
  subst ei;rw[bW (aP _)] at H;refine fS Em ?_;rw[eU xC _];show wpAny _ A.in1 (pyNext (.ref z) >>= _) _ _ s;refine aB (Zp (by simpa using hh) D hz Z h2 c h ?_ λg B=>?_)
  .rcases Nat.le_total U.size ys.size with q | q
   .exact .inl (gB (by omega))
   .exact .inr (gB (by omega))
  .show wpAny _ A.in1 (Builtin.Dict.addKeywords d [] >>= _) _ _ _;refine aB (aE ?_);obtain⟨o,F,E,u,rest⟩:=H;exact aE (hR g _ (λb o j e=>let ⟨r,C,P,Q,b5⟩:=na j;B b o r C P Q (kp b o j e)) ⟨o,F,E,B d _ d1 S V W u,rest⟩)
 | succ m ih =>
  intro i s hm hi hz Z h2 c h kp H hR;have ab:i<more.length:=by omega
  obtain⟨x,hx⟩:∃ x,U[i]?=some x:=⟨_,cE (by omega)⟩;obtain⟨y,hy⟩:∃ y,ys[i]?=some y:=⟨_,cE (by omega)⟩;obtain⟨ky,N,t⟩:=hT i x y hx hy;refine fS Em ?_;rw[eU xC _];show wpAny _ A.in1 (pyNext (.ref z) >>= _) _ _ s;refine aB (BM D hz Z h2 c h hx hy λg z' ac ae pr sz B=>?_);have aa:g.DictOf knd d (merged [] (more.take i)):=by
   obtain⟨o,F,E,u,rest⟩:=H;exact⟨o,F,E,B d _ d1 S V W u,rest⟩
  have af:nQ r g I U:=qB c λo e=>B I o D.l1z D.l1TO D.l1i1 D.l1i2 e
  have ag:nQ C g J ys:=qB h λo e=>B J o D.l2z D.l2TO D.l2i1 D.l2i2 e
  have pd:s.heap.objs.size≠d:=by
   obtain⟨o,F,E,u,rest⟩:=H;exact (bI (aU u)).symm
  show wpAny _ A.in1 (holding [Value.ref s.heap.objs.size] _ >>= _) _ _ _;refine aB (bT ?_);refine aB (wpAny_tryCatch ?_);unfold Builtin.Dict.pairItems;refine aB (fA (T := "tuple") ⟨_,pr,rfl⟩ ?_);rw[aO (by decide)];refine aB (fR pr rfl ?_);refine aE ?_;show wpAny _ A.in1 (holding [x,y] (dictSet d x y)) _ _ _;refine bT ?_;have v:(merged [] (more.take i)).length<=sizeLine:=by
   have X:=merged_length_le ([]:Aa (K×Ac)) (more.take i);rw[fG,bN] at X;omega
  refine wpAny_dictSet_pairs (hsz:=v) N aa λG n sb=>?_
  rw[<- merged_take_succ [] more i (ky,y) t] at n;refine aE ⟨iU xC _,?_⟩;have X:(rawInt ((i:Int)+1))=Value.int ((i+1:Nat):Int) 0:=by rfl
  rw[X];have up:∀ b o,b≠d->g.get? b=some o->G.get? b=some o:=λb o j e=>by rw[sb.2 b j];exact e
  have zz:Co G z TI TO l p:=by
   obtain⟨p1,⟨a,b,p2⟩,p3⟩:=z';refine⟨up _ _ (eJ d2) p1,⟨a,b,up _ _ (eJ S) p2⟩,?_⟩;rcases p3 with p3 | ⟨T,f,o,q1,q2,q3,q4,q5,q6⟩
   .exact .inl (up _ _ (eJ d1) p3)
   .by_cases M:T=d
    .subst M;obtain⟨o',F,E,u,rest⟩:=n;exact .inr ⟨T,f,_,up _ _ (eJ d1) q1,u,q3,q4,q5,q6⟩
    .exact .inr ⟨T,f,o,up _ _ (eJ d1) q1,up _ _ M q2,q3,q4,q5,q6⟩
  refine ih (i+1) _ (by omega) ab zz (pF ac λo e=>up _ o (eJ V) e) (pF ae λo e=>up _ o (eJ W) e) (qB af λo e=>up _ o (eJ d6) e) (qB ag λo e=>up _ o (eJ d7) e) (λb o j e=>?_) n λY tk O L=>hR Y tk O L
  obtain⟨r,C,P,Q,b5⟩:=na j;exact up b o b5 (B b o r C P Q (kp b o j e))
theorem Wn {TI TO:Ad}(hh:A.handled=none) (D:ZipApart z TI TO U i2 l1 l2)
  (T:IsZip s.heap z TI TO .none) (l:IsPair s.heap TI (.ref U) (.ref i2)) (C:IsPair s.heap TO .none .none) (h1:nG b1 s.heap U l1 0) (h2:nG b2 s.heap i2 l2 0) (I:nQ b1 s.heap l1 xs) (J:nQ b2 s.heap l2 ys)
  (hn:more.length=min xs.size ys.size) (g:more.length<=sizeLine) (hT:∀ (i:Nat) x y,xs[i]?=some x->ys[i]?=some y->∃ k,knd.is k x=true/\more[i]?=some (k,y))
  (h:∀ (j:Ag) (tk:Nat),j.DictOf knd s.heap.objs.size (merged [] more)->(∀ b o,b∉[z,TO,U,i2]->s.heap.get? b=some o->j.get? b=some o)->Q (.ref s.heap.objs.size) { s with heap:=j,toks:=tk }) :
  wpAny (model prog w) A (call (.type "dict") [.ref z]) Q E s:=by
 let d:=s.heap.objs.size;have made:(yF s).heap.DictOf knd d []:=Heap.DictOf.new s.heap;have old:∀ b o,s.heap.get? b=some o->(yF s).heap.get? b=some o:=λb o e=>aG _ e
 refine callType_codes F.kt_called_dict (F.kt_typeCall_dict_1 _) F.entry_dict_init (kt_code_dict_new _ (Q₁:=λv n=>v = .ref d/\n=yF s) ⟨rfl,rfl⟩) λv n q=>?_
 obtain⟨rfl,rfl⟩:=q;refine⟨made.typeIs,F.args_dict_init_2 _ _,V6 made.typeIs (old _ _ T) (by simp[hh]) λc tk e x=>⟨iU xC _,?_⟩⟩;have keeps:∀ b o,s.heap.get? b=some o->c.get? b=some o:=λb o e=>x.keeps _ _ (old b o e)
 obtain⟨N,G⟩:=Ao h1;obtain⟨O,H⟩:=Ao h2;obtain⟨P,L⟩:=zM I;obtain⟨S,M⟩:=zM J;have a:∀ {b o},s.heap.get? b=some o->d≠b:=λe=>(bI (aU e)).symm
 have f:c.DictOf knd d []:=by
  obtain⟨o,u,t,p,r⟩:=made;exact⟨o,u,t,x.keeps _ _ p,r⟩
 refine Zd (knd:=knd) (by simp[hh]) D ?_ more hn g hT s.heap more.length 0 _ rfl (dB _) ⟨keeps _ _ l,⟨_,_,keeps _ _ C⟩,.inl (keeps _ _ T)⟩ (pF h1 λo e=>keeps _ o e) (pF h2 λo e=>keeps _ o e) (qB I λo e=>keeps _ o e) (qB J λo e=>keeps _ o e) (λb o _ e=>keeps b o e) (by simpa [merged] using f) λj m B fin=>?_
 .simp only[aI,aY,fJ,lJ];exact⟨a T,a l,a C,a G,a H,a L,a M⟩
 .refine⟨rfl,h j m fin λb o g e=>B b o (λq=>?_) e⟩;simp only[aI,aY,fJ,lJ] at g q;rcases q with q | q | q | q | q
  .exact g.1 q
  .exact g.2.1 q
  .exact g.2.2.1 q
  .exact g.2.2.2 q
  .exact a e q.symm
end
noncomputable def pX (b:Bool) (t:Ad):Obj:={ cls:=.type (match b with | true => "tuple_iterator" | false => "list_iterator"),data:=.fields #[.ref t,.int 0 0] }
theorem Lp (b:Bool) (e:h.get? g=some (pX b t)):nG b h g t 0:=by
 cases b
 .exact⟨_,e,rfl,rfl⟩
 .exact⟨_,e,rfl,rfl⟩
theorem Ld (T:nQ b s.heap l j) (q:Q (.ref s.heap.objs.size) { s with heap:=s.heap.push (pX b l) }):wpAny (model g w) A (pyIter (.ref l)) Q E s:=by
 cases b
 .exact eZ T q
 .exact wpAny_pyIter_tuple T q
def Ub (g j:Bool) (h:Ag) (s t:Ad):Ag:=((((h.push (pX g s)).push (pX j t)).push (A5 (.ref h.objs.size) (.ref (h.push (pX g s)).objs.size))).push (A5 .none .none)).push (P1 ((h.push (pX g s)).push (pX j t)).objs.size (((h.push (pX g s)).push (pX j t)).push (A5 (.ref h.objs.size) (.ref (h.push (pX g s)).objs.size))).objs.size)
theorem JX (j p:Bool) (l m:Ad) (C I:Array Ac):Meets (Builtin.«zip.__new__» ⟨[.type "zip",.ref l,.ref m],[]⟩) (λ_ R s=>nQ j s.heap l C/\nQ p s.heap m I /\ ∀ r,r=Ub j p s.heap l m->∀ n,n=s.heap.objs.size+4->R (.ok (.ret (.ref n))) { s with heap:=r }) :=
 .of_wp λf w A R s h=>by
  obtain⟨c,g,d,i,os⟩:=s;obtain⟨k,q,h⟩:=h;have under:=sub_zip;have a:nQ j (Shared.heap ⟨c,g,d,i,os⟩) l C:=k;have b:nQ p (Shared.heap ⟨c.push (pX j l),g,d,i,os⟩) m I:=qB q λo e=>aG _ e
  wp_walk using Ld a,Ld b
  refine⟨_,rfl,h _ rfl _ ?_⟩;rw[dX,dX,dX,dX]
section
theorem Tq (J:nQ r s.heap l U) (T:nQ C s.heap m ys)
  (q:∀ j,IsZip j (s.heap.objs.size+4) (s.heap.objs.size+2) (s.heap.objs.size+3) .none->IsPair j (s.heap.objs.size+2) (.ref s.heap.objs.size) (.ref (s.heap.objs.size+1))->IsPair j (s.heap.objs.size+3) .none .none ->nG r j s.heap.objs.size l 0->nG C j (s.heap.objs.size+1) m 0->j.objs.size=s.heap.objs.size+5->(∀ c o,s.heap.get? c=some o->j.get? c=some o)->Q (.ref (s.heap.objs.size+4)) { s with heap:=j }) :
  wpAny (model I w) A (call (.type "zip") [.ref l,.ref m]) Q E s:=by
 refine callType_new F.called_zip (by decide) (F.typeCall_zip_2 _ _) (F.newCall_zip_2 _ _) (λobj=>F.args_object_init_3 obj _ _) F.entry_zip_new (JX r C l m U ys) ⟨J,T,λj e n t=>?_⟩;subst e t;have d:(s.heap.push (pX r l)).objs.size=s.heap.objs.size+1:=dX ..;have h:((s.heap.push (pX r l)).push (pX C m)).objs.size=s.heap.objs.size+2:=by rw[dX,d]
 have i:∀ p,(((s.heap.push (pX r l)).push (pX C m)).push p).objs.size=s.heap.objs.size+3:=λp=>by rw[dX,h]
 have k:∀ p q,((((s.heap.push (pX r l)).push (pX C m)).push p).push q).objs.size=s.heap.objs.size+4:=λp q=>by rw[dX,i]
 have b:∀ (g:Ag) (o:Obj) (n:Nat),o.isFreed=false->g.objs.size=n->(g.push o).get? n=some o:=λg o n f e=>by rw[<- e];exact aX _ f
 have a:∀ {g:Ag} {o p:Obj} {c:Ad},g.get? c=some o->(g.push p).get? c=some o:=λe=>aG _ e
 unfold Ub;rw[d,h,i];have z:=b ((((s.heap.push (pX r l)).push (pX C m)).push (A5 (.ref s.heap.objs.size) (.ref (s.heap.objs.size+1)))).push (A5 .none .none)) (P1 (s.heap.objs.size+2) (s.heap.objs.size+3)) _ rfl (k _ _);exact⟨⟨_,z,rfl⟩,q _ z (a (a (b _ _ _ rfl h))) (a (b _ _ _ rfl (i _))) (Lp r (a (a (a (a (aX _ rfl)))))) (Lp C (a (a (a (b _ _ _ rfl d))))) (by rw[dX,k]) λc o e=>a (a (a (a (a e))))⟩
end
end PySem
namespace L2
open PySem PySem.Spec PyProof.Rows
def qC (b:Bool) (K:lK) (H:Hp) (a:Ad) (g:Aa V):Prop:=match b with
 | true=>mK K H a g
 | false=>hI K H a g
section
variable {X:Cx}
theorem Inv.seqB (I:Inv X j o H s) (h:qC b X.K H a l):∃ g:Aa Ac,lL l g/\nQ b s.heap a g.toArray:=by
 cases b
 .obtain⟨g,r,p,_⟩:=I.list h;exact⟨g,r,p.isList⟩
 .obtain⟨g,r,p,_⟩:=I.tuple h;exact⟨g,r,p⟩
theorem Inv.seqB_inj (I:Inv X j p H s) (h:qC b X.K H a l) (g:qC b X.K H a o):l=o:=by
 cases b
 .exact I.list_inj h g
 .exact I.tuple_inj h g
theorem Qb (x:nG b h g t i):∃ o,h.get? g=some o/\∀ v,o.data ≠ .cell v:=by
 cases b
 .obtain⟨o,e,_,d⟩:=(show h.IsListIter g t i from x);exact⟨o,e,λv z=>by rw[d] at z;cases z⟩
 .obtain⟨o,e,_,d⟩:=(show h.IsTupleIter g t i from x);exact⟨o,e,λv z=>by rw[d] at z;cases z⟩
end
def G0 (g j:Bool) (K:lK) (a b:Ad):It :=
 ⟨λi H=>∃ c d x y,qC g K H a c/\qC j K H b d/\c[i]?=some x/\d[i]?=some y,λi H v e=>∃ p x y,H p=none/\v = .ref p/\e=upd H p (.t [x,y])/\(∀ c,qC g K H a c->c[i]?=some x)/\(∀ d,qC j K H b d->d[i]?=some y),λi H=>∃ c d,qC g K H a c/\qC j K H b d/\(c.length<=i\/d.length<=i)⟩
def Zn (l o:Bool) (a b z TI TO g j:Ad) (i:Nat) (h:Ag):Prop:=IsZip h z TI TO .none/\IsPair h TI (.ref g) (.ref j)/\(∃ u v,IsPair h TO u v)/\nG l h g a i/\nG o h j b i
theorem Zr {P:Ah}{K:lK}{TI TO:Ad}(D:ZipApart z TI TO i1 i2 a b) :
  Turn P w K (.Tuple ac x1 pos) (G0 b1 b2 K a b) [z,TI,TO,i1,i2] z (Zn b1 b2 a b z TI TO i1 i2) where
 mem:=by simp
 obj:=λi h st c F=>by
  obtain⟨n,t,⟨u,v,A⟩,f,m⟩:=st;obtain⟨o4,f,d4⟩:=Qb f;obtain⟨o5,m,d5⟩:=Qb m;simp only[aI,aY,fJ] at F;rcases F with e | e | e | e | e<;>subst e
  .exact⟨_,n,λv z=>nomatch z⟩
  .exact⟨_,t,λv z=>nomatch z⟩
  .exact⟨_,A,λv z=>nomatch z⟩
  .exact⟨_,f,d4⟩
  .exact⟨_,m,d5⟩
 keep:=λi h h' st k=>by
  obtain⟨n,t,⟨u,v,A⟩,f,m⟩:=st;exact⟨k z (by simp) _ n,k TI (by simp) _ t,⟨u,v,k TO (by simp) _ A⟩,pF f λo e=>k i1 (by simp) o e,pF m λo e=>k i2 (by simp) o e⟩
 item:=by
  intro X Y hw W F i L s σ H E I N st Z;subst Y hw W;obtain⟨n,t,⟨u,v,A⟩,f,m⟩:=st;obtain⟨xs,ys,x,y,O,Q,hx,hy⟩:=Z;obtain⟨l,U,r⟩:=I.seqB O;obtain⟨p,ry,py⟩:=I.seqB Q;obtain⟨ux,g,J⟩:=U.get hx;obtain⟨uy,j,T⟩:=ry.get hy;refine M6 D n t A f m r py (x:=ux) (y:=uy) (by simpa using g) (by simpa using j) λh' n1 n2 n3 n4 n5 n6 n7=>?_
  refine⟨_,rfl,wpAny_letOwnedTupleGo_zip n1 λh2 m1 B=>?_⟩;have kp:∀ c o,c∉[z,TI,TO,i1,i2]->s.heap.get? c=some o->h2.get? c=some o:=λc o d e=>by
   simp only[aI,aY,fJ,lJ] at d;obtain⟨M,e2,R,S,V⟩:=d;exact B.extBut c o M (n7 c o M R S V e)
  have zs:s.heap.objs.size≠z:=λe=>dY _ (by have:=aU n;rw[<- e] at this;exact this)
  have nt:vH h2 s.heap.objs.size [ux,uy].toArray:=⟨⟨_,B.extBut _ _ zs n5,rfl,_,rfl⟩,_,B.extBut _ _ zs n5,rfl⟩;have I2:=I.movedT (t':=s.toks) (ys:=[x,y]) N kp nt (.cons J (.cons T .nil)) (by show 2<=sizeLine;decide);refine⟨.ref s.heap.objs.size,_,I2,rfl,⟨_,x,y,I.fresh,rfl,rfl,λae C=>by rw[I.seqB_inj C O];exact hx,λaf C=>by rw[I.seqB_inj C Q];exact hy⟩,⟨m1,?_,⟨ux,uy,?_⟩,?_,?_⟩,λc d=>?_⟩
  .exact B.extBut _ _ D.TIz (n7 TI _ D.TIz D.TITO D.TIi1 D.TIi2 t)
  .exact B.extBut _ _ D.TOz n2
  .exact pF n3 λo e=>B.extBut _ o D.i1z e
  .exact pF n4 λo e=>B.extBut _ o D.i2z e
  .rw[lT]
   .exact (N c d).1
   .intro e;obtain⟨o,ho⟩:∃ o,s.heap.get? c=some o:=by
     obtain⟨o4,aa⟩:=Ao f;obtain⟨o5,ab⟩:=Ao m;simp only[aI,aY,fJ] at d;rcases d with q | q | q | q | q<;>rw[q]
     .exact⟨_,n⟩
     .exact⟨_,t⟩
     .exact⟨_,A⟩
     .exact⟨_,aa⟩
     .exact⟨_,ab⟩
    have:=aU ho;rw[e] at this;exact dY _ this
 done:=by
  intro X Y hw W F i L s σ H E I N st Z;subst Y hw W;obtain⟨n,t,⟨u,v,A⟩,f,m⟩:=st;obtain⟨xs,ys,O,Q,G⟩:=Z;obtain⟨l,U,r⟩:=I.seqB O;obtain⟨p,ry,py⟩:=I.seqB Q;have lx:=U.length;have ly:=ry.length;refine Ug (I.ok.hd F) D n t A f m r py ?_ λh' k=>⟨rfl,I.moved (t':=s.toks) N λc o d e=>?_⟩
  .rcases G with q | q
   .exact .inl (by simp;omega)
   .exact .inr (by simp;omega)
  .simp only[aI,aY,fJ,lJ] at d;obtain⟨M,e2,R,S,V⟩:=d;exact k c o M R S V e
 self:=λ_ _ _ _ _ st h=>wpAny_pyIter_zip st.1 h
section
variable {X:Cx}
def JZ (K:lK) (g:TA):TI:=λk H R=>g k H λf c=>∃ a b d e,f=[.ref a,.ref b]/\(∃ h,qC d K c a h)/\(∃ i,qC e K c b i)/\R (G0 d e K a b) c
theorem AY (C:Gl X "zip") (J:X.mg "zip" = none) (r:PA X [j,g] U) (T:starEach [j,g] X.env=(false,eval j X.env)::starEach [g] X.env:=by rfl)
  (l:(backTo pos (starEach [g] X.env)).any (·.1)=false:=by rfl):PI X (.Tuple o x1 ps) (.Call (.Name "zip" p) [j,g] [] pos) (JZ X.K U):=by
 intro f s A H R I h;refine Call_ (uT I C J boot_zip (cF (lA (r pos f s A H _ I h) λus d n=>?_) T l));obtain⟨vs,t,i,V,P⟩:=n;obtain⟨a,b,Z,b2,rfl,⟨xs,Q⟩,⟨ys,S⟩,q⟩:=P;obtain⟨u,v,rfl,W,Y⟩:=Ed V;cases W;cases Y;obtain⟨E,rx,y⟩:=i.seqB Q;obtain⟨F,ry,py⟩:=i.seqB S;have k:a<d.heap.objs.size:=by obtain⟨_,e⟩:=zM y;exact aU e
 have m:b<d.heap.objs.size:=by obtain⟨_,e⟩:=zM py;exact aU e
 refine Tq y py λD x G L M N n6 O=>?_
 have B:Inv X f A t { d with heap:=D }:=i.kept (t':=d.toks) O;refine wpAny_pyIter_zip x ⟨_,[_,_,_,_,_],_,_,t,rfl,B,Zr (a:=a) (b:=b) (i1:=d.heap.objs.size) (i2:=d.heap.objs.size+1) (z:=d.heap.objs.size+4) (TI:=d.heap.objs.size+2) (TO:=d.heap.objs.size+3) ?_,⟨x,G,⟨_,_,L⟩,M,N⟩,λc w=>?_,q⟩
 .constructor<;>first | exact bI k | exact bI m | exact bI (bG k (gF _ _)) | exact bI (bG m (gF _ _)) | exact hZ k | exact hZ m | exact hZ (bG k (gF _ _)) | exact hZ (bG m (gF _ _)) | exact (by show (_:Nat)≠_;omega)
 .simp only[aI,aY,fJ] at w;rcases w with e | e | e | e | e<;>(subst e;exact i.fpOk (by omega) (i.hok.fresh (by omega)))
variable {K:lK}
def wK:D->Ab (Bool×Aa D)
 | .l a=>some (false,a)
 | .t a=>some (true,a)
 | _=>none
theorem Ee (e:wK d=some (b,j)) (r:Rep K A H d v):∃ a g,v = .ref a/\qC b K H a g/\Reps K A H j g:=by
 cases d<;>first | cases e | skip
 .obtain⟨a,g,rfl,h,r⟩:=r.tup_inv;exact⟨a,g,rfl,mK.of h,r⟩
 .obtain⟨a,g,rfl,_,h,r⟩:=r.lst_inv;exact⟨a,g,rfl,hI.of h,r⟩
def yB (g j:Aa D):Aa D:=g.zipWith (λx y=>D.t [x,y]) j
theorem Oi (g j:Aa D):(yB g j).length=min g.length j.length:=List.length_zipWith
theorem KO {g j:Aa D}{i:Nat}{x y:D}(l:g[i]?=some x) (o:j[i]?=some y):(yB g j)[i]?=some (.t [x,y]):=by
 unfold yB;rw[List.getElem?_zipWith,l,o]
theorem MQ {d1 d2:D}(r:wK d1=some (g,l)) (C:wK d2=some (j,o)):YD K (G0 g j K a b) (yB l o) [(.v d1,some (.ref a)),(.v d2,some (.ref b))]:=by
 have key:∀ A H,wP K A H [(.v d1,some (.ref a)),(.v d2,some (.ref b))]->(∃ d,qC g K H a d/\Reps K A H l d)/\∃ c,qC j K H b c/\Reps K A H o c:=λA H ok=>by
  obtain⟨v,E,h⟩:=ok (.v d1,some (.ref a)) aF;obtain⟨u,F,k⟩:=ok (.v d2,some (.ref b)) (aL _ aF);cases E;cases F;obtain⟨N,d,G,e,s⟩:=Ee r h;obtain⟨O,c,L,f,t⟩:=Ee C k;cases G;cases L;exact⟨⟨d,e,s⟩,c,f,t⟩
 refine⟨rfl,λi H A m ok=>?_,λi H A x M m ok y=>?_,λi H A m ok=>?_⟩
 .obtain⟨⟨d,e,h⟩,c,f,k⟩:=key A H ok;rw[Oi,h.length,k.length] at m;exact⟨d,c,d[i]'(by omega),c[i]'(by omega),e,f,aD _,aD _⟩
 .obtain⟨⟨d,e,h⟩,c,f,k⟩:=key A H ok;obtain⟨p,R,S,w,rfl,rfl,z,B⟩:=y;obtain⟨P,n,s⟩:=h.getV (z d e);obtain⟨Q,q,t⟩:=k.getV (B c f);exact⟨_,KO n q,.inr ⟨p,_,_,w,rfl,rfl,rfl,.cons s (.cons t .nil)⟩⟩
 .obtain⟨⟨d,e,h⟩,c,f,k⟩:=key A H ok;rw[Oi,h.length,k.length] at m;exact⟨d,c,e,f,by omega⟩
def Y4 (g:rP):tQ:=λf i h=>g f i λas a=>match as with
 | [.t d1,.t d2]=>∃ d e b c,wK d1=some (d,b)/\wK d2=some (e,c)/\h (yB b c) a
 | _=>False
theorem Sj (I:Gl X "zip") (J:X.mg "zip" = none) (C:rF X [j,g] ta) (U:starEach [j,g] X.env=(false,eval j X.env)::starEach [g] X.env:=by rfl)
  (l:(backTo pos (starEach [g] X.env)).any (·.1)=false:=by rfl):vL X (.Tuple o x1 ps) (.Call (.Name "zip" p) [j,g] [] pos) (Y4 ta) :=
 (AY I J C U l).mono λA H R d=>d.elim λB z T G q hd s k=>⟨B,z,T,_,q,hd,s,λas e D i u ok d1 c=>by
  cases ok with
  | nil=>exact False.elim c
  | al _ ok=>exact False.elim c
  | t ok =>
   cases ok with
   | nil=>exact False.elim c
   | al _ ok=>cases ok<;>exact False.elim c
   | t ok =>
    cases ok with
    | al _ ok=>exact False.elim c
    | t ok=>exact False.elim c
    | nil =>
     obtain⟨m,n,E,F,f,h,c⟩:=c;have r:=d1.temps (σ:=A) (.t (.t .nil)) _ rfl;cases r with
     | cons v r =>
      cases r with
      | cons w r =>
       obtain⟨a,x,rfl,g1,_⟩:=Ee f v;obtain⟨b,y,rfl,g2,_⟩:=Ee h w;exact⟨a,b,m,n,rfl,⟨x,g1⟩,⟨y,g2⟩,k _ _ e [_,_] i u d1 (MQ f h) c⟩⟩
end
end L2
namespace L2
open PySem PySem.Spec PyProof.Rows Lw
section
variable {X:Cx}
def EF (K:lK) (g:TA):TE:=λi H Q=>g i H λh a=>∃ (e f:Bool) (l m:Ad) (b:Aa eF) (c:Aa V),h=[.ref l,.ref m]/\qC e K a l (b.map kV)/\qC f K a m c/\b.length<=1000/\∀ d,a d=none->Q (.ref d) (upd a d (.k (pU [] (b.zip c))))
theorem KN (j:X.calm=true) (hg:Gl X "dict") (hm:X.mg "dict" = none) (r:Gl X "zip") (C:X.mg "zip" = none) (ha:PA X [a,b] ta)
  (hs:starEach [a,b] X.env=(false,eval a X.env)::starEach [b] X.env:=by rfl) (J:(backTo g (starEach [b] X.env)).any (·.1)=false:=by rfl) :
  PE X (.Call (.Name "dict" p) [.Call (.Name "zip" p') [a,b] [] g] [] pos) (EF X.K ta):=by
 intro z s σ H Q I h;refine eQ (uT I hg hm boot_dict ?_ (by decide) (by decide));refine cF ?_ rfl rfl;show wpAny _ _ (spliced ((false,eval (.Call (.Name "zip" p') [a,b] [] g) X.env)::backTo pos (starEach [] X.env))) _ _ s;refine iA ?_;refine eQ (uT I r C boot_zip ?_ (by decide) (by decide));refine cF (lA (ha g z s σ H _ I h) λus B M=>?_) hs J;obtain⟨xs,H1,t,S,q1⟩:=M;obtain⟨b1,b2,l,m,c,E,rfl,hl,hv,hn,q⟩:=q1;obtain⟨Z,T,rfl,W,Y⟩:∃ Z T,us=[Z,T]/\lW (.ref l) Z/\lW (.ref m) T:=by
  cases S with | cons S V=>cases V with | cons V r3=>cases r3;exact⟨_,_,rfl,S,V⟩
 cases W;cases Y;obtain⟨N,r',R⟩:=t.seqB hl;obtain⟨f,A,n⟩:=t.seqB hv;refine Tq R n λD z1 z2 z3 z4 z5 z6 U=>?_
 refine jL ?_;have L1:=r'.length;have L2:=A.length;rw[aA] at L1;have F:=R8 c A;have O:l<B.heap.objs.size:=by obtain⟨_,e⟩:=zM R;exact aU e
 have P:m<B.heap.objs.size:=by obtain⟨_,e⟩:=zM n;exact aU e
 refine Wn (knd:=oM X.prog X.w) (more:=c.zip f) (s:={ B with heap:=D }) (t.ok.hd j) (zipApart_new O P) z1 z2 z3 z4 z5 (qB R λo e=>U _ o e) (qB n λo e=>U _ o e) ?_ ?_ ?_ λh2 tk hD hk=>?_
 .rw[eP,aR,aR];omega
 .rw[eP];exact eD (cT (show min c.length f.length<=1000 by omega) (by decide))
 .intro i x y v G;have v:N[i]?=some x:=by simpa using v
  have G:f[i]?=some y:=by simpa using G
  obtain⟨hi,_⟩:=aV.mp v;obtain⟨u,hu,ru⟩:=r'.get (i:=i) (x:=kV (c[i]'(by omega))) (by simp[show i<c.length by omega]);rw[hu] at v;cases v;refine⟨c[i]'(by omega),wN ru,?_⟩;rw[List.getElem?_zip_eq_some];exact⟨aD _,G⟩
 .have L:(pU [] (c.zip E)).length<=sizeLine:=by
   have h1:=B2 (c.zip E) [];rw[fG,eP] at h1;exact eD (cT (show (pU [] (c.zip E)).length<=1000 by omega) (by decide))
  have d:B.heap.objs.size<=D.objs.size:=by omega
  have kp:∀ b o,B.heap.get? b=some o->h2.get? b=some o:=λb o e=>hk b o (λq=>by
   have:=aU e;simp only[aI,aY,fJ] at q;rcases q with q | q | q | q<;>rw[q] at this<;>first | exact absurd this (dY _) | exact absurd this (Nat.not_lt.mpr (gF _ _))) (U b o e)
  refine⟨.ref D.objs.size,_,t.laid (a:=D.objs.size) (o:=.k (pU [] (c.zip E))) (t':=tk) kp d ?_,rfl,q _ (t.hok.fresh d)⟩;exact zP L (cV.mpr (eJ (bI (bG t.big d)))) (F.merge .nil) hD
end
section
variable {X:Cx}{K:lK}
def Mo:OC:=λf h=>match f with
 | [d1,d2]=>∃ d e b c a,wK d1=some (d,b)/\wK d2=some (e,c)/\yS b=some a/\a.length<=1000/\h (.o (.k (oX [] (a.zip c))))
 | _=>False
theorem Rq (e:wK d=some (b,j)) (r:mV K A H d v):∃ a g,v = .ref a/\qC b K H a g/\Reps K A H j g:=by
 cases d<;>first | cases e | skip
 .obtain⟨a,g,rfl,h,r⟩:=Rep.tup_inv r;exact⟨a,g,rfl,mK.of h,r⟩
 .obtain⟨a,g,rfl,h,r⟩:=r.lst_inv;exact⟨a,g,rfl,hI.of h,r⟩
theorem EO:pW K (λC H Q=>∃ (o r:Bool) (l m:Ad) (g:Aa eF) (j:Aa V),C=[.ref l,.ref m]/\qC o K H l (g.map kV)/\qC r K H m j/\g.length<=1000/\∀ d,H d=none->Q (.ref d) (upd H d (.k (pU [] (g.zip j))))) Mo:=by
 intro B L H h C N Q hd f c k
 match h,c with
 | [d1,d2],c =>
  obtain⟨x,y,rfl,v,py⟩:=Ei f;obtain⟨o,r,C,M,g,i,n,t,u,c⟩:=c;obtain⟨a,G,rfl,q,A⟩:=Rq i v;obtain⟨b,j,rfl,s,D⟩:=Rq n py;have e:=BJ t A;subst e;obtain⟨E,F⟩:=Tw g D;obtain⟨w,z⟩:=Fo (kvs:=[]) (vs:=[]) E F rfl .nil;exact⟨o,r,a,b,g,j,rfl,q,s,u,λp f=>k _ _ _ c (hd.dKF f w z)⟩
theorem Gk (g:X.calm=true) (I:Gl X "dict") (J:X.mg "dict" = none) (l:Gl X "zip") (o:X.mg "zip" = none) (C:rF X [a,b] U)
  (T:starEach [a,b] X.env=(false,eval a X.env)::starEach [b] X.env:=by rfl) (r:(backTo j (starEach [b] X.env)).any (·.1)=false:=by rfl) :
  PD X (.Call (.Name "dict" p) [.Call (.Name "zip" p') [a,b] [] j] [] pos) (dC Mo U):=(KN g I J l o C T r).mono λ_ _ _ h=>Hq EO h
end
end L2
namespace Lw
open PySem L2
noncomputable def rL (w:Af) (bs:Aa Int):Int :=
 if w = "and" then (if bs.sum=bs.length then 1 else 0)
 else if w = "or" then (if bs.sum>0 then 1 else 0)
 else if w = "odd" then bs.sum%2
 else if w = "most" then (if bs.sum>=2 then 1 else 0)
 else if w = "not" then (if bs.sum=0 then 1 else 0)
 else if w = "one" then 1 else 0
def nR (i:Int):Prop:=i=0\/i=1
theorem N7 (w:Af) (bs:Aa Int):nR (rL w bs):=by
 unfold rL nR;have:=fV bs.sum (show (2:Int)≠0 by decide);have:=eR bs.sum (show (0:Int)<2 by decide)
 repeat' split
 all_goals omega
theorem Io:∀ {bs:Aa Int},(∀ b∈bs,nR b)->0<=bs.sum/\bs.sum<=bs.length
 | [],_=>by simp
 | b::r,h=>by
  have a:=h b aF;have d:=Io λx c=>h x (aL _ c)
  simp only[eX,bJ];unfold nR at a;omega
theorem Ti:∀ {bs:Aa Int},(∀ b∈bs,b=1)->bs.sum=bs.length
 | [],_=>by simp
 | b::r,h=>by
  have c:=h b aF;have d:=Ti λx a=>h x (aL _ a)
  simp only[eX,bJ];omega
theorem Qq:∀ {bs:Aa Int},(∀ b∈bs,nR b)->(0:Int)∈bs->bs.sum<bs.length
 | [],_,h=>by simp at h
 | b::r,h,d=>by
  have c:=h b aF;have a:∀ x∈r,nR x:=λx f=>h x (aL _ f)
  have i:=Io a;simp only[eX,bJ];unfold nR at c;rcases aI.mp d with e | e
  .omega
  .have:=Qq a e;omega
theorem Pn:∀ {bs:Aa Int},(∀ b∈bs,nR b)->(1:Int)∈bs->0<bs.sum
 | [],_,h=>by simp at h
 | b::r,h,d=>by
  have c:=h b aF;have a:∀ x∈r,nR x:=λx f=>h x (aL _ f)
  have i:=Io a;simp only[eX];unfold nR at c;rcases aI.mp d with e | e
  .omega
  .have:=Pn a e;omega
theorem Ly:∀ {bs:Aa Int},(∀ b∈bs,b=0)->bs.sum=0
 | [],_=>by simp
 | b::r,h=>by
  have c:=h b aF;have d:=Ly λx a=>h x (aL _ a)
  simp only[eX];omega
theorem BW {bs:Aa Int}{m:Int}(g:∀ b∈bs,nR b) (j:m∈bs) (l:∀ a∈bs,m<=a):m=if bs.sum=bs.length then 1 else 0:=by
 rcases g m j with e | e
 .subst e;have:=Qq g j;rw[aJ (by omega)]
 .subst e;have:∀ b∈bs,b=1:=λb c=>by
   have:=l b c;rcases g b c with q | q<;>omega
  rw[aO (Ti this)]
theorem GQ {bs:Aa Int}{m:Int}(g:∀ b∈bs,nR b) (j:m∈bs) (l:∀ a∈bs,a<=m):m=if bs.sum>0 then 1 else 0:=by
 rcases g m j with e | e
 .subst e;have:∀ b∈bs,b=0:=λb c=>by
   have:=l b c;rcases g b c with q | q<;>omega
  have:=Ly this;rw[aJ (by omega)]
 .subst e;have:=Pn g j;rw[aO (by omega)]
def sI (j:Af->Int):Aa (Af×Af×Aa Af)->Af->Int
 | []=>j
 | g::r=>sI (λx=>if x=g.1 then rL g.2.1 (g.2.2.map j) else j x) r
def Bj (j:Af->Int) (g:Af×Af×Aa Af):Af->Int:=λx=>if x=g.1 then rL g.2.1 (g.2.2.map j) else j x
theorem Nd:∀ (l:Aa (Af×Af×Aa Af)) (j:Af->Int) (g:Af×Af×Aa Af),sI j (l++[g])=Bj (sI j l) g
 | [],j,g=>rfl
 | a::r,j,g=>Nd r _ g
def pL (C:Cel) (g:Af->Int):Af->Int:=sI g C.gates
theorem qH.at:∀ {kn:Aa Af}{i:Nat}{g:Af×Af×Aa Af},qH kn j->j[i]?=some g->ArOk g.2.1 g.2.2.length/\∀ p∈g.2.2,p∈kn++(j.take i).map (·.1):=by
 induction j with
 | nil=>intro kn i g _ h;simp at h
 | cons a r c =>
  intro kn i g h e;cases i with
  | zero=>simp at e;subst e;exact⟨h.1,by simpa using h.2.1⟩
  | succ i =>
   have:=c (kn:=kn++[a.1]) (i:=i) (g:=g) h.2.2 (by simpa using e);refine⟨this.1,λp b=>?_⟩;have q:=this.2 p b
   simpa using q
theorem Nb (h:ArOk w n) (g:w = "and" \/ w = "or"):2<=n:=by
 rcases h.ok with⟨_,q | q⟩ | ⟨q,_⟩ | ⟨q,_⟩ | ⟨q,_⟩ | ⟨q,_⟩
 .omega
 .omega
 all_goals (rcases g with e | e<;>(rw[e] at q;exact absurd q (by decide +kernel)))
theorem JD (h:ArOk "not" n):n=1:=by
 rcases h.ok with⟨q,_⟩ | ⟨q,_⟩ | ⟨_,q⟩ | ⟨q,_⟩ | ⟨q,_⟩
 .exact absurd q (by decide +kernel)
 .exact absurd q (by decide +kernel)
 .exact q
 .exact absurd q (by decide +kernel)
 .exact absurd q (by decide +kernel)
structure GC (C:Cel):Prop where
 nd:C.names.Nodup
 gt:qH C.ins C.gates
 os:∀ o∈C.outs,o∈C.names
 ond:C.outs.Nodup
 li:C.ins.length<=40
 lg:C.gates.length<=40
 lo:C.outs.length<=40
def vY (g:Aa (eF×D)) (l:Aa Af) (j:Af->Int):Prop:=∀ x∈l,mG g (Sum.inr x)=some (.int (j x))/\nR (j x)
theorem vY.step (h:vY g j o) (l:nR v) (p:n∉j):vY (mP g (Sum.inr n) (.int v)) (j++[n]) (λx=>if x=n then v else o x):=by
 intro x a;dsimp only;rw[O4];by_cases e:x=n
 .subst e;rw[aO rfl,aO rfl];exact⟨rfl,l⟩
 .rw[aJ (λz=>e (gQ z).symm),aJ e];rcases bE.mp a with q | q
  .exact h x q
  .exact absurd (bF.mp q) e
def Oa:RD:=λe c d=>∃ (a:Af) (bs:Aa Int),c=[.str a,.l (bs.map D.int)]/\(∀ b∈bs,nR b)/\ArOk a bs.length/\d (.v (.int (rL a bs)))
def DO (g:Aa (eF×D)) (j:Aa Af):Prop:=∀ x∈j,∃ d,mG g (Sum.inr x)=some d
def Tv:RD:=λf c d=>∃ (b:Aa Af) (a:Aa (eF×D)),(c=[.t (b.map D.str),.k a]\/c=[.l (b.map D.str),.k a])/\DO a b/\d (.v .e)
def Qo:RD:=λe c d=>∃ (C:Cel) (a:Aa (eF×D)) (b:Af->Int),c=[wF C,.k a]/\GC C/\vY a C.ins b/\d (.v (.t (C.outs.map λo=>D.int (pL C b o))))
theorem S4 {g:Type} [DecidableEq g] {a b:g}{p q:Prop}(j:a=b->p) (l:¬ a=b->q):if (nb false (decide (a=b)))=true then p else q:=by
 by_cases e:a=b
 .rw[aO (by simp[nb,e])];exact j e
 .rw[aJ (by simp[nb,e])];exact l e
theorem EQ {c:Prop} [Decidable c] {p q:Prop}(g:c->p) (j:¬ c->q):if (decide c)=true then p else q:=by
 by_cases e:c
 .rw[aO (bQ e)];exact g e
 .rw[aJ (by simp[e])];exact j e
theorem LK (h:g.length<100000):tV (.k g) (.str x) d=some (.k (mP g (Sum.inr x) d)):=by
 simp only[tV,aO h];rfl
theorem LL (t:mO):(hG t).length=t.length:=by simp[hG]
theorem Wa:(["name","bits"]:Aa Af).Nodup:=by decide +kernel
theorem JH:(["known","told"]:Aa Af).Nodup:=by decide +kernel
theorem GD:(["name","told"]:Aa Af).Nodup:=by decide +kernel
section
variable {P:Ah}{K:lK}
theorem V9:FnScope ["word","bits"] ["word","bits"] (mA Dw):=nZ
theorem Vt (T:Txt j):nY P w K j base 1 "gate_bit" Dw ["word","bits"] Oa:=by
 refine oE V9 λf S A M s H E n p c h Z Y=>?_
 obtain⟨k,bs,rfl,B,ok,G⟩:=Y;have fin:∀ z:Int,z=rL k bs->c (.v (.int z)):=λz e=>by rw[e];exact G
 have a:=Im bs;have st:∀ (e:Af) (t u:pQ),(k=e->t n { nx:=λ_=>c (.v .e),rt:=c } [.v (.str k),.v (.l (bs.map D.int))])->(¬ k=e->u n { nx:=λ_=>c (.v .e),rt:=c } [.v (.str k),.v (.l (bs.map D.int))]) ->
   (∀ N O R,N.rt=O.rt->t n N R->t n O R)->Jg (L9 (zW (tR (Ib false) 0 (cd (.str e)))) t Nl) u n { nx:=λ_=>c (.v .e),rt:=c } [.v (.str k),.v (.l (bs.map D.int))]:=λe t u V W X =>
  ⟨rfl,S4 (λz=>X { nx:=λ_=>c (.v .e),rt:=c } _ _ rfl (V z)) λz=>W z⟩
 refine⟨_,(hO (uP (vV (tX h.units) (sA false) (pv 0) mB) (lZ (nK (qA (LD rfl) JC T.min PyProof.Rows.boot_min (dK (dT 1) gD)))) wY) (hO (uP (vV (tX h.units) (sA false) (pv 0) mB) (lZ (nK (qA (AB rfl) KL T.max PyProof.Rows.boot_max (dK (dT 1) gD)))) wY) (hO (uP (vV (tX h.units) (sA false) (pv 0) mB) (lZ (nK (mR sG W0 (qA (F7 rfl) I0 T.sum iI (dK (dT 1) gD)) lQ))) wY) (hO (uP (vV (tX h.units) (sA false) (pv 0) mB) (lZ (nK (Lg (Ud Xl MA (qA (F7 rfl) I0 T.sum iI (dK (dT 1) gD)) lQ) lQ lQ))) wY) (hO (uP (vV (tX h.units) (sA false) (pv 0) mB) (lZ (nK (mR uJ uF lQ (mQ Z 1 lQ)))) wY) (lZ (nK (Lg (vV (tX h.units) (sA false) (pv 0) mB) lQ lQ)))))))),?_⟩;refine st _ _ _ (λe=>⟨bs,a,?_,λm F y=>fin m ?_⟩) (λd=>?_) (λ_ _ _ e=>by unfold rA;rw[e];exact id)
 .have:=Nb ok (.inl e);intro z;rw[z] at this;simp at this
 .rw[BW B F y];unfold rL;rw[if_pos e]
 refine st _ _ _ (λe=>⟨bs,a,?_,λm F y=>fin m ?_⟩) (λi=>?_) (λ_ _ _ e=>by unfold rA;rw[e];exact id)
 .have:=Nb ok (.inr e);intro z;rw[z] at this;simp at this
 .rw[GQ B F y];unfold rL;rw[if_neg d,if_pos e]
 refine st _ _ _ (λe=>⟨bs,a,by show (0:Int)<2;decide,fin _ ?_⟩) (λx=>?_) (λ_ _ _ e=>by unfold rA;rw[e];exact id)
 .unfold rL;rw[if_neg d,if_neg i,if_pos e]
 refine st _ _ _ (λe=>⟨bs,a,EQ (λz=>fin _ ?_) (λz=>fin _ ?_)⟩) (λL=>?_) (λ_ _ _ e=>by unfold rA;rw[e];exact id)
 .unfold rL;rw[if_neg d,if_neg i,if_neg x,if_pos e,if_pos z]
 .unfold rL;rw[if_neg d,if_neg i,if_neg x,if_pos e,if_neg z]
 refine st _ _ _ (λe=>?_) (λQ=>?_) (λ_ _ _ e=>by unfold rA;rw[e];exact id)
 .subst e;have g:=JD ok;obtain⟨b,rfl⟩:∃ b,bs=[b]:=by
   match bs,g with
   | [b],_=>exact⟨b,rfl⟩
  refine⟨rfl,.int b,rfl,fin _ ?_⟩;have:=B b (by simp);unfold rL;rw[aJ d,aJ i,aJ x,aJ L,aO rfl];rcases this with q | q<;>subst q<;>simp
 refine⟨rfl,S4 (λe=>fin _ ?_) λo=>fin _ ?_⟩
 .unfold rL;rw[if_neg d,if_neg i,if_neg x,if_neg L,if_neg Q,if_pos e]
 .unfold rL;rw[if_neg d,if_neg i,if_neg x,if_neg L,if_neg Q,if_neg o]
theorem Nr:FnScope ["names","given","name"] ["names","given"] (mA Dz):=nZ
theorem Rm (j:H b=some (.k g)) (l:qE g (Sum.inr x)=some v):rY H b (.str x) (some v):=by
 have:=rY.k (k:=(Sum.inr x:eF)) j
 rwa [l] at this
theorem S8 {g:Aa Af}{i:Nat}{x:V}(h:(g.map V.str)[i]?=some x):∃ y,g[i]?=some y/\V.str y=x:=by
 rw[bD] at h;cases e:g[i]? with
 | none=>rw[e] at h;cases h
 | some y=>rw[e] at h;exact⟨y,rfl,bZ h⟩
theorem FI (F:Fun K "check_there" "check_there" Dz f fd):FnOk P w K mg base oD 1 f fd ["names","given"] (xF K Tv):=by
 refine F.ok Nr (λg H Q E O=>by obtain⟨l,A,o,Φ,D,C,r,⟨m,S,e,_⟩,Y⟩:=O;rw[<- r.length];rcases e with e | e<;>rw[e]<;>rfl) (λj A W s H g Q E I O=>?_);obtain⟨l,A1,o,Φ,D,C,r,⟨m,S,e,J,R⟩,Y⟩:=O;have T:=Gv I;obtain⟨c,b,u,rfl,q,B,G⟩:∃ c b u,g=[.ref c,.ref b]/\(hI K H c (m.map V.str)\/mK K H c (m.map V.str))/\H b=some (.k u)/\∀ x∈m,∃ v,qE u (Sum.inr x)=some v:=by
  rcases e with e | e<;>subst e
  all_goals (
   cases r with
   | cons Z r =>
    cases r with
    | cons U r =>
     cases r;obtain⟨b,u,rfl,_,B,p,r3⟩:=U.dK_inv;have G:∀ x∈m,∃ v,qE u (Sum.inr x)=some v:=λx L=>by
      obtain⟨d,hd⟩:=J x L;obtain⟨v,z,_⟩:=(Ec p r3 (Sum.inr x)).1 d hd;exact⟨v,z⟩
     first
     | (obtain⟨c,us,rfl,z,X⟩:=Z.tup_inv;have:=Mt (Ie m) X;subst this;exact⟨c,b,u,rfl,.inr (mK.of z),B,G⟩)
     | (obtain⟨c,us,rfl,_,z,X⟩:=Z.lst_inv;have:=Mt (Ie m) X;subst this;exact⟨c,b,u,rfl,.inl (hI.of z),B,G⟩))
 have fin:Q .e H:=Y (.v .e) .e H R (λ_ _ e _=>e) D .e;refine⟨_,rZ (En iF rfl (L8 (pv 0)) (xM (i:=2) Nr.nd rfl (Or.inl rfl)) (rZ (A7 (KY (Xh T (pv 2) (pv 1))) (rZ HY) A3))),?_⟩;refine⟨_,rfl,?_⟩;rcases q with q | q
 .refine .inl ⟨c,rfl,⟨_,q⟩,?_⟩;refine Vu (K:=K) (a:=c) (xs:=m.map V.str) (λi n h=>h=H/\∃ M,n=[some (.ref c),some (.ref b),M]) ⟨rfl,none,rfl⟩ (λi n h _ ⟨e,_⟩=>by rw[e];exact q) ?_ ?_
  .rintro i x n h L ⟨rfl,M,rfl⟩;obtain⟨y,N,rfl⟩:=S8 L;obtain⟨v,t⟩:=G y (aQ N);exact⟨_,rfl,_,rfl,b,_,rfl,Rm B t,_,rfl,wB ⟨rfl,_,rfl⟩⟩
  .rintro n h ⟨rfl,_⟩;exact fin
 .refine .inr (.inl ⟨c,rfl,⟨_,q⟩,?_⟩);refine AV (K:=K) (a:=c) (xs:=m.map V.str) (λi n h=>h=H/\∃ M,n=[some (.ref c),some (.ref b),M]) ⟨rfl,none,rfl⟩ (λi n h _ ⟨e,_⟩=>by rw[e];exact q) ?_ ?_
  .rintro i x n h L ⟨rfl,M,rfl⟩;obtain⟨y,N,rfl⟩:=S8 L;obtain⟨v,t⟩:=G y (aQ N);exact⟨_,rfl,_,rfl,b,_,rfl,Rm B t,_,rfl,wB ⟨rfl,_,rfl⟩⟩
  .rintro n h ⟨rfl,_⟩;exact fin
theorem Bk:FnScope ["cell","bits","told","name","word","names"] ["cell","bits"] (mA Dq):=nZ
theorem AU (T:Txt mg) (l:Kn P w K mg base 1 "check_there" Dz ["names","given"] Tv) (I:Kn P w K mg base 1 "gate_bit" Dw ["word","bits"] Oa)
: nY P w K mg base 2 "told_by" Dq ["cell","bits"] Qo:=by
 refine oE Bk λf ae A ac s H E dk ds Φ hr G hR=>?_
 obtain⟨C,y,m,rfl,L,U,aa⟩:=hR;have li:=L.li;have lg:=L.lg;have O:C.ins.Nodup:=(bK.mp L.nd).1;refine⟨_,(hO (tA (mF l hr (dK (mQ G 0 lQ) (dK (dT 1) gD)))) (hO (mH 2 Bk.nd (pD (Cm rfl) Cc T.dict fC (dK (oK ["name"] ["bits"] [1] (nL (mQ G 0 lQ)) (λ_ _ _ _ _=>(lX 0 Wa)) (λ_ _ _ _ _=>(qO (dK (dT 0) (dK (mQ G 1 (dT 0)) gD))))) gD))) (hO (qW (nL (mQ G 0 lQ)) (vJ (n:=3) rfl (oA (lX 3 Bk.nd) (oA (lX 4 Bk.nd) (oA (lX 5 Bk.nd) sP)))) (lZ (vA (n:=2) G (mF I hr (dK (dT 4) (dK (oK ["known"] ["told"] [2] (nL (dT 5)) (λ_ _ _ _ _=>(lX 0 JH)) (λ_ _ _ _ _=>(mQ G 1 (dT 0)))) gD))) (pv 2) (dT 3)))) (lZ (nK (pD wS xJ T.tuple dP (dK (oK ["name"] ["told"] [2] (nL (mQ G 0 lQ)) (λ_ _ _ _ _=>(lX 0 GD)) (λ_ _ _ _ _=>(mQ G 1 (dT 0)))) gD))))))),?_⟩;refine⟨rfl,_,rfl,C.ins,y,.inl rfl,λx M=>⟨_,(U x M).1⟩,.inl rfl,?_⟩;dsimp only;refine lM (λc=>c=[.v (wF C),.v (.k y),.o (.k (hG (C.ins.map λn=>(n,m n)))),.n,.n,.n]) (λN hN=>?_) ?_
 .unfold qU dC aC;refine pH C.ins D.str (λn=>.t [.str n,.int (m n)]) _ (λΨ h=>⟨rfl,_,rfl,h⟩) (by omega) (λi n ys Nx e V W=>?_) ?_
  .refine⟨rfl,.int (m n),?_,by show 2<=1000;decide,V,W⟩;show some (mG y (Sum.inr n))=_;rw[(U n (aQ e)).1]
  have e0:uR (C.ins.map λn=>D.t [.str n,.int (m n)])=some (hG (C.ins.map λn=>(n,m n))):=by
   rw[Fu (g:=λn=>((Sum.inr n:eF),D.int (m n))) (λn=>⟨.str n,rfl,rfl⟩)];simp[hG]
  refine⟨_,e0,by simp[hG];omega,?_⟩;rw[Aj (by simpa [gU] using O)];exact hN _ rfl
 rintro _ rfl;have h0:vY (hG (C.ins.map λn=>(n,m n))) C.ins m:=λx M=>by
  refine⟨?_,(U x M).2⟩;have hm:x∈(C.ins.map λn=>(n,m n)).map (·.1):=by simpa [gU] using M
  rw[(zA _ x).1 hm]
  congr 2
  clear hm;revert M;generalize C.ins=xs;induction xs with
  | nil=>intro h;simp at h
  | cons a r ih =>
   intro h;rw[aM,xW];by_cases q:a=x
   .rw[aO q,q]
   .rw[aJ q];rcases aI.mp h with z | z
    .exact absurd z.symm q
    .exact ih z
 refine lM (λc=>∃ (d:Aa (eF×D)) (Q R S:Sl),c=[.v (wF C),.v (.k y),.o (.k d),Q,R,S]/\vY d C.names (pL C m)) (λN hN=>?_) ?_
 .refine qR (C.gates.map rG) _ (λΨ h=>⟨rfl,_,rfl,h⟩)
   (λi c=>∃ (d:Aa (eF×D)) (Q R S:Sl),c=[.v (wF C),.v (.k y),.o (.k d),Q,R,S]/\vY d (C.ins++(C.gates.take i).map (·.1)) (sI m (C.gates.take i))/\d.length<=40+i) ⟨_,.n,.n,.n,rfl,by simpa [sI] using h0,by rw[LL,aA];omega⟩ ?_ ?_
  .rintro i x c M ⟨d,Q,R,S,rfl,F,hl⟩;obtain⟨g,B,rfl⟩:=vX M;obtain⟨X,J⟩:=L.gt.at B;have hi:i<C.gates.length:=(aV.mp B).1;have Z:g.1∉C.ins++(C.gates.take i).map (·.1):=λq=>by
    have nd:(C.ins++C.gates.map (·.1)).Nodup:=L.nd;have e:C.gates=C.gates.take i++g::C.gates.drop (i+1):=by
     obtain⟨hi,rfl⟩:=aV.mp B;rw[List.getElem_cons_drop,List.take_append_drop]
    rw[e,aZ,<- bH] at nd;exact (bK.mp nd).2.2 g.1 q g.1 (by simp) rfl
   have tk:C.gates.take (i+1)=C.gates.take i++[g]:=by rw[cA,B];rfl
   generalize ab:sI m (C.gates.take i)=u at F;have Y:∀ p∈g.2.2,nR (u p):=λp hp=>(F p (J p hp)).2
   refine⟨rfl,rfl,?_⟩;unfold Cd zD aC vd;simp only[List.set_cons_succ,List.set_cons_zero,List.getElem?_cons_succ,List.getElem?_cons_zero];refine pH g.2.2 D.str (λo=>.int (u o)) _ (λΨ h=>h) (by rcases X.ok with⟨_,q | q⟩ | ⟨_,q⟩ | ⟨_,q⟩ | ⟨_,q⟩ | ⟨_,q⟩<;>omega) (λj o ys Nx e V W=>?_) ?_
   .refine⟨rfl,.int (u o),?_,V,W⟩;show some (mG d (Sum.inr o))=_;rw[(F o (J o (aQ e))).1]
   refine⟨g.2.1,g.2.2.map u,by rw[aK];rfl,(λb hb=>by obtain⟨p,hp,rfl⟩:=aH.mp hb;exact Y p hp),by rw[aA];exact X,.inl rfl,rfl,_,LK (by omega),mP d (Sum.inr g.1) (.int (rL g.2.1 (g.2.2.map u))),_,_,_,rfl,?_,?_⟩
   .rw[tk,Nd,ab,aZ,<- bH];exact F.step (N7 _ _) Z
   .have:=KP d (Sum.inr g.1:eF) (.int (rL g.2.1 (g.2.2.map u)));omega
  .rintro c ⟨d,Q,R,S,rfl,F,hl⟩;rw[aA,bW (aP _)] at F;exact hN _ ⟨d,Q,R,S,rfl,F⟩
 rintro _ ⟨d,Q,R,S,rfl,F⟩;unfold rA dC aC;have lo:=L.lo;refine pH C.outs D.str (λo=>.int (pL C m o)) _ (λΨ h=>⟨rfl,_,rfl,h⟩) (by omega) (λj o ys Nx e V W=>?_) aa;refine⟨rfl,.int (pL C m o),?_,V,W⟩;show some (mG d (Sum.inr o))=_;rw[(F o (L.os o (aQ e))).1]
end
theorem Oj (g:Aa Af):xK (g.map D.str)=some (g.map V.str):=Sn (λ_=>rfl) g
theorem Hs:∀ g:Aa Af,xD (.str x) (g.map V.str)=decide (x∈g)
 | []=>by simp[xD]
 | y::g=>by
  have a:=Hs (x:=x) g;unfold xD at a |-;rw[aM,fO,a];by_cases e:x=y
  .subst e;have:pT (V.str x) (V.str x)=true:=iP x;simp[this]
  .have:pT (V.str y) (V.str x)=false:=by
    show (y == x)=false;exact cV.mpr λz=>e z.symm
   have:pT (V.str x) (V.str y)=false:=by
    show (x == y)=false;exact cV.mpr e
   simp[*]
theorem M0 {v:Af->Int}{o:Af}:∀ {os:Aa Af},o∈os->lS (os.map λx=>(x,v x)) o=v o
 | [],h=>by simp at h
 | a::r,h=>by
  rw[aM,xW];by_cases q:a=o
  .rw[aO q,q]
  .rw[aJ q];rcases aI.mp h with z | z
   .exact absurd z.symm q
   .exact M0 z
theorem Iz {p q:Prop}{c:Bool}(h:c=false) (g:q):if c=true then p else q:=by rw[aJ (by rw[h];decide)];exact g
theorem Qi {p q:Prop}{c:Bool}(h:c=true) (g:p):if c=true then p else q:=by rw[aO h];exact g
theorem N5:∀ (j:Aa (Af×Af×Aa Af)) (kn:Aa Af) (l:Af->Int),(∀ x∈kn,nR (l x))->∀ x∈kn++j.map (·.1),nR (sI l j x)
 | [],kn,l,h,x,a=>h x (by simpa using a)
 | g::j,kn,l,h,x,a=>by
  refine N5 j (kn++[g.1]) _ (λy b=>?_) x (by simpa using a);by_cases e:y=g.1
  .show nR (if y=g.1 then _ else _);rw[aO e];exact N7 _ _
  .show nR (if y=g.1 then _ else _);rw[aJ e];rcases bE.mp b with z | z
   .exact h y z
   .exact absurd (bF.mp z) e
theorem Jq (g:GC C) (h:∀ x∈C.ins,nR (j x)):∀ o∈C.outs,nR (pL C j o):=λo a=>N5 C.gates C.ins j h o (g.os o a)
theorem Dl:(["output","name"]:Aa Af).Nodup:=by decide +kernel
theorem Ps:(["name","carried"]:Aa Af).Nodup:=by decide +kernel
def mS (C:Cel) (g:Aa (Af×Af)):D:=.t [wF C,.t (g.map λp=>D.t [.str p.1,.str p.2])]
noncomputable def wIns (C:Cel) (g:Aa (Af×Af)):Aa Af:=C.ins.filter λx=>!decide (x∈g.map (·.2))
noncomputable def wOuts (C:Cel) (g:Aa (Af×Af)):Aa Af:=C.outs.filter λx=>!decide (x∈g.map (·.1))
def Ce:RD:=λd b c=>∃ C a,b=[mS C a]/\a.length<=100/\c (.o (.l (a.map λp=>D.str p.2)))
def Bg:RD:=λd b c=>∃ C a,b=[mS C a]/\a.length<=100/\C.ins.length<=100/\c (.o (.l ((wIns C a).map D.str)))
def Tc:RD:=λd b c=>∃ C a,b=[mS C a]/\a.length<=100/\C.outs.length<=100/\c (.o (.l ((wOuts C a).map D.str)))
section
variable {P:Ah}{K:lK}
theorem AL:FnScope ["row"] ["row"] (mA yU):=nZ
theorem Pt:FnScope ["row","carried"] ["row"] (mA yP):=nZ
theorem Pu:FnScope ["row","carried"] ["row"] (mA Fn):=nZ
theorem ML:nY P w K g base 1 "carried_inputs" yU ["row"] Ce:=by
 refine oE AL λf d A b s H E x y G z u q=>?_
 obtain⟨C,c,rfl,B,a⟩:=q;refine⟨_,(lZ (nK (oK ["output","name"] [] [] (nL (mQ u 0 lQ)) (λ_ _ _ _ _=>(vJ (n:=2) rfl (oA (lX 0 Dl) (oA (lX 1 Dl) sP)))) (λ_ _ _ _ _=>(dT 1))))),?_⟩;unfold rA;exact pH c (λp=>D.t [.str p.1,.str p.2]) (λp=>D.str p.2) _ (λL h=>⟨rfl,_,rfl,h⟩) (by omega) (λi p F v e k m=>⟨rfl,rfl,k,m⟩) a
theorem Uw (g:Kn P w K j base 1 "carried_inputs" yU ["row"] Ce):nY P w K j base 2 "word_inputs" yP ["row"] Bg:=by
 refine oE Pt λf k A d s H E L M R z b y=>?_
 obtain⟨C,a,rfl,B,O,c⟩:=y;refine⟨_,(hO (mH 1 Pt.nd (mF g z (dK (dT 0) gD))) (lZ (nK (oK ["name"] ["carried"] [1] (nL (oJ b (mQ b 0 lQ) lQ)) (λ_ _ _ _ _=>(lX 0 Ps)) (λ_ _ _ _ _=>(dT 0)) (ht:=λ_ _ _ _ _=>(yV (Ho (Hg b) (Iw true) (dT 0) (pv 1)))))))),?_⟩;refine lM (λF=>F=_) (λN v=>⟨C,a,rfl,B,.inl rfl,v _ rfl⟩) ?_;rintro _ rfl;unfold rA;refine wW C.ins D.str D.str (λx=>!decide (x∈a.map λp:Af×Af=>p.2)) _ (λS h=>⟨rfl,_,rfl,_,rfl,h⟩) (by omega) (λi x Q G e n t u=>?_) c;have m:(a.map λp=>D.str p.2)=(a.map (·.2)).map D.str:=by rw[aK];rfl
 refine⟨.str x,(a.map (·.2)).map V.str,rfl,by rw[m];exact Oj _,?_⟩;rw[Hs];show if (!decide (x∈a.map (·.2)))=true then _ else _
 by_cases q:x∈a.map (·.2)
 .exact Iz (by rw[bQ q];rfl) (u (by rw[bQ q];rfl))
 .exact Qi (by rw[bM q];rfl) ⟨n,t (by rw[bM q];rfl)⟩
theorem Xr:nY P w K g base 1 "word_outputs" Fn ["row"] Tc:=by
 refine oE Pu λf y A m s H E Q R Y S b G=>?_
 obtain⟨C,a,rfl,X,W,k⟩:=G;refine⟨_,(hO (mH 1 Pu.nd (oK ["output","name"] [] [] (nL (mQ b 0 lQ)) (λ_ _ _ _ _=>(vJ (n:=2) rfl (oA (lX 0 Dl) (oA (lX 1 Dl) sP)))) (λ_ _ _ _ _=>(dT 0)))) (lZ (nK (oK ["name"] ["carried"] [1] (nL (oJ b (mQ b 0 lQ) lQ)) (λ_ _ _ _ _=>(lX 0 Ps)) (λ_ _ _ _ _=>(dT 0)) (ht:=λ_ _ _ _ _=>(yV (Ho (Hg b) (Iw true) (dT 0) (pv 1)))))))),?_⟩;refine lM (λO=>O=[.v (mS C a),.o (.l (a.map λp=>D.str p.1))]) (λN F=>?_) ?_
 .unfold qU;exact pH a (λp=>D.t [.str p.1,.str p.2]) (λp=>D.str p.1) _ (λM h=>⟨rfl,_,rfl,h⟩) (by omega) (λi p L u e c d=>⟨rfl,rfl,c,d⟩) (F _ rfl)
 rintro _ rfl;unfold rA;refine wW C.outs D.str D.str (λx=>!decide (x∈a.map λp:Af×Af=>p.1)) _ (λM h=>⟨rfl,_,rfl,_,rfl,h⟩) (by omega) (λi x L u e c d B=>?_) k;have z:(a.map λp=>D.str p.1)=(a.map (·.1)).map D.str:=by rw[aK];rfl
 refine⟨.str x,(a.map (·.1)).map V.str,rfl,by rw[z];exact Oj _,?_⟩;rw[Hs];show if (!decide (x∈a.map (·.1)))=true then _ else _
 by_cases q:x∈a.map (·.1)
 .exact Iz (by rw[bQ q];rfl) (B (by rw[bQ q];rfl))
 .exact Qi (by rw[bM q];rfl) ⟨c,d (by rw[bM q];rfl)⟩
end
end Lw
namespace PySem
open PyProof.Rows L2
section
theorem Ut (j:s.heap.IsList l items) (q:Q false s):wpAny (model g w) A (notIterableAtAll (.ref l)) Q E s:=by
 have has:wpAny (model g w) A (specialOf (.ref l) "__iter__") (λr a=>r.isSome=true/\a=s) E s :=
  aB (fA j.typeIs (dR F.slot_list_iter.lookup ⟨rfl,rfl⟩))
 unfold notIterableAtAll;refine aB (lA has ?_);rintro r _ ⟨e,rfl⟩;rw[aO e];exact aE q
theorem P5 (g:l≠j):∀ (n i:Nat) (s:Ae) (Q:Aa Ac->Ae->Prop),s.heap.IsListIter j l i->s.heap.IsList l items->i+n<=items.size ->
  (∀ p,p.IsListIter j l (i+n)->(∀ b,b≠j->p.get? b=s.heap.get? b)->Q ((items.toList.drop i).take n) { s with heap:=p })->wpAny (model r w) A (draw (.ref j) n) Q E s
 | 0,i,s,Q,hit,_,_,q=>aE (q s.heap hit λ_ _=>rfl)
 | n+1,i,s,Q,hit,d,le,q=>by
  have lt:i<items.size:=by omega
  have this:items[i]?=some items[i]:=cE lt;have parts:items.toList.drop i=items[i]::items.toList.drop (i+1):=by
   rw[List.drop_eq_getElem_cons (by simpa using lt)];simp
  unfold draw;refine aB (wpAny_pyNext_list_item hit d this λm a f=>?_);refine aB (bT (P5 g n (i+1) _ _ a (d.at λo e=>(f.2 l g).trans e) (by omega) λh c k=>aE ?_));have:=q h (by rw[show i+(n+1)=i+1+n by omega];exact c) λb nb=>(k b nb).trans (f.2 b nb)
  rw[parts] at this;exact this
theorem DZ (calm:A.handled=none) (j:s.heap.IsList l items) (C:p.length=items.size) (plain:p.findIdx? (·.1)=none)
  (go:∀ r,(∀ b o,s.heap.get? b=some o->r.get? b=some o)->wpAny (model g w) A (assignInOrder (p.map (·.2)) items.toList) Q E { s with heap:=r }):wpAny (model g w) A (unpack (.ref l) p) Q E s:=by
 have lt:l<s.heap.objs.size:=by
  obtain⟨_,e,_⟩:=j;exact aU e
 let a:=s.heap.push { cls:=.type "list_iterator",data:=.fields #[.ref l,.int 0 0] };have same:∀ b o,s.heap.get? b=some o->a.get? b=some o:=λb o e=>aG _ e
 have less:∀ b o,s.heap.get? b=some o->b≠s.heap.objs.size:=λb o e=>bI (aU e)
 have c:a.IsListIter s.heap.objs.size l 0:=⟨_,aX _ rfl,rfl,rfl⟩;have h:a.IsList l items:=j.at λo e=>same _ o e
 unfold unpack;rw[plain,C];refine aB (bT ?_);unfold unpackItems;refine aB (Ut j ?_);rw[aJ aT];refine aB (bT (eZ j ?_));refine aB (bT (P5 (bI lt) items.size 0 _ _ c h (by omega) λi d f=>?_));have all:(items.toList.drop 0).take items.size=items.toList:=by rw[List.drop_zero];exact bW (by simp)
 have n:i.IsList l items:=h.at λo e=>(f l (bI lt)).trans e
 rw[all,aJ (by simp)];refine aB (bT (wpAny_pyNext_list_end calm d n (gB (by omega)) λk m=>?_));simp only[Option.isSome_none,dU,fX];exact aE (go k λb o e=>m b o (less b o e) ((f b (less b o e)).trans (same b o e)))
end
end PySem
namespace L2
open PySem PySem.Spec PyProof.Rows
section
variable {X:Cx}
def JP (K:lK) (n:Nat) (t:yM):TG:=λv c H Q=>∃ a b,v = .ref a/\hI K H a b/\b.length=n/\t b c H Q
theorem Yc (l:X.calm=true) (h:vZ X g t)
  (o:(assignEach g X.env).length=n:=by rfl) (plain:(assignEach g X.env).findIdx? (·.1)=none:=by rfl) (j:∀ v,assign (.Tuple g k pos) X.env v=(do standAt pos;unpack v (assignEach g X.env)):=by intro _;rfl):PG X (.Tuple g k pos) (JP X.K n t):=by
 intro b s q H v u Q I r hw;obtain⟨a,m,rfl,e,d,hw⟩:=hw;cases r;obtain⟨f,c,i,x⟩:=I.list e;rw[j];refine aB (kS (DZ (I.ok.hd l) i.isList (by rw[o,<- d,aR];exact c.length) plain λw k=>?_));exact h b _ q H m _ Q (I.kept (t':=s.toks) k) (by simpa using c) hw
end
end L2
namespace L2
open PySem PySem.Spec PyProof.Rows Lw
section
def J8 (g:Ah) (w:World) (A:Around) (s:Ae) (x y:Ac):Prop:=∀ (E:Ac->Ae->Prop) (Q:Bool->Ae->Prop),Q true s->wpAny (model g w) A (eqBool x y) Q E s
end
def LC (n:Nat) (g:xX):sK:=λd c b=>match d with
 | .l a=>a.length=n/\g a c b
 | _=>False
section
variable {X:Cx}
theorem F5 (r:X.calm=true) (h:Cq X m g o) (C:(assignEach g X.env).length=n:=by rfl) (j:(assignEach g X.env).findIdx? (·.1)=none:=by rfl) (p:∀ v,assign (.Tuple g k pos) X.env v=(do standAt pos;unpack v (assignEach g X.env)):=by intro _;rfl):wT X m (.Tuple g k pos) (LC n o) :=
 (Yc r h C j p).mono λv w H Q b=>b.elim λB u T d t q hd c k=>by
  cases d with
  | l f =>
   obtain⟨a,s,rfl,_,i,e⟩:=hd.valAt.lst_inv;exact⟨a,s,rfl,hI.of i,by rw[<- e.length];exact c.1,B,u,T,f,t,q,e.length,hd.drop.pushs (A:=λ_=>True) e,c.2,k⟩
  | _=>exact c.elim
end
end L2
namespace Lw
open PySem L2
theorem Ni:(["bits"]:Aa Af).Nodup:=by decide +kernel
noncomputable def eH:Nat->Aa (Aa Int)
 | 0=>[[]]
 | n+1=>(eH n).map (0::·)++(eH n).map (1::·)
def mC (b:Aa Int):D:=.t (b.map D.int)
theorem uD:∀ n,(eH n).length=2 ^ n
 | 0=>rfl
 | n+1=>by unfold eH;rw[List.length_append,List.length_map,List.length_map,uD n,Nat.pow_succ];omega
theorem pP:∀ {n:Nat}{b:Aa Int},b∈eH n->b.length=n/\∀ x∈b,x=0\/x=1
 | 0,b,h=>by rw[bF.mp h];exact⟨rfl,λ_ z=>nomatch z⟩
 | n+1,b,h=>by
  unfold eH at h;rcases bE.mp h with h | h
  all_goals
   obtain⟨c,e,rfl⟩:=aH.mp h;obtain⟨a,d⟩:=pP e;refine⟨by rw[bJ,a],λx f=>?_⟩;rcases aI.mp f with q | q
   .first | exact .inl q | exact .inr q
   .exact d x q
theorem wU (h:n<=6):2 ^ n<=64:=jW (by decide) h
def Au:RD:=λc a b=>∃ n:Nat,a=[.int n]/\n<=6/\b (.o (.l ((eH n).map mC)))
section
variable {P:Ah}{K:lK}
theorem Eb:FnScope ["count","found","step"] ["count"] (mA xL):=nZ
theorem EB (T:Txt g):nY P w K g base 1 "all_bits" xL ["count"] Au:=by
 refine oE Eb λf z A t s H E O Q Y W X F=>?_
 obtain⟨n,rfl,V,q⟩:=F;refine⟨_,(hO (mH 1 Eb.nd (qF (dK (qO gD) gD))) (hO (qW (Fl (by rfl) T.range (dT 0)) (lX 2 Eb.nd) (lZ (mH 1 Eb.nd (mR nD nC (oK ["bits"] [] [] (nL (dT 1)) (λ_ _ _ _ _=>(lX 0 Ni)) (λ_ _ _ _ _=>(mR nD nC (qO (dK lQ gD)) (dT 0)))) (oK ["bits"] [] [] (nL (dT 1)) (λ_ _ _ _ _=>(lX 0 Ni)) (λ_ _ _ _ _=>(mR nD nC (qO (dK lQ gD)) (dT 0)))))))) (lZ (nK (Dg 1 (pv 1)))))),?_⟩;refine lM (λc=>c=[.v (.int n),.o (.l ((eH 0).map mC)),.n]) (λN m=>?_) ?_
 .exact⟨by show 0<=1000;decide,by show 1<=1000;decide,m _ rfl⟩
 rintro _ rfl;refine lM (λc=>∃ a,c=[.v (.int n),.o (.l ((eH n).map mC)),a]) (λN m=>?_) ?_
 .refine qR (oG 0 n) _ (λu h=>⟨by omega,by omega,h⟩) (λi c=>∃ a,c=[.v (.int n),.o (.l ((eH i).map mC)),a]) ⟨_,rfl⟩ ?_ ?_
  .rintro i x c L ⟨a,rfl⟩;obtain⟨R,rfl⟩:=zS L;have B:=wU (show i<=6 by omega);have S:=uD i;unfold gN qU d2;refine pH (eH i) mC (λb=>mC (0::b)) _ (λu h=>h) (by omega) (λj b M y e d k=>?_) ?_
   .have G:=(pP (aQ e)).1;refine⟨by show 1<=1000;decide,?_,d,k⟩;show [D.int 0].length+(b.map D.int).length<=100000;rw[aA];show 1+b.length<=100000;omega
   refine pH (eH i) mC (λb=>mC (1::b)) _ (λu h=>h) (by omega) (λj b M y e d k=>?_) ?_
   .have G:=(pP (aQ e)).1;refine⟨by show 1<=1000;decide,?_,d,k⟩;show [D.int 1].length+(b.map D.int).length<=100000;rw[aA];show 1+b.length<=100000;omega
   refine⟨by rw[aA,aA];omega,.v (.int (0+(i:Int))),?_⟩
   .show _=[_,Sl.o (.l ((eH (i+1)).map mC)),_];rw[show eH (i+1)=(eH i).map (0::·)++(eH i).map (1::·) from rfl,aZ,aK,aK];rfl
  .rintro c ⟨a,rfl⟩;have e:(oG 0 n).length=n:=by simp[oG]
   rw[e];exact m _ ⟨a,rfl⟩
 rintro _ ⟨a,rfl⟩;exact q
end
theorem Cu:∀ g:Aa Af,yS (g.map D.str)=some (g.map Sum.inr)
 | []=>rfl
 | x::r=>by rw[aM];unfold yS;rw[Cu r];rfl
theorem Qa (f:Af->Int) (x:Af):∀ (j:Aa Af) (g:Aa (eF×D)),mG (oX g (j.map λo=>((Sum.inr o:eF),D.int (f o)))) (Sum.inr x)=if x∈j then some (.int (f x)) else mG g (Sum.inr x)
 | [],g=>by rw[aJ aY];rfl
 | o::r,g=>by
  show mG (oX (mP g (Sum.inr o) (D.int (f o))) (r.map λo=>((Sum.inr o:eF),D.int (f o)))) (Sum.inr x)=_;rw[Qa f x r,O4];by_cases h:x∈r
  .rw[aO h,aO (aL _ h)]
  .rw[aJ h];by_cases e:o=x
   .rw[aO (by rw[e]),aO (by rw[e];exact aF),e]
   .rw[aJ (λz=>e (gQ z)),aJ (λz=>(aI.mp z).elim (λq=>e q.symm) h)]
theorem Rv (f:l->o) (g:l->p):∀ j:Aa l,(j.map f).zip (j.map g)=j.map λx=>(f x,g x)
 | []=>rfl
 | x::r=>by rw[aM,aM,aM,cP,Rv f g r]
theorem Pl:∀ (j:Aa (Af×Af×Aa Af)) (l:Af->Int) (x:Af),x∉j.map (·.1)->sI l j x=l x
 | [],_,_,_=>rfl
 | g::j,l,x,h=>by
  show sI (Bj l g) j x=l x;rw[Pl j _ x λz=>h (aL _ z)];exact aJ λz=>h (by rw[z];exact aF)
theorem Hj (j:GC C) (g:Af->Int) (l:x∈C.ins):pL C g x=g x :=
 Pl C.gates g x λz=>(bK.mp j.nd).2.2 x l x z rfl
def Pe:RD:=λf d e=>∃ (C:Cel) (a:Aa (eF×D)) (c:Af->Int),d=[wF C,.k a]/\GC C/\vY a C.ins c/\a.length<=100/\∀ b,(∀ x∈C.ins++C.outs,mG b (Sum.inr x)=some (.int (pL C c x)))->e (.o (.k b))
section
variable {P:Ah}{K:lK}
theorem T7:FnScope ["cell","bits","known"] ["cell","bits"] (mA Dv):=nZ
theorem Wu (T:Txt j) (g:Kn P w K j base 2 "told_by" Dq ["cell","bits"] Qo):nY P w K j base 3 "side_bits" Dv ["cell","bits"] Pe:=by
 refine oE T7 λf y A n s H E S V X O Q L=>?_
 obtain⟨C,b,a,rfl,c,t,W,i⟩:=L;refine⟨_,(hO (mH 2 T7.nd (pD (Cm rfl) Cc T.dict fC (dK (dT 1) gD))) (hO (tA (tP jH PySem.F.slot_dict_update PySem.F.type_dict_update Yy AJ (pv 2) (dK (Gk rfl (by rfl) T.dict (by rfl) T.zip (dK (mQ Q 0 lQ) (dK (mF g O (dK (dT 0) (dK (dT 1) gD))) gD))) gD))) (lZ (nK (Dg 2 (pv 2)))))),?_⟩;refine lM (λq=>q=[.v (wF C),.v (.k b),.o (.k b)]) (λN d=>?_) ?_
 .exact d _ rfl
 rintro _ rfl;refine lM (λq=>∃ m,(∀ x∈C.ins++C.outs,mG m (Sum.inr x)=some (.int (pL C a x)))/\q=[.v (wF C),.v (.k b),.o (.k m)]) (λN d=>?_) ?_
 .have M:=c.lo;refine⟨rfl,rfl,_,rfl,C,b,a,rfl,c,t,.inl rfl,true,true,_,_,C.outs.map Sum.inr,rfl,rfl,Cu C.outs,by rw[aA];omega,?_⟩;have G:(C.outs.map (Sum.inr:Af->eF)).zip (C.outs.map λo=>D.int (pL C a o))=hG (C.outs.map λo=>(o,pL C a o)):=by
   rw[Rv];unfold hG;rw[List.map_map];rfl
  have B:oX [] (hG (C.outs.map λo=>(o,pL C a o)))=hG (C.outs.map λo=>(o,pL C a o)):=Aj (by rw[aK];simpa [gU] using c.ond);have z:hG (C.outs.map λo=>(o,pL C a o))=C.outs.map λo=>((Sum.inr o:eF),D.int (pL C a o)):=by unfold hG;rw[List.map_map];rfl
  rw[G,B];refine⟨?_,d _ ⟨_,λx R=>?_,rfl⟩⟩
  .unfold hG;rw[List.length_map,List.length_map];omega
  .rw[z,Qa];by_cases h:x∈C.outs
   .rw[aO h]
   .rw[aJ h];have u:x∈C.ins:=(bE.mp R).resolve_right h;rw[Hj c a u];exact (t x u).1
 rintro _ ⟨m,e,rfl⟩;exact i _ e
end
theorem Sf {j:Type}(f:j->Int){g:Aa j}{i:Nat}{x:j}(h:g[i]?=some x):((g.take (i+1)).map f).sum=((g.take i).map f).sum+f x:=by
 rw[cA,h,aZ,kC];simp
theorem K0 (h:nR v):-(2 ^ 64)<v/\v<2 ^ 64:=by
 rcases h with rfl | rfl<;>exact⟨by decide,by decide⟩
theorem HH (h:nR v) (g:nR u):-(2 ^ 64)<v-2*u/\v-2*u<2 ^ 64:=by
 rcases h with rfl | rfl<;>rcases g with rfl | rfl<;>exact⟨by decide,by decide⟩
def zU (C:Cel) (g:Aa (Af×Af)) (t:mO) (u:Af->Int):Int:=lS t "" + ((wIns C g++wOuts C g).map λx=>lS t x*u x).sum+(g.map λp=>lS t p.2*(u p.2-2*u p.1)).sum
structure RwOk (C:Cel) (prs:List (Str×Str)):Prop where
 gc:GC C
 n1:(prs.map (·.1)).Nodup
 n2:(prs.map (·.2)).Nodup
 m:∀ p∈prs,p.1∈C.outs/\p.2∈C.ins
 li:C.ins.length<=6
 lp:prs.length<=6
def Sb:RD:=λe c d=>∃ (C:Cel) (a:Aa (Af×Af)) (t:mO) (b:Aa (eF×D)) (u:Af->Int),c=[mS C a,.k (hG t),.k b]/\RwOk C a/\(∀ x∈C.ins++C.outs,mG b (Sum.inr x)=some (.int (u x))/\nR (u x))/\d (.v (.int (zU C a t u)))
section
variable {P:Ah}{K:lK}
theorem yI:FnScope ["row","weights","known","part","name","output"] ["row","weights","known"] (mA Ge):=nZ
theorem W4 (T:Txt l) (j:Kn P w K l base 2 "word_inputs" yP ["row"] Bg) (g:Kn P w K l base 1 "word_outputs" Fn ["row"] Tc):nY P w K l base 3 "cell_part" Ge ["row","weights","known"] Sb:=by
 refine oE yI λf V A R s H E dk ds Φ S q W=>?_
 obtain⟨C,a,t,e,u,rfl,F,L,O⟩:=W;refine⟨_,(hO (mH 3 yI.nd (Jy q (pv 1) mB lQ)) (hO (qW (nL (mR nD nC (mF j S (dK (dT 0) gD)) (mF g S (dK (dT 0) gD)))) (lX 4 yI.nd) (lZ (Il (n:=3) yI.nd rfl (Or.inl rfl) (mR xZ yA (Jy q (pv 1) (dT 4) lQ) (mQ q 2 (dT 4))) Kc))) (hO (qW (nL (mQ q 0 lQ)) (vJ (n:=2) rfl (oA (lX 5 yI.nd) (oA (lX 4 yI.nd) sP))) (lZ (Il (n:=3) yI.nd rfl (Or.inl rfl) (mR xZ yA (Jy q (pv 1) (dT 4) lQ) (mR uJ uF (mQ q 2 (dT 4)) (mR xZ yA lQ (mQ q 2 (dT 5))))) Kc))) (lZ (nK (dT 3)))))),?_⟩;have Z:=F.lp;have X:=F.li;have Y:=F.gc.lo;refine lM (λd=>d=[.v (mS C a),.v (.k (hG t)),.v (.k e),.v (.int (lS t "")),.n,.n]) (λN B=>?_) ?_
 .refine⟨rfl,_,rfl,?_⟩;show N [_,_,_,Sl.v ((mG (hG t) (Sum.inr (Str.ofString ""))).getD (D.int 0)),_,_];rw[Jx];exact B _ rfl
 rintro _ rfl;have U:∀ y∈wIns C a++wOuts C a,y∈C.ins++C.outs:=λy z=>(bE.mp z).elim (λh=>bB _ ((bV.mp h).1)) λh=>bA _ ((bV.mp h).1)
 have l1:(wIns C a).length<=C.ins.length:=dH _ _;have l2:(wOuts C a).length<=C.outs.length:=dH _ _;refine lM (λd=>∃ c b,d=[.v (mS C a),.v (.k (hG t)),.v (.k e),.v (.int (lS t "" + ((wIns C a++wOuts C a).map λx=>lS t x*u x).sum)),c,b]) (λN B=>?_) ?_
 .refine qR ((wIns C a++wOuts C a).map D.str) [.v (mS C a),.v (.k (hG t)),.v (.k e),.v (.int (lS t "")),.n,.n] (λΨ h=>?_) (λi d=>∃ c b,d=[.v (mS C a),.v (.k (hG t)),.v (.k e),.v (.int (lS t "" + (((wIns C a++wOuts C a).take i).map λx=>lS t x*u x).sum)),c,b]) ⟨.n,.n,by simp⟩ ?_ ?_
  .rw[aZ] at h;exact⟨C,a,rfl,by omega,by omega,.inl rfl,C,a,rfl,by omega,by omega,.inl rfl,by rw[aA,aA];omega,h⟩
  .rintro i x d M ⟨c,b,rfl⟩;obtain⟨y,z,rfl⟩:=vX M;obtain⟨Q,G⟩:=L y (U y (aQ z));refine⟨rfl,_,rfl,rfl,D.int (u y),?_,?_⟩
   .show some (mG e (Sum.inr y))=_;rw[Q]
   .show Jh ((mG (hG t) (Sum.inr y)).getD (D.int 0)) (D.int (u y)) _;rw[Jx];refine⟨.inr (K0 G),.v (.str y),b,?_⟩;rw[Sf (λx=>lS t x*u x) z,<- Int.add_assoc];rfl
  .rintro d ⟨c,b,rfl⟩;rw[aA,eG];exact B _ ⟨c,b,rfl⟩
 rintro _ ⟨c,b,rfl⟩;refine lM (λd=>∃ c b,d=[.v (mS C a),.v (.k (hG t)),.v (.k e),.v (.int (zU C a t u)),c,b]) (λN B=>?_) ?_
 .refine qR (a.map λp=>D.t [.str p.1,.str p.2]) [.v (mS C a),.v (.k (hG t)),.v (.k e),.v (.int (lS t "" + ((wIns C a++wOuts C a).map λx=>lS t x*u x).sum)),c,b] (λΨ h=>?_) (λi d=>∃ c b,d=[.v (mS C a),.v (.k (hG t)),.v (.k e),.v (.int (lS t "" + ((wIns C a++wOuts C a).map λx=>lS t x*u x).sum+((a.take i).map λp=>lS t p.2*(u p.2-2*u p.1)).sum)),c,b]) ⟨c,b,by simp⟩ ?_ ?_
  .exact⟨rfl,_,rfl,h⟩
  .rintro i x d M ⟨c,b,rfl⟩;obtain⟨y,z,rfl⟩:=vX M;obtain⟨I,J⟩:=F.m y (aQ z);obtain⟨Q,G⟩:=L y.1 (bA _ I);obtain⟨o,r⟩:=L y.2 (bB _ J);have b1:=K0 G;refine⟨rfl,rfl,rfl,_,rfl,rfl,D.int (u y.2),?_,rfl,D.int (u y.1),?_,?_⟩
   .show some (mG e (Sum.inr y.2))=_;rw[o]
   .show some (mG e (Sum.inr y.1))=_;rw[Q]
   .refine⟨.inl ⟨by decide,by decide⟩,?_⟩;show Jh ((mG (hG t) (Sum.inr y.2)).getD (D.int 0)) (D.int (u y.2-2*u y.1)) _;rw[Jx];refine⟨.inr (HH r G),.v (.str y.2),.v (.str y.1),?_⟩;rw[Sf (λp:Af×Af=>lS t p.2*(u p.2-2*u p.1)) z,<- Int.add_assoc];rfl
  .rintro d ⟨c,b,rfl⟩;rw[aA,eG];exact B _ ⟨c,b,rfl⟩
 rintro _ ⟨c,b,rfl⟩;exact O
end
theorem Ri:(["output","name","known"]:Aa Af).Nodup:=by decide +kernel
def rC (C:Cel) (g:Aa (Af×Af)) (c l:Aa Int):mO:=(g.map (·.2)++wIns C g).zip (c++l)
def pG (C:Cel) (g:Aa (Af×Af)) (c l:Aa Int):Af->Int:=pL C (lS (rC C g c l))
def yR (C:Cel) (g:Aa (Af×Af)) (t:mO) (c l:Aa Int):D:=.t [mC (g.map λp=>pG C g c l p.1),.int (zU C g t (pG C g c l))]
def wE (C:Cel) (g:Aa (Af×Af)) (t:mO) (c:Aa Int):D:=.T ((eH (wIns C g).length).map λl=>(l.map (Sum.inl:Int->eF),yR C g t c l))
def pZ (C:Cel) (g:Aa (Af×Af)) (t:mO):D:=.T ((eH g.length).map λc=>(c.map (Sum.inl:Int->eF),wE C g t c))
theorem G7 {j:Type} [DecidableEq j] {g:Aa (j×D)}{k:j}{d:D}(h:k∉g.map (·.1)):mP g k d=g++[(k,d)]:=by
 unfold mP;rw[aJ];intro z;obtain⟨q,a,e⟩:=cN.mp z;exact h (aH.mpr ⟨q,a,cM e⟩)
theorem B3:∀ b:Aa Int,sF (b.map D.int)=some (b.map Sum.inl)
 | []=>rfl
 | x::r=>by rw[aM];unfold sF;rw[B3 r];rfl
theorem Jf:∀ n,(eH n).Nodup
 | 0=>by unfold eH;simp
 | n+1=>by
  unfold eH;have inj:∀ a:Int,((eH n).map (a::·)).Nodup:=λa=>List.Pairwise.map (a::·) (λx y h e=>h (gE e).2) (Jf n)
  refine bK.mpr ⟨inj 0,inj 1,λx b y c e=>?_⟩;obtain⟨p,_,rfl⟩:=aH.mp b;obtain⟨q,_,rfl⟩:=aH.mp c;exact absurd (gE e).1 (by decide)
theorem Az:∀ {a b:Aa Int},a.map (Sum.inl:Int->eF)=b.map Sum.inl->a=b
 | [],[],_=>rfl
 | [],_::_,e=>by cases e
 | _::_,[],e=>by cases e
 | x::a,y::b,e=>by
  rw[aM,aM] at e;obtain⟨c,d⟩:=gE e;rw[Sum.inl.inj c,Az d]
theorem Ve (h:(eH n)[i]?=some b) (f:Aa Int->D):mP (((eH n).take i).map λl=>(l.map (Sum.inl:Int->eF),f l)) (b.map Sum.inl) (f b)=((eH n).take (i+1)).map λl=>(l.map (Sum.inl:Int->eF),f l):=by
 rw[G7]
 .rw[cA,h,aZ];rfl
 .intro z;rw[aK] at z;obtain⟨c,m,e⟩:=aH.mp z;have e:c=b:=Az e;subst e;obtain⟨j,q,d⟩:=cW m;rw[bN] at q;have k:(eH n)[j]?=some c:=by rw[List.getElem_take] at d;exact aV.mpr ⟨by omega,d⟩
  have a:j<(eH n).length:=by omega
  have:=(kR a (Jf n)).mp (k.trans h.symm);omega
theorem Hr (h:RwOk C g) (o:c.length=g.length) (r:l.length=(wIns C g).length) (j:∀ x∈c,nR x) (bl:∀ x∈l,nR x) :
  (rC C g c l).map (·.1)=g.map (·.2)++wIns C g/\((rC C g c l).map (·.1)).Nodup/\vY (hG (rC C g c l)) C.ins (lS (rC C g c l)):=by
 have n:(g.map (·.2)++wIns C g).Nodup:=by
  refine bK.mpr ⟨h.n2,(bK.mp h.gc.nd).1.filter _,λx f y t e=>?_⟩;subst e;have:=(bV.mp t).2;simp only[Bool.not_eq_true',decide_eq_false_iff_not] at this;exact this f
 have a:(g.map (·.2)++wIns C g).length=(c++l).length:=by rw[aW,aW,aA,o,r]
 have b:(rC C g c l).map (·.1)=g.map (·.2)++wIns C g:=fL (kW a);refine⟨b,by rw[b];exact n,λx f=>?_⟩;have i:x∈(rC C g c l).map (·.1):=by
  rw[b];by_cases d:x∈g.map (·.2)
  .exact bB _ d
  .exact bA _ (bV.mpr ⟨f,by simpa using d⟩)
 refine⟨(zA _ x).1 i,?_⟩;obtain⟨p,d,e⟩:=aH.mp i;have m:∀ q∈rC C g c l,nR q.2:=λq s=>by
  have:=(fE s).2;exact (bE.mp this).elim (j _) (bl _)
 unfold lS;cases k:(rC C g c l).find? (λp=>decide (p.1=x)) with
 | none=>exact .inl rfl
 | some q=>exact m q (List.mem_of_find?_eq_some k)
theorem Rj (h:(eH n)[i]?=some b) (f:Aa Int->D) (g:(eH n).length<=64):tV (.T (((eH n).take i).map λl=>(l.map (Sum.inl:Int->eF),f l))) (mC b) (f b)=some (.T (((eH n).take (i+1)).map λl=>(l.map (Sum.inl:Int->eF),f l))):=by
 have a:(((eH n).take i).map λl=>(l.map (Sum.inl:Int->eF),f l)).length<100000:=by rw[aA,bN];omega
 show (if (((eH n).take i).map λl=>(l.map (Sum.inl:Int->eF),f l)).length<100000 then (sF (b.map D.int)).map (λk=>D.T (mP (((eH n).take i).map λl=>(l.map (Sum.inl:Int->eF),f l)) k (f b))) else none)=_;rw[aO a,B3,gO,Ve h]
def Q3:RD:=λe b d=>∃ (C:Cel) (a:Aa (Af×Af)) (t:mO) (c:Aa Int),b=[mS C a,.k (hG t),mC c]/\RwOk C a/\c.length=a.length/\(∀ x∈c,nR x)/\d (.o (wE C a t c))
def R0:RD:=λd b c=>∃ (C:Cel) (a:Aa (Af×Af)) (t:mO),b=[mS C a,.k (hG t)]/\RwOk C a/\c (.o (pZ C a t))
section
variable {P:Ah}{K:lK}
theorem Bw:FnScope ["row","weights","carried","found","bits","known","onward"] ["row","weights","carried"] (mA Cv):=nZ
theorem Ih:FnScope ["row","weights","table","carried"] ["row","weights"] (mA Gp):=nZ
theorem GI (T:Txt mg) (U:Kn P w K mg base 1 "all_bits" xL ["count"] Au) (g:Kn P w K mg base 2 "word_inputs" yP ["row"] Bg) (r:Kn P w K mg base 1 "carried_inputs" yU ["row"] Ce) (J:Kn P w K mg base 3 "side_bits" Dv ["cell","bits"] Pe) (I:Kn P w K mg base 3 "cell_part" Ge ["row","weights","known"] Sb)
: nY P w K mg base 4 "steps_from" Cv ["row","weights","carried"] Q3:=by
 refine oE Bw λf aa A Z s H E dk ds Φ O S hR=>?_
 obtain⟨C,a,t,c,rfl,d,Q,W,Y⟩:=hR;refine⟨_,(hO (mH 3 Bw.nd Ex) (hO (qW (nL (mF U O (dK (qA uQ uW T.len cU (dK (mF g O (dK (dT 0) gD)) gD)) gD))) (lX 4 Bw.nd) (hO (mH 5 Bw.nd (mF J O (dK (mQ S 0 lQ) (dK (Gk rfl (by rfl) T.dict (by rfl) T.zip (dK (mR nD nC (mF r O (dK (dT 0) gD)) (mF g O (dK (dT 0) gD))) (dK (sL nD nC 2 (dT 4)) gD))) gD)))) (hO (mH 6 Bw.nd (pD wS xJ T.tuple dP (dK (oK ["output","name"] ["known"] [5] (nL (mQ S 0 lQ)) (λ_ _ _ _ _=>(vJ (n:=2) rfl (oA (lX 0 Ri) (oA (lX 1 Ri) sP)))) (λ_ _ _ _ _=>(mQ S 2 (dT 0)))) gD))) (lZ (vA (n:=3) S (qO (dK (dT 6) (dK (mF I O (dK (dT 0) (dK (dT 1) (dK (dT 5) gD)))) gD))) (pv 3) (dT 4)))))) (lZ (nK (Dg 3 (pv 3)))))),?_⟩;have af:=d.lp;have ae:=d.li;have l1:(wIns C a).length<=C.ins.length:=dH _ _;have ab:=wU (show (wIns C a).length<=6 by omega);have ac:=uD (wIns C a).length;refine lM (λb=>b=_) (λN F=>F _ rfl) ?_;rintro _ rfl;refine lM (λb=>∃ L M B,b=[.v (mS C a),.v (.k (hG t)),.v (mC c),.o (wE C a t c),L,M,B]) (λN F=>?_) ?_
 .refine qR ((eH (wIns C a).length).map mC) _ (λΨ h=>?_) (λi b=>∃ L M B,b=[.v (mS C a),.v (.k (hG t)),.v (mC c),.o (.T (((eH (wIns C a).length).take i).map λl=>(l.map (Sum.inl:Int->eF),yR C a t c l))),L,M,B]) ⟨.n,.n,.n,rfl⟩ ?_ ?_
  .exact⟨C,a,rfl,by omega,by omega,.inl rfl,rfl,_,rfl,(wIns C a).length,by rw[aA],by omega,.inl rfl,h⟩
  .rintro i x b u ⟨L,M,B,rfl⟩;obtain⟨l,hl,rfl⟩:=vX u;obtain⟨ll,lb⟩:=pP (aQ hl);obtain⟨ek,nd,R⟩:=Hr d Q ll W lb;refine lM (λb=>∃ z,(∀ x∈C.ins++C.outs,mG z (Sum.inr x)=some (.int (pG C a c l x)))/\b=[.v (mS C a),.v (.k (hG t)),.v (mC c),.o (.T (((eH (wIns C a).length).take i).map λl=>(l.map (Sum.inl:Int->eF),yR C a t c l))),.v (mC l),.o (.k z),B]) (λN F=>?_) ?_
   .have ez:((a.map λp=>D.str p.2)++(wIns C a).map D.str)=(a.map (·.2)++wIns C a).map D.str:=by rw[aZ,aK];rfl
    have ev:(c.map D.int++l.map D.int)=(c++l).map D.int:=(aZ ..).symm;refine⟨rfl,_,rfl,C,a,rfl,by omega,.inl rfl,C,a,rfl,by omega,by omega,.inl rfl,by rw[aA,aA];omega,rfl,by rw[aA,aA,Q,ll];omega,false,true,_,_,(a.map (·.2)++wIns C a).map Sum.inr,rfl,rfl,by rw[ez];exact Cu _,by rw[aA,aW,aA];omega,?_⟩;have V:oX [] (((a.map (·.2)++wIns C a).map (Sum.inr:Af->eF)).zip (c.map D.int++l.map D.int))=hG (rC C a c l):=by
     rw[ev];have e3:((a.map (·.2)++wIns C a).map (Sum.inr:Af->eF)).zip ((c++l).map D.int)=hG (rC C a c l):=by
      unfold hG rC;rw[List.zip_map];rfl
     rw[e3];exact Aj nd
    rw[V];have le:(hG (rC C a c l)).length<=100:=by
     have:=dD List.length ek;rw[aA,aW,aA] at this;unfold hG;rw[aA];omega
    exact⟨C,_,_,rfl,d.gc,R,le,λz q=>⟨.inl rfl,F _ ⟨z,q,rfl⟩⟩⟩
   rintro _ ⟨z,q,rfl⟩;refine lM (λb=>b=[.v (mS C a),.v (.k (hG t)),.v (mC c),.o (.T (((eH (wIns C a).length).take i).map λl=>(l.map (Sum.inl:Int->eF),yR C a t c l))),.v (mC l),.o (.k z),.v (mC (a.map λp=>pG C a c l p.1))]) (λN F=>?_) ?_
   .have hb:∀ x∈C.ins++C.outs,nR (pG C a c l x):=λx u=>by
     by_cases G:x∈C.ins
     .unfold pG;rw[Hj d.gc _ G];exact (R x G).2
     .exact Jq d.gc (λy X=>(R y X).2) x ((bE.mp u).resolve_left G)
    unfold qU dC aC;refine pH a (λp=>D.t [.str p.1,.str p.2]) (λp=>D.int (pG C a c l p.1)) _ (λΨ h=>⟨rfl,_,rfl,h⟩) (by omega) (λj y ys Nx e h1 h2=>?_) ?_
    .refine⟨rfl,rfl,rfl,D.int (pG C a c l y.1),?_,h1,h2⟩;show some (mG z (Sum.inr y.1))=_;rw[q y.1 (bA _ (d.m y (aQ e)).1)]
    .have e4:mC (a.map λp=>pG C a c l p.1)=D.t (a.map λp=>D.int (pG C a c l p.1)):=by unfold mC;rw[List.map_map];rfl
     have k:=F _ rfl;rw[e4] at k;exact k
   rintro _ rfl;have hb:∀ x∈C.ins++C.outs,nR (pG C a c l x):=λx u=>by
     by_cases G:x∈C.ins
     .unfold pG;rw[Hj d.gc _ G];exact (R x G).2
     .exact Jq d.gc (λy X=>(R y X).2) x ((bE.mp u).resolve_left G)
   refine⟨C,a,t,z,pG C a c l,rfl,d,λx u=>⟨q x u,hb x u⟩,.inl rfl,by show 2<=1000;decide,rfl,?_⟩;exact⟨_,Rj hl (yR C a t c) (by omega),_,_,_,rfl⟩
  .rintro b ⟨L,M,B,rfl⟩;rw[aA,eG];exact F _ ⟨L,M,B,rfl⟩
 rintro _ ⟨L,M,B,rfl⟩;exact Y
theorem HX (T:Txt l) (j:Kn P w K l base 1 "all_bits" xL ["count"] Au) (g:Kn P w K l base 4 "steps_from" Cv ["row","weights","carried"] Q3)
: nY P w K l base 5 "step_table" Gp ["row","weights"] R0:=by
 refine oE Ih λf G A u s H E S V W B D O=>?_
 obtain⟨C,a,t,rfl,y,q⟩:=O;refine⟨_,(hO (mH 2 Ih.nd Ex) (hO (qW (nL (mF j B (dK (qA uQ uW T.len cU (dK (mQ D 0 lQ) gD)) gD))) (lX 3 Ih.nd) (lZ (vA (n:=2) D (mF g B (dK (dT 0) (dK (dT 1) (dK (dT 3) gD)))) (pv 2) (dT 3)))) (lZ (nK (Dg 2 (pv 2)))))),?_⟩;have m:=y.lp;have M:=wU m;have Q:=uD a.length;refine lM (λd=>d=_) (λN e=>e _ rfl) ?_;rintro _ rfl;refine lM (λd=>∃ b,d=[.v (mS C a),.v (.k (hG t)),.o (pZ C a t),b]) (λN e=>?_) ?_
 .refine qR ((eH a.length).map mC) _ (λX h=>?_) (λi d=>∃ b,d=[.v (mS C a),.v (.k (hG t)),.o (.T (((eH a.length).take i).map λc=>(c.map (Sum.inl:Int->eF),wE C a t c))),b]) ⟨.n,rfl⟩ ?_ ?_
  .exact⟨rfl,_,rfl,rfl,_,rfl,a.length,by rw[aA],by omega,.inl rfl,h⟩
  .rintro i x d R ⟨b,rfl⟩;obtain⟨c,z,rfl⟩:=vX R;obtain⟨L,F⟩:=pP (aQ z);exact⟨C,a,t,c,rfl,y,L,F,.inl rfl,rfl,_,Rj z (wE C a t) (by omega),_,rfl⟩
  .rintro d ⟨b,rfl⟩;rw[aA,eG];exact e _ ⟨b,rfl⟩
 rintro _ ⟨b,rfl⟩;exact q
end
theorem Q6:(["bit","want"]:Aa Af).Nodup:=by decide +kernel
theorem Wq:(["name","edges"]:Aa Af).Nodup:=by decide +kernel
theorem Z1:(["bits","asked"]:Aa Af).Nodup:=by decide +kernel
noncomputable def qT:Ab Int->D
 | none=>.e
 | some i=>.int i
noncomputable def Dc (b:Int) (o:Ab Int):Bool:=match o with
 | none=>true
 | some i=>decide (i=b)
def xO (bs:Aa Int) (os:Aa (Ab Int)):Bool:=(bs.zip os).all λp=>Dc p.1 p.2
def tZ (g:Aa (Af×Af)) (j:Af->Ab Int):Aa (Ab Int):=g.map λp=>j p.2
def tF (g:Aa (Af×Af)) (j:Af->Ab Int):Aa (Aa Int):=(eH g.length).filter λb=>xO b (tZ g j)
theorem Gs (f:o->D) (g:r->D):∀ (j:Aa o) (l:Aa r),yB (j.map f) (l.map g)=(j.zip l).map λp=>D.t [f p.1,g p.2]
 | [],_=>rfl
 | _::_,[]=>rfl
 | x::j,y::l=>by
  show D.t [f x,g y]::yB (j.map f) (l.map g)=_;rw[Gs f g j l];rfl
def O7:RD:=λd a c=>∃ (bs:Aa Int) (os:Aa (Ab Int)),a=[mC bs,.l (os.map qT)]/\bs.length<=100/\os.length<=100/\c (.v (.b (xO bs os)))
def P8:RD:=λf d e=>∃ (C:Cel) (a:Aa (Af×Af)) (b:Aa (eF×D)) (c:Af->Ab Int),d=[mS C a,.k b]/\a.length<=6/\(∀ p∈a,mG b (Sum.inr p.2)=some (qT (c p.2)))/\e (.o (.l ((tF a c).map mC)))
section
variable {P:Ah}{K:lK}
theorem AD:FnScope ["bits","asked"] ["bits","asked"] (mA Ga):=nZ
theorem Tf:FnScope ["row","edges","asked"] ["row","edges"] (mA C0):=nZ
theorem JF (T:Txt g):nY P w K g base 1 "are_let" Ga ["bits","asked"] O7:=by
 refine oE AD λf m A c s H E B F x u M q=>?_
 obtain⟨bs,os,rfl,G,L,a⟩:=q;refine⟨_,(lZ (nK (qA (HW rfl) Y6 T.all PyProof.Rows.boot_all (dK (oK ["bit","want"] [] [] (Sj (by rfl) T.zip (dK (dT 0) (dK (dT 1) gD))) (λ_ _ _ _ _=>(vJ (n:=2) rfl (oA (lX 0 Q6) (oA (lX 1 Q6) sP)))) (λ_ _ _ _ _=>(K8 (Hn Wm (KZ false) (pv 1) K7) (Gz (Hn (tX u.units) (sA false) (pv 1) (dT 0)))))) gD)))),?_⟩;have N:(bs.zip os).length<=100:=by rw[eP];omega
 unfold rA dC aC;refine pH (bs.zip os) (λp=>D.t [.int p.1,qT p.2]) (λp=>D.b (Dc p.1 p.2)) [.v (mC bs),.v (.l (os.map qT))] (λQ h=>⟨true,false,_,_,rfl,rfl,?_⟩) (by omega) (λj y O z e d k=>?_) ?_
 .rw[Gs];exact h
 .obtain⟨b,o⟩:=y;cases o with
  | none=>exact⟨rfl,rfl,rfl,d,k⟩
  | some i=>exact⟨rfl,rfl,rfl,rfl,d,k⟩
 .refine⟨(bs.zip os).map λp=>Dc p.1 p.2,?_,?_⟩
  .rw[<- Er,aK];rfl
  .show x (.v (.b (((bs.zip os).map λp=>Dc p.1 p.2).all id)));rw[List.all_map];exact a
theorem BH (T:Txt J) (g:Kn P w K J base 1 "carried_inputs" yU ["row"] Ce) (r:Kn P w K J base 1 "all_bits" xL ["count"] Au) (I:Kn P w K J base 1 "are_let" Ga ["bits","asked"] O7)
: nY P w K J base 2 "let_edges" C0 ["row","edges"] P8:=by
 refine oE Tf λf F A z s H E Y Z Φ u S O=>?_
 obtain⟨C,a,d,c,rfl,m,R,x⟩:=O;refine⟨_,(hO (mH 2 Tf.nd (oK ["name"] ["edges"] [1] (nL (mF g u (dK (dT 0) gD))) (λ_ _ _ _ _=>(lX 0 Wq)) (λ_ _ _ _ _=>(mQ S 1 (dT 0))))) (lZ (nK (oK ["bits"] ["asked"] [2] (nL (mF r u (dK (qA uQ uW T.len cU (dK (dT 2) gD)) gD))) (λ_ _ _ _ _=>(lX 0 Z1)) (λ_ _ _ _ _=>(dT 0)) (ht:=λ_ _ _ _ _=>(yV (E8 (mF I u (dK (dT 0) (dK (dT 1) gD)))))))))),?_⟩;have L:=wU m;have Q:=uD a.length;refine lM (λX=>X=[.v (mS C a),.v (.k d),.o (.l ((tZ a c).map qT))]) (λN M=>?_) ?_
 .unfold qU;have k:=M _ rfl;rw[show (tZ a c).map qT=a.map (λp=>qT (c p.2)) by unfold tZ;rw[List.map_map];rfl] at k;refine pH a (λp=>D.str p.2) (λp=>qT (c p.2)) [.v (mS C a),.v (.k d),.n] (λW h=>⟨C,a,rfl,by omega,.inl rfl,h⟩) (by omega) (λj y V B e q t=>?_) k;refine⟨rfl,qT (c y.2),?_,q,t⟩;show some (mG d (Sum.inr y.2))=_;rw[R y (aQ e)]
 rintro _ rfl;unfold rA;refine wW (eH a.length) mC mC (λb=>xO b (tZ a c)) [.v (mS C a),.v (.k d),.v (.l ((tZ a c).map qT))] (λW h=>?_) (by omega) (λj b V B e q t G=>?_) ?_
 .exact⟨rfl,_,rfl,a.length,by unfold tZ;rw[List.length_map,List.length_map],m,.inl rfl,h⟩
 .have U:=(pP (aQ e)).1;refine⟨b,tZ a c,rfl,by omega,by unfold tZ;rw[List.length_map];omega,.inl rfl,rfl,_,rfl,?_⟩;cases i:xO b (tZ a c) with
  | true=>exact (aO rfl).mpr ⟨q,t i⟩
  | false=>exact (aJ aT).mpr (G i)
 .exact x
end
end Lw
namespace L2
open PySem PySem.W PySem.Spec PyProof.Rows Lw
def pN {g:Type}(n:Nat) (R:g->Prop):KasT g->Prop
 | .ret a=>R a
 | .ask i j k=>i<n/\j<n/\∀ b,pN n R (k b)
theorem pN.bind {R:l->Prop}{S:o->Prop}(g:∀ a,R a->pN n S (f a)):∀ {t:KasT l},pN n R t->pN n S (t.bind f)
 | .ret a,h=>g a h
 | .ask i j k,⟨c,d,e⟩=>⟨c,d,λb=>pN.bind g (e b)⟩
theorem pN.wp {R:o->Prop}(l:∀ i j (C:Bool->Ae->Prop),i<n->j<n->(∀ b,C b s)->cmp i j C s) (g:∀ a,R a->G a s):∀ {t:KasT o},pN n R t->t.kasWp cmp G s
 | .ret a,h=>g a h
 | .ask i j k,⟨c,d,e⟩=>l i j _ c d λb=>pN.wp l g (e b)
def Rg (n:Nat) (p:Array Nat):Prop:=p.Perm (List.toArray (List.range n))
section
theorem Rg.lt (h:Rg n p) (g:0<n) (i:Nat):p.getD i 0<n:=by
 by_cases b:i<p.size
 .have e:p.getD i 0=p[i]:=by simp[Array.getD,b]
  rw[e];have:=(h.mem_iff (a:=p[i])).mp (Array.getElem_mem b)
  simpa using this
 .have e:p.getD i 0=0:=by simp[Array.getD,b]
  rw[e];exact g
theorem Rg.rev (h:Rg n p) (i j:Nat):Rg n (kas_rev p i j):=(mirror_perm _ _ _ _).trans h
theorem Rg.bub (h:Rg n p) (i j:Nat):Rg n (bubble p i j):=(bubble_perm _ _ _).trans h
theorem Ji (h:Rg n p) (g:0<n):∀ f m,pN n (λ_=>True) (kas_asc p f m)
 | 0,m=>trivial
 | f+1,m=>⟨h.lt g _,h.lt g _,λb=>by cases b<;>first | exact trivial | exact Ji h g f (m+1)⟩
theorem Ds (g:0<n):∀ f (p:Array Nat) m q,Rg n p->pN n (λr=>Rg n r.1) (kas_desc f p m q)
 | 0,p,m,q,h=>h
 | f+1,p,m,q,h=>⟨h.lt g _,h.lt g _,λb=>by
  cases b with
  | true =>
   show pN n _ (if q>0 then _ else _);by_cases a:q>0
   .rw[aO a];exact Ds g f _ _ _ (h.rev _ _)
   .rw[aJ a];exact Ds g f _ _ _ h
  | false=>exact⟨h.lt g _,h.lt g _,λb=>by cases b<;>first | exact h | exact Ds g f _ _ _ h⟩⟩
theorem Ry (g:0<n) (h:Rg n p) (m r:Nat):pN n (λq=>Rg n q.2) (kas_tail3 m r p):=pN.bind (S:=λq:Nat×Array Nat=>Rg n q.2) (f:=λa=>.ret (a,kas_rev p 0 m)) (λ_ _=>h.rev 0 m) (Ji (h.rev 0 m) g _ _)
theorem S6 (g:0<n) (h:Rg n p) (m r:Nat):pN n (λq=>Rg n q.2) (kas_descPart m r p):=(Ds g _ _ _ _ h).bind λq a=>by
 by_cases b:q.2.2>0
 .rw[aO b];exact Ry g (Rg.rev a _ _) _ _
 .rw[aJ b];exact Ry g a _ _
theorem LB (g:0<n) (h:Rg n p) (r:Nat):pN n (λq=>Rg n q.2) (kas_count r p):=(Ji h g _ _).bind λm _=>by
 by_cases a:(m == r)=true
 .rw[aO a];exact h
 .rw[aJ a];by_cases c:m>1
  .rw[aO c];exact⟨h.lt g _,h.lt g _,λb=>by cases b<;>first | exact h | exact S6 g (h.rev _ _) _ _⟩
  .rw[aJ c];exact S6 g h _ _
theorem Nv (g:0<n) (h:Rg n p) (k:Nat):∀ f l r,pN n (λ_=>True) (kas_place p k f l r)
 | 0,_,_=>trivial
 | f+1,l,r=>by
  show pN n _ (if l>=r then _ else _);by_cases a:l>=r
  .rw[aO a];exact trivial
  .rw[aJ a];exact⟨h.lt g _,h.lt g _,λb=>by cases b<;>exact Nv g h k f _ _⟩
theorem Ng (g:0<n):∀ f (p:Array Nat) k,Rg n p->pN n (Rg n) (kas_bin f p k)
 | 0,_,_,h=>h
 | f+1,p,k,h=>(Nv g h k _ _ _).bind λ_ _=>Ng g f _ _ (h.bub _ _)
theorem DN (g:0<n):pN n (Rg n) (kas_sort n):=(LB g (Array.Perm.refl _) _).bind λr h=>by
 by_cases a:r.1<n
 .rw[aO a];exact Ng g _ _ _ h
 .rw[aJ a];exact h
end
theorem FF (h:Rg g.length p):(p.toList.map λi=>g.getD i Value.none).Perm g:=by
 have b:p.toList.Perm (List.range g.length):=by have:=h;unfold Rg at this;simpa using this.toList
 refine (b.map _).trans ?_;have:(List.range g.length).map (λi=>g.getD i Value.none)=g:=by
  apply kQ;intro i;rw[bD];by_cases a:i<g.length
  .rw[kG a];simp[a]
  .rw[gI (by simpa using Nat.le_of_not_lt a),gI (by omega)];rfl
 rw[this]
section
theorem JA {P:PySem.Fin->Ae->Prop}(I:s.heap.get? a=some (seqObj "list" vs.toArray n)) (T:vs.length<64)
  (hk:2<=vs.length->∃ U,∀ r:Ae,(∀ b o,b≠a->s.heap.get? b=some o->r.heap.get? b=some o)->(∀ (Q:SortKind->Ae->Prop) E,Q U r->wpAny (model l w) A (keyKind' vs.toArray) Q E r) /\ ∀ i j (C:Bool->Ae->Prop),i<vs.length->j<vs.length->(∀ b,C b r)->kas_ask l w A U vs i j C r)
  (h:∀ (g:Aa Ac) (J:Ag) (c:Nat),g.Perm vs->J.get? a=some (seqObj "list" g.toArray c)->(∀ b o,b≠a->s.heap.get? b=some o->J.get? b=some o)->P (.done (.ret .none)) { s with heap:=J }) :
  wpAny (model l w) A (Builtin.«list.sort» ⟨[.ref a],[]⟩) P E s:=by
 have line:vs.length<=sizeLine:=by rw[jF];omega
 have N:=aU I;let B:=s.heap.update a (Obj.mapSeq λ_=>(#[]:Array Ac));let f:=(B.push (seqObj "tuple" vs.toArray 0)).push (seqObj "list" #[] 0);obtain⟨q,D⟩:∃ q,B.get? a=some (seqObj "list" #[] q):=⟨_,get?_update_seq I λ_=>#[]⟩;have z:f.get? a=some (seqObj "list" #[] q):=aG _ (aG _ D);have old:∀ b o,b≠a->s.heap.get? b=some o->f.get? b=some o:=λb o t e=>aG _ (aG _ (((cG s.heap a _).2 b t).trans e))
 have last:∀ (st:SortSt) (g:Aa Ac),(arrOf st).map (·.2)=g.toArray->failedOf st=none->g.Perm vs ->
   wpAny (model l w) A (do
    let d:=(<- seqEpoch a) != q
    Builtin.List.listUpdate (.ref a) λ_=>(arrOf st).map (·.2)
    if let some e:=failedOf st then rule "list.sort.comparison-raised";throw e
    if d then rule "list.sort.modified";raiseError "ValueError" "list modified during sort"
    ret .none) P E { s with heap:=f }:=λst g K H u=>by
  have lo:g.length<=sizeLine:=by rw[u.length_eq];exact line
  rw[K,H];refine aB (seqEpoch_at z rfl (aB (listUpdate_at z rfl ?_ (dB _) (by show g.toArray.size<=_;rw[aR];omega))));simp only[bne_self_eq_false,dU,fX];exact aE (h g _ _ u (get?_update_seq z λ_=>g.toArray) λb o t e=>((cG f a _).2 b t).trans (old b o t e))
 rw[list_sort_plain];refine aB (listItems_at I rfl (aB (listUpdate_at I rfl ?_ (by rw[aR];exact line) (dB _))));refine aB (seqEpoch_at D rfl (aB (wpAny_newTuple ?_ line)));refine aB (wpAny_newList (bT ?_) (dB _));show wpAny (model l w) A _ P E { s with heap:=f };dsimp only;by_cases k:vs.toArray.size<2
 .rw[aO k,aO k];refine aB (aE (aB (aE ?_)));refine last _ vs ?_ rfl (List.Perm.refl _);show (vs.toArray.zip vs.toArray).map (·.2)=vs.toArray;apply kT.mp;simp[List.map_snd_zip]
 .rw[aJ k,aJ k];have m:2<=vs.length:=by rw[aR] at k;omega
  obtain⟨U,y⟩:=hk m;obtain⟨L,M⟩:=y { s with heap:=f } old;refine aB (L _ _ ?_);refine aB (cX (kat_run (ks:=vs) (vs:=vs) (G:=λp r=>Rg vs.length p/\r={ s with heap:=f }) (Q:=λst r=>r={ s with heap:=f }/\failedOf st=none/\∃ g,(arrOf st).map (·.2)=List.toArray g/\g.Perm vs)
   rfl m T (λp st r _ v x ⟨g1,g2⟩=>⟨g2,x,_,kat_snds rfl v,FF g1⟩) (pN.wp M (λp u=>⟨u,rfl⟩) (DN (by omega)))) ?_ λ_ _ e=>e)
  rintro ⟨⟨⟩,st⟩ r ⟨rfl,v,g,x,F⟩;exact last st g x v F
end
theorem W1 (f:p->C) (h:o.Perm r):∀ g:Aa p,r=g.map f->∃ j:Aa p,j.Perm g/\o=j.map f:=by
 induction h with
 | nil=>intro g e;cases g with
  | nil=>exact⟨[],.refl _,rfl⟩
  | cons _ _=>cases e
 | cons x _ s=>intro g e;cases g with
  | nil=>cases e
  | cons z g =>
   obtain⟨b,a⟩:=gE e;obtain⟨j,c,d⟩:=s g a;exact⟨z::j,c.cons z,by rw[aM,<- b,d]⟩
 | swap x y l=>intro g e;cases g with
  | nil=>cases e
  | cons z g=>cases g with
   | nil=>cases e
   | cons u g =>
    obtain⟨b,a⟩:=gE e;obtain⟨a,m⟩:=gE a;exact⟨u::z::g,.swap _ _ _,by rw[aM,aM,<- b,<- a,<- m]⟩
 | trans _ _ i k =>
  intro g e;obtain⟨j,c,d⟩:=k g e;obtain⟨t,n,q⟩:=i j d;exact⟨t,n.trans c,q⟩
section
theorem FA (C:A.handled=none) (I:Ad) (l:d≠I):Walks p w A I [I,d] [I] g.size (λi v=>∃ j:i<g.size,v=g[i].key) (λi h=>h.IsKeyIter I d i g.size r/\RawD h d o g r) where
 sub:=λb a=>by simp at a;simp[a]
 frame:=λ_ _ _ st m=>⟨st.1.at λo e=>m I (by simp) o e,⟨st.2.low,m d (by simp) _ st.2.get,st.2.ex,st.2.dat⟩⟩
 item:=λi s Q E j st c=>FW st.2 st.1 j λf k n=>c _ f s.toks ⟨j,rfl⟩ ⟨k,⟨st.2.low,(n.2 d l).trans st.2.get,st.2.ex,st.2.dat⟩⟩ λb o a e=>(n.2 b (λz=>a (by simp[z]))).trans e
 done:=λs Q E st c=>U6 C st.2 st.1 λf q=>c f s.toks λb o a e=>q b o (λz=>a (by simp[z])) e
 self:=λ_ _ _ _ st c=>wpAny_pyIter_keyiter st.1 c
theorem Ov:KdlSrc j w "dict" d d g.size (λi v=>∃ p:i<g.size,v=g[i].key) (λh=>RawD h d o g l) where
 type:=λ_ a=>a.ty
 there:=λ_ a=>⟨aU a.get,aU a.get⟩
 keep:=λ_ _ a e=>⟨a.low,e d (.inl rfl) _ a.get,a.ex,a.dat⟩
 notList:=by decide
 notTuple:=by decide
 hint:=λ_ _ _ _ a b=>kdl_hint_dict a.ty b
 iter:=λ_ _ c a=>⟨_,_,(λ_ _ b=>Ux a b),FA c _ (bI (aU a.get)),⟨⟨_,aX _ rfl,rfl,rfl⟩,⟨a.low,aG _ a.get,a.ex,a.dat⟩⟩⟩
theorem Lr (g:∀ b,Q b s):∀ (l:Aa (Ac×Ac)) (i:Nat),(∀ p∈l,∃ x t y u,p=(Value.int x t,Value.int y u))->KatLex j w A true fin Q l i s
 | [],i,_=>kat_nil (g fin)
 | p::l,i,h=>by
  obtain⟨x,t,y,u,rfl⟩:=h p aF;refine kat_cons (wpAny_eqBool_int (kat_go (λ_=>kat_yes (Lr g l (i+1) λp a=>h p (aL _ a))) λ_=>kat_no ?_));cases i with
  | zero=>exact oneLt_int (g _)
  | succ i=>exact kat_one _ _ (wpAny_lt_int (g _))
end
theorem Ny {P:Ah}(ok:nP P w H h) (I:Rd H a (.T g)) :
  ∃ o j l,RawD h a o j l/\j.size=g.length/\∀ (i:Nat) (C:i<j.size),∃ k v p,g[i]?=some (k,v)/\j[i].key = .ref p/\H p=some (.t (k.map kV)):=by
 obtain⟨z,lo,e,r,x,j,l,f,m,n,b,_⟩:=(show oZ P w H h a (.T g) from Ij ok I);have A:g.length=e.length:=fN r;have B:j.size=e.length:=by
  have:=dD List.length b
  simpa using this
 refine⟨x,j,l,⟨lo,f,m,n⟩,by omega,λi C=>?_⟩;have d:i<g.length:=by omega
 obtain⟨q,u,D,y,E⟩:=Od r (aD d);refine⟨g[i].1,g[i].2,q.2.1,aD d,?_,y⟩;have c:j.toList[i]?=some (entryOfKey (tupleKind (oM P w)) q):=by rw[b,bD,u];rfl
 have s:j[i]=entryOfKey (tupleKind (oM P w)) q:=by
  have:j.toList[i]?=some j[i]:=by rw[dF,cE C]
  rw[this] at c;exact bZ c
 rw[s];rfl
def xN (H:Hp) (g:Aa (Ad×Aa Int)):Prop:=∀ z∈g,H z.1=some (.t (z.2.map V.int))
theorem Z2 {P:Ah}{b:Aa Int}(ok:nP P w H h) (e:H p=some (.t (b.map V.int))):∃ (o:Obj) (g:Aa Ac) (n:Nat),h.get? p=some o/\o.cls = .type "tuple" /\ o.data = .seq g.toArray n/\g.length=b.length/\∀ v∈g,∃ x t,v=Value.int x t:=by
 obtain⟨_,g,r,⟨o,d,f,n,k⟩,_⟩:=(show oZ P w H h p (.t (b.map V.int)) from ok p _ e);have a:=r.length;rw[aA] at a;refine⟨o,g,n,d,f,k,a.symm,λv q=>?_⟩;obtain⟨i,m,rfl⟩:=cW q;obtain⟨u,c,s⟩:=r.get (i:=i) (x:=V.int (b[i]'(by omega))) (by rw[bD,aD (by omega)];rfl);rw[aD m] at c;cases c;obtain⟨t,e⟩:=s;exact⟨_,t,e⟩
section
variable {X:Cx}
theorem GO {P:PySem.Fin->Ae->Prop}(ok:nP X.prog X.w H h') (hz:xN H r) (U:r.length<64) (aa:2<=r.length->∀ z∈r,z.2≠[])
  (hs:s.heap.get? a=some (seqObj "list" (r.map λz=>Value.ref z.1).toArray n)) (hb:∀ b o,h'.get? b=some o->b≠a/\s.heap.get? b=some o)
  (h:∀ (J:Aa (Ad×Aa Int)) (I:Ag) (c:Nat),J.Perm r->I.get? a=some (seqObj "list" (J.map λz=>Value.ref z.1).toArray c)->(∀ b o,h'.get? b=some o->I.get? b=some o)->P (.done (.ret .none)) { s with heap:=I }) :
  wpAny (model X.prog X.w) A (Builtin.«list.sort» ⟨[.ref a],[]⟩) P E s:=by
 refine JA hs (by rw[aA];exact U) (λI=>?_) λab hh c S ha hk=>?_
 .rw[aA] at I;refine⟨tuples' true,λs' B=>?_⟩;have f:∀ z∈r,∃ (o:Obj) (d:Aa Ac) (n:Nat),s'.heap.get? z.1=some o/\o.cls = .type "tuple" /\ o.data = .seq d.toArray n/\d.length=z.2.length/\∀ v∈d,∃ x t,v=Value.int x t:=λz V=>by
   obtain⟨o,d,n,k,K,m,L,q⟩:=Z2 ok (hz z V);obtain⟨e6,e7⟩:=hb _ _ k;exact⟨o,d,n,B _ _ e6 e7,K,m,L,q⟩
  refine⟨λQ E hQ=>?_,λi j C N O hC=>?_⟩
  .have G:∀ l:Aa (Ad×Aa Int),(∀ z∈l,z∈r)->∃ fs:Aa Ac,KatTups s'.heap (l.map λz=>Value.ref z.1) fs/\fs.length=l.length/\∀ v∈fs,∃ x t,v=Value.int x t:=λl=>by
    induction l with
    | nil=>exact λ_=>⟨[],.nil,rfl,λ_ h=>nomatch h⟩
    | cons z l ih =>
     intro R;obtain⟨fs,f1,f2,M⟩:=ih λz hz=>R z (aL _ hz)
     have F:=R z aF;obtain⟨o,d,n,k,K,m,L,q⟩:=f z F;have W:0<d.length:=by rw[L];exact iS.mpr (aa I z F)
     refine⟨d[0]::fs,.cons k K m (by simp[W]) f1,by simp[f2],λv D=>?_⟩;rcases aI.mp D with rfl | D
     .exact q _ (bR W)
     .exact M v D
   obtain⟨fs,f1,f2,M⟩:=G r λ_ h=>h
   refine kat_kind (T:=.type "int") f1 (by omega) (λv D=>?_) (by decide) hQ;obtain⟨x,t,rfl⟩:=M v D;exact .now
  .rw[aA] at N O;unfold kas_ask;have g:∀ i,i<r.length->∃ (R:i<r.length),(r.map λz=>Value.ref z.1).getD i Value.none=Value.ref r[i].1:=λi h=>⟨h,by simp[h]⟩
   obtain⟨_,gi⟩:=g i N;obtain⟨_,gj⟩:=g j O;rw[gi,gj];obtain⟨o1,Y,n1,k,_,m,_,q⟩:=f r[i] (bR N);obtain⟨o2,Z,n2,d1,_,d3,_,d5⟩:=f r[j] (bR O);refine kat_lt k m d1 d3 (Lr hC _ 0 λp S=>?_);obtain⟨a1,a2⟩:=fE S;obtain⟨x,t,h1⟩:=q p.1 (by simpa using a1);obtain⟨y,u,I⟩:=d5 p.2 (by simpa using a2);exact⟨x,t,y,u,by rw[<- h1,<- I]⟩
 .obtain⟨J,y1,y2⟩:=W1 (λz:Ad×Aa Int=>Value.ref z.1) S r rfl;subst y2;exact h J hh c y1 ha λb o e=>hk b o (hb b o e).1 (hb b o e).2
def Pr (K:lK):Aa V->Hp->VK->Prop:=λf H Q=>∃ (a:Ad) (bs:Aa (Aa Int)),f=[.ref a]/\bs.length<64/\(2<=bs.length->∀ b∈bs,b≠[]) /\
 ((∃ e,hI K H a (e.map λz:Ad×Aa Int=>V.ref z.1)/\xN H e/\e.map (·.2)=bs)\/∃ c,Rd H a (.T c)/\c.map (·.1)=bs.map (λb=>b.map Sum.inl)) /\
 ∀ (l:Ad) (d:Aa (Ad×Aa Int)),H l=none->xN H d->(d.map (·.2)).Perm bs->Q (.ref l) (upd H l (.l (d.map λz=>V.ref z.1)))
theorem Se:∀ {j:Aa (Ad×Aa Int)}{g:Aa Ac},lL (j.map λz=>V.ref z.1) g->g=j.map λz=>Value.ref z.1
 | [],_,.nil=>rfl
 | z::j,_,.cons h r=>by
  cases (show _=Value.ref z.1 from h);rw[Se r];rfl
theorem N6:∀ g:Aa (Ad×Aa Int),lL (g.map λz=>V.ref z.1) (g.map λz=>Value.ref z.1)
 | []=>.nil
 | z::g=>.cons rfl (N6 g)
theorem Wi (g:X.calm=true):nF X (.builtin "sorted") (Pr X.K):=by
 intro y s U H xs us Q I rv h;obtain⟨a,bs,rfl,x,Z,J,q⟩:=h;obtain⟨u,rfl,ru⟩:=oS rv;cases ru;refine Calls.call_function_entry kind_sorted plain_sorted entry_sorted (args_sorted1 _) ?_;unfold Builtin.«sorted»;refine aB (m:=checkCount "sorted" 1 1 _) (aE ?_);have rest:∀ (i:Ag) (G:Nat) (d:Aa (Ad×Aa Int)),xN H d->d.map (·.2)=bs->(∀ b o,s.heap.get? b=some o->i.get? b=some o) ->
   wpAny (model X.prog X.w) X.A.in1 (newList (d.map λz=>Value.ref z.1) >>= λB=>holding [B] (call (.builtin "list.sort") [B]) >>= λ_=>ret B) (λf s'=>∃ v,f = .done (.ret v)/\EP X y U Q v s') X.xe { s with heap:=i,toks:=G }:=λi G d R F keep=>by
  have P:d.length=bs.length:=by rw[<- F,aA]
  have W:Inv X y U H { s with heap:=i,toks:=G }:=I.kept keep;refine aB (wpAny_newList ?_ (by rw[aA,P];exact bP (eD x) (by decide)));have N:(i.push (seqObj "list" (d.map λz=>Value.ref z.1).toArray 0)).get? i.objs.size=some (seqObj "list" (d.map λz=>Value.ref z.1).toArray 0):=aX _ rfl;refine aB (bT (cY slot_list_sort ⟨_,N,rfl⟩ entry_list_sort (GO (X:=X) (h':=i) W.hok R (by omega) (λh2 z n=>Z (by omega) z.2 (by rw[<- F];exact cH n)) N (λb o e=>⟨bI (aU e),aG _ e⟩) λS h2 c j ha hk=>⟨_,rfl,?_⟩) (args_list_sort _)));have ly:S.length=d.length:=j.length_eq;refine aE ⟨_,rfl,.ref i.objs.size,_,W.laid (a:=i.objs.size) (o:=.l (S.map λz=>V.ref z.1)) (t':=G) hk (aP _) ⟨?_,_,c,N6 S,ha⟩,rfl,q _ S (W.hok.fresh (aP _)) (λz n=>R z (j.mem_iff.mp n)) (by rw[<- F];exact j.map _)⟩;rw[aA,ly,P];exact bP (eD x) (by decide)
 rcases J with⟨d,hq,R,F⟩ | ⟨O,rd,T⟩
 .obtain⟨aa,r,p,n⟩:=I.list hq;have:=Se r;subst this;have P:d.length=bs.length:=by rw[<- F,aA]
  refine aB (collect_list p.isList (rest _ s.toks d R F λb o e=>?_) ?_)
  .have Y:=aU e;rw[Heap.get?_update_ne _ _ _ _ (bI Y)];exact aG _ e
  .rw[aA,P];exact bP (eD x) (by decide)
 .obtain⟨ob,es,ep,raw,sz,rows⟩:=Ny I.hok rd;have lk:O.length=bs.length:=by have:=dD List.length T;simpa using this
  refine aB (kdu_collect Ov (I.ok.hd g) raw (by rw[sz,lk];exact bP (eD x) (by decide)) λi G t keep C=>?_);obtain⟨n1,n2⟩:=C;obtain⟨d,D,L,E⟩:∃ d:Aa (Ad×Aa Int),t.toList=d.map (λz=>Value.ref z.1)/\xN H d/\d.map (·.2)=bs:=by
   have go:∀ m,m<=bs.length->∃ d:Aa (Ad×Aa Int),t.toList.take m=d.map (λz=>Value.ref z.1)/\xN H d/\d.map (·.2)=bs.take m:=λm=>by
    induction m with
    | zero=>exact λ_=>⟨[],rfl,⟨λz h=>(aY h).elim,rfl⟩⟩
    | succ m ih =>
     intro hm;obtain⟨d,D,L,E⟩:=ih (by omega);have M:m<t.size:=by omega
     obtain⟨hi,hv⟩:=n2 m t[m] (cE M);obtain⟨k,v,p,k1,k2,k3⟩:=rows m hi;have kk:k=(bs[m]'(by omega)).map Sum.inl:=by
      have:(O.map (·.1))[m]?=some k:=by rw[bD,k1];rfl
      rw[T,bD,aD (by omega)] at this;exact (bZ this).symm
     refine⟨d++[(p,bs[m]'(by omega))],?_,λz n=>?_,?_⟩
     .rw[cA,D,aZ,dF,cE M,hv,k2];rfl
     .rcases bE.mp n with n | n
      .exact L z n
      .have:=bF.mp n;subst this;show H p=_;rw[k3,kk,aK];rfl
     .rw[cA,aZ,E,aD (by omega)];rfl
   obtain⟨d,D,L,E⟩:=go bs.length (aP _);rw[bW (by rw[dJ];omega)] at D;rw[bW (aP _)] at E;exact⟨d,D,L,E⟩
  rw[D];exact rest i G d L E keep
end
noncomputable def uH (b:Aa Int):D:=.t (b.map D.int)
section
variable {K:lK}
theorem Pb:∀ b:Aa Int,Reps K A H (b.map D.int) (b.map V.int)
 | []=>.nil
 | x::b=>.cons (.int x) (Pb b)
theorem Ow:∀ {b:Aa Int}{g:Aa V},Reps K A H (b.map D.int) g->g=b.map V.int
 | [],_,.nil=>rfl
 | x::b,_,.cons h r=>by rw[h.int_inv,Ow r];rfl
theorem Ph (h:Rep K A H (uH b) v):∃ a,v = .ref a/\H a=some (.t (b.map V.int)):=by
 obtain⟨a,c,rfl,h,r⟩:=Rep.tup_inv h;rw[Ow r] at h;exact⟨a,rfl,h⟩
theorem M7:∀ {bs:Aa (Aa Int)}{j:Aa V},Reps K A H (bs.map uH) j->∃ g:Aa (Ad×Aa Int),j=g.map (λz=>V.ref z.1)/\xN H g/\g.map (·.2)=bs
 | [],_,.nil=>⟨[],rfl,λ_ h=>(aY h).elim,rfl⟩
 | b::bs,_,.cons h r=>by
  obtain⟨a,rfl,e⟩:=Ph h;obtain⟨g,rfl,d,rfl⟩:=M7 r;refine⟨(a,b)::g,rfl,λz c=>?_,rfl⟩;rcases aI.mp c with rfl | c
  .exact e
  .exact d z c
theorem Kq:∀ {g:Aa (Ad×Aa Int)},xN H g->Reps K A H ((g.map (·.2)).map uH) (g.map λz=>V.ref z.1)
 | [],_=>.nil
 | z::g,h=>.cons (.t (h z aF) (Pb _)) (Kq λz a=>h z (aL _ a))
def U4:OC:=λe d=>match e with
 | [.l f]=>∃ bs:Aa (Aa Int),f=bs.map uH/\bs.length<64/\(2<=bs.length->∀ b∈bs,b≠[])/\∀ a:Aa (Aa Int),a.Perm bs->d (.o (.l (a.map uH)))
 | [.T c]=>∃ bs:Aa (Aa Int),c.map (·.1)=bs.map (λb=>b.map Sum.inl)/\bs.length<64/\(2<=bs.length->∀ b∈bs,b≠[])/\∀ a:Aa (Aa Int),a.Perm bs->d (.o (.l (a.map uH)))
 | _=>False
theorem Zz:pW K (Pr K) U4:=by
 intro B L H f D E Q hd c b k;cases f with
 | nil=>exact False.elim b
 | cons d f =>
 cases f with
 | cons _ _=>cases d<;>exact False.elim b
 | nil =>
 cases d<;>first | exact False.elim b | skip
 .obtain⟨x,rfl,t⟩:=pV c;obtain⟨bs,rfl,i,m,b⟩:=b;obtain⟨a,A,rfl,h,r⟩:=t.lst_inv;obtain⟨z,rfl,w,y⟩:=M7 r;exact⟨a,bs,rfl,i,m,.inl ⟨z,hI.of h,w,y⟩,λl v n q c=>k _ _ _ (b _ c) (hd.lstF n (Kq q))⟩
 .obtain⟨x,rfl,t⟩:=pV c;obtain⟨bs,u,i,m,b⟩:=b;obtain⟨a,s,rfl,h,e,r⟩:=t.dT_inv;exact⟨a,bs,rfl,i,m,.inr ⟨s,h,by rw[<- e];exact u⟩,λl v n q c=>k _ _ _ (b _ c) (hd.lstF n (Kq q))⟩
end
end L2
namespace PySem
open PyProof.Rows L2
section
variable {R:Result->Ae->Prop}{P:Nat->Ac->Prop}{St:Nat->Ae->Prop}
abbrev nB (g:Ah) (w:World):=tupleKind (oM g w)
noncomputable def yT (more:Aa (Aa eF×Ad×Ac)):Aa (Aa eF×Ad×Ac):=more.foldl (λa q=>storedH a q.1 q.2.1 q.2.2) []
theorem O5 (g:Aa (Aa eF×Ad×Ac)) (k:Aa eF) (a:Ad) (v:Ac):(storedH g k a v).length<=g.length+1:=by
 unfold storedH;by_cases h:(atKey g k).isSome=true
 .rw[aO h,aA];omega
 .rw[aJ h,aW];exact aP _
theorem MS (more:Aa (Aa eF×Ad×Ac)):(yT more).length<=more.length:=by
 have:∀ (more a:Aa (Aa eF×Ad×Ac)),(more.foldl (λa q=>storedH a q.1 q.2.1 q.2.2) a).length<=a.length+more.length:=λmore=>by
  induction more with
  | nil=>intro a;simp
  | cons q more b =>
   intro a;rw[iY];have:=b (storedH a q.1 q.2.1 q.2.2);have:=O5 a q.1 q.2.1 q.2.2;rw[bJ];omega
 have:=this more [];rw[fG,kY] at this;exact this
theorem Yd {more:Aa (Aa eF×Ad×Ac)}{i:Nat}{q:Aa eF×Ad×Ac}(h:more[i]?=some q):yT (more.take (i+1))=storedH (yT (more.take i)) q.1 q.2.1 q.2.2:=by
 unfold yT;rw[cA,h,jN];rfl
theorem JQ {h j:Ag}(D:h.DictOfH (nB g w) d l) (hd:∀ o,h.get? d=some o->j.get? d=some o) (p:∀ x∈l,∀ o,h.get? x.2.1=some o->j.get? x.2.1=some o):j.DictOfH (nB g w) d l:=by
 obtain⟨o,f,e,i,k,n,q,s,t⟩:=D;refine⟨o,f,e,hd o i,k,n,q,λx b=>?_,t⟩;obtain⟨c,a,m,g1,g2⟩:=s x b;exact⟨c,a,m,p x b c g1,g2⟩
theorem HQ {g:Aa (Aa eF×Ad×Ac)}{k:Aa eF}{a:Ad}{v:Ac}{x:Aa eF×Ad×Ac}(h:x∈storedH g k a v):(∃ y∈g,y.2.1=x.2.1)\/x.2.1=a:=by
 unfold storedH at h;by_cases e:(atKey g k).isSome=true
 .rw[aO e] at h;obtain⟨y,b,rfl⟩:=aH.mp h;refine .inl ⟨y,b,?_⟩;unfold putAt;by_cases z:y.1=k
  .rw[aO z]
  .rw[aJ z]
 .rw[aJ e] at h;rcases bE.mp h with h | h
  .exact .inl ⟨x,h,rfl⟩
  .rw[bF.mp h];exact .inr rfl
theorem BQ (h:x∈yT more):∃ y∈more,y.2.1=x.2.1:=by
 have:∀ (more a:Aa (Aa eF×Ad×Ac)),x∈more.foldl (λa q=>storedH a q.1 q.2.1 q.2.2) a->(∃ y∈a,y.2.1=x.2.1)\/∃ y∈more,y.2.1=x.2.1:=λmore=>by
  induction more with
  | nil=>intro a h;exact .inl ⟨x,h,rfl⟩
  | cons q more f =>
   intro a h;rw[iY] at h;rcases f _ h with⟨y,b,e⟩ | ⟨y,b,e⟩
   .rcases HQ b with⟨z,d,c⟩ | c
    .exact .inl ⟨z,d,c.trans e⟩
    .exact .inr ⟨q,aF,c.symm.trans e⟩
   .exact .inr ⟨y,aL _ b,e⟩
 rcases this more [] h with⟨y,b,_⟩ | h
 .exact (aY b).elim
 .exact h
theorem Yx (T:A.handled=none) (hu:A.units+2<cLine) (U:s.heap.get? l=some o) (J:o.cls = .type "list") (hd:o.dict=none) (p:o.data = .seq items nl)
  (hn:more.length=items.size)
  (I:∀ (i:Nat) v,items[i]?=some v->∃ (t:Ad) (o:Obj) (m:Nat) (q:Aa eF×Ad×Ac),v = .ref t/\s.heap.get? t=some o/\o.cls = .type "tuple" /\ o.data = .seq #[.ref q.2.1,q.2.2] m/\more[i]?=some q)
  (C:∀ q∈more,(nB g w).is s.heap q.1 q.2.1) (hb:items.size<=sizeLine)
  (h:∀ (j:Ag) (r:Nat),j.DictOfH (nB g w) s.heap.objs.size (yT more)->(∀ b o,s.heap.get? b=some o->j.get? b=some o)->Q (.ref s.heap.objs.size) { s with heap:=j,toks:=r }) :
  wpAny (model g w) A (call (.type "dict") [.ref l]) Q E s:=by
 refine Nu (λi j=>j.DictOfH (nB g w) s.heap.objs.size (yT (more.take i))) T U J hd p (λc e=>⟨_,#[],0,e,⟨rfl,rfl,rfl⟩,rfl,rfl,λ_ h=>(aY h).elim,fQ⟩) (λi c n k m=>?_) (λi v K=>?_) λj r m=>h j r (by rw[bW (by omega)] at m;exact m)
 .refine JQ m (λo e=>k _ _ (aP _) e) λx L o e=>k _ _ ?_ e
  obtain⟨y,M,D⟩:=BQ L;obtain⟨u,_,_,g1,_⟩:=C y (gS M);rw[<- D];exact eD (aU g1)
 .obtain⟨t,S,m,q,rfl,c,n,F,a⟩:=I i v K;refine⟨t,S,m,_,_,rfl,c,n,F,λB W Q E G N H k=>?_⟩;obtain⟨u,f,O,g1,g2⟩:=C q (aQ a);refine wpAny_dictSet_heap (hsz:=?_) (knd:=nB g w) (G hu) ⟨u,f,O,N _ _ g1,g2⟩ H λj d V=>k j _ (by rw[Yd a];exact d) V
  have z:=MS (more.take i);rw[bN] at z;omega
end
end PySem
namespace L2
open PySem PySem.W PySem.Spec PyProof.Rows Lw
def Ea (H:Hp):Aa Ad->Aa (Aa Int×Ad×V)->Prop:=Paired λt m=>H t=some (.t [.ref m.2.1,m.2.2])/\H m.2.1=some (.t (m.1.map V.int))
noncomputable def qY {j:Type}(put:Aa (Aa eF×j)->Aa eF->j->Aa (Aa eF×j)) (g:Aa (Aa eF×j)) (l:Aa (Aa Int×j)):Aa (Aa eF×j):=l.foldl (λg m=>put g (m.1.map Sum.inl) m.2) g
theorem LI {P:Ah}(l:nP P w H h) (r:Ea H J p):∃ more:Aa (Aa eF×Ad×Ac),more.length=p.length /\
  (∀ (i:Nat) t,J[i]?=some t->∃ (o:Obj) (m:Nat) (q:Aa eF×Ad×Ac),h.get? t=some o/\o.cls = .type "tuple" /\ o.data = .seq #[.ref q.2.1,q.2.2] m/\more[i]?=some q) /\
  (∀ q∈more,∃ I,q.1=I/\H q.2.1=some (.t (I.map kV)))/\∀ g C,KT H g C->KT H (qY mY g (p.map λm=>(m.1,m.2.2))) (more.foldl (λj q=>storedH j q.1 q.2.1 q.2.2) C):=by
 unfold Ea at r;induction r with
 | nil=>exact⟨[],rfl,λi t e=>by simp at e,λq a=>(aY a).elim,λ_ _ k=>k⟩
 | @cons t m J p u Q D =>
  obtain⟨more,F,A,y,x⟩:=D;obtain⟨f,s⟩:=u;obtain⟨z,E,b,⟨o,B,v,n,c⟩,_⟩:=l t _ f;cases b with
  | @cons _ M _ R G b =>
   cases b with
   | @cons _ N _ O K b =>
    cases b;cases (show M=Value.ref m.2.1 from G);have d:H m.2.1=some (.t ((m.1.map (Sum.inl:Int->eF)).map kV)):=by rw[s,aK];rfl
    refine⟨(m.1.map Sum.inl,m.2.1,N)::more,by rw[bJ,bJ,F],λi L e=>?_,λq a=>?_,λg C k=>?_⟩
    .cases i with
     | zero =>
      simp at e;subst e;exact⟨o,n,_,B,v,c,rfl⟩
     | succ i=>simpa using A i L (by simpa using e)
    .rcases aI.mp a with rfl | a
     .exact⟨_,rfl,d⟩
     .exact y q a
    .exact x _ _ (k.put _ d K)
def K6 (K:lK):Aa V->Hp->VK->Prop:=λc H Q=>∃ (p:Ad) (b:Aa Ad) (a:Aa (Aa Int×Ad×V)),c=[.ref p]/\hI K H p (b.map V.ref)/\Ea H b a/\a.length<=1000/\∀ d,H d=none->Q (.ref d) (upd H d (.T (qY mY [] (a.map λm=>(m.1,m.2.2)))))
theorem M5:∀ (j:Aa (Aa Int×V)) (g:Aa (Aa eF×V)),(qY mY g j).length<=g.length+j.length
 | [],g=>by simp[qY]
 | m::j,g=>by
  have a:=M5 j (mY g (m.1.map Sum.inl) m.2);have b:=Bh g (m.1.map Sum.inl) m.2;show (qY mY (mY g (m.1.map Sum.inl) m.2) j).length<=_;rw[bJ];omega
section
variable {X:Cx}
theorem BS (g:X.calm=true) (j:X.A.units+2<cLine):nF X (.type "dict") (K6 X.K):=by
 intro M s σ H xs us Q I r h;obtain⟨p,z,y,rfl,D,L,hz,q⟩:=h;obtain⟨u,rfl,F⟩:=oS r;cases F;obtain⟨f,N,⟨o,n,e,S,W,Y⟩,_⟩:=I.list D;have k:=N.length;rw[aA] at k;have aa:z.length=y.length:=fN L;obtain⟨more,ml,hm,hk,hf⟩:=LI I.hok L;have d:∀ (i:Nat) v,f[i]?=some v->∃ t,z[i]?=some t/\v = .ref t:=by
  intro i v w;have hi:i<f.length:=(aV.mp w).1;have:i<z.length:=by omega
  obtain⟨u,j,F⟩:=N.get (i:=i) (x:=V.ref z[i]) (by simp[this]);rw[j] at w;cases w;cases F;exact⟨z[i],by simp[this],rfl⟩
 refine Yx (more:=more) (I.ok.hd g) j e S W Y (by rw[aR];omega) ?_ (λq D=>?_) (by rw[aR];exact eD (cT (show f.length<=1000 by omega) (by decide))) λh' tk hD c=>?_
 .intro i v w;obtain⟨t,ht,rfl⟩:=d i v (by simpa using w);obtain⟨o,m,q,B,C,J,U⟩:=hm i t ht;exact⟨t,o,m,q,rfl,B,C,J,U⟩
 .obtain⟨ks,k1,k2⟩:=hk q D;rw[k1];exact zR I.hok k2
 .have E:(qY mY [] (y.map λm=>(m.1,m.2.2))).length<=sizeLine:=by
   have B:=M5 (y.map λm=>(m.1,m.2.2)) [];rw[fG,aA] at B;exact eD (cT (show (qY mY [] (y.map λm=>(m.1,m.2.2))).length<=1000 by omega) (by decide))
  obtain⟨ob,l,Z,d1,d2,O,P,_,R⟩:=hD;have kt:=hf [] [] .nil;have fr:=I.fresh;refine⟨.ref s.heap.objs.size,_,I.laid (a:=s.heap.objs.size) (o:=.T (qY mY [] (y.map λm=>(m.1,m.2.2)))) (t':=tk) c (aP _) ?_,rfl,q _ I.fresh⟩;refine⟨E,cV.mpr (eJ (bI I.big)),_,kt.keeps λb ys G=>?_,ob,l,Z,d1,d2,O,P,R⟩;rw[lT (mT G I.fresh)];exact G
end
section
variable {K:lK}
theorem Ms:∀ {j:Aa (Aa Int×D)}{o:Aa V},Reps K A H (j.map λm=>D.t [uH m.1,m.2]) o->∃ (l:Aa Ad) (g:Aa (Aa Int×Ad×V)),o=l.map V.ref/\Ea H l g/\g.map (·.1)=j.map (·.1)/\Reps K A H (j.map (·.2)) (g.map (·.2.2))
 | [],_,.nil=>⟨[],[],rfl,.nil,rfl,.nil⟩
 | m::j,_,.cons h r=>by
  obtain⟨l,g,rfl,d,e,f⟩:=Ms r;obtain⟨a,s,rfl,i,c⟩:=h.tup_inv;cases c with
  | cons n c =>
   cases c with
   | cons q c =>
    cases c;obtain⟨b,rfl,k⟩:=Ph n;exact⟨a::l,(m.1,b,_)::g,rfl,.cons ⟨i,k⟩ d,by rw[aM,aM,e],.cons q f⟩
theorem Lu:∀ {ms:Aa (Aa Int×D)}{mv:Aa (Aa Int×V)}{kvs:Aa (Aa eF×D)}{vs:Aa (Aa eF×V)},ms.map (·.1)=mv.map (·.1)->Reps K A H (ms.map (·.2)) (mv.map (·.2))->kvs.map (·.1)=vs.map (·.1)->Reps K A H (kvs.map (·.2)) (vs.map (·.2)) ->
  (qY mP kvs ms).map (·.1)=(qY mY vs mv).map (·.1)/\Reps K A H ((qY mP kvs ms).map (·.2)) ((qY mY vs mv).map (·.2))
 | [],[],_,_,_,_,e,r=>⟨e,r⟩
 | [],_::_,_,_,e,_,_,_=>by simp at e
 | _::_,[],_,_,e,_,_,_=>by simp at e
 | (k,d)::ms,(j,v)::mv,kvs,vs,a,b,e,r=>by
  simp only[aM,fU] at a;obtain⟨rfl,a⟩:=a;cases b with
  | cons h b =>
   obtain⟨c,f⟩:=Cf e r (k:=k.map Sum.inl) h;exact Lu (ms:=ms) (mv:=mv) a b c f
def IX:OC:=λb d=>match b with
 | [.l c]=>∃ a:Aa (Aa Int×D),c=a.map (λm=>D.t [uH m.1,m.2])/\a.length<=1000/\d (.o (.T (qY mP [] a)))
 | _=>False
theorem Yo:pW K (K6 K) IX:=by
 intro B L H c F G Q hd u b k;cases c with
 | nil=>exact False.elim b
 | cons d c =>
 cases c with
 | cons _ _=>cases d<;>exact False.elim b
 | nil =>
 cases d<;>first | exact False.elim b | skip
 obtain⟨x,rfl,v⟩:=pV u;obtain⟨n,rfl,D,b⟩:=b;obtain⟨a,E,rfl,h,r⟩:=v.lst_inv;obtain⟨A,f,rfl,s,i,t⟩:=Ms r;have q:n.map (·.1)=(f.map λm=>(m.1,m.2.2)).map (·.1):=by rw[aK,<- i];rfl
 have z:Reps K (Al B (gV L)) H (n.map (·.2)) ((f.map λm=>(m.1,m.2.2)).map (·.2)):=by rw[aK];exact t
 obtain⟨w,y⟩:=Lu (kvs:=[]) (vs:=[]) q z rfl .nil;refine⟨a,A,f,rfl,hI.of h,s,?_,λd e=>k _ _ _ b (hd.dTF e w y)⟩;have:=dD List.length i;rw[aA,aA] at this;omega
end
end L2
namespace Lw
open PySem L2
theorem Yq (g:Room k A):A.units+2<cLine:=cT (Nat.add_le_add_left (by decide:2<=64) _) g.units
def oF (C:Cel) (g:Aa (Af×Af)) (c l:Aa Int):Aa Int:=g.map λp=>pG C g c l p.1
theorem Lv (f:Aa Int->D):∀ bs:Aa (Aa Int),Bl (bs.map λl=>(l.map (Sum.inl:Int->eF),f l))=bs.map mC
 | []=>rfl
 | b::bs=>by
  show D.t ((b.map (Sum.inl:Int->eF)).map Hi)::Bl (bs.map λl=>(l.map (Sum.inl:Int->eF),f l))=_;rw[Lv f bs,aK];rfl
theorem Ja (f:Aa Int->D):∀ {bs:Aa (Aa Int)},b∈bs->mG (bs.map λl=>(l.map (Sum.inl:Int->eF),f l)) (b.map Sum.inl)=some (f b)
 | [],h=>(aY h).elim
 | c::bs,h=>by
  unfold mG;rw[aM,cZ];by_cases e:c=b
  .subst e;simp
  .have:¬ c.map (Sum.inl:Int->eF)=b.map Sum.inl:=λz=>e (Az z)
   rw[bM this];exact Ja f ((aI.mp h).resolve_left λz=>e z.symm)
theorem Ff (f:Aa Int->D){b:Aa Int}{bs:Aa (Aa Int)}(h:b∈bs):uZ (.T (bs.map λl=>(l.map (Sum.inl:Int->eF),f l))) (mC b)=some (some (f b)):=by
 show (sF (b.map D.int)).map _=_;rw[B3,gO,Ja f h]
theorem Zg (b:Aa Int):uZ (.T g) (mC b)=some (mG g (b.map Sum.inl)):=by
 show (sF (b.map D.int)).map _=_;rw[B3,gO]
theorem zQ:∀ {n:Nat}{b:Aa Int},b.length=n->(∀ x∈b,x=0\/x=1)->b∈eH n
 | 0,[],_,_=>bF.mpr rfl
 | 0,_::_,e,_=>by cases e
 | n+1,[],e,_=>by cases e
 | n+1,x::b,e,h=>by
  have a:=zQ (n:=n) (b:=b) (by simpa using e) λy c=>h y (aL _ c)
  unfold eH;rcases h x aF with rfl | rfl
  .exact bB _ (cH a)
  .exact bA _ (cH a)
theorem Be (j:RwOk C g) (o:c∈eH g.length) (r:l∈eH (wIns C g).length):oF C g c l∈eH g.length:=by
 obtain⟨a,b⟩:=pP o;obtain⟨i,k⟩:=pP r;obtain⟨_,_,d⟩:=Hr j a i b k;refine zQ (by unfold oF;rw[List.length_map]) λx f=>?_
 obtain⟨p,e,rfl⟩:=aH.mp f;exact Jq j.gc (λy h=>(d y h).2) p.1 (j.m p e).1
theorem IL (g:Aa j) (x:j):nM (g++[x]) (-1)=some x:=by
 unfold nM rQ;rw[aJ (by decide),aO (by rw[aW,eM];omega)];show (g++[x])[((-1:Int)+((g++[x]).length:Int)).toNat]?=some x;rw[show ((-1:Int)+((g++[x]).length:Int)).toNat=g.length by rw[aW,eM];omega];simp
theorem Cg {n:Nat}{g:Aa (Aa Int)}(j:g.Nodup) (h:∀ c∈g,c∈eH n):g.length<=2 ^ n:=by rw[<- uD n];exact j.length_le_of_subset h
def Ax (C:Cel) (g:Aa (Af×Af)) (t:mO) (c l:Aa Int):Int:=zU C g t (pG C g c l)
end Lw
namespace L2
open PySem PySem.Spec PyProof.Rows Lw
section
variable {X:Cx}
def Cs (H:Hp) (x y:V):Prop:=∃ (a b:Ad) (c d:Aa (eF×V)),x = .ref a/\y = .ref b/\H a=some (.k c)/\H b=some (.k d)/\c.length=d.length/\∀ p∈c,∃ w,qE d p.1=some w/\rV p.2=true/\rV w=true/\pT p.2 w=true
theorem Cs.now (I:Inv X g p H s) (h:Cs H x y) (l:lW x u) (o:lW y v) (j:A.units<cLine):J8 X.prog X.w A s u v:=by
 obtain⟨a,b,c,G,rfl,rfl,n,t,F,B⟩:=h;cases l;cases o;by_cases e:a=b
 .subst e;exact λE Q q=>SeqAt.EqAt.same _ X.prog X.w E Q q
 intro E Q q;obtain⟨L,d1,i,d,k⟩:=zE I.hok n;obtain⟨M,d2,K,f,m⟩:=zE I.hok t;have D:i.length=K.length:=by rw[<- d.length,<- f.length];exact F
 unfold eqBool;refine bT (wpAny_ite_split (λz=>absurd (Value.ref.inj (eq_of_beq z)) e) λ_=>aB ?_);refine PySem.W.keq_eq d1 d2 k m j (λ_=>IT f c i d B) (eY ?_);rw[D];simpa using q
end
theorem So (g:H a=some (.k (vT t))) (j:H b=some (.k (vT s))) (p:t.Perm s) (l:(s.map (·.1)).Nodup):Cs H (.ref a) (.ref b):=by
 refine⟨a,b,_,_,rfl,rfl,g,j,by unfold vT;rw[List.length_map,List.length_map,p.length_eq],λq c=>?_⟩;obtain⟨r,d,rfl⟩:=aH.mp c;exact⟨_,Vs l (p:=r) (p.mem_iff.mp d),rfl,rfl,iP (α:=Int) r.2⟩
end L2
namespace PySem
open PyProof.Rows L2
section
theorem AF:isSubtype (.type "range_iterator") (.type "reversed")=pure false:=by rw[isSubtype_type];kernel_rfl
abbrev Cj (n:Int):Obj:={ cls:=.type "range_iterator",data:=.fields #[rawInt (0+(n-1)*1),rawInt n,rawInt (-1)] }
theorem IW (g:IsRange s.heap r 0 n 1 t u v) (l:0<=n) (o:n<=100000)
  (h:Q (.ref s.heap.objs.size) { s with heap:=s.heap.push (Cj n) }):wpAny (model j w) A (call (.builtin "range.__reversed__") [.ref r]) Q E s:=by
 have b:s.TypeIs (.ref r) "range" := ⟨_,g,rfl⟩;refine cY jT b F.entry_range_reversed ?_ (F.args_range_reversed_1 _);unfold Builtin.«range.__reversed__»;have e:Builtin.Range.rangeSize 0 n 1=n:=by
  unfold Builtin.Range.rangeSize;rw[aO (by decide)];split<;>omega
 refine aB (dR (a:=Value.ref r) rfl ?_);unfold Builtin.Range.rangeFields;refine aB (aB (dQ g rfl (x:=.int 0 t) rfl (aB (dR (a:=some 0) rfl (aB (dQ g rfl (x:=.int n u) rfl (aB (dR (a:=some n) rfl (aB (dQ g rfl (x:=.int 1 v) rfl (aB (dR (a:=some 1) rfl (aE ?_)))))))))))));have sm:(Builtin.Range.rangeFitsLong 0&&Builtin.Range.rangeFitsLong n&&Builtin.Range.rangeFitsLong 1&&Builtin.Range.rangeFitsLong (-1)&&Builtin.Range.rangeFitsLong (0-1)&&Builtin.Range.rangeFitsLong n)=true:=by
  simp only[Builtin.Range.rangeFitsLong,cB,eL];omega
 dsimp only;rw[e,sm];exact aB (eK (aE ⟨_,rfl,h⟩))
theorem EY (j:IsRange s.heap r 0 n 1 t u v) (o:0<=n) (p:n<=100000)
  (h:g (.ref s.heap.objs.size) { s with heap:=s.heap.push (Cj n) }) :
  codeAny (model l w) A (.call (.builtin "reversed.__new__") ⟨[.type "reversed",.ref r],[]⟩) (wants g E) s:=by
 have b:s.TypeIs (.ref r) "range" := ⟨_,j,rfl⟩;refine codeAny_of_tree ?_;show wpAny _ A.in1 (do checkBuiltinCall "reversed.__new__" ⟨[.type "reversed",.ref r],[]⟩;again (.builtin "reversed.__new__" ⟨[.type "reversed",.ref r],[]⟩)) _ _ s;refine aB (dR (F.newCall_reversed_1 _) (aE ⟨iU F.plain_reversed_new _,fS F.entry_reversed_new ?_⟩));rw[eU F.plain_reversed_new _];unfold Builtin.«reversed.__new__»;refine aB (dR (newClass_reversed _) ?_)
 try dsimp only
 refine aB (dR (a:=()) (by first | rfl | kernel_rfl) ?_);refine aB (dR (a:=()) (by first | rfl | kernel_rfl) ?_)
 try dsimp only
 refine aB (jZ b jT.lookup ?_)
 try dsimp only
 refine aB (dR (jT.bind _) ?_)
 try dsimp only
 first
 | rw[aJ (show ¬ ((Value.builtin "range.__reversed__" == Value.none)=true) from aT)]
 | (show wpAny _ _ (if (Value.builtin "range.__reversed__" == Value.none)=true then _ else _) _ _ _;rw[aJ (show ¬ ((Value.builtin "range.__reversed__" == Value.none)=true) from aT)])
 refine aB (jB ?_);refine aB (m:=runValue (.call (.builtin "range.__reversed__") ⟨[.ref r],[]⟩)) (show wpAny _ _ (call (.builtin "range.__reversed__") [.ref r]) _ _ _ from IW j o p ?_)
 first
 | exact aE h
 | exact aB (aE (aE h))
theorem GW (o:IsRange s.heap r 0 n 1 t u v) (j:0<=n) (l:n<=100000)
  (h:Q (.ref s.heap.objs.size) { s with heap:=s.heap.push (Cj n) }):wpAny (model g w) A (call (.type "reversed") [.ref r]) Q E s:=by
 refine callType_other (U := "range_iterator") (Q₁:=λobj a=>obj = .ref s.heap.objs.size/\a={ s with heap:=s.heap.push (Cj n) }) (by decide +kernel) F.create_reversed ⟨_,_,F.mro_reversed⟩ F.made_reversed AF (F.typeCall_reversed_1 _) (EY o j l ⟨rfl,rfl⟩) ?_;rintro obj a ⟨rfl,rfl⟩;exact⟨⟨_,aX _ rfl,rfl⟩,h⟩
end
end PySem
namespace L2
open PySem PySem.Spec PyProof.Rows Lw
section
variable {X:Cx}
def MO (g:TA):TI:=λc H R=>g c H λb a=>∃ j:Int,b=[.int j]/\0<=j/\j<=100000/\R (Bu (j-1) (-1) j.toNat) a
theorem FJ (T:Gl X "reversed") (U:X.mg "reversed" = none) (l:Gl X "range") (C:X.mg "range" = none) (J:PA X [a] ta) (hs:starEach [a] X.env=[(false,eval a X.env)]:=by rfl) :
  PI X tg (.Call (.Name "reversed" p) [.Call (.Name "range" p') [a] [] g] [] pos) (MO ta):=by
 intro c s m H R I h;refine eQ (uT I T U boot_reversed ?_ (by decide) (by decide));refine cF ?_ rfl rfl;show wpAny _ _ (spliced ((false,eval (.Call (.Name "range" p') [a] [] g) X.env)::backTo pos (starEach [] X.env))) _ _ s;refine iA ?_;refine eQ (uT I l C boot_range ?_ (by decide) (by decide));refine cF (lA (J g c s m H _ I h) λF d k=>?_) hs rfl;obtain⟨G,f,n,D,B⟩:=k;obtain⟨j,rfl,z,A,q⟩:=B;cases D with
 | cons r E =>
  cases E;obtain⟨t,rfl⟩:=r;refine call_range_1 ?_;refine jL ?_;refine GW (IsRange.new ..) z A ?_;have i:Inv X c m f { d with heap:=d.heap.push { cls:=.type "range",data:=.fields #[.int 0 d.toks,.int j t,.int 1 (d.toks+1)] },toks:=d.toks+1+1 }:=n.kept λb o e=>aG _ e
  have u:Inv X c m f { d with heap:=(d.heap.push { cls:=.type "range",data:=.fields #[.int 0 d.toks,.int j t,.int 1 (d.toks+1)] }).push (Cj j),toks:=d.toks+1+1 }:=i.kept λb o e=>aG _ e
  have v:0+(j-1)*1=j-1:=by omega
  refine jK (aX _ rfl) ?_;refine⟨_,[_],_,_,f,rfl,u,Vf _ (j-1) (-1) j.toNat,?_,λb y=>?_,q⟩
  .show IsRangeIter _ _ (j-1+((0:Nat):Int)*(-1)) ((j.toNat:Int)-((0:Nat):Int)) (-1);have w:j-1+((0:Nat):Int)*(-1)=j-1:=by omega
   have x:((j.toNat:Nat):Int)-((0:Nat):Int)=j:=by omega
   rw[w,x,<- v];exact aX _ rfl
  .have e:=bF.mp y;subst e;exact i.fpOk (aP _) (i.hok.fresh (aP _))
end
section
variable {X:Cx}{K:lK}
def GB (g:mE):tQ:=λb d c=>g b d λr a=>match r with
 | .v (.int j)=>(0<=j/\j<=100000)/\c (tM (j-1) (-1) j.toNat) a
 | _=>False
theorem Vy (C:Gl X "reversed") (I:X.mg "reversed" = none) (g:Gl X "range") (j:X.mg "range" = none) (o:PD X a ta) (U:starEach [a] X.env=[(false,eval a X.env)]:=by rfl) (J:vN a=true:=by rfl) :
  vL X tg (.Call (.Name "reversed" p) [.Call (.Name "range" p') [a] [] l] [] pos) (GB ta) :=
 (FJ C I g j (mX o nJ J) U).mono λs H R c=>c.elim λB n T q h hd i k=>⟨B,n,T,_,h,hd,i,λr d v e m d1 b=>by
  cases r<;>first | exact False.elim b | skip
  rename_i x
  cases x<;>first | exact False.elim b | skip
  have f:=d1.valAt.int_inv;subst f;exact⟨_,rfl,b.1.1,b.1.2,k _ _ d [] e m d1.drop Yw b.2⟩⟩
end
section
variable {X:Cx}{K:lK}
theorem Xi (bs:Aa Bool):((List.range bs.length).any λi=>(bs[i]?).getD true)=bs.any id:=by
 have e:(List.range bs.length).map (λi=>(bs[i]?).getD true)=bs:=by
  apply jU (by simp);intro i p q;simp[q]
 calc ((List.range bs.length).any λi=>(bs[i]?).getD true)=((List.range bs.length).map λi=>(bs[i]?).getD true).any id:=by rw[kX];rfl
  _=bs.any id:=by rw[e]
def O6 (K:lK):Aa V->Hp->VK->Prop:=λa H Q=>∃ (p:Ad) (bs:Aa Bool),a=[.ref p]/\hI K H p (bs.map V.b)/\Q (.b (bs.any id)) H
theorem Rc (g:X.calm=true):nF X (.builtin "any") (O6 X.K):=by
 intro m s P H O N Q I r h;obtain⟨p,bs,rfl,z,q⟩:=h;obtain⟨u,rfl,D⟩:=oS r;cases D;obtain⟨c,n,B,_⟩:=I.list z;have d:=B.isList;have a:=n.length;rw[aA] at a;have f:p<s.heap.objs.size:=by obtain⟨_,e,_⟩:=id d;exact aU e
 refine call_any_walk (eZ d ?_);refine⟨s.heap.objs.size,[s.heap.objs.size,p],[s.heap.objs.size],c.toArray.size,_,_,λi=>(bs[i]?).getD true,rfl,Walks.list (A:=X.A.in1) (I.ok.hd g) _ p (bI f) c.toArray,⟨⟨_,aX _ rfl,rfl,rfl⟩,d.push _⟩,λi v L F E t k=>?_,λG M w=>?_⟩
 .obtain⟨b,e,rfl⟩:=Lk n (by simpa using t);simp only[e,Option.getD_some] at k;exact eY k
 .have e:((List.range c.toArray.size).any λi=>(bs[i]?).getD true)=bs.any id:=by
   rw[aR,<- a];exact Xi bs
  rw[e];exact⟨.b _,H,I.kept λb x e=>w b x (λy=>by rw[bF.mp y] at e;exact dY _ (aU e)) (aG _ e),rfl,q⟩
def JR:OC:=λa d=>match a with
 | [.l c]=>∃ bs,vK c=some bs/\d (.v (.b (bs.any id)))
 | _=>False
theorem Tg:pW K (O6 K) JR:=by
 intro B L H e s t Q hd i c k;cases e with
 | nil=>exact False.elim c
 | cons d e =>
  cases e with
  | cons _ _=>cases d<;>exact False.elim c
  | nil =>
   cases d<;>first | exact False.elim c | skip
   obtain⟨x,rfl,n⟩:=pV i;obtain⟨m,f,c⟩:=c;obtain⟨a,q,rfl,h,r⟩:=n.lst_inv;rw[Pq f r] at h;exact⟨a,m,rfl,hI.of h,k _ _ H c (hd.pushF (.b _))⟩
def Mq:Aa V->Hp->VK->Prop:=λd H Q=>∃ (a:Ad) (b:Aa (Aa eF×V)),d=[.ref a]/\Rd H a (.T b)/\b.length<=1000/\∀ (l:Ad) (c:Aa Ad),H l=none->c.length=b.length->(∀ (i:Nat) p k v,c[i]?=some p->b[i]?=some (k,v)->H p=some (.t (k.map kV)))->Q (.ref l) (upd H l (.l (c.map V.ref)))
theorem CB (g:X.calm=true):nF X (.type "list") Mq:=by
 intro O s σ H xs us Q I r h;obtain⟨a,f,rfl,P,L,q⟩:=h;obtain⟨u,rfl,ru⟩:=oS r;cases ru;obtain⟨ob,es,ep,raw,sz,rows⟩:=Ny I.hok P;refine PySem.W.kdl_call Ov (I.ok.hd g) raw (by rw[sz];exact bP L (by decide)) λh' tk d c J z E=>?_
 obtain⟨n1,T⟩:=E;obtain⟨b,M,G,N⟩:∃ b:Aa Ad,d.toList=b.map Value.ref/\b.length=f.length/\∀ (i:Nat) p k v,b[i]?=some p->f[i]?=some (k,v)->H p=some (.t (k.map kV)):=by
  have go:∀ m,m<=f.length->∃ b:Aa Ad,d.toList.take m=b.map Value.ref/\b.length=m/\∀ (i:Nat) p k v,b[i]?=some p->f[i]?=some (k,v)->H p=some (.t (k.map kV)):=λm=>by
   induction m with
   | zero=>exact λ_=>⟨[],rfl,rfl,λi p k v e=>by simp at e⟩
   | succ m F =>
    intro hm;obtain⟨b,x,y,A⟩:=F (by omega);have w:m<d.size:=by omega
    obtain⟨R,S⟩:=T m d[m] (cE w);obtain⟨k,v,p,Z,j,C⟩:=rows m R;refine⟨b++[p],?_,by rw[aW,y];rfl,λi U Y v' n B=>?_⟩
    .rw[cA,x,aZ,dF,cE w,S,j];rfl
    .by_cases D:i<b.length
     .rw[eI D] at n;exact A i U Y v' n B
     .have:i<(b++[p]).length:=(aV.mp n).1;rw[aW,eM] at this;have e:i=m:=by omega
      subst e;rw[cS (by omega),y,Nat.sub_self] at n;rw[Z] at B;cases n;cases B;exact C
  obtain⟨b,x,y,A⟩:=go f.length (aP _);rw[bW (by rw[dJ];omega)] at x;exact⟨b,x,y,A⟩
 have rel:lL (b.map V.ref) d.toList:=by
  rw[M];clear M G N;induction b with
  | nil=>exact .nil
  | cons p b F=>exact .cons rfl F
 exact⟨.ref s.heap.objs.size,_,I.laid (a:=s.heap.objs.size) (o:=.l (b.map V.ref)) (t':=tk) J (aP _) ⟨by rw[aA,G];exact bP L (by decide),d.toList,c,rel,by rw[Array.toArray_toList];exact z⟩,rfl,q _ b (I.hok.fresh (aP _)) G N⟩
def Vb:OC:=λb c=>match b with
 | [.T a]=>a.length<=1000/\c (.o (.l (Bl a)))
 | _=>False
theorem LN:pW K Mq Vb:=by
 intro B L H w R S Q hd E n k;cases w with
 | nil=>exact False.elim n
 | cons d w =>
 cases d<;>first | exact False.elim n | skip<;>cases w<;>first | exact False.elim n | skip
 rename_i b
 obtain⟨x,rfl,P⟩:=pV E;obtain⟨a,v,rfl,h,e,r⟩:=P.dT_inv;have G:b.length=v.length:=by have:=dD List.length e;simpa using this
 refine⟨a,v,rfl,h,by rw[<- G];exact n.1,λl c A N O=>k _ _ _ n.2 (hd.lstF A ?_)⟩;have go:∀ (b:Aa (Aa eF×D)) (s:Aa (Aa eF)) (c:Aa Ad),b.map (·.1)=s->c.length=s.length->(∀ (i:Nat) p k,c[i]?=some p->s[i]?=some k->H p=some (.t (k.map kV)))->Reps K (Al B (gV L)) H (Bl b) (c.map V.ref):=λb=>by
  induction b with
  | nil=>intro s c y u _;subst y;cases c with
   | nil=>exact .nil
   | cons _ _=>cases u
  | cons q b F =>
   intro s c y u m;subst y;cases c with
   | nil=>cases u
   | cons p c =>
    exact .cons (.t (m 0 p q.1 rfl rfl) (Ha q.1)) (F _ c rfl (Nat.succ.inj u) λi M k z f=>m (i+1) M k z f)
 exact go b (v.map (·.1)) c e (by rw[N,aA]) λi p k z f=>by
  rw[bD] at f;cases m:v[i]? with
  | none=>rw[m] at f;cases f
  | some q =>
   rw[m] at f;cases f;exact O i p q.1 q.2 z m
end
end L2
namespace PySem
open PyProof.Rows L2
section
theorem CI (hu:(nB g w).room A) (r:(nB g w).is s.heap k a) (T:s.heap.DictOfH (nB g w) d I)
  (J:∀ C,C.DictOfH (nB g w) d (storedH I k a v)->Heap.SameBut d s.heap C->Q () { s with heap:=C }) (U:I.length<=sizeLine) :
  wpAny (model g w) A (dictSetHashed d (.ref a) ((nB g w).hash k) v) Q E s:=by
 obtain⟨o,B,u,f,z,hd,n,h,i⟩:=T;unfold dictSetHashed
 try with_reducible refine bT ?_
 refine aB (wpAny_dictFind_heap hu r f hd n h i ?_ ?_)
 .intro c;have m:k∉I.map (·.1):=not_mem_keys_of_get c;refine aB (jB (wpAny_updateDictKeys (hz:=by have e:=size_of_entries n;omega) f hd (J _ ⟨_,_,u+1,fH _ f (kH (iN hd _)),z.mapDictKeys _,iN hd _,?_,?_,?_⟩ (cG ..))))
  .rw[storedH_new (jP c)];simp[n,entryOfKey]
  .rw[storedH_new (jP c)];intro x b;rcases bE.mp b with b | b
   .exact (nB g w).keeps (h x b) f hd (cG ..)
   .simp only[bF] at b;subst b;exact (nB g w).keeps r f hd (cG ..)
  .rw[storedH_new (jP c)];rw[aZ,bK];refine⟨i,by simp,?_⟩;intro x b y t;simp only[aM,kI,bF] at t;subst t;exact λe=>m (e▸b)
 .intro j p q;refine aB (jB (aB (wpAny_updateDict f hd (wpAny_point (J _ ⟨_,_,u,fH _ f (kH (Obj.data_mapDict hd _)),z.mapDict _,Obj.data_mapDict hd _,?_,?_,?_⟩ (cG ..))))))
  .rw[storedH_old (atKey_of_get i q)];have:=modify_map_putAt (entryOfKey (nB g w)) (λe:DictEntry=>{ e with val:=v }) k v (λ_ _=>rfl) i q;rw[<- n] at this;obtain⟨l⟩:=B
   simpa using this
  .rw[storedH_old (atKey_of_get i q)];intro x b;obtain⟨y,t,rfl⟩:=aH.mp b;unfold putAt;split<;>exact (nB g w).keeps (h y t) f hd (cG ..)
  .rw[storedH_old (atKey_of_get i q)];rw[keys_map_putAt];exact i
def qV (g more:Aa (Aa eF×Ad×Ac)):Aa (Aa eF×Ad×Ac):=more.foldl (λa q=>storedH a q.1 q.2.1 q.2.2) g
theorem KS {g more:Aa (Aa eF×Ad×Ac)}{i:Nat}{q:Aa eF×Ad×Ac}(h:more[i]?=some q):qV g (more.take (i+1))=storedH (qV g (more.take i)) q.1 q.2.1 q.2.2:=by
 unfold qV;rw[cA,h,jN];rfl
theorem Mr:∀ (more g:Aa (Aa eF×Ad×Ac)),(qV g more).length<=g.length+more.length
 | [],g=>by simp[qV]
 | q::more,g=>by
  have a:=Mr more (storedH g q.1 q.2.1 q.2.2);have b:=O5 g q.1 q.2.1 q.2.2;show (qV (storedH g q.1 q.2.1 q.2.2) more).length<=_;rw[bJ];omega
theorem Tp:∀ (more g:Aa (Aa eF×Ad×Ac)),((g++more).map (·.1)).Nodup->qV g more=g++more
 | [],g,_=>by simp[qV]
 | q::more,g,h=>by
  have b:atKey g q.1=none:=jP λj p a=>by
   rw[aZ,aM,bK] at h;exact h.2.2 q.1 (aH.mpr ⟨_,aQ a,rfl⟩) q.1 aF rfl
  show qV (storedH g q.1 q.2.1 q.2.2) more=_;rw[storedH_new b,Tp more _ (by simpa using h)];simp
theorem HI (j:(nB g w).is s.heap k a) (h:Q false s):wpAny (model g w) A (Builtin.Dict.quietEq (.ref a)) Q E s:=by
 obtain⟨o,d,n,b,c,_⟩:=j;exact aB (jZ ⟨o,b,c⟩ F.slot_tuple_eq.lookup (aE h))
theorem Sm:∀ (l:Aa DictEntry) (e:DictEntry),(l.map (·.hash)).Nodup->(l.filter λx=>x.hash == e.hash).length<=1
 | [],_,_=>by simp
 | x::l,e,a=>by
  rw[aM,bX] at a;rw[List.filter_cons];by_cases b:x.hash=e.hash
  .have:l.filter (λy=>y.hash == e.hash)=[]:=List.filter_eq_nil_iff.mpr λy c z=>a.1 (aH.mpr ⟨y,c,by rw[b];exact eq_of_beq z⟩)
   rw[this];split<;>simp
  .rw[aJ (by simpa using b)];exact Sm l e a.2
theorem Vj {id:String}{d:Ad}{o:Obj}{j I}{r:Aa (Aa eF×Ad×Ac)}{Q:Array DictEntry->Ae->Prop}(T:s.heap.get? d=some o) (hd:o.data = .dict j I) (p:j.toList=r.map (entryOfKey (nB g w))) (C:∀ x∈r,(nB g w).is s.heap x.1 x.2.1)
  (J:(r.map λx=>(nB g w).hash x.1).Nodup) (h:Q j s):wpAny (model g w) A (Builtin.Dict.entriesForEmpty id d) Q E s:=by
 unfold Builtin.Dict.entriesForEmpty;refine aB (fB T hd ?_);have a:(j.toList.map (·.hash)).Nodup:=by rw[p,aK];exact J
 have one:∀ e∈j,¬ (j.filter (·.hash == e.hash)).size>1:=λe c=>by
  obtain⟨l⟩:=j;have c:e∈l:=by simpa using c
  have a:(l.map (·.hash)).Nodup:=a;have:=Sm l e a
  simpa using this
 refine aB ?_;rw[<- Array.forIn_toList];refine wpAny_forIn_list _ (λrest _ f=>f=s/\∀ e∈rest,e∈j) _ ?_ ?_ _ _ ⟨rfl,λe p=>Array.mem_toList_iff.mp p⟩
 .rintro e rest b f ⟨rfl,i⟩;have c:=i e aF;have:e∈r.map (entryOfKey (nB g w)):=p▸Array.mem_toList_iff.mpr c;obtain⟨x,k,rfl⟩:=aH.mp this;refine aB (HI (C x k) ?_);simp only[Bool.not_false,gA];rw[aJ (one _ c)];exact aE ⟨rfl,λe p=>i e (aL _ p)⟩
 .rintro b f ⟨rfl,_⟩;exact aE h
theorem Xk (hu:(nB g w).room A) (r:d≠o) (ab:(o == sysModules)=false)
  (hd:s.heap.DictOfH (nB g w) d j) (ho:s.heap.DictOfH (nB g w) o more) (hH:(more.map λx=>(nB g w).hash x.1).Nodup)
  (C:∀ p,p.DictOfH (nB g w) d (qV j more)->Heap.SameBut d s.heap p->Q () { s with heap:=p }) (ac:j.length+more.length<=sizeLine) :
  wpAny (model g w) A (Builtin.Dict.mergeDict nm d o) Q E s:=by
 obtain⟨od,X,W,m,Z,f,I,ah,ai⟩:=id hd;obtain⟨oo,a,af,n,ag,c,v,G,S⟩:=id ho;unfold Builtin.Dict.mergeDict;rw[aJ (by simpa using r)];unfold Builtin.Dict.showsAll;rw[aJ (by rw[ab];exact aT)];refine aB (aE ?_);refine aB (fB n c ?_);have k:more.length=a.size:=(size_of_entries v).symm;have D:wpAny (model g w) A (do
   let F <- dictEpoch o;let l <- dictEntries o
   forIn [:l.size] PUnit.unit λi (_:PUnit)=>(do
     let l' <- dictEntries o
     match l'[i]? with
      | some e=>do
       holding [e.key,e.val] (dictSetHashed d e.key e.hash e.val)
       let V <- dictEpoch o
       if (V != F)=true then do
         (unsupported (toString nm++toString ":source-changed-during-callback"):Sem PUnit)
         pure (ForInStep.yield PUnit.unit)
        else pure (ForInStep.yield PUnit.unit)
      | _=>do
       (unsupported "internal:dict-merge" : Sem PUnit)
       pure (ForInStep.yield PUnit.unit):Sem (ForInStep PUnit))
   pure ()) Q E s:=by
  refine aB (iZ n c ?_);refine aB (fB n c ?_);refine aB ?_;rw[Std.Legacy.Range.forIn_eq_forIn_range'];simp only[Std.Legacy.Range.size,Nat.sub_zero,Nat.add_sub_cancel,Nat.div_one];refine wpAny_forIn_list _
   (λrest _ s'=>∃ p i,s'={ s with heap:=p }/\rest=List.range' i (a.size-i)/\i<=a.size/\p.DictOfH (nB g w) d (qV j (more.take i))/\p.get? o=some oo/\Heap.SameBut d s.heap p)
   _ ?_ ?_ _ _ ⟨s.heap,0,rfl,by simp,dB _,by simpa [qV] using hd,n,Heap.SameBut.refl _ _⟩
  .rintro x rest b s' ⟨p,i,rfl,K,hi,u,q,y⟩;have R:i<a.size:=by
    rcases jQ i a.size with h | h
    .exact h
    .rw[Nat.sub_eq_zero_of_le h] at K;simp at K
   obtain⟨rfl,L⟩:x=i/\rest=List.range' (i+1) (a.size-(i+1)):=by
    have e:a.size-i=(a.size-(i+1))+1:=by omega
    rw[e,List.range'_succ] at K;injection K with h1 h2;exact⟨h1,h2⟩
   refine aB (fB q c ?_);obtain⟨B,H⟩:∃ B,more[x]?=some B:=⟨more[x]'(by rw[k];exact R),aD _⟩;rw[entry_at v x,H];show wpAny _ _ (holding [Value.ref B.2.1,B.2.2] (dictSetHashed d (.ref B.2.1) ((nB g w).hash B.1) B.2.2) >>= _) _ _ _;have U:(qV j (more.take x)).length<=sizeLine:=by
    have e1:=Mr (more.take x) j;have e2:(more.take x).length<=more.length:=by rw[bN];omega
    omega
   refine aB (bT (CI hu ((nB g w).keeps (G B (aQ H)) m f y) u (λM N z=>?_) U));have t:M.get? o=some oo:=(z.2 o (eJ r)).trans q;refine aB (iZ t c ?_);rw[aJ (by simp)];exact aE ⟨M,x+1,rfl,L,R,by rw[KS H];exact N,t,y.trans z⟩
  .rintro b s' ⟨p,i,rfl,K,hi,u,q,y⟩;have J:i=a.size:=by
    rcases jQ i a.size with h | h
    .have e:a.size-i=(a.size-(i+1))+1:=by omega
     rw[e,List.range'_succ] at K;exact nomatch K
    .exact kB hi h
   refine aE (C p ?_ y);rw[J,<- k,eG] at u;exact u
 dsimp only;split
 .refine aB (fB m f ?_);split
  .rename_i O
   have P:j=[]:=by
    have Y:X=#[]:=Array.isEmpty_iff.mp O;have:=size_of_entries I;rw[Y] at this;exact hV.mp (by simpa using this.symm)
   subst P;refine aB (Vj n c v G hH ?_);rw[Tp more [] (by simpa using S)] at C;split
   .have ae:a.size<=sizeLine+1:=by
     simp only[fG,kY] at ac;omega
    refine aB (wpAny_updateDictKeysTo m f (aE (C _ ⟨_,_,W+1,fH _ m (kH (iN f _)),Z.mapDictKeys _,iN f _,v,λx hx=>(nB g w).keeps (G x hx) m f (cG ..),S⟩ (cG ..))) ae)
   .rename_i aa
    have Y:a=#[]:=Array.isEmpty_iff.mp (by simpa using aa);have T:more=[]:=hV.mp (by rw[k,Y];rfl);subst T;exact aE (C _ hd (Heap.SameBut.refl _ _))
  .exact D
 .exact D
theorem LH (d o:Ad) (p:d≠o) (r:(o == sysModules)=false) :
  MeetsIn g w (Builtin.«dict.update» ⟨[.ref d,.ref o],[]⟩) (λA R s=>(nB g w).room A.in1/\∃ j more,s.heap.DictOfH (nB g w) d j/\s.heap.DictOfH (nB g w) o more/\(more.map λx=>(nB g w).hash x.1).Nodup/\j.length+more.length<=sizeLine /\ ∀ l,l.DictOfH (nB g w) d (qV j more)->Heap.SameBut d s.heap l->R (.ok (.ret .none)) { s with heap:=l }) :=
 .of_wp λA R s f=>by
  obtain⟨k,j,more,hd,a,i,e,h⟩:=f;unfold Builtin.«dict.update»;refine aB ?_;unfold Builtin.Dict.selfAndRest;refine aB (iH hd.typeIs ?_);show wpAny _ _ (pure (d,[Value.ref o])) _ _ s;refine aE ?_;show wpAny _ _ (Builtin.Dict.updateFrom "dict.update" d (.ref o) [] .none) _ _ s;unfold Builtin.Dict.updateFrom;refine aB (fA a.typeIs ?_);rw[aJ (by decide)];refine aB ?_;unfold Builtin.Dict.merge;refine aB ?_
  .unfold Builtin.Dict.readDirectly;refine aB (dN a.typeIs isSubtype_dict_dict ?_);simp only[Bool.not_true,dU,fX];refine aB (jZ a.typeIs F.slot_dict_iter.lookup (aE ?_));simp only[iP,gA];refine aB (aE ?_);refine Xk k p r hd a i (λl b c=>?_) e;show wpAny _ _ (Builtin.Dict.addKeywords d [] >>= _) _ _ _;exact aB (aE (aE ⟨.none,rfl,h l b c⟩))
end
end PySem
namespace L2
open PySem PySem.Spec PyProof.Rows Lw
def Bn (g:Aa Int):Int:=reduceHash (Builtin.Tuple.tupleHashOf (g.map hashInt))
theorem IU {P:Ah}(g:Aa Int):(nB P w).hash (g.map Sum.inl)=Bn g:=by
 show reduceHash (Builtin.Tuple.tupleHashOf ((g.map (Sum.inl:Int->eF)).map (N9 w)))=_;rw[aK];rfl
def qG {j:Type}(put:Aa (Aa eF×j)->Aa eF->j->Aa (Aa eF×j)) (g l:Aa (Aa eF×j)):Aa (Aa eF×j):=l.foldl (λg m=>put g m.1 m.2) g
theorem Nk:∀ (j g:Aa (Aa eF×V)),(qG mY g j).length<=g.length+j.length
 | [],g=>by simp[qG]
 | m::j,g=>by
  have a:=Nk j (mY g m.1 m.2);have b:=Bh g m.1 m.2;show (qG mY (mY g m.1 m.2) j).length<=_;rw[bJ];omega
theorem KT.merge:∀ {more:Aa (Aa eF×V)}{l:Aa (Aa eF×Ad×Ac)}{g:Aa (Aa eF×V)}{j:Aa (Aa eF×Ad×Ac)},KT H more l->KT H g j->KT H (qG mY g more) (qV j l):=by
 intro more l g j h;induction h generalizing g j with
 | nil=>exact λr=>r
 | @cons p q e f h t d =>
  intro r;obtain⟨a,b,c⟩:=h;show KT H (qG mY (mY g p.1 p.2) e) (qV (storedH j q.1 q.2.1 q.2.2) f);rw[<- a];exact d (r.put p.1 b c)
theorem KT.keys (h:KT H more g):g.map (·.1)=more.map (·.1):=by
 induction h with
 | nil=>rfl
 | @cons p q b c h t a=>rw[aM,aM,a,h.1]
def Tj:RM:=λx f H Q=>∃ (a b:Ad) (c more:Aa (Aa eF×V)) (d:Aa (Aa Int)),x = .ref a/\f=[.ref b]/\a≠b/\H a=some (.T c)/\Rd H b (.T more)/\more.map (·.1)=d.map (λk=>k.map Sum.inl)/\(d.map Bn).Nodup/\c.length+more.length<=1000/\Q .e (upd H a (.T (qG mY c more)))
section
variable {X:Cx}{K:lK}
theorem CD (g:X.A.units+1<cLine):uK X "dict.update" Tj:=by
 intro E s σ H x xs v us Q I r p h;obtain⟨a,b,d,more,Z,rfl,rfl,ne,y,W,Y,V,hz,q⟩:=h;cases r;obtain⟨u,rfl,l⟩:=oS p;cases l;obtain⟨za,C,i,G,D⟩:=Op I.hok y;obtain⟨zb,J,f,B,O⟩:=yO I.hok W;have la:d.length=i.length:=fN G;have lb:more.length=f.length:=fN B;have n:i.length+f.length<=sizeLine:=bP (show _<=1000 by omega) (by decide);have t:(f.map λx=>(nB X.prog X.w).hash x.1).Nodup:=by
  have:(f.map λx=>(nB X.prog X.w).hash x.1)=Z.map Bn:=by
   have e:(f.map λx=>(nB X.prog X.w).hash x.1)=(f.map (·.1)).map (nB X.prog X.w).hash:=by rw[aK];rfl
   rw[e,B.keys,Y,aK];exact bO λk _=>IU k
  rw[this];exact V
 refine call_meetsIn F.slot_dict_update D.typeIs F.entry_dict_update (F.args_dict_update_2 _ _) (LH a b ne J) ⟨iB g,i,f,D,O,t,n,λS d1 sm=>?_⟩;have U:(qG mY d more).length<=sizeLine:=by
  have:=Nk more d;exact bP (show (qG mY d more).length<=1000 by omega) (by decide)
 have there:∃ o,S.get? a=some o:=let ⟨o,_,_,e,_⟩:=d1;⟨o,e⟩;refine⟨.e,_,Ct (ob:=.T (qG mY d more)) I (by rw[y];exact True.intro) sm there ⟨U,C,qV i f,(B.merge G).keeps λc ys m=>?_,?_⟩,rfl,q⟩
 .rw[lT]
  .exact m
  .intro z;subst z;rw[y] at m;cases m
 .obtain⟨j,R,P,d1,d2,L,M,_,N⟩:=d1;exact⟨j,R,P,d1,d2,L,M,N⟩
def CN:OW:=λc f h=>match c,f with
 | .T d,[.T a]=>∃ b:Aa (Aa Int),a.map (·.1)=b.map (λk=>k.map Sum.inl)/\(b.map Bn).Nodup/\d.length+a.length<=1000/\h .e (.T (qG mP d a))
 | _,_=>False
theorem Oo:∀ {more:Aa (Aa eF×D)}{mv:Aa (Aa eF×V)}{g:Aa (Aa eF×D)}{l:Aa (Aa eF×V)},more.map (·.1)=mv.map (·.1)->Reps K A H (more.map (·.2)) (mv.map (·.2))->g.map (·.1)=l.map (·.1)->Reps K A H (g.map (·.2)) (l.map (·.2)) ->
  (qG mP g more).map (·.1)=(qG mY l mv).map (·.1)/\Reps K A H ((qG mP g more).map (·.2)) ((qG mY l mv).map (·.2))
 | [],[],_,_,_,_,e,r=>⟨e,r⟩
 | [],_::_,_,_,e,_,_,_=>by simp at e
 | _::_,[],_,_,e,_,_,_=>by simp at e
 | (k,d)::more,(j,v)::mv,g,l,a,b,e,r=>by
  simp only[aM,fU] at a;obtain⟨rfl,a⟩:=a;cases b with
  | cons h b =>
   obtain⟨c,f⟩:=Cf e r (k:=k) h;exact Oo (more:=more) (mv:=mv) a b c f
theorem KQ:wO K Tj CN:=by
 intro A H a c M O P Q y G rd f k;cases c<;>first | exact False.elim f | skip
 cases rd with
 | nil=>exact False.elim f
 | cons E rd =>
 rename_i d _ _ _
 cases d<;>first | exact False.elim f | skip
 cases rd with
 | cons _ _=>exact False.elim f
 | nil =>
 .obtain⟨m,h,e,r⟩:=G
  .obtain⟨b,n,rfl,t,s,i,F⟩:=E.dT_inv;obtain⟨v,f1,f2,N,q⟩:=f;have w:=dD List.length e;have x:=dD List.length i;simp only[aA] at w x;refine⟨a,b,m,n,v,rfl,rfl,λz=>y (z▸t),h,s,by rw[<- i];exact f1,f2,by omega,k _ _ _ _ q .e λL u=>?_⟩;obtain⟨B,D⟩:=Oo i F e r;exact⟨_,mM,B,D.mono u⟩
end
section
variable {X:Cx}{K:lK}{id:String}
def Uj (f:OW) (i:Nat) (g:rP):mE:=λh b m=>(match b[i]? with | some (.o (.T _))=>True | _=>False)/\g h b λas a=>match a[i]?,uU as with
 | some (.o c),some k=>f c k λd e=>m (.v d) (a.set i (.o e))
 | _,_=>False
theorem Yz {f:OW}(U:wO X.K r f){g:St}{H:Hp}{Q:VK}(h:dE X.K (Uj f i ta) g H Q):pJ i g H λx l=>B0 X.K "dict" x l/\dA X.K ta g l λxs j=>r x xs j Q:=by
 obtain⟨B,C,Tm,Φ,Y,hd,⟨t,ht⟩,k⟩:=h;cases G:C[i]? with
 | none=>rw[G] at t;exact t.elim
 | some s0 =>
  rw[G] at t;cases s0<;>first | exact t.elim | skip
  rename_i I
  cases I<;>first | exact t.elim | skip
  obtain⟨x',q,⟨D,px,_⟩,_⟩:=hd.slotW Y G;obtain⟨x,S⟩:∃ x,x=V.ref x':=⟨_,rfl⟩;rw[<- S] at q;refine⟨x,q,by rw[S];exact .inr (.inr (.inl ⟨rfl,.inr ⟨D,px⟩⟩)),B,C,Tm,_,Y,hd,ht,λas e vs j E ok d2 b=>?_⟩;cases m:e[i]? with
  | none=>rw[m] at b;exact b.elim
  | some s =>
   cases s with
   | n=>rw[m] at b;exact b.elim
   | v c=>rw[m] at b;exact b.elim
   | o c =>
    cases L:uU as with
    | none=>rw[m,L] at b;exact b.elim
    | some R =>
     rw[m,L] at b;have P:=d2.temps ok R L;have J:=d2.rmArgs;obtain⟨a,W,p,wr⟩:=J.slotW E m;rw[q] at W;cases W;obtain⟨u,hu,tu⟩:=p.some;have Z:¬ Al B (gV (e.zip g++Tm)) a:=λz=>z.2.1 (by
      obtain⟨l1,y,O,A,_,M,_⟩:=sZ E m;rw[q] at A;cases A;rw[M,bH,cD,pS];exact bA _ aF)
     refine U _ j a c R vs _ Q Z p P b λd v o F N rd hr=>k _ _ v _ (by rw[bL];exact E) ?_ N
     refine (wr o F hr).push ?_;have T:gV ((e.set i (.o F)).zip g++Tm)=gV (e.zip g++Tm):=by
      obtain⟨l1,y,O,A,_,M,w⟩:=sZ E m;rw[q] at A;cases A;have:=w (.o F) (some (.ref a));rw[yY q] at this;rw[this,M,bH,bH,cD,cD,pS,pS];rfl
     rw[T];exact rd.mono (.write hu tu Z)
theorem AG {f:OW}(U:PlainAttrs "dict") (slot:Slot "dict" name id) (j:typeOf (.builtin id)=pure (.type "method_descriptor")) (J:uK X id r) (I:wO X.K r f) (T:PE X o (pJ i)) (p:rF X (e::l) ta)
  (C:MtB X o name apos e l g:=by exact {}) :
  PD X (.Call (.Attribute o name apos) (e::l) [] g) (Uj f i ta):=(zK U slot j J T p C).mono λ_ _ _ h=>Yz I h
end
end L2
namespace Lw
open PySem L2
def K9:RD:=λc a b=>∃ n:Nat,a=[.int n]/\n<=1000/\b (.v (.l ((List.range n).map λi=>D.int (2 ^ i))))
section
variable {P:Ah}{K:lK}
theorem Cb:FnScope ["count","found","worth","place"] ["count"] (mA Cz):=nZ
theorem HU (T:Txt g):nY P w K g base 1 "place_worths" Cz ["count"] K9:=by
 refine oE Cb λf k A e s H E t u G B F m=>?_
 obtain⟨n,rfl,z,d⟩:=m;refine⟨_,(hO (mH 1 Cb.nd (qF gD)) (hO (mH 2 Cb.nd lQ) (hO (qW (Fl (by rfl) T.range (dT 0)) (lX 3 Cb.nd) (hO (tA (tP cC cJ cK tJ vD (pv 1) (dK (dT 2) gD))) (lZ (mH 2 Cb.nd (sL xZ yA 2 lQ))))) (lZ (nK (dT 1)))))),?_⟩;refine⟨by show 0<=1000;decide,?_⟩;dsimp only;refine lM (λb=>b=[.v (.int n),.o (.l []),.v (.int 1),.n]) (λN c=>c _ rfl) ?_;rintro _ rfl;refine lM (λb=>∃ a:Sl,b=[.v (.int n),.o (.l ((List.range n).map λi=>D.int (2 ^ i))),.v (.int (2 ^ n)),a]) (λN c=>?_) ?_
 .refine qR (oG 0 n) [.v (.int n),.o (.l []),.v (.int 1),.n] (λL h=>⟨by omega,by omega,h⟩) (λi b=>∃ a:Sl,b=[.v (.int n),.o (.l ((List.range i).map λi=>D.int (2 ^ i))),.v (.int (2 ^ i)),a]) ⟨.n,rfl⟩ ?_ ?_
  .rintro i x b q ⟨a,rfl⟩;obtain⟨y,rfl⟩:=zS q;refine⟨rfl,by show ((List.range i).map λi=>D.int (2 ^ i)).length<100000;rw[aA,bU];omega,rfl,.inr ⟨by decide,by decide⟩,.v (.int (0+(i:Int))),?_⟩;rw[lE,aZ];rfl
  .rintro b ⟨a,rfl⟩;have:(oG 0 n).length=n:=by simp[oG]
   rw[this];exact c _ ⟨a,rfl⟩
 rintro _ ⟨a,rfl⟩;exact d
end
theorem FV:(["bits","steps"]:Aa Af).Nodup:=by decide +kernel
theorem Wb:(["carried","table","choices"]:Aa Af).Nodup:=by decide +kernel
theorem MC:(["bits","at","bit"]:Aa Af).Nodup:=by decide +kernel
theorem Wz:∀ n,n<=6->((eH n).map Bn).Nodup
 | 0,_=>by decide +kernel
 | 1,_=>by decide +kernel
 | 2,_=>by decide +kernel
 | 3,_=>by decide +kernel
 | 4,_=>by decide +kernel
 | 5,_=>by decide +kernel
 | 6,_=>by decide +kernel
 | n+7,h=>absurd h (by omega)
abbrev lB (g:Aa (Aa Int)):D:=.l (g.map mC)
def xB (C:Cel) (g:Aa (Af×Af)) (t:mO) (j:Aa (Aa Int)) (c:Aa Int):Bool:=j.any λl=>!decide (Ax C g t c l=0)
def rN (C:Cel) (g:Aa (Af×Af)) (j o:Aa (Aa Int)):Aa (Aa Int):=j.flatMap λc=>o.map λl=>oF C g c l
theorem sD:x∈rN C g j o↔∃ c∈j,∃ l∈o,oF C g c l=x:=by
 unfold rN;rw[List.mem_flatMap];exact exists_congr λc=>and_congr_right λ_=>aH
def tS (C:Cel) (l:Aa (Af×Af)) (j:Aa (Aa Int)) (g:Aa (Aa (Aa Int))):Aa (Aa Int):=g.foldl (λj a=>rN C l j a) j
def nX (C:Cel) (j:Aa (Af×Af)) (t:mO) (c:Aa Int) (g:Aa (Aa (Aa Int))):Bool:=(tS C j [c] g.dropLast).any (xB C j t (g.getLastD []))
abbrev pK (C:Cel) (g:Aa (Af×Af)) (j:Aa (Aa Int)):Prop:=j.length<=64/\∀ l∈j,l∈eH (wIns C g).length
abbrev xT (g:Aa (Af×Af)) (j:Aa (Aa Int)):Prop:=j.length<=64/\∀ c∈j,c∈eH g.length
def Of:RD:=λh e f=>∃ (C:Cel) (a:Aa (Af×Af)) (t:mO) (c:Aa Int) (d:Aa (Aa Int)),e=[wE C a t c,lB d]/\pK C a d/\f (.v (.b (xB C a t d c)))
def Km:RD:=λh e f=>∃ (C:Cel) (a:Aa (Af×Af)) (t:mO) (c d:Aa (Aa Int)),e=[pZ C a t,lB c,lB d]/\xT a c/\pK C a d/\f (.v (.b (c.any (xB C a t d))))
def Dr:RD:=λh e f=>∃ (C:Cel) (a:Aa (Af×Af)) (t:mO) (c d:Aa (Aa Int)),e=[pZ C a t,lB c,lB d]/\RwOk C a/\xT a c/\pK C a d/\∀ b:Aa (Aa Int),b.Nodup->(∀ x,x∈b↔x∈rN C a c d)->xT a b->f (.o (lB b))
def Hl:RD:=λi d h=>∃ (C:Cel) (c:Aa (Af×Af)) (t:mO) (e:Aa Int) (a:Aa (Aa (Aa Int))),d=[pZ C c t,mC e,.l (a.map lB)]/\RwOk C c/\e∈eH c.length/\a≠[]/\a.length<=64/\(∀ f∈a,pK C c f)/\h (.v (.b (nX C c t e a)))
def qD (i:Nat) (b:Int) (g:Aa (Aa Int)):Aa (Aa Int):=g.filter λl=>decide (l.getD i 0=b)
def Jo:RD:=λe c d=>∃ (a:Aa (Aa Int)) (i:Nat) (b:Int),c=[lB a,.int i,.int b]/\a.length<=64/\(∀ l∈a,i<l.length)/\d (.o (lB (qD i b a)))
def sH (i:Nat) (g:Aa (Aa (Aa Int))):Int:=(((List.range g.length).zip g).map λp=>2 ^ p.1*(p.2.headD []).getD i 0).sum
def Rh:RD:=λe b d=>∃ (a:Aa (Aa (Aa Int))) (i:Nat),b=[.l (a.map lB),.int i]/\a.length<=64/\(∀ c∈a,∃ l r,c=l::r/\i<l.length/\nR (l.getD i 0))/\d (.v (.int (sH i a)))
section
variable {P:Ah}{K:lK}
theorem MF:FnScope ["steps","choices"] ["steps","choices"] (mA El):=nZ
theorem Zs:FnScope ["table","states","choices"] ["table","states","choices"] (mA Ci):=nZ
theorem Gf:FnScope ["table","states","choices","found","carried","bits"] ["table","states","choices"] (mA Bp):=nZ
theorem Cw:FnScope ["table","edges","choices","states","place"] ["table","edges","choices"] (mA Bi):=nZ
theorem CU:FnScope ["choices","at","bit"] ["choices","at","bit"] (mA Ej):=nZ
theorem Zh (T:Txt g):nY P w K g base 1 "has_break" El ["steps","choices"] Of:=by
 refine oE MF λf n A k s H E G L N B m y=>?_
 obtain⟨C,a,t,c,i,rfl,⟨x,z⟩,d⟩:=y;refine⟨_,(lZ (nK (qA (Rc rfl) Tg T.any PyProof.Rows.boot_any (dK (oK ["bits"] ["steps"] [0] (nL (dT 1)) (λ_ _ _ _ _=>(lX 0 FV)) (λ_ _ _ _ _=>(C8 (Ke B.units) (sA true) (oJ m (mQ m 1 (dT 0)) lQ) lQ))) gD)))),?_⟩;unfold rA dC aC;refine pH i mC (λl=>D.b (!decide (Ax C a t c l=0))) [.v (wE C a t c),.v (lB i)] (λO h=>h) (by omega) (λj l M F e q u=>?_) ?_
 .exact⟨rfl,_,Ff (yR C a t c) (z l (aQ e)),_,rfl,q,u⟩
 .refine⟨i.map λl=>!decide (Ax C a t c l=0),?_,?_⟩
  .rw[<- Er,aK];rfl
  .rw[kX];exact d
theorem Xa (T:Txt l) (g:Kn P w K l base 1 "has_break" El ["steps","choices"] Of):nY P w K l base 2 "is_broken_by" Ci ["table","states","choices"] Km:=by
 refine oE Zs λf n A m s H E M N Q F G y=>?_
 obtain⟨C,a,t,i,d,rfl,⟨x,z⟩,B,k⟩:=y;refine⟨_,(lZ (nK (qA (Rc rfl) Tg T.any PyProof.Rows.boot_any (dK (oK ["carried"] ["table","choices"] [0,2] (nL (dT 1)) (λ_ _ _ _ _=>(lX 0 Wb)) (λ_ _ _ _ _=>(mF g F (dK (mQ G 1 (dT 0)) (dK (dT 2) gD))))) gD)))),?_⟩;unfold rA dC aC;refine pH i mC (λc=>D.b (xB C a t d c)) [.v (pZ C a t),.v (lB i),.v (lB d)] (λR h=>h) (by omega) (λj c O L e q u=>?_) ?_
 .exact⟨rfl,_,Ff (wE C a t) (z c (aQ e)),C,a,t,c,d,rfl,B,.inl rfl,q,u⟩
 .refine⟨i.map (xB C a t d),?_,?_⟩
  .rw[<- Er,aK];rfl
  .rw[kX];exact k
theorem U2 (T:Txt g):nY P w K g base 1 "with_bit" Ej ["choices","at","bit"] Jo:=by
 refine oE CU λf m A c s H E M N Q F G z=>?_
 obtain⟨k,i,b,rfl,y,B,a⟩:=z;refine⟨_,(lZ (nK (oK (ht:=λ_ _ _ _ _=>(yV (Ud (tX F.units) (sA false) (mQ G 0 (dT 1)) (dT 2)))) ["bits"] ["at","bit"] [1,2] (nL (dT 0)) (λ_ _ _ _ _=>(lX 0 MC)) (λ_ _ _ _ _=>(dT 0))))),?_⟩;unfold rA;refine wW k mC mC (λl=>decide (l.getD i 0=b)) [.v (lB k),.v (.int i),.v (.int b)] (λR h=>h) (by omega) (λj l O L e t u x=>?_) a;have d:=B l (aQ e);have n:(l.map D.int)[i]?=some (D.int (l.getD i 0)):=by
  rw[bD,aD d,bC,aD d];rfl
 refine⟨rfl,D.int (l.getD i 0),?_,?_⟩
 .exact sC n
 .show if decide (l.getD i 0=b)=true then _ else _
  by_cases q:l.getD i 0=b
  .rw[bQ q];exact (aO rfl).mpr ⟨t,u (bQ q)⟩
  .rw[bM q];exact (aJ aT).mpr (x (bM q))
theorem G8 (g:Aa (Aa Int)) (x:Aa Int):mP (g.map λk=>(k.map (Sum.inl:Int->eF),D.b true)) (x.map Sum.inl) (.b true)=(if x∈g then g else g++[x]).map λk=>(k.map (Sum.inl:Int->eF),D.b true):=by
 by_cases h:x∈g
 .rw[aO h];unfold mP;rw[aO (cN.mpr ⟨_,aH.mpr ⟨x,h,rfl⟩,by simp⟩),aK];refine bO λk _=>?_
  show (if k.map Sum.inl=x.map Sum.inl then (k.map Sum.inl,D.b true) else (k.map Sum.inl,D.b true))=_;split<;>rfl
 .rw[aJ h,G7]
  .rw[aZ];rfl
  .intro z;rw[aK] at z;obtain⟨k,a,e⟩:=aH.mp z;rw[<- Az e] at h;exact h a
abbrev F9 (C:Cel) (g:Aa (Af×Af)) (t:mO) (j l p:Aa (Aa Int)) (r I:Sl):Aa Sl:=[.v (pZ C g t),.v (lB j),.v (lB l),.o (.T (p.map λk=>(k.map (Sum.inl:Int->eF),D.b true))),r,I]
theorem KU (T:Txt mg):nY P w K mg base 1 "carried_on" Bp ["table","states","choices"] Dr:=by
 refine oE Gf λf ab A U s H E dk ds Φ hr g hR=>?_
 obtain⟨C,d,t,O,M,rfl,Y,⟨aa,I⟩,⟨ae,Z⟩,J⟩:=hR;refine⟨_,(hO (mH 3 Gf.nd Ex) (hO (qW (nL (dT 1)) (lX 4 Gf.nd) (lZ (qW (nL (dT 2)) (lX 5 Gf.nd) (lZ (vA (n:=3) g P0 (pv 3) (oJ g (oJ g (mQ g 0 (dT 4)) (dT 5)) lQ)))))) (lZ (nK (pD (CB rfl) LN T.list gC (zY (pv 3) gD)))))),?_⟩;have af:=wU Y.lp;have ac:=uD d.length;have S:∀ m:Aa (Aa Int),m.Nodup->(∀ x∈m,x∈eH d.length)->m.length<=64:=λm h1 h2=>by
  have:=Cg h1 h2;omega
 refine lM (λF=>F=F9 C d t O M [] .n .n) (λN r=>r _ rfl) ?_;rintro _ rfl;refine lM (λF=>∃ m R z,m.Nodup/\(∀ x,x∈m↔x∈rN C d O M)/\F=F9 C d t O M m R z) (λN r=>?_) ?_
 .refine qR (O.map mC) _ (λΨ h=>h) (λi F=>∃ m R z,m.Nodup/\(∀ x,x∈m↔x∈rN C d (O.take i) M)/\F=F9 C d t O M m R z) ⟨[],.n,.n,fQ,λx=>by simp[rN],rfl⟩ ?_ ?_
  .rintro i x F L ⟨m,R,z,B,y,rfl⟩;obtain⟨c,V,rfl⟩:=vX L;have cm:=I c (aQ V);refine qR (M.map mC) _ (λΨ h=>h) (λj F=>∃ m z,m.Nodup/\(∀ x,x∈m↔x∈rN C d (O.take i) M\/∃ l∈M.take j,oF C d c l=x)/\F=F9 C d t O M m (.v (mC c)) z) ⟨m,z,B,λx=>by rw[y];simp,rfl⟩ ?_ ?_
   .rintro j x F L ⟨m,z,B,y,rfl⟩;obtain⟨l,W,rfl⟩:=vX L;have lm:=Z l (aQ W);have all:∀ x∈m,x∈eH d.length:=λx L=>by
     rcases (y x).mp L with h | ⟨G,u,rfl⟩
     .obtain⟨p,Q,G,u,rfl⟩:=sD.mp h;exact Be Y (I p (gS Q)) (Z G u)
     .exact Be Y cm (Z G (gS u))
    have X:=S m B all;refine⟨rfl,rfl,_,Ff (wE C d t) cm,_,Ff (yR C d t c) lm,_,rfl,.T ((if oF C d c l∈m then m else m++[oF C d c l]).map λk=>(k.map (Sum.inl:Int->eF),D.b true)),?_,?_⟩
    .show (if _<100000 then (sF ((oF C d c l).map D.int)).map _ else none)=_;rw[aO (by rw[aA];omega),B3,gO,G8]
    .refine⟨_,.v (mC l),?_,λx=>?_,rfl⟩
     .by_cases h:oF C d c l∈m
      .rw[aO h];exact B
      .rw[aJ h];exact bK.mpr ⟨B,by simp,λa ha b hb e=>h (by rw[bF.mp hb] at e;exact e▸ha)⟩
     .have L:x∈(if oF C d c l∈m then m else m++[oF C d c l])↔x∈m\/oF C d c l=x:=by
       by_cases h:oF C d c l∈m
       .rw[aO h];exact⟨.inl,λq=>q.elim id λq=>q▸h⟩
       .rw[aJ h,bE,bF];exact or_congr_right eq_comm
      rw[L,y,cA,W,or_assoc];refine or_congr_right ⟨λq=>?_,λ⟨G,u,q⟩=>?_⟩
      .rcases q with⟨G,u,q⟩ | q
       .exact⟨G,bE.mpr (.inl u),q⟩
       .exact⟨l,by simp,q⟩
      .rcases bE.mp u with h | h
       .exact .inl ⟨G,h,q⟩
       .have:G=l:=by simpa using h
        exact .inr (this▸q)
   .rintro F ⟨m,z,B,y,rfl⟩;rw[aA,eG] at y;refine⟨m,_,z,B,λx=>?_,rfl⟩;rw[y,cA,V];unfold rN;simp
  .rintro F ⟨m,R,z,B,y,rfl⟩;rw[aA,eG] at y;exact r _ ⟨m,R,z,B,y,rfl⟩
 rintro _ ⟨m,R,z,B,y,rfl⟩;have all:∀ x∈m,x∈eH d.length:=λx L=>by
  obtain⟨p,Q,G,u,rfl⟩:=sD.mp ((y x).mp L);exact Be Y (I p Q) (Z G u)
 have X:=S m B all;refine⟨rfl,?_⟩;show _/\Φ (.o (.l (Bl _)));rw[Lv];exact⟨by rw[aA];omega,J m B y ⟨X,all⟩⟩
theorem Mz (l:Aa (Aa Int)) (g:Aa (Aa (Aa Int))) (o:Aa (Aa Int)):tS C j l (g++[o])=rN C j (tS C j l g) o:=by
 unfold tS;rw[jN];rfl
theorem V7 (h:∀ x,x∈as↔x∈bs) (x:Aa Int):x∈rN C g as j↔x∈rN C g bs j:=by
 rw[sD,sD];exact exists_congr λc=>and_congr_left λ_=>h c
theorem FY {as bs:Aa (Aa Int)}(h:∀ x,x∈as↔x∈bs) (f:Aa Int->Bool):as.any f=bs.any f:=by
 rw[iE,cN,cN];exact exists_congr λc=>and_congr_left λ_=>h c
abbrev J1 (C:Cel) (j:Aa (Af×Af)) (t:mO) (e:Aa Int) (g:Aa (Aa (Aa Int))) (p:Aa (Aa Int)) (r:Sl):Aa Sl:=[.v (pZ C j t),.v (mC e),.v (.l (g.map lB)),.o (lB p),r]
theorem LO (T:Txt o) (j:Kn P w K o base 1 "carried_on" Bp ["table","states","choices"] Dr) (g:Kn P w K o base 2 "is_broken_by" Ci ["table","states","choices"] Km):nY P w K o base 3 "can_break" Bi ["table","edges","choices"] Hl:=by
 refine oE Cw λf R A F s H E dk ds Φ O Q W=>?_
 obtain⟨C,b,t,e,a,rfl,V,Y,k,S,L,m⟩:=W;refine⟨_,(hO (mH 3 Cw.nd (qF (dK (dT 1) gD))) (hO (qW (Fl (by rfl) T.range (mR uJ uF (qA uQ uW T.len cU (dK (dT 2) gD)) lQ)) (lX 4 Cw.nd) (lZ (mH 3 Cw.nd (mF j O (dK (dT 0) (dK (dT 3) (dK (mQ Q 2 (dT 4)) gD))))))) (lZ (nK (mF g O (dK (dT 0) (dK (dT 3) (dK (mQ Q 2 (S3 lQ)) gD)))))))),?_⟩;refine lM (λu=>u=J1 C b t e a [e] .n) (λN D=>?_) ?_
 .exact⟨by show 1<=1000;decide,D _ rfl⟩
 rintro _ rfl;have M:=iS.mpr k;refine lM (λu=>∃ d q,(∀ x,x∈d↔x∈tS C b [e] a.dropLast)/\xT b d/\u=J1 C b t e a d q) (λN D=>?_) ?_
 .refine qR (oG 0 (a.length-1)) _ (λU h=>?_) (λi u=>∃ d q,(∀ x,x∈d↔x∈tS C b [e] (a.take i))/\xT b d/\u=J1 C b t e a d q) ⟨[e],.n,λx=>by simp[tS],⟨by show 1<=64;decide,λc X=>by rw[bF.mp X];exact Y⟩,rfl⟩ ?_ ?_
  .refine⟨rfl,_,rfl,?_⟩;have B:(((a.map lB).length:Nat):Int)=(a.length:Int):=by rw[aA]
   show -2 ^ 62<=(((a.map lB).length:Nat):Int)-1/\(((a.map lB).length:Nat):Int)-1<2 ^ 62/\U (oG 0 ((((a.map lB).length:Nat):Int)-1).toNat) _;rw[B,show ((a.length:Int)-1).toNat=a.length-1 by omega];exact⟨by omega,by omega,h⟩
  .rintro i x u r ⟨d,q,v,z,rfl⟩;obtain⟨hi,rfl⟩:=zS r;have y:i<a.length:=by omega
   have ci:a[i]?=some a[i]:=aD y;refine⟨rfl,lB a[i],?_,C,b,t,d,a[i],rfl,V,z,L _ (bR y),λJ nd Z p=>⟨.inl rfl,J,_,λx=>?_,p,rfl⟩⟩
   .have B:(0:Int)+(i:Int)=((i:Nat):Int):=by omega
    show nM (a.map lB) (0+(i:Int))=_;rw[B];exact sC (by rw[bD,ci];rfl)
   .rw[Z,V7 v,cA,ci];show _↔x∈tS C b [e] (a.take i++[a[i]]);rw[Mz]
  .rintro u ⟨d,q,v,z,rfl⟩;have I:(oG 0 (a.length-1)).length=a.length-1:=by unfold oG;simp
   rw[I,<- List.dropLast_eq_take] at v;exact D _ ⟨d,q,v,z,rfl⟩
 rintro _ ⟨d,q,v,z,rfl⟩;obtain⟨G,l,rfl⟩:∃ G l,a=G++[l]:=⟨a.dropLast,a.getLast k,(iG k).symm⟩;refine⟨rfl,lB l,?_,C,b,t,d,l,rfl,z,L l (by simp),.inl rfl,?_⟩
 .show nM ((G++[l]).map lB) (-1)=_;rw[aZ];exact IL _ _
 .rw[FY v];unfold nX at m;rw[List.getLastD_concat] at m;exact m
theorem L3:(["worth","left","at"]:Aa Af).Nodup:=by decide +kernel
theorem Xb:FnScope ["choices","at"] ["choices","at"] (mA E6):=nZ
theorem LJ (T:Txt o) (g:Kn P w K o base 1 "place_worths" Cz ["count"] K9):nY P w K o base 2 "word_told" E6 ["choices","at"] Rh:=by
 refine oE Xb λf x A c s H E R S W O u L=>?_
 obtain⟨a,i,rfl,G,M,b⟩:=L;refine⟨_,(lZ (nK (qA (F7 rfl) I0 T.sum iI (dK (oK ["worth","left"] ["at"] [1] (Sj (by rfl) T.zip (dK (mF g O (dK (qA uQ uW T.len cU (dK (dT 0) gD)) gD)) (dK (dT 0) gD))) (λ_ _ _ _ _=>(vJ (n:=2) rfl (oA (lX 0 L3) (oA (lX 1 L3) sP)))) (λ_ _ _ _ _=>(sL xZ yA 0 (oJ u (mQ u 1 lQ) (dT 2))))) gD)))),?_⟩;unfold rA dC aC;refine pH ((List.range a.length).zip a) (λp=>D.t [.int (2 ^ p.1),lB p.2]) (λp=>D.int (2 ^ p.1*(p.2.headD []).getD i 0)) [.v (.l (a.map lB)),.v (.int i)] (λX h=>?_) (by rw[eP,bU];omega) (λj p V Q e F m=>?_) ?_
 .refine⟨rfl,_,rfl,a.length,by rw[aA],by omega,.inl rfl,_,_,_,_,rfl,rfl,?_⟩;rw[Gs];exact h
 .have N:=fE (aQ e);obtain⟨l,r,d,k,y⟩:=M p.2 N.2;have z:(p.2.headD []).getD i 0=l.getD i 0:=by rw[d];rfl
  have B:(l.map D.int)[i]?=some (D.int (l.getD i 0)):=by
   rw[bD,aD k,bC,aD k];rfl
  refine⟨rfl,rfl,rfl,rfl,mC l,?_,D.int (l.getD i 0),sC B,?_⟩
  .show nM (p.2.map mC) 0=_;rw[d];exact sC (j:=0) rfl
  .rw[z] at m;exact⟨.inr (by rcases y with q | q<;>rw[q]<;>exact⟨by omega,by omega⟩),F,m⟩
 .refine⟨((List.range a.length).zip a).map λp:Nat×Aa (Aa Int)=>2 ^ p.1*(p.2.headD []).getD i 0,?_,b⟩;rw[<- Im,aK];rfl
end
def tU (C:Cel) (l:Aa (Af×Af)) (t:mO) (e:Aa Int) (i:Nat) (g:Aa (Aa (Aa Int))) (st:Aa (Aa (Aa Int))) (j:Nat):Aa (Aa (Aa Int)) :=
 if nX C l t e (st.set j (qD i 0 (g.getD j [])))=true then st.set j (qD i 0 (g.getD j [])) else st.set j (qD i 1 (g.getD j []))
def oC (C:Cel) (j:Aa (Af×Af)) (t:mO) (e:Aa Int) (i:Nat) (g:Aa (Aa (Aa Int))):Nat->Aa (Aa (Aa Int))
 | 0=>g
 | n+1=>tU C j t e i g (oC C j t e i g n) (g.length-1-n)
def wD (C:Cel) (j:Aa (Af×Af)) (t:mO) (e:Aa Int) (g:Aa (Aa (Aa Int))) (i:Nat):Aa (Aa (Aa Int)):=oC C j t e i g g.length
theorem CM {st:Aa (Aa (Aa Int))}:(tU C l t e i g st j).length=st.length:=by
 unfold tU;split<;>rw[bL]
theorem Hc:∀ n,(oC C j t e i g n).length=g.length
 | 0=>rfl
 | n+1=>by unfold oC;rw[CM,Hc n]
theorem Uu (h:l∈qD i b g):l∈g:=(bV.mp h).1
theorem A8 (h:pK C g j):pK C g (qD i b j):=⟨bP (dH ..) h.1,λl a=>h.2 l (Uu a)⟩
theorem By {st:Aa (Aa (Aa Int))}(h:∀ x∈st,pK C g x) (l:pK C g o):∀ x∈st.set j o,pK C g x:=λx a=>by
 rcases List.mem_or_eq_of_mem_set a with q | q
 .exact h x q
 .rw[q];exact l
theorem Np {C:Cel}{o:Aa (Af×Af)}{g:Aa (Aa (Aa Int))}(h:∀ x∈g,pK C o x) (j:Nat):pK C o (g.getD j []):=by
 rw[bC];cases e:g[j]? with
 | none=>exact⟨by show 0<=64;decide,λl a=>(aY a).elim⟩
 | some x=>exact h x (aQ e)
theorem Fj (h:∀ x∈j,pK C g x):∀ n,∀ x∈oC C g t e i j n,pK C g x
 | 0=>h
 | n+1=>by
  unfold oC tU;split
  .exact By (Fj h n) (A8 (Np h _))
  .exact By (Fj h n) (A8 (Np h _))
def Rx:RD:=λh c f=>∃ (C:Cel) (a:Aa (Af×Af)) (t:mO) (e:Aa Int) (b:Aa (Aa (Aa Int))) (i:Nat),c=[pZ C a t,mC e,.l (b.map lB),.int i]/\RwOk C a/\e∈eH a.length/\b≠[]/\b.length<=64/\(∀ d∈b,pK C a d)/\i<(wIns C a).length/\f (.v (.l ((wD C a t e b i).map lB)))
abbrev zN (C:Cel) (j:Aa (Af×Af)) (t:mO) (e:Aa Int) (g:Aa (Aa (Aa Int))) (i:Nat) (st:Aa (Aa (Aa Int))) (p:Sl):Aa Sl:=[.v (pZ C j t),.v (mC e),.v (.l (g.map lB)),.v (.int i),.o (.l (st.map lB)),p]
section
variable {P:Ah}{K:lK}
theorem Ju:FnScope ["table","edges","choices","at","settled","place"] ["table","edges","choices","at"] (mA Gi):=nZ
theorem JB {st:Aa (Aa (Aa Int))}(h:j<st.length) (g:Aa (Aa Int)):tV (.l (st.map lB)) (.int (j:Int)) (lB g)=some (.l ((st.set j g).map lB)):=by
 show (rQ (st.map lB).length (j:Int)).map _=_;have e:rQ (st.map lB).length (j:Int)=some j:=by
  unfold rQ;rw[aO (by omega),aA,cR,aO (by omega)]
 rw[e,gO,List.map_set]
theorem DH (T:Txt p) (g:Kn P w K p base 1 "with_bit" Ej ["choices","at","bit"] Jo) (o:Kn P w K p base 3 "can_break" Bi ["table","edges","choices"] Hl):nY P w K p base 4 "with_least_word" Gi ["table","edges","choices","at"] Rx:=by
 refine oE Ju λf aa A Z s H E dk ds Φ X L hR=>?_
 obtain⟨C,c,t,e,a,i,rfl,hC,he,W,R,G,hi,Y⟩:=hR;refine⟨_,(hO (mH 4 Ju.nd (pD Mv Qg T.list gC (dK (dT 2) gD))) (hO (qW (Vy (by rfl) T.reversed (by rfl) T.range (qA uQ uW T.len cU (dK (dT 2) gD))) (lX 5 Ju.nd) (hO (vA (n:=4) L (mF g X (dK (mQ L 2 (dT 5)) (dK (dT 3) (dK lQ gD)))) (pv 4) (dT 5)) (lZ (uP (IB (E8 (mF o X (dK (dT 0) (dK (dT 1) (zY (pv 4) gD)))))) (lZ (vA (n:=4) L (mF g X (dK (mQ L 2 (dT 5)) (dK (dT 3) (dK lQ gD)))) (pv 4) (dT 5))) wY)))) (lZ (nK (dT 4))))),?_⟩;have lb:∀ (j:Nat) (F:j<a.length) (l),l∈a[j]->i<l.length:=λj F l hm=>by
  have:=(G _ (bR F)).2 l hm;rw[(pP this).1];exact hi
 refine lM (λu=>u=zN C c t e a i a .n) (λN S=>?_) ?_
 .exact⟨_,rfl,S _ rfl⟩
 rintro _ rfl;refine lM (λu=>∃ y,u=zN C c t e a i (wD C c t e a i) y) (λN S=>?_) ?_
 .refine qR (tM ((a.length:Int)-1) (-1) a.length) _ (λΨ h=>?_) (λn u=>∃ y,u=zN C c t e a i (oC C c t e i a n) y) ⟨.n,rfl⟩ ?_ ?_
  .have e0:(((a.map lB).length:Nat):Int)=(a.length:Int):=by rw[aA]
   show _/\_;refine⟨rfl,_,rfl,?_⟩;show (0<=(((a.map lB).length:Nat):Int)/\(((a.map lB).length:Nat):Int)<=100000)/\Ψ (tM ((((a.map lB).length:Nat):Int)-1) (-1) (((a.map lB).length:Nat):Int).toNat) _;rw[e0,cR];exact⟨⟨by omega,by omega⟩,h⟩
  .rintro n x u B ⟨y,rfl⟩;obtain⟨hn,rfl⟩:n<a.length/\x = .int ((a.length-1-n:Nat):Int):=by
    unfold tM at B;rw[bD] at B;cases q:(List.range a.length)[n]? with
    | none=>rw[q] at B;cases B
    | some m =>
     rw[q] at B;obtain⟨J,U⟩:=aV.mp q;rw[jD] at U;rw[bU] at J;subst U;refine⟨J,?_⟩;rw[<- bZ B];show D.int _=D.int _
     congr 1
     omega
   obtain⟨j,F⟩:∃ j,j=a.length-1-n:=⟨_,rfl⟩;rw[<- F];have d:j<a.length:=by omega
   have I:a[j]?=some a[j]:=aD d;have cg:a.getD j []=a[j]:=by rw[bC,I];rfl
   have aj:nM (a.map lB) (j:Int)=some (lB a[j]):=sC (by rw[bD,I];rfl);obtain⟨st,k⟩:∃ st,st=oC C c t e i a n:=⟨_,rfl⟩;have M:st.length=a.length:=by rw[k];exact Hc n
   have next:oC C c t e i a (n+1)=tU C c t e i a st j:=by rw[k,F];rfl
   rw[next,<- k];have put:∀ (b:Int) (O:Aa (Aa (Aa Int))),O.length=a.length->∀ Q:DEnds,Q.nx (zN C c t e a i (O.set j (qD i b a[j])) (.v (.int j)))->Cd 4 (vd 5) (zD Jo (aC (tR wH 2 (vd 5)) (aC (vd 3) (aC (cd (.int b)) Bx)))) dk Q (zN C c t e a i O (.v (.int j))):=λb O hs Q hQ=>by
    refine⟨rfl,_,aj,a[j],i,b,rfl,(G _ (bR d)).1,lb j d,.inl rfl,rfl,?_⟩;exact⟨_,JB (by omega) _,hQ⟩
   refine lM (λu=>u=zN C c t e a i (st.set j (qD i 0 a[j])) (.v (.int j))) (λN' V=>?_) ?_
   .exact put 0 st M _ (V _ rfl)
   rintro _ rfl;have r:∀ x∈st,pK C c x:=by rw[k];exact Fj G n
   refine⟨rfl,C,c,t,e,st.set j (qD i 0 a[j]),rfl,hC,he,?_,by rw[bL,M];exact R,By r (A8 (G _ (bR d))),.inr rfl,rfl,_,rfl,?_⟩
   .intro z;have:=dD List.length z;rw[bL,M] at this;exact W (hV.mp this)
   .unfold tU;rw[cg];cases q:nX C c t e (st.set j (qD i 0 a[j])) with
    | true=>exact Iz rfl ⟨.v (.int j),by rw[aO rfl]⟩
    | false =>
     refine (aO rfl).mpr ?_;refine put 1 _ (by rw[bL,M]) _ ⟨.v (.int j),?_⟩;rw[List.set_set,aJ aT]
  .rintro u ⟨y,rfl⟩;have hz:(tM ((a.length:Int)-1) (-1) a.length).length=a.length:=by unfold tM;simp
   rw[hz];exact S _ ⟨y,rfl⟩
 rintro _ ⟨y,rfl⟩;exact Y
end
def oV:Aa (Aa Int)->Aa (Aa (Aa Int))->Prop
 | [],[]=>True
 | l::c,b::a=>l∈b/\oV c a
 | _,_=>False
theorem Fg:∀ {j:Aa (Aa (Aa Int))}{p:Aa (Aa Int)},x∈tS C o p j↔∃ c∈p,∃ g,oV g j/\g.foldl (oF C o) c=x
 | [],p=>⟨λh=>⟨x,h,[],trivial,rfl⟩,λf=>by
   obtain⟨c,b,g,a,e⟩:=f;cases g with
   | nil=>exact e▸b
   | cons _ _=>exact a.elim⟩
 | k::j,p=>by
  show x∈tS C o (rN C o p k) j↔_;rw[Fg];constructor
  .rintro ⟨m,d,g,a,e⟩;obtain⟨c,b,l,i,rfl⟩:=sD.mp d;exact⟨c,b,l::g,⟨i,a⟩,e⟩
  .rintro ⟨c,b,g,a,e⟩;cases g with
   | nil=>exact a.elim
   | cons l g=>exact⟨oF C o c l,sD.mpr ⟨c,b,l,a.1,rfl⟩,g,a.2,e⟩
theorem oV.snoc:∀ {o:Aa (Aa Int)}{g:Aa (Aa (Aa Int))}{l:Aa Int}{j:Aa (Aa Int)},oV (o++[l]) (g++[j])↔oV o g/\l∈j
 | [],[],l,j=>⟨λh=>⟨trivial,h.1⟩,λh=>⟨h.2,trivial⟩⟩
 | [],x::g,l,j=>⟨λh=>by
   have h:=h.2;cases g with
   | nil=>exact h.elim
   | cons _ _=>exact h.elim,λh=>h.1.elim⟩
 | w::o,[],l,j=>⟨λh=>by
   have h:=h.2;cases o with
   | nil=>exact h.elim
   | cons _ _=>exact h.elim,λh=>h.1.elim⟩
 | w::o,x::g,l,j=>by
  show w∈x/\oV (o++[l]) (g++[j])↔(w∈x/\oV o g)/\l∈j;rw[oV.snoc,and_assoc]
theorem oV.len:∀ {j:Aa (Aa Int)}{g:Aa (Aa (Aa Int))},oV j g->j.length=g.length
 | [],[],_=>rfl
 | [],_::_,h=>h.elim
 | _::_,[],h=>h.elim
 | w::j,x::g,h=>by rw[bJ,bJ,oV.len h.2]
theorem oV.at:∀ {p:Aa (Aa Int)}{g:Aa (Aa (Aa Int))},oV p g->∀ {j:Nat}{o},g[j]?=some o->∃ l,p[j]?=some l/\l∈o
 | [],[],_,j,o,e=>by simp at e
 | [],_::_,h,_,_,_=>h.elim
 | _::_,[],h,_,_,_=>h.elim
 | w::p,x::g,h,0,o,e=>by cases e;exact⟨w,rfl,h.1⟩
 | w::p,x::g,h,j+1,o,e=>by
  obtain⟨l,a,b⟩:=h.2.at (j:=j) (by simpa using e);exact⟨l,by simpa using a,b⟩
theorem oV.set:∀ {o:Aa (Aa Int)}{g:Aa (Aa (Aa Int))}{j:Nat}{p:Aa (Aa Int)},oV o g->(∀ l,o[j]?=some l->l∈p)->oV o (g.set j p)
 | [],[],_,_,_,_=>trivial
 | [],_::_,_,_,h,_=>h.elim
 | _::_,[],_,_,h,_=>h.elim
 | w::o,x::g,0,p,h,a=>⟨a w rfl,h.2⟩
 | w::o,x::g,j+1,p,h,a=>⟨h.1,h.2.set λl e=>a l (by simpa using e)⟩
def HC (C:Cel) (g:Aa (Af×Af)) (t:mO) (e:Aa Int) (j:Aa (Aa Int)):Prop:=∃ a l,j=a++[l]/\Ax C g t (a.foldl (oF C g) e) l≠0
theorem Bt:nX C o t e g=true↔∃ j,oV j g/\HC C o t e j:=by
 unfold nX;rw[cN];by_cases d:g=[]
 .subst d;constructor
  .rintro ⟨x,_,h⟩;cases h
  .rintro ⟨j,a,b,l,rfl,_⟩;cases b with
   | nil=>exact a.elim
   | cons _ _=>exact a.elim
 .obtain⟨i,u,rfl⟩:∃ i l,g=i++[l]:=⟨g.dropLast,g.getLast d,(iG d).symm⟩;rw[List.dropLast_concat,List.getLastD_concat];constructor
  .rintro ⟨x,s,h⟩;obtain⟨c,f,b,a,rfl⟩:=Fg.mp s;rw[bF] at f;subst f;obtain⟨l,n,q⟩:=cN.mp h;refine⟨b++[l],oV.snoc.mpr ⟨a,n⟩,b,l,rfl,λz=>?_⟩;rw[bQ z] at q;cases q
  .rintro ⟨j,a,b,l,rfl,h⟩;obtain⟨k,m⟩:=oV.snoc.mp a;refine⟨_,Fg.mpr ⟨e,bF.mpr rfl,b,k,rfl⟩,cN.mpr ⟨l,m,?_⟩⟩;rw[bM h];rfl
theorem IK (h:nX C p t e g=true):∀ o∈g,o≠[]:=λo c z=>by
 obtain⟨f,d,_⟩:=Bt.mp h;obtain⟨j,b,e⟩:=cW c;obtain⟨l,_,a⟩:=d.at (j:=j) (aV.mpr ⟨b,e⟩);rw[z] at a;exact aY a
theorem Qk (r:∀ I∈g,pK C o I) (p:i<(wIns C o).length) (h:nX C o t e g=true):∀ n,n<=g.length->nX C o t e (oC C o t e i g n)=true/\∀ j,j<g.length-n->(oC C o t e i g n)[j]?=g[j]?
 | 0,_=>⟨h,λ_ _=>rfl⟩
 | n+1,K=>by
  obtain⟨y,d⟩:=Qk r p h n (by omega);obtain⟨j,B⟩:∃ j,j=g.length-1-n:=⟨_,rfl⟩;have a:j<g.length:=by omega
  have f:g[j]?=some g[j]:=aD a;have v:g.getD j []=g[j]:=by rw[bC,f];rfl
  have G:(oC C o t e i g n)[j]?=some g[j]:=(d j (by omega)).trans f;obtain⟨H,u,A⟩:=Bt.mp y;obtain⟨l,w,s⟩:=u.at G;have c:l.getD i 0=0\/l.getD i 0=1:=by
   obtain⟨E,F⟩:=pP ((r _ (bR a)).2 l s);have:i<l.length:=by rw[E];exact p
   rw[bC,aD this];exact F _ (bR this)
  have go:∀ b,l.getD i 0=b->nX C o t e ((oC C o t e i g n).set j (qD i b g[j]))=true:=λb q=>Bt.mpr ⟨H,u.set λL m=>by
   rw[w] at m;cases m;exact bV.mpr ⟨s,bQ q⟩,A⟩
  have x:oC C o t e i g (n+1)=tU C o t e i g (oC C o t e i g n) j:=by rw[B];rfl
  rw[x];unfold tU;rw[v];by_cases q:nX C o t e ((oC C o t e i g n).set j (qD i 0 g[j]))=true
  .rw[aO q];exact⟨q,λk D=>by rw[cQ (by omega)];exact d k (by omega)⟩
  .rw[aJ q];refine⟨go 1 (c.resolve_left λz=>q (go 0 z)),λk D=>by rw[cQ (by omega)];exact d k (by omega)⟩
theorem AN (o:∀ p∈j,pK C g p) (l:i<(wIns C g).length) (h:nX C g t e j=true):nX C g t e (wD C g t e j i)=true:=(Qk o l h _ (aP _)).1
def pY (f:Nat->Int):Nat->Aa Af->mO
 | _,[]=>[]
 | k,x::r=>(x,f k)::pY f (k+1) r
theorem J9 (f:Nat->Int):∀ (g:Aa Af) (k:Nat),(pY f k g).map (·.1)=g
 | [],_=>rfl
 | x::r,k=>by unfold pY;rw[List.map_cons,J9 f r]
theorem N2 (f:Nat->Int):∀ (g:Aa Af) (k:Nat) (x:Af),pY f k (g++[x])=pY f k g++[(x,f (k+g.length))]
 | [],k,x=>rfl
 | y::r,k,x=>by
  show (y,f k)::pY f (k+1) (r++[x])=(y,f k)::(pY f (k+1) r++[_]);rw[N2 f r,bJ,Nat.add_assoc,Nat.add_comm 1]
theorem Z6 (h:x∉t.map (·.1)) (g:t.length<100000):tV (.k (hG t)) (.str x) (.int n)=some (.k (hG (t++[(x,n)]))):=by
 have a:(hG t).length<100000:=by unfold hG;rw[List.length_map];exact g
 simp only[tV,aO a];show some (D.k (mP (hG t) (Sum.inr x) (.int n)))=_;rw[G7 (by
  unfold hG;rw[aK];intro z;obtain⟨p,b,e⟩:=aH.mp z;exact h (aH.mpr ⟨p,b,gQ e⟩))]
 unfold hG;rw[aZ];rfl
def pB (C:Cel) (g:Aa (Af×Af)) (t:mO) (e:Aa Int) (W:Nat):Nat->Aa (Aa (Aa Int))
 | 0=>List.replicate W (eH (wIns C g).length)
 | i+1=>wD C g t e (pB C g t e W i) i
def Bq (C:Cel) (g:Aa (Af×Af)) (t:mO) (e:Aa Int) (W:Nat):mO:=pY (λi=>sH i (pB C g t e W (i+1))) 0 (wIns C g)
def Ol (C:Cel) (g:Aa (Af×Af)) (t:mO) (e:Aa Int) (W:Nat):D:=.t [.str "broken",.int W,.k (hG (Bq C g t e W)),.k (hG ((g.map (·.2)).zip e))]
theorem CP:(wD C j t e g i).length=g.length:=Hc _
theorem Nh (j:RwOk C g){W:Nat}(h:nX C g t e (List.replicate W (eH (wIns C g).length))=true):∀ i,i<=(wIns C g).length->(pB C g t e W i).length=W/\(∀ l∈pB C g t e W i,pK C g l)/\nX C g t e (pB C g t e W i)=true
 | 0,_=>⟨cO,λl k=>by
   rw[(gG.mp k).2];have n:(wIns C g).length<=C.ins.length:=dH _ _;have:=j.li;have d:=wU (show (wIns C g).length<=6 by omega);have f:=uD (wIns C g).length;exact⟨by omega,λ_ h=>h⟩,h⟩
 | i+1,m=>by
  obtain⟨b,a,c⟩:=Nh j h i (by omega);exact⟨by unfold pB;rw[CP,b],Fj a _,AN a (by omega) c⟩
def Px:RD:=λd b c=>∃ (C:Cel) (a:Aa (Af×Af)) (t:mO) (st:Aa (Aa Int)) (W:Nat),b=[mS C a,pZ C a t,lB st,.int W]/\RwOk C a/\xT a st/\1<=W/\W<=64/\∃ e r,st.filter (λs=>nX C a t s (List.replicate W (eH (wIns C a).length)))=e::r/\c (.v (Ol C a t e W))
abbrev vM (C:Cel) (g:Aa (Af×Af)) (t:mO) (st:Aa (Aa Int)) (W:Nat) (j l o p r I:Sl):Aa Sl:=[.v (mS C g),.v (pZ C g t),.v (lB st),.v (.int W),j,l,o,p,r,I]
section
variable {P:Ah}{K:lK}
theorem Wl:(["bits","table","choices"]:Aa Af).Nodup:=by decide +kernel
theorem wI:FnScope ["row","table","starts","width","inputs","choices","edges","words","at","name"] ["row","table","starts","width"] (mA Ez):=nZ
theorem HD (T:Txt mg) (J:Kn P w K mg base 2 "word_inputs" yP ["row"] Bg) (ab:Kn P w K mg base 1 "all_bits" xL ["count"] Au) (U:Kn P w K mg base 3 "can_break" Bi ["table","edges","choices"] Hl) (g:Kn P w K mg base 4 "with_least_word" Gi ["table","edges","choices","at"] Rx) (aa:Kn P w K mg base 2 "word_told" E6 ["choices","at"] Rh) (I:Kn P w K mg base 1 "carried_inputs" yU ["row"] Ce):nY P w K mg base 5 "broken" Ez ["row","table","starts","width"] Px:=by
 refine oE wI λf af A ae s H E dk ds Φ M hu m=>?_
 obtain⟨C,b,t,st,W,rfl,B,⟨ag,hs⟩,w1,y,e,r,hf,ac⟩:=m;refine⟨_,(hO (mH 4 wI.nd (mF J M (dK (dT 0) gD))) (hO (mH 5 wI.nd (mR xZ yA (qF (dK (mF ab M (dK (qA uQ uW T.len cU (dK (dT 4) gD)) gD)) gD)) (dT 3))) (hO (mH 6 wI.nd (oJ hu (oK (ht:=λ_ _ _ _ _=>(yV (E8 (mF U M (dK (dT 1) (dK (dT 0) (zY (pv 2) gD))))))) ["bits"] ["table","choices"] [1,5] (nL (dT 2)) (λ_ _ _ _ _=>(lX 0 Wl)) (λ_ _ _ _ _=>(dT 0))) lQ)) (hO (mH 7 wI.nd KH) (hO (qW (Wf (by rfl) T.enumerate (dT 4)) (vJ (n:=2) rfl (oA (lX 8 wI.nd) (oA (lX 9 wI.nd) sP))) (hO (mH 5 wI.nd (mF g M (dK (dT 1) (dK (dT 6) (dK (dT 5) (dK (dT 8) gD)))))) (lZ (vA (n:=7) hu (mF aa M (dK (dT 5) (dK (dT 8) gD))) (pv 7) (dT 9))))) (lZ (nK (qO (dK mB (dK (dT 3) (dK (dT 7) (dK (Gk rfl (by rfl) T.dict (by rfl) T.zip (dK (mF I M (dK (dT 0) gD)) (dK (dT 6) gD))) gD)))))))))))),?_⟩;have l1:(wIns C b).length<=C.ins.length:=dH _ _;have li:=B.li;have lp:=B.lp;have em:e∈st/\nX C b t e (List.replicate W (eH (wIns C b).length))=true:=by
  have:e∈st.filter (λs=>nX C b t s (List.replicate W (eH (wIns C b).length))):=by rw[hf];exact aF
  exact bV.mp this
 have ee:=hs e em.1;have ch:=Nh B em.2;obtain⟨R,m⟩:∃ R,R=List.replicate W (eH (wIns C b).length):=⟨_,rfl⟩;have r0:=ch 0 (by omega);refine lM (λc=>c=vM C b t st W (.o (.l ((wIns C b).map D.str))) .n .n .n .n .n) (λN d=>?_) ?_
 .exact⟨C,b,rfl,by omega,by omega,.inl rfl,d _ rfl⟩
 rintro _ rfl;refine lM (λc=>c=vM C b t st W (.v (.l ((wIns C b).map D.str))) (.o (.l (R.map lB))) .n .n .n .n) (λN d=>?_) ?_
 .refine⟨rfl,_,rfl,(wIns C b).length,by rw[aA],by omega,.inl rfl,by show 1<=1000;decide,?_⟩;refine⟨by omega,by omega,by show 1<=100;decide,?_⟩;have e0:(List.replicate ((W:Int)).toNat [lB (eH (wIns C b).length)]).flatten=R.map lB:=by
   rw[cR,m,List.map_replicate,List.flatten_replicate_singleton]
  show N (vM C b t st W (.v (.l ((wIns C b).map D.str))) (.o (.l (List.replicate ((W:Int)).toNat [lB (eH (wIns C b).length)]).flatten)) .n .n .n .n);rw[e0];exact d _ rfl
 rintro _ rfl;refine lM (λc=>c=vM C b t st W (.v (.l ((wIns C b).map D.str))) (.o (.l (R.map lB))) (.v (mC e)) .n .n .n) (λN d=>?_) ?_
 .unfold qU d2;refine wW st mC mC (λs=>nX C b t s R) (vM C b t st W (.v (.l ((wIns C b).map D.str))) (.o (.l (R.map lB))) .n .n .n .n) (λΨ h=>h) (by omega) (λj x ys Nx X h1 h2 h3=>?_) ?_
  .have xm:=hs x (aQ X);refine⟨rfl,C,b,t,x,R,rfl,B,xm,?_,by rw[m,cO];exact y,by rw[m];exact r0.2.1,.inr rfl,?_⟩
   .rw[m];intro z;have:=dD List.length z;rw[cO] at this;simp at this;omega
   .cases q:nX C b t x R with
    | true=>exact⟨rfl,true,rfl,(aO rfl).mpr ⟨h1,h2 q⟩⟩
    | false=>exact⟨rfl,false,rfl,(aJ aT).mpr (h3 q)⟩
  .rw[m,hf];refine⟨mC e,sC (j:=0) rfl,?_⟩;rw[<- m];exact d _ rfl
 rintro _ rfl;refine lM (λc=>c=vM C b t st W (.v (.l ((wIns C b).map D.str))) (.o (.l (R.map lB))) (.v (mC e)) (.o (.k (hG []))) .n .n) (λN d=>d _ rfl) ?_;rintro _ rfl;refine lM (λc=>∃ u G L,c=vM C b t st W (.v (.l ((wIns C b).map D.str))) u (.v (mC e)) (.o (.k (hG (Bq C b t e W)))) G L) (λN d=>?_) ?_
 .refine qR (yN ((wIns C b).map D.str)) _ (λΨ h=>h) (λj c=>∃ u G L,(u = .o (.l ((pB C b t e W j).map lB))\/u = .v (.l ((pB C b t e W j).map lB)))/\c=vM C b t st W (.v (.l ((wIns C b).map D.str))) u (.v (mC e)) (.o (.k (hG (pY (λi=>sH i (pB C b t e W (i+1))) 0 ((wIns C b).take j))))) G L) ⟨_,.n,.n,.inl rfl,by rw[m];rfl⟩ ?_ ?_
  .rintro j x c X ⟨u,G,L,h5,rfl⟩;have Z:j<(wIns C b).length:=by
    have:=(aV.mp X).1
    rwa [Dm,aA] at this
   have hy:(wIns C b)[j]?=some (wIns C b)[j]:=aD Z;have hd:((wIns C b).map D.str)[j]?=some (.str (wIns C b)[j]):=by rw[bD,hy];rfl
   rw[Ul hd] at X;cases X;obtain⟨Y,c2,c3⟩:=ch j (by omega);obtain⟨d1,d2,d3⟩:=ch (j+1) (by omega);refine⟨rfl,rfl,?_⟩;refine lM (λc=>c=vM C b t st W (.v (.l ((wIns C b).map D.str))) (.v (.l ((pB C b t e W (j+1)).map lB))) (.v (mC e)) (.o (.k (hG (pY (λi=>sH i (pB C b t e W (i+1))) 0 ((wIns C b).take j))))) (.v (.int j)) (.v (.str (wIns C b)[j]))) (λN' O=>?_) ?_
   .have ne:pB C b t e W j≠[]:=λz=>by
     rw[z] at Y;simp at Y;omega
    rcases h5 with rfl | rfl
    .exact⟨C,b,t,e,pB C b t e W j,j,rfl,B,ee,ne,by rw[Y];exact y,c2,Z,.inl rfl,O _ rfl⟩
    .exact⟨C,b,t,e,pB C b t e W j,j,rfl,B,ee,ne,by rw[Y];exact y,c2,Z,.inl rfl,O _ rfl⟩
   rintro _ rfl;have ev:pY (λi=>sH i (pB C b t e W (i+1))) 0 ((wIns C b).take (j+1))=pY (λi=>sH i (pB C b t e W (i+1))) 0 ((wIns C b).take j)++[((wIns C b)[j],sH j (pB C b t e W (j+1)))]:=by
    rw[cA,hy];show pY _ 0 (_++[_])=_;rw[N2,bN,lF (by omega),kY]
   have V:(wIns C b)[j]∉(pY (λi=>sH i (pB C b t e W (i+1))) 0 ((wIns C b).take j)).map (·.1):=by
    rw[J9];intro z;obtain⟨a,ha,e'⟩:=cW z;rw[bN] at ha;rw[List.getElem_take] at e';have Q:a<(wIns C b).length:=by omega
    have e5:(wIns C b)[a]?=(wIns C b)[j]?:=by rw[aD Q,hy,e']
    have:=(kR Q ((bK.mp B.gc.nd).1.filter _)).mp e5;omega
   have S:(pY (λi=>sH i (pB C b t e W (i+1))) 0 ((wIns C b).take j)).length<100000:=by
    have:=dD List.length (J9 (λi=>sH i (pB C b t e W (i+1))) ((wIns C b).take j) 0);rw[aA,bN] at this;omega
   refine⟨pB C b t e W (j+1),j,rfl,by rw[d1];exact y,λls hl=>?_,.inl rfl,rfl,_,Z6 V S,?_⟩
   .cases ls with
    | nil=>exact absurd rfl (IK d3 [] hl)
    | cons l r =>
     obtain⟨q1,q2⟩:=pP ((d2 _ hl).2 l aF);have F:j<l.length:=by rw[q1];exact Z
     refine⟨l,r,rfl,F,?_⟩;rw[bC,aD F];exact q2 _ (bR F)
   .rw[ev];exact⟨_,.v (.int j),.v (.str (wIns C b)[j]),.inr rfl,rfl⟩
  .rintro c ⟨u,G,L,_,rfl⟩;rw[Dm,aA,eG];exact d _ ⟨u,G,L,rfl⟩
 rintro _ ⟨u,G,L,rfl⟩;have le:=(pP ee).1;refine⟨C,b,rfl,by omega,.inl rfl,false,true,_,_,(b.map (·.2)).map Sum.inr,rfl,rfl,?_,by rw[aA,aA];omega,?_⟩
 .have:(b.map λp=>D.str p.2)=(b.map (·.2)).map D.str:=by rw[aK];rfl
  rw[this];exact Cu _
 .have e3:((b.map (·.2)).map (Sum.inr:Af->eF)).zip (e.map D.int)=hG ((b.map (·.2)).zip e):=by
   unfold hG;rw[List.zip_map];rfl
  have kz:((b.map (·.2)).zip e).map (·.1)=b.map (·.2):=by rw[fL];rw[aA,le];exact aP _
  rw[e3,Aj (by rw[kz];exact B.n2)];exact⟨by show 4<=1000;decide,ac⟩
end
def lev (C:Cel) (g:Aa (Af×Af)) (st:Aa (Aa Int)) (n:Nat):Aa (Aa Int):=tS C g st (List.replicate n (eH (wIns C g).length))
def brkA (C:Cel) (g:Aa (Af×Af)) (t:mO) (c:Aa Int):Bool:=xB C g t (eH (wIns C g).length) c
theorem Cp {st:Aa (Aa Int)}:lev C g st (n+1)=rN C g (lev C g st n) (eH (wIns C g).length):=by
 unfold lev;rw[List.replicate_succ',Mz]
theorem E4 {st:Aa (Aa Int)}(h:c∈lev C g st n) (j:l∈eH (wIns C g).length):oF C g c l∈lev C g st (n+1):=by
 rw[Cp];exact sD.mpr ⟨c,h,l,j,rfl⟩
theorem xA (j:RwOk C g){st:Aa (Aa Int)}(o:∀ c∈st,c∈eH g.length):∀ {n:Nat}{c:Aa Int},c∈lev C g st n->c∈eH g.length
 | 0,c,h=>o c h
 | n+1,c,h=>by
  rw[Cp] at h;obtain⟨d,a,l,b,rfl⟩:=sD.mp h;exact Be j (xA j o a) b
theorem EK {st:Aa (Aa Int)}(h:(lev C g st n).any (brkA C g t)=true):∃ s∈st,nX C g t s (List.replicate (n+1) (eH (wIns C g).length))=true:=by
 obtain⟨x,i,b⟩:=cN.mp h;obtain⟨c,d,a,f,rfl⟩:=Fg.mp i;refine⟨c,d,Bt.mpr ?_⟩;obtain⟨l,e,q⟩:=cN.mp b;refine⟨a++[l],?_,a,l,rfl,λz=>?_⟩
 .rw[List.replicate_succ'];exact oV.snoc.mpr ⟨f,e⟩
 .rw[bQ z] at q;cases q
structure Jd (C:Cel) (prs:List (Str×Str)) (t:mO) (st:List (List Int)) (w:Nat) (ks fr:List (List Int)):Prop where
 nk:ks.Nodup
 nf:fr.Nodup
 kn:∀ x,x∈ks↔∃ n,n<w/\x∈lev C prs st n
 mf:∀ x∈fr,x∈lev C prs st w/\x∉ks
 al:∀ x∈lev C prs st w,x∈ks\/x∈fr
 nb:∀ n,n<w->(lev C prs st n).any (brkA C prs t)=false
 wl:w<=ks.length
theorem Jd.all {st:Aa (Aa Int)}(h:Jd C g t st w j []):∀ n,∀ x∈lev C g st n,x∈j
 | 0,x,a=>by
  rcases kM w with e | e
  .subst e;exact (h.al x a).resolve_right aY
  .exact (h.kn x).mpr ⟨0,e,a⟩
 | n+1,x,a=>by
  rw[Cp] at a;obtain⟨c,d,l,f,rfl⟩:=sD.mp a;obtain⟨m,i,b⟩:=(h.kn c).mp (h.all n c d);have:=E4 b f;rcases jQ (m+1) w with q | q
  .exact (h.kn _).mpr ⟨m+1,q,this⟩
  .have e:m+1=w:=by omega
   rw[e] at this;exact (h.al _ this).resolve_right aY
theorem Jd.none {st:Aa (Aa Int)}(h:Jd C g t st w j []) (n:Nat):(lev C g st n).any (brkA C g t)=false:=by
 rw[gW];intro x c;obtain⟨m,b,a⟩:=(h.kn x).mp (h.all n x c);exact (gW.mp (h.nb m b)) x a
theorem Jd.step {C:Cel}{g:Aa (Af×Af)}{t:mO}{st:Aa (Aa Int)}{w:Nat}{o j p:Aa (Aa Int)}(h:Jd C g t st w o j) (I:j.any (brkA C g t)=false) (J:j≠[]) (T:p.Nodup) (r:∀ x,x∈p↔x∈rN C g j (eH (wIns C g).length)):Jd C g t st (w+1) (o++j) (p.filter λx=>!decide (x∈o++j)):=by
 have mk:∀ x,x∈o++j↔∃ n,n<w+1/\x∈lev C g st n:=λx=>by
  rw[bE];constructor
  .rintro (q | q)
   .obtain⟨n,f,d⟩:=(h.kn x).mp q;exact⟨n,by omega,d⟩
   .exact⟨w,by omega,(h.mf x q).1⟩
  .rintro ⟨n,f,d⟩;rcases jQ n w with q | q
   .exact .inl ((h.kn x).mpr ⟨n,q,d⟩)
   .have e:n=w:=by omega
    subst e;exact h.al x d
 refine⟨bK.mpr ⟨h.nk,h.nf,λa v b s e=>(h.mf b s).2 (e▸v)⟩,T.filter _,mk,λx i=>?_,λx i=>?_,λn y=>?_,?_⟩
 .obtain⟨f,d⟩:=bV.mp i;obtain⟨c,u,l,k,rfl⟩:=sD.mp ((r x).mp f);refine⟨E4 (h.mf c u).1 k,λz=>?_⟩;rw[bQ z] at d;cases d
 .by_cases q:x∈o++j
  .exact .inl q
  .refine .inr (bV.mpr ⟨?_,by rw[bM q];rfl⟩);rw[Cp] at i;obtain⟨c,u,l,k,rfl⟩:=sD.mp i;rcases h.al c u with z | z
   .obtain⟨m,f,d⟩:=(h.kn c).mp z;exact absurd ((mk _).mpr ⟨m+1,by omega,E4 d k⟩) q
   .exact (r _).mpr (sD.mpr ⟨c,z,l,k,rfl⟩)
 .rcases jQ n w with q | q
  .exact h.nb n q
  .have e:n=w:=by omega
   subst e;rw[gW];intro x i;rcases h.al x i with z | z
   .obtain⟨m,f,d⟩:=(h.kn x).mp z;exact (gW.mp (h.nb m f)) x d
   .exact (gW.mp I) x z
 .have:=h.wl;have:=iS.mpr J;rw[aW];omega
theorem Jd.start {st:Aa (Aa Int)}(h:st.Nodup):Jd C g t st 0 [] st:=⟨fQ,h,λx=>⟨λz=>(aY z).elim,λ⟨n,q,_⟩=>absurd q (by omega)⟩,λx a=>⟨a,aY⟩,λx a=>.inr a,λn q=>absurd q (by omega),aP _⟩
def Nz:RD:=λi h f=>∃ (C:Cel) (a:Aa (Af×Af)) (t:mO) (d:Aa (eF×D)) (c:Af->Ab Int),h=[mS C a,.t [.k d,.k (hG t)]]/\RwOk C a/\a.length<=4/\(∀ p∈a,mG d (Sum.inr p.2)=some (qT (c p.2))) /\
 (∀ b:Aa (Aa Int),b.Nodup->(∀ x,x∈b↔∃ n,x∈lev C a (tF a c) n)->(∀ n,(lev C a (tF a c) n).any (brkA C a t)=false)->f (.v (.t [.str "shown",.t (b.map uH)]))) /\
 ∀ (W:Nat) (e:Aa Int) (r:Aa (Aa Int)),W<64->(lev C a (tF a c) W).any (brkA C a t)=true->(∀ n,n<W->(lev C a (tF a c) n).any (brkA C a t)=false)->(tF a c).filter (λs=>nX C a t s (List.replicate (W+1) (eH (wIns C a).length)))=e::r->f (.v (Ol C a t e (W+1)))
def nT (g:Aa (Aa Int)):Aa (Aa eF×D):=g.map λk=>(k.map (Sum.inl:Int->eF),D.b true)
theorem Ta:∀ (bs as:Aa (Aa Int)),(as++bs).Nodup->qG mP (nT as) (nT bs)=nT (as++bs)
 | [],as,_=>by rw[gL];rfl
 | b::bs,as,h=>by
  have a:b∉as:=λq=>(bK.mp h).2.2 b q b (by simp) rfl
  show qG mP (mP (nT as) (b.map Sum.inl) (.b true)) (nT bs)=_;have:=G8 as b;rw[aJ a] at this;show qG mP (mP (as.map _) _ _) (nT bs)=_;rw[this];have:=Ta bs (as++[b]) (by rw[bH];exact h);rw[bH] at this;exact this
theorem Pz:∀ (bs as:Aa (Aa Int)),(as++bs).Nodup->qY mP (nT as) (bs.map λc=>(c,D.b true))=nT (as++bs)
 | [],as,_=>by rw[gL];rfl
 | b::bs,as,h=>by
  have a:b∉as:=λq=>(bK.mp h).2.2 b q b (by simp) rfl
  show qY mP (mP (as.map _) (b.map Sum.inl) (.b true)) (bs.map λc=>(c,D.b true))=_;have:=G8 as b;rw[aJ a] at this;rw[this];have:=Pz bs (as++[b]) (by rw[bH];exact h);rw[bH] at this;exact this
theorem Xn (g:Aa (Aa Int)) (x:Aa Int):(mG (nT g) (x.map Sum.inl)).isSome=decide (x∈g):=by
 by_cases h:x∈g
 .rw[bQ h];unfold nT;rw[Ja (λ_=>D.b true) h];rfl
 .rw[bM h];unfold mG nT;rw[List.find?_eq_none.mpr λp c z=>?_]
  .rfl
  .obtain⟨k,a,rfl⟩:=aH.mp c;exact h (Az (cM z)▸a)
theorem LA (g:Aa (Af×Af)) (j:Af->Ab Int):(tF g j).Nodup:=(Jf _).filter _
structure Late (C:Cel) (prs:List (Str×Str)) (t:mO) (D:List Int->Nat) (U:List Int->Nat) (y:List Int):Prop where
 rw:RwOk C prs
 br:∀ c∈eH prs.length,∀ l∈eH (wIns C prs).length,(Ax C prs t c l=0↔D c≠0)
 st:∀ c∈eH prs.length,∀ l∈eH (wIns C prs).length,D c≠0->D (oF C prs c l)=D c-U l
 u1:∀ l,U l<=1
 ym:y∈eH (wIns C prs).length
 yu:U y=1
section
variable {D:Aa Int->Nat}
theorem Late.brk (h:Late C g t D U y) (j:c∈eH g.length) (o:∀ l∈ls,l∈eH (wIns C g).length):xB C g t ls c=true↔D c=0/\ls≠[]:=by
 unfold xB;rw[cN];constructor
 .rintro ⟨l,a,q⟩;refine⟨?_,λz=>?_⟩
  .by_cases e:D c=0
   .exact e
   .rw[bQ ((h.br c j l (o l a)).mpr e)] at q;cases q
  .rw[z] at a;exact aY a
 .rintro ⟨e,ne⟩;cases ls with
  | nil=>exact absurd rfl ne
  | cons l r =>
   refine⟨l,aF,?_⟩;rw[bM λz=>(h.br c j l (o l aF)).mp z e];rfl
theorem Late.brkA (h:Late C g t D U y) (j:c∈eH g.length):Lw.brkA C g t c=true↔D c=0:=by
 have:=h.brk j (ls:=eH (wIns C g).length) λ_ q=>q
 unfold Lw.brkA;rw[this];exact⟨λq=>q.1,λq=>⟨q,λz=>by have:=h.ym;rw[z] at this;exact aY this⟩⟩
theorem Late.lev (h:Late C g t D U y){st:Aa (Aa Int)}(j:∀ c∈st,c∈eH g.length) (hd:∀ c∈st,n<=D c):∀ m,m<=n->∀ x∈Lw.lev C g st m,n<=D x+m
 | 0,_,x,a=>by have:=hd x a;omega
 | m+1,f,x,a=>by
  rw[Cp] at a;obtain⟨c,b,l,d,rfl⟩:=sD.mp a;have i:=h.lev j hd m (by omega) c b;have e:=h.st c (xA h.rw j b) l d (by omega);have:=h.u1 l;omega
theorem Late.no (h:Late C g t D U y){st:Aa (Aa Int)}(j:∀ c∈st,c∈eH g.length) (hd:∀ c∈st,n<=D c) (l:m<n):(Lw.lev C g st m).any (Lw.brkA C g t)=false:=by
 rw[gW];intro x a q;have:=(h.brkA (xA h.rw j a)).mp q;have:=h.lev j hd m (by omega) x a;omega
theorem Late.yes (h:Late C g t D U y){st:Aa (Aa Int)}(j:∀ c∈st,c∈eH g.length) (l:e∈st):(Lw.lev C g st (D e)).any (Lw.brkA C g t)=true:=by
 have go:∀ m,m<=D e->∃ x∈Lw.lev C g st m,D x+m=D e:=λm=>by
  induction m with
  | zero=>exact λ_=>⟨e,l,rfl⟩
  | succ m b =>
   intro d;obtain⟨x,a,q⟩:=b (by omega);refine⟨_,E4 a h.ym,?_⟩;rw[h.st x (xA h.rw j a) y h.ym (by omega),h.yu];omega
 obtain⟨x,a,q⟩:=go (D e) (aP _);exact cN.mpr ⟨x,a,(h.brkA (xA h.rw j a)).mpr (by omega)⟩
theorem Late.fold (h:Late C g t D U y):∀ (j:Aa (Aa Int)) (e:Aa Int),e∈eH g.length->(∀ l∈j,l∈eH (wIns C g).length)->j.length<=D e->j.foldl (oF C g) e∈eH g.length/\D (j.foldl (oF C g) e)+(j.map U).sum=D e
 | [],e,a,_,_=>⟨a,rfl⟩
 | l::j,e,a,b,d=>by
  rw[bJ] at d;have c:=b l aF;have k:=h.st e a l c (by omega);have:=h.u1 l;obtain⟨i,m⟩:=h.fold j (oF C g e l) (Be h.rw a c) (λx f=>b x (aL _ f)) (by omega);refine⟨i,?_⟩;rw[aM,eX];show D (j.foldl (oF C g) (oF C g e l))+_=_;omega
theorem J5 (h:∀ l,U l<=1):∀ g:Aa (Aa Int),(g.map U).sum<=g.length/\((g.map U).sum=g.length↔∀ l∈g,U l=1)
 | []=>⟨aP _,λ_ l c=>(aY c).elim,λ_=>rfl⟩
 | l::g=>by
  obtain⟨f,b⟩:=J5 h g;have:=h l;rw[aM,eX,bJ];refine⟨by omega,λq x a=>?_,λq=>?_⟩
  .rcases aI.mp a with rfl | a
   .omega
   .exact b.mp (by omega) x a
  .have d:=q l aF;have e:=b.mpr λx a=>q x (aL _ a)
   omega
theorem Late.can (h:Late C o t D U y) (J:e∈eH o.length) (r:∀ g∈p,∀ l∈g,l∈eH (wIns C o).length) (I:p.length=D e+1) :
  nX C o t e p=true↔∀ j g,p[j]?=some g->∃ l∈g,j<D e->U l=1:=by
 rw[Bt];obtain⟨a,g,rfl⟩:∃ a l,p=a++[l]:=by
  have u:p≠[]:=λz=>by rw[z] at I;simp at I
  exact⟨p.dropLast,p.getLast u,(iG u).symm⟩
 have W:a.length=D e:=by rw[aW,eM] at I;omega
 have i:∀ {b:Aa (Aa Int)} {a:Aa (Aa (Aa Int))},oV b a->(∀ g∈a,∀ l∈g,l∈eH (wIns C o).length)->∀ l∈b,l∈eH (wIns C o).length:=λ{b}=>by
  induction b with
  | nil=>exact λ_ _ l r=>(aY r).elim
  | cons w b H =>
   intro a v A l G;cases a with
   | nil=>exact v.elim
   | cons x a =>
    rcases aI.mp G with rfl | G
    .exact A x aF _ v.1
    .exact H v.2 (λg k=>A g (aL _ k)) l G
 have s:∀ g∈a,∀ l∈g,l∈eH (wIns C o).length:=λg k=>r g (bB _ k)
 constructor
 .rintro ⟨X,v,b,l,rfl,O⟩ j M c;obtain⟨d,m⟩:=oV.snoc.mp v;have R:=d.len;have S:=i d s;obtain⟨f1,f2⟩:=h.fold b e J S (by omega);have Q:l∈eH (wIns C o).length:=r g (by simp) l m;have V:D (b.foldl (oF C o) e)=0:=by
   by_cases q:D (b.foldl (oF C o) e)=0
   .exact q
   .exact absurd ((h.br _ f1 l Q).mpr q) O
  have all1:=(J5 h.u1 b).2.mp (by omega);rcases jQ j a.length with q | q
  .rw[eI q] at c;obtain⟨w,K,L⟩:=d.at c;exact⟨w,L,λ_=>all1 w (aQ K)⟩
  .have E:j<(a++[g]).length:=(aV.mp c).1;rw[aW,eM] at E;have N:j=a.length:=by omega
   subst N;rw[cS (aP _),Nat.sub_self] at c;cases c;exact⟨l,m,λz=>by omega⟩
 .intro f;have mk:∀ (n:Nat) (a:Aa (Aa (Aa Int))),(∀ j g,a[j]?=some g->∃ l∈g,U l=1)->∃ b,oV b a/\∀ l∈b,U l=1:=λn a=>by
   induction a with
   | nil=>exact λ_=>⟨[],trivial,λl r=>(aY r).elim⟩
   | cons x a H =>
    intro A;obtain⟨w,K,L⟩:=A 0 x rfl;obtain⟨b,d,m⟩:=H λj g c=>A (j+1) g (by simpa using c)
    exact⟨w::b,⟨K,d⟩,λl r=>(aI.mp r).elim (λq=>q▸L) (m l)⟩
  obtain⟨b,d,m⟩:=mk 0 a λj M c=>by
   have F:j<a.length:=(aV.mp c).1;obtain⟨l,B,P⟩:=f j M (by rw[eI F];exact c);exact⟨l,B,P (by omega)⟩
  obtain⟨l,B,_⟩:=f a.length g (by rw[cS (aP _),Nat.sub_self];rfl);have R:=d.len;obtain⟨f1,f2⟩:=h.fold b e J (i d s) (by omega);refine⟨b++[l],oV.snoc.mpr ⟨d,B⟩,b,l,rfl,λz=>?_⟩;have:=(J5 h.u1 b).2.mpr m;exact (h.br _ f1 l (r g (by simp) l B)).mp z (by omega)
end
structure Choi (C:Cel) (prs:List (Str×Str)) (d:Nat) (y:List Int) (chs:List (List (List Int))):Prop where
 ln:chs.length=d+1
 ok:∀ ls∈chs,pK C prs ls
 at':∀ j ls,chs[j]?=some ls->(if j<d then y else List.replicate (wIns C prs).length 0)∈ls
theorem Rz (n i:Nat):(List.replicate n (0:Int)).getD i 0=0:=by
 rw[bC,List.getElem?_replicate];split<;>rfl
section
variable {D:Aa Int->Nat}
theorem Choi.set {st:Aa (Aa (Aa Int))}(h:Choi C l (D e) y st) (o:Choi C l (D e) y g) (r:j<D e+1) (I:(if j<D e then y else List.replicate (wIns C l).length 0).getD i 0=b):Choi C l (D e) y (st.set j (qD i b (g.getD j []))):=by
 have a:j<g.length:=by rw[o.ln];exact r
 have f:g[j]?=some g[j]:=aD a;have d:g.getD j []=g[j]:=by rw[bC,f];rfl
 refine⟨by rw[bL,h.ln],By h.ok (A8 (by rw[d];exact o.ok _ (bR a))),λp k c=>?_⟩;by_cases q:j=p
 .subst q;rw[fZ (by rw[h.ln];exact r)] at c;cases c;rw[d];exact bV.mpr ⟨o.at' j _ f,bQ I⟩
 .rw[cQ q] at c;exact h.at' p k c
theorem Choi.can (o:Late C g t D U y) (p:e∈eH g.length) (h:Choi C g (D e) y l):nX C g t e l=true:=by
 refine (o.can p (λa c=>(h.ok a c).2) h.ln).mpr λj a b=>⟨_,h.at' j a b,λq=>?_⟩
 rw[aO q];exact o.yu
def qL (d:Nat) (y:Aa Int) (i p:Nat):Int:=if p<d then y.getD i 0 else 0
theorem EW (d:Nat) (y:Aa Int) (i p n:Nat):(if p<d then y else List.replicate n 0).getD i 0=qL d y i p:=by
 unfold qL;by_cases q:p<d
 .rw[aO q,aO q]
 .rw[aJ q,aJ q,Rz]
theorem Uc (r:Late C o t D U y) (I:e∈eH o.length) (h:Choi C o (D e) y g) (J:y.getD i 0=0\/(y.getD i 0=1/\∀ l∈eH (wIns C o).length,U l=(l.getD i 0).toNat)) :
  ∀ n,n<=D e+1->Choi C o (D e) y (oC C o t e i g n)/\∀ p,p<D e+1->(oC C o t e i g n)[p]?=some (if D e+1-n<=p then qD i (qL (D e) y i p) (g.getD p []) else g.getD p [])
 | 0,_=>⟨h,λp d=>by
   have f:p<g.length:=by rw[h.ln];exact d
   rw[aJ (by omega),bC];show g[p]?=_;rw[aD f];rfl⟩
 | n+1,P=>by
  obtain⟨c,K⟩:=Uc r I h J n (by omega);obtain⟨j,G⟩:∃ j,j=g.length-1-n:=⟨_,rfl⟩;have Q:=h.ln;have a:j<D e+1:=by omega
  have b:j<g.length:=by omega
  have B:g[j]?=some g[j]:=aD b;have u:g.getD j []=g[j]:=by rw[bC,B];rfl
  have E:oC C o t e i g (n+1)=tU C o t e i g (oC C o t e i g n) j:=by rw[G];rfl
  have x:=EW (D e) y i j (wIns C o).length;have key:tU C o t e i g (oC C o t e i g n) j=(oC C o t e i g n).set j (qD i (qL (D e) y i j) (g.getD j [])):=by
   unfold tU;by_cases q:qL (D e) y i j=0
   .have A:=Choi.set (i:=i) c h a (x.trans q);rw[aO (Choi.can r I A),q]
   .have hd:j<D e:=by
     by_cases z:j<D e
     .exact z
     .exact absurd (by unfold qL;rw[if_neg z]) q
    have w:qL (D e) y i j=y.getD i 0:=by unfold qL;rw[if_pos hd]
    rcases J with z | ⟨N,O⟩
    .exact absurd (w.trans z) q
    .rw[aJ,w,N];intro F;have s:∀ m∈(oC C o t e i g n).set j (qD i 0 (g.getD j [])),pK C o m:=By c.ok (A8 (by rw[u];exact h.ok _ (bR b)));have:=(r.can I (λm H=>(s m H).2) (by rw[bL,c.ln])).mp F j _ (fZ (by rw[c.ln];exact a));obtain⟨l,L,M⟩:=this;have k:=(bV.mp L);rw[u] at k;have v:=M hd;rw[O l ((h.ok _ (bR b)).2 l k.1),cM k.2] at v;cases v
  rw[E,key];refine⟨Choi.set c h a x,λp d=>?_⟩;by_cases q:j=p
  .subst q;rw[fZ (by rw[c.ln];exact a),aO (by omega)]
  .rw[cQ q,K p d];by_cases z:D e+1-n<=p
   .rw[aO z,aO (by omega)]
   .rw[aJ z,aJ (by omega)]
theorem Ui:∀ n:Nat,((List.range n).map λp=>(2:Int) ^ p).sum=2 ^ n-1
 | 0=>rfl
 | n+1=>by
  rw[lE,aZ,kC,Ui n,kO,kP,Int.pow_succ];omega
theorem Md (o:Late C g t D U y) (I:e∈eH g.length) (h:Choi C g (D e) y j) (J:y.getD i 0=0\/(y.getD i 0=1/\∀ l∈eH (wIns C g).length,U l=(l.getD i 0).toNat)) :
  Choi C g (D e) y (wD C g t e j i)/\sH i (wD C g t e j i)=y.getD i 0*(2 ^ D e-1):=by
 have K:=h.ln;obtain⟨c,E⟩:=Uc o I h J (D e+1) (aP _);have B:wD C g t e j i=oC C g t e i j (D e+1):=by unfold wD;rw[K]
 rw[B];refine⟨c,?_⟩;unfold sH;rw[c.ln];have s:((List.range (D e+1)).zip (oC C g t e i j (D e+1))).map (λp=>(2:Int) ^ p.1*(p.2.headD []).getD i 0)=((List.range (D e+1)).zip (oC C g t e i j (D e+1))).map (λp=>(2:Int) ^ p.1*qL (D e) y i p.1):=by
  refine bO λq G=>?_
  obtain⟨k,n,m⟩:=cW G;rw[hX,jD] at m;rw[eP,bU,c.ln,Nat.min_self] at n;have d:k<(oC C g t e i j (D e+1)).length:=by rw[c.ln];exact n
  have a:=E k n;rw[aO (by omega),aD d] at a;have a:=bZ a;have b:=c.at' k _ (aD d);have L:q.1=k:=by rw[<- m]
  have M:q.2=qD i (qL (D e) y i k) (j.getD k []):=by rw[<- m];exact a
  rw[a] at b;rw[L,M];cases z:qD i (qL (D e) y i k) (j.getD k []) with
  | nil=>rw[z] at b;exact (aY b).elim
  | cons l r =>
   have:l∈qD i (qL (D e) y i k) (j.getD k []):=by rw[z];exact aF
   show (2:Int) ^ k*l.getD i 0=_;rw[cM (bV.mp this).2]
 have u:((List.range (D e+1)).zip (oC C g t e i j (D e+1))).map (λp=>(2:Int) ^ p.1*qL (D e) y i p.1)=(List.range (D e+1)).map λp=>(2:Int) ^ p*qL (D e) y i p:=by
  have:(List.range (D e+1))=((List.range (D e+1)).zip (oC C g t e i j (D e+1))).map (·.1):=by
   rw[fL];rw[bU,c.ln];exact aP _
  conv=>rhs;rw[this]
  rw[aK];rfl
 rw[s,u,lE,aZ,kC,kO,kP];have v:(List.range (D e)).map (λp=>(2:Int) ^ p*qL (D e) y i p)=(List.range (D e)).map λp=>y.getD i 0*(2:Int) ^ p:=bO λp F=>by
  unfold qL;rw[aO (eC.mp F),Int.mul_comm]
 have w:∀ f:Aa Nat,(f.map λp=>y.getD i 0*(2:Int) ^ p).sum=y.getD i 0*(f.map λp=>(2:Int) ^ p).sum:=λf=>by
  induction f with
  | nil=>exact (Int.mul_zero _).symm
  | cons x r H=>rw[aM,aM,eX,eX,H,Int.mul_add]
 have A:qL (D e) y i (D e)=0:=by unfold qL;rw[if_neg (Nat.lt_irrefl _)]
 rw[v,w,Ui,A,Int.mul_zero,Int.add_zero]
theorem Hv:∀ n,List.replicate n (0:Int)∈eH n
 | 0=>by simp[eH]
 | n+1=>by
  show List.replicate (n+1) (0:Int)∈(eH n).map (λx=>(0:Int)::x)++(eH n).map (λx=>(1:Int)::x);exact bB _ (aH.mpr ⟨_,Hv n,rfl⟩)
theorem Sx (o:Late C g t D U y) (p:e∈eH g.length) (r:∀ i,y.getD i 0=0\/(y.getD i 0=1/\∀ l∈eH (wIns C g).length,U l=(l.getD i 0).toNat)):∀ i,Choi C g (D e) y (pB C g t e (D e+1) i)
 | 0=>by
  have m:=o.rw.li;have k:(wIns C g).length<=C.ins.length:=dH _ _;have a:=wU (show (wIns C g).length<=6 by omega);have b:=uD (wIns C g).length;refine⟨cO,λf d=>?_,λj f c=>?_⟩
  .rw[(gG.mp d).2];exact⟨by omega,λ_ h=>h⟩
  .have:=(gG.mp (aQ c)).2;rw[this];by_cases q:j<D e
   .rw[aO q];exact o.ym
   .rw[aJ q];exact Hv _
 | i+1=>(Md o p (Sx o p r i) (r i)).1
theorem W7 (j:Late C g t D U y) (o:e∈eH g.length) (p:∀ i,y.getD i 0=0\/(y.getD i 0=1/\∀ l∈eH (wIns C g).length,U l=(l.getD i 0).toNat)):Bq C g t e (D e+1)=pY (λi=>y.getD i 0*(2 ^ D e-1)) 0 (wIns C g):=by
 unfold Bq;have:(λi=>sH i (pB C g t e (D e+1) (i+1)))=λi=>y.getD i 0*(2 ^ D e-1):=funext λi=>(Md j o (Sx j o p i) (p i)).2
 rw[this]
end
theorem Jp {j:Type}{f:j->Int}:∀ {g:Aa j},(∀ x∈g,f x=0)->(g.map f).sum=0
 | [],_=>rfl
 | x::r,h=>by rw[aM,eX,h x aF,Jp λy a=>h y (aL _ a)];rfl
def M4 (r:Af->Af) (g:Aa Af):Prop:=∀ x∈g,∀ y∈g,r x=r y->x=y
theorem Mb:∀ (l:Aa (Af×Af×Aa Af)) (kn:Aa Af) (o j:Af->Int),qH kn l->M4 r (kn++l.map (·.1))->(∀ x∈kn,j (r x)=o x)->∀ x∈kn++l.map (·.1),sI j (l.map (ren r)) (r x)=sI o l x
 | [],kn,o,j,_,_,h,x,a=>by simpa [sI] using h x (by simpa using a)
 | g::l,kn,o,j,ok,inj,h,x,a=>by
  have c:kn++(g::l).map (·.1)=(kn++[g.1])++l.map (·.1):=by simp
  rw[c] at inj a;have i:=Mb l (kn++[g.1]) (Bj o g) (Bj j (ren r g)) ok.2.2 inj (λy b=>?_) x a
  .exact i
  .unfold Bj;have d:((ren r g).2.2.map j)=g.2.2.map o:=by
    show (g.2.2.map r).map j=_;rw[aK];exact bO λz f=>h z (ok.2.1 z f)
   by_cases z:y=g.1
   .subst z;rw[aO (show r g.1=(ren r g).1 from rfl),aO rfl,d];rfl
   .have e:¬ r y=(ren r g).1:=λq=>z (inj y (bB _ b) g.1 (by simp) q)
    rw[aJ e,aJ z];rcases bE.mp b with q | q
    .exact h y q
    .exact absurd (bF.mp q) z
structure Rnd (C C':Cel) (prs prs':List (Str×Str)) (r:Str->Str):Prop where
 inj:M4 r C.names
 ins:C'.ins.Perm (C.ins.map r)
 gates:C'.gates=C.gates.map (ren r)
 outs:C'.outs.Perm (C.outs.map r)
 prs:prs'.Perm (prs.map λp=>(r p.1,r p.2))
section
variable {C C':Cel}{prs prs':Aa (Af×Af)}{r:Af->Af}
theorem Rnd.eval (h:Rnd C C' prs prs' r) (R:RwOk C prs) (e:∀ x∈C.ins,ρ' (r x)=ρ x):∀ x∈C.names,pL C' ρ' (r x)=pL C ρ x:=λx a=>by
 unfold pL;rw[h.gates];exact Mb C.gates C.ins ρ ρ' R.gc.gt h.inj e x a
theorem Rnd.inN (R:RwOk C prs) (g:x∈C.ins):x∈C.names:=bB _ g
theorem Rnd.snd (h:Rnd C C' prs prs' r) (R:RwOk C prs) (g:x∈C.ins):r x∈prs'.map (·.2)↔x∈prs.map (·.2):=by
 constructor
 .intro z;obtain⟨p,b,e⟩:=aH.mp z;obtain⟨q,a,rfl⟩:=aH.mp (h.prs.mem_iff.mp b);have:=h.inj q.2 (Rnd.inN R (R.m q a).2) x (Rnd.inN R g) e;exact aH.mpr ⟨q,a,this⟩
 .intro z;obtain⟨q,a,rfl⟩:=aH.mp z;exact aH.mpr ⟨(r q.1,r q.2),h.prs.mem_iff.mpr (aH.mpr ⟨q,a,rfl⟩),rfl⟩
theorem Rnd.fst (h:Rnd C C' prs prs' r) (R:RwOk C prs) (g:x∈C.outs):r x∈prs'.map (·.1)↔x∈prs.map (·.1):=by
 constructor
 .intro z;obtain⟨p,b,e⟩:=aH.mp z;obtain⟨q,a,rfl⟩:=aH.mp (h.prs.mem_iff.mp b);have:=h.inj q.1 (R.gc.os _ (R.m q a).1) x (R.gc.os _ g) e;exact aH.mpr ⟨q,a,this⟩
 .intro z;obtain⟨q,a,rfl⟩:=aH.mp z;exact aH.mpr ⟨(r q.1,r q.2),h.prs.mem_iff.mpr (aH.mpr ⟨q,a,rfl⟩),rfl⟩
theorem Rnd.wIns (h:Rnd C C' prs prs' r) (R:RwOk C prs):(wIns C' prs').Perm ((wIns C prs).map r):=by
 unfold Lw.wIns;refine (h.ins.filter _).trans (kD ?_);rw[kE];refine dD (List.map r) (List.filter_congr λx a=>?_);simp only[Function.comp,h.snd R a]
theorem Rnd.wOuts (h:Rnd C C' prs prs' r) (R:RwOk C prs):(wOuts C' prs').Perm ((wOuts C prs).map r):=by
 unfold Lw.wOuts;refine (h.outs.filter _).trans (kD ?_);rw[kE];refine dD (List.map r) (List.filter_congr λx a=>?_);simp only[Function.comp,h.fst R a]
end
def sg (k:Nat):Af:=(["p","q","r","s"]:Aa Af).getD k ""
def qX:Nat->Af
 | 0 => "u"
 | k+1 => "e" ++ sg k
def tD (g:Nat):Nat->Aa Af
 | 0=>[(["u one","u and a a"]:Aa Af).getD g ""]
 | k+1=>tD g k++["d" ++ sg k ++ " odd " ++ sg k ++ " " ++ qX k,"e" ++ sg k ++ " and " ++ sg k ++ " " ++ qX k]
def sJ:Nat->Af
 | 0 => "f"
 | k+1 => "f" ++ sg (k+1)
def qM (m g:Nat):Nat->Aa Af
 | 0=>tD g m++[("f and p p" : Af)]
 | k+1=>qM m g k++["f" ++ sg (k+1) ++ " and " ++ sJ k ++ " " ++ sg (k+1)]
def sE:Nat->Aa Af
 | 0=>["u one","dp or u u"]
 | k+1=>sE k++["d" ++ sg (k+1) ++ " and " ++ sg k ++ " " ++ sg k]
structure Lt where
 m:Nat
 ct:Bool
 ak:Nat
 j:Nat
deriving DecidableEq
def oI:Aa Lt:=[1,2,3,4].flatMap λm=>[(false,0),(true,0),(true,1)].flatMap λq=>[⟨m,q.1,q.2,q.2⟩,⟨m,q.1,q.2,q.2+1⟩]
def sV (k:Lt):Aa Af:=if k.ct then qM k.m k.ak (k.m-1) else sE (k.m-1)++["f or " ++ sg (k.m-1) ++ " " ++ sg (k.m-1)]
def mN (k:Lt):Af:=if k.ct then sJ (k.m-1) else "f"
def lU (k:Lt):Aa Af:=(["a","b"]:Aa Af).take k.j
def oH (k:Lt):Aa Af:=(List.range k.m).map sg
def oQ (k:Lt):zL:=(sV k).map λx=>((nV x).getD 0 "",(nV x).getD 1 "",(nV x).drop 2)
def lY (k:Lt):Aa (Af×Af):=(List.range k.m).map λi=>("d" ++ sg i,sg i)
def mD (k:Lt):Cel:=⟨lU k++oH k,oQ k,mN k::(lY k).map (·.1)⟩
def Me (k:Lt):Bool:=decide (1<=k.m/\k.m<=4/\k.ak<=1/\k.j<=2/\k.ak<=k.j/\(k.ct=false->k.ak=0))&&(Dd (lU k++oH k) (oQ k)&&(decide ((mD k).names.Nodup)&&(decide ((mD k).outs.Nodup)&&((mD k).outs.all (λo=>decide (o∈(oQ k).map (·.1)))&&(decide ((oQ k).length<=14)&&(decide (((lY k).map (·.2)).Nodup)&&(sV k).all λx=>decide (2<=(nV x).length/\(nV x).length<=4/\x.length<=1000/\(Txt.split x " ").length<=1000)))))))
theorem FZ:oI.all Me=true:=by decide +kernel
def rM (k:Lt) (v:Aa Int):Nat:=if k.ct then 2 ^ k.m-1-((List.range k.m).map λi=>2 ^ i*(v.getD i 0).toNat).sum else ((List.range k.m).find? λj=>decide (v.getD (k.m-1-j) 0=1)).getD k.m
def Kt (k:Lt) (g:Af->Int):Nat:=if k.ak=1 then (g "a").toNat else 1
def rT (k:Lt):Nat:=if k.ct then 2 ^ k.m else k.m+1
def nI (k:Lt):Aa Int:=(List.range k.m).map λi=>if k.ct=true\/i=k.m-1 then 1 else 0
def Qn (k:Lt) (b:Aa Int):Bool :=
 let a:=lS ((lU k++oH k).zip b);let u:=pL (mD k) a;let v:=b.drop k.j;let c:=(lY k).map λp=>u p.1
 decide (u (mN k)=if rM k v=0 then 1 else 0)&&decide (0<rM k v->rM k c=rM k v-Kt k a)
theorem EJ:(oI.all λk=>(eH (k.j+k.m)).all (Qn k))=true:=by decide +kernel
theorem KW:(oI.all λk=>decide (rM k (List.replicate k.m 0)+1=rT k)&&(decide (rM k (nI k)=0)&&(eH k.m).all λv=>decide (rM k v=0->∀ i<k.m,(nI k).getD i 0<=v.getD i 0)))=true:=by decide +kernel
structure LtOk' (k:Lt):Prop where
 b:1<=k.m/\k.m<=4/\k.ak<=1/\k.j<=2/\k.ak<=k.j/\(k.ct=false->k.ak=0)
 gt:qH (lU k++oH k) (oQ k)
 nd:(mD k).names.Nodup
 on:(mD k).outs.Nodup
 os:∀ o∈(mD k).outs,o∈(oQ k).map (·.1)
 lg:(oQ k).length<=14
 n2:((lY k).map (·.2)).Nodup
 rw:∀ x∈sV k,2<=(nV x).length/\(nV x).length<=4/\x.length<=1000/\(Txt.split x " ").length<=1000
theorem Bd (h:k∈oI):LtOk' k:=by
 have:=bY.mp FZ k h;unfold Me at this;simp only[cB,bY,eL] at this;obtain⟨a,b,c,d,e,f,i,m⟩:=this;exact⟨a,P6 b,c,d,e,f,i,m⟩
theorem Ef (k:Lt):oH k=(lY k).map (·.2):=by unfold oH lY;rw[List.map_map];rfl
theorem xP (h:k∈oI):RwOk (mD k) (lY k):=by
 have o:=Bd h;obtain⟨f,i,n,q,s,t⟩:=o.b;have d:(lY k).length=k.m:=by unfold lY;rw[List.length_map,List.length_range]
 have u:(lU k).length<=2:=by unfold lU;rw[List.length_take];omega
 have e:(oH k).length=k.m:=by rw[Ef,aA,d]
 refine⟨⟨o.nd,o.gt,λx c=>bA _ (o.os x c),o.on,?_,?_,?_⟩,?_,o.n2,λp a=>⟨aL _ (cH a),?_⟩,?_,by omega⟩
 .show (lU k++oH k).length<=40;rw[aW];omega
 .show (oQ k).length<=40;have:=o.lg;omega
 .show (mN k::(lY k).map (·.1)).length<=40;rw[bJ,aA];omega
 .exact (bX.mp o.on).2
 .show p.2∈lU k++oH k;rw[Ef];exact bA _ (cH a)
 .show (lU k++oH k).length<=6;rw[aW];omega
theorem C7 (f:Af->Int):∀ {g:Aa Af}{x:Af},x∈g->lS (g.zip (g.map f)) x=f x:=λ{g}{x} h=>by
 have:g.zip (g.map f)=g.map λx=>(x,f x):=by
  induction g with
  | nil=>rfl
  | cons a r c =>
   rw[aM,cP,aM];by_cases q:x∈r
   .rw[c q]
   .have z:∀ r:Aa Af,r.zip (r.map f)=r.map λx=>(x,f x):=λr=>by
     induction r with
     | nil=>rfl
     | cons b r c=>rw[aM,cP,aM,c]
    rw[z]
 rw[this];exact M0 h
theorem Nt {g:Aa Af}{b:Aa Int}(o:b.length=g.length) (j:∀ x∈b,x=0\/x=1){x:Af}(l:x∈g):nR (lS (g.zip b) x):=by
 have:x∈(g.zip b).map (·.1):=by rw[fL (by omega)];exact l
 exact j _ (fE (Y3 this)).2
section
def qP (k:Lt) (al:Aa (Af×Af)) (r:Af->Af) (c:Aa Int):Aa Int:=(lY k).map λp=>lS ((al.map (·.2)).zip c) (r p.2)
def dL (k:Lt) (al:Aa (Af×Af)) (r:Af->Af) (c:Aa Int):Nat:=rM k (qP k al r c)
def uL (k:Lt) (C:Cel) (al:Aa (Af×Af)) (r:Af->Af) (l:Aa Int):Nat:=if k.ak=1 then (if lS ((wIns C al).zip l) (r "a")=1 then 1 else 0) else 1
def yL (k:Lt) (C:Cel) (al:Aa (Af×Af)) (r:Af->Af):Aa Int:=(wIns C al).map λx=>if k.ak=1/\x=r "a" then 1 else 0
theorem Py (g:k∈oI):wIns (mD k) (lY k)=lU k:=by
 have:(oI.all λk=>decide (wIns (mD k) (lY k)=lU k))=true:=by decide +kernel
 exact cM (bY.mp this k g)
theorem BV (g:k∈oI):wOuts (mD k) (lY k)=[mN k]:=by
 have:(oI.all λk=>decide (wOuts (mD k) (lY k)=[mN k]))=true:=by decide +kernel
 exact cM (bY.mp this k g)
theorem Ca (g:k∈oI) (h:k.ak=1):("a" : Af)∈lU k:=by
 have:(oI.all λk=>decide (k.ak=1->("a" : Af)∈lU k))=true:=by decide +kernel
 exact cM (bY.mp this k g) h
theorem Om (g:k∈oI) (j:Rnd (mD k) C (lY k) al r) (h:k.ak=1):r "a" ∈ wIns C al:=by
 have p:=j.wIns (xP g);rw[Py g] at p;exact p.mem_iff.mpr (cH (Ca g h))
theorem Mj (g:c.length=al.length) (x:Af):lS (rC C al c l) x=if x∈al.map (·.2) then lS ((al.map (·.2)).zip c) x else lS ((wIns C al).zip l) x:=by
 unfold rC;rw[lC (by rw[aA,g]),V5,fL (by rw[aA,g];exact aP _)]
theorem Lb (g:k∈oI) (I:Rnd (mD k) C (lY k) al r) (J:RwOk C al) (T:c∈eH al.length) (U:l∈eH (wIns C al).length) :
  pG C al c l (r (mN k))=(if dL k al r c=0 then 1 else 0)/\(0<dL k al r c->dL k al r (oF C al c l)=dL k al r c-uL k C al r l):=by
 obtain⟨v,K⟩:=pP T;obtain⟨R,V⟩:=pP U;have n:=xP g;have o:=Bd g;obtain⟨e,t⟩:∃ e,e=lS (rC C al c l):=⟨_,rfl⟩;obtain⟨_,_,w⟩:=Hr J v R K V;rw[<- t] at w;have h:∀ x∈lU k++oH k,r x∈C.ins:=λx a=>I.ins.mem_iff.mpr (cH a)
 obtain⟨b,s⟩:∃ b,b=(lU k++oH k).map λx=>e (r x):=⟨_,rfl⟩
 have F:(lU k).length=k.j:=by
  obtain⟨b1,b2,b3,b4,b5,b6⟩:=o.b;unfold lU;rw[bN];show min k.j 2=k.j;omega
 have W:(lY k).length=k.m:=by unfold lY;rw[List.length_map,List.length_range]
 have y:(oH k).length=k.m:=by rw[Ef,aA,W]
 have H:b∈eH (k.j+k.m):=zQ (by rw[s,aA,aW,F,y]) λx a=>by
  rw[s] at a;obtain⟨z,P,rfl⟩:=aH.mp a;exact (w _ (h z P)).2
 have S:=bY.mp (bY.mp EJ k g) b H;unfold Qn at S;simp only[cB,eL] at S;obtain⟨A,u⟩:=S;have i:∀ x∈lU k++oH k,lS ((lU k++oH k).zip b) x=e (r x):=λx a=>by rw[s];exact C7 (λx=>e (r x)) a
 have D:∀ x∈(mD k).names,pL (mD k) (lS ((lU k++oH k).zip b)) x=pG C al c l (r x):=λx a=>by
  have:=I.eval n (ρ:=lS ((lU k++oH k).zip b)) (ρ':=e) (λx a=>(i x a).symm) x a;rw[<- this];unfold pG;rw[t]
 have f:∀ p∈lY k,(r p.1,r p.2)∈al:=λp d=>I.prs.mem_iff.mpr (aH.mpr ⟨p,d,rfl⟩)
 have G:b.drop k.j=qP k al r c:=by
  rw[s,aZ,<- F,List.drop_append_of_le_length (by rw[aA];exact aP _),List.drop_of_length_le (by rw[aA];exact aP _),fF,Ef,aK];unfold qP;refine bO λp d=>?_
  show e (r p.2)=_;rw[t,Mj v,aO (aH.mpr ⟨_,f p d,rfl⟩)]
 rw[G] at A u;have Y:∀ p∈lY k,p.1∈(mD k).names:=λp d=>n.gc.os _ (n.m p d).1
 have Z:((lY k).map λp=>pL (mD k) (lS ((lU k++oH k).zip b)) p.1)=qP k al r (oF C al c l):=by
  unfold qP;refine bO λp d=>?_
  rw[D p.1 (Y p d)];have Q:((al.map (·.2)).zip (oF C al c l))=al.map λq=>(q.2,pG C al c l q.1):=by
   unfold oF;rw[List.zip_map']
  rw[Q];have O:(r p.2,pG C al c l (r p.1))∈al.map λq=>(q.2,pG C al c l q.1):=aH.mpr ⟨_,f p d,rfl⟩
  exact (Fm (p:=(r p.2,pG C al c l (r p.1))) (by rw[aK];exact J.n2) O).symm
 have M:Kt k (lS ((lU k++oH k).zip b))=uL k C al r l:=by
  unfold Kt uL;by_cases q:k.ak=1
  .rw[aO q,aO q];have N:=Ca g q;have E:("a" : Af)∈lU k++oH k:=bB _ N;have X:r "a" ∉ al.map (·.2):=by
    have:=bV.mp (Om g I q);intro z;rw[bQ z] at this;cases this.2
   rw[i _ E];have B:=(w _ (h _ E)).2;have L:e (r "a")=lS ((wIns C al).zip l) (r "a"):=by rw[t,Mj v,aJ X]
   rw[L] at B |-;rcases B with z | z<;>rw[z]<;>rfl
  .rw[aJ q,aJ q]
 rw[Z,M] at u;refine⟨?_,u⟩;rw[<- D _ (n.gc.os _ aF)];exact A
theorem GZ (l:k∈oI) (o:Rnd (mD k) C (lY k) al r) (j:RwOk C al) (I:∀ x∈C.names,x ≠ "") (u:Af->Int):zU C al [(r (mN k),w)] u=w*u (r (mN k)):=by
 have f:=xP l;have po:=o.wOuts f;rw[BV l] at po;have c:wOuts C al=[r (mN k)]:=List.perm_singleton.mp po;have n:r (mN k)∈wOuts C al:=by rw[c];exact bF.mpr rfl
 have lo:=(bV.mp n).1;have s:r (mN k)∈C.names:=j.gc.os _ lo;have a:∀ x,lS [(r (mN k),w)] x=if r (mN k)=x then w else 0:=λx=>by
  unfold lS;rw[cZ];by_cases q:r (mN k)=x
  .rw[bQ q,aO q]
  .rw[bM q,aJ q];rfl
 have d:∀ x∈C.ins,r (mN k)≠x:=λx b z=>by
  have t:=(Bd l).os (mN k) aF;obtain⟨g,h,e⟩:=aH.mp t;have:r (mN k)∈C.gates.map (·.1):=by
   rw[o.gates,aK];refine aH.mpr ⟨g,h,?_⟩;show r g.1=_;rw[e]
  exact (bK.mp j.gc.nd).2.2 x b _ this z.symm
 unfold zU;have v:((wIns C al).map λx=>lS [(r (mN k),w)] x*u x).sum=0:=Jp λx b=>by rw[a,aJ (d x (bV.mp b).1),kZ]
 have y:(al.map λp=>lS [(r (mN k),w)] p.2*(u p.2-2*u p.1)).sum=0:=Jp λp i=>by rw[a,aJ (d _ (j.m p i).2),kZ]
 rw[aZ,kC,v,y,c,a,aJ λz=>I _ s z,kO,kP,a,aO rfl];omega
theorem JI (o:k∈oI) (j:Rnd (mD k) C (lY k) al r) (g:RwOk C al) (p:∀ x∈C.names,x ≠ "") (hw:w≠0):Late C al [(r (mN k),w)] (dL k al r) (uL k C al r) (yL k C al r) where
 rw:=g
 br:=λc a l b=>by
  unfold Ax;rw[GZ o j g p,(Lb o j g a b).1];by_cases q:dL k al r c=0
  .rw[aO q,Int.mul_one];exact⟨λz=>absurd z hw,λz=>absurd q z⟩
  .rw[aJ q,Int.mul_zero];exact⟨λ_=>q,λ_=>rfl⟩
 st:=λc a l b q=>(Lb o j g a b).2 (by omega)
 u1:=λl=>by
  unfold uL;split
  .split<;>omega
  .omega
 ym:=zQ (by unfold yL;rw[List.length_map]) λx d=>by
  unfold yL at d;obtain⟨z,_,rfl⟩:=aH.mp d;split
  .exact .inr rfl
  .exact .inl rfl
 yu:=by
  unfold uL;by_cases q:k.ak=1
  .rw[aO q];have:lS ((wIns C al).zip (yL k C al r)) (r "a")=1:=by
    unfold yL;rw[C7 _ (Om o j q),aO ⟨q,rfl⟩]
   rw[aO this]
  .rw[aJ q]
theorem Z7 (o:k∈oI) (j:Rnd (mD k) C (lY k) al r) (g:RwOk C al) (i:Nat):(yL k C al r).getD i 0=0\/((yL k C al r).getD i 0=1/\∀ l∈eH (wIns C al).length,uL k C al r l=(l.getD i 0).toNat):=by
 by_cases b:i<(wIns C al).length
 .have e:(yL k C al r).getD i 0=if k.ak=1/\(wIns C al)[i]=r "a" then 1 else 0:=by
   unfold yL;rw[bC,bD,aD b];rfl
  rw[e];by_cases q:k.ak=1/\(wIns C al)[i]=r "a"
  .rw[aO q];refine .inr ⟨rfl,λl c=>?_⟩;obtain⟨f,h⟩:=pP c;have a:i<l.length:=by rw[f];exact b
   unfold uL;rw[aO q.1,bC,aD a];have:lS ((wIns C al).zip l) (r "a")=l[i]:=by
    have d:((wIns C al)[i],l[i])∈(wIns C al).zip l:=by
     have:((wIns C al).zip l)[i]'(by rw[eP];omega)=((wIns C al)[i],l[i]):=hX;rw[<- this];exact bR _
    rw[<- q.2];exact Fm (p:=((wIns C al)[i],l[i])) (by rw[fL (by omega)];exact (bK.mp g.gc.nd).1.filter _) d
   rw[this];rcases h _ (bR a) with z | z<;>rw[z]<;>rfl
  .rw[aJ q];exact .inl rfl
 .left;unfold yL;rw[bC,gI (by rw[aA];omega)];rfl
end
abbrev tL (C:Cel) (j:Aa (Af×Af)) (t:mO) (g:Aa (eF×D)) (l o p r I J:Sl):Aa Sl:=[.v (mS C j),.v (.t [.k g,.k (hG t)]),l,o,p,r,I,J]
abbrev zI (C:Cel) (g:Aa (Af×Af)) (t:mO) (j:Aa (eF×D)) (st:Aa (Aa Int)) (l o p:Sl):Aa Sl:=tL C g t j (.v (pZ C g t)) (.v (lB st)) (.v (lB (eH (wIns C g).length))) l o p
def W2 (g:Aa Sl):Nat:=match (g[5]?:Ab Sl) with
 | some (.o (.T a))=>100-a.length
 | _=>0
theorem Mg {f:Aa Int->Int}{l:Aa (Aa Int)}(h:(l.map f).Nodup):∀ {m:Aa (Aa Int)},m.Nodup->(∀ x∈m,x∈l)->(m.map f).Nodup
 | [],_,_=>fQ
 | x::m,u,c=>by
  obtain⟨q,s⟩:=bX.mp u;refine bX.mpr ⟨λz=>?_,Mg h s λy a=>c y (aL _ a)⟩;obtain⟨y,a,e⟩:=aH.mp z;obtain⟨i,n,d⟩:=cW (c x aF);obtain⟨j,t,k⟩:=cW (c y (aL _ a));have:i=j:=by
   have b:i<(l.map f).length:=by rw[aA];exact n
   refine (kR b h).mp ?_;rw[bD,bD,aD n,aD t,d,k,gO,gO,e]
  subst this;exact q (by rw[<- d,k];exact a)
theorem Yt {n:Nat}{j:Aa Nat}{g:sK}{tt:rS}{te:mE}{dk:Aa Ad}{Φ:Sl->Aa Sl->Prop}{α:Type}(xs:Aa α) (J aa:α->D) (p:α->Bool) (C:Aa Sl) (hl:xs.length<=100000)
  (hs:∀ (i:Nat) x (I:Aa D) (Nx:Aa D->Aa Sl->Prop),xs[i]?=some x->I.length<100000->(p x=true->Nx (I++[aa x]) (nS j C))->(p x=false->Nx I (nS j C))->g (J x) (List.replicate n Sl.n++nS j C) λab=>tt dk ab λb T=>if b=true then te dk T λr ac=>match sd r with
   | some c=>I.length<100000/\Nx (I++[c]) (ac.drop n)
   | none=>False
   else Nx I (T.drop n))
  (ae:Φ (.o (.l ((xs.filter p).map aa))) (oU j (nS j C) C)):∃ Pv:Nat->Aa D->Aa Sl->Prop,Pv 0 [] (nS j C) /\
   (∀ i d I U,(xs.map J)[i]?=some d->U.length=j.length->Pv i I U->g d (List.replicate n Sl.n++U) λab=>tt dk ab λb T=>if b=true then te dk T λr ac=>match sd r with
    | some c=>I.length<100000/\Pv (i+1) (I++[c]) (ac.drop n)
    | none=>False
    else Pv (i+1) I (T.drop n)) /\
   ∀ I U,U.length=j.length->Pv (xs.map J).length I U->Φ (.o (.l I)) (oU j U C) :=
 wW (ι:=λ_ _ a=>a (xs.map J) C) (dk:=dk) (ρ:=[]) xs J aa p C (λa h=>h) hl hs ae
section
variable {P:Ah}{K:lK}
theorem Yk:(["carried"]:Aa Af).Nodup:=by decide +kernel
theorem GL:(["carried","known"]:Aa Af).Nodup:=by decide +kernel
theorem vC:FnScope ["row","claim","table","starts","choices","known","fresh","width"] ["row","claim"] (mA Fe):=nZ
theorem FP (T:Txt mg) (I:Kn P w K mg base 5 "step_table" Gp ["row","weights"] R0) (U:Kn P w K mg base 2 "let_edges" C0 ["row","edges"] P8) (l:Kn P w K mg base 2 "word_inputs" yP ["row"] Bg) (aa:Kn P w K mg base 1 "all_bits" xL ["count"] Au) (g:Kn P w K mg base 2 "is_broken_by" Ci ["table","states","choices"] Km) (ab:Kn P w K mg base 5 "broken" Ez ["row","table","starts","width"] Px) (p:Kn P w K mg base 1 "carried_on" Bp ["table","states","choices"] Dr):nY P w K mg base 6 "judged" Fe ["row","claim"] Nz:=by
 refine oE vC λf av A ao s H E dk ds Φ W hu hR=>?_
 obtain⟨C,d,t,k,ef,rfl,X,ak,he,af,ae⟩:=hR;refine⟨_,(hO (mH 2 vC.nd (mF I W (dK (dT 0) (dK (mQ hu 1 lQ) gD)))) (hO (mH 3 vC.nd (mF U W (dK (dT 0) (dK (mQ hu 1 lQ) gD)))) (hO (mH 4 vC.nd (mF aa W (dK (qA uQ uW T.len cU (dK (mF l W (dK (dT 0) gD)) gD)) gD))) (hO (mH 5 vC.nd Ex) (hO (mH 6 vC.nd (dT 3)) (hO (mH 7 vC.nd lQ) (hO (Rk iF (Hu (pv 6)) (hO (Il (n:=7) vC.nd rfl (Or.inl rfl) lQ Kc) (hO (uP (E8 (mF g W (dK (dT 2) (dK (dT 6) (dK (dT 4) gD))))) (lZ (nK (mF ab W (dK (dT 0) (dK (dT 2) (dK (dT 3) (dK (dT 7) gD))))))) wY) (hO (tA (AG jH PySem.F.slot_dict_update PySem.F.type_dict_update (CD hu) KQ (pv 5) (dK (pD (BS rfl (Yq W)) Yo T.dict fC (dK (oK ["carried"] [] [] (nL (dT 6)) (λ_ _ _ _ _=>(lX 0 Yk)) (λ_ _ _ _ _=>(qO (dK (dT 0) (dK P0 gD))))) gD)) gD))) (lZ (Kd (ht:=λ_ _ _ _ _=>(yV (Ho (Hg hu) (Iw true) (dT 0) (pv 1)))) 6 ["carried"] ["known"] [5] vC.nd (nL (mF p W (dK (dT 2) (dK (dT 6) (dK (dT 4) gD))))) (λ_ _ _ _ _=>(lX 0 GL)) (λ_ _ _ _ _=>(dT 0)))))))) (lZ (nK (qO (dK mB (dK (pD wS xJ T.tuple dP (dK (qA (Wi rfl) Zz T.sorted PyProof.Rows.boot_sorted (zY (pv 5) gD)) gD)) gD)))))))))))),?_⟩;have l1:(wIns C d).length<=C.ins.length:=dH _ _;have li:=X.li;have aw:=wU (show (wIns C d).length<=6 by omega);have ax:=uD (wIns C d).length;have ay:=uD d.length;have ah:2 ^ d.length<=16:=bP (jW (by decide) ak) (by decide);obtain⟨st,S⟩:∃ st,st=tF d ef:=⟨_,rfl⟩;have Q:∀ c∈st,c∈eH d.length:=λc hc=>by rw[S] at hc;exact (bV.mp hc).1
 have snd:st.Nodup:=by rw[S];exact LA d ef
 rw[<- S] at af ae;have lO:pK C d (eH (wIns C d).length):=⟨by omega,λ_ h=>h⟩;refine lM (λu=>u=tL C d t k (.o (pZ C d t)) .n .n .n .n .n) (λN y=>?_) ?_
 .exact⟨rfl,_,rfl,C,d,t,rfl,X,.inl rfl,y _ rfl⟩
 rintro _ rfl;refine lM (λu=>u=tL C d t k (.o (pZ C d t)) (.o (lB st)) .n .n .n .n) (λN y=>?_) ?_
 .exact⟨rfl,_,rfl,C,d,k,ef,rfl,by omega,he,.inl rfl,by rw[<- S];exact y _ rfl⟩
 rintro _ rfl;refine lM (λu=>u=tL C d t k (.o (pZ C d t)) (.o (lB st)) (.o (lB (eH (wIns C d).length))) .n .n .n) (λN y=>?_) ?_
 .exact⟨C,d,rfl,by omega,by omega,.inl rfl,rfl,_,rfl,(wIns C d).length,by rw[aA],by omega,.inl rfl,y _ rfl⟩
 rintro _ rfl;refine lM (λu=>u=_) (λN y=>y _ rfl) ?_;rintro _ rfl;refine lM (λu=>u=_) (λN y=>y _ rfl) ?_;rintro _ rfl;refine lM (λu=>u=tL C d t k (.o (pZ C d t)) (.v (lB st)) (.o (lB (eH (wIns C d).length))) (.o (.T (nT []))) (.v (lB st)) (.v (.int 0))) (λN y=>y _ rfl) ?_;rintro _ rfl;refine lM (λu=>∃ L M O m w,Jd C d t st w m []/\u=tL C d t k L (.v (lB st)) M (.o (.T (nT m))) O (.v (.int w))) (λN y=>?_) ?_
 .refine⟨λu=>∃ (L M O:Sl) (m i:Aa (Aa Int)) (w:Nat),Jd C d t st w m i/\(L = .o (pZ C d t)\/L = .v (pZ C d t))/\(M = .o (lB (eH (wIns C d).length))\/M = .v (lB (eH (wIns C d).length)))/\(O = .o (lB i)\/O = .v (lB i))/\u=tL C d t k L (.v (lB st)) M (.o (.T (nT m))) O (.v (.int w)),W2,⟨_,_,_,[],st,0,Jd.start snd,.inl rfl,.inl rfl,.inr rfl,rfl⟩,?_⟩;rintro _ ⟨L,M,O,m,i,w,J,Z,h4,h6,rfl⟩;have B:∀ x∈m,x∈eH d.length:=λx V=>by
   obtain⟨n,_,h⟩:=(J.kn x).mp V;exact xA X Q h
  have frm:∀ x∈i,x∈eH d.length:=λx V=>xA X Q (J.mf x V).1
  have ag:(m++i).Nodup:=bK.mpr ⟨J.nk,J.nf,λa ha b ai e=>(J.mf b ai).2 (e▸ha)⟩;have aj:(m++i).length<=16:=bP (Cg ag λx V=>(bE.mp V).elim (B x) (frm x)) ah;rw[aW] at aj;have ac:xT d i:=⟨by omega,frm⟩;have wl:=J.wl;have Je:at? (tL C d t k L (.v (lB st)) M (.o (.T (nT m))) O (.v (.int w))) 6=some (lB i):=by rcases h6 with rfl | rfl<;>rfl
  unfold Ia;rw[Je];refine⟨rfl,!(i.map mC).isEmpty,rfl,?_⟩;by_cases R:i=[]
  .subst R;exact (aJ aT).mpr (y _ ⟨L,M,O,m,w,J,rfl⟩)
  have au:=iS.mpr R;have ie:(!(i.map mC).isEmpty)=true:=by
   cases i with
   | nil=>exact absurd rfl R
   | cons _ _=>rfl
  refine (aO ie).mpr ?_;refine lM (λu=>u=tL C d t k L (.v (lB st)) M (.o (.T (nT m))) O (.v (.int ((w+1:Nat):Int)))) (λN' G=>?_) ?_
  .show N' (tL C d t k L (.v (lB st)) M (.o (.T (nT m))) O (.v (.int ((w:Int)+1))));exact G _ (by push_cast;rfl)
  rintro _ rfl;refine lM (λu=>i.any (brkA C d t)=false/\u=zI C d t k st (.o (.T (nT m))) (.v (lB i)) (.v (.int ((w+1:Nat):Int)))) (λN' G=>?_) ?_
  .rcases Z with rfl | rfl<;>rcases h4 with rfl | rfl<;>rcases h6 with rfl | rfl<;>refine⟨C,d,t,i,eH (wIns C d).length,rfl,ac,lO,.inl rfl,rfl,_,rfl,?_⟩
   all_goals
    by_cases q:i.any (brkA C d t)=true
    .have hw:(lev C d st w).any (brkA C d t)=true:=by
      obtain⟨x,V,hb⟩:=cN.mp q;exact cN.mpr ⟨x,(J.mf x V).1,hb⟩
     refine (aO q).mpr ?_;obtain⟨s0,aq,hc⟩:=EK hw;cases hq:st.filter (λs=>nX C d t s (List.replicate (w+1) (eH (wIns C d).length))) with
     | nil =>
      have:s0∈st.filter (λs=>nX C d t s (List.replicate (w+1) (eH (wIns C d).length))):=bV.mpr ⟨aq,hc⟩;rw[hq] at this;exact (aY this).elim
     | cons e r=>exact⟨C,d,t,st,w+1,rfl,X,⟨by have:=Cg snd Q;omega,Q⟩,by omega,by omega,e,r,hq,.inl rfl,ae w e r (by omega) hw J.nb hq⟩
    .exact (aJ q).mpr (G _ ⟨by simpa using q,rfl⟩)
  rintro _ ⟨an,rfl⟩;refine lM (λu=>u=zI C d t k st (.o (.T (nT (m++i)))) (.v (lB i)) (.v (.int ((w+1:Nat):Int)))) (λN' G=>?_) ?_
  .refine⟨trivial,?_⟩;unfold dC aC;refine pH i mC (λc=>D.t [uH c,.b true]) (zI C d t k st (.o (.T (nT m))) (.v (lB i)) (.v (.int ((w+1:Nat):Int)))) (λΨ h=>h) (by omega) (λj c ys Nx e h1 Z=>⟨by show 2<=1000;decide,h1,Z⟩) ?_;refine⟨i.map λc=>(c,D.b true),by rw[aK];rfl,by rw[aA];omega,?_⟩;have e1:qY mP [] (i.map λc=>(c,D.b true))=nT i:=Pz i [] (by rw[fF];exact J.nf);rw[e1];refine⟨i,by unfold nT;rw[List.map_map];rfl,?_,by unfold nT;rw[List.length_map,List.length_map];omega,?_⟩
   .exact Mg (Wz d.length (by omega)) J.nf frm
   .show N' (tL C d t k _ _ _ (.o (.T (qG mP (nT m) (nT i)))) _ _);rw[Ta i m ag];exact G _ rfl
  rintro _ rfl;have key:∀ De:DEnds,(∀ Y:Aa (Aa Int),Y.Nodup->(∀ x,x∈Y↔x∈rN C d i (eH (wIns C d).length))->De.nx (zI C d t k st (.o (.T (nT (m++i)))) (.o (lB (Y.filter λx=>!decide (x∈m++i)))) (.v (.int ((w+1:Nat):Int))))) ->
    qU 6 (wX 1 [5] (iV (zD Dr (aC (vd 2) (aC (vd 6) (aC (vd 4) Bx))))) (gN 0) (zW (Kg (Ml true) (vd 0) 1)) (vd 0)) dk De (zI C d t k st (.o (.T (nT (m++i)))) (.v (lB i)) (.v (.int ((w+1:Nat):Int)))):=λDe hD=>by
   unfold qU wX iV;refine⟨C,d,t,i,eH (wIns C d).length,rfl,X,ac,lO,λY nn hn no=>⟨.inl rfl,?_⟩⟩;refine Yt (Φ:=λr ar=>De.nx (ar.set 6 r)) Y mC mC (λx=>!decide (x∈m++i)) (zI C d t k st (.o (.T (nT (m++i)))) (.v (lB i)) (.v (.int ((w+1:Nat):Int)))) (by have:=no.1;omega) (λj x ys Nx e h1 Z h3=>?_) (hD Y nn hn);refine⟨_,Zg x,?_⟩;show if (!(mG (nT (m++i)) (x.map Sum.inl)).isSome)=true then _ else _
   rw[Xn];by_cases q:x∈m++i
   .rw[bQ q];exact (aJ aT).mpr (h3 (by rw[bQ q];rfl))
   .rw[bM q];exact (aO rfl).mpr ⟨h1,Z (by rw[bM q];rfl)⟩
  refine key _ λY nn hn=>?_
  .refine⟨⟨_,_,_,m++i,_,w+1,J.step an R nn hn,.inr rfl,.inr rfl,.inl rfl,rfl⟩,?_⟩;show 100-(nT (m++i)).length<100-(nT m).length;unfold nT;rw[aA,aA,aW];omega
 rintro _ ⟨L,M,O,m,w,J,rfl⟩;have B:∀ x∈m,x∈eH d.length:=λx V=>by
  obtain⟨n,_,h⟩:=(J.kn x).mp V;exact xA X Q h
 have kl:m.length<=16:=bP (Cg J.nk B) ah;refine⟨rfl,m,?_,by omega,λZ b hb z=>?_,λys hp=>?_⟩
 .unfold nT;rw[List.map_map];rfl
 .subst z;have:=B [] hb;have l0:=(pP this).1;have:d.length=0:=l0.symm;rw[this] at B;have:=Cg J.nk B;simp at this;omega
 .refine⟨by show 2<=1000;decide,?_⟩;refine af ys (hp.nodup_iff.mpr J.nk) (λx=>?_) J.none;rw[hp.mem_iff];exact⟨λh=>let ⟨n,_,q⟩:=(J.kn x).mp h;⟨n,q⟩,λ⟨n,q⟩=>J.all n x q⟩
end
theorem yG:∀ k:Nat,k<4->nM ("pqrs" : Af).cps.toList ((k:Nat):Int)=some (112+k)/\(⟨#[112+k]⟩:Af)=sg k:=by decide +kernel
theorem yC:∀ k:Nat,k<5->(sg k).length<=10/\(qX k).length<=10/\(sJ k).length<=10:=by decide +kernel
def Oc:RD:=λd b c=>∃ m a:Nat,b=[.int m,.int a]/\1<=m/\m<=4/\a<=1/\c (.o (.l [.l ((qM m a (m-1)).map D.str),.str (sJ (m-1))]))
def R7:RD:=λc a b=>∃ m:Nat,a=[.int m]/\1<=m/\m<=4/\b (.o (.l [.l ((sE (m-1)++["f or " ++ sg (m-1) ++ " " ++ sg (m-1)]).map D.str),.str "f"]))
def Oy:RD:=λf h i=>∃ d c:Ad,f=[d,c]/\h=[.r (.ref d)]/\∀ (m a:Nat) (e:Bool),1<=m->m<=4->a<=1->(e=false->a=0)->i (.o (.l [.l ((sV ⟨m,e,a,0⟩).map D.str),.str (mN ⟨m,e,a,0⟩),.int m,.b e,.int a]))
section
variable {P:Ah}{K:lK}
theorem Zt:FnScope ["text"] ["text"] (mA Eh):=nZ
theorem BR (T:Txt g):nY P w K g base 1 "_law_words_text" Eh ["text"] Sd:=by
 refine oE Zt λf c A b s H E B G O u M n=>?_
 obtain⟨z,rfl,L,t,a⟩:=n;refine⟨_,(lZ (nK (oK ["word"] [] [] (nL (LZ PySem.F.plainAttrs_str iC PySem.F.type_str_split Vr Ys (pv 0) (dK mB gD))) (λ_ _ _ _ _=>(lX 0 EM)) (λ_ _ _ _ _=>(dT 0)) (ht:=λ_ _ _ _ _=>(yV (vV (Ke u.units) (sA true) (pv 0) mB)))))),?_⟩;refine wW (Txt.split z " ") D.str D.str (λx=>nb true (decide (x = ""))) [.v (.str z)] (λQ h=>⟨rfl,by decide,by omega,h⟩) ?_ (λi x N y e d k m=>⟨rfl,?_⟩) a
 .omega
 .show if (nb true (decide (x = "")))=true then _ else _
  cases q:decide (x = "") with
  | true=>exact m (by rw[q];rfl)
  | false=>exact⟨d,k (by rw[q];rfl)⟩
theorem vE:FnScope ["many","asked","step","rows","chain","k","last"] ["many","asked"] (mA Ew):=nZ
theorem J3:FnScope ["many","rows","k"] ["many"] (mA Fq):=nZ
theorem xG:FnScope ["deck","many","counts","asked","rows","last"] ["deck"] (mA Go):=nZ
abbrev rE (m g:Nat) (j l o p r:Sl):Aa Sl:=[.v (.int m),.v (.int g),j,l,o,p,r]
theorem IA (T:Txt mg):nY P w K mg base 1 "_law_counter" Ew ["many","asked"] Oc:=by
 refine oE vE λf g A S s H E j ds Φ hr y p=>?_
 obtain⟨m,c,rfl,m1,m4,a1,Q⟩:=p;refine⟨_,(hO (mH 2 vE.nd (oJ y (qF (dK mB (dK mB gD))) (dT 1))) (hO (mH 3 vE.nd (qF (dK (dT 2) gD))) (hO (mH 4 vE.nd mB) (hO (qW (Fl (by rfl) T.range (dT 0)) (lX 5 vE.nd) (hO (tA (tP cC cJ cK tJ vD (pv 3) (dK (mR nD nC (mR nD nC (mR nD nC (mR nD nC (mR nD nC mB (oJ y mB (dT 5))) mB) (oJ y mB (dT 5))) mB) (dT 4)) gD))) (hO (tA (tP cC cJ cK tJ vD (pv 3) (dK (mR nD nC (mR nD nC (mR nD nC (mR nD nC (mR nD nC mB (oJ y mB (dT 5))) mB) (oJ y mB (dT 5))) mB) (dT 4)) gD))) (lZ (mH 4 vE.nd (mR nD nC mB (oJ y mB (dT 5)))))))) (hO (tA (tP cC cJ cK tJ vD (pv 3) (dK mB gD))) (hO (mH 6 vE.nd mB) (hO (qW (P2 (by rfl) T.range lQ (dT 0)) (lX 5 vE.nd) (hO (tA (tP cC cJ cK tJ vD (pv 3) (dK (mR nD nC (mR nD nC (mR nD nC (mR nD nC (mR nD nC mB (oJ y mB (dT 5))) mB) (dT 6)) mB) (oJ y mB (dT 5))) gD))) (lZ (mH 6 vE.nd (mR nD nC mB (oJ y mB (dT 5))))))) (lZ (nK (qF (dK (dT 3) (dK (dT 6) gD)))))))))))),?_⟩;refine lM (λd=>d=rE m c (.v (.str ((["u one","u and a a"]:Aa Af).getD c ""))) .n .n .n .n) (λN t=>?_) ?_
 .refine⟨by show 2<=1000;decide,?_⟩;have:c=0\/c=1:=by omega
  rcases this with rfl | rfl
  .exact⟨_,rfl,t _ rfl⟩
  .exact⟨_,rfl,t _ rfl⟩
 rintro _ rfl;refine lM (λd=>d=rE m c (.v (.str ((["u one","u and a a"]:Aa Af).getD c ""))) (.o (.l ((tD c 0).map D.str))) .n .n .n) (λN t=>⟨by show 1<=1000;decide,t _ rfl⟩) ?_;rintro _ rfl;refine lM (λd=>d=rE m c (.v (.str ((["u one","u and a a"]:Aa Af).getD c ""))) (.o (.l ((tD c 0).map D.str))) (.v (.str (qX 0))) .n .n) (λN t=>t _ rfl) ?_;rintro _ rfl;have X:∀ i,(tD c i).length<=2*i+1:=λi=>by
  induction i with
  | zero=>exact aP _
  | succ i J=>unfold tD;rw[List.length_append];show _+2<=_;omega
 refine lM (λd=>∃ k q,d=rE m c k (.o (.l ((tD c m).map D.str))) (.v (.str (qX m))) q .n) (λN t=>?_) ?_
 .refine qR (oG 0 m) _ (λΨ h=>⟨by omega,by omega,by rw[cR];exact h⟩) (λi d=>∃ k q,d=rE m c k (.o (.l ((tD c i).map D.str))) (.v (.str (qX i))) q .n) ⟨_,.n,rfl⟩ ?_ ?_
  .rintro i x d B ⟨k,q,rfl⟩;obtain⟨I,rfl⟩:=zS B;obtain⟨g1,g2⟩:=yG i (by omega);have M:(0:Int)+(i:Int)=(i:Int):=by omega
   rw[M];have z:i<4:=by omega
   obtain⟨Y,b2,Z⟩:=yC i (by omega);have U:=X i;have put:∀ (a b:Af) (r:a.length<=10) (C:b.length<=10) (F:Aa Af) (B:F.length<=100) (G:DEnds),G.nx (rE m c k (.o (.l ((F++[a++sg i++b++sg i ++ " " ++ qX i]).map D.str))) (.v (.str (qX i))) (.v (.int i)) .n) ->
     K3 (dW "list" Sk 3 (aC (d2 zT (d2 zT (d2 zT (d2 zT (d2 zT (cd (.str a)) (d2 wH (cd (.str "pqrs")) (vd 5))) (cd (.str b))) (d2 wH (cd (.str "pqrs")) (vd 5))) (cd (.str " "))) (vd 4)) Bx)) j G (rE m c k (.o (.l (F.map D.str))) (.v (.str (qX i))) (.v (.int i)) .n):=λa b r C F B G W=>by
    have q1:(a++sg i).length<=20:=by rw[qZ];omega
    have q2:(a++sg i++b).length<=30:=by rw[qZ];omega
    have q3:(a++sg i++b++sg i).length<=40:=by rw[qZ];omega
    have q4:(a++sg i++b++sg i ++ " ").length<=50:=by rw[qZ];have:(" " : Af).length=1:=rfl;omega
    have V:(" " : Af).length=1:=rfl;refine⟨rfl,by decide,_,g1,?_⟩;rw[g2];refine⟨by omega,by omega,by decide,_,g1,?_⟩;rw[g2];refine⟨by omega,by omega,by omega,?_⟩;refine⟨by rw[aA];omega,?_⟩;rw[aZ] at W;exact W
   refine lM (λd=>d=rE m c k (.o (.l ((tD c i++["d" ++ sg i ++ " odd " ++ sg i ++ " " ++ qX i]).map D.str))) (.v (.str (qX i))) (.v (.int i)) .n) (λL u=>put "d" " odd " (by decide) (by decide) _ (by omega) _ (u _ rfl)) ?_;rintro _ rfl;refine lM (λd=>d=rE m c k (.o (.l ((tD c (i+1)).map D.str))) (.v (.str (qX i))) (.v (.int i)) .n) (λL u=>?_) ?_
   .refine put "e" " and " (by decide) (by decide) _ (by rw[aW];show _+1<=100;omega) _ (u _ ?_);rw[bH];rfl
   rintro _ rfl;have V:("e" : Af).length=1:=rfl;refine⟨by decide,_,g1,?_⟩;rw[g2];exact⟨by omega,k,.v (.int i),rfl⟩
  .rintro d ⟨k,q,rfl⟩;have O:(oG 0 m).length=m:=by unfold oG;simp
   rw[O];exact t _ ⟨k,q,rfl⟩
 rintro _ ⟨k,q,rfl⟩;have aa:=X m;have R:∀ i,(qM m c i).length<=2*m+2+i:=λi=>by
  induction i with
  | zero=>unfold qM;rw[List.length_append];show _+1<=_;omega
  | succ i J=>unfold qM;rw[List.length_append];show _+1<=_;omega
 refine lM (λd=>d=rE m c k (.o (.l ((qM m c 0).map D.str))) (.v (.str (qX m))) q .n) (λN t=>?_) ?_
 .refine⟨rfl,by rw[aA];omega,?_⟩;have:(tD c m).map D.str++[D.str "f and p p"]=(qM m c 0).map D.str:=by unfold qM;rw[List.map_append];rfl
  show N (rE m c k (.o (.l ((tD c m).map D.str++[D.str "f and p p"]))) _ _ _);rw[this];exact t _ rfl
 rintro _ rfl;refine lM (λd=>d=rE m c k (.o (.l ((qM m c 0).map D.str))) (.v (.str (qX m))) q (.v (.str (sJ 0)))) (λN t=>t _ rfl) ?_;rintro _ rfl;refine lM (λd=>∃ q,d=rE m c k (.o (.l ((qM m c (m-1)).map D.str))) (.v (.str (qX m))) q (.v (.str (sJ (m-1))))) (λN t=>?_) ?_
 .refine qR (oG 1 (m-1)) _ (λΨ h=>?_) (λi d=>∃ q,d=rE m c k (.o (.l ((qM m c i).map D.str))) (.v (.str (qX m))) q (.v (.str (sJ i)))) ⟨q,rfl⟩ ?_ ?_
  .refine⟨⟨by decide,by decide,by omega,by omega⟩,?_⟩;rw[show ((m:Int)-1).toNat=m-1 by omega];exact h
  .rintro i x d B ⟨q,rfl⟩;obtain⟨I,rfl⟩:=zS B;have M:(1:Int)+(i:Int)=((i+1:Nat):Int):=by omega
   rw[M];have z:i+1<4:=by omega
   obtain⟨Y,_,_⟩:=yC (i+1) (by omega);obtain⟨_,_,Z⟩:=yC i (by omega);have:=R i;refine lM (λd=>d=rE m c k (.o (.l ((qM m c (i+1)).map D.str))) (.v (.str (qX m))) (.v (.int ((i+1:Nat):Int))) (.v (.str (sJ i)))) (λL u=>?_) ?_
   .have V:("f" : Af).length=1:=rfl;have q1:("f" ++ sg (i+1)).length<=20:=by rw[qZ];omega
    have q5:(" and " : Af).length=5:=rfl;have q6:(" " : Af).length=1:=rfl;have q2:("f" ++ sg (i+1) ++ " and ").length<=30:=by rw[qZ];omega
    have q3:("f" ++ sg (i+1) ++ " and " ++ sJ i).length<=40:=by rw[qZ];omega
    have q4:("f" ++ sg (i+1) ++ " and " ++ sJ i ++ " ").length<=50:=by rw[qZ];omega
    obtain⟨g1,g2⟩:=yG (i+1) z;refine⟨rfl,by decide,_,g1,?_⟩;rw[g2];refine⟨by omega,by omega,by omega,by omega,by decide,_,g1,?_⟩;rw[g2];refine⟨by omega,by rw[aA];omega,?_⟩;have e:(qM m c i).map D.str++[D.str ("f" ++ sg (i+1) ++ " and " ++ sJ i ++ " " ++ sg (i+1))]=(qM m c (i+1)).map D.str:=by
     show _=(qM m c i++_).map D.str;rw[aZ];rfl
    show L (rE m c k (.o (.l ((qM m c i).map D.str++[D.str ("f" ++ sg (i+1) ++ " and " ++ sJ i ++ " " ++ sg (i+1))]))) _ _ _);rw[e];exact u _ rfl
   rintro _ rfl;have V:("f" : Af).length=1:=rfl;obtain⟨g1,g2⟩:=yG (i+1) z;refine⟨by decide,_,g1,?_⟩;rw[g2];exact⟨by omega,_,rfl⟩
  .rintro d ⟨q,rfl⟩;have O:(oG 1 (m-1)).length=m-1:=by unfold oG;simp
   rw[O];exact t _ ⟨q,rfl⟩
 rintro _ ⟨q,rfl⟩;exact⟨by show 2<=1000;decide,Q⟩
abbrev Gg (m:Nat) (g j:Sl):Aa Sl:=[.v (.int m),g,j]
theorem BL (T:Txt g):nY P w K g base 1 "_law_register" Fq ["many"] R7:=by
 refine oE J3 λf B A u s H E W X Φ Z q G=>?_
 obtain⟨m,rfl,p,r,t⟩:=G;refine⟨_,(hO (mH 1 J3.nd (qF (dK mB (dK mB gD)))) (hO (qW (P2 (by rfl) T.range lQ (dT 0)) (lX 2 J3.nd) (lZ (tA (tP cC cJ cK tJ vD (pv 1) (dK (mR nD nC (mR nD nC (mR nD nC (mR nD nC (mR nD nC mB (oJ q mB (dT 2))) mB) (oJ q mB (sL uJ uF 2 lQ))) mB) (oJ q mB (sL uJ uF 2 lQ))) gD))))) (hO (tA (tP cC cJ cK tJ vD (pv 1) (dK (mR nD nC (mR nD nC (mR nD nC mB (oJ q mB (sL uJ uF 0 lQ))) mB) (oJ q mB (sL uJ uF 0 lQ))) gD))) (lZ (nK (qF (dK (dT 1) (dK mB gD)))))))),?_⟩;have C:("d" : Af).length=1:=rfl;have I:(" and " : Af).length=5:=rfl;have J:(" " : Af).length=1:=rfl;have U:("f or " : Af).length=5:=rfl;have y:∀ i,(sE i).length<=i+2:=λi=>by
  induction i with
  | zero=>exact aP _
  | succ i j=>unfold sE;rw[List.length_append];show _+1<=_;omega
 refine lM (λa=>a=Gg m (.o (.l ((sE 0).map D.str))) .n) (λN c=>⟨by show 2<=1000;decide,c _ rfl⟩) ?_;rintro _ rfl;refine lM (λa=>∃ b,a=Gg m (.o (.l ((sE (m-1)).map D.str))) b) (λN c=>?_) ?_
 .refine qR (oG 1 (m-1)) _ (λΨ h=>?_) (λi a=>∃ b,a=Gg m (.o (.l ((sE i).map D.str))) b) ⟨.n,rfl⟩ ?_ ?_
  .refine⟨⟨by decide,by decide,by omega,by omega⟩,?_⟩;rw[show ((m:Int)-1).toNat=m-1 by omega];exact h
  .rintro i x a L ⟨b,rfl⟩;obtain⟨Y,rfl⟩:=zS L;have F:(1:Int)+(i:Int)=((i+1:Nat):Int):=by omega
   rw[F];obtain⟨g1,g2⟩:=yG (i+1) (by omega);obtain⟨g3,k⟩:=yG i (by omega);obtain⟨V,_,_⟩:=yC (i+1) (by omega);obtain⟨z,_,_⟩:=yC i (by omega);have d:((i+1:Nat):Int)-1=(i:Int):=by omega
   have R:("d" ++ sg (i+1)).length<=20:=by rw[qZ];omega
   have S:("d" ++ sg (i+1) ++ " and ").length<=30:=by rw[qZ];omega
   have z3:("d" ++ sg (i+1) ++ " and " ++ sg i).length<=40:=by rw[qZ];omega
   have z4:("d" ++ sg (i+1) ++ " and " ++ sg i ++ " ").length<=50:=by rw[qZ];omega
   have O:=y i;refine⟨rfl,by decide,_,g1,?_⟩;rw[g2];refine⟨by omega,by omega,rfl,by decide,112+i,?_,?_⟩
   .show nM ("pqrs" : Af).cps.toList (((i+1:Nat):Int)-1)=_;rw[d];exact g3
   rw[k];refine⟨by omega,by omega,rfl,by decide,112+i,?_,?_⟩
   .show nM ("pqrs" : Af).cps.toList (((i+1:Nat):Int)-1)=_;rw[d];exact g3
   rw[k];refine⟨by omega,by rw[aA];omega,.v (.int ((i+1:Nat):Int)),?_⟩;have e:(sE i).map D.str++[D.str ("d" ++ sg (i+1) ++ " and " ++ sg i ++ " " ++ sg i)]=(sE (i+1)).map D.str:=by
    show _=(sE i++_).map D.str;rw[aZ];rfl
   rw[<- e];rfl
  .rintro a ⟨b,rfl⟩;have M:(oG 1 (m-1)).length=m-1:=by unfold oG;simp
   rw[M];exact c _ ⟨b,rfl⟩
 rintro _ ⟨b,rfl⟩;have Q:=y (m-1);obtain⟨g3,k⟩:=yG (m-1) (by omega);obtain⟨z,_,_⟩:=yC (m-1) (by omega);have d:(m:Int)-1=((m-1:Nat):Int):=by omega
 refine lM (λa=>a=Gg m (.o (.l ((sE (m-1)++["f or " ++ sg (m-1) ++ " " ++ sg (m-1)]).map D.str))) b) (λN c=>?_) ?_
 .have R:("f or " ++ sg (m-1)).length<=20:=by rw[qZ];omega
  have S:("f or " ++ sg (m-1) ++ " ").length<=30:=by rw[qZ];omega
  refine⟨rfl,rfl,by decide,112+(m-1),?_,?_⟩
  .show nM ("pqrs" : Af).cps.toList ((m:Int)-1)=_;rw[d];exact g3
  rw[k];refine⟨by omega,by omega,rfl,by decide,112+(m-1),?_,?_⟩
  .show nM ("pqrs" : Af).cps.toList ((m:Int)-1)=_;rw[d];exact g3
  rw[k];refine⟨by omega,by rw[aA];omega,?_⟩;rw[aZ] at c;exact c _ rfl
 rintro _ rfl;exact⟨by show 2<=1000;decide,t⟩
theorem IZ (T:Txt p) (g:Kn P w K p base 1 "_law_take" Rt ["deck","many"] C1) (o:Kn P w K p base 1 "_law_counter" Ew ["many","asked"] Oc) (j:Kn P w K p base 1 "_law_register" Fq ["many"] R7):nY P w K p base 2 "_law_late" Go ["deck"] Oy:=by
 refine oE xG λf G A B s H E M O R q Q L=>?_
 obtain⟨d,c,rfl,rfl,t⟩:=L;refine⟨_,(hO (mH 1 xG.nd (mR nD nC lQ (mF g q (dK (dT 0) (dK lQ gD))))) (hO (mH 2 xG.nd (C8 FU DM (mF g q (dK (dT 0) (dK lQ gD))) lQ)) (hO (mH 3 xG.nd (mR xZ yA (pD Gm Et T.int iJ (dK (dT 2) gD)) (mF g q (dK (dT 0) (dK lQ gD))))) (hO (uP (Hu (pv 2)) (lZ (Db (m:=99) (mF o q (dK (dT 1) (dK (dT 3) gD))) (F5 (n:=2) rfl (oA (lX 4 xG.nd) (oA (lX 5 xG.nd) sP))))) (lZ (Db (m:=99) (mF j q (dK (dT 1) gD)) (F5 (n:=2) rfl (oA (lX 4 xG.nd) (oA (lX 5 xG.nd) sP)))))) (lZ (nK (qF (dK (dT 4) (dK (dT 5) (dK (dT 1) (dK (dT 2) (dK (dT 3) gD)))))))))))),?_⟩;refine lM (λh=>∃ m:Nat,1<=m/\m<=4/\h=[.v (.r (.ref d)),.v (.int m),.n,.n,.n,.n]) (λN e=>?_) ?_
 .exact⟨d,c,4,rfl,rfl,by decide,by decide,λr k=>⟨.inl rfl,e _ ⟨1+r,by omega,by omega,by push_cast;rfl⟩⟩⟩
 rintro _ ⟨m,u,x,rfl⟩;refine lM (λh=>∃ i:Bool,h=[.v (.r (.ref d)),.v (.int m),.v (.b i),.n,.n,.n]) (λN e=>?_) ?_
 .exact⟨d,c,3,rfl,rfl,by decide,by decide,λr k=>⟨.inl rfl,e _ ⟨_,rfl⟩⟩⟩
 rintro _ ⟨i,rfl⟩;refine lM (λh=>∃ a:Nat,a<=1/\(i=false->a=0)/\h=[.v (.r (.ref d)),.v (.int m),.v (.b i),.v (.int a),.n,.n]) (λN e=>?_) ?_
 .cases i with
  | true =>
   refine⟨d,c,2,rfl,rfl,by decide,by decide,λr k=>⟨.inl rfl,.inl ⟨by decide,by decide⟩,e _ ⟨r,by omega,(λz=>nomatch z),?_⟩⟩⟩;show [_,_,_,Sl.v (D.int (1*(r:Int))),_,_]=_;rw[lH]
  | false =>
   refine⟨d,c,2,rfl,rfl,by decide,by decide,λr k=>⟨.inl rfl,.inl ⟨by decide,by decide⟩,e _ ⟨0,by decide,λ_=>rfl,?_⟩⟩⟩;show [_,_,_,Sl.v (D.int (0*(r:Int))),_,_]=_;rw[kZ];rfl
 rintro _ ⟨a,y,F,rfl⟩;cases i with
 | true =>
  refine lM (λh=>h=[.v (.r (.ref d)),.v (.int m),.v (.b true),.v (.int a),.v (.l ((qM m a (m-1)).map D.str)),.v (.str (sJ (m-1)))]) (λN e=>?_) ?_
  .exact⟨rfl,true,rfl,(aO rfl).mpr ⟨m,a,rfl,u,x,y,.inl rfl,rfl,rfl,e _ rfl⟩⟩
  rintro _ rfl;exact⟨by show 5<=1000;decide,t m a true u x y F⟩
 | false =>
  refine lM (λh=>h=[.v (.r (.ref d)),.v (.int m),.v (.b false),.v (.int a),.v (.l ((sE (m-1)++["f or " ++ sg (m-1) ++ " " ++ sg (m-1)]).map D.str)),.v (.str "f")]) (λN e=>?_) ?_
  .exact⟨rfl,false,rfl,(aJ aT).mpr ⟨m,rfl,u,x,.inl rfl,rfl,rfl,e _ rfl⟩⟩
  rintro _ rfl;exact⟨by show 5<=1000;decide,t m a false u x y F⟩
end
end Lw
namespace L2
open PySem PySem.Spec PyProof.Rows Lw
def uM (z:Af):Aa Af:=z.cps.toList.map λc=>(⟨#[c]⟩:Af)
section
variable {X:Cx}{K:lK}
def Uf:Aa V->Hp->VK->Prop:=λa H Q=>∃ z:Af,a=[.str z]/\z.length<=1000/\∀ l,H l=none->Q (.ref l) (upd H l (.l ((uM z).map V.str)))
theorem Si (g:X.calm=true):nF X (.type "list") Uf:=by
 intro D s R H P b Q I r h;obtain⟨z,rfl,k,q⟩:=h;obtain⟨u,rfl,t,rfl⟩:=oS r;have k:z.cps.size<=1000:=k;refine call_list_str (I.ok.hd g) z t (λO M d c F m A=>?_) (bP k (by decide));obtain⟨G,L⟩:=A;have rel:lL ((uM z).map V.str) d.toList:=by
  have go:∀ (f:Aa Nat) (b:Aa Ac),b.length=f.length->(∀ (i:Nat) v,b[i]?=some v->∃ c u,f[i]?=some c/\v=Value.str ⟨#[c]⟩ u)->lL ((f.map λc=>(⟨#[c]⟩:Af)).map V.str) b:=λf=>by
   induction f with
   | nil=>intro b e _;cases b with
    | nil=>exact .nil
    | cons _ _=>cases e
   | cons c f E =>
    intro b e B;cases b with
    | nil=>cases e
    | cons u b =>
     obtain⟨N,w,n,x⟩:=B 0 u rfl;cases n;exact .cons ⟨w,x⟩ (E b (Nat.succ.inj e) λi v y=>B (i+1) v y)
  exact go z.cps.toList d.toList (by rw[dJ,dJ];exact G) λi v y=>by
   obtain⟨c,u,n,x⟩:=L i v (by rw[<- dF];exact y);exact⟨c,u,by rw[dF];exact n,x⟩
 exact⟨.ref s.heap.objs.size,_,I.laid (a:=s.heap.objs.size) (o:=.l ((uM z).map V.str)) (t':=M) F (aP _) ⟨by unfold uM;rw[List.length_map,List.length_map,Array.length_toList];exact bP k (by decide),d.toList,c,rel,by rw[Array.toArray_toList];exact m⟩,rfl,q _ (I.hok.fresh (aP _))⟩
def HM:OC:=λa b=>match a with
 | [.str z]=>z.length<=1000/\b (.o (.l ((uM z).map D.str)))
 | _=>False
theorem Pm:pW K Uf HM:=by
 intro B L H b m n Q hd e a k;cases b with
 | nil=>exact False.elim a
 | cons d b =>
 cases d<;>first | exact False.elim a | skip<;>cases b<;>first | exact False.elim a | skip
 rename_i z
 obtain⟨x,rfl,h⟩:=pV e;have:=h.str_inv;subst this;refine⟨z,rfl,a.1,λl c=>k _ _ _ a.2 (hd.lstF c ?_)⟩;generalize uM z=i;induction i with
 | nil=>exact .nil
 | cons x r f=>exact .cons (.str x) f
end
end L2
namespace Lw
open PySem L2
theorem AW:(["text"]:Aa Af).Nodup:=by decide +kernel
theorem Jt:(["one","names"]:Aa Af).Nodup:=by decide +kernel
theorem Ur:(["pair"]:Aa Af).Nodup:=by decide +kernel
theorem DB (f:j->D) (g:Aa j) (k:Nat):tE (g.map f) (some (k:Int)) none=(g.drop k).map f:=by
 unfold tE;rw[aA,HT.sIx_nat,HT.sIx_none,List.map_drop,bW (by simp)];by_cases h:k<=g.length
 .rw[lF h]
 .rw[Nat.min_eq_right (by omega),List.drop_eq_nil_of_le (by simp),List.drop_eq_nil_of_le (by simp;omega)]
theorem Q4:∀ m:Nat,m<5->uM (pC "pqrs" none (some ((m:Nat):Int)))=(List.range m).map sg/\(pC "pqrs" none (some ((m:Nat):Int))).length<=1000/\(pC "pqrs" none (some ((m:Nat):Int))).cps.all (·<128)=true:=by decide +kernel
theorem Pc (z:Af):tH z=(uM z).map D.str:=by unfold tH uM;rw[List.map_map];rfl
def Oz:RD:=λa b e=>∃ (d c:Ad) (k:Lt),a=[d,c]/\b=[.r (.ref d),.l ((sV k).map D.str),.str (mN k),.int k.m,.l ((lU k).map D.str)]/\k∈oI /\
 ∀ (t:Av) (C:Cel) (al:Aa (Af×Af)),Rnd (mD k) C (lY k) al (mI t)->RwOk C al->t.map (·.1)=(mD k).names->(∀ x∈C.names,x ≠ "")->e (.o (.l [mS C al,.k (mJ t)]))
abbrev rH (d:Ad) (k:Lt) (p C I J T U g j o:Sl):Aa Sl:=[.v (.r (.ref d)),.v (.l ((sV k).map D.str)),.v (.str (mN k)),.v (.int k.m),p,C,I,J,T,U,g,j,o]
section
variable {P:Ah}{K:lK}
theorem uV:FnScope ["deck","rows","last","many","ins","own","names","gates","text","parts","along","outs","cell"] ["deck","rows","last","many","ins"] (mA C2):=nZ
theorem CA (T:Txt mg) (I:Kn P w K mg base 1 "_law_words_text" Eh ["text"] Sd) (J:Kn P w K mg base 3 "_law_names" Fb ["deck","many"] Kz) (C:Kn P w K mg base 2 "_law_shuffled" Dp ["deck","some"] Nn):nY P w K mg base 4 "_law_made_late" C2 ["deck","rows","last","many","ins"] Oz:=by
 refine oE uV λf aw A aq s H E dk ds Φ hr hu hR=>?_
 obtain⟨d,c,k,rfl,rfl,hk,ao⟩:=hR;refine⟨_,(hO (mH 5 uV.nd (mR nD nC (sL nD nC 4 (pD (Si rfl) Pm T.list gC (dK (Ai zB xR mB yW (xQ (dT 3))) gD))) (oK ["text"] [] [] (nL (dT 1)) (λ_ _ _ _ _=>(lX 0 AW)) (λ_ _ _ _ _=>(oJ hu (mF I hr (dK (dT 0) gD)) lQ))))) (hO (mH 6 uV.nd (Gk rfl (by rfl) T.dict (by rfl) T.zip (dK (dT 5) (dK (mF J hr (dK (dT 0) (dK (qA uQ uW T.len cU (dK (dT 5) gD)) gD))) gD)))) (hO (mH 7 uV.nd (qF gD)) (hO (qW (nL (dT 1)) (lX 8 uV.nd) (hO (mH 9 uV.nd (mF I hr (dK (dT 8) gD))) (lZ (tA (tP cC cJ cK tJ vD (pv 7) (dK (qO (dK (mQ hu 6 (mQ hu 9 lQ)) (dK (mQ hu 9 lQ) (dK (pD wS xJ T.tuple dP (dK (oK ["one"] ["names"] [6] (nL (GS zB xR (pv 9) (xQ lQ) yW)) (λ_ _ _ _ _=>(lX 0 Jt)) (λ_ _ _ _ _=>(mQ hu 1 (dT 0)))) gD)) gD)))) gD)))))) (hO (Kd 10 ["one"] ["names"] [6] uV.nd (nL (Ai zB xR mB yW (xQ (dT 3)))) (λ_ _ _ _ _=>(lX 0 Jt)) (λ_ _ _ _ _=>(qO (dK (mQ hu 1 (mR nD nC mB (dT 0))) (dK (mQ hu 1 (dT 0)) gD))))) (hO (mH 11 uV.nd (mR nD nC (qF (dK (mQ hu 6 (dT 2)) gD)) (oK ["pair"] [] [] (nL (dT 10)) (λ_ _ _ _ _=>(lX 0 Ur)) (λ_ _ _ _ _=>(mQ hu 0 lQ))))) (hO (Kd 4 ["one"] ["names"] [6] uV.nd (nL (mF C hr (dK (dT 0) (dK (sL nD nC 4 (pD (Si rfl) Pm T.list gC (dK (Ai zB xR mB yW (xQ (dT 3))) gD))) gD)))) (λ_ _ _ _ _=>(lX 0 Jt)) (λ_ _ _ _ _=>(mQ hu 1 (dT 0)))) (hO (mH 12 uV.nd (qO (dK (pD wS xJ T.tuple dP (dK (dT 4) gD)) (dK (pD wS xJ T.tuple dP (zY (pv 7) gD)) (dK (pD wS xJ T.tuple dP (dK (mF C hr (dK (dT 0) (dK (dT 11) gD))) gD)) gD))))) (lZ (nK (qF (dK (qO (dK (dT 12) (dK (pD wS xJ T.tuple dP (dK (mF C hr (dK (dT 0) (dK (dT 10) gD))) gD)) gD))) (dK (dT 6) gD))))))))))))),?_⟩;have o:=Bd hk;have F:=xP hk;obtain⟨b1,b2,b3,b4,b5,b6⟩:=o.b;obtain⟨q1,q2,q3⟩:=Q4 k.m (by omega);have lI:(lU k).length<=2:=by unfold lU;rw[List.length_take];omega
 have ay:(oH k).length=k.m:=by unfold oH;rw[List.length_map,List.length_range]
 have lR:(sV k).length<=14:=by have:=o.lg;unfold oQ at this;rw[List.length_map] at this;exact this
 have lG:=o.lg;have lP:(lY k).length=k.m:=by unfold lY;rw[List.length_map,List.length_range]
 have en:(mD k).names=(lU k++oH k)++(oQ k).map (·.1):=rfl;have af:(uM (pC "pqrs" none (some ((k.m:Nat):Int)))).map D.str=(oH k).map D.str:=by rw[q1];rfl
 have lN:(mD k).names.length<=40:=by rw[en,aW,aW,aA];omega
 obtain⟨a,X⟩:∃ a,a=(mD k).names:=⟨_,rfl⟩;refine lM (λB=>B=rH d k (.v (.l ((lU k).map D.str))) (.o (.l (a.map D.str))) .n .n .n .n .n .n .n) (λN W=>?_) ?_
 .unfold qU d2 tR dC aC;refine⟨rfl,by decide,q2,?_⟩;rw[af];refine⟨by rw[aA,aA];omega,?_⟩;refine pH (sV k) D.str (λx=>.str ((nV x).getD 0 "")) (rH d k (.v (.l ((lU k).map D.str))) .n .n .n .n .n .n .n .n) (λΨ h=>h) (by omega) (λj x ys Nx e U h2=>?_) ?_
  .obtain⟨w1,w2,w3,w4⟩:=o.rw x (aQ e);refine⟨x,rfl,w3,w4,.inl rfl,.str ((nV x).getD 0 ""),sC (j:=0) ?_,U,h2⟩;rw[bD,aD (by omega),bC,aD (by omega)];rfl
  .refine⟨by rw[aW,aA,aA,aA];omega,W _ ?_⟩;have:a.map D.str=((lU k).map D.str++(oH k).map D.str)++(sV k).map (λx=>D.str ((nV x).getD 0 "")):=by
    rw[X,en,aZ,aZ];unfold oQ;rw[aK,aK];rfl
   rw[this];rfl
 rintro _ rfl;refine lM (λB=>∃ Y:Aa Af,Y.length=a.length/\Y.Nodup/\(∀ x∈Y,GoodName x)/\B=rH d k (.v (.l ((lU k).map D.str))) (.v (.l (a.map D.str))) (.o (.k (mJ (a.zip Y)))) .n .n .n .n .n .n) (λN W=>?_) ?_
 .refine⟨rfl,_,rfl,d,c,(a.map D.str).length,rfl,rfl,by rw[aA,X];exact lN,λY lx nd gn=>⟨.inl rfl,false,false,_,_,_,rfl,rfl,Cu a,by rw[aA,X];omega,?_⟩⟩;have ah:Y.length=a.length:=by rw[lx,aA]
  rw[Tr,Zf (by rw[Js _ _ ah.symm,X];exact F.gc.nd)];exact W _ ⟨Y,ah,nd,gn,rfl⟩
 rintro B ⟨Y,lx,au,ar,rfl⟩;have tk:(a.zip Y).map (·.1)=a:=Js _ _ lx.symm;have ab:∀ o∈a,mI (a.zip Y) o∈Y:=λo ho=>Ek lx.symm ho
 have u:∀ o∈a,∀ o'∈a,mI (a.zip Y) o=mI (a.zip Y) o'->o=o':=λo ho o' an e=>Ue lx.symm au ho an e
 generalize ht:a.zip Y=t at tk ab u |-;have ky:∀ o∈(mD k).names,o∈t.map (·.1):=λo ho=>by rw[tk,X];exact ho
 have gP:∀ g∈oQ k,g.1∈(mD k).names/\∀ p∈g.2.2,p∈(mD k).names:=λg hg=>by
  refine⟨bA _ (aH.mpr ⟨g,hg,rfl⟩),λp G=>?_⟩;obtain⟨j,hj,rfl⟩:=cW hg;have U:=(Tx F.gc.gt (i:=j) (g:=(oQ k)[j]) (aD hj)).2 p G;rcases bE.mp U with q | q
  .exact bB _ q
  .obtain⟨g',ak,rfl⟩:=aH.mp q;exact bA _ (aH.mpr ⟨g',gS ak,rfl⟩)
 refine lM (λB=>B=rH d k (.v (.l ((lU k).map D.str))) (.v (.l (a.map D.str))) (.o (.k (mJ t))) (.o (.l [])) .n .n .n .n .n) (λN W=>⟨by show 0<=1000;decide,W _ rfl⟩) ?_;rintro _ rfl;refine lM (λB=>∃ Q R,B=rH d k (.v (.l ((lU k).map D.str))) (.v (.l (a.map D.str))) (.o (.k (mJ t))) (.o (.l (((oQ k).map (ren (mI t))).map rG))) Q R .n .n .n) (λN W=>?_) ?_
 .refine qR ((sV k).map D.str) _ (λΨ h=>h) (λi B=>∃ Q R,B=rH d k (.v (.l ((lU k).map D.str))) (.v (.l (a.map D.str))) (.o (.k (mJ t))) (.o (.l ((((oQ k).take i).map (ren (mI t))).map rG))) Q R .n .n .n) ⟨.n,.n,rfl⟩ ?_ ?_
  .rintro i x B O ⟨Q,R,rfl⟩;obtain⟨z,hz,rfl⟩:=vX O;obtain⟨w1,w2,w3,w4⟩:=o.rw z (aQ hz);have gi:(oQ k)[i]?=some ((nV z).getD 0 "",(nV z).getD 1 "",(nV z).drop 2):=by unfold oQ;rw[List.getElem?_map,hz];rfl
   obtain⟨p1,p2⟩:=gP _ (aQ gi);refine lM (λB=>B=rH d k (.v (.l ((lU k).map D.str))) (.v (.l (a.map D.str))) (.o (.k (mJ t))) (.o (.l ((((oQ k).take i).map (ren (mI t))).map rG))) (.v (.str z)) (.o (.l ((nV z).map D.str))) .n .n .n) (λN' aj=>⟨z,rfl,w3,w4,.inl rfl,aj _ rfl⟩) ?_;rintro _ rfl;have a0:nM ((nV z).map D.str) 0=some (.str ((nV z).getD 0 "")):=sC (j:=0) (by rw[bD,aD (by omega),bC,aD (by omega)];rfl);have a1:nM ((nV z).map D.str) 1=some (.str ((nV z).getD 1 "")):=sC (j:=1) (by rw[bD,aD (by omega),bC,aD (by omega)];rfl);refine⟨rfl,rfl,rfl,_,a0,_,yX (ky _ p1),rfl,_,a1,?_⟩;unfold aC dC;refine pH ((nV z).drop 2) D.str (λp=>.str (mI t p)) (rH d k (.v (.l ((lU k).map D.str))) (.v (.l (a.map D.str))) (.o (.k (mJ t))) (.o (.l ((((oQ k).take i).map (ren (mI t))).map rG))) (.v (.str z)) (.o (.l ((nV z).map D.str))) .n .n .n) (λΨ h=>?_) (by rw[eT];omega) (λj p ys Nx e U h2=>⟨rfl,_,yX (ky _ (p2 p (aQ e))),U,h2⟩) ?_
   .refine⟨rfl,?_⟩;show Ψ (tE ((nV z).map D.str) (some ((2:Nat):Int)) none) _;rw[DB];exact h
   .refine⟨by show 3<=1000;decide,by rw[aA,aA,bN];omega,.v (.str z),.o (.l ((nV z).map D.str)),?_⟩;rw[cA,gi,aZ,aZ];show _=rH d k _ _ _ (.o (.l (_++[rG (ren (mI t) ((nV z).getD 0 "",(nV z).getD 1 "",(nV z).drop 2))]))) _ _ _ _ _;have eE:rG (ren (mI t) ((nV z).getD 0 "",(nV z).getD 1 "",(nV z).drop 2))=D.t [.str (mI t ((nV z).getD 0 "")),.str ((nV z).getD 1 ""),.t (((nV z).drop 2).map λp=>D.str (mI t p))]:=by
     unfold rG ren;rw[aK];rfl
    rw[eE];rfl
  .rintro B ⟨Q,R,rfl⟩;have:((sV k).map D.str).length=(oQ k).length:=by unfold oQ;rw[List.length_map,List.length_map]
   rw[this,eG];exact W _ ⟨Q,R,rfl⟩
 rintro _ ⟨Q,R,rfl⟩;obtain⟨S,aa⟩:∃ S,S=(oQ k).map (ren (mI t)):=⟨_,rfl⟩;rw[<- aa];obtain⟨Z,ae⟩:∃ Z,Z=(lY k).map λp:Af×Af=>(mI t p.1,mI t p.2):=⟨_,rfl⟩
 have ax:Z.length=k.m:=by rw[ae,aA,lP]
 have dn:∀ i<k.m,("d" ++ sg i)∈(mD k).names/\sg i∈(mD k).names:=λi hi=>by
  have G:(("d" ++ sg i:Af),sg i)∈lY k:=aH.mpr ⟨i,eC.mpr hi,rfl⟩;exact⟨F.gc.os _ (F.m _ G).1,bB _ (F.m _ G).2⟩
 refine lM (λB=>B=rH d k (.v (.l ((lU k).map D.str))) (.v (.l (a.map D.str))) (.o (.k (mJ t))) (.o (.l (S.map rG))) Q R (.o (.l (Z.map rW))) .n .n) (λN W=>?_) ?_
 .unfold qU;refine pH (List.range k.m) (λi=>D.str (sg i)) (λi=>D.t [.str (mI t ("d" ++ sg i)),.str (mI t (sg i))]) (rH d k (.v (.l ((lU k).map D.str))) (.v (.l (a.map D.str))) (.o (.k (mJ t))) (.o (.l (S.map rG))) Q R .n .n .n) (λΨ h=>?_) (by rw[bU];omega) (λj i ys Nx e U h2=>?_) ?_
  .have e1:(List.range k.m).map (λi=>D.str (sg i))=tH (pC "pqrs" none (some ((k.m:Nat):Int))):=by rw[Pc,q1,aK];rfl
   rw[e1] at h;refine⟨by decide,?_⟩;show match (if (pC "pqrs" none (some ((k.m:Nat):Int))).cps.all (·<128) then some (tH (pC "pqrs" none (some ((k.m:Nat):Int)))) else none) with | some ds=>_ | none=>False
   rw[aO q3];exact h
  .have hi:i<k.m:=eC.mp (aQ e);obtain⟨n1,n2⟩:=dn i hi;have:=(yC i (by omega)).1;have q0:("d" : Af).length=1:=rfl;exact⟨rfl,by omega,_,yX (ky _ n1),rfl,_,yX (ky _ n2),by show 2<=1000;decide,U,h2⟩
  .refine W _ ?_;have:Z.map rW=(List.range k.m).map λi=>D.t [.str (mI t ("d" ++ sg i)),.str (mI t (sg i))]:=by
    rw[ae];unfold lY;rw[aK,aK];rfl
   rw[this];rfl
 rintro _ rfl;refine lM (λB=>B=rH d k (.v (.l ((lU k).map D.str))) (.v (.l (a.map D.str))) (.o (.k (mJ t))) (.o (.l (S.map rG))) Q R (.v (.l (Z.map rW))) (.o (.l ((((mD k).outs).map (mI t)).map D.str))) .n) (λN W=>?_) ?_
 .unfold qU d2;refine⟨rfl,_,yX (ky _ (F.gc.os _ aF)),by show 1<=1000;decide,?_⟩;refine pH Z rW (λp=>.str p.1) (rH d k (.v (.l ((lU k).map D.str))) (.v (.l (a.map D.str))) (.o (.k (mJ t))) (.o (.l (S.map rG))) Q R (.v (.l (Z.map rW))) .n .n) (λΨ h=>h) (by omega) (λj p ys Nx e U h2=>⟨rfl,_,rfl,U,h2⟩) ?_;refine⟨by show 1+_<=_;rw[aA];omega,W _ ?_⟩;have:(((mD k).outs).map (mI t)).map D.str=D.str (mI t (mN k))::Z.map λp:Af×Af=>D.str p.1:=by
   show ((mN k::(lY k).map (·.1)).map (mI t)).map D.str=_;rw[ae,aM,aM,aK,aK,aK];rfl
  rw[this];rfl
 rintro _ rfl;refine lM (λB=>∃ M:Aa Af,M.Perm (mD k).ins/\B=rH d k (.o (.l ((M.map (mI t)).map D.str))) (.v (.l (a.map D.str))) (.o (.k (mJ t))) (.o (.l (S.map rG))) Q R (.v (.l (Z.map rW))) (.o (.l ((((mD k).outs).map (mI t)).map D.str))) .n) (λN W=>?_) ?_
 .unfold qU wX iV;refine⟨rfl,by decide,q2,?_⟩;rw[af];refine⟨by rw[aA,aA];omega,d,c,(mD k).ins.map D.str,rfl,?_,by rw[aA];have:=F.li;omega,λys G=>⟨.inl rfl,?_⟩⟩
  .refine .inl ?_;show [D.r (V.ref d),D.l ((lU k).map D.str++(oH k).map D.str)]=[D.r (V.ref d),D.l ((lU k++oH k).map D.str)];rw[aZ]
  obtain⟨M,pI,rfl⟩:=Qf G;show ∃ Pv:Nat->Aa D->Aa Sl->Prop,_;refine KD (Φ:=λr av=>N (av.set 4 r)) M D.str (λo=>.str (mI t o)) (rH d k (.v (.l ((lU k).map D.str))) (.v (.l (a.map D.str))) (.o (.k (mJ t))) (.o (.l (S.map rG))) Q R (.v (.l (Z.map rW))) (.o (.l ((((mD k).outs).map (mI t)).map D.str))) .n) (by rw[pI.length_eq];have:=F.li;omega) (λj o ys Nx e U h2=>⟨rfl,_,yX (ky o (bB _ (pI.mem_iff.mp (aQ e)))),U,h2⟩) ?_;refine W _ ⟨M,pI,?_⟩;rw[aK (l:=M)];rfl
 rintro _ ⟨M,pI,rfl⟩;have ag:=F.li;refine lM (λB=>∃ (O':Aa Af) (s4 s5 s7 Q R ai:Sl),O'.Perm ((mD k).outs.map (mI t))/\B=rH d k s4 s5 (.o (.k (mJ t))) s7 Q R (.v (.l (Z.map rW))) ai (.v (.t [.t ((M.map (mI t)).map D.str),.t (S.map rG),.t (O'.map D.str)]))) (λN W=>?_) ?_
 .refine⟨rfl,d,c,((mD k).outs.map (mI t)).map D.str,rfl,.inl rfl,?_,λys G=>⟨.inl rfl,?_⟩⟩
  .rw[aA,aA];show (mN k::(lY k).map (·.1)).length<=1000;rw[bJ,aA,lP];omega
  .obtain⟨O',pO,rfl⟩:=Qf G;exact⟨by show 3<=1000;decide,W _ ⟨O',_,_,_,_,_,_,pO,rfl⟩⟩
 rintro _ ⟨O',s4,s5,s7,Q,R,ai,pO,rfl⟩;refine⟨d,c,Z.map rW,rfl,.inl rfl,by rw[aA];omega,λys G=>⟨.inl rfl,?_⟩⟩;obtain⟨A',pA,rfl⟩:=FE G;rw[X] at u ab;have eN:S.map (·.1)=((oQ k).map (·.1)).map (mI t):=by rw[aa,aK,aK];rfl
 have L:(M++(oQ k).map (·.1)).Perm (mD k).names:=pI.append_right _;have nN:(Cel.mk (M.map (mI t)) S O').names=(M++(oQ k).map (·.1)).map (mI t):=by
  show M.map (mI t)++S.map (·.1)=_;rw[eN,<- aZ]
 have iO:∀ o∈(mD k).outs,o∈(mD k).names:=λo ho=>F.gc.os o ho
 have ac:A'.Perm ((lY k).map λp:Af×Af=>(mI t p.1,mI t p.2)):=by rw[<- ae];exact pA
 have fin:=ao t ⟨M.map (mI t),S,O'⟩ A' ⟨u,pI.map _,aa,pO,ac⟩ ?_ (by rw[tk,X]) ?_
 .exact⟨by show 2<=1000;decide,by show 2<=1000;decide,fin⟩
 .have m1:A'.map (·.1)=(A'.map (·.1)):=rfl;have k1:(A'.map (·.1)).Perm (((lY k).map (·.1)).map (mI t)):=by
   have:=ac.map (·.1);rw[aK] at this;rw[aK];exact this
  have k2:(A'.map (·.2)).Perm (((lY k).map (·.2)).map (mI t)):=by
   have:=ac.map (·.2);rw[aK] at this;rw[aK];exact this
  refine⟨⟨?_,?_,?_,?_,?_,?_,?_⟩,?_,?_,?_,?_,?_⟩
  .rw[nN];exact wZ (L.nodup_iff.mpr F.gc.nd) λx O y hy e=>u x (L.mem_iff.mp O) y (L.mem_iff.mp hy) e
  .show qH (M.map (mI t)) S;rw[aa];exact (qH.more (λx O=>pI.mem_iff.mpr O) F.gc.gt).ren (mI t)
  .intro x O;obtain⟨q,hq,rfl⟩:=aH.mp (pO.mem_iff.mp O);rw[nN];exact aH.mpr ⟨q,L.mem_iff.mpr (iO q hq),rfl⟩
  .exact pO.nodup_iff.mpr (wZ F.gc.ond λx O y hy e=>u x (iO x O) y (iO y hy) e)
  .show (M.map (mI t)).length<=40;rw[aA,pI.length_eq];omega
  .show S.length<=40;rw[aa,aA];omega
  .show O'.length<=40;rw[pO.length_eq,aA];show (mN k::(lY k).map (·.1)).length<=40;rw[bJ,aA,lP];omega
  .refine k1.nodup_iff.mpr (wZ F.n1 λx O y hy e=>u x ?_ y ?_ e)
   .obtain⟨p,G,rfl⟩:=aH.mp O;exact iO _ (F.m p G).1
   .obtain⟨p,G,rfl⟩:=aH.mp hy;exact iO _ (F.m p G).1
  .refine k2.nodup_iff.mpr (wZ F.n2 λx O y hy e=>u x ?_ y ?_ e)
   .obtain⟨p,G,rfl⟩:=aH.mp O;exact bB _ (F.m p G).2
   .obtain⟨p,G,rfl⟩:=aH.mp hy;exact bB _ (F.m p G).2
  .intro p G;obtain⟨q,hq,rfl⟩:=aH.mp (ac.mem_iff.mp G);have hm:=F.m q hq;exact⟨pO.mem_iff.mpr (cH hm.1),aH.mpr ⟨q.2,pI.mem_iff.mpr hm.2,rfl⟩⟩
  .show (M.map (mI t)).length<=6;rw[aA,pI.length_eq];exact ag
  .rw[ac.length_eq,aA,lP];omega
 .intro x O z;rw[nN] at O;obtain⟨q,hq,rfl⟩:=aH.mp O;have:=(ar _ (ab q (L.mem_iff.mp hq))).ls.lo;rw[z] at this;exact absurd this (by decide)
end
end Lw
namespace L2
open PySem PySem.Spec PyProof.Rows Lw
section
theorem Yn {l m:Ad}{j o:Aa Ac}{s:Ae}(J:IsTup s.heap l j.toArray) (T:IsTup s.heap m o.toArray) (U:j.length=o.length) (hu:A.units<cLine)
  (C:∀ p∈j.zip o,J8 g w A.in1 s p.1 p.2){Q:Ac->Ae->Prop}(I:Q (.bool true) s):wpAny (model g w) A (compareOp .Eq (.ref l) (.ref m)) Q E s:=by
 obtain⟨q,g1,h,k,d1⟩:=id J;obtain⟨t,g2,i,n,d2⟩:=id T;have d:s.TypeIs (.ref l) "tuple" := ⟨_,g1,h⟩;have f:s.TypeIs (.ref m) "tuple" := ⟨_,g2,i⟩;refine wpAny_richCompare_same_room (op:=.Eq) d f F.slot_tuple_eq ?_ hu;refine cY F.slot_tuple_eq d F.entry_tuple_eq ?_ (F.args_tuple_eq_2 _ _);show wpAny _ _ (isInstance (.ref m) (.type "tuple") >>= _) _ _ s;refine aB (dN f isSubtype_tuple_tuple ?_);simp only[Bool.not_true,dU,fX];refine aB (wpAny_tupleItemsOf g1 d1 ?_);refine aB (wpAny_tupleItemsOf g2 d2 ?_);refine aB ?_;refine wpAny_forIn_list _ (λrest r c=>r.1=none/\c=s/\∀ p∈rest,J8 g w A.in1 s p.1 p.2) _ ?_ ?_ _ _ ⟨rfl,rfl,λp a=>?_⟩
 .rintro ⟨u,v⟩ rest r c ⟨b,rfl,C⟩;refine aB (C (u,v) aF _ _ ?_);exact aE ⟨rfl,rfl,λp a=>C p (aL _ a)⟩
 .rintro ⟨x,y⟩ c ⟨b,rfl,_⟩;simp only at b;subst b;refine aE ⟨_,rfl,(λe=>nomatch e),?_⟩;have e:(j.toArray.size == o.toArray.size)=true:=by rw[aR,aR,U];simp
  show Q (.bool (j.toArray.size == o.toArray.size)) _;rw[e];exact I
 .exact C p (by simpa using a)
end
end L2
namespace Lw
open PySem L2
theorem IF (C:1<=m) (I:m<=4) (o:g<=1) (p:r<=1) (l:j=false->g=0):(⟨m,j,g,g+r⟩:Lt)∈oI:=by
 have c:m=1\/m=2\/m=3\/m=4:=by omega
 have a:r=0\/r=1:=by omega
 have b:g=0\/g=1:=by omega
 cases j with
 | false =>
  have:=l rfl;subst this;rcases c with rfl | rfl | rfl | rfl<;>rcases a with rfl | rfl<;>decide
 | true=>rcases c with rfl | rfl | rfl | rfl<;>rcases a with rfl | rfl<;>rcases b with rfl | rfl<;>decide
theorem He:∀ (n:Nat) (p:Aa Int->Bool) (v:Aa Int),v∈eH n->p v=true->(∀ x∈eH n,p x=true->∀ i<n,v.getD i 0<=x.getD i 0)->∃ r,(eH n).filter p=v::r
 | 0,p,v,k,e,_=>by
  have:v=[]:=hV.mp (pP k).1;subst this;refine⟨[],?_⟩;show [[]].filter p=_;rw[List.filter_cons,aO e];rfl
 | n+1,p,v,k,e,f=>by
  have m:v∈(eH n).map (λx=>(0:Int)::x)++(eH n).map (λx=>(1:Int)::x):=k;have c:∀ x∈eH n,(0:Int)::x∈eH (n+1):=λx b=>bB _ (cH b)
  have d:∀ x∈eH n,(1:Int)::x∈eH (n+1):=λx b=>bA _ (cH b)
  show ∃ r,((eH n).map (λx=>(0:Int)::x)++(eH n).map (λx=>(1:Int)::x)).filter p=v::r;rw[List.filter_append];rcases bE.mp m with q | q
  .obtain⟨w,hw,rfl⟩:=aH.mp q;obtain⟨r,h⟩:=He n (λx=>p (0::x)) w hw e λx b a i t=>f _ (c x b) a (i+1) (by omega)
   refine⟨r.map (λx=>(0:Int)::x)++((eH n).map (λx=>(1:Int)::x)).filter p,?_⟩;rw[kE];show ((eH n).filter λx=>p (0::x)).map _++_=_;rw[h];rfl
  .obtain⟨w,hw,rfl⟩:=aH.mp q;obtain⟨r,h⟩:=He n (λx=>p (1::x)) w hw e λx b a i t=>f _ (d x b) a (i+1) (by omega)
   refine⟨r.map (λx=>(1:Int)::x),?_⟩;have s:((eH n).map (λx=>(0:Int)::x)).filter p=[]:=by
    rw[List.filter_eq_nil_iff];intro x b a;obtain⟨y,u,rfl⟩:=aH.mp b;have:=f _ (c y u) a 0 (by omega);exact absurd this (by show ¬ ((1:Int)<=0);decide)
   rw[s,fF,kE];show ((eH n).filter λx=>p (1::x)).map _=_;rw[h];rfl
section
theorem Hd (g:Rnd (mD k) C (lY k) al r) (j:p∈lY k):(r p.1,r p.2)∈al:=g.prs.mem_iff.mpr (aH.mpr ⟨p,j,rfl⟩)
theorem T9 {g:Aa Af}(l:g.Nodup){b:Aa Int}(j:b.length=g.length):g.zip b=g.map λx=>(x,lS (g.zip b) x):=by
 refine jU (by rw[eP,aA,j,Nat.min_self]) λi d a=>?_
 have e:i<g.length:=by rw[aA] at a;exact a
 rw[kU,hX];have c:(g[i],b[i]'(by omega))∈g.zip b:=by
  have:(g.zip b)[i]=(g[i],b[i]'(by omega)):=hX;rw[<- this];exact bR _
 rw[Fm (p:=(g[i],b[i]'(by omega))) (by rw[fL (by omega)];exact l) c]
theorem HG (j:Rnd (mD k) C (lY k) al r) (g:RwOk C al) (l:e.length=al.length):((al.map (·.2)).zip e).Perm ((lY k).map λp=>(r p.2,lS ((al.map (·.2)).zip e) (r p.2))):=by
 have c:=T9 g.n2 (b:=e) (by rw[aA,l]);have a:=j.prs.map λq:Af×Af=>(q.2,lS ((al.map (·.2)).zip e) q.2)
 rw[aK] at a;have d:((al.map (·.2)).map λx=>(x,lS ((al.map (·.2)).zip e) x))=al.map λq:Af×Af=>(q.2,lS ((al.map (·.2)).zip e) q.2):=by rw[aK];rfl
 exact (kD (c.trans d)).trans a
theorem Zc (j:k∈oI) (l:Rnd (mD k) C (lY k) al r) (V:Int):(pY (λi=>(yL k C al r).getD i 0*V) 0 (wIns C al)).Perm ((lU k).map λx=>(r x,if k.ak=1/\x = "a" then V else 0)):=by
 have m:∀ (a:Aa Af) (n:Nat) (f:Nat->Int) (g:Af->Int),(∀ i x,a[i]?=some x->f (n+i)=g x)->pY f n a=a.map λx=>(x,g x):=λa=>by
  induction a with
  | nil=>intros;rfl
  | cons x a v =>
   intro n f g h;unfold pY;rw[aM,show f n=g x from h 0 x rfl,v (n+1) f g λi y d=>by
    have:=h (i+1) y (by simpa using d);rw[show n+1+i=n+(i+1) by omega];exact this]
 have s:pY (λi=>(yL k C al r).getD i 0*V) 0 (wIns C al)=(wIns C al).map λx=>(x,if k.ak=1/\x=r "a" then V else 0):=m _ 0 _ _ λi x c=>by
  have:(yL k C al r).getD (0+i) 0=if k.ak=1/\x=r "a" then 1 else 0:=by
   unfold yL;rw[kY,bC,bD,c];rfl
  show (yL k C al r).getD (0+i) 0*V=_;rw[this];split
  .exact lH _
  .exact kZ _
 have t:=xP j;have p:=l.wIns t;rw[Py j] at p;have e:=p.map λx=>(x,if k.ak=1/\x=r "a" then V else 0)
 rw[aK] at e;rw[s];refine e.trans (kD (bO λx c=>?_));show (r x,if k.ak=1/\r x=r "a" then V else 0)=_;by_cases q:k.ak=1
 .have u:=Ca j q;have b:∀ y∈lU k,y∈(mD k).names:=λy d=>bB _ (bB _ d)
  by_cases z:x = "a"
  .rw[z,aO ⟨q,rfl⟩,aO ⟨q,rfl⟩]
  .rw[aJ λh=>z (l.inj x (b x c) _ (b _ u) h.2),aJ λh=>z h.2]
 .rw[aJ λh=>q h.1,aJ λh=>q h.1]
def eS (k:Lt) (al:Aa (Af×Af)) (r:Af->Af):Aa Int:=al.map λq=>lS (((lY k).map λp=>r p.2).zip (nI k)) q.2
theorem Lo (g:k∈oI):rM k (List.replicate k.m 0)+1=rT k/\rM k (nI k)=0/\∀ v∈eH k.m,rM k v=0->∀ i<k.m,(nI k).getD i 0<=v.getD i 0:=by
 have:=bY.mp KW k g;simp only[cB,bY,eL] at this;exact this
theorem JM (j:k∈oI) (g:Rnd (mD k) C (lY k) al r):((lY k).map λp=>r p.2).Nodup:=by
 have a:=xP j;have:(lY k).map (λp=>r p.2)=((lY k).map (·.2)).map r:=by rw[aK];rfl
 rw[this];refine wZ a.n2 λx d y f e=>?_
 obtain⟨p,b,rfl⟩:=aH.mp d;obtain⟨q,c,rfl⟩:=aH.mp f;exact g.inj _ (bB _ (a.m p b).2) _ (bB _ (a.m q c).2) e
theorem lV (k:Lt):(nI k).length=k.m:=by unfold nI;rw[List.length_map,List.length_range]
theorem yK (k:Lt):(lY k).length=k.m:=by unfold lY;rw[List.length_map,List.length_range]
theorem Wv (o:k∈oI) (g:Rnd (mD k) C (lY k) al r) (l:RwOk C al) (j:p∈lY k):lS ((al.map (·.2)).zip (eS k al r)) (r p.2)=lS (((lY k).map λp=>r p.2).zip (nI k)) (r p.2):=by
 have:eS k al r=(al.map (·.2)).map (lS (((lY k).map λp=>r p.2).zip (nI k))):=by unfold eS;rw[List.map_map];rfl
 rw[this];exact C7 _ (aH.mpr ⟨_,Hd g j,rfl⟩)
theorem Fp (j:k∈oI) (g:Rnd (mD k) C (lY k) al r) (l:RwOk C al):qP k al r (eS k al r)=nI k:=by
 unfold qP;rw[bO λp a=>Wv j g l a];have z:=T9 (JM j g) (b:=nI k) (by rw[lV,aA,yK]);have:((lY k).map λp=>lS (((lY k).map λp=>r p.2).zip (nI k)) (r p.2))=(((lY k).map λp=>r p.2).zip (nI k)).map (·.2):=by
  conv=>rhs;rw[z]
  rw[aK,aK];rfl
 rw[this];exact List.map_snd_zip (by rw[aA,lV,yK];exact aP _)
theorem We (j:k∈oI) (g:Rnd (mD k) C (lY k) al r):eS k al r∈eH al.length:=zQ (by unfold eS;rw[List.length_map]) λx a=>by
 unfold eS at a;obtain⟨q,c,rfl⟩:=aH.mp a;obtain⟨p,b,e⟩:=aH.mp (g.prs.mem_iff.mp c);rw[<- e];refine Nt (by rw[lV,aA,yK]) (λx a=>?_) (aH.mpr ⟨p,b,rfl⟩);unfold nI at a;obtain⟨i,_,rfl⟩:=aH.mp a;split
 .exact .inr rfl
 .exact .inl rfl
theorem MG (g:Rnd (mD k) C (lY k) al r) (j:c∈eH al.length):qP k al r c∈eH k.m:=by
 obtain⟨b,d⟩:=pP j;refine zQ (by unfold qP;rw[List.length_map,yK]) λx a=>?_
 unfold qP at a;obtain⟨p,e,rfl⟩:=aH.mp a;exact Nt (by rw[aA,b]) d (aH.mpr ⟨_,Hd g e,rfl⟩)
theorem AX (o:k∈oI) (g:Rnd (mD k) C (lY k) al r) (l:RwOk C al) (I:x∈eH al.length) (J:dL k al r x=0):∀ i<al.length,(eS k al r).getD i 0<=x.getD i 0:=λi t=>by
 obtain⟨z,B⟩:=pP I;obtain⟨_,_,y⟩:=Lo o;have w:=y _ (MG g I) J;obtain⟨p,v,e⟩:=aH.mp (g.prs.mem_iff.mp (bR t));obtain⟨j,c,h⟩:=cW v;have f:j<k.m:=by rw[yK] at c;exact c
 have n:(qP k al r x).getD j 0=lS ((al.map (·.2)).zip x) (r p.2):=by
  unfold qP;rw[bC,bD,aD c,h];rfl
 have q:(nI k).getD j 0=lS ((al.map (·.2)).zip (eS k al r)) (r p.2):=by
  rw[<- Fp o g l];unfold qP;rw[bC,bD,aD c,h];rfl
 have s:r p.2=al[i].2:=by rw[<- e]
 have a:∀ b:Aa Int,b.length=al.length->lS ((al.map (·.2)).zip b) (r p.2)=b.getD i 0:=λb A=>by
  have d:i<b.length:=by omega
  have u:(al[i].2,b[i])∈(al.map (·.2)).zip b:=by
   have:((al.map (·.2)).zip b)[i]'(by rw[eP,aA];omega)=(al[i].2,b[i]):=by rw[hX,kU]
   rw[<- this];exact bR _
  rw[s,Fm (p:=(al[i].2,b[i])) (by rw[fL (by rw[aA];omega)];exact l.n2) u,bC,aD d];rfl
 have:=w j f;rw[n,q,a x z,a _ (by unfold eS;rw[List.length_map])] at this;exact this
theorem Lq (g:Rnd (mD k) C (lY k) al r) (j:RwOk C al):qP k al r (List.replicate al.length 0)=List.replicate k.m 0:=by
 have a:List.replicate k.m (0:Int)=(lY k).map λ_=>(0:Int):=by rw[kA,yK]
 have b:List.replicate al.length (0:Int)=(al.map (·.2)).map λ_=>(0:Int):=by rw[kA,aA]
 unfold qP;rw[a,b];exact bO λp c=>C7 _ (aH.mpr ⟨_,Hd g c,rfl⟩)
end
end Lw
namespace L2
open PySem PySem.Spec PyProof.Rows Lw
section
variable {X:Cx}{K:lK}
def S7:R2:=λx y H Q=>∃ (l m:Ad) (a:Af) (n:Int) (p q c d:V),x = .ref l/\y = .ref m/\H l=some (.t [.str a,.int n,p,q])/\H m=some (.t [.str a,.int n,c,d])/\Cs H p c/\Cs H q d/\Q (.b true) H
theorem EC (r:X.A.units+64<cLine):mL X (compareOp .Eq) S7:=by
 intro t s T H x y v u Q I Z g h;obtain⟨l,m,a,n,p,q,C,J,rfl,rfl,P,R,j,o,k⟩:=h;cases Z;cases g;obtain⟨S,c,W,_⟩:=I.tuple (mK.of (K:=X.K) P);obtain⟨i,d,Y,_⟩:=I.tuple (mK.of (K:=X.K) R);refine Yn W Y (by rw[<- c.length,<- d.length];rfl) (by omega) ?_ ⟨.b true,H,I,rfl,k⟩;cases c with
 | cons B c=>cases c with
  | cons D c=>cases c with
   | cons F c=>cases c with
    | cons G c =>
     cases c;cases d with
     | cons L d=>cases d with
      | cons M d=>cases d with
       | cons N d=>cases d with
        | cons O d =>
         cases d;intro z f;simp only[cP,List.zip_nil_right,aI,aY,fJ] at f;rcases f with rfl | rfl | rfl | rfl
         .have:=Dh (A:=X.A.in1) (s:=s) B L rfl rfl;have e:pT (V.str a) (V.str a)=true:=by simp[pT]
          rw[e] at this;exact λE Q q=>this X.prog X.w E Q q
         .have:=Dh (A:=X.A.in1) (s:=s) D M rfl rfl;have e:pT (V.int n) (V.int n)=true:=by simp[pT]
          rw[e] at this;exact λE Q q=>this X.prog X.w E Q q
         .exact j.now I F N (by rw[Around.in1_units];omega)
         .exact o.now I G O (by rw[Around.in1_units];omega)
def BO:O2:=λd e m=>∃ (a:Af) (n:Int) (h i c f:mO),d = .t [.str a,.int n,.k (hG h),.k (hG i)]/\e = .t [.str a,.int n,.k (hG c),.k (hG f)]/\h.Perm c/\i.Perm f/\(c.map (·.1)).Nodup/\(f.map (·.1)).Nodup/\m (.v (.b true))
theorem LV:oP K S7 BO:=by
 intro B L H d e x y I Q hd R S E k;obtain⟨a,n,o,p,g,j,rfl,rfl,A,D,O,P,h⟩:=E;obtain⟨l,C,rfl,F,c⟩:=R.tup_inv;obtain⟨m,r,rfl,G,f⟩:=S.tup_inv;cases c with
 | cons i c=>cases c with
  | cons q c=>cases c with
   | cons s c=>cases c with
    | cons t c =>
     cases c;cases f with
     | cons u f=>cases f with
      | cons v f=>cases f with
       | cons w f=>cases f with
        | cons z f =>
         cases f;have:=i.str_inv;have:=u.str_inv;have:=q.int_inv;have:=v.int_inv
         subst_vars
         obtain⟨V,rfl,_,g1⟩:=Gn s;obtain⟨W,rfl,_,g2⟩:=Gn t;obtain⟨Y,rfl,_,M⟩:=Gn w;obtain⟨Z,rfl,_,N⟩:=Gn z;exact⟨l,m,a,n,_,_,_,_,rfl,rfl,F,G,So g1 M A O,So g2 N D P,k _ _ H h (hd.pushF (.b _))⟩
end
end L2
namespace Lw
open PySem L2
theorem Ll:∀ t:mO,uR (t.map λp=>D.t [.str p.1,.int p.2])=some (hG t):=λt=>Fu (g:=λp:Af×Int=>((Sum.inr p.1:eF),D.int p.2)) (λp=>⟨.str p.1,rfl,rfl⟩) t
def mZ (g:Aa (Af×Ab Int)):Aa (eF×D):=g.map λp=>((Sum.inr p.1:eF),qT p.2)
theorem X9:∀ j:Aa (Af×Ab Int),uR (j.map λp=>D.t [.str p.1,qT p.2])=some (mZ j):=λj=>Fu (g:=λp:Af×Ab Int=>((Sum.inr p.1:eF),qT p.2)) (λp=>⟨.str p.1,rfl,rfl⟩) j
theorem Ya (g:Aa (Af×Ab Int)):(mZ g).map (·.1)=(g.map (·.1)).map Sum.inr:=by unfold mZ;rw[List.map_map,List.map_map];rfl
noncomputable def vW (g:Aa (Af×Ab Int)) (x:Af):Ab Int:=match g.find? λp=>decide (p.1=x) with
 | some p=>p.2
 | none=>none
theorem Rw:∀ {es:Aa (Af×Ab Int)}{x:Af},x∈es.map (·.1)->mG (mZ es) (Sum.inr x)=some (qT (vW es x))
 | [],_,h=>absurd h (by simp)
 | q::es,x,h=>by
  unfold mG vW mZ;rw[aM,cZ,cZ];by_cases e:q.1=x
  .subst e;rw[bQ rfl,bQ rfl];rfl
  .have ne:¬ ((Sum.inr q.1:eF)=Sum.inr x):=λz=>e (gQ z)
   rw[bM e,bM ne];have:=Rw (es:=es) (x:=x) (by
    rw[aM] at h;exact (aI.mp h).resolve_left λz=>e z.symm)
   unfold mG vW mZ at this;exact this
theorem Rp:∀ {g:Aa Af},g.Nodup->(g.map (Sum.inr:Af->eF)).Nodup
 | [],_=>fQ
 | x::r,h=>by
  obtain⟨b,c⟩:=bX.mp h;refine bX.mpr ⟨λm=>?_,Rp c⟩;obtain⟨y,a,e⟩:=aH.mp m;rw[gQ e] at a;exact b a
theorem BY {j:Type} [DecidableEq j] {g:Aa (j×D)}{k:j}{d:D}(h:k∉g.map (·.1)):mP g k d=g++[(k,d)]:=by
 unfold mP;rw[aJ];intro z;rw[cN] at z;obtain⟨p,a,e⟩:=z;exact h (aH.mpr ⟨p,a,cM e⟩)
theorem Qw:∀ (b a:Aa (eF×D)),((a++b).map (·.1)).Nodup->oX a b=a++b
 | [],a,_=>by simp[oX]
 | p::b,a,h=>by
  have c:p.1∉a.map (·.1):=λq=>by
   rw[aZ] at h;exact (bK.mp h).2.2 p.1 q p.1 (by simp) rfl
  have e:oX a (p::b)=oX (mP a p.1 p.2) b:=rfl;rw[e,BY c,Qw b (a++[p]) (by simpa using h)];simp
theorem Kv:(["out","into","loose"]:Aa Af).Nodup:=by decide +kernel
theorem Rf:(["one","names"]:Aa Af).Nodup:=by decide +kernel
def L6:RD:=λa e f=>∃ d c:Ad,a=[d,c]/\e=[.r (.ref d)]/\f (.v (.b true))
theorem X5 (f:j->D) (g:Aa j) (n:Nat) (h:n<=g.length):tE (g.map f) none (some (n:Int))=(g.take n).map f:=by
 unfold tE;rw[aA,HT.sIx_nat,HT.sIx_none,List.drop_zero,Nat.sub_zero,lF h,List.map_take]
theorem FM (h:vd i j g=λr=>r (.v (.b b)) g) (o:b=true->l (.v (.b true)) g) (p:b=false->u j g l):F3 (vd i) u j g l:=by
 unfold F3;rw[h];cases b with
 | true=>exact o rfl
 | false=>exact p rfl
abbrev pM (d:Ad) (k:Lt) (J T U s9 g j o p C I:Sl):Aa Sl:=[.v (.r (.ref d)),.v (.l ((sV k).map D.str)),.v (.str (mN k)),.v (.int k.m),.v (.b k.ct),.v (.int k.ak),J,T,U,s9,g,j,o,p,C,I]
section
variable {P:Ah}{K:lK}
theorem qQ:FnScope ["deck","rows","last","many","counts","asked","ins","row","names","loose","edges","claim","width","told","words","one"] ["deck"] (mA E5):=nZ
theorem Za (T:Txt mg) (J:Kn P w K mg base 2 "_law_late" Go ["deck"] Oy) (g:Kn P w K mg base 1 "_law_take" Rt ["deck","many"] C1) (I:Kn P w K mg base 4 "_law_made_late" C2 ["deck","rows","last","many","ins"] Oz) (U:Kn P w K mg base 6 "judged" Fe ["row","claim"] Nz):nY P w K mg base 7 "_law_right" E5 ["deck"] L6:=by
 refine oE qQ λf bq A bn s H E dk ds Φ hr hu O=>?_
 obtain⟨d,c,rfl,rfl,bi⟩:=O;refine⟨_,(hO (Db (m:=99) (mF J hr (dK (dT 0) gD)) (F5 (n:=5) rfl (oA (lX 1 qQ.nd) (oA (lX 2 qQ.nd) (oA (lX 3 qQ.nd) (oA (lX 4 qQ.nd) (oA (lX 5 qQ.nd) sP))))))) (hO (mH 6 qQ.nd (Ai zB xR (qF (dK mB (dK mB gD))) yW (xQ (sL nD nC 5 (mF g hr (dK (dT 0) (dK lQ gD))))))) (hO (Db (m:=99) (mF I hr (dK (dT 0) (dK (dT 1) (dK (dT 2) (dK (dT 3) (dK (dT 6) gD)))))) (F5 (n:=2) rfl (oA (lX 7 qQ.nd) (oA (lX 8 qQ.nd) sP)))) (hO (mH 9 qQ.nd (C8 (tX hr.units) (sA false) (mF g hr (dK (dT 0) (dK lQ gD))) lQ)) (hO (mH 10 qQ.nd (pD (Cm rfl) Cc T.dict fC (dK (oK ["out","into"] ["loose"] [9] (nL (mQ hu 7 lQ)) (λ_ _ _ _ _=>(vJ (n:=2) rfl (oA (lX 0 Kv) (oA (lX 1 Kv) sP)))) (λ_ _ _ _ _=>(qO (dK (dT 1) (dK (oJ hu (qF (dK lQ (dK K7 gD))) (pD Gm Et T.int iJ (dK (dT 2) gD))) gD))))) gD))) (hO (mH 11 qQ.nd (qO (dK (dT 10) (dK (FG (mQ hu 8 (dT 2)) (oJ hu (qF (dK lQ (dK (S3 lQ) (dK lQ (dK (mR KJ Y8 lQ lQ) gD))))) (mF g hr (dK (dT 0) (dK lQ gD))))) gD)))) (hO (mH 12 qQ.nd (oJ hu (qF (dK (sL nD nC 3 lQ) (dK (mR N3 Lm lQ (dT 3)) gD))) (pD Gm Et T.int iJ (dK (dT 4) gD)))) (hO (mH 13 qQ.nd (pD (Cm rfl) Cc T.dict fC (dK (oK ["one"] ["names"] [8] (nL (Ai zB xR mB yW (xQ (dT 3)))) (λ_ _ _ _ _=>(lX 0 Rf)) (λ_ _ _ _ _=>(qO (dK (mQ hu 1 (dT 0)) (dK lQ gD))))) gD))) (hO (mH 14 qQ.nd (pD (Cm rfl) Cc T.dict fC (dK (oK ["one"] ["names"] [8] (nL (dT 6)) (λ_ _ _ _ _=>(lX 0 Rf)) (λ_ _ _ _ _=>(qO (dK (mQ hu 1 (dT 0)) (dK lQ gD))))) gD))) (hO (uP (Hu (pv 9)) (hO (mH 12 qQ.nd lQ) (lZ (qW (nL (Ai zB xR mB yW (xQ (dT 3)))) (lX 15 qQ.nd) (lZ (vA (n:=13) hu (pD Gm Et T.int iJ (dK (K8 (dT 4) (Gz (Hn (tX hr.units) (sA false) (pv 15) (oJ hu mB (sL uJ uF 3 lQ))))) gD)) (pv 13) (mQ hu 8 (dT 15))))))) (lZ (uP (vV (tX hr.units) (sA false) (pv 5) lQ) (lZ (vA (n:=14) hu (mR uJ uF (mR N3 Lm lQ (sL uJ uF 12 lQ)) lQ) (pv 14) (mQ hu 8 mB))) wY))) (lZ (nK (C8 (EC hr.units) LV (mF U hr (dK (dT 7) (dK (dT 11) gD))) (qO (dK mB (dK (dT 12) (dK (dT 14) (dK (dT 13) gD)))))))))))))))))),?_⟩;refine lM (λG=>∃ (m Q:Nat) (ct:Bool),1<=m/\m<=4/\Q<=1/\(ct=false->Q=0)/\G=pM d ⟨m,ct,Q,0⟩ .n .n .n .n .n .n .n .n .n .n) (λN L=>?_) ?_
 .exact⟨d,c,rfl,rfl,λm Q ct M V h3 h4=>⟨.inl rfl,rfl,rfl,L _ ⟨m,Q,ct,M,V,h3,h4,rfl⟩⟩⟩
 rintro _ ⟨m,Q,ct,m1,m4,a1,a2,rfl⟩;refine lM (λG=>∃ k:Lt,k∈oI/\G=pM d k (.o (.l ((lU k).map D.str))) .n .n .n .n .n .n .n .n .n) (λN L=>?_) ?_
 .refine⟨by show 2<=1000;decide,rfl,d,c,2,rfl,rfl,by decide,by decide,λr bd=>⟨.inl rfl,?_⟩⟩;have Y:=IF m1 m4 a1 (show r<=1 by omega) a2;have e:tE [D.str "a",D.str "b"] none (some ((Q:Int)+(r:Int)))=(lU ⟨m,ct,Q,Q+r⟩).map D.str:=by
   have:=X5 D.str (["a","b"]:Aa Af) (Q+r) (by show Q+r<=2;omega);rw[show ((Q:Int)+(r:Int))=((Q+r:Nat):Int) by push_cast;rfl];exact this
  show N (pM d ⟨m,ct,Q,0⟩ (.o (.l (tE [D.str "a",D.str "b"] none (some ((Q:Int)+(r:Int)))))) .n .n .n .n .n .n .n .n .n);rw[e];exact L _ ⟨⟨m,ct,Q,Q+r⟩,Y,rfl⟩
 rintro _ ⟨k,Y,rfl⟩;have o:=Bd Y;have hW:=xP Y;obtain⟨b1,b2,b3,b4,b5,b6⟩:=o.b;have bm:(lU k).length<=2:=by unfold lU;rw[List.length_take];omega
 refine lM (λG=>∃ (t:Av) (C:Cel) (al:Aa (Af×Af)),Rnd (mD k) C (lY k) al (mI t)/\RwOk C al/\t.map (·.1)=(mD k).names/\(∀ x∈C.names,x ≠ "")/\G=pM d k (.v (.l ((lU k).map D.str))) (.v (mS C al)) (.v (.k (mJ t))) .n .n .n .n .n .n .n) (λN L=>?_) ?_
 .exact⟨d,c,k,rfl,rfl,Y,λt C al M V h3 h4=>⟨.inl rfl,rfl,rfl,L _ ⟨t,C,al,M,V,h3,h4,rfl⟩⟩⟩
 rintro _ ⟨t,C,al,O,hC,tk,ba,rfl⟩;obtain⟨a,au⟩:∃ a,a=mI t:=⟨_,rfl⟩;rw[<- au] at O;have ky:∀ x∈(mD k).names,uZ (.k (mJ t)) (.str x)=some (some (.str (a x))):=λx hx=>by rw[au];exact yX (by rw[tk];exact hx)
 have br:al.length=k.m:=by rw[O.prs.length_eq,aA,yK]
 have aj:mN k∈(mD k).names:=hW.gc.os _ aF;have ag:∀ i<k.m,sg i∈(mD k).names:=λi X=>bB _ (hW.m (("d" ++ sg i:Af),sg i) (aH.mpr ⟨i,eC.mpr X,rfl⟩)).2
 have R:∀ x∈lU k,x∈(mD k).names:=λx hx=>bB _ (bB _ hx)
 refine lM (λG=>∃ lo:Bool,G=pM d k (.v (.l ((lU k).map D.str))) (.v (mS C al)) (.v (.k (mJ t))) (.v (.b lo)) .n .n .n .n .n .n) (λN L=>?_) ?_
 .exact⟨d,c,4,rfl,rfl,by decide,by decide,λr _=>⟨.inl rfl,L _ ⟨_,rfl⟩⟩⟩
 rintro _ ⟨lo,rfl⟩;obtain⟨u,ab⟩:∃ u,u=al.map λq:Af×Af=>(q.2,if lo=true then (none:Ab Int) else some 0):=⟨_,rfl⟩
 have ay:u.map (·.1)=al.map (·.2):=by rw[ab,aK];rfl
 refine lM (λG=>G=pM d k (.v (.l ((lU k).map D.str))) (.v (mS C al)) (.v (.k (mJ t))) (.v (.b lo)) (.o (.k (mZ u))) .n .n .n .n .n) (λN L=>?_) ?_
 .unfold qU dC aC;refine pH al (λp:Af×Af=>D.t [.str p.1,.str p.2]) (λp=>D.t [.str p.2,qT (if lo=true then none else some 0)]) (pM d k (.v (.l ((lU k).map D.str))) (.v (mS C al)) (.v (.k (mJ t))) (.v (.b lo)) .n .n .n .n .n .n) (λΨ h=>⟨rfl,_,rfl,h⟩) (by omega) (λj p ys Nx e M V=>?_) ?_
  .cases lo with
   | true=>exact⟨rfl,rfl,by show 2<=1000;decide,_,rfl,by show 2<=1000;decide,M,V⟩
   | false=>exact⟨rfl,rfl,by show 2<=1000;decide,_,rfl,by show 2<=1000;decide,M,V⟩
  .refine⟨mZ u,?_,?_,?_⟩
   .rw[<- X9,ab,aK];rfl
   .unfold mZ;rw[ab,List.length_map,List.length_map];omega
   .have e:oX [] (mZ u)=mZ u:=Qw (mZ u) [] (by
     rw[fF,Ya,ay];exact Rp hC.n2)
    rw[e];exact L _ rfl
 rintro _ rfl;refine lM (λG=>∃ F:Int,F≠0/\G=pM d k (.v (.l ((lU k).map D.str))) (.v (mS C al)) (.v (.k (mJ t))) (.v (.b lo)) (.v (.k (mZ u))) (.v (.t [.k (mZ u),.k (hG [(a (mN k),F)])])) .n .n .n .n) (λN L=>?_) ?_
 .refine⟨rfl,_,ky _ aj,⟨by decide,by decide,by decide⟩,by show 4<=1000;decide,d,c,4,rfl,rfl,by decide,by decide,λr bd=>⟨.inl rfl,?_⟩⟩;have bf:r=0\/r=1\/r=2\/r=3:=by omega
  rcases bf with rfl | rfl | rfl | rfl<;>exact⟨_,rfl,_,rfl,by show 2<=1000;decide,L _ ⟨_,by decide,rfl⟩⟩
 rintro _ ⟨F,bh,rfl⟩;refine lM (λG=>G=pM d k (.v (.l ((lU k).map D.str))) (.v (mS C al)) (.v (.k (mJ t))) (.v (.b lo)) (.v (.k (mZ u))) (.v (.t [.k (mZ u),.k (hG [(a (mN k),F)])])) (.v (.int (rT k))) .n .n .n) (λN L=>?_) ?_
 .have key:nM [D.int ((k.m:Int)+1),D.int (1*2 ^ ((k.m:Int)).toNat)] (if k.ct=true then 1 else 0)=some (.int (rT k)):=by
   unfold rT;cases k.ct with
   | true =>
    rw[aO rfl,aO rfl,lH,cR];have:((2 ^ k.m:Nat):Int)=(2:Int) ^ k.m:=by push_cast;rfl
    rw[this];rfl
   | false=>rfl
  refine⟨rfl,⟨by omega,by omega,by decide⟩,by show 2<=1000;decide,?_⟩;show ∃ c,nM [D.int ((k.m:Int)+1),D.int (1*2 ^ ((k.m:Int)).toNat)] (if k.ct=true then 1 else 0)=some c/\_;exact⟨_,key,L _ rfl⟩
 rintro _ rfl;obtain⟨q1,q2,q3⟩:=Q4 k.m (by omega);have ax:∀ (an ao aq B:Sl) (Ψ:Aa D->Aa Sl->Prop),Ψ ((List.range k.m).map λi=>D.str (sg i)) (pM d k (.v (.l ((lU k).map D.str))) (.v (mS C al)) (.v (.k (mJ t))) (.v (.b lo)) (.v (.k (mZ u))) (.v (.t [.k (mZ u),.k (hG [(a (mN k),F)])])) an ao aq B)->iV (Q7 Lz (cd (.str "pqrs")) none (some (vd 3))) [d,c] (pM d k (.v (.l ((lU k).map D.str))) (.v (mS C al)) (.v (.k (mJ t))) (.v (.b lo)) (.v (.k (mZ u))) (.v (.t [.k (mZ u),.k (hG [(a (mN k),F)])])) an ao aq B) Ψ:=λan ao aq B Ψ h=>by
  have e1:(List.range k.m).map (λi=>D.str (sg i))=tH (pC "pqrs" none (some ((k.m:Nat):Int))):=by rw[Pc,q1,aK];rfl
  rw[e1] at h;refine⟨by decide,?_⟩;show match (if (pC "pqrs" none (some ((k.m:Nat):Int))).cps.all (·<128) then some (tH (pC "pqrs" none (some ((k.m:Nat):Int)))) else none) with | some ds=>_ | none=>False
  rw[aO q3];exact h
 obtain⟨tz,ae⟩:∃ tz,tz=(List.range k.m).map λi=>(a (sg i),(0:Int)):=⟨_,rfl⟩
 have ah:∀ i<k.m,∀ j<k.m,a (sg i)=a (sg j)->i=j:=λi X j hj e=>by
  have e1:=O.inj _ (ag i X) _ (ag j hj) e;have:∀ i:Nat,i<4->∀ j:Nat,j<4->sg i=sg j->i=j:=by decide +kernel
  exact this i (by omega) j (by omega) e1
 have a0:tz.map (·.1)=(List.range k.m).map λi=>a (sg i):=by rw[ae,aK];rfl
 have a3:(tz.map (·.1)).Nodup:=by
  rw[a0];exact wZ List.nodup_range λi X j hj e=>ah i (eC.mp X) j (eC.mp hj) e
 have bt:tz.length=k.m:=by rw[ae,aA,bU]
 refine lM (λG=>G=pM d k (.v (.l ((lU k).map D.str))) (.v (mS C al)) (.v (.k (mJ t))) (.v (.b lo)) (.v (.k (mZ u))) (.v (.t [.k (mZ u),.k (hG [(a (mN k),F)])])) (.v (.int (rT k))) (.o (.k (hG tz))) .n .n) (λN L=>?_) ?_
 .unfold qU dC aC;refine pH (List.range k.m) (λi=>D.str (sg i)) (λi=>D.t [.str (a (sg i)),.int 0]) (pM d k (.v (.l ((lU k).map D.str))) (.v (mS C al)) (.v (.k (mJ t))) (.v (.b lo)) (.v (.k (mZ u))) (.v (.t [.k (mZ u),.k (hG [(a (mN k),F)])])) (.v (.int (rT k))) .n .n .n) (λΨ h=>ax _ _ _ _ Ψ h) (by rw[bU];omega) (λj i ys Nx e M V=>⟨rfl,_,ky _ (ag i (eC.mp (aQ e))),by show 2<=1000;decide,M,V⟩) ?_;refine⟨hG tz,?_,by unfold hG;rw[List.length_map];omega,?_⟩
  .rw[<- Ll,ae,aK];rfl
  .rw[Aj a3];exact L _ rfl
 rintro _ rfl;obtain⟨S,aa⟩:∃ S,S=(lU k).map λx=>(a x,(0:Int)):=⟨_,rfl⟩
 have a4:S.map (·.1)=(lU k).map a:=by rw[aa,aK];rfl
 have bj:(lU k).Nodup:=(bK.mp (bK.mp hW.gc.nd).1).1;have a5:(S.map (·.1)).Nodup:=by
  rw[a4];exact wZ bj λx hx y hy e=>O.inj _ (R x hx) _ (R y hy) e
 have bu:S.length<=2:=by rw[aa,aA];exact bm
 refine lM (λG=>G=pM d k (.v (.l ((lU k).map D.str))) (.v (mS C al)) (.v (.k (mJ t))) (.v (.b lo)) (.v (.k (mZ u))) (.v (.t [.k (mZ u),.k (hG [(a (mN k),F)])])) (.v (.int (rT k))) (.o (.k (hG tz))) (.o (.k (hG S))) .n) (λN L=>?_) ?_
 .unfold qU dC aC;refine pH (lU k) D.str (λx=>D.t [.str (a x),.int 0]) (pM d k (.v (.l ((lU k).map D.str))) (.v (mS C al)) (.v (.k (mJ t))) (.v (.b lo)) (.v (.k (mZ u))) (.v (.t [.k (mZ u),.k (hG [(a (mN k),F)])])) (.v (.int (rT k))) (.o (.k (hG tz))) .n .n) (λΨ h=>h) (by omega) (λj x ys Nx e M V=>⟨rfl,_,ky _ (R x (aQ e)),by show 2<=1000;decide,M,V⟩) ?_;refine⟨hG S,?_,by unfold hG;rw[List.length_map];omega,?_⟩
  .rw[<- Ll,aa,aK];rfl
  .rw[Aj a5];exact L _ rfl
 rintro _ rfl;obtain⟨l1,l2,l3⟩:=Lo Y;obtain⟨e,he⟩:∃ e,e=if lo=true then eS k al a else List.replicate al.length 0:=⟨_,rfl⟩
 obtain⟨tt,av⟩:∃ tt,tt=(lY k).map λp=>(a p.2,lS ((al.map (·.2)).zip e) (a p.2)):=⟨_,rfl⟩
 obtain⟨ww,af⟩:∃ ww,ww=(lU k).map λx=>(a x,if k.ak=1/\x = "a" then (2:Int) ^ dL k al a e-1 else 0):=⟨_,rfl⟩
 have ar:tt=(List.range k.m).map λi=>(a (sg i),(qP k al a e).getD i 0):=by
  rw[av];unfold qP lY;rw[aK,aK];refine bO λi X=>?_
  rw[bC,bD,kG (eC.mp X)];rfl
 refine lM (λG=>∃ B,G=pM d k (.v (.l ((lU k).map D.str))) (.v (mS C al)) (.v (.k (mJ t))) (.v (.b lo)) (.v (.k (mZ u))) (.v (.t [.k (mZ u),.k (hG [(a (mN k),F)])])) (.v (.int ((dL k al a e+1:Nat):Int))) (.o (.k (hG tt))) (.o (.k (hG ww))) B) (λN L=>?_) ?_
 .cases ac:lo with
  | true =>
   subst ac;have ee:e=eS k al a:=by rw[he];rfl
   have d0:dL k al a e=0:=by rw[ee];unfold dL;rw[Fp Y O hC];exact l2
   have ew:ww=S:=by
    rw[af,aa,d0];refine bO λx _=>?_
    split
    .rfl
    .rfl
   have et:tt=(List.range k.m).map λi=>(a (sg i),(nI k).getD i 0):=by
    rw[ar];exact bO λi X=>by rw[ee,Fp Y O hC]
   rw[d0,ew,et] at L;refine⟨rfl,true,rfl,(aO rfl).mpr ?_⟩;refine lM (λG=>G=pM d k (.v (.l ((lU k).map D.str))) (.v (mS C al)) (.v (.k (mJ t))) (.v (.b true)) (.v (.k (mZ u))) (.v (.t [.k (mZ u),.k (hG [(a (mN k),F)])])) (.v (.int 1)) (.o (.k (hG tz))) (.o (.k (hG S))) .n) (λN' a7=>a7 _ rfl) ?_;rintro _ rfl;refine qR ((List.range k.m).map λi=>D.str (sg i)) _ (λΨ h=>ax _ _ _ _ Ψ h) (λn G=>∃ B,G=pM d k (.v (.l ((lU k).map D.str))) (.v (mS C al)) (.v (.k (mJ t))) (.v (.b true)) (.v (.k (mZ u))) (.v (.t [.k (mZ u),.k (hG [(a (mN k),F)])])) (.v (.int 1)) (.o (.k (hG ((List.range k.m).map λi=>(a (sg i),if i<n then (nI k).getD i 0 else 0))))) (.o (.k (hG S))) B) ⟨.n,?_⟩ ?_ ?_
   .rw[ae];rfl
   .rintro n x G hx ⟨B,rfl⟩;obtain⟨i,X,rfl⟩:=vX hx;obtain⟨z1,z2⟩:=aV.mp X;rw[jD] at z2;rw[bU] at z1;subst z2;have vi:(nI k).getD n 0=if k.ct=true\/n=k.m-1 then 1 else 0:=by
     unfold nI;rw[bC,bD,kG z1];rfl
    obtain⟨g3,g4⟩:=yG (k.m-1) (by omega);have em:(k.m:Int)-1=((k.m-1:Nat):Int):=by omega
    have nx:∃ B,(pM d k (.v (.l ((lU k).map D.str))) (.v (mS C al)) (.v (.k (mJ t))) (.v (.b true)) (.v (.k (mZ u))) (.v (.t [.k (mZ u),.k (hG [(a (mN k),F)])])) (.v (.int 1)) (.o (.k (hG (xI ((List.range k.m).map λi=>(a (sg i),if i<n then (nI k).getD i 0 else 0)) (a (sg n)) ((nI k).getD n 0))))) (.o (.k (hG S))) (.v (.str (sg n))))=pM d k (.v (.l ((lU k).map D.str))) (.v (mS C al)) (.v (.k (mJ t))) (.v (.b true)) (.v (.k (mZ u))) (.v (.t [.k (mZ u),.k (hG [(a (mN k),F)])])) (.v (.int 1)) (.o (.k (hG ((List.range k.m).map λi=>(a (sg i),if i<n+1 then (nI k).getD i 0 else 0))))) (.o (.k (hG S))) B:=by
     refine⟨.v (.str (sg n)),?_⟩;have:xI ((List.range k.m).map λi=>(a (sg i),if i<n then (nI k).getD i 0 else 0)) (a (sg n)) ((nI k).getD n 0)=(List.range k.m).map λi=>(a (sg i),if i<n+1 then (nI k).getD i 0 else 0):=by
      unfold xI;rw[aO (by rw[aK];exact aH.mpr ⟨n,eC.mpr z1,rfl⟩),aK];refine bO λi X=>?_
      have a9:=eC.mp X;show (if a (sg i)=a (sg n) then (a (sg i),(nI k).getD n 0) else (a (sg i),if i<n then (nI k).getD i 0 else 0))=_;by_cases q:i=n
      .rw[q,aO rfl,aO (by omega)]
      .rw[aJ λz=>q (ah i a9 n z1 z)];by_cases q2:i<n
       .rw[aO q2,aO (by omega)]
       .rw[aJ q2,aJ (by omega)]
     rw[this]
    have sz:(hG ((List.range k.m).map λi=>(a (sg i),if i<n then (nI k).getD i 0 else 0))).length<100000:=by unfold hG;rw[List.length_map,List.length_map,List.length_range];omega
    have put:tV (.k (hG ((List.range k.m).map λi=>(a (sg i),if i<n then (nI k).getD i 0 else 0)))) (.str (a (sg n))) (.int ((nI k).getD n 0))=some (.k (hG (xI ((List.range k.m).map λi=>(a (sg i),if i<n then (nI k).getD i 0 else 0)) (a (sg n)) ((nI k).getD n 0)))):=by
     rw[<- Qe];simp only[tV,aO sz];rfl
    show Cd 13 (tR wH 8 (vd 15)) (dC Nc (aC (F3 (vd 4) (tR (Ib false) 15 (d2 wH (cd (.str "pqrs")) (tR T4 3 (cd (.int 1)))))) Bx)) [d,c] _ (pM d k (.v (.l ((lU k).map D.str))) (.v (mS C al)) (.v (.k (mJ t))) (.v (.b true)) (.v (.k (mZ u))) (.v (.t [.k (mZ u),.k (hG [(a (mN k),F)])])) (.v (.int 1)) (.o (.k (hG ((List.range k.m).map λi=>(a (sg i),if i<n then (nI k).getD i 0 else 0))))) (.o (.k (hG S))) (.v (.str (sg n))));unfold Cd dC aC;refine FM (b:=k.ct) (by rfl) (λai=>?_) (λai=>?_)
    .refine⟨rfl,rfl,_,ky _ (ag n z1),_,?_,nx⟩;have e1:(nI k).getD n 0=1:=by rw[vi,aO (.inl ai)]
     refine Eq.trans ?_ put;rw[e1];rfl
    .refine⟨rfl,rfl,by decide,112+(k.m-1),?_,?_⟩
     .show nM ("pqrs" : Af).cps.toList ((k.m:Int)-1)=_;rw[em];exact g3
     .rw[g4];refine⟨rfl,rfl,_,ky _ (ag n z1),_,?_,nx⟩;have e1:(nI k).getD n 0=if (nb false (decide (sg n=sg (k.m-1))))=true then 1 else 0:=by
       have aw:∀ i:Nat,i<4->∀ j:Nat,j<4->sg i=sg j->i=j:=by decide +kernel
       rw[vi];by_cases q:n=k.m-1
       .rw[aO (.inr q),q,bQ rfl];rfl
       .have q':¬ sg n=sg (k.m-1):=λz=>q (aw n (by omega) _ (by omega) z)
        rw[aJ (λh=>h.elim (λh=>by rw[ai] at h;cases h) q),bM q'];rfl
      refine Eq.trans ?_ put;rw[e1]
   .rintro G ⟨B,rfl⟩;have:((List.range k.m).map λi=>(a (sg i),if i<((List.range k.m).map λi=>D.str (sg i)).length then (nI k).getD i 0 else 0))=(List.range k.m).map λi=>(a (sg i),(nI k).getD i 0):=bO λi X=>by rw[aO (by rw[aA,bU];exact eC.mp X)]
    rw[this];exact L _ ⟨B,rfl⟩
  | false =>
   subst ac;have ee:e=List.replicate al.length 0:=by rw[he];rfl
   have d0:dL k al a e+1=rT k:=by rw[ee];unfold dL;rw[Lq O hC];exact l1
   have et:tt=tz:=by
    rw[ar,ae];exact bO λi X=>by rw[ee,Lq O hC,Rz]
   rw[d0,et] at L;refine⟨rfl,false,rfl,(aJ aT).mpr ⟨rfl,?_⟩⟩;show if (decide ((k.ak:Int)=1))=true then _ else _
   by_cases q:k.ak=1
   .rw[bQ (show (k.ak:Int)=1 by omega)];refine (aO rfl).mpr ?_;have aN:=R _ (Ca Y q);have sz:(hG S).length<100000:=by unfold hG;rw[List.length_map];omega
    have ev:(1:Int)*2 ^ ((rT k:Int)-1).toNat-1=2 ^ dL k al a e-1:=by
     rw[show ((rT k:Int)-1).toNat=dL k al a e by omega,lH]
    have ew:xI S (a "a") (2 ^ dL k al a e-1)=ww:=by
     rw[aa,af];unfold xI;rw[aO (by rw[aK];exact aH.mpr ⟨"a",Ca Y q,rfl⟩),aK];refine bO λx hx=>?_
     show (if a x=a "a" then (a x,(2:Int) ^ dL k al a e-1) else (a x,0))=_;by_cases z:x = "a"
     .rw[z,aO rfl,aO ⟨q,rfl⟩]
     .rw[aJ λh=>z (O.inj x (R x hx) _ aN h),aJ λh=>z h.2]
    have bv:rT k<=16:=by
     unfold rT;split
     .exact bP (jW (by decide) b2) (by decide)
     .omega
    refine⟨rfl,⟨by omega,by omega,by decide⟩,rfl,rfl,_,ky _ aN,.k (mP (hG S) (Sum.inr (a "a")) (.int (1*2 ^ ((rT k:Int)-1).toNat-1))),?_,L _ ⟨.n,?_⟩⟩
    .simp only[tV,aO sz];rfl
    .rw[ev,Qe,ew];rfl
   .rw[bM (show ¬ (k.ak:Int)=1 by omega)];refine (aJ aT).mpr (L _ ⟨.n,?_⟩);have ew:ww=S:=by
     rw[af,aa];exact bO λx _=>by rw[aJ λh=>q h.1]
    rw[ew]
 rintro _ ⟨B,rfl⟩;have hL:=JI (w:=F) Y O hC ba bh;have hy:=Z7 Y O hC;have bg:∀ p∈al,mG (mZ u) (Sum.inr p.2)=some (qT (vW u p.2)):=λp hq=>Rw (by rw[ay];exact cH hq)
 have a8:∀ p∈al,vW u p.2=if lo=true then none else some 0:=λp hq=>by
  unfold vW;cases q:u.find? λr=>decide (r.1=p.2) with
  | none =>
   have:=List.find?_eq_none.mp q (p.2,if lo=true then none else some 0) (by rw[ab];exact aH.mpr ⟨p,hq,rfl⟩);exact absurd (bQ rfl) this
  | some r =>
   have:=List.mem_of_find?_eq_some q;rw[ab] at this;obtain⟨x,_,rfl⟩:=aH.mp this;rfl
 obtain⟨st,Z⟩:∃ st,st=tF al (vW u):=⟨_,rfl⟩;have az:∀ c∈st,c∈eH al.length:=λc hc=>by rw[Z] at hc;exact (bV.mp hc).1
 have ask:tZ al (vW u)=al.map λ_=>if lo=true then (none:Ab Int) else some 0:=bO λp hq=>a8 p hq
 have em:e∈eH al.length:=by
  rw[he];split
  .exact We Y O
  .exact Hv _
 have bp:e∈st/\(∀ s∈st,dL k al a e<=dL k al a s)/\∀ e' r',st.filter (λs=>nX C al [(a (mN k),F)] s (List.replicate (dL k al a e+1) (eH (wIns C al).length)))=e'::r'->e'=e:=by
  cases ac:lo with
  | true =>
   subst ac;have ee:e=eS k al a:=by rw[he];rfl
   have d0:dL k al a e=0:=by rw[ee];unfold dL;rw[Fp Y O hC];exact l2
   have all:st=eH al.length:=by
    rw[Z];unfold tF;rw[ask];refine List.filter_eq_self.mpr λb _=>?_
    unfold xO;refine bY.mpr λp hp=>?_
    obtain⟨x,_,q⟩:=aH.mp (fE hp).2;rw[<- q];rfl
   refine⟨by rw[all];exact em,λs _=>by rw[d0];exact dB _,λe' r' h=>?_⟩;rw[d0,all] at h;have pc:∀ s∈eH al.length,(nX C al [(a (mN k),F)] s (List.replicate (0+1) (eH (wIns C al).length))=true↔dL k al a s=0):=λs hs=>by
    have e1:nX C al [(a (mN k),F)] s (List.replicate (0+1) (eH (wIns C al).length))=(Lw.brkA C al [(a (mN k),F)] s||false):=rfl;rw[e1,Bool.or_false];exact hL.brkA hs
   obtain⟨r2,be⟩:=He al.length (λs=>nX C al [(a (mN k),F)] s (List.replicate (0+1) (eH (wIns C al).length))) e em ((pc e em).mpr d0) λx hx bc=>by rw[ee];exact AX Y O hC hx ((pc x hx).mp bc)
   rw[be] at h;exact (gE h).1.symm
  | false =>
   subst ac;have ee:e=List.replicate al.length 0:=by rw[he];rfl
   have all:∀ s∈st,s=e:=λs hs=>by
    have q:=hs;rw[Z] at q;unfold tF at q;rw[ask] at q;obtain⟨q1,q2⟩:=bV.mp q;have sl:=(pP q1).1;rw[ee];refine jU (by rw[sl,cO]) λi M V=>?_
    rw[List.getElem_replicate];have X:i<al.length:=by omega
    unfold xO at q2;have:=bY.mp q2 (s[i],some 0) (by
     have:(s.zip (al.map λ_=>if false=true then (none:Ab Int) else some 0))[i]'(by rw[eP,aA];omega)=(s[i],some 0):=by rw[hX,kU];rfl
     rw[<- this];exact bR _)
    exact (cM this).symm
   have a6:e∈st:=by
    rw[Z];unfold tF;rw[ask];refine bV.mpr ⟨em,?_⟩;unfold xO;refine bY.mpr λp hp=>?_
    obtain⟨M,V⟩:=fE hp;obtain⟨x,_,q⟩:=aH.mp V;rw[ee] at M;have:=(gG.mp M).2;rw[<- q,this];rfl
   refine⟨a6,λs hs=>by rw[all s hs];exact aP _,λe' r' h=>?_⟩;have:e'∈st.filter (λs=>nX C al [(a (mN k),F)] s (List.replicate (dL k al a e+1) (eH (wIns C al).length))):=by rw[h];exact aF
   exact all e' (bV.mp this).1
 obtain⟨s1,s2,s3⟩:=bp;have yes:=hL.yes az s1;refine⟨C,al,[(a (mN k),F)],mZ u,vW u,rfl,hC,by omega,bg,λbo _ _ bb=>?_,λW e' r' _ M V h3=>?_⟩
 .have:=bb (dL k al a e);rw[<- Z,yes] at this;cases this
 .rw[<- Z] at M V h3;have eW:W=dL k al a e:=by
   rcases Nat.lt_trichotomy W (dL k al a e) with q | q | q
   .rw[hL.no az s2 q] at M;cases M
   .exact q
   .have:=V _ q;rw[yes] at this;cases this
  subst eW;rw[s3 e' r' h3];refine⟨.inl rfl,by show 4<=1000;decide,"broken",_,Bq C al [(a (mN k),F)] e (dL k al a e+1),(al.map (·.2)).zip e,ww,tt,rfl,rfl,?_,?_,?_,?_,bi⟩
  .rw[W7 hL em hy,af];exact Zc Y O _
  .rw[av];exact HG O hC (pP em).1
  .have:ww.map (·.1)=(lU k).map a:=by rw[af,aK];rfl
   rw[this,<- a4];exact a5
  .have:tt.map (·.1)=(List.range k.m).map λi=>a (sg i):=by rw[ar,aK];rfl
   rw[this,<- a0];exact a3
end
def Fh (K:lK):Sp:=λe H Q _=>∃ (a:Ad) (c:Aa Int),e=[.ref a]/\hI K H a (c.map V.int)/\c.length<=63/\∀ d,Q (.b true) d
section
variable {P:Ah}{K:lK}
theorem O9:FnScope ["script","deck"] ["script"] (mA Oe):=nZ
theorem Vx (F:Fun K "law" "law" Oe f fd) (T:Txt C) (g:Gd K C "_law_deck" Gj ["script"] J I)
  (j:Kn P w K C base 7 "_law_right" E5 ["deck"] L6)
  (l:FnOk P w K C base oD 1 J I ["script"] (M3 K)) :
  FnOk P w K C base oD 8 f fd ["script"] (Fh K):=by
 refine F.ok O9 (λW H Q E h=>?_) (λN A y s H W Q E u h=>?_)
 .obtain⟨a,G,rfl,_⟩:=h;rfl
 .obtain⟨a,G,rfl,R,q,O⟩:=h;have X:=Gv u;have x:Room 1 _:=u.mono (by decide);refine S5 _ (pR (i:=1) O9.nd rfl (Or.inl rfl) (uG l x rfl g.m g.k g.b .nil tG (mX (pv 0) nJ))) ?_;refine⟨_,rfl,a,G,rfl,R,q,λd c M L _ _ _=>?_⟩;refine⟨_,(lZ (nK (U5 (mF j u (dK (dT 1) gD)) (Gz (mF j u (dK (dT 1) gD)))))),⟨[d,c],λ_=>False,M⟩,[.n,.v (.r (.ref d))],[],{ nx:=λ_=>False,rt:=λr=>r = .v (.b true) },rfl,?_,?_,?_,?_⟩
  .refine⟨λb o e _=>e,.inr ⟨d,c,rfl,L⟩,fQ,λb S=>absurd S aY,λp t=>?_⟩;have t:p∈[((Sl.n:Sl),some (V.ref a)),(.v (.r (.ref d)),some (V.ref d))]:=t;simp only[aI,aY,fJ,or_self] at t;rcases t with rfl | rfl<;>first | trivial | exact⟨_,rfl,.r _⟩
  .exact⟨d,c,rfl,rfl,.inl rfl,d,c,rfl,rfl,.inl rfl,rfl⟩
  .intro z B D _ _ _;exact⟨False.elim,False.elim,False.elim⟩
  .rintro r v z B D _ d1 rfl;obtain rfl:=d1.valAt.bl_inv;exact O D
end
def DF (K:lK) (x:Af) (st:Stmt):Prop:=∃ (f:Ad) (e a:Ab Ad) (sl:Array (Ab Ac)) (d kV c pm cd b:Ac),PySem.W.nsIn K mainGlobals x=some (some (.ref f))/\K.lookup f=some ⟨d,e,.func (PySem.W.fnOf x x (rX st) (qS st) (mA st) .none kV c pm a cd b),sl⟩/\PySem.W.codeIn K cd x=true/\PySem.W.keepIn K (.ref f)=true
def NZ (K:lK) (x:Af):Prop:=PySem.W.nsIn K mainGlobals x=some none
theorem df_mk {K:lK}{st:Stmt}{sl:Array (Ab Ac)}{kV cd:Ac}(a:PySem.W.nsIn K mainGlobals x=some (some (.ref f))) (l:K.lookup f=some ⟨p,r,.func (PySem.W.fnOf x x (rX st) (qS st) (mA st) .none kV o pm g cd j),sl⟩) (c:PySem.W.codeIn K cd x=true) (k:PySem.W.keepIn K (.ref f)=true):DF K x st:=⟨f,r,g,sl,p,kV,o,pm,cd,j,a,l,c,k⟩
theorem Aw {K:lK}{st:Stmt}(o:Aa Af) (X:K.In h) (G:h.Ns mainGlobals J) (d:DF K x st)
  (I:∀ (kV j pm:Ac) (r:Ab Ad) (g C:Ac) (p:Aa Ac),p.length=o.length->bindArgs (PySem.W.fnOf x x (rX st) (qS st) (mA st) .none kV j pm r g C) ⟨p,[]⟩=pure (o.zip p)):∃ f fd,Gd K J x st o f fd:=by
 obtain⟨f,i,r,sl,e,kV,b,pm,cd,C,a,l,c,k⟩:=d;have F:=Lx (st:=st) l c k;exact⟨f,_,F,PySem.W.mg_of X G a,k,F.binds I⟩
theorem CG {K:lK}{st:Stmt}(X:K.In h) (G:h.Ns mainGlobals j) (d:DF K x st) (g:∀ a b c d e f,bindArgs (PySem.W.fnOf x x (rX st) (qS st) (mA st) .none a b c d e f) ⟨[],[]⟩=pure []:=by intros;rfl):∃ f fd,Gd K j x st [] f fd :=
 Aw [] X G d λa b c d e f k i=>by rcases k with _ | _<;>first | exact g a b c d e f | cases i
theorem uO {K:lK}{st:Stmt}(j:Af) (X:K.In h) (G:h.Ns mainGlobals o) (d:DF K x st) (l:∀ a b c d e f g,bindArgs (PySem.W.fnOf x x (rX st) (qS st) (mA st) .none a b c d e f) ⟨[g],[]⟩=pure [(j,g)]:=by intros;rfl):∃ f fd,Gd K o x st [j] f fd :=
 Aw [j] X G d λa b c d e f k i=>by rcases k with _ | ⟨g,_ | _⟩<;>first | exact l a b c d e f g | cases i
theorem rR {K:lK}{st:Stmt}(l o:Af) (X:K.In h) (G:h.Ns mainGlobals r) (d:DF K x st) (p:∀ a b c d e f g j,bindArgs (PySem.W.fnOf x x (rX st) (qS st) (mA st) .none a b c d e f) ⟨[g,j],[]⟩=pure [(l,g),(o,j)]:=by intros;rfl):∃ f fd,Gd K r x st [l,o] f fd :=
 Aw [l,o] X G d λa b c d e f k i=>by rcases k with _ | ⟨g,_ | ⟨j,_ | _⟩⟩<;>first | exact p a b c d e f g j | cases i
theorem zO {K:lK}{st:Stmt}(o p r:Af) (X:K.In h) (G:h.Ns mainGlobals I) (d:DF K x st) (C:∀ a b c d e f g j l,bindArgs (PySem.W.fnOf x x (rX st) (qS st) (mA st) .none a b c d e f) ⟨[g,j,l],[]⟩=pure [(o,g),(p,j),(r,l)]:=by intros;rfl):∃ f fd,Gd K I x st [o,p,r] f fd :=
 Aw [o,p,r] X G d λa b c d e f k i=>by rcases k with _ | ⟨g,_ | ⟨j,_ | ⟨l,_ | _⟩⟩⟩<;>first | exact C a b c d e f g j l | cases i
theorem Qz {K:lK}{st:Stmt}(p r C I:Af) (X:K.In h) (G:h.Ns mainGlobals T) (d:DF K x st) (J:∀ a b c d e f g j l o,bindArgs (PySem.W.fnOf x x (rX st) (qS st) (mA st) .none a b c d e f) ⟨[g,j,l,o],[]⟩=pure [(p,g),(r,j),(C,l),(I,o)]:=by intros;rfl):∃ f fd,Gd K T x st [p,r,C,I] f fd :=
 Aw [p,r,C,I] X G d λa b c d e f k i=>by rcases k with _ | ⟨g,_ | ⟨j,_ | ⟨l,_ | ⟨o,_ | _⟩⟩⟩⟩<;>first | exact J a b c d e f g j l o | cases i
theorem Vn {K:lK}{st:Stmt}(r C I J T:Af) (X:K.In h) (G:h.Ns mainGlobals mg) (d:DF K x st) (U:∀ a b c d e f g j l o p,bindArgs (PySem.W.fnOf x x (rX st) (qS st) (mA st) .none a b c d e f) ⟨[g,j,l,o,p],[]⟩=pure [(r,g),(C,j),(I,l),(J,o),(T,p)]:=by intros;rfl):∃ f fd,Gd K mg x st [r,C,I,J,T] f fd :=
 Aw [r,C,I,J,T] X G d λa b c d e f k i=>by rcases k with _ | ⟨g,_ | ⟨j,_ | ⟨l,_ | ⟨o,_ | ⟨p,_ | _⟩⟩⟩⟩⟩<;>first | exact U a b c d e f g j l o p | cases i
theorem all_mk {l:PySem.W.OpenLaw}{K:lK}(X:K.In h) (G:h.Ns mainGlobals mg) (cb:mg "law" = some (.ref fa))
  (d1:DF K "check_there" Dz)
  (d2:DF K "told_by" Dq)
  (d3:DF K "side_bits" Dv)
  (d4:DF K "gate_bit" Dw)
  (d5:DF K "all_bits" xL)
  (d6:DF K "place_worths" Cz)
  (d7:DF K "carried_inputs" yU)
  (d8:DF K "word_inputs" yP)
  (d9:DF K "word_outputs" Fn)
  (bg:DF K "let_edges" C0)
  (bh:DF K "are_let" Ga)
  (bi:DF K "step_table" Gp)
  (bj:DF K "steps_from" Cv)
  (bm:DF K "cell_part" Ge)
  (bn:DF K "judged" Fe)
  (bo:DF K "is_broken_by" Ci)
  (bp:DF K "has_break" El)
  (bq:DF K "carried_on" Bp)
  (br:DF K "broken" Ez)
  (bt:DF K "can_break" Bi)
  (bu:DF K "with_least_word" Gi)
  (bv:DF K "with_bit" Ej)
  (bw:DF K "word_told" E6)
  (bx:DF K "_law_deck" Gj)
  (bz:DF K "_law_take" At)
  (b0:DF K "_law_kept" A6)
  (b1:DF K "_law_made_names" Cy)
  (b2:DF K "_law_names" Fb)
  (b3:DF K "_law_shuffled" Dp)
  (b4:DF K "_law_words_text" Eh)
  (b5:DF K "_law_counter" Ew)
  (b6:DF K "_law_register" Fq)
  (b7:DF K "_law_late" Go)
  (b8:DF K "_law_made_late" C2)
  (b9:DF K "_law_right" E5)
  (ca:DF K "law" Cn)
  (z1:NZ K "len")
  (z2:NZ K "range")
  (z3:NZ K "sum")
  (z4:NZ K "min")
  (z5:NZ K "max")
  (z6:NZ K "tuple")
  (z7:NZ K "list")
  (z8:NZ K "set")
  (z9:NZ K "dict")
  (cc:NZ K "int")
  (cf:NZ K "str")
  (cg:NZ K "zip")
  (ch:NZ K "enumerate")
  (cj:NZ K "all")
  (ck:NZ K "any")
  (cl:NZ K "isinstance")
  (cm:NZ K "sorted")
  (cn:NZ K "abs")
  (cp:NZ K "reversed")
  (cq:NZ K "bool")
  : ∃ fd:FuncData,(∀ (s:Ae) (v:Ac),BindsTo s fd ⟨[v],[]⟩ [("script",v)])/\∀ base:Ag,K.In base->base.Ns mainGlobals mg->FnOk l.prog w K mg base oD 8 fa fd ["script"] (Fh K):=by
 obtain⟨f1,e1,p⟩:=rR "names" "given" X G d1;obtain⟨f2,e2,a9⟩:=rR "cell" "bits" X G d2;obtain⟨f3,e3,ao⟩:=rR "cell" "bits" X G d3;obtain⟨f4,e4,a1⟩:=rR "word" "bits" X G d4;obtain⟨f5,e5,a0⟩:=uO "count" X G d5;obtain⟨f6,e6,Q⟩:=uO "count" X G d6;obtain⟨f7,e7,y⟩:=uO "row" X G d7;obtain⟨f8,e8,C⟩:=uO "row" X G d8;obtain⟨f9,e9,S⟩:=uO "row" X G d9;obtain⟨dk,cs,ak⟩:=rR "row" "edges" X G bg;obtain⟨dm,cu,a8⟩:=rR "bits" "asked" X G bh;obtain⟨dn,cv,aa⟩:=rR "row" "weights" X G bi;obtain⟨dp,cw,ab⟩:=zO "row" "weights" "carried" X G bj;obtain⟨dq,cx,ag⟩:=zO "row" "weights" "known" X G bm;obtain⟨dr,cy,bd⟩:=rR "row" "claim" X G bn;obtain⟨ds,cz,N⟩:=zO "table" "states" "choices" X G bo;obtain⟨dt,c0,ah⟩:=rR "steps" "choices" X G bp;obtain⟨du,c1,U⟩:=zO "table" "states" "choices" X G bq;obtain⟨dv,c2,bc⟩:=Qz "row" "table" "starts" "width" X G br;obtain⟨dw,c3,af⟩:=zO "table" "edges" "choices" X G bt;obtain⟨dx,c4,t⟩:=Qz "table" "edges" "choices" "at" X G bu;obtain⟨dy,c5,a4⟩:=zO "choices" "at" "bit" X G bv;obtain⟨dz,c6,aq⟩:=rR "choices" "at" X G bw;obtain⟨d0,c7,L⟩:=uO "script" X G bx;obtain⟨ea,c8,M⟩:=rR "deck" "many" X G bz;obtain⟨eb,c9,a2⟩:=CG X G b0;obtain⟨ec,da,z⟩:=rR "deck" "many" X G b1;obtain⟨ed,db,ai⟩:=rR "deck" "many" X G b2;obtain⟨ee,dd,P⟩:=rR "deck" "some" X G b3;obtain⟨ef,de,A⟩:=uO "text" X G b4;obtain⟨eg,df,r⟩:=rR "many" "asked" X G b5;obtain⟨eh,dg,O⟩:=uO "many" X G b6;obtain⟨ei,dh,a3⟩:=uO "deck" X G b7;obtain⟨ej,di,E⟩:=Vn "deck" "rows" "last" "many" "ins" X G b8;obtain⟨ek,dj,aj⟩:=uO "deck" X G b9;obtain⟨f,od,an,sl,oc,kV,dc,pm,cd,ct,a,lk,c,k⟩:=ca;cases cb.symm.trans (PySem.W.mg_of X G a);have FL:=Lx (st:=Cn) lk c k;refine⟨PySem.W.fnOf "law" "law" (rX Cn) (qS Cn) (mA Cn) .none kV dc pm an cd ct,λs v=>.of_eq rfl,λbase _ _=>?_⟩;have T:Txt mg:=⟨bS X G z1,bS X G z2,bS X G z3,bS X G z4,bS X G z5,bS X G z6,bS X G z7,bS X G z8,bS X G z9,bS X G cc,bS X G cf,bS X G cg,bS X G ch,bS X G cj,bS X G ck,bS X G cl,bS X G cm,bS X G cn,bS X G cp,bS X G cq⟩;have q:∀ {k x st ps R f fd},Gd K mg x st ps f fd->nY l.prog w K mg base k x st ps R->Kn l.prog w K mg base k x st ps R:=λg o=>⟨_,_,g,o _ _ g.F⟩
 have m:=q M λ_ _ F=>LU (Jl F T)
 have av:=q ai λ_ _ F=>Vz (KG F T M a2 z)
 have Y:=q P (CY T m);have D:=q A (BR T);have I:=q p λ_ _=>FI
 have a5:=q a1 (Vt T);have bb:=q a9 (AU T I a5);have Z:=q Q (HU T);have b:=q y ML;have d:=q C (Uw b);have j:=q S Xr;have e:=q a0 (EB T);have ay:=q ao (Wu T bb);have ar:=q ag (W4 T d j);have ae:=q ab (GI T e d b ay ar);have ac:=q aa (HX T e ae);have ba:=q a8 (JF T);have ax:=q ak (BH T b e ba);have au:=q ah (Zh T);have i:=q N (Xa T au);have n:=q U (KU T);have B:=q af (LO T n i);have a7:=q a4 (U2 T);have u:=q t (DH T a7 B);have az:=q aq (LJ T Z);have be:=q bc (HD T d e B u az b);have bf:=q bd (FP T ac ax d e i be n);have J:=q r (IA T);have V:=q O (BL T);have a6:=q a3 (IZ T m J V);have H:=q E (CA T D av Y);have aw:=q aj (Za T a6 m H bf);exact Vx FL T L aw (Ws L.F T)
theorem walk {l:PySem.W.OpenLaw}{q:Ah}{g:Aa Af}{C:(Af->Ab Ac)->Ag->Prop}{p:World->Ag->Prop}{d:DefRec}{K:Params->lK}(J:l.most=some 63) (o:d.params.defaults=[])
  (I:∀ (w:World) (h:Ag),p w h->(K w.params).In h)
  (F:∀ (w:World) (j:Af->Ab Ac) (r:Ad) (h:Ag),(K w.params).In h->h.Ns mainGlobals j->j d.name=some (.ref r) ->∃ fd:FuncData,(∀ (s:Ae) (u:Ac),BindsTo s fd ⟨[u],[]⟩ [("script",u)])/\∀ base:Ag,(K w.params).In base->base.Ns mainGlobals j->FnOk l.prog w (K w.params) j base oD 8 r fd ["script"] (Fh (K w.params))) :
  PySem.W.WalkO q g C p l.row.toRowW d [] (λf T=>PySem.call f T) :=
 L2.walk_of (n:=63) (k:=8) (x := "script") (CX:=λ_=>oD) (sp:=λw=>Fh (K w.params)) J (by decide) o ⟨rfl,by decide,by decide⟩ I F (λ_ _ a e c _ b=>⟨a,e,rfl,b,c,λ_=>rfl⟩) λ_ _ _ _ _ z=>z
end Lw
namespace PySem.W.Fast
theorem tw3078659007514365338:True:=⟨⟩
theorem tw14102420871195609718:True:=⟨⟩
theorem tw9631451706654553610:True:=⟨⟩
theorem tw6913785052539362107:True:=⟨⟩
theorem tw1611459233123539555:True:=⟨⟩
theorem tw17129037389894196382:True:=⟨⟩
theorem tw7615487906707929383:True:=⟨⟩
theorem tw14330787140372794961:True:=⟨⟩
theorem tw15149303681276425332:True:=⟨⟩
theorem tw10610771426535885086:True:=⟨⟩
theorem tw445484702571164567:True:=⟨⟩
theorem tw18439457704987075049:True:=⟨⟩
theorem tw3101796444131135548:True:=⟨⟩
theorem tw10956332290418123954:True:=⟨⟩
theorem tw18082087075799520376:True:=⟨⟩
theorem tw11772508843295948681:True:=⟨⟩
theorem tw18164600721707211708:True:=⟨⟩
theorem tw12025344351966213850:True:=⟨⟩
theorem tw3470974382024662581:True:=⟨⟩
theorem tw9157333542519381265:True:=⟨⟩
theorem tw9010091965462013801:True:=⟨⟩
theorem tw15792862439289845705:True:=⟨⟩
theorem tw4880483555813656137:True:=⟨⟩
theorem tw10657322267245023579:True:=⟨⟩
theorem tw6222312187927116330:True:=⟨⟩
theorem tw15159426926626612207:True:=⟨⟩
theorem tw7027780432508100344:True:=⟨⟩
theorem tw796799304083192444:True:=⟨⟩
theorem tw13398669573374912699:True:=⟨⟩
theorem tw6613040057208954810:True:=⟨⟩
theorem tw10377134161616743253:True:=⟨⟩
theorem tw4250826712684912169:True:=⟨⟩
theorem tw3085513812255778864:True:=⟨⟩
theorem tw9638797051693917903:True:=⟨⟩
theorem tw10980513189326996743:True:=⟨⟩
theorem tw9557659527002083449:True:=⟨⟩
theorem tw18359545577546380863:True:=⟨⟩
theorem tw18133831947830502977:True:=⟨⟩
theorem tw3501052638527784616:True:=⟨⟩
theorem tw8256417360219898794:True:=⟨⟩
theorem tw4737672630447102029:True:=⟨⟩
theorem tw13052592435972864271:True:=⟨⟩
theorem tw8830460886264801165:True:=⟨⟩
theorem tw9016070889603008984:True:=⟨⟩
theorem tw4334213974462031794:True:=⟨⟩
theorem tw10037882559328873005:True:=⟨⟩
theorem tw5442577520365397417:True:=⟨⟩
theorem tw13591416729728615466:True:=⟨⟩
theorem tw6963661487733364350:True:=⟨⟩
theorem tw9407811460744266513:True:=⟨⟩
theorem tw10946512029086645730:True:=⟨⟩
theorem tw17114778308594924592:True:=⟨⟩
theorem tw15822831830550103864:True:=⟨⟩
theorem tw10099617274686052068:True:=⟨⟩
theorem tw632435536976908461:True:=⟨⟩
theorem tw7591779053258392504:True:=⟨⟩
theorem tw17278897460733121705:True:=⟨⟩
theorem tw5030351384216784492:True:=⟨⟩
theorem tw15460969063820862193:True:=⟨⟩
theorem tw12118751492643256382:True:=⟨⟩
theorem tw10531029832836911804:True:=⟨⟩
theorem tw10997859958032693387:True:=⟨⟩
theorem tw16833726333084406848:True:=⟨⟩
theorem tw14366304982675350433:True:=⟨⟩
theorem tw17980842656916176168:True:=⟨⟩
theorem tw6681385299438614454:True:=⟨⟩
theorem tw5297798876051347115:True:=⟨⟩
theorem tw9284349779146503599:True:=⟨⟩
theorem tw3795158219359479453:True:=⟨⟩
theorem tw6981328184828272491:True:=⟨⟩
theorem tw1771513583501399184:True:=⟨⟩
theorem tw3581152618260134124:True:=⟨⟩
theorem tw4147940551793008787:True:=⟨⟩
theorem tw11248739296916252304:True:=⟨⟩
theorem tw17801285068500370683:True:=⟨⟩
theorem tw5042946937142211243:True:=⟨⟩
theorem tw4927496253746068783:True:=⟨⟩
theorem tw9662951339692053291:True:=⟨⟩
theorem tw12652270721895275439:True:=⟨⟩
theorem tw1340854153564842276:True:=⟨⟩
theorem tw11022278525857041714:True:=⟨⟩
theorem tw17029493117432955558:True:=⟨⟩
theorem tw11680359770057321045:True:=⟨⟩
theorem tw16061645704561315227:True:=⟨⟩
theorem tw13938951421736890815:True:=⟨⟩
theorem tw10878470605371091040:True:=⟨⟩
theorem tw1643848686218071556:True:=⟨⟩
theorem tw4303122198750703447:True:=⟨⟩
theorem tw11938372308200181620:True:=⟨⟩
theorem tw4041890452832766634:True:=⟨⟩
theorem tw14747040298343813580:True:=⟨⟩
theorem tw5678881798826714292:True:=⟨⟩
theorem tw3635052234485522058:True:=⟨⟩
end PySem.W.Fast
open PySem PySem.W PyProof.Rows
set_option maxRecDepth 100000 in
set_option maxHeartbeats 0 in
theorem PySem.Challenge.cw_laidcells_k17_rows_broken_late_holds : PySem.Challenge.rw_laidcells_k17_rows_broken_late.Holds := by
 w_on;o_law;k_head;(case hw=>w_witness2)
 k_fill
 refine Lw.walk (l:=PySem.Challenge.rw_laidcells_k17_rows_broken_late) rfl rfl (fun w h Y=>PySem.W.kIn_of Y) ?F
 case F =>
  intro w mg fa h KX G hmg;refine' Lw.all_mk KX G hmg ?_ ?_ ?_ ?_ ?_ ?_ ?_ ?_ ?_ ?_ ?_ ?_ ?_ ?_ ?_ ?_ ?_ ?_ ?_ ?_ ?_ ?_ ?_ ?_ ?_ ?_ ?_ ?_ ?_ ?_ ?_ ?_ ?_ ?_ ?_ ?_ ?_ ?_ ?_ ?_ ?_ ?_ ?_ ?_ ?_ ?_ ?_ ?_ ?_ ?_ ?_ ?_ ?_ ?_ ?_ ?_
  all_goals try refine' Lw.df_mk ?_ ?_ ?_ ?_
  all_goals try unfold Lw.NZ
  all_goals try first | k_is | (dsimp only;k_is)
