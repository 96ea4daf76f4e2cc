import PyProof.Rows.All
import Wide.All
import OpenK.AllK
import Wide.FinOn
import Lean
import PyProof.EqAt
import PyProof.EqKinds
import PyProof.TupleCall
import PyProof.StationsW
import PyProof.Commute
import PyProof.ExcClass3
import PyProof.ExcInit
import OpenK.KCls
import OpenK.KMake
import PyProof.ExcArgsOwn
import PyProof.InstStoreFacts
import PyProof.MaxThree
import KE.KMinKey
import KE.KIntText
import PyProof.DictUpdate
import PyProof.Draws
import PyProof.EnumMake
import PyProof.DictIter
import PySem.Challenge.RW_laidcells_k23_whole_fields_that_add
set_option Elab.async false
set_option linter.all false
set_option compiler.extract_closed false
set_option maxRecDepth 100000
set_option maxHeartbeats 20000000
noncomputable section
abbrev Aa:=@List
abbrev Ab:=@Option
abbrev Ac:=@PySem.Value
abbrev Ad:=@PySem.Addr
abbrev Ae:=@PySem.Shared
abbrev Af:=@PySem.Str
abbrev Ag:=@PySem.Heap
abbrev Ah:=@PySem.Program
abbrev kC:=PySem.W.Frag
abbrev aA:=@PySem.wpAny_bind
abbrev aB:=@PySem.wpAny_pure
abbrev aD:=@List.length_map
abbrev aE:=@if_neg
abbrev aF:=@PySem.Heap.get?_push_of_some
abbrev aG:=@List.getElem?_eq_some_iff
abbrev aH:=@if_pos
abbrev aI:=@List.map_cons
abbrev aJ:=@List.mem_cons
abbrev aK:=@List.size_toArray
abbrev aL:=@List.getElem?_eq_getElem
abbrev aM:=@List.mem_cons_self
abbrev aN:=@List.mem_append_right
abbrev aO:=@List.nodup_append
abbrev aP:=@Nat.le_refl
abbrev aQ:=@PySem.Heap.lt_size
abbrev aR:=@Bool.false_ne_true
abbrev aT:=@List.map_append
abbrev aU:=@PySem.Heap.get?_push_size
abbrev aV:=@List.mem_cons_of_mem
abbrev aW:=@List.mem_of_getElem?
abbrev aX:=@List.append_assoc
abbrev aY:=@Nat.lt_of_lt_of_le
abbrev aZ:=@List.mem_append
abbrev bA:=@List.mem_singleton
abbrev bB:=@List.getElem?_map
abbrev bC:=@Option.map_eq_some_iff
abbrev bD:=@PySem.W.mg_none_of
abbrev bE:=@List.mem_map
abbrev bF:=@PySem.wpAny_holding
abbrev bG:=@List.map_map
abbrev bH:=@Nat.ne_of_lt
abbrev bI:=@List.length_append
abbrev bJ:=@decide_eq_false
abbrev bK:=@PySem.wpAny_callSpecial?_slot
abbrev bL:=@List.length_set
abbrev bM:=@List.mem_append_left
abbrev bN:=@List.take_of_length_le
abbrev bO:=@Option.some.inj
abbrev bP:=@List.nodup_cons
abbrev bQ:=@Int.toNat_natCast
abbrev bR:=@PySem.F.plainAttrs_list
abbrev bS:=@Nat.le_trans
abbrev bT:=@Bool.false_eq_true
abbrev bU:=@PySem.wpAny_call_entry
abbrev bV:=@List.cons_append
abbrev bW:=@PySem.F.slot_list_append
abbrev bX:=@PySem.F.type_list_append
abbrev bY:=@List.length_take
abbrev bZ:=@List.not_mem_nil
abbrev cA:=@PySem.W.mg_of
abbrev cB:=@List.find?_cons
abbrev cC:=@decide_eq_true
abbrev cD:=@PySem.tupleKind_room_in1
abbrev cE:=@PySem.F.slot_tuple_iterator_next
abbrev cF:=@beq_eq_false_iff_ne
abbrev cG:=@PySem.Heap.SameBut.update
abbrev cH:=@Array.getElem?_eq_getElem
abbrev cI:=@Function.comp_def
abbrev cJ:=@Nat.lt_of_le_of_lt
abbrev cK:=@PySem.wpAny_field
abbrev cL:=@List.replicate_succ
abbrev cM:=@Bool.and_eq_true
abbrev cN:=@PySem.wpAny_mono
abbrev cO:=@congrArg
abbrev cP:=@List.length_cons
abbrev cQ:=@List.lookup_cons
abbrev cR:=@PyProof.Rows.boot_tuple
abbrev cS:=@PyProof.Rows.boot_dict
abbrev cT:=@PySem.W.kia_one
abbrev cU:=@PySem.Heap.size_push
abbrev cV:=@Option.isSome_iff_exists
abbrev cW:=@PySem.mem_of_lookup
abbrev cX:=@PySem.F.slot_dict_get
abbrev cY:=@List.take_add_one
abbrev cZ:=@List.getElem?_append_right
abbrev dB:=@Int.mul_zero
abbrev dD:=@PySem.wpAny_truthy_bool
abbrev dF:=@PySem.wpAny_seqItems
abbrev dH:=@Ne.symm
abbrev dJ:=@PySem.F.slot_dict_keyiterator_next
abbrev dL:=@if_false
abbrev dN:=@Nat.zero_le
abbrev dO:=@List.getElem?_set_ne
abbrev dP:=@PyProof.Rows.callWith_type1
abbrev dQ:=@PySem.Paired.length
abbrev dR:=@of_decide_eq_true
abbrev dU:=@PySem.wpAny_newObj_type
abbrev dX:=@PySem.F.entry_dict_get
abbrev dY:=@Array.getElem?_eq_none
abbrev dZ:=@List.getElem_cons_drop
abbrev eA:=@Int.add_zero
abbrev eB:=@PySem.wpAny_dictEpoch
abbrev eC:=@List.cons.injEq
abbrev eD:=@List.length_replicate
abbrev eE:=@List.take_append_drop
abbrev eF:=@if_true
abbrev eG:=@PySem.wpAny_attempt
abbrev eJ:=@List.sum_cons
abbrev eK:=@PySem.wpAny_rule
abbrev eL:=@PySem.F.args_tuple_iterator_next_1
abbrev eM:=@PySem.F.slot_zip_next
abbrev eN:=@List.map_congr_left
abbrev eO:=@PySem.wpAny_typeOf
abbrev eP:=@PySem.F.entry_tuple_iterator_next
abbrev eQ:=@Nat.lt_irrefl
abbrev eR:=@List.any_cons
abbrev eS:=@Int.mul_assoc
abbrev eT:=@List.length_drop
abbrev eU:=@PySem.wpAny_isInstance
abbrev eV:=@List.zip_cons_cons
abbrev eW:=@PySem.Heap.get?_update_self
abbrev eX:=@List.getElem?_append_left
abbrev eY:=@PySem.wpAny_passesOwn
abbrev eZ:=@List.nil_append
abbrev fF:=@List.length_nil
abbrev fH:=@Sum.inr.inj
abbrev fJ:=@List.map_nil
abbrev fK:=@Nat.le_of_lt
abbrev fO:=@List.flatten_cons
abbrev fQ:=@Option.isSome_map
abbrev fR:=@List.set_eq_of_length_le
abbrev fU:=@PyProof.Rows.slot_tuple_getitem
abbrev fV:=@Array.length_toList
abbrev fX:=@PySem.F.plainAttrs_dict
abbrev fY:=@List.perm_middle
abbrev gA:=@List.eq_nil_iff_forall_not_mem
abbrev gB:=@Int.mul_one
abbrev gC:=@List.find?_eq_none
abbrev gE:=@PySem.Calls.spliced_cons
abbrev gF:=@PySem.wpAny_Call_Name_kw
abbrev gG:=@PySem.wpAny_pyIter_tuple
abbrev gH:=@PySem.wpAny_setField_rec
abbrev gI:=@Int.emod_lt_of_pos
abbrev gJ:=@List.append_nil
abbrev gK:=@Int.add_assoc
abbrev gL:=@Array.getElem?_toList
abbrev gM:=@PySem.wpAny_notOrdered_dict
abbrev gO:=@PySem.wpAny_dictEntries
abbrev gP:=@decide_eq_true_eq
abbrev gQ:=@PySem.Around.under_plainId
abbrev gR:=@List.take_zero
abbrev gS:=@Bool.and_eq_true_iff
abbrev gT:=@PySem.wpAny_setField
abbrev gU:=@Nat.pow_le_pow_right
abbrev gW:=@List.getElem_mem
abbrev gX:=@PySem.call_meetsIn
abbrev gY:=@List.take_length
abbrev gZ:=@List.filterMap_cons
abbrev hG:=@PySem.F.args_tuple_add_2
abbrev hU:=@PySem.F.slot_list_getattribute
abbrev hV:=@PySem.AutoSeq1.wpAny_loadPart'
abbrev hX:=@Int.emod_nonneg
abbrev hZ:=@List.mem_filterMap
abbrev iA:=@beq_iff_eq
abbrev iB:=@PySem.sub_AttributeError
abbrev iC:=@PySem.Obj.data_mapFields
abbrev iD:=@List.getElem?_cons_zero
abbrev iE:=@List.getElem?_cons_succ
abbrev iF:=@PySem.F.entry_tuple_add
abbrev iG:=@PySem.F.args_dict_get_2
abbrev iH:=@PySem.F.args_dict_get_3
abbrev iI:=@PySem.F.slot_zip_getattribute
abbrev iJ:=@Int.eq_ofNat_of_zero_le
abbrev iK:=@Nat.lt_or_ge
abbrev iL:=@Option.some.injEq
abbrev iM:=@PySem.Calls.spliced_nil
abbrev iN:=@PySem.F.slot_tuple_add
abbrev iO:=@PySem.Calls.callWith_builtin
abbrev iP:=@PyProof.Rows.boot_list
abbrev iQ:=@or_false
abbrev iR:=@PySem.F.args_zip_next_1
abbrev iS:=@Int.mul_comm
abbrev iT:=@Int.emod_eq_of_lt
abbrev iU:=@PyProof.Rows.boot_sum
abbrev iW:=@PyProof.Rows.boot_int
abbrev iX:=@Int.emod_add_mul_ediv
abbrev iY:=@List.all_eq_true
abbrev iZ:=@PySem.F.entry_zip_next
abbrev jA:=@PySem.Calls.evalArgs_plain
abbrev jB:=@Nat.le_succ
abbrev jC:=@PySem.wpAny_of_eq
abbrev jD:=@Int.mul_add
abbrev jE:=@List.mem_filter
abbrev jF:=@PySem.wpAny_execs_nil
abbrev jG:=@Bool.eq_iff_iff
abbrev jH:=@PySem.codeAny_builtin
abbrev jI:=@List.forIn_cons
abbrev jJ:=@PySem.PassesOwn.never
abbrev jK:=@Nat.two_pow_pos
abbrev jL:=@PyProof.Rows.boot_isinstance
abbrev jM:=@Nat.succ.inj
abbrev jN:=@Option.isSome_none
abbrev jO:=@PySem.call_meets
abbrev jP:=@Option.isSome_some
abbrev jQ:=@List.nodup_nil
abbrev jR:=@PySem.boot_len
abbrev jS:=@Sum.inl.inj
abbrev jT:=@PySem.W.kitx_dict
abbrev jU:=@List.length_range
abbrev jV:=@Int.one_mul
abbrev jW:=@PySem.wpAny_standAt
abbrev jX:=@PySem.plainId_quiet
abbrev jY:=@Nat.le_add_right
abbrev jZ:=@beq_self_eq_true
abbrev kA:=@List.of_mem_zip
abbrev kB:=@List.length_zip
namespace L2
open PySem PySem.Spec PyProof.Rows
abbrev gV:=Sum Int Af
noncomputable def pU:gV->Ac->Bool
 | .inl k,v=>Value.isInt k v
 | .inr x,v=>Value.isStrOf x v
def N8 (w:World):gV->Int
 | .inl k=>hashInt k
 | .inr x=>hashStr w x
theorem pT:∀ {k:gV}{v:Ac},pU k v=true->(∃ i t,k=Sum.inl i/\v=Value.int i t)\/(∃ x t,k=Sum.inr x/\v=Value.str x t)
 | .inl i,v,h=>by
  obtain⟨t,e⟩:=Value.isInt_shape (k:=i) (v:=v) h;exact .inl ⟨i,t,rfl,e⟩
 | .inr x,v,h=>by
  obtain⟨t,e⟩:=Value.isStrOf_shape (x:=x) (v:=v) h;exact .inr ⟨x,t,rfl,e⟩
theorem Ps (i:Int) (t:Tok):pU (.inl i) (.int i t)=true:=by simp[pU,Value.isInt]
theorem Gw (x:Af) (t:Tok):pU (.inr x) (.str x t)=true:=by simp[pU,Value.isStrOf]
theorem Xb (a b:Int):decide ((Sum.inl a:gV)=Sum.inl b)=(a == b):=by
 by_cases e:a=b
 .subst e;simp
 .have h:¬ (Sum.inl a:gV)=Sum.inl b:=λq=>e (jS q)
  rw[bJ h];exact (cF.mpr e).symm
theorem Yp (a b:Af):decide ((Sum.inr a:gV)=Sum.inr b)=decide (a=b):=by
 by_cases e:a=b
 .subst e;simp
 .have h:¬ (Sum.inr a:gV)=Sum.inr b:=λq=>e (fH q)
  rw[bJ h,bJ e]
theorem Q7 (a:Int) (b:Af):decide ((Sum.inl a:gV)=Sum.inr b)=false:=bJ (λq=>nomatch q)
theorem Op (a:Af) (b:Int):decide ((Sum.inr a:gV)=Sum.inl b)=false:=bJ (λq=>nomatch q)
def kZ (g:Ah) (w:World):PySem.KeyKind g w gV where
 is:=pU
 hash:=N8 w
 inj:=λv a b m f=>by
  rcases pT m with⟨i,t,rfl,rfl⟩ | ⟨x,t,rfl,rfl⟩
  .rcases pT f with⟨j,u,rfl,e⟩ | ⟨y,u,rfl,e⟩
   .injection e with c _;rw[c]
   .exact nomatch e
  .rcases pT f with⟨j,u,rfl,e⟩ | ⟨y,u,rfl,e⟩
   .exact nomatch e
   .injection e with c _;rw[c]
 byValue:=λk v h=>by
  rcases pT h with⟨i,t,rfl,rfl⟩ | ⟨x,t,rfl,rfl⟩<;>rfl
 pyHash:=λd h=>by
  rcases pT d with⟨i,t,rfl,rfl⟩ | ⟨x,t,rfl,rfl⟩
  .exact wpAny_pyHash_int h
  .exact wpAny_pyHash_str h
 eqBool:=λn d h=>by
  rcases pT n with⟨i,t,rfl,rfl⟩ | ⟨x,t,rfl,rfl⟩
  .rcases pT d with⟨j,u,rfl,rfl⟩ | ⟨y,u,rfl,rfl⟩
   .rw[Xb] at h;exact wpAny_eqBool_int h
   .rw[Q7] at h;exact SeqAt.EqAt.int_str i t y u _ _ _ _ h
  .rcases pT d with⟨j,u,rfl,rfl⟩ | ⟨y,u,rfl,rfl⟩
   .rw[Op] at h;exact SeqAt.EqAt.str_int x t j u _ _ _ _ h
   .rw[Yp] at h;exact wpAny_eqBool_str h
 «strs»:=λk x t v h=>by
  rcases pT h with⟨i,u,rfl,e⟩ | ⟨y,u,rfl,e⟩
  .exact nomatch e
  .injection e with c _;subst c;cases v<;>rfl
theorem Xa (g:Ah) (w:World) (i:Int) (t:Tok):(kZ g w).is (.inl i) (.int i t)=true:=Ps i t
theorem Yn (g:Ah) (w:World) (x:Af) (t:Tok):(kZ g w).is (.inr x) (.str x t)=true:=Gw x t
abbrev MK:=Sum gV (Aa gV)
section
variable (P:Ah) (w:World)
def kU (h:Ag):MK->Ac->Prop
 | .inl k,v=>(kZ P w).is k v=true
 | .inr b,v=>∃ a,v = .ref a/\IsTupleKey (kZ P w) h b a
def oE:MK->Int
 | .inl k=>(kZ P w).hash k
 | .inr a=>(tupleKind (kZ P w)).hash a
def pQ:MK->Nat
 | .inl _=>1
 | .inr a=>a.length+1
def oQ (x:MK×Ac×Ac):DictEntry:=⟨oE P w x.1,x.2.1,x.2.2⟩
end
section
variable {P:Ah}{w:World}{s:Ae}{k:MK}
theorem kU.inj (a:kU P w h x v) (b:kU P w h y v):x=y:=by
 rcases x with x | x<;>rcases y with y | y
 .rw[(kZ P w).inj v x y a b]
 .obtain⟨p,rfl,_⟩:=b;exact absurd ((kZ P w).byValue _ _ a) (by simp[carriedByValue])
 .obtain⟨p,rfl,_⟩:=a;exact absurd ((kZ P w).byValue _ _ b) (by simp[carriedByValue])
 .obtain⟨p,rfl,a⟩:=a;obtain⟨q,e,b⟩:=b;injection e with e;subst e;rw[a.inj b]
theorem kU.keeps {j g}(a:kU P w h x v) (r:h.get? d=some o) (hd:o.data = .dict j g) (C:Heap.SameBut d h l):kU P w l x v:=by
 rcases x with x | x
 .exact a
 .obtain⟨p,rfl,a⟩:=a;exact⟨p,rfl,a.keeps r hd C⟩
theorem kU.pyHash (j:A.units<cLine) (a:kU P w s.heap x v) (g:Q (oE P w x) { s with toks:=s.toks+pQ x }):wpAny (model P w) A (PySem.pyHash v) Q E s:=by
 rcases x with x | x
 .exact (kZ P w).pyHash a g
 .obtain⟨p,rfl,a⟩:=a;exact (tupleKind (kZ P w)).pyHash j a g
theorem Jg (t:IsTupleKey (kZ P w) h g a):∃ items,h.IsTuple a items:=let ⟨o,items,n,c,b,hd,_⟩:=t;⟨items,o,c,b,n,hd⟩
theorem kU.eqBool (j:A.units<cLine) (a:kU P w s.heap x u) (b:kU P w s.heap y v) (g:Q (decide (x=y)) s):wpAny (model P w) A (PySem.eqBool u v) Q E s:=by
 rcases x with x | x<;>rcases y with y | y
 .refine (kZ P w).eqBool a b ?_;rw[show decide (x=y)=decide ((Sum.inl x:MK) = .inl y) from decide_eq_decide.mpr ⟨λe=>by rw[e],λe=>jS e⟩];exact g
 .obtain⟨q,rfl,b⟩:=b;obtain⟨items,t⟩:=Jg b;rw[bJ (λe=>nomatch e)] at g;rcases pT (show pU x u=true from a) with⟨i,c,rfl,rfl⟩ | ⟨z,c,rfl,rfl⟩
  .exact SeqAt.EqAt.int_tuple i c t j _ _ _ _ g
  .exact SeqAt.EqAt.str_tuple z c t j _ _ _ _ g
 .obtain⟨q,rfl,a⟩:=a;obtain⟨items,t⟩:=Jg a;rw[bJ (λe=>nomatch e)] at g;rcases pT (show pU y v=true from b) with⟨i,c,rfl,rfl⟩ | ⟨z,c,rfl,rfl⟩
  .exact SeqAt.EqAt.tuple_int i c t j _ _ _ _ g
  .exact SeqAt.EqAt.tuple_str z c t j _ _ _ _ g
 .obtain⟨p,rfl,a⟩:=a;obtain⟨q,rfl,b⟩:=b;refine (tupleKind (kZ P w)).eqBool (x:=x) (y:=y) j a b ?_;rw[show decide (x=y)=decide ((Sum.inr x:MK) = .inr y) from decide_eq_decide.mpr ⟨λe=>by rw[e],λe=>fH e⟩];exact g
theorem kU.quiet (a:kU P w s.heap x v) (g:Q true s):wpAny (model P w) A (eqIsQuiet 8 v) Q E s:=by
 rcases x with x | x
 .rw[eqIsQuiet_byValue 8 ((kZ P w).byValue _ _ a)];exact aB g
 .obtain⟨p,rfl,a⟩:=a;exact (tupleKind (kZ P w)).quiet a g
theorem E8 {st:Aa Ac}(a:kU P w s.heap x v) (g:∀ u∈st,∃ y,kU P w s.heap y u) (j:Q false s):wpAny (model P w) A (tableMayTell v st) Q E s:=by
 unfold tableMayTell;split
 .exact aB j
 .refine aA (a.quiet ?_);simp only[Bool.not_true,bT,dL];refine aA (wpAny_forIn_list _ (λrest r b=>b=s/\r=(none,())/\∀ u∈rest,∃ y,kU P w s.heap y u) _ ?_ ?_ _ _ ⟨rfl,rfl,g⟩)
  .rintro u rest r b ⟨rfl,rfl,c⟩;obtain⟨y,d⟩:=c u aM;refine aA (d.quiet ?_);simp only[Bool.not_true,bT,dL];exact aB ⟨rfl,rfl,λz e=>c z (aV _ e)⟩
  .rintro r b ⟨rfl,rfl,_⟩;exact aB j
structure EM (P:Program) (w:World) (h:Heap) (d:Addr) (o:Obj) (es:Array DictEntry) (ep:Nat) (xs:List (MK×Value×Value)):Prop where
 ho:h.get? d=some o
 hc:o.ExactDict
 hd:o.data = .dict es ep
 he:es.toList=xs.map (oQ P w)
 is:∀ x∈xs,kU P w h x.1 x.2.1
 nd:(xs.map (·.1)).Nodup
variable {xs:Aa (MK×Ac×Ac)}
theorem EM.at (e:EM P w h d o g l xs) (j:Nat):g[j]?=(xs[j]?).map (oQ P w):=by
 rw[<- gL,e.he,bB]
theorem EM.size (e:EM P w h d o g j xs):g.size=xs.length:=by
 rw[<- fV,e.he,aD]
theorem EM.get (e:EM P w h d o g p xs) (l:j<g.size):∃ x,xs[j]?=some x/\g[j]?=some (oQ P w x)/\kU P w h x.1 x.2.1:=by
 have a:j<xs.length:=by rw[<- e.size];exact l
 refine⟨xs[j],aL a,?_,e.is _ (gW a)⟩;rw[e.at,aL a];rfl
theorem EM.one (e:EM P w h d o C r xs){i j:Nat}{p q:Ac×Ac}(g:xs[i]?=some (k,p)) (l:xs[j]?=some (k,q)):i=j:=by
 have a:(xs.map (·.1))[i]?=some k:=by rw[bB,g];rfl
 have b:(xs.map (·.1))[j]?=some k:=by rw[bB,l];rfl
 exact (List.getElem?_inj (aG.mp a).1 e.nd).mp (a.trans b.symm)
abbrev qS (P:Ah) (w:World) (g:Array DictEntry) (k:MK):Aa Nat:=placesWithHash g.size (λi=>g[i]?.map (·.hash)) (oE P w k)
theorem EM.not_pl (e:EM P w h d o l r xs){j:Nat}(g:((l[j]?.map (·.hash)) == some (oE P w k))=false) (p:Ac×Ac):xs[j]?≠some (k,p):=λq=>by
 rw[e.at,q] at g;simp[oQ] at g
theorem K8 (T:A.units<cLine) (e:EM P w s.heap d o l J xs) (I:kU P w s.heap k key)
  (r:(∀ (j:Nat) (p:Ac×Ac),xs[j]?≠some (k,p))->Q none s) (C:∀ (j:Nat) (p:Ac×Ac),xs[j]?=some (k,p)->Q (some j) s) :
  wpAny (model P w) A (dictWalkPlain d key (oE P w k) l (qS P w l k)) Q E s:=by
 unfold dictWalkPlain;refine aA (wpAny_forIn_list _ (λrest b F=>F=s/\b=(none,())/\∃ i,rest=(List.range' i (l.size-i)).filter (λi=>(l[i]?.map (·.hash)) == some (oE P w k))/\i<=l.size /\ ∀ (j:Nat) (p:Ac×Ac),j<i->xs[j]?≠some (k,p)) _ ?_ ?_ _ _ ⟨rfl,rfl,0,by rw[qS,placesWithHash,List.range_eq_range',Nat.sub_zero],dN _,λ_ _ h=>absurd h (Nat.not_lt_zero _)⟩)
 .rintro n rest b F ⟨rfl,rfl,i,D,N,f⟩;obtain⟨O,V,S,t,m⟩:=filter_range'_cons _ _ _ _ _ D.symm;have u:n<l.size:=by omega
  obtain⟨⟨z,K,X⟩,G,L,M⟩:=e.get u;have c:¬ z=k->∃ i,rest=(List.range' i (l.size-i)).filter (λi=>(l[i]?.map (·.hash)) == some (oE P w k))/\i<=l.size/\∀ (j:Nat) (p:Ac×Ac),j<i->xs[j]?≠some (k,p):=λB =>
   ⟨n+1,by rw[m];congr 2;omega,u,λj p W q=>by
    rcases iK j i with g | g
    .exact f j p g q
    .rcases iK j n with H | H
     .exact e.not_pl (t j g H) p q
     .have:j=n:=by omega
      subst this;rw[G] at q;injection q with q;injection q with q;exact B q⟩
  rw[L];dsimp only[oQ];by_cases v:(oE P w z == oE P w k)=true
  .rw[aH v];refine aA (eB e.ho e.hd (aA (kU.eqBool (x:=z) (y:=k) T M I (aA (eB e.ho e.hd ?_)))));show wpAny _ _ (if (J != J)=true then _ else _) _ E _;rw[aE (by simp)];by_cases a:z=k
   .rw[cC a];subst a;exact aA (eK (aB (aB (C n _ G))))
   .rw[bJ a];exact aA (eK (aB ⟨rfl,rfl,c a⟩))
  .rw[aE v];refine aB ⟨rfl,rfl,c ?_⟩;intro a;rw[a] at v;simp at v
 .rintro b F ⟨rfl,rfl,i,D,N,f⟩;refine aB (r λj p q=>?_);rcases iK j i with g | g
  .exact f j p g q
  .have R:j<l.size:=by
    rw[e.size];exact (aG.mp q).1
   have:=List.filter_eq_nil_iff.mp D.symm j (List.mem_range'_1.mpr ⟨g,by omega⟩);exact e.not_pl (by simpa using this) p q
theorem B7 (hu:A.units<cLine) (e:EM P w s.heap d o C T xs) (J:kU P w s.heap k key)
  (I:(∀ (j:Nat) (p:Ac×Ac),xs[j]?≠some (k,p))->Q none s) (l:∀ (j:Nat) (p:Ac×Ac),xs[j]?=some (k,p)->Q (some j) s) (n:Nat) :
  wpAny (model P w) A (do
   let mut hit:Ab Nat:=none
   for i in qS P w C k do
    if let some e:=C[i]? then
     if e.hash == oE P w k then
      let r <- dictEpoch d (keyPart key);let same <- PySem.eqBool e.key key
      if (<- dictEpoch d (keyPart key)) != r then unsupported "dict.changed-during-lookup"
      if same then
       if hit.isSome then unsupported "dict.find:order-among-keys-of-one-hash"
       rule "dict.find.hit"
       if n<2 then return some i
       hit:=some i
      else
       rule "dict.find.same-hash-other-key"
       if false && !(0<=oE P w k&&oE P w k<32) then unsupported "dict.find:asked-again-or-not-hangs-on-the-table"
   return hit) Q E s:=by
 refine aA ?_;refine wpAny_forIn_list _
   (λrest b S=>S=s/\∃ i hit,b=(none,hit)/\rest=(List.range' i (C.size-i)).filter (λi=>(C[i]?.map (·.hash)) == some (oE P w k))/\i<=C.size /\ ((hit=none/\∀ (j:Nat) (p:Ac×Ac),j<i->xs[j]?≠some (k,p))\/∃ (j:Nat) (p:Ac×Ac),hit=some j/\j<i/\xs[j]?=some (k,p))) _ ?_ ?_ _ _
   ⟨rfl,0,none,rfl,by rw[qS,placesWithHash,List.range_eq_range',Nat.sub_zero],dN _,.inl ⟨rfl,λ_ _ h=>absurd h (Nat.not_lt_zero _)⟩⟩
 .rintro m rest b S ⟨rfl,i,hit,rfl,R,Y,N⟩;obtain⟨Z,ac,ab,B,z⟩:=filter_range'_cons _ _ _ _ _ R.symm;have t:m<C.size:=by omega
  have a:rest=(List.range' (m+1) (C.size-(m+1))).filter (λi=>(C[i]?.map (·.hash)) == some (oE P w k)):=by rw[z];congr 2;omega
  obtain⟨⟨K,V,v'⟩,G,W,X⟩:=e.get t;have D:(hit=none/\∀ (j:Nat) (p:Ac×Ac),j<m->xs[j]?≠some (k,p))\/∃ (j:Nat) (p:Ac×Ac),hit=some j/\j<m/\xs[j]?=some (k,p):=by
   rcases N with⟨L,u⟩ | ⟨j,p,M,U,c⟩
   .refine .inl ⟨L,λj p v c=>?_⟩;rcases iK j i with g | g
    .exact u j p g c
    .exact e.not_pl (B j g v) p c
   .exact .inr ⟨j,p,M,by omega,c⟩
  have q:¬ K=k->((hit=none/\∀ (j:Nat) (p:Ac×Ac),j<m+1->xs[j]?≠some (k,p))\/∃ (j:Nat) (p:Ac×Ac),hit=some j/\j<m+1/\xs[j]?=some (k,p)):=by
   intro O;rcases D with⟨L,u⟩ | ⟨j,p,M,v,c⟩
   .refine .inl ⟨L,λj p v c=>?_⟩;rcases iK j m with g | g
    .exact u j p g c
    .have F:j=m:=by omega
     subst F;rw[G] at c;injection c with c;injection c with c;exact O c
   .exact .inr ⟨j,p,M,by omega,c⟩
  rw[W];dsimp only[oQ];by_cases H:(oE P w K == oE P w k)=true
  .rw[aH H];refine aA (eB e.ho e.hd (aA (kU.eqBool (x:=K) (y:=k) hu X J (aA (eB e.ho e.hd ?_)))));show wpAny _ _ (if (T != T)=true then _ else _) _ E _;rw[aE (by simp)];by_cases f:K=k
   .rw[cC f];subst f;rcases D with⟨rfl,_⟩ | ⟨j,p,_,v,c⟩
    .first | rw[aH rfl] | skip
     simp only[jN,bT,dL]
     first | refine aA (aB ?_) | skip
     refine aA (eK ?_);split
     .exact aB (aB (l m _ G))
     .exact aB ⟨rfl,m+1,some m,rfl,a,t,.inr ⟨m,_,rfl,Nat.lt_succ_self m,G⟩⟩
    .exact absurd (e.one c G) (by omega)
   .rw[bJ f];simp only[bT,dL];refine aA (eK ?_)
    first | rw[aE (by simp)] | skip
    first
     | exact aB ⟨rfl,m+1,hit,rfl,a,t,q f⟩
     | exact aA (aB (aB ⟨rfl,m+1,hit,rfl,a,t,q f⟩))
  .rw[aE H];refine aB ⟨rfl,m+1,hit,rfl,a,t,q ?_⟩;intro f;rw[f] at H;simp at H
 .rintro b S ⟨rfl,i,hit,rfl,R,Y,N⟩;rcases N with⟨rfl,u⟩ | ⟨j,p,rfl,_,c⟩
  .refine aB (I λj p c=>?_);rcases iK j i with g | g
   .exact u j p g c
   .have aa:j<C.size:=by
     rw[e.size];exact (aG.mp c).1
    have:=List.filter_eq_nil_iff.mp R.symm j (List.mem_range'_1.mpr ⟨g,by omega⟩);exact e.not_pl (by simpa using this) p c
  .exact aB (l j p c)
theorem EM.stored (e:EM P w h d o g j xs) (k:MK):∀ v∈(qS P w g k).filterMap (λi=>g[i]?.map (·.key)),∃ y,kU P w h y v:=by
 intro v q;obtain⟨i,_,b⟩:=hZ.mp q;cases a:g[i]? with
 | none=>rw[a] at b;cases b
 | some n =>
  rw[a] at b;obtain rfl:n.key=v:=by simpa using b
  have c:i<g.size:=(Array.getElem?_eq_some_iff.mp a).1;obtain⟨x,_,f,m⟩:=e.get c;rw[a] at f;cases f;exact⟨_,m⟩
theorem EM.same (e:EM P w h d o l p xs) (g:kU P w h k (.ref a)):¬ (l.any λj=>j.key == Value.ref a&&j.hash != oE P w k)=true:=by
 rw[<- Array.any_toList,List.any_eq_true];rintro ⟨j,b,i⟩;rw[e.he] at b;obtain⟨x,m,rfl⟩:=bE.mp b;simp only[oQ,cM,iA,bne_iff_ne,ne_eq] at i;obtain⟨f,c⟩:=i;have:=e.is x m;rw[f] at this;exact c (by rw[this.inj g])
theorem J0 (I:A.units<cLine) (e:EM P w s.heap d o C J xs) (g:kU P w s.heap k key)
  (l:(∀ (j:Nat) (p:Ac×Ac),xs[j]?≠some (k,p))->Q none s) (r:∀ (j:Nat) (p:Ac×Ac),xs[j]?=some (k,p)->Q (some j) s) :
  wpAny (model P w) A (dictFind d key (oE P w k)) Q E s:=by
 have v:=e.stored k;unfold dictFind
 try with_reducible refine bF ?_
 refine aA (gO e.ho e.hd ?_);rcases k with k | k
 .rcases pT (show pU k key=true from g) with⟨i,t,rfl,rfl⟩ | ⟨x,t,rfl,rfl⟩
  .dsimp only;by_cases f:((Value.int i t::(qS P w C (.inl (.inl i))).filterMap λi=>C[i]?.map (·.key)).all carriedByValue)=true
   .rw[aH f];exact K8 I e g l r
   .rw[aE f];by_cases c:(((qS P w C (.inl (.inl i))).filterMap λi=>C[i]?.map (·.key)) == [Value.int i t])=true <;>
    (first | rw[aH c] | rw[aE c])<;>(first | refine aA (aB ?_) | refine aA (E8 g v ?_))<;>(
     rw[aE (by simp)];exact B7 I e g l r _)
  .dsimp only;by_cases h:(C.all λn=>isExactStrKey n.key)=true
   .rw[aH h];have z:(λn:DictEntry=>n.key.isStr x)=λn=>pU (.inr x) n.key:=funext λn=>((kZ P w).strs (.inr x) x t n.key (Gw x t)).symm
    unfold foundByValue;rw[z];cases K:C.findIdx? (λn=>pU (.inr x) n.key) with
    | none =>
     refine aB (l λj p q=>?_);have S:C[j]?=some (oQ P w (.inl (.inr x),p)):=by rw[e.at,q];rfl
     have b:=Array.findIdx?_eq_none_iff.mp K _ (Array.mem_of_getElem? S);have m:=e.is _ (aW q);rw[show pU (.inr x) (oQ P w (.inl (.inr x),p)).key=true from m] at b;cases b
    | some i =>
     obtain⟨B,L,_⟩:=Array.findIdx?_eq_some_iff_getElem.mp K;obtain⟨⟨R,D,V⟩,M,G,H⟩:=e.get B;have N:C[i].key=D:=by
      have:=(cH B).symm.trans G;rw[bO this];rfl
     have F:R = .inl (.inr x):=H.inj (by rw[N] at L;exact L);subst F;dsimp only;rw[G];refine aA (eB e.ho e.hd (aA (kU.eqBool (x:=.inl (.inr x)) (y:=.inl (.inr x)) I H g (aA (eB e.ho e.hd ?_)))));show wpAny _ _ (if (J != J)=true then _ else _) _ E _;rw[aE (by simp),cC rfl];exact aA (eK (aB (r i _ M)))
   .rw[aE h];by_cases f:((Value.str x t::(qS P w C (.inl (.inr x))).filterMap λi=>C[i]?.map (·.key)).all carriedByValue)=true
    .rw[aH f];exact K8 I e g l r
    .rw[aE f];by_cases c:(((qS P w C (.inl (.inr x))).filterMap λi=>C[i]?.map (·.key)) == [Value.str x t])=true <;>
     (first | rw[aH c] | rw[aE c])<;>(first | refine aA (aB ?_) | refine aA (E8 g v ?_))<;>(
      rw[aE (by simp)];exact B7 I e g l r _)
 .obtain⟨a,rfl,O⟩:=g;dsimp only;rw[aE (show ¬ ((Value.ref a::(qS P w C (.inr k)).filterMap (λi=>C[i]?.map (·.key))).all carriedByValue)=true by simp[carriedByValue])];have u:kU P w s.heap (.inr k) (.ref a):=⟨a,rfl,O⟩;rw[aE (e.same u)];by_cases c:(((qS P w C (.inr k)).filterMap λi=>C[i]?.map (·.key)) == [Value.ref a])=true <;>
  (first | rw[aH c] | rw[aE c])<;>(first | refine aA (aB ?_) | refine aA (E8 u v ?_))<;>(
   rw[aE (by simp)];exact B7 I e u l r _)
def mE (xs:Aa (MK×Ac×Ac)) (k:MK):Ab (Ac×Ac):=(xs.find? λx=>decide (x.1=k)).map (·.2)
def pM (k:MK) (v:Ac) (x:MK×Ac×Ac):MK×Ac×Ac:=if x.1=k then (x.1,x.2.1,v) else x
def pE (xs:Aa (MK×Ac×Ac)) (k:MK) (key v:Ac):Aa (MK×Ac×Ac):=if (mE xs k).isSome then xs.map (pM k v) else xs++[(k,key,v)]
theorem Kg {j:Nat}{p:Ac×Ac}(l:(xs.map (·.1)).Nodup) (g:xs[j]?=some (k,p)):mE xs k=some p:=by
 induction xs generalizing j with
 | nil=>simp at g
 | cons x rest b =>
  rw[aI,bP] at l;cases j with
  | zero =>
   simp only[iD,iL] at g;subst g;simp[mE]
  | succ j =>
   simp only[iE] at g;have a:¬ x.1=k:=λe=>l.1 (e▸bE.mpr ⟨(k,p),aW g,rfl⟩)
   have:=b l.2 g
   simpa [mE,cB,a] using this
theorem Hs (h:∀ (j:Nat) (p:Ac×Ac),xs[j]?≠some (k,p)):mE xs k=none:=by
 have:(xs.find? λx=>decide (x.1=k))=none:=by
  rw[gC];intro x d c;obtain⟨j,b⟩:=List.mem_iff_getElem?.mp d;have a:x.1=k:=dR c;exact h j x.2 (by rw[b,<- a])
 simp[mE,this]
theorem yA (r:A.units<cLine) (e:EM P w s.heap d o I C xs) (g:kU P w s.heap k key) (l:Q ((mE xs k).map (·.2)) { s with toks:=s.toks+pQ k }) :
  wpAny (model P w) A (dictGet d key) Q E s:=by
 unfold dictGet
 try with_reducible refine bF ?_
 refine aA (kU.pyHash r g (aA (J0 (s:={ s with toks:=s.toks+pQ k }) r e g ?_ ?_)))
 .intro a;rw[Hs a] at l;exact aB l
 .intro j p b;rw[Kg e.nd b] at l;refine aA (gO (s:={ s with toks:=s.toks+pQ k }) e.ho e.hd ?_);rw[e.at j,b];exact aB l
theorem Rk (xs:Aa (MK×Ac×Ac)) (k:MK) (v:Ac):(xs.map (pM k v)).map (·.1)=xs.map (·.1):=by
 rw[bG];refine eN λx _=>?_
 show (pM k v x).1=x.1;unfold pM;split<;>rfl
theorem O5 (l:(xs.map (·.1)).Nodup) (g:xs[j]?=some (k,p)):(xs.map (oQ P w)).modify j (λo=>{ o with val:=v })=(xs.map (pM k v)).map (oQ P w):=by
 induction xs generalizing j with
 | nil=>simp at g
 | cons x rest c =>
  rw[aI,bP] at l;cases j with
  | zero =>
   simp only[iD,iL] at g;subst g;have:rest.map (pM k v)=rest:=by
    refine (eN λy b=>?_).trans (List.map_id _);unfold pM;rw[aE (λz=>l.1 (bE.mpr ⟨y,b,z⟩))];rfl
   rw[aI,aI,this,aI];unfold pM;rw[aH rfl];rfl
  | succ j =>
   simp only[iE] at g;have a:¬ x.1=k:=λe=>l.1 (e▸bE.mpr ⟨(k,p),aW g,rfl⟩)
   rw[aI,aI,aI,<- c l.2 g];unfold pM;rw[aE a];rfl
theorem Kk (U:A.units<cLine) (e:EM P w s.heap d o es J xs) (g:kU P w s.heap k key) (aa:xs.length<=sizeLine)
  (T:∀ I o' C r,EM P w I d o' C r (pE xs k key v)->Heap.SameBut d s.heap I->Q () { s with heap:=I,toks:=s.toks+pQ k }) :
  wpAny (model P w) A (dictSet d key v) Q E s:=by
 obtain⟨c,t,hd,u,f,n⟩:=id e;unfold dictSet
 try with_reducible refine bF ?_
 refine aA (kU.pyHash U g ?_);unfold dictSetHashed
 try with_reducible refine bF ?_
 refine aA (J0 (s:={ s with toks:=s.toks+pQ k }) U e g ?_ ?_)
 .intro h;have i:k∉xs.map (·.1):=λB=>by
   obtain⟨x,b,rfl⟩:=bE.mp B;obtain⟨j,m⟩:=List.mem_iff_getElem?.mp b;exact h j x.2 m
  have a:pE xs k key v=xs++[(k,key,v)]:=by unfold pE;rw[Hs h];rfl
  refine aA (eK (wpAny_updateDictKeys (hz:=by have z:=e.size;omega) (s:={ s with toks:=s.toks+pQ k }) c hd (T _ _ _ (J+1) ⟨eW _ c (Obj.isFreed_of_dict (Obj.data_mapDictKeys hd _)),
   t.mapDictKeys _,Obj.data_mapDictKeys hd _,?_,?_,?_⟩ (cG ..))))
  .rw[a];simp[u,oQ]
  .rw[a];intro x b;rcases aZ.mp b with b | b
   .exact (f x b).keeps c hd (cG ..)
   .simp only[bA] at b;subst b;exact g.keeps c hd (cG ..)
  .rw[a,aT,aO];refine⟨n,by simp,?_⟩;intro x b y q;simp only[aI,fJ,bA] at q;subst q;exact λz=>i (z▸b)
 .intro j p m;have a:pE xs k key v=xs.map (pM k v):=by unfold pE;rw[Kg n m];rfl
  refine aA (eK (aA (wpAny_updateDict (s:={ s with toks:=s.toks+pQ k }) c hd (wpAny_point (T _ _ _ J ⟨eW _ c (Obj.isFreed_of_dict (Obj.data_mapDict hd _)),
   t.mapDict _,Obj.data_mapDict hd _,?_,?_,?_⟩ (cG ..))))))
  .rw[a];have:=O5 (P:=P) (w:=w) (v:=v) n m;rw[<- u] at this;obtain⟨l⟩:=es
   simpa using this
  .rw[a];intro x b;obtain⟨y,q,rfl⟩:=bE.mp b;unfold pM;split<;>exact (f y q).keeps c hd (cG ..)
  .rw[a,Rk];exact n
theorem EM.typeIs (e:EM P w s.heap d o j g xs):s.TypeIs (.ref d) "dict" := ⟨o,e.ho,e.hc.1⟩
theorem Of (j:A.units+1<cLine) (e:EM P w s.heap d o r l xs) (g:kU P w s.heap k key) (hd:(d == sysModules)=false)
  (h:Q (.bool (mE xs k).isSome) { s with toks:=s.toks+pQ k }):wpAny (model P w) A (compareOp .In key (.ref d)) Q E s:=by
 show wpAny _ _ (do return .bool (<- contains (.ref d) key)) Q E s;refine aA ?_;unfold contains
 try with_reducible refine bF ?_
 refine aA (wpAny_specialOf e.typeIs slot_dict_contains.lookup ?_);show wpAny _ _ (if (some (Value.builtin "dict.__contains__") == some Value.none)=true then _ else _) _ E s;rw[aE (by rw[beq_builtin_none];exact aR)];refine aA (wpAny_callSpecialUnlessNone?_slot (name:=Str.ofString "__contains__") e.typeIs slot_dict_contains (bU slot_dict_contains e.typeIs entry_dict_contains ?_ (args_dict_contains _ _)));show wpAny _ _ (dictGet d key >>= _) _ _ s;refine aA (yA (cD (K:=gV) (knd:=kZ P w) j) e g ?_);cases a:mE xs k with
 | some p =>
  rw[a] at h;show wpAny _ _ (ret (.bool true)) _ _ _;exact aB ⟨_,rfl,dD (aB h)⟩
 | none =>
  rw[a] at h;show wpAny _ _ (Builtin.Dict.pendingKey? d key >>= _) _ _ _;exact aA (wpAny_pendingKey_other hd (aB ⟨_,rfl,dD (aB h)⟩))
theorem Uw (j:A.units+1<cLine) (e:EM P w s.heap d o r l xs) (g:kU P w s.heap k key) (hd:(d == sysModules)=false)
  (h:Q (.bool (!(mE xs k).isSome)) { s with toks:=s.toks+pQ k }):wpAny (model P w) A (compareOp .NotIn key (.ref d)) Q E s:=by
 show wpAny _ _ (do return .bool (!(<- contains (.ref d) key))) Q E s;refine aA ?_;unfold contains
 try with_reducible refine bF ?_
 refine aA (wpAny_specialOf e.typeIs slot_dict_contains.lookup ?_);show wpAny _ _ (if (some (Value.builtin "dict.__contains__") == some Value.none)=true then _ else _) _ E s;rw[aE (by rw[beq_builtin_none];exact aR)];refine aA (wpAny_callSpecialUnlessNone?_slot (name:=Str.ofString "__contains__") e.typeIs slot_dict_contains (bU slot_dict_contains e.typeIs entry_dict_contains ?_ (args_dict_contains _ _)));show wpAny _ _ (dictGet d key >>= _) _ _ s;refine aA (yA (cD (K:=gV) (knd:=kZ P w) j) e g ?_);cases a:mE xs k with
 | some p =>
  rw[a] at h;show wpAny _ _ (ret (.bool true)) _ _ _;exact aB ⟨_,rfl,dD (aB h)⟩
 | none =>
  rw[a] at h;show wpAny _ _ (Builtin.Dict.pendingKey? d key >>= _) _ _ _;exact aA (wpAny_pendingKey_other hd (aB ⟨_,rfl,dD (aB h)⟩))
theorem Xg (l:A.units+1<cLine) (e:EM P w s.heap d o C r xs) (g:kU P w s.heap k key) (j:mE xs k=some p)
  (h:Q p.2 { s with toks:=s.toks+pQ k }):wpAny (model P w) A (getItem (.ref d) key) Q E s:=by
 unfold getItem
 try with_reducible refine bF ?_
 refine aA (wpAny_sequenceKey e.typeIs (by decide) ?_);refine aA (bK (name:=Str.ofString "__getitem__") e.typeIs slot_dict_getitem (bU slot_dict_getitem e.typeIs entry_dict_getitem ?_ (args_dict_getitem _ _)));show wpAny _ _ (dictGet d key >>= _) _ _ s;refine aA (yA (cD (K:=gV) (knd:=kZ P w) l) e g ?_);rw[j];exact aB ⟨p.2,rfl,aB h⟩
theorem Ko (J:A.units+1<cLine) (e:EM P w s.heap d o U T xs) (p:kU P w s.heap k key) (r:xs.length<=sizeLine)
  (I:∀ l C j g,EM P w l d C j g (pE xs k key v)->Heap.SameBut d s.heap l->Q () { s with heap:=l,toks:=s.toks+pQ k }) :
  wpAny (model P w) A (setItem (.ref d) key v) Q E s:=by
 unfold setItem
 try with_reducible refine bF ?_
 refine aA (wpAny_sequenceKey e.typeIs (by decide) ?_);refine aA (bK (name:=Str.ofString "__setitem__") e.typeIs slot_dict_setitem (bU slot_dict_setitem e.typeIs entry_dict_setitem ?_ (args_dict_setitem _ _ _)));show wpAny _ _ (Builtin.Dict.notOrdered "__setitem__" ⟨[.ref d,key,v],[]⟩ >>= _) _ _ s;refine aA (gM e.typeIs ?_);show wpAny _ _ (dictSet d key v >>= _) _ _ s;exact aA (Kk (cD (K:=gV) (knd:=kZ P w) J) e p r λl C j g a b=>aB ⟨.none,rfl,aB (I l C j g a b)⟩)
theorem Yi (hd:(d == sysModules)=false) (key:Ac):MeetsIn P w (Builtin.«dict.get» ⟨[.ref d,key],[]⟩) (λA R s=>A.in1.units<cLine/\∃ k o j g xs,EM P w s.heap d o j g xs/\kU P w s.heap k key /\ R (.ok (.ret (((mE xs k).map (·.2)).getD .none))) { s with toks:=s.toks+pQ k }) :=
 .of_wp λA R s b=>by
  obtain⟨f,k,o,j,g,xs,e,a,h⟩:=b;show wpAny _ _ (dictGet d key >>= _) _ _ s;refine aA (yA f e a ?_);cases c:(mE xs k).map (·.2) with
  | some v =>
   rw[c] at h;exact aB ⟨v,rfl,h⟩
  | none =>
   rw[c] at h;show wpAny _ _ (Builtin.Dict.missed d key >>= _) _ _ _;exact aA (wpAny_missed_other hd (aB ⟨.none,rfl,h⟩))
theorem Nk (hd:(d == sysModules)=false) (key dflt:Ac):MeetsIn P w (Builtin.«dict.get» ⟨[.ref d,key,dflt],[]⟩) (λA R s=>A.in1.units<cLine/\∃ k o j g xs,EM P w s.heap d o j g xs/\kU P w s.heap k key /\ R (.ok (.ret (((mE xs k).map (·.2)).getD dflt))) { s with toks:=s.toks+pQ k }) :=
 .of_wp λA R s b=>by
  obtain⟨f,k,o,j,g,xs,e,a,h⟩:=b;show wpAny _ _ (dictGet d key >>= _) _ _ s;refine aA (yA f e a ?_);cases c:(mE xs k).map (·.2) with
  | some v =>
   rw[c] at h;exact aB ⟨v,rfl,h⟩
  | none =>
   rw[c] at h;show wpAny _ _ (Builtin.Dict.missed d key >>= _) _ _ _;exact aA (wpAny_missed_other hd (aB ⟨dflt,rfl,h⟩))
end
inductive V where
 | e | b (b:Bool) | int (i:Int) | str (x:Str) | byt (b:Array UInt8) | flt (b:UInt64) | ref (a:Addr) | ty (n:String)
 deriving DecidableEq
def kD:V->Ac->Prop
 | .e,u=>u=Value.none
 | .b b,u=>u=Value.bool b
 | .int i,u=>∃ t,u=Value.int i t
 | .str x,u=>∃ t,u=Value.str x t
 | .byt b,u=>∃ t,u=Value.bytes b t
 | .flt b,u=>∃ t,u=Value.float b t
 | .ref a,u=>u=Value.ref a
 | .ty n,u=>u=Value.type n
abbrev kF:Aa V->Aa Ac->Prop:=Paired kD
theorem kF.length (r:kF j g):j.length=g.length:=dQ r
theorem kF.get:∀ {j:Aa V}{g:Aa Ac}{i:Nat}{x:V},kF j g->j[i]?=some x->∃ u,g[i]?=some u/\kD x u
 | _,_,_,_,.nil,e=>by simp at e
 | _,_,0,_,.cons r _,e=>by simp at e;subst e;exact⟨_,rfl,r⟩
 | _,_,i+1,x,.cons _ t,e=>by
  obtain⟨u,a,b⟩:=kF.get (i:=i) (x:=x) t (by simpa using e);exact⟨u,by simpa using a,b⟩
theorem kF.set (r:kD x u):∀ {j:Aa V}{g:Aa Ac}(i:Nat),kF j g->kF (j.set i x) (g.set i u)
 | _,_,_,.nil=>.nil
 | _,_,0,.cons _ t=>.cons r t
 | _,_,i+1,.cons q t=>.cons q (kF.set r i t)
theorem kF.append:∀ {l o:Aa V}{g j:Aa Ac},kF l g->kF o j->kF (l++o) (g++j)
 | _,_,_,_,.nil,s=>s
 | _,_,_,_,.cons r t,s=>.cons r (kF.append t s)
theorem kF.take:∀ {j:Aa V}{g:Aa Ac}(n:Nat),kF j g->kF (j.take n) (g.take n)
 | _,_,0,_=>.nil
 | _,_,_+1,.nil=>.nil
 | _,_,n+1,.cons r t=>.cons r (kF.take n t)
theorem kF.drop:∀ {j:Aa V}{g:Aa Ac}(n:Nat),kF j g->kF (j.drop n) (g.drop n)
 | _,_,0,r=>r
 | _,_,_+1,.nil=>.nil
 | _,_,n+1,.cons _ t=>kF.drop n t
def oX:Ab V->Ab Ac->Prop
 | some v,some u=>kD v u
 | none,none=>True
 | _,_=>False
def KV {g:Type}:Aa (g×V)->Aa (g×Ac)->Prop:=Paired λ(p:g×V) (q:g×Ac)=>p.1=q.1/\kD p.2 q.2
def kV:gV->V
 | .inl i=>.int i
 | .inr x=>.str x
inductive HO where
 | l (xs:List V)
 | t (xs:List V)
 | k (kvs:List (gV×V)) | T (kvs:List (List gV×V)) | dM (kvs:List (MK×V))
 | set (S:Int->Bool) (n:Nat)
 | ins (C dx:Addr) (fs:List (Str×V))
 | o (x:Addr)
 | xd (fs:List (Str×V))
 | met (f x:Addr)
 | rng (lo hi:Int)
 | frz (o:Obj) (u:HO)
 | tbl (ps:Array Value)
 | ext (φ:Heap->Prop)
abbrev Hp:=Ad->Ab HO
def upd (H:Hp) (a:Ad) (o:HO):Hp:=λb=>if b=a then some o else H b
theorem mB:upd H a o a=some o:=by unfold upd;rw[if_pos rfl]
theorem lC (h:b≠a):upd H a o b=H b:=by unfold upd;rw[if_neg h]
theorem Ds {H:Hp}{a b:Ad}{o u:HO}(h:H a=some o) (g:H b=some u) (d:o≠u):a≠b:=by
 intro e;subst e;rw[h] at g;exact d (bO g)
theorem oA {H:Hp}{a b:Ad}{o:HO}(h:H a=some o) (g:H b=none):a≠b:=by
 intro e;subst e;rw[h] at g;cases g
section
variable (P:Ah) (w:World)
def tM (h:Ag) (a:Ad) (items:Array Ac):Prop:=IsTup h a items/\∃ o,h.get? a=some o/\o.dict=none
theorem tM.new (h:Ag) (items:Array Ac):tM (h.push { cls:=.type "tuple",data:=.seq items }) h.objs.size items:=⟨IsTup.new _ _,_,aU _ rfl,rfl⟩
def qN (H:Hp):MK->V->Prop
 | .inl k,y=>y=kV k
 | .inr a,y=>∃ b,y = .ref b/\H b=some (.t (a.map kV))
def rA (H:Hp):MK->Ac->Prop
 | .inl k,u=>kD (kV k) u
 | .inr a,u=>∃ b,u = .ref b/\H b=some (.t (a.map kV))
def lM (H:Hp) (h:Ag) (a:Ad):HO->Prop
 | .l c=>c.length<=sizeLine/\∃ (d:Aa Ac) (n:Nat),kF c d/\h.get? a=some { cls:=.type "list",data:=.seq d.toArray n }
 | .t c=>c.length<=sizeLine/\∃ d:Aa Ac,kF c d/\tM h a d.toArray
 | .k b=>b.length<=sizeLine/\(a == sysModules)=false/\∃ B,KV b B/\h.DictOf (kZ P w) a B
 | .T b=>b.length<=sizeLine/\(a == sysModules)=false/\∃ c:Aa (Aa gV×Ad×Ac),
   Paired (λ(p:Aa gV×V) (q:Aa gV×Ad×Ac)=>p.1=q.1/\H q.2.1=some (.t (p.1.map kV))/\kD p.2 q.2.2) b c /\
   ∃ o i s,h.get? a=some o/\o.ExactDict/\o.data = .dict i s/\i.toList=c.map (entryOfKey (tupleKind (kZ P w)))/\(c.map (·.1)).Nodup
 | .dM b=>b.length<=sizeLine/\(a == sysModules)=false/\∃ c:Aa (MK×Ac×Ac),
   Paired (λ(p:MK×V) (q:MK×Ac×Ac)=>p.1=q.1/\rA H p.1 q.2.1/\kD p.2 q.2.2) b c /\
   ∃ o i s,h.get? a=some o/\o.ExactDict/\o.data = .dict i s/\i.toList=c.map (oQ P w)/\(c.map (·.1)).Nodup
 | .set S n=>h.SetOf (intKind P w) a S n
 | .ins C m fs=>H m=some (.o a)/\fs.length<=1000/\m≠a/\h.get? a=some (PySem.W.instObj C m) /\
   ∃ e,h.Ns1 m e/\(∀ f,oX (fs.lookup f) (e f))/\PySem.Within e (fs.map (·.1))
 | .o _=>∃ o,h.get? a=some o
 | .xd fs=>∃ e,h.Ns1 a e/\∀ f,oX (fs.lookup f) (e f)
 | .rng lo D=>∃ t u v,h.get? a=some { cls:=.type "range",data:=.fields #[.int lo t,.int D u,.int 1 v] }
 | .frz o u=>h.get? a=some o/\lM H h a u
 | .tbl E=>h.get? a=some { cls:=.none,data:=.fields E }
 | .met f x=>h.get? a=some (PySem.W.methodObj (.ref f) (.ref x))
 | .ext y=>y h/\(∃ o,h.get? a=some o)/\∀ z A:Ag,y z->(∀ o,z.get? a=some o->A.get? a=some o)->y A
def lP (H:Hp) (h:Ag):Prop:=∀ a o,H a=some o->lM P w H h a o
end
section
variable {P:Ah}
theorem lM.lt (x:lM P w H h a o):a<h.objs.size:=by
 cases o with
 | l c=>obtain⟨_,_,_,_,e⟩:=x;exact aQ e
 | t c=>obtain⟨_,_,_,p,_⟩:=x;exact p.lt
 | k b=>obtain⟨_,_,_,_,o,_,_,e,_⟩:=x;exact aQ e
 | T b=>obtain⟨_,_,_,_,o,_,_,e,_⟩:=x;exact aQ e
 | dM b=>obtain⟨_,_,_,_,o,_,_,e,_⟩:=x;exact aQ e
 | set S n=>obtain⟨o,_,_,_,e,_⟩:=x;exact aQ e
 | ins C d fs=>obtain⟨_,_,_,e,_⟩:=x;exact aQ e
 | o y=>obtain⟨_,e⟩:=x;exact aQ e
 | xd fs=>obtain⟨_,⟨_,_,_,e,_⟩,_⟩:=x;exact aQ e
 | rng lo i=>obtain⟨_,_,_,e⟩:=x;exact aQ e
 | frz m u=>obtain⟨e,_⟩:=x;exact aQ e
 | tbl q=>exact aQ (show h.get? a=some _ from x)
 | met f y=>exact aQ (show h.get? a=some _ from x)
 | ext s=>obtain⟨_,⟨_,e⟩,_⟩:=x;exact aQ e
theorem Paired.mapP {F:l->o->Prop}:∀ {g:Aa l}{j:Aa o},Paired F g j->(∀ a b,F a b->G a b)->Paired G g j
 | _,_,.nil,_=>.nil
 | _,_,.cons r t,f=>.cons (f _ _ r) (Paired.mapP t f)
theorem Fa (l:∀ b g,H b=some (.t g)->j b=some (.t g)) (h:rA H k u):rA j k u:=by
 rcases k with k | a
 .exact h
 .obtain⟨b,e,q⟩:=h;exact⟨b,e,l _ _ q⟩
theorem lM.stay (x:lM P w H h a o) (k:∀ b u,(b=a\/H b=some (.o a))->h.get? b=some u->j.get? b=some u)
  (U:∀ b,H b=some (.o a)->I b=some (.o a)) (J:∀ b g,H b=some (.t g)->I b=some (.t g)):lM P w I j a o:=by
 induction o with
 | l g=>obtain⟨z,A,n,r,e⟩:=x;exact⟨z,A,n,r,k _ _ (.inl rfl) e⟩
 | t g=>obtain⟨z,A,r,⟨i,e,c⟩,M,D,K⟩:=x;exact⟨z,A,r,⟨i,k _ _ (.inl rfl) e,c⟩,M,k _ _ (.inl rfl) D,K⟩
 | k B=>obtain⟨z,y,N,r,i,s,m,e,c⟩:=x;exact⟨z,y,N,r,i,s,m,k _ _ (.inl rfl) e,c⟩
 | T B =>
  obtain⟨z,y,g,r,i,s,m,e,c⟩:=x;exact⟨z,y,g,Paired.mapP r λp q z=>⟨z.1,J _ _ z.2.1,z.2.2⟩,i,s,m,k _ _ (.inl rfl) e,c⟩
 | dM B =>
  obtain⟨z,y,g,r,i,s,m,e,c⟩:=x;exact⟨z,y,g,Paired.mapP r λp q z=>⟨z.1,Fa J z.2.1,z.2.2⟩,i,s,m,k _ _ (.inl rfl) e,c⟩
 | set S n=>obtain⟨i,s,m,t,e,c⟩:=x;exact⟨i,s,m,t,k _ _ (.inl rfl) e,c⟩
 | ins C O fs =>
  obtain⟨d,z,ne,e,E,⟨F,s,m,D,c⟩,r⟩:=x;exact⟨U _ d,z,ne,k _ _ (.inl rfl) e,E,⟨F,s,m,k _ _ (.inr d) D,c⟩,r⟩
 | o y=>obtain⟨i,e⟩:=x;exact⟨i,k _ _ (.inl rfl) e⟩
 | xd fs=>obtain⟨E,⟨F,s,m,e,c⟩,r⟩:=x;exact⟨E,⟨F,s,m,k _ _ (.inl rfl) e,c⟩,r⟩
 | rng lo Q=>obtain⟨t,u,v,e⟩:=x;exact⟨t,u,v,k _ _ (.inl rfl) e⟩
 | frz i u L=>obtain⟨e,q⟩:=x;exact⟨k _ _ (.inl rfl) e,L q⟩
 | tbl G =>
  have e:h.get? a=some { cls:=.none,data:=.fields G }:=x;show j.get? a=some { cls:=.none,data:=.fields G };exact k a _ (.inl rfl) e
 | met f y =>
  have e:h.get? a=some (PySem.W.methodObj (.ref f) (.ref y)):=x;show j.get? a=some (PySem.W.methodObj (.ref f) (.ref y));exact k a _ (.inl rfl) e
 | ext R=>obtain⟨p,⟨o,e⟩,st⟩:=x;exact⟨st _ _ p λo q=>k _ _ (.inl rfl) q,⟨o,k _ _ (.inl rfl) e⟩,st⟩
theorem lP.lt (x:lP P w H h) (e:H a=some o):a<h.objs.size:=(x a o e).lt
theorem lP.fresh (x:lP P w H h) (e:h.objs.size<=a):H a=none:=by
 cases q:H a with
 | none=>rfl
 | some u=>exact absurd (aY (x.lt q) e) (eQ _)
theorem lP.kept (x:lP P w H h) (k:∀ b u,h.get? b=some u->g.get? b=some u):lP P w H g:=λa o e =>
 (x a o e).stay (λb u _ q=>k b u q) (λ_ q=>q) λ_ _ q=>q
theorem lP.laid (x:lP P w H h) (k:∀ b u,h.get? b=some u->g.get? b=some u) (j:h.objs.size<=a) (new:lM P w (upd H a o) g a o):lP P w (upd H a o) g:=λb u e=>by
 have f:=x.fresh j;by_cases d:b=a
 .subst d;rw[mB] at e;cases e;exact new
 .rw[lC d] at e;exact (x b u e).stay (λc v _ q=>k c v q) (λc q=>by rw[lC (oA q f)];exact q) λc i q=>by rw[lC (oA q f)];exact q
end
def Rd (H:Hp) (a:Ad) (u:HO):Prop:=H a=some u\/∃ o,H a=some (.frz o u)
theorem Rd.ok {P:Ah}(r:Rd H a u) (x:lP P w H h):lM P w H h a u:=by
 rcases r with r | ⟨o,r⟩
 .exact x a u r
 .obtain⟨_,q⟩:=x a _ r;exact q
def xT:Ab HO->Prop
 | some (.l _)=>True
 | some (.k _)=>True
 | some (.T _)=>True
 | some (.dM _)=>True
 | some (.set _ _)=>True
 | some (.ins _ _ _)=>True
 | some (.ext _)=>True
 | _=>False
section
variable {P:Ah}
theorem lP.write (ok:lP P w H h) (g:xT (H x)) (p:e=x\/H e=some (.o x)) (k:∀ b u,b≠e->h.get? b=some u->j.get? b=some u) (l:∃ u,j.get? e=some u)
  (new:lM P w (upd H x C) j x C):lP P w (upd H x C) j:=λb u q=>by
 have d:∀ c y,H c=some (.o y)->c≠x:=λc y r z=>by subst z;rw[r] at g;exact g
 have f:∀ c n,H c=some (.t n)->c≠x:=λc n r z=>by subst z;rw[r] at g;exact g
 by_cases i:b=x
 .subst i;rw[mB] at q;cases q;exact new
 .rw[lC i] at q;by_cases a:b=e
  .have s:H b=some (.o x):=by
    rcases p with z | z
    .exact absurd (a.trans z) i
    .rw[a];exact z
   rw[q] at s;cases s;obtain⟨v,A⟩:=l;exact⟨v,by rw[a];exact A⟩
  .refine (ok b u q).stay (λc v m r=>k c v ?_ r) (λc r=>by rw[lC (d c b r)];exact r) λc n r=>by rw[lC (f c n r)];exact r
   rcases m with rfl | m
   .exact a
   .rintro rfl;rcases p with z | z
    .exact d c b m z
    .rw[m] at z;cases z;exact i rfl
end
structure Un (fs ex:List Addr) (H H':Hp) (h h':Heap):Prop where
 keep:∀ b o,h.get? b=some o->H b=none->b∉fs->b∉ex->h'.get? b=some o
 slot:∀ b o,h.get? b=some o->H b=none->b∈fs->b∉ex->∃ sl,h'.get? b=some { o with slots:=sl }
 free:∀ b o,h.get? b=some o->H b=none->b∉ex->H' b=none
 there:∀ b o,h.get? b=some o->b∉ex->∃ o',h'.get? b=some o'
 tups:∀ b xs,H b=some (.t xs)->H' b=some (.t xs)
 frzs:∀ b o u,H b=some (.frz o u)->H' b=some (.frz o u)
 tbls:∀ b ps,H b=some (.tbl ps)->∃ more,H' b=some (.tbl (ps++more))
section
variable {fs:Aa Ad}
theorem Un.any (u:Un fs l H r h o) (q:h.get? b=some g) (n:H b=none) (j:b∉l):∃ p,o.get? b=some { g with slots:=p }:=by
 by_cases a:b∈fs
 .exact u.slot b g q n a j
 .exact⟨g.slots,u.keep b g q n a j⟩
theorem Un.kept (k:∀ b u,h.get? b=some u->g.get? b=some u):Un fs j H H h g :=
 ⟨λb a q _ _ _=>k b a q,λb a q _ _ _=>⟨a.slots,k b a q⟩,λ_ _ _ n _=>n,λb a q _=>⟨a,k b a q⟩,λ_ _ q=>q,λ_ _ _ q=>q,λ_ c q=>⟨#[],by rw[q];simp⟩⟩
theorem Un.refl:Un fs g H H h h:=Un.kept λ_ _ q=>q
theorem Un.laid (k:∀ b u,h.get? b=some u->j.get? b=some u) (l:h.objs.size<=a) (g:H a=none):Un fs p H (upd H a o) h j where
 keep:=λb u q _ _ _=>k b u q
 slot:=λb u q _ _ _=>⟨u.slots,k b u q⟩
 free:=λb u q n _=>by rw[lC (bH (aY (aQ q) l))];exact n
 there:=λb u q _=>⟨u,k b u q⟩
 tups:=λb c q=>by rw[lC (oA q g)];exact q
 frzs:=λb u c q=>by rw[lC (oA q g)];exact q
 tbls:=λb d q=>⟨#[],by rw[lC (oA q g),q];simp⟩
theorem Un.write (g:xT (H x)) (p:e=x\/H e=some (.o x)) (k:∀ b u,b≠e->h.get? b=some u->l.get? b=some u) (j:∃ u,l.get? e=some u):Un fs C H (upd H x o) h l:=by
 have f:∀ b,H b=none->b≠x:=λb n z=>by subst z;rw[n] at g;exact g
 have d:∀ b,H b=none->b≠e:=λb n z=>by
  subst z;rcases p with r | r
  .exact f b n r
  .rw[n] at r;cases r
 have c:∀ b u,H b=some u->¬ xT (some u)->b≠x:=λb u q i z=>by subst z;rw[q] at g;exact i g
 refine⟨λb u q n _ _=>k b u (d b n) q,λb u q n _ _=>⟨u.slots,k b u (d b n) q⟩,λb u q n _=>by rw[lC (f b n)];exact n,λb u q _=>?_,
  λb m q=>by rw[lC (c b _ q λz=>z)];exact q,λb u m q=>by rw[lC (c b _ q λz=>z)];exact q,λb s q=>⟨#[],by rw[lC (c b _ q λz=>z),q];simp⟩⟩
 by_cases a:b=e
 .subst a;exact j
 .exact⟨u,k b u a q⟩
end
noncomputable def zB (h:Ag) (H:Hp):Aa Ad:=(List.range h.objs.size).filter λa=>(H a).isSome
def sA (h:Ag) (H:Hp):Ag:=PySem.W.hideAll h (zB h H)
theorem S9 (h:Ag) (H:Hp):(sA h H).objs.size=h.objs.size:=PySem.W.hideAll_size _ _
theorem P9 (e:h.get? b=some o) (n:H b=none):(sA h H).get? b=some o :=
 PySem.W.hideAll_get _ e λa=>by
  have q:(H b).isSome=true:=(jE.mp a).2;rw[n] at q;simp at q
theorem Qj (e:(sA h H).get? b=some o):h.get? b=some o/\H b=none:=by
 have a:h.get? b=some o:=PySem.W.of_hideAll (zB h H) e;refine⟨a,?_⟩;cases q:H b with
 | none=>rfl
 | some x =>
  have c:b∈zB h H:=jE.mpr ⟨List.mem_range.mpr (aQ a),by simp[q]⟩;have z:(sA h H).get? b=none:=PySem.W.hideAll_none (zB h H) c;rw[z] at e;cases e
structure Mod (K:kC) (mg:Str->Option Value) (base:Heap):Prop where
 kin:K.In base
 glob:base.Ns mainGlobals mg
 blt:∃ mb,base.Ns builtinsNs mb/\∀ x:Str,x ≠ "__name__" -> mb x=bootBuiltins x
 nolimit:base.NoLimit
/-- the context: a def's body (or a comprehension's block) running. base: fixed through the whole law;s₀,H₀: the entry;outer: the frames whose slots others may change (a def's callers);stack: all frames that run;
 ex: iterators that were made ahead of the entry and are walked here (a comprehension's);fn: the names whose cells were made at the entry (a def: all;a comprehension's block: its own);calm: not within an except suite;pn: pins that every state bears;xe: what is wanted of an exception that leaves the code -/
structure Cx where
 prog:Program
 w:World
 K:kC
 mg:Str->Option Value
 base:Heap
 A:Around
 N:List Str
 s₀:Shared
 H₀:Hp
 env:Env
 outer:List Env
 stack:List Env
 ex:List Addr
 fn:Str->Bool
 calm:Bool
 pn:List (Addr×Obj)
 xe:Value->Shared->Prop
noncomputable def qF (l:Aa Env):Aa Ad:=l.filterMap (·.frame)
abbrev Cx.fs (X:Cx):Aa Ad:=qF X.outer
def zP (g:Scope) (x:Af):Prop:=g.names.lookup x=some .local\/g.names.lookup x=some .cell\/g.names.lookup x=some .free
def rE (g:Scope) (x:Af):Prop:=g.names.lookup x=some .local\/g.names.lookup x=some .cell
def P1 (g:Env) (h:Ag) (m:Af->Ab Ac) (x:Af) (u:Ac):Prop :=
 (g.kindOf x=some .local/\m x=some u)\/((g.kindOf x=some .cell\/g.kindOf x=some .free)/\∃ c,g.cells.lookup x=some c/\h.IsCell c (some u))
structure Cx.Ok (X:Cx):Prop where
 mod:Mod X.K X.mg X.base
 kind:X.env.scope.kind = .function
 glob:X.env.globals=mainGlobals
 blt:X.env.builtins=builtinsNs
 above:X.s₀.heap.objs.size<=X.env.locals
 inj:∀ x y c,X.env.cells.lookup x=some c->X.env.cells.lookup y=some c->x=y
 has:∀ x,(X.env.kindOf x=some .cell\/X.env.kindOf x=some .free)->∃ c,X.env.cells.lookup x=some c
 cab:∀ x c,X.fn x=true->X.env.cells.lookup x=some c->X.s₀.heap.objs.size<=c
 hd:X.calm=true->X.A.handled=none
 frames:X.A.frames=some X.stack
 stk:X.stack=X.outer\/(X.stack=X.env::X.outer/\X.env.frame=some X.env.locals)
 exf:∀ b∈X.ex,b≠X.env.locals/\∀ x c,X.env.cells.lookup x=some c->c≠b
 bs:∀ b o,X.base.get? b=some o->X.s₀.heap.get? b=some o/\X.H₀ b=none
 bsz:X.base.objs.size<=X.s₀.heap.objs.size
 noex:∀ b o,X.base.get? b=some o->b∉X.ex
 exfs:∀ b∈X.ex,b∉X.fs
 funs:X.s₀.heap.FunFrames X.base X.outer
 frf:∀ b∈X.fs,X.H₀ b=none
structure Inv (X:Cx) (pins:List (Addr×Obj)) (σ:List (Option V)) (H:Hp) (s:Shared):Prop where
 ok:X.Ok
 os:s.os=X.s₀.os
 bare:AllBare s.gens
 base:Un X.fs X.ex X.H₀ H X.s₀.heap s.heap
 loc:∃ m,s.heap.Ns X.env.locals m/\∀ (i:Nat) (x:Str) (v:V),X.N[i]?=some x->σ[i]?=some (some v)->zP X.env.scope x->∃ u,kD v u/\P1 X.env s.heap m x u
 cell:∀ x c,X.env.cells.lookup x=some c->∃ v,s.heap.IsCell c v
 free:H X.env.locals=none
 freeC:∀ x c,X.env.cells.lookup x=some c->H c=none
 pin:∀ p∈X.pn++pins,s.heap.get? p.1=some p.2/\H p.1=none/\p.1≠X.env.locals/\p.1∉X.fs/\∀ v,p.2.data ≠ .cell v
 hok:lP X.prog X.w H s.heap
 len:σ.length=X.N.length
section
variable {X:Cx}
theorem Cx.Ok.nofr (ok:X.Ok) (e:X.base.get? b=some o):b∉X.fs:=λa=>by
 have:=(ok.funs.mem a).1;rw[e] at this;cases this
theorem Inv.bs (I:Inv X g j H s):∀ b o,X.base.get? b=some o->s.heap.get? b=some o/\H b=none:=λb o e =>
 ⟨I.base.keep b o (I.ok.bs b o e).1 (I.ok.bs b o e).2 (I.ok.nofr e) (I.ok.noex b o e),I.base.free b o (I.ok.bs b o e).1 (I.ok.bs b o e).2 (I.ok.noex b o e)⟩
theorem Inv.bk (I:Inv X g j H s):∀ b o,X.base.get? b=some o->s.heap.get? b=some o:=λb o e=>(I.bs b o e).1
theorem Inv.mod (I:Inv X g j H s):Mod X.K X.mg X.base:=I.ok.mod
theorem Inv.kIn (I:Inv X g j H s):X.K.In s.heap:=I.ok.mod.kin.keeps I.bk
theorem Inv.lt (I:Inv X g j H s):X.env.locals<s.heap.objs.size:=let ⟨_,a,_⟩:=I.loc;a.lt
theorem Inv.sz (I:Inv X g j H s):X.s₀.heap.objs.size<=s.heap.objs.size:=bS I.ok.above (fK I.lt)
theorem Inv.nofs (I:Inv X g j H s) (h:s.heap.objs.size<=a):a∉X.fs:=λb=>by
 obtain⟨_,o,c,_⟩:=I.ok.funs.mem b;exact absurd (aY (aQ c) (bS I.sz h)) (eQ _)
theorem Inv.cne (I:Inv X g j H s):∀ x c,X.env.cells.lookup x=some c->c≠X.env.locals:=λx c e z=>by
 obtain⟨v,o,d,hd⟩:=I.cell x c e;obtain⟨m,⟨i,h,f,b,a,_⟩,_⟩:=I.loc;rw[z,b] at d;cases d;rw[a] at hd;cases hd
theorem Inv.funs (I:Inv X g j H s):s.heap.FunFrames X.base X.outer:=by
 have all:∀ (l:Aa Env),(∀ b∈qF l,b∈X.fs)->X.s₀.heap.FunFrames X.base l->s.heap.FunFrames X.base l:=by
  intro l;induction l with
  | nil=>intro _ _;trivial
  | cons h r t =>
   intro f k;obtain⟨i,⟨L,o,d,m,n,hd⟩,q⟩:=k;have a:L∈X.fs:=f L (by unfold qF;rw[List.filterMap_cons,d];exact aM);obtain⟨u,e⟩:=I.base.slot L o n (I.ok.frf L a) a λz=>I.ok.exfs L z a
   exact⟨i,⟨L,_,d,m,e,hd⟩,t (λb c=>f b (by unfold qF;rw[List.filterMap_cons,d];exact aV _ c)) q⟩
 exact all X.outer (λ_ c=>c) I.ok.funs
theorem Inv.stack (I:Inv X g j H s):s.heap.FunFrames X.base X.stack:=by
 rcases I.ok.stk with e | ⟨e,a⟩
 .rw[e];exact I.funs
 .rw[e];obtain⟨m,b,_⟩:=I.loc;refine .cons (by rw[I.ok.kind];decide) a b ?_ I.funs;exact Heap.get?_none_of_le (bS I.ok.bsz I.ok.above)
theorem Inv.stkSub (I:Inv X g j H s):∀ b∈qF X.stack,b∈X.env.locals::X.fs:=λb a=>by
 rcases I.ok.stk with e | ⟨e,c⟩
 .rw[e] at a;exact aV _ a
 .rw[e] at a;unfold qF at a;rw[gZ,c] at a;exact a
theorem Inv.stkFree (I:Inv X g j H s):∀ b∈qF X.stack,H b=none:=λb a=>by
 rcases aJ.mp (I.stkSub b a) with e | a
 .rw[e];exact I.free
 .obtain⟨_,o,c,_⟩:=I.ok.funs.mem a;exact I.base.free b o c (I.ok.frf b a) λz=>I.ok.exfs b z a
theorem Inv.step {g':Array GenState}{t':Nat}{d':Drawn}{ch:Aa Ad}(I:Inv X j σ H s)
  (g:∀ b∈ch,(b∈X.ex\/X.s₀.heap.objs.size<=b)/\b≠X.env.locals/\(∀ x c,X.env.cells.lookup x=some c->c≠b)/\∀ p∈X.pn++j,p.1≠b)
  (keep:∀ b o,b≠X.env.locals->b∉X.fs->b∉ch->s.heap.get? b=some o->H b=none->J.get? b=some o)
  (slot:∀ b o,b≠X.env.locals->b∈X.fs->b∉ch->s.heap.get? b=some o->H b=none->∃ sl,J.get? b=some { o with slots:=sl }) (free:∀ b o,b∉ch->s.heap.get? b=some o->H b=none->T b=none)
  (there:∀ b o,b∉ch->s.heap.get? b=some o->∃ o',J.get? b=some o')
  (ab:∀ b C,H b=some (.t C)->T b=some (.t C)) (U:∀ b o u,H b=some (.frz o u)->T b=some (.frz o u)) (aa:∀ b ps,H b=some (.tbl ps)->∃ more,T b=some (.tbl (ps++more)))
  (ns:∀ m,s.heap.Ns X.env.locals m->J.Ns X.env.locals m) (ac:lP X.prog X.w T J) (hg:AllBare g') :
  Inv X j σ T { s with heap:=J,gens:=g',drawn:=d',toks:=t' }:=by
 have F:∀ b o,X.s₀.heap.get? b=some o->b≠X.env.locals:=λb o e=>bH (aY (aQ e) I.ok.above)
 have A:∀ b o,X.s₀.heap.get? b=some o->b∉X.ex->b∉ch:=λb o e a B=>by
  rcases (g b B).1 with z | z
  .exact a z
  .exact absurd (aY (aQ e) z) (eQ _)
 have f:∀ x c,X.env.cells.lookup x=some c->∀ v,s.heap.IsCell c v->J.IsCell c v:=λx c e v G=>by
  obtain⟨o,D,hd⟩:=G;have h:c∉ch:=λz=>(g c z).2.2.1 x c e rfl
  by_cases L:c∈X.fs
  .obtain⟨sl,q⟩:=slot c o (I.cne x c e) L h D (I.freeC x c e);exact⟨_,q,hd⟩
  .exact⟨o,keep c o (I.cne x c e) L h D (I.freeC x c e),hd⟩
 refine⟨I.ok,I.os,hg,⟨λb o e n B a=>?_,λb o e n B a=>?_,λb o e n a=>?_,λb o e a=>?_,λb C e=>ab b C (I.base.tups b C e),λb o C e=>U b o C (I.base.frzs b o C e),λb ps e=>?_⟩,?_,λx c e=>?_,?_,λx c e=>?_,λp M=>?_,ac,I.len⟩
 .exact keep b o (F b o e) B (A b o e a) (I.base.keep b o e n B a) (I.base.free b o e n a)
 .obtain⟨sl,y⟩:=I.base.slot b o e n B a;obtain⟨K,E⟩:=slot b _ (F b o e) B (A b o e a) y (I.base.free b o e n a);exact⟨K,E⟩
 .obtain⟨o',y⟩:=I.base.there b o e a;exact free b o' (A b o e a) y (I.base.free b o e n a)
 .obtain⟨o',y⟩:=I.base.there b o e a;exact there b o' (A b o e a) y
 .obtain⟨R,y⟩:=I.base.tbls b ps e;obtain⟨S,E⟩:=aa b _ y;exact⟨R++S,by rw[E,Array.append_assoc]⟩
 .obtain⟨m,Q,P⟩:=I.loc;refine⟨m,ns m Q,λi x v y E O=>?_⟩;obtain⟨u,r,l⟩:=P i x v y E O;refine⟨u,r,?_⟩;rcases l with l | ⟨k,c,e,z⟩
  .exact .inl l
  .exact .inr ⟨k,c,e,f x c e _ z⟩
 .obtain⟨v,z⟩:=I.cell x c e;exact⟨v,f x c e v z⟩
 .obtain⟨m,⟨o,_,_,D,_⟩,_⟩:=I.loc;exact free _ o (λz=>(g _ z).2.1 rfl) D I.free
 .obtain⟨v,o,D,hd⟩:=I.cell x c e;exact free c o (λz=>(g c z).2.2.1 x c e rfl) D (I.freeC x c e)
 .obtain⟨e,n,ne,N,d⟩:=I.pin p M;have h:p.1∉ch:=λz=>(g p.1 z).2.2.2 p M rfl
  exact⟨keep p.1 p.2 ne N h e n,free p.1 p.2 h e n,ne,N,d⟩
theorem Inv.un (I:Inv X g p H s) (u:Un X.fs [] H l s.heap h') (j:lP X.prog X.w l h'):Inv X g p l { s with heap:=h',toks:=t' }:=by
 obtain⟨m,⟨o,v,t,h,r⟩,_⟩:=id I.loc;obtain⟨A,i⟩:=u.any h I.free (by simp);exact I.step (g':=s.gens) (d':=s.drawn) (ch:=[]) (λ_ z=>nomatch z) (λb o _ f _ e n=>u.keep b o e n f (by simp)) (λb o _ f _ e n=>u.slot b o e n f (by simp)) (λb o _ e n=>u.free b o e n (by simp)) (λb o _ e=>u.there b o e (by simp)) u.tups u.frzs u.tbls (λx k=>by
  obtain⟨y,d,c,a,q⟩:=k;rw[h] at a;cases a;exact⟨_,d,c,i,q⟩) j I.bare
theorem Inv.call (I:Inv X g T H s) (u:Un (qF X.stack) ch H C s.heap h') (l:lP X.prog X.w C h') (J:AllBare g')
  (j:∀ b∈ch,(b∈X.ex\/X.s₀.heap.objs.size<=b)/\b≠X.env.locals/\(∀ x c,X.env.cells.lookup x=some c->c≠b)/\∀ p∈X.pn++g,p.1≠b) :
  Inv X g T C { s with heap:=h',gens:=g',drawn:=d',toks:=t' }:=by
 obtain⟨m,⟨o,A,y,k,r⟩,_⟩:=id I.loc;obtain⟨E,i⟩:=u.any k I.free λz=>(j _ z).2.1 rfl
 exact I.step (ch:=ch) j (λb o i q a e n=>u.keep b o e n (λz=>(aJ.mp (I.stkSub b z)).elim i q) a) (λb o _ _ a e n=>u.any e n a) (λb o a e n=>u.free b o e n a) (λb o a e=>u.there b o e a) u.tups u.frzs u.tbls (λB t=>by
  obtain⟨D,h,f,d,v⟩:=t;rw[k] at d;cases d;exact⟨_,h,f,i,v⟩) l J
theorem Inv.turned (I:Inv X j σ H s) (k:∀ b o,b≠g->s.heap.get? b=some o->C.get? b=some o) (hn:H g=none) (l:g≠X.env.locals)
  (J:g∈X.ex\/X.s₀.heap.objs.size<=g) (T:∀ x c,X.env.cells.lookup x=some c->c≠g) (U:∀ p∈X.pn++j,p.1≠g):Inv X j σ H { s with heap:=C,toks:=t' }:=by
 have d:∀ b u,H b=some u->b≠g:=λb u e z=>by rw[z,hn] at e;cases e
 refine I.step (g':=s.gens) (d':=s.drawn) (ch:=[g]) (λb i=>?_) (λb o _ _ a e _=>k b o (λz=>a (by simp[z])) e) (λb o _ _ a e _=>⟨o.slots,k b o (λz=>a (by simp[z])) e⟩) (λ_ _ _ _ n=>n)
  (λb o a e=>⟨o,k b o (λz=>a (by simp[z])) e⟩) (λ_ _ e=>e) (λ_ _ _ e=>e) (λb y e=>⟨#[],by rw[e];simp⟩) (λm t=>?_) (λb u e=>?_) I.bare
 .have e:b=g:=by simpa using i
  subst e;exact⟨J,l,T,U⟩
 .obtain⟨o,h,f,w,r⟩:=t;exact⟨o,h,f,k _ o (dH l) w,r⟩
 .refine (I.hok b u e).stay (λc v a q=>k c v ?_ q) (λ_ q=>q) λ_ _ q=>q
  rcases a with z | z
  .rw[z];exact d b u e
  .exact d c _ z
theorem Inv.tok (I:Inv X g j H s) (t:Nat):Inv X g j H { s with toks:=t }:=I.un (h':=s.heap) (t':=t) Un.refl I.hok
theorem Inv.kept (I:Inv X g l H s) (k:∀ b u,s.heap.get? b=some u->j.get? b=some u):Inv X g l H { s with heap:=j,toks:=t' }:=I.un (Un.kept k) (I.hok.kept k)
theorem Inv.laid (I:Inv X g p H s) (k:∀ b u,s.heap.get? b=some u->l.get? b=some u) (j:s.heap.objs.size<=a) (new:lM X.prog X.w (upd H a o) l a o) :
  Inv X g p (upd H a o) { s with heap:=l,toks:=t' }:=I.un (Un.laid k j (I.hok.fresh j)) (I.hok.laid k j new)
theorem Inv.write (I:Inv X j C H s) (r:xT (H x)) (p:e=x\/H e=some (.o x)) (k:∀ b u,b≠e->s.heap.get? b=some u->l.get? b=some u) (g:∃ u,l.get? e=some u)
  (new:lM X.prog X.w (upd H x o) l x o):Inv X j C (upd H x o) { s with heap:=l,toks:=J }:=I.un (Un.write r p k g) (I.hok.write r p k g new)
theorem Inv.pins_of (I:Inv X j l H s) (h:∀ p∈g,s.heap.get? p.1=some p.2/\H p.1=none/\p.1≠X.env.locals/\p.1∉X.fs/\∀ v,p.2.data ≠ .cell v):Inv X g l H s :=
 ⟨I.ok,I.os,I.bare,I.base,I.loc,I.cell,I.free,I.freeC,λp a=>(aZ.mp a).elim (λz=>I.pin p (bM _ z)) (h p),I.hok,I.len⟩
theorem I3 {N:Aa Af}(g:N.Nodup){i j:Nat}{x:Af}(a:N[i]?=some x) (b:N[j]?=some x):i=j:=by
 obtain⟨e,c⟩:=aG.mp a;obtain⟨f,d⟩:=aG.mp b;exact (List.getElem_inj g).mp (c.trans d.symm)
theorem Hl (I:Inv X J σ H s) (hN:X.N.Nodup) (l:X.N[i]?=some x) (g:rE X.env.scope x) (r:kD v u)
  (h:∀ s',Inv X J (σ.set i (some v)) H s'->(∃ a,Heap.SameBut a s.heap s'.heap/\(a=X.env.locals\/X.env.cells.lookup x=some a))->Q () s') (hf:X.fn x=true\/X.env.scope.names.lookup x=some .local:=by first | exact .inl rfl | exact .inr rfl | assumption):wpAny M A (storeName X.env x u) Q E s:=by
 obtain⟨m,hn,hl⟩:=id I.loc;have Y:(X.env.scope.kind == .class||(X.env.scope.kind == .module&&X.env.locals != X.env.globals))=false:=by rw[I.ok.kind];rfl
 have K:i<σ.length:=by rw[I.len];exact (aG.mp l).1
 have cne:=I.cne;have B:∀ {a:Ad} {S:Ag},(∃ o,s.heap.get? a=some o/\H a=none)->Heap.SameBut a s.heap S->lP X.prog X.w H S:=λ{a S} ha f b ob e=>by
  obtain⟨_,_,F⟩:=ha;refine (I.hok b ob e).stay (λc U D q=>(f.2 c ?_).trans q) (λ_ q=>q) λ_ _ q=>q
  rintro rfl;rcases D with rfl | D
  .rw[F] at e;cases e
  .rw[F] at D;cases D
 rcases g with L | L
 .refine wpAny_storeName_local L hn (λS aa f=>?_) Y;obtain⟨oL,_,_,ab,_⟩:=id hn;refine h _ ⟨I.ok,I.os,I.bare,⟨λb o e n O g=>?_,λb o e n O g=>?_,I.base.free,λb o e g=>?_,I.base.tups,I.base.frzs,I.base.tbls⟩,⟨_,aa,λj y v' t G e3=>?_⟩,λy c e=>?_,I.free,I.freeC,λp hp=>?_,B ⟨oL,ab,I.free⟩ f,by simpa using I.len⟩ ⟨_,f,.inl rfl⟩
  .exact (f.2 b (bH (aY (aQ e) I.ok.above))).trans (I.base.keep b o e n O g)
  .obtain⟨sl,t⟩:=I.base.slot b o e n O g;exact⟨sl,(f.2 b (bH (aY (aQ e) I.ok.above))).trans t⟩
  .obtain⟨o',t⟩:=I.base.there b o e g;exact⟨o',(f.2 b (bH (aY (aQ e) I.ok.above))).trans t⟩
  .by_cases R:j=i
   .subst R;rw[l] at t;cases t;rw[List.getElem?_set_self K] at G;cases G;exact⟨u,r,.inl ⟨L,by simp⟩⟩
   .rw[dO (dH R)] at G;obtain⟨u',r',q⟩:=hl j y v' t G e3;refine⟨u',r',?_⟩;rcases q with⟨k,e⟩ | ⟨k,c,e,z⟩
    .refine .inl ⟨k,?_⟩;have:y≠x:=λe=>R (I3 hN t (e▸l))
     simp[this,e]
    .exact .inr ⟨k,c,e,z.sameBut f (cne y c e)⟩
  .obtain⟨U,z⟩:=I.cell y c e;exact⟨U,z.sameBut f (cne y c e)⟩
  .obtain⟨e,n,ne,nf,d⟩:=I.pin p hp;exact⟨(f.2 p.1 ne).trans e,n,ne,nf,d⟩
 .have P:X.fn x=true:=by
   rcases hf with z | z
   .exact z
   .rw[z] at L;cases L
  obtain⟨c,D⟩:=I.ok.has x (.inl L);obtain⟨U,z⟩:=I.cell x c D;refine wpAny_storeName_cell I.ok.kind L D z (λS V f=>?_);obtain⟨oc,Z,C⟩:=id z;refine h { s with heap:=S } ⟨I.ok,I.os,I.bare,⟨λb o e n O g=>?_,λb o e n O g=>?_,I.base.free,λb o e g=>?_,I.base.tups,I.base.frzs,I.base.tbls⟩,⟨m,hn.sameBut f (dH (cne x c D)),λj y v' t G e3=>?_⟩,λy T e=>?_,I.free,I.freeC,λp hp=>?_,B ⟨oc,Z,I.freeC x c D⟩ f,by simpa using I.len⟩ ⟨c,f,.inr D⟩
  .exact (f.2 b (bH (aY (aQ e) (I.ok.cab x c P D)))).trans (I.base.keep b o e n O g)
  .obtain⟨sl,t⟩:=I.base.slot b o e n O g;exact⟨sl,(f.2 b (bH (aY (aQ e) (I.ok.cab x c P D)))).trans t⟩
  .obtain⟨o',t⟩:=I.base.there b o e g;exact⟨o',(f.2 b (bH (aY (aQ e) (I.ok.cab x c P D)))).trans t⟩
  .by_cases R:j=i
   .subst R;rw[l] at t;cases t;rw[List.getElem?_set_self K] at G;cases G;exact⟨u,r,.inr ⟨.inl L,c,D,V⟩⟩
   .rw[dO (dH R)] at G;obtain⟨u',r',q⟩:=hl j y v' t G e3;refine⟨u',r',?_⟩;rcases q with q | ⟨k,T,e,z'⟩
    .exact .inl q
    .refine .inr ⟨k,T,e,z'.sameBut f ?_⟩;rintro rfl;exact R (I3 hN t (I.ok.inj _ _ _ e D▸l))
  .by_cases W:T=c
   .subst W;exact⟨_,V⟩
   .obtain⟨w2,z2⟩:=I.cell y T e;exact⟨w2,z2.sameBut f W⟩
  .obtain⟨e,n,ne,nf,d⟩:=I.pin p hp;refine⟨(f.2 p.1 ?_).trans e,n,ne,nf,d⟩;intro q;rw[q,Z] at e;have q':oc=p.2:=bO e;exact d U (by rw[<- q'];exact C)
theorem Dw (I:Inv X g J H s) (l:X.N.Nodup) (p:X.N[i]?=some x) (C:rE X.env.scope x) (r:kD v u)
  (h:∀ j,Inv X g (J.set i (some v)) H j->Q () j) (o:X.fn x=true\/X.env.scope.names.lookup x=some .local:=by first | exact .inl rfl | exact .inr rfl | assumption):wpAny M A (storeName X.env x u) Q E s :=
 Hl I l p C r (λj a _=>h j a) o
theorem Inv.call' (I:Inv X g J H s) (C:s'.os=s.os) (u:Un (qF X.stack) ch H o s.heap s'.heap) (l:lP X.prog X.w o s'.heap) (r:AllBare s'.gens)
  (j:∀ b∈ch,(b∈X.ex\/X.s₀.heap.objs.size<=b)/\b≠X.env.locals/\(∀ x c,X.env.cells.lookup x=some c->c≠b)/\∀ p∈X.pn++g,p.1≠b):Inv X g J o s':=by
 obtain⟨i,d,a,h,f⟩:=s';have e:f=s.os:=C;subst e;exact I.call (g':=d) (t':=h) (d':=a) u l r j
end
abbrev XK:=Ac->Ab Ad->Hp->Prop
abbrev St:=Aa (Ab V)
abbrev VK:=V->Hp->Prop
abbrev TE:=St->Hp->VK->Prop
abbrev TT:=St->Hp->(Bool->Hp->Prop)->Prop
abbrev TA:=St->Hp->(Aa V->Hp->Prop)->Prop
structure Ends where
 nx:St->Hp->Prop
 rt:VK
 bk:St->Hp->Prop:=λ_ _=>False
 ct:St->Hp->Prop:=λ_ _=>False
abbrev TS:=Ends->St->Hp->Prop
def EP (X:Cx) (g:Aa (Ad×Obj)) (l:St) (Q:VK) (u:Ac) (j:Ae):Prop:=∃ v a,Inv X g l a j/\kD v u/\Q v a
def TP (X:Cx) (g:Aa (Ad×Obj)) (l:St) (Q:Bool->Hp->Prop) (b:Bool) (j:Ae):Prop:=∃ a,Inv X g l a j/\Q b a
def AP (X:Cx) (g:Aa (Ad×Obj)) (o:St) (Q:Aa V->Hp->Prop) (l:Aa Ac) (j:Ae):Prop:=∃ b a,Inv X g o a j/\kF b l/\Q b a
def SP (X:Cx) (g:Aa (Ad×Obj)) (D:Ends) (f:Flow) (j:Ae):Prop :=
 match f with
 | .next=>∃ a b,Inv X g a b j/\D.nx a b
 | .brk=>∃ a b,Inv X g a b j/\D.bk a b
 | .cont=>∃ a b,Inv X g a b j/\D.ct a b
 | .ret u=>∃ v a b,Inv X g a b j/\kD v u/\D.rt v b
def PE (X:Cx) (e:Expr) (t:TE):Prop :=
 ∀ (a:Aa (Ad×Obj)) (s:Ae) (b:St) (H:Hp) (Q:VK),Inv X a b H s->t b H Q->wpAny (model X.prog X.w) X.A (eval e X.env) (EP X a b Q) X.xe s
def PT (X:Cx) (e:Expr) (t:TT):Prop :=
 ∀ (a:Aa (Ad×Obj)) (s:Ae) (b:St) (H:Hp) (Q:Bool->Hp->Prop),Inv X a b H s->t b H Q->wpAny (model X.prog X.w) X.A (isTrue e X.env (eval e X.env)) (TP X a b Q) X.xe s
def PW (X:Cx) (e:Expr) (t:TT):Prop :=
 ∀ (whole:Sem Ac) (a:Aa (Ad×Obj)) (s:Ae) (b:St) (H:Hp) (Q:Bool->Hp->Prop),Inv X a b H s->t b H Q->wpAny (model X.prog X.w) X.A (isTrue e X.env whole) (TP X a b Q) X.xe s
theorem PW.pt {X:Cx}(h:PW X e t):PT X e t:=h _
def PA (X:Cx) (g:Aa Expr) (t:TA):Prop :=
 ∀ (pos:Pos) (a:Aa (Ad×Obj)) (s:Ae) (b:St) (H:Hp) (Q:Aa V->Hp->Prop),Inv X a b H s->t b H Q->wpAny (model X.prog X.w) X.A (spliced (backTo pos (starEach g X.env))) (AP X a b Q) X.xe s
def PS (X:Cx) (st:Stmt) (t:TS):Prop :=
 ∀ (a:Aa (Ad×Obj)) (s:Ae) (b:St) (H:Hp) (D:Ends),Inv X a b H s->t D b H->wpAny (model X.prog X.w) X.A (exec st X.env) (SP X a D) X.xe s
def oM (X:Cx) (st:Aa Stmt) (t:TS):Prop :=
 ∀ (a:Aa (Ad×Obj)) (s:Ae) (b:St) (H:Hp) (D:Ends),Inv X a b H s->t D b H->wpAny (model X.prog X.w) X.A (execs st X.env) (SP X a D) X.xe s
theorem hL (h:wpAny M A t Q E s) (j:∀ a s,Q a s->g a s):wpAny M A t g E s:=cN h j λ_ _ x=>x
section
variable {X:Cx}
def nZ (i:Nat):TE:=λa H Q=>∃ v,a[i]?=some (some v)/\Q v H
def tC (v:V):TE:=λ_ H Q=>Q v H
theorem Yf (j:X.N[i]?=some x) (o:zP X.env.scope x) (hd:(x == ("__debug__" : Af))=false:=by decide) (g:(x == ("__classdict__" : Af))=false:=by decide):PE X (.Name x pos) (nZ i):=by
 intro d s t H Q I h;obtain⟨v,e,h⟩:=h;obtain⟨m,q,k⟩:=I.loc;obtain⟨u,r,l⟩:=k i x v j e o;have fin:EP X d t Q u s:=⟨v,H,I,r,h⟩;rcases l with⟨b,n⟩ | ⟨b,c,f,a⟩
 .exact wpAny_Name (wpAny_loadName_local I.ok.kind b q n fin) hd
 .rcases b with b | b
  .exact wpAny_Name (wpAny_loadName_cell I.ok.kind b f a fin) hd
  .exact wpAny_Name (wpAny_loadName_free I.ok.kind b f a fin g) hd
theorem Po {i j pos}:PE X (.Constant (.int i) j pos) (tC (.int i)):=λ_ _ _ H _ I h=>wpAny_Constant_int ⟨.int i,H,I.tok _,⟨_,rfl⟩,h⟩
theorem Wa {b j pos}:PE X (.Constant (.bool b) j pos) (tC (.b b)):=λ_ _ _ H _ I h=>Constant_bool ⟨.b b,H,I,rfl,h⟩
theorem Zd {j pos}:PE X (.Constant .none j pos) (tC .e):=λ_ _ _ H _ I h=>Constant_none ⟨.e,H,I,rfl,h⟩
theorem Qf {x j pos}:PE X (.Constant (.str x) j pos) (tC (.str x)):=λ_ _ _ H _ I h=>Calls.Constant_str ⟨.str x,H,I.tok _,⟨_,rfl⟩,h⟩
def Gl (X:Cx) (x:Af):Prop:=X.env.kindOf x=some .globalImplicit
theorem Yo (I:Inv X g o H s) (j:Gl X x) (l:X.mg x=some u) (h:Q u s)
  (hd:(x == ("__debug__" : Af))=false:=by decide):wpAny (model X.prog X.w) X.A (eval (.Name x pos) X.env) Q E s :=
 Calls.Name_function_global I.ok.kind j (Calls.loadGlobal_global (by rw[I.ok.glob];exact I.mod.glob.keeps I.bk) l h) hd
theorem uX (I:Inv X g r H s) (j:Gl X x) (l:X.mg x=none) (p:bootBuiltins x=some u) (h:Q u s)
  (o:x ≠ "__name__" := by decide) (hd:(x == ("__debug__" : Af))=false:=by decide):wpAny (model X.prog X.w) X.A (eval (.Name x pos) X.env) Q E s:=by
 obtain⟨c,a,b⟩:=I.mod.blt;exact Calls.Name_function_global I.ok.kind j (Calls.loadGlobal_builtin (by rw[I.ok.glob];exact I.mod.glob.keeps I.bk) l (by rw[I.ok.blt];exact a.keeps I.bk) ((b x o).trans p) h) hd
theorem Td (g:Gl X x) (j:X.mg x=none) (o:bootBuiltins x=some u) (r:kD v u) (l:x ≠ "__name__" := by decide) (hd:(x == ("__debug__" : Af))=false:=by decide):PE X (.Name x pos) (tC v) :=
 λ_ _ _ H _ I h=>uX I g j o ⟨v,H,I,r,h⟩ l hd
def PC (X:Cx) (op:CmpOp) (a b:Expr) (t:TE):Prop :=
 ∀ (c:Aa (Ad×Obj)) (s:Ae) (f:St) (H:Hp) (Q:VK),Inv X c f H s->t f H Q ->
  wpAny (model X.prog X.w) X.A (eval a X.env) (λv d=>wpAny (model X.prog X.w) X.A (eval b X.env) (λu e=>wpAny (model X.prog X.w) X.A (compareOp op v u) (EP X c f Q) X.xe e) X.xe d) X.xe s
def tB (t:TE):TT:=λd H Q=>t d H λx a=>∃ c,x = .b c/\Q c a
theorem V5 (h:PC X op a b t) (g:behindInMarks op b=false:=by first | exact nobehind _ (by decide) (by decide) | rfl):PT X (.Compare a [op] [b] pos) (tB t):=by
 intro e s y H Q I hw;refine wpAny_isTrue_Compare1 (hL (h e s y H _ I hw) λv z g=>hL g λu A m=>hL m λc B f=>?_) g;obtain⟨x,i,k,w,n⟩:=f;obtain⟨d,rfl,q⟩:=n;cases w;exact dD ⟨i,k,q⟩
variable {rest:Aa Expr}
def Xh (t u:TT):TT:=λb H Q=>t b H λc a=>if c=true then Q true a else u b a Q
def Y0 (t:TT):TT:=λb H Q=>t b H λc a=>Q (!c) a
theorem O8 (g:PT X a j):PW X (.BoolOp .Or [a] pos) j:=by
 intro i b s d H Q I h;refine isTrue_or (hL (g b s d H Q I h) λc f e=>?_);cases c with
 | false=>exact isTrue_or_nil e
 | true=>exact e
theorem Pr (j:PT X a o) (l:PW X (.BoolOp .Or (b::rest) pos) g):PW X (.BoolOp .Or (a::b::rest) pos) (Xh o g):=by
 intro q d s m H Q I h;refine isTrue_or (hL (j d s m H _ I h) λc n e=>?_);obtain⟨f,i,k⟩:=e;cases c with
 | true=>exact⟨f,i,k⟩
 | false=>exact l q d n m f Q i k
theorem Sx (g:PT X a j):PT X (.UnaryOp .Not a pos) (Y0 j):=by
 intro b s e H Q I h;exact isTrue_not (g b s e H (λc d=>Q (!c) d) I h)
def O6 (t:TT) (g j:TE):TE:=λa H Q=>t a H λc b=>if c=true then g a b Q else j a b Q
theorem Tg (l:PT X c o) (g:PE X a p) (j:PE X b r):PE X (.IfExp c a b pos) (O6 o p r):=by
 intro e s i H Q I h;refine wpAny_IfExp (hL (l e s i H _ I h) λd q f=>?_);obtain⟨k,m,n⟩:=f;cases d with
 | true=>exact g e q i k Q m n
 | false=>exact j e q i k Q m n
end
def kK (K:kC) (H:Hp) (a:Ad) (g:Aa V):Prop :=
 Rd H a (.l g) \/
  ∃ (o:Obj) (b:Array Ac) (n:Nat),K.lookup a=some o/\o.cls = .type "list" /\ o.dict=none/\o.data = .seq b n/\b.size<=sizeLine/\kF g b.toList
def kO (K:kC) (H:Hp) (a:Ad) (g:Aa V):Prop :=
 Rd H a (.t g) \/
  ∃ (o:Obj) (b:Array Ac) (n:Nat),K.lookup a=some o/\o.cls = .type "tuple" /\ o.data = .seq b n/\b.size<=sizeLine/\kF g b.toList
noncomputable def Uz:Ac->Ab V
 | .none=>some .e
 | .bool b=>some (.b b)
 | .int i _=>some (.int i)
 | .str x _=>some (.str x)
 | .bytes b _=>some (.byt b)
 | .float b _=>some (.flt b)
 | .ref a=>some (.ref a)
 | .type n=>some (.ty n)
 | _=>none
theorem kD.abs (r:kD x u):Uz u=some x:=by
 cases x with
 | e=>cases r;rfl
 | b _=>cases r;rfl
 | int _=>obtain⟨t,rfl⟩:=r;rfl
 | str _=>obtain⟨t,rfl⟩:=r;rfl
 | byt _=>obtain⟨t,rfl⟩:=r;rfl
 | flt _=>obtain⟨t,rfl⟩:=r;rfl
 | ref _=>cases r;rfl
 | ty _=>cases r;rfl
theorem kD.inj (r:kD x u) (q:kD y u):x=y:=bO (r.abs.symm.trans q.abs)
theorem kF.inj:∀ {j l:Aa V}{g:Aa Ac},kF j g->kF l g->j=l
 | _,_,_,.nil,.nil=>rfl
 | _,_,_,.cons r t,.cons a b=>by rw[r.inj a,kF.inj t b]
section
variable {X:Cx}
theorem kK.of {K:kC}(h:H a=some (.l g)):kK K H a g:=.inl (.inl h)
theorem kO.of {K:kC}(h:H a=some (.t g)):kO K H a g:=.inl (.inl h)
theorem Inv.list (I:Inv X j p H s) (h:kK X.K H a l):∃ g:Aa Ac,kF l g/\PlainL s.heap a g.toArray/\l.length<=sizeLine:=by
 rcases h with h | ⟨o,g,n,c,b,hd,d,f,r⟩
 .obtain⟨z,g,n,r,e⟩:=h.ok I.hok;exact⟨g,r,⟨_,n,e,rfl,rfl,rfl⟩,z⟩
 .refine⟨g.toList,r,⟨o,n,I.kIn a o c,b,hd,by simpa using d⟩,?_⟩;have e:=r.length;simp only[fV] at e;omega
theorem Inv.tuple (I:Inv X j C H s) (h:kO X.K H a l):∃ g:Aa Ac,kF l g/\IsTup s.heap a g.toArray/\l.length<=sizeLine:=by
 rcases h with h | ⟨o,g,n,c,b,d,f,r⟩
 .obtain⟨z,g,r,p,_⟩:=h.ok I.hok;exact⟨g,r,p,z⟩
 .refine⟨g.toList,r,⟨o,I.kIn a o c,b,n,by simpa using d⟩,?_⟩;have e:=r.length;simp only[fV] at e;omega
theorem Inv.list_inj (I:Inv X g C H s) (h:kK X.K H a l) (j:kK X.K H a p):l=p:=by
 obtain⟨c,r,⟨o,n,e,_,_,d⟩,_⟩:=I.list h;obtain⟨b,k,⟨q,m,i,_,_,f⟩,_⟩:=I.list j;rw[e] at i;cases i;rw[d] at f;injection f with d1 _;have:c=b:=by simpa using cO Array.toList d1
 subst this;exact r.inj k
theorem Inv.tuple_inj (I:Inv X g C H s) (h:kO X.K H a l) (j:kO X.K H a p):l=p:=by
 obtain⟨c,r,⟨o,e,_,n,d⟩,_⟩:=I.tuple h;obtain⟨b,k,⟨q,i,_,m,f⟩,_⟩:=I.tuple j;rw[e] at i;cases i;rw[d] at f;injection f with d1 _;have:c=b:=by simpa using cO Array.toList d1
 subst this;exact r.inj k
end
noncomputable abbrev Cx.wish (X:Cx) (E:Ac->Ae->Prop):Cx:={ X with xe:=E }
abbrev Cx.nox (X:Cx):Cx:=X.wish λ_ _=>False
theorem Cx.Ok.wish {X:Cx}(ok:X.Ok) (E:Ac->Ae->Prop):(X.wish E).Ok :=
 ⟨ok.mod,ok.kind,ok.glob,ok.blt,ok.above,ok.inj,ok.has,ok.cab,ok.hd,ok.frames,ok.stk,ok.exf,ok.bs,ok.bsz,ok.noex,ok.exfs,ok.funs,ok.frf⟩
theorem Cx.Ok.unwish {X:Cx}(ok:(X.wish E).Ok):X.Ok :=
 ⟨ok.mod,ok.kind,ok.glob,ok.blt,ok.above,ok.inj,ok.has,ok.cab,ok.hd,ok.frames,ok.stk,ok.exf,ok.bs,ok.bsz,ok.noex,ok.exfs,ok.funs,ok.frf⟩
section
variable {X:Cx}
theorem Inv.wish (I:Inv X g j H s) (E:Ac->Ae->Prop):Inv (X.wish E) g j H s:=⟨I.ok.wish E,I.os,I.bare,I.base,I.loc,I.cell,I.free,I.freeC,I.pin,I.hok,I.len⟩
theorem Inv.unwish (I:Inv (X.wish E) g j H s):Inv X g j H s:=⟨I.ok.unwish,I.os,I.bare,I.base,I.loc,I.cell,I.free,I.freeC,I.pin,I.hok,I.len⟩
theorem SP.unwish {D:Ends}(h:SP (X.wish E) g D f j):SP X g D f j:=by
 cases f with
 | next=>obtain⟨a,b,I,q⟩:=h;exact⟨a,b,I.unwish,q⟩
 | brk=>obtain⟨a,b,I,q⟩:=h;exact⟨a,b,I.unwish,q⟩
 | cont=>obtain⟨a,b,I,q⟩:=h;exact⟨a,b,I.unwish,q⟩
 | ret u=>obtain⟨v,a,b,I,r,q⟩:=h;exact⟨v,a,b,I.unwish,r,q⟩
theorem oM.nox {st:Aa Stmt}(h:oM X.nox st t):oM X st t:=λa s b H D I hw =>
 cN (h a s b H D (I.wish _) hw) (λ_ _ q=>q.unwish) λ_ _ z=>False.elim z
end
section
variable {X:Cx}{st:Stmt}{rest:Aa Stmt}
def Rg:TS:=λD a H=>D.nx a H
def Ut (t u:TS):TS:=λD a H=>t { D with nx:=u D } a H
theorem Ig:oM X [] Rg:=λ_ _ a H _ I h=>jF ⟨a,H,I,h⟩
theorem Nq (g:PS X st t) (j:oM X rest u):oM X (st::rest) (Ut t u):=by
 intro a s i H D I h;refine wpAny_execs_cons (hL (g a s i H { D with nx:=u D } I h) λf e q=>?_);cases f with
 | next =>
  obtain⟨b,c,d,q⟩:=q;exact j a e b c D d q
 | ret v=>exact q
 | brk=>exact q
 | cont=>exact q
theorem zC (g:PS X st t):oM X [st] t:=by
 intro a s b H D I h;refine wpAny_execs_cons (hL (g a s b H D I h) λf c q=>?_);cases f with
 | next=>exact jF q
 | ret v=>exact q
 | brk=>exact q
 | cont=>exact q
theorem Inv.quiet (I:Inv X g j H s):interactive X.env=false:=by simp[interactive,I.ok.kind]
def Pj (g:TE):TS:=λD a H=>g a H λ_ b=>D.nx a b
theorem N1 (g:PE X e l) (j:swapsWith e none pos.line X.env=pure false:=by rfl):PS X (.Expr e pos) (Pj l):=by
 intro a s b H D I h;exact wpAny_Expr_any (hL (g a s b H _ I h) λv k ⟨x,c,d,i,f⟩=>⟨b,c,d,f⟩) I.quiet j
def Sy (g:TE):TS:=λD a H=>g a H D.rt
theorem V0 (g:PE X e j):PS X (.Return (some e) pos) (Sy j):=by
 intro a s b H D I h;exact wpAny_Return_some (hL (g a s b H _ I h) λv k ⟨x,c,d,i,f⟩=>⟨x,b,c,d,i,f⟩)
def Wj (c:TT) (t u:TS):TS:=λD a H=>c a H λb d=>if b=true then t D a d else u D a d
theorem Ix (l:PT X c o) (g:oM X a t) (j:oM X b u):PS X (.If c a b pos) (Wj o t u):=by
 intro e s i H D I h;refine wpAny_If (hL (l e s i H _ I h) λd q f=>?_);obtain⟨k,m,n⟩:=f;cases d with
 | true=>exact g e q i k D m n
 | false=>exact j e q i k D m n
def Xm:TS:=λ_ _ _=>False
theorem Uf:PS X st Xm:=λ_ _ _ _ _ _ h=>h.elim
end
abbrev TG:=V->St->Hp->(St->Hp->Prop)->Prop
abbrev vD:=Aa V->St->Hp->(St->Hp->Prop)->Prop
def PG (X:Cx) (target:Expr) (t:TG):Prop :=
 ∀ (a:Aa (Ad×Obj)) (s:Ae) (d:St) (H:Hp) (v:V) (u:Ac) (Q:St->Hp->Prop),Inv X a d H s->kD v u->t v d H Q ->
  wpAny (model X.prog X.w) X.A (assign target X.env u) (λ_ e=>∃ b c,Inv X a b c e/\Q b c) X.xe s
def sQ (X:Cx) (g:Aa Expr) (t:vD):Prop :=
 ∀ (a:Aa (Ad×Obj)) (s:Ae) (f:St) (H:Hp) (e:Aa V) (d:Aa Ac) (Q:St->Hp->Prop),Inv X a f H s->kF e d->t e f H Q ->
  wpAny (model X.prog X.w) X.A (assignInOrder ((assignEach g X.env).map (·.2)) d) (λ_ h=>∃ b c,Inv X a b c h/\Q b c) X.xe s
abbrev Es:=V->V->V->Hp->(Hp->Prop)->Prop
def D2 (X:Cx) (t:Es):Prop :=
 ∀ (a:Aa (Ad×Obj)) (s:Ae) (d:St) (H:Hp) (o i v:V) (c iv u:Ac) (Q:Hp->Prop),Inv X a d H s->kD o c->kD i iv->kD v u->t o i v H Q ->
  wpAny (model X.prog X.w) X.A (setItem c iv u) (λ_ e=>∃ b,Inv X a d b e/\Q b) X.xe s
abbrev Ck:=V->V->Hp->VK->Prop
def Cv (X:Cx) (op:Operator) (t:Ck):Prop :=
 ∀ (a:Aa (Ad×Obj)) (s:Ae) (b:St) (H:Hp) (x y:V) (v u:Ac) (Q:VK),Inv X a b H s->kD x v->kD y u->t x y H Q ->
  wpAny (model X.prog X.w) X.A (inplaceOp op v u) (EP X a b Q) X.xe s
section
variable {X:Cx}
def Cy (i:Nat):TG:=λv a H Q=>Q (a.set i (some v)) H
theorem Ku (g:X.N.Nodup) (l:X.N[i]?=some x) (o:rE X.env.scope x) (j:X.fn x=true\/X.env.scope.names.lookup x=some .local:=by first | exact .inl rfl | exact .inr rfl | assumption):PG X (.Name x pos) (Cy i):=by
 intro a s d H v u Q I r h;exact wpAny_assign_Name (Dw I g l o r (λc b=>⟨_,H,b,h⟩) j)
def Wo:vD:=λa b H Q=>a=[]/\Q b H
def W8 (t:TG) (u:vD):vD:=λc d H Q=>∃ v r,c=v::r/\t v d H λa b=>u r a b Q
theorem T5:sQ X [] Wo:=by
 intro a s b H d c Q I r h;obtain⟨e,h⟩:=h;subst e;cases r;exact assignInOrder_nil ⟨b,H,I,h⟩
theorem Mm (j:PG X e t) (l:sQ X g u)
  (o:(assignEach (e::g) X.env).map (·.2)=assign e X.env::(assignEach g X.env).map (·.2):=by rfl):sQ X (e::g) (W8 t u):=by
 intro a s q H y w Q I r h;obtain⟨v,x,i,h⟩:=h;subst i;cases r with
 | cons r m =>
  rw[o];refine assignInOrder_cons (hL (j a s q H _ _ _ I r h) λ_ n b=>?_);obtain⟨c,d,f,k⟩:=b;exact l a n c d _ _ Q f m k
def T1 (K:kC) (n:Nat) (t:vD):TG:=λv c H Q=>∃ a b,v = .ref a/\kO K H a b/\b.length=n/\t b c H Q
theorem Q3 (l:X.calm=true) (h:sQ X g t)
  (p:(assignEach g X.env).length=n:=by rfl) (j:(assignEach g X.env).findIdx? (·.1)=none:=by rfl):PG X (.Tuple g k pos) (T1 X.K n t):=by
 intro c s f H v u Q I r hw;obtain⟨a,B,m,x,w,hw⟩:=hw;subst m;cases r;obtain⟨A,d,y,D⟩:=I.tuple x;refine assign_Tuple_tuple (I.ok.hd l) y (by simp[p,<- w,d.length]) j λq z=>?_
 have i:Inv X c f H { s with heap:=q }:=I.kept (t':=s.toks) λb o e=>z b o (bH (aQ e)) e
 exact h c _ f H B _ Q i (by simpa using d) hw
def Mp (j g:TE) (t:Es):TG:=λv a H Q=>j a H λo b=>g a b λi c=>t o i v c λd=>Q a d
theorem Qz (p:PE X o T) (l:PE X i J) (C:D2 X t)
  (j:∀ v,assign (.Subscript o i pos) X.env v=(do
   let g <- holding [v] (eval o X.env);let iv <- holding [v,g] (eval i X.env)
   standAt pos
   holding [v,g,iv] (setItem g iv v)
   release [v,g,iv] []):=by intro _;rfl):PG X (.Subscript o i pos) (Mp T J t):=by
 intro b s c H v u Q I r h;rw[j];refine aA (bF (hL (p b s c H _ I h) λg D a=>?_));obtain⟨x,d,k,A,q⟩:=a;refine aA (bF (hL (l b D c d _ k q) λiv E a=>?_));obtain⟨y,e,m,B,w⟩:=a;refine aA (jW (aA (bF (hL (C b E c e x y v g iv u _ m A B r w) λ_ F a=>?_))));obtain⟨f,n,z⟩:=a;exact wpAny_release ⟨c,f,n,z⟩
def C0 (j:TE) (g:TG):TS:=λD a H=>j a H λx b=>g x a b D.nx
theorem Kl (o:PE X e C) (p:PG X j g) (r:swapsWithSole [j] e pos.line X.env=pure false:=by rfl) (hw:swappedStores [j] e X.env=pure none:=by rfl)
  (l:(assignEach [j] X.env).map (·.2)=[assign j X.env]:=by rfl):PS X (.Assign [j] e pos) (C0 C g):=by
 intro a s c H D I h;refine wpAny_Assign_stores (hL (o a s c H _ I h) λv m b=>?_) r hw;obtain⟨x,d,f,k,i⟩:=b;rw[l];exact hL (p a m c d x v _ f k i) λ_ n q=>q
theorem X0 (j:X.N.Nodup) (p:X.N[i]?=some x) (C:rE X.env.scope x) (l:PE X e J) (r:swapsWith e (some (.Name x g)) pos.line X.env=pure false:=by rfl) (o:X.fn x=true\/X.env.scope.names.lookup x=some .local:=by first | exact .inl rfl | exact .inr rfl | assumption) :
  PS X (.Assign [.Name x g] e pos) (C0 J (Cy i)):=by
 intro a s n H D I h;refine wpAny_Assign_Name (hL (l a s n H _ I h) λv q b=>?_) r;obtain⟨y,c,d,m,k⟩:=b;exact Dw d j p C m (λt f=>⟨_,c,f,k⟩) o
def Pw (i:Nat) (g:TE) (j:Ck):TS:=λD a H=>∃ x,a[i]?=some (some x)/\g a H λy b=>j x y b λz c=>D.nx (a.set i (some z)) c
theorem Ve (p:X.N.Nodup) (j:X.N[i]?=some x) (g:rE X.env.scope x) (C:PE X e U) (T:Cv X op ti) (J:X.fn x=true\/X.env.scope.names.lookup x=some .local:=by first | exact .inl rfl | exact .inr rfl | assumption) :
  PS X (.AugAssign (.Name x o) op e pos) (Pw i U ti):=by
 intro a s B H D I h;obtain⟨v,M,h⟩:=h;obtain⟨m,R,P⟩:=I.loc;have t:zP X.env.scope x:=by rcases g with k | k;exact .inl k;exact .inr (.inl k)
 obtain⟨u,r,l⟩:=P i x v j M t;refine wpAny_AugAssign_Name ?_;have go:wpAny (model X.prog X.w) X.A (eval e X.env) (λw n=>wpAny (model X.prog X.w) X.A (inplaceOp op u w) (λr q=>wpAny (model X.prog X.w) X.A (storeName X.env x r) (λ_=>SP X a D .next) X.xe q) X.xe n) X.xe s:=by
  refine hL (C a s B H _ I h) λw Z f=>?_
  obtain⟨y,E,G,W,S⟩:=f;refine hL (T a Z B E v y u w _ G r W S) λz s2 f=>?_
  obtain⟨zv,F,K,Y,V⟩:=f;exact Dw K p j g Y (λs3 L=>⟨_,F,L,V⟩) J
 rcases l with⟨b,Q⟩ | ⟨b,c,O,d⟩
 .exact wpAny_loadName_local I.ok.kind b R Q go
 .rcases b with b | b
  .exact wpAny_loadName_cell I.ok.kind b O d go
  .rcases g with k | k
   .have:X.env.scope.names.lookup x=some .free:=b;rw[k] at this;cases this
   .have:X.env.scope.names.lookup x=some .free:=b;rw[k] at this;cases this
def Jz (f:Int->Int->Int):Ck:=λx y H Q=>∃ i j,x = .int i/\y = .int j/\Q (.int (f i j)) H
theorem Nd:Cv X .Add (Jz λi j=>i+j):=by
 intro a s k H x y v u Q I d e h;obtain⟨i,j,b,c,q⟩:=h;subst b;subst c;obtain⟨t,rfl⟩:=d;obtain⟨f,rfl⟩:=e;exact iadd_int ⟨.int _,H,I.tok _,⟨_,rfl⟩,q⟩
end
section
variable {X:Cx}
def Yw (c:TT) (g:TS):TS:=λD a H=>∃ W:Nat->St->Hp->Prop,(∃ m,W m a H)/\∀ m a H,W m a H ->
 c a H λb f=>if b=true then ∃ N:St->Hp->Prop,(∀ d e,N d e->∃ h,h<m/\W h d e)/\g { D with nx:=N,ct:=N,bk:=D.nx } a f else D.nx a f
theorem Q6 (g:PassesOwn (model X.prog X.w) X.A X.env X.xe) (l:PT X c p) (j:oM X body o):PS X (.While c body [] pos) (Yw p o):=by
 intro a s V H D I h;obtain⟨W,⟨O,S⟩,k⟩:=h;refine wpAny_While (codeAny_whileLoop (λn P=>∃ m E,Inv X a m E P/\W n m E) ?_ O ⟨V,H,I,S⟩);rintro n Q ⟨e,F,M,w1⟩;refine eY g (hL (l a Q e F _ M (k n e F w1)) λb R y=>?_);obtain⟨G,K,q⟩:=y;cases b with
 | true =>
  obtain⟨N,L,q⟩:=q;rw[aH rfl];refine eY g (hL (j a R e G _ K q) λf Y t=>?_);cases f with
  | next =>
   obtain⟨d,i,u,B⟩:=t;obtain⟨z,x,w3⟩:=L d i B;exact⟨z,x,d,i,u,w3⟩
  | cont =>
   obtain⟨d,i,u,B⟩:=t;obtain⟨z,x,w3⟩:=L d i B;exact⟨z,x,d,i,u,w3⟩
  | brk=>exact t
  | ret v=>exact t
 | false =>
  rw[aE aR];exact jF ⟨e,G,K,q⟩
end
structure It where
 go:Nat->Hp->Prop
 yld:Nat->Hp->V->Hp->Prop
 stop:Nat->Hp->Prop
def pG (X:Cx) (g:Aa (Ad×Obj)) (H:Hp) (b:Ad):Prop :=
 H b=none/\b≠X.env.locals/\b∉X.fs/\(b∈X.ex\/X.s₀.heap.objs.size<=b)/\(∀ x c,X.env.cells.lookup x=some c->c≠b)/\∀ p∈X.pn++g,p.1≠b
theorem Inv.fpOk {X:Cx}(I:Inv X j r H s) (g:s.heap.objs.size<=b) (o:l b=none):pG X j l b:=by
 refine⟨o,Nat.ne_of_gt (aY I.lt g),I.nofs g,.inr (bS I.sz g),λx c e z=>?_,λp a z=>?_⟩
 .obtain⟨v,q⟩:=I.cell x c e;exact absurd (aY q.lt (by rw[z];exact g)) (eQ _)
 .exact absurd (aY (aQ (I.pin p a).1) (by rw[z];exact g)) (eQ _)
structure Turn (P:Program) (w:World) (K:kC) (tg:Expr) (J:It) (fp:List Addr) (it:Addr) (tn:Nat->Heap->Prop):Prop where
 mem:it∈fp
 obj:∀ i h,tn i h->∀ b∈fp,∃ o,h.get? b=some o/\∀ v,o.data ≠ .cell v
 keep:∀ i h h',tn i h->(∀ b∈fp,∀ o,h.get? b=some o->h'.get? b=some o)->tn i h'
 item:∀ (X:Cx),X.prog=P->X.w=w->X.K=K->X.calm=true->∀ (i:Nat) (pins:List (Addr×Obj)) (s:Shared) (σ:St) (H:Hp) (E:Value->Shared->Prop),Inv X pins σ H s->(∀ b∈fp,pG X pins H b)->tn i s.heap->J.go i H ->
  wpAny (model P w) X.A (pyNext (.ref it)) (λr s1=>∃ u,r=some u /\ wpAny (model P w) X.A (letOwnedTupleGo tg (.ref it) u) (λ_ s2=>∃ x H',Inv X pins σ H' s2/\kD x u/\J.yld i H x H'/\tn (i+1) s2.heap/\∀ b∈fp,H' b=none) E s1) E s
 done:∀ (X:Cx),X.prog=P->X.w=w->X.K=K->X.calm=true->∀ (i:Nat) (pins:List (Addr×Obj)) (s:Shared) (σ:St) (H:Hp) (E:Value->Shared->Prop),Inv X pins σ H s->(∀ b∈fp,pG X pins H b)->tn i s.heap->J.stop i H ->
  wpAny (model P w) X.A (pyNext (.ref it)) (λr s1=>r=none/\Inv X pins σ H s1) E s
 self:∀ (A:Around) (i:Nat) (s:Shared) (Q:Value->Shared->Prop) (E:Value->Shared->Prop),tn i s.heap->Q (.ref it) s->wpAny (model P w) A (pyIter (.ref it)) Q E s
abbrev TI:=St->Hp->(It->Hp->Prop)->Prop
def Ju (X:Cx) (g:Aa (Ad×Obj)) (p:St) (o:Expr) (R:It->Hp->Prop) (j:Ac) (l:Ae):Prop :=
 ∃ (d:Ad) (c:Aa Ad) (e:Nat->Ag->Prop) (J:It) (a:Hp),j = .ref d/\Inv X g p a l/\Turn X.prog X.w X.K o J c d e/\e 0 l.heap/\(∀ b∈c,pG X g a b)/\R J a
def PI (X:Cx) (g iter:Expr) (j:TI):Prop :=
 ∀ (a:Aa (Ad×Obj)) (s:Ae) (b:St) (H:Hp) (R:It->Hp->Prop),Inv X a b H s->j b H R ->
  wpAny (model X.prog X.w) X.A (eval iter X.env) (λv c=>wpAny (model X.prog X.w) X.A (pyIter v) (Ju X a b g R) X.xe c) X.xe s
theorem xI (p:s.heap.get? r=some o) (j:o.cls = .type n) (hd:o.data = .fields I)
  (l:["enumerate","zip","dict_itemiterator","dict_reverseitemiterator","odict_iterator","itertools.zip_longest","itertools.pairwise"].contains n=false) (g:Q () s):wpAny M A (letOwnedTupleGo C (.ref r) u) Q E s:=by
 unfold letOwnedTupleGo;cases C<;>first
  | exact aB g
  | (cases u<;>first
    | exact aB g
    | (refine aA (wpAny_load p ?_);rw[j,hd];show wpAny M A (if (["enumerate","zip","dict_itemiterator","dict_reverseitemiterator","odict_iterator","itertools.zip_longest","itertools.pairwise"].contains n&&I[0]? == some (rawInt _))=true then _ else _) Q E s;rw[aE (by intro h;rw[l,Bool.false_and] at h;cases h)];exact aB g))
def tZ (K:kC) (a:Ad):It :=
 ⟨λi H=>∃ b x,kK K H a b/\b[i]?=some x,λi H x c=>c=H/\∀ b,kK K H a b->b[i]?=some x,λi H=>∃ b,kK K H a b/\b.length<=i⟩
def wH (K:kC) (a:Ad):It :=
 ⟨λi H=>∃ b x,kO K H a b/\b[i]?=some x,λi H x c=>c=H/\∀ b,kO K H a b->b[i]?=some x,λi H=>∃ b,kO K H a b/\b.length<=i⟩
def vM (lo:Int) (n:Nat):It:=⟨λi _=>i<n,λi H x a=>a=H/\x = .int (lo+i),λi _=>n<=i⟩
theorem V9 {P:Ah}{K:kC}(a g:Ad):Turn P w K T (tZ K a) [g] g (λi h=>h.IsListIter g a i) where
 mem:=by simp
 obj:=λi h st b m=>by
  have e:b=g:=by simpa using m
  subst e;obtain⟨o,e,c,d⟩:=st;exact⟨o,e,λv z=>by rw[d] at z;cases z⟩
 keep:=λi h q st k=>st.at λo e=>k g (by simp) o e
 item:=by
  intro X L hw G R i f s S H E I t st M;subst L hw G;obtain⟨C,x,y,N⟩:=M;obtain⟨O,Q,p,j⟩:=I.list y;obtain⟨u,Y,l⟩:=Q.get N;obtain⟨A,f1,f2,B,D,F⟩:=t g (by simp);refine wpAny_pyNext_list_item st p.isList (x:=u) (by simpa using Y) λq n r=>?_
  have V:Inv X f S H { s with heap:=q }:=I.turned (t':=s.toks) (λb o m e=>(r.2 b m).trans e) A f1 B D F;obtain⟨o,e,c,d⟩:=id n;exact⟨u,rfl,xI (s:={ s with heap:=q }) e c d (by decide) ⟨x,H,V,l,⟨rfl,λU Z=>by rw[I.list_inj Z y];exact N⟩,n,λb m=>(t b m).1⟩⟩
 done:=by
  intro X L hw G R i f s S H E I t st M;subst L hw G;obtain⟨C,y,N⟩:=M;obtain⟨O,Q,p,j⟩:=I.list y;obtain⟨A,f1,f2,B,D,F⟩:=t g (by simp);have J:=Q.length;exact wpAny_pyNext_list_end (I.ok.hd R) st p.isList (by simp;omega) λq W=>⟨rfl,I.turned (t':=s.toks) (λb o m e=>W b o m e) A f1 B D F⟩
 self:=λ_ _ _ _ _ st h=>wpAny_pyIter_listiter st h
theorem Xu {P:Ah}{K:kC}(a g:Ad):Turn P w K T (wH K a) [g] g (λi h=>h.IsTupleIter g a i) where
 mem:=by simp
 obj:=λi h st b m=>by
  have e:b=g:=by simpa using m
  subst e;obtain⟨o,e,c,d⟩:=st;exact⟨o,e,λv z=>by rw[d] at z;cases z⟩
 keep:=λi h t st k=>st.at λo e=>k g (by simp) o e
 item:=by
  intro X M hw L R i f s S H E I y st N;subst M hw L;obtain⟨C,x,A,O⟩:=N;obtain⟨n,Q,p,j⟩:=I.tuple A;obtain⟨u,Y,l⟩:=Q.get O;obtain⟨B,f1,f2,D,F,G⟩:=y g (by simp);refine wpAny_pyNext_tuple_item st (show s.heap.IsTuple a n.toArray from p) (x:=u) (by simpa using Y) λt q r=>?_
  have V:Inv X f S H { s with heap:=t }:=I.turned (t':=s.toks) (λb o m e=>(r.2 b m).trans e) B f1 D F G;obtain⟨o,e,c,d⟩:=id q;exact⟨u,rfl,xI (s:={ s with heap:=t }) e c d (by decide) ⟨x,H,V,l,⟨rfl,λU Z=>by rw[I.tuple_inj Z A];exact O⟩,q,λb m=>(y b m).1⟩⟩
 done:=by
  intro X M hw L R i f s S H E I y st N;subst M hw L;obtain⟨C,A,O⟩:=N;obtain⟨n,Q,p,j⟩:=I.tuple A;obtain⟨B,f1,f2,D,F,G⟩:=y g (by simp);have J:=Q.length;exact wpAny_pyNext_tuple_end (I.ok.hd R) st (show s.heap.IsTuple a n.toArray from p) (by simp;omega) λt W=>⟨rfl,I.turned (t':=s.toks) (λb o m e=>W b o m e) B f1 D F G⟩
 self:=λ_ _ _ _ _ st h=>wpAny_pyIter_tupleiter st h
theorem P7 {P:Ah}{K:kC}(g:Ad) (lo:Int) (n:Nat):Turn P w K j (vM lo n) [g] g (λi h=>IsRangeIter h g (lo+(i:Nat)*1) ((n:Int)-(i:Nat)) 1) where
 mem:=by simp
 obj:=λi h st b c=>by
  have e:b=g:=by simpa using c
  subst e;exact⟨_,st,λv z=>by
   have R:Data.fields _=Data.cell v:=z;cases R⟩
 keep:=λi h f st k=>k g (by simp) _ st
 item:=by
  intro X B hw A D i a s L H E I m st F;subst B hw A;obtain⟨q,f1,f2,u,x,y⟩:=m g (by simp);have W:=Walks.range (prog:=X.prog) (w:=X.w) (I.ok.hd D) g lo 1 n;refine W.item i s _ _ F st λv f G O d Q=>?_
  obtain⟨t,rfl⟩:=O;have M:Inv X a L H { s with heap:=f,toks:=G }:=I.turned (λb o c e=>Q b o (by simpa using c) e) q f1 u x y;refine⟨_,rfl,xI (s:={ s with heap:=f,toks:=G }) (n := "range_iterator") d rfl rfl (by decide) ⟨.int (lo+i),H,M,⟨t,?_⟩,⟨rfl,rfl⟩,d,λb c=>(m b c).1⟩⟩;rw[gB]
 done:=by
  intro X B hw A D i a s L H E I m st F;subst B hw A;obtain⟨q,f1,f2,u,x,y⟩:=m g (by simp);exact wpAny_pyNext_range_end (I.ok.hd D) st (by have:n<=i:=F;omega) λf N=>⟨rfl,I.turned (t':=s.toks) (λb o c e=>N b o c e) q f1 u x y⟩
 self:=λ_ _ _ _ _ st h=>wpAny_pyIter_rangeiter st h
section
variable {X:Cx}
theorem Nt {R:It->Hp->Prop}{lo:Int}(I:Inv X j p H s) (r:-(2 ^ 62)<=lo) (C:lo<2 ^ 62) (J:-(2 ^ 62)<=g) (T:g<2 ^ 62)
  (q:R (vM lo (g-lo).toNat) H):wpAny (model X.prog X.w) X.A (pyIter (.ref s.heap.objs.size)) (Ju X j p U R) E { s with heap:=s.heap.push { cls:=.type "range",data:=.fields #[.int lo t,.int g u,.int 1 v] },toks:=l }:=by
 refine wpAny_pyIter_range (IsRange.new ..) (small_one r C J T) ?_;have a:Inv X j p H { s with heap:=s.heap.push { cls:=.type "range",data:=.fields #[.int lo t,.int g u,.int 1 v] },toks:=l }:=I.kept λb o e=>aF _ e
 refine⟨(s.heap.push { cls:=.type "range",data:=.fields #[.int lo t,.int g u,.int 1 v] }).objs.size,[(s.heap.push { cls:=.type "range",data:=.fields #[.int lo t,.int g u,.int 1 v] }).objs.size],_,_,H,rfl,
  a.kept (t':=l) λb o e=>aF _ e,P7 _ lo (g-lo).toNat,?_,λb f=>?_,q⟩
 .have c:lo+((0:Nat):Int)*1=lo:=by simp
  have d:(((g-lo).toNat:Nat):Int)-((0:Nat):Int)=Builtin.Range.rangeSize lo g 1:=by rw[rangeSize_one];split<;>omega
  show IsRangeIter _ _ (lo+((0:Nat):Int)*1) ((((g-lo).toNat:Nat):Int)-((0:Nat):Int)) 1;rw[c,d];exact aU _ rfl
 .have e:b=(s.heap.push { cls:=.type "range",data:=.fields #[.int lo t,.int g u,.int 1 v] }).objs.size:=by simpa using f
  subst e;exact a.fpOk (aP _) (a.hok.fresh (aP _))
def Yj (g:TA):TI:=λc H R=>g c H λb a=>∃ j:Int,b=[.int j]/\-(2 ^ 62)<=j/\j<2 ^ 62/\R (vM 0 j.toNat) a
theorem N0 (l:Gl X "range") (o:X.mg "range" = none) (g:PA X [a] J) (C:starEach [a] X.env=[(false,eval a X.env)]:=by rfl):PI X T (.Call (.Name "range" p) [a] [] pos) (Yj J):=by
 intro b s n H R I h;refine Call_ (uX I l o boot_range (dP (hL (g pos b s n H _ I h) λw v c=>?_) C rfl));obtain⟨x,u,f,k,d⟩:=c;obtain⟨j,e,d,i,q⟩:=d;subst e;cases k with
 | cons r m =>
  cases m;obtain⟨t,rfl⟩:=r;exact call_range_1 (Nt f (by omega) (by omega) d i (by simpa using q))
def Uu (l:TI) (g:TG) (j:TS):TS:=λD a H=>l a H λJ f=>∃ W:Nat->Nat->St->Hp->Prop,(∃ m,W 0 m a f)/\∀ i m a H,W i m a H ->
 (J.stop i H/\D.nx a H)\/(J.go i H/\∃ N:St->Hp->Prop,(∀ c b,N c b->∃ e,e<m/\W (i+1) e c b)/\∀ x b,J.yld i H x b->g x a b λd h=>j { D with nx:=N,ct:=N,bk:=D.nx } d h)
def xA (g:Aa Ad) (h:Ag):Aa (Ad×Obj):=g.filterMap λb=>(h.get? b).map λo=>(b,o)
theorem zO (j:b∈g) (e:h.get? b=some o):(b,o)∈xA g h:=hZ.mpr ⟨b,j,by rw[e];rfl⟩
theorem Pg (j:p∈xA g h):p.1∈g/\h.get? p.1=some p.2:=by
 obtain⟨b,c,e⟩:=hZ.mp j;cases q:h.get? b with
 | none=>rw[q] at e;cases e
 | some o =>
  rw[q] at e;have a:(b,o)=p:=bO e;subst a;exact⟨c,q⟩
theorem Inv.pinned (I:Inv X g C H s) (l:∀ b∈j,pG X g H b) (r:∀ b∈j,∃ o,s.heap.get? b=some o/\∀ v,o.data ≠ .cell v):Inv X (g++xA j s.heap) C H s :=
 I.pins_of λp h=>(aZ.mp h).elim (λz=>I.pin p (aN _ z)) λz=>by
  obtain⟨c,e⟩:=Pg z;obtain⟨f,f1,f2,_⟩:=l p.1 c;obtain⟨o,a,d⟩:=r p.1 c;rw[e] at a;cases a;exact⟨e,f,f1,f2,d⟩
theorem Inv.unpinned (I:Inv X (g++l) j H s):Inv X g j H s:=I.pins_of λp a=>I.pin p (aN _ (bM _ a))
theorem D8 {iter:Expr}(l:PassesOwn (model X.prog X.w) X.A X.env X.xe) (hc:X.calm=true) (hi:PI X tg iter wi) (hg:PG X tg g) (j:oM X body tb)
  (hs:∀ x,foldedSetIterable iter X.env x=pure x:=by intro _;rfl):PS X (.For tg iter body [] pos) (Uu wi g tb):=by
 intro a s σ H D I h;refine wpAny_For (hL (hi a s σ H _ I h) λv s1 h1=>hL h1 λaa s2 h2=>?_) hs;obtain⟨it,K,tn,J,H2,e,I2,T,Z,f2,W,⟨m0,w0⟩,P⟩:=h2;subst e;have y:∀ {E:Hp},(∀ b∈K,E b=none)->∀ b∈K,pG X a E b:=λhn b j=>⟨hn b j,(f2 b j).2⟩
 refine codeAny_forLoop_any (λn s'=>∃ i z E,Inv X a z E s'/\tn i s'.heap/\(∀ b∈K,E b=none)/\W i n z E) ?_ m0 ⟨0,σ,H2,I2,Z,λb j=>(f2 b j).1,w0⟩;rintro n s3 ⟨i,B,Q,U,O,L,w3⟩;rcases P i n B Q w3 with⟨stop,qn⟩ | ⟨go,N,hN,step⟩
 .refine eY l (hL (T.done X rfl rfl rfl hc i a s3 B Q X.xe U (y L) O stop) λr s4 k=>?_);obtain⟨V,I4⟩:=k;subst V;exact jF ⟨B,Q,I4,qn⟩
 .refine eY l (hL (T.item X rfl rfl rfl hc i a s3 B Q X.xe U (y L) O go) λr s4 k=>?_);obtain⟨u,V,h4⟩:=k;subst V;refine eY l (hL h4 λ_ s5 k=>?_);obtain⟨x,C,I5,r5,y5,G,S⟩:=k;have R:=I5.pinned (y S) (T.obj _ _ G);refine eY l (hL (hg _ s5 B C x u _ R r5 (step x C y5)) λ_ s6 k=>?_);obtain⟨p,H6,I6,q6⟩:=k;refine eY l (hL (j _ s6 p H6 _ I6 q6) λf Y F=>?_);have again:∀ {c:St} {q:Hp},Inv X (a++xA K s5.heap) c q Y->N c q->∃ m,m<n/\∃ i z E,Inv X a z E Y/\tn i Y.heap/\(∀ b∈K,E b=none)/\W i m z E:=λ{c q} t M=>by
   obtain⟨m',hm,w7⟩:=hN c q M;refine⟨m',hm,i+1,c,q,t.unpinned,T.keep _ _ _ G λb j o e=>(t.pin (b,o) (aN _ (aN _ (zO j e)))).1,λb j=>?_,w7⟩;obtain⟨o,e,d⟩:=T.obj _ _ G b j;exact (t.pin (b,o) (aN _ (aN _ (zO j e)))).2.1
  cases f with
  | next=>obtain⟨c,q,t,M⟩:=F;exact again t M
  | cont=>obtain⟨c,q,t,M⟩:=F;exact again t M
  | brk=>obtain⟨c,q,t,F⟩:=F;exact⟨c,q,t.unpinned,F⟩
  | ret v=>obtain⟨x7,c,q,t,r7,F⟩:=F;exact⟨x7,c,q,t.unpinned,r7,F⟩
end
theorem Rl {K:kC}{a:Ad}{xs:Aa V}{g:TG}{J:TS}{D:Ends}{j:St}{H:Hp}(Pv:Nat->St->Hp->Prop) (T:Pv 0 j H) (U:∀ i j H,i<=xs.length->Pv i j H->kK K H a xs)
  (hs:∀ i x j H,xs[i]?=some x->Pv i j H->g x j H λr C=>J { D with nx:=Pv (i+1),ct:=Pv (i+1),bk:=D.nx } r C) (hd:∀ j H,Pv xs.length j H->D.nx j H) :
  ∃ W:Nat->Nat->St->Hp->Prop,(∃ m,W 0 m j H)/\∀ i m j H,W i m j H ->
   ((tZ K a).stop i H/\D.nx j H)\/((tZ K a).go i H/\∃ N:St->Hp->Prop,(∀ o l,N o l->∃ I,I<m/\W (i+1) I o l)/\∀ x l,(tZ K a).yld i H x l->g x j l λr C=>J { D with nx:=N,ct:=N,bk:=D.nx } r C):=by
 refine⟨λi m j H=>m=xs.length-i/\i<=xs.length/\Pv i j H,⟨xs.length,by simp,dN _,T⟩,?_⟩;rintro i m j H ⟨rfl,c,p⟩;have q:=U i j H c p;by_cases b:i<xs.length
 .refine .inr ⟨⟨xs,xs[i],q,by simp[b]⟩,Pv (i+1),λo l d=>⟨xs.length-(i+1),by omega,rfl,b,d⟩,λx l y=>?_⟩;obtain⟨e,y⟩:=y;subst e;exact hs i x j _ (y xs q) p
 .have e:i=xs.length:=by omega
  subst e;exact .inl ⟨⟨xs,q,aP _⟩,hd j H p⟩
theorem Rf {K:kC}{a:Ad}{xs:Aa V}{g:TG}{J:TS}{D:Ends}{j:St}{H:Hp}(Pv:Nat->St->Hp->Prop) (T:Pv 0 j H) (U:∀ i j H,i<=xs.length->Pv i j H->kO K H a xs)
  (hs:∀ i x j H,xs[i]?=some x->Pv i j H->g x j H λr C=>J { D with nx:=Pv (i+1),ct:=Pv (i+1),bk:=D.nx } r C) (hd:∀ j H,Pv xs.length j H->D.nx j H) :
  ∃ W:Nat->Nat->St->Hp->Prop,(∃ m,W 0 m j H)/\∀ i m j H,W i m j H ->
   ((wH K a).stop i H/\D.nx j H)\/((wH K a).go i H/\∃ N:St->Hp->Prop,(∀ o l,N o l->∃ I,I<m/\W (i+1) I o l)/\∀ x l,(wH K a).yld i H x l->g x j l λr C=>J { D with nx:=N,ct:=N,bk:=D.nx } r C):=by
 refine⟨λi m j H=>m=xs.length-i/\i<=xs.length/\Pv i j H,⟨xs.length,by simp,dN _,T⟩,?_⟩;rintro i m j H ⟨rfl,c,p⟩;have q:=U i j H c p;by_cases b:i<xs.length
 .refine .inr ⟨⟨xs,xs[i],q,by simp[b]⟩,Pv (i+1),λo l d=>⟨xs.length-(i+1),by omega,rfl,b,d⟩,λx l y=>?_⟩;obtain⟨e,y⟩:=y;subst e;exact hs i x j _ (y xs q) p
 .have e:i=xs.length:=by omega
  subst e;exact .inl ⟨⟨xs,q,aP _⟩,hd j H p⟩
abbrev R2:=V->V->Hp->VK->Prop
def kP (X:Cx) (f:Ac->Ac->Sem Ac) (r:R2):Prop :=
 ∀ (a:Aa (Ad×Obj)) (s:Ae) (b:St) (H:Hp) (x y:V) (v u:Ac) (Q:VK),Inv X a b H s->kD x v->kD y u->r x y H Q ->
  wpAny (model X.prog X.w) X.A (f v u) (EP X a b Q) X.xe s
def Di (X:Cx) (f:Ac->Sem Ac) (r:V->Hp->VK->Prop):Prop :=
 ∀ (a:Aa (Ad×Obj)) (s:Ae) (b:St) (H:Hp) (x:V) (v:Ac) (Q:VK),Inv X a b H s->kD x v->r x H Q ->
  wpAny (model X.prog X.w) X.A (f v) (EP X a b Q) X.xe s
def lS (X:Cx) (f:Ac) (r:Aa V->Hp->VK->Prop):Prop :=
 ∀ (a:Aa (Ad×Obj)) (s:Ae) (d:St) (H:Hp) (c:Aa V) (b:Aa Ac) (Q:VK),Inv X a d H s->kF c b->r c H Q ->
  wpAny (model X.prog X.w) X.A (call f b) (EP X a d Q) X.xe s
def Sg (X:Cx) (r:V->Hp->(Bool->Hp->Prop)->Prop):Prop :=
 ∀ (a:Aa (Ad×Obj)) (s:Ae) (b:St) (H:Hp) (x:V) (v:Ac) (Q:Bool->Hp->Prop),Inv X a b H s->kD x v->r x H Q ->
  wpAny (model X.prog X.w) X.A (truthy v) (TP X a b Q) X.xe s
def Bl (r:R2) (g j:TE):TE:=λa H Q=>g a H λx b=>j a b λy c=>r x y c Q
def X8 (r:V->Hp->VK->Prop) (g:TE):TE:=λb H Q=>g b H λx a=>r x a Q
def rI (C:Int->Int->Prop) (g:Int->Int->V):R2:=λx y H Q=>∃ i j,x = .int i/\y = .int j/\C i j/\Q (g i j) H
def pO (g:Int->Int->V):R2:=λx y H Q=>∃ i j,x = .int i/\y = .int j/\Q (g i j) H
def rU (g:Int->V):V->Hp->VK->Prop:=λx H Q=>∃ i,x = .int i/\Q (g i) H
section
variable {X:Cx}
theorem Dl (J:PE X a ta) (T:PE X b tb){g:Aa (Ad×Obj)}{s:Ae}{l:St}{H:Hp}{R:V->V->Hp->Prop}(I:Inv X g l H s)
  (h:ta l H λx C=>tb l C λy j=>R x y j){Q:Ac->Ae->Prop}{f:Ac->Ac->Sem Ac}
  (U:∀ v u r x y j,Inv X g l j r->kD x v->kD y u->R x y j->wpAny (model X.prog X.w) X.A (f v u) Q X.xe r) :
  wpAny (model X.prog X.w) X.A (eval a X.env) (λv o=>wpAny (model X.prog X.w) X.A (eval b X.env) (λu p=>wpAny (model X.prog X.w) X.A (f v u) Q X.xe p) X.xe o) X.xe s:=by
 refine hL (J g s l H _ I h) λv q c=>?_
 obtain⟨x,C,d,m,i⟩:=c;refine hL (T g q l C _ d i) λu r c=>?_
 obtain⟨y,j,e,n,k⟩:=c;exact U v u r x y j e m n k
theorem Hm (l:kP X (binaryOp op) r) (g:PE X a o) (j:PE X b p):PE X (.BinOp a op b pos) (Bl r o p):=by
 intro c s m H Q I h;exact wpAny_BinOp (Dl g j I h λv u k x y d e f i q=>l c k m d x y v u Q e f i q)
theorem Wt (j:Di X (unaryOp op) r) (g:PE X a l):PE X (.UnaryOp op a pos) (X8 r l):=by
 intro b s c H Q I h;exact UnaryOp_ (hL (g b s c H _ I h) λv k ⟨x,d,e,i,f⟩=>j b k c d x v Q e i f)
theorem wU {f:Ac->Ac->Sem Ac}{C:Int->Int->Prop}{g:Int->Int->Int}
  (rule:∀ (i j:Int) (t u:Tok) (s:Ae) (Q:Ac->Ae->Prop) (E:Ac->Ae->Prop),C i j->Q (.int (g i j) s.toks) { s with toks:=s.toks+1 }->wpAny (model X.prog X.w) X.A (f (.int i t) (.int j u)) Q E s) :
  kP X f (rI C λi j=>.int (g i j)):=by
 intro a s k H x y v u Q I c d h;obtain⟨i,j,rfl,rfl,b,q⟩:=h;obtain⟨t,rfl⟩:=c;obtain⟨e,rfl⟩:=d;exact rule i j t e s _ _ b ⟨.int (g i j),H,I.tok _,⟨_,rfl⟩,q⟩
theorem Lr {f:Ac->Ac->Sem Ac}{g:Int->Int->Int}
  (rule:∀ (i j:Int) (t u:Tok) (s:Ae) (Q:Ac->Ae->Prop) (E:Ac->Ae->Prop),Q (.int (g i j) s.toks) { s with toks:=s.toks+1 }->wpAny (model X.prog X.w) X.A (f (.int i t) (.int j u)) Q E s) :
  kP X f (pO λi j=>.int (g i j)):=by
 intro a s e H x y v u Q I b c h;obtain⟨i,j,rfl,rfl,q⟩:=h;obtain⟨t,rfl⟩:=b;obtain⟨d,rfl⟩:=c;exact rule i j t d s _ _ ⟨.int (g i j),H,I.tok _,⟨_,rfl⟩,q⟩
theorem zS {f:Ac->Ac->Sem Ac}{g:Int->Int->Bool}
  (rule:∀ (i j:Int) (t u:Tok) (s:Ae) (Q:Ac->Ae->Prop) (E:Ac->Ae->Prop),Q (.bool (g i j)) s->wpAny (model X.prog X.w) X.A (f (.int i t) (.int j u)) Q E s) :
  kP X f (pO λi j=>.b (g i j)):=by
 intro a s k H x y v u Q I c d h;obtain⟨i,j,rfl,rfl,q⟩:=h;obtain⟨t,rfl⟩:=c;obtain⟨e,rfl⟩:=d;exact rule i j t e s _ _ ⟨.b (g i j),H,I,rfl,q⟩
def Bc (i j:Int):Prop:=0<=j/\j<=1000000/\i.natAbs<2 ^ 64
def Ay (i j:Int):Prop:=(-(2 ^ 64)<i/\i<2 ^ 64)\/(-(2 ^ 64)<j/\j<2 ^ 64)
theorem Ay.ok (h:Ay i j):IntMulOk i j:=by
 rcases h with⟨a,b⟩ | ⟨a,b⟩
 .exact .of_left (intBits_le_64 a b)
 .exact .of_right (intBits_le_64 a b)
theorem U0:kP X (binaryOp .Add) (pO λi j=>.int (i+j)):=Lr λ_ _ _ _ _ _ _ q=>add_int q
theorem rX:kP X (binaryOp .Sub) (pO λi j=>.int (i-j)):=Lr λ_ _ _ _ _ _ _ q=>sub_int q
theorem Yr:kP X (binaryOp .Mult) (rI Ay λi j=>.int (i*j)):=wU λ_ _ _ _ _ _ _ a q=>mul_int q a.ok
theorem lV:kP X (binaryOp .Mod) (rI (λ_ j=>0<j) λi j=>.int (i%j)):=wU λi j _ _ _ _ _ a q=>by
 have b:(0:Int)<j:=a;exact mod_int' (by omega) (by rw[Int.fmod_eq_emod_of_nonneg i (by omega)];exact q)
theorem Ww:kP X (binaryOp .Pow) (rI Bc λi j=>.int (i ^ j.toNat)):=wU λ_ _ _ _ _ _ _ a q=>pow_int_small a.1 a.2.1 a.2.2 q
theorem wX:kP X (binaryOp .LShift) (rI Bc λi j=>.int (i*2 ^ j.toNat)):=wU λ_ _ _ _ _ _ _ a q=>lshift_int_small a.1 a.2.1 a.2.2 q
theorem Tz {f:Ac->Sem Ac}{g:Int->Int}
  (rule:∀ (i:Int) (t:Tok) (s:Ae) (Q:Ac->Ae->Prop) (E:Ac->Ae->Prop),Q (.int (g i) s.toks) { s with toks:=s.toks+1 }->wpAny (model X.prog X.w) X.A (f (.int i t)) Q E s) :
  Di X f (rU λi=>.int (g i)):=by
 intro a s c H x v Q I b h;obtain⟨i,rfl,q⟩:=h;obtain⟨t,rfl⟩:=b;exact rule i t s _ _ ⟨.int (g i),H,I.tok _,⟨_,rfl⟩,q⟩
theorem Wl:Di X (unaryOp .USub) (rU λi=>.int (-i)):=Tz λ_ _ _ _ _ q=>neg_int q
end
noncomputable def C8:V->V->Bool
 | .e,.e=>true | .e,.int _=>true | .int _,.e=>true | .e,.b _=>true | .b _,.e=>true | .e,.str _=>true | .str _,.e=>true
 | .int _,.int _=>true | .b _,.b _=>true | .str _,.str _=>true | .byt _,.byt _=>true
 | .int _,.str _=>true | .str _,.int _=>true | .b _,.str _=>true | .str _,.b _=>true
 | _,_=>false
def N3:R2:=λx y H Q=>C8 x y=true/\Q (.b (decide (x=y))) H
def Ro:R2:=λx y H Q=>C8 x y=true/\Q (.b (!decide (x=y))) H
theorem Ke:decide (V.int i=V.int j)=(i == j):=by
 rw[jG];simp
theorem Hh:decide (V.b i=V.b j)=(i == j):=by
 rw[jG];simp
theorem Jh:decide (V.str i=V.str j)=(i == j):=by
 rw[jG];simp
theorem J6:decide (V.byt i=V.byt j)=(i.toList == j.toList):=by
 rw[jG];cases i;cases j;simp
section
variable {X:Cx}
theorem lR (I:Inv X g l H s) (q:Q (.b k) H) (e:k=j):EP X g l Q (.bool j) s:=by
 subst e;exact⟨.b k,H,I,rfl,q⟩
theorem S0:kP X (compareOp .Eq) N3:=by
 intro k s m H x y v u Q I f a h;obtain⟨d,q⟩:=h;cases x with
 | e =>
  cases f;cases y with
  | e=>cases a;exact PySem.EqNone.eq_none_none (lR I q (by simp))
  | b j=>cases a;exact PySem.EqNone.eq_none_bool (lR I q (by simp))
  | int j=>obtain⟨c,rfl⟩:=a;exact PySem.EqNone.eq_none_int (lR I q (by simp))
  | str j=>obtain⟨c,rfl⟩:=a;exact PySem.EqNone.eq_none_str (lR I q (by simp))
  | _=>exact absurd (show false=true from d) aR
 | b i =>
  cases f;cases y with
  | e=>cases a;exact PySem.EqNone.eq_bool_none (lR I q (by simp))
  | b j=>cases a;exact eq_bool (lR I q Hh)
  | str j=>obtain⟨c,rfl⟩:=a;exact PySem.EqMixed.eq_bool_str (lR I q (by simp))
  | _=>exact absurd (show false=true from d) aR
 | int i =>
  obtain⟨t,rfl⟩:=f;cases y with
  | e=>cases a;exact PySem.EqNone.eq_int_none (lR I q (by simp))
  | int j=>obtain⟨c,rfl⟩:=a;exact eq_int (lR I q Ke)
  | str j=>obtain⟨c,rfl⟩:=a;exact PySem.EqMixed.eq_int_str (lR I q (by simp))
  | _=>exact absurd (show false=true from d) aR
 | str i =>
  obtain⟨t,rfl⟩:=f;cases y with
  | e=>cases a;exact PySem.EqNone.eq_str_none (lR I q (by simp))
  | b j=>cases a;exact PySem.EqMixed.eq_str_bool (lR I q (by simp))
  | int j=>obtain⟨c,rfl⟩:=a;exact PySem.EqMixed.eq_str_int (lR I q (by simp))
  | str j=>obtain⟨c,rfl⟩:=a;exact eq_str (lR I q Jh)
  | _=>exact absurd (show false=true from d) aR
 | byt i =>
  obtain⟨t,rfl⟩:=f;cases y with
  | byt j=>obtain⟨c,rfl⟩:=a;exact PySem.W.eq_bytes (lR I q J6)
  | _=>exact absurd (show false=true from d) aR
 | _=>cases y<;>exact absurd (show false=true from d) aR
theorem Ua:kP X (compareOp .NotEq) Ro:=by
 intro k s m H x y v u Q I f a h;obtain⟨d,q⟩:=h;cases x with
 | e =>
  cases f;cases y with
  | e=>cases a;exact PySem.EqNone.ne_none_none (lR I q (by simp))
  | b j=>cases a;exact PySem.EqNone.ne_none_bool (lR I q (by simp))
  | int j=>obtain⟨c,rfl⟩:=a;exact PySem.EqNone.ne_none_int (lR I q (by simp))
  | str j=>obtain⟨c,rfl⟩:=a;exact PySem.EqNone.ne_none_str (lR I q (by simp))
  | _=>exact absurd (show false=true from d) aR
 | b i =>
  cases f;cases y with
  | e=>cases a;exact PySem.EqNone.ne_bool_none (lR I q (by simp))
  | b j=>cases a;exact ne_bool (lR I q (cO not Hh))
  | str j=>obtain⟨c,rfl⟩:=a;exact PySem.EqMixed.ne_bool_str (lR I q (by simp))
  | _=>exact absurd (show false=true from d) aR
 | int i =>
  obtain⟨t,rfl⟩:=f;cases y with
  | e=>cases a;exact PySem.EqNone.ne_int_none (lR I q (by simp))
  | int j=>obtain⟨c,rfl⟩:=a;exact ne_int (lR I q (cO not Ke))
  | str j=>obtain⟨c,rfl⟩:=a;exact PySem.EqMixed.ne_int_str (lR I q (by simp))
  | _=>exact absurd (show false=true from d) aR
 | str i =>
  obtain⟨t,rfl⟩:=f;cases y with
  | e=>cases a;exact PySem.EqNone.ne_str_none (lR I q (by simp))
  | b j=>cases a;exact PySem.EqMixed.ne_str_bool (lR I q (by simp))
  | int j=>obtain⟨c,rfl⟩:=a;exact PySem.EqMixed.ne_str_int (lR I q (by simp))
  | str j=>obtain⟨c,rfl⟩:=a;exact ne_str (lR I q (cO not Jh))
  | _=>exact absurd (show false=true from d) aR
 | byt i =>
  obtain⟨t,rfl⟩:=f;cases y with
  | byt j=>obtain⟨c,rfl⟩:=a;exact PySem.W.ne_bytes (lR I q (cO not J6))
  | _=>exact absurd (show false=true from d) aR
 | _=>cases y<;>exact absurd (show false=true from d) aR
theorem Cg:kP X (compareOp .Lt) (pO λi j=>.b (decide (i<j))):=zS λ_ _ _ _ _ _ _ q=>lt_int q
theorem Qy:kP X (compareOp .LtE) (pO λi j=>.b (decide (i<=j))):=zS λ_ _ _ _ _ _ _ q=>le_int q
theorem Ib:kP X (compareOp .Gt) (pO λi j=>.b (decide (j<i))):=zS λ_ _ _ _ _ _ _ q=>gt_int q
theorem Hu:kP X (compareOp .GtE) (pO λi j=>.b (decide (j<=i))):=zS λ_ _ _ _ _ _ _ q=>ge_int q
theorem T2:kP X (compareOp .In) (λx y H Q=>∃ i j,x = .str i/\y = .str j/\Q (.b (!(Builtin.Str.occurrences j i 0 j.length 1).isEmpty)) H):=by
 intro a s f H x y v u Q I c d h;obtain⟨i,j,rfl,rfl,q⟩:=h;obtain⟨t,rfl⟩:=c;obtain⟨e,rfl⟩:=d;exact in_str (lR I q rfl)
theorem Ry:kP X (compareOp .Is) (λx y H Q=>y = .e/\Q (.b (decide (x = .e))) H):=by
 intro a s f H x y v u Q I c d h;obtain⟨rfl,q⟩:=h;cases d;refine is_none_gen (lR I q ?_);cases x<;>first
  | (cases c;rfl)
  | (obtain⟨t,rfl⟩:=c;rfl)
theorem Vg:kP X (compareOp .NotIn) (λx y H Q=>∃ i j,x = .str i/\y = .str j/\Q (.b (!(!(Builtin.Str.occurrences j i 0 j.length 1).isEmpty))) H):=by
 intro a s f H x y v u Q I c d h;obtain⟨i,j,rfl,rfl,q⟩:=h;obtain⟨t,rfl⟩:=c;obtain⟨e,rfl⟩:=d;exact notIn_str (lR I q rfl)
theorem kP.or (h:kP X f r) (g:kP X f j):kP X f (λx y H Q=>r x y H Q\/j x y H Q):=by
 intro a s d H x y v u Q I b c q;rcases q with q | q
 .exact h a s d H x y v u Q I b c q
 .exact g a s d H x y v u Q I b c q
theorem xV (b:Expr) (h:op ≠ .In:=by decide) (g:op ≠ .NotIn:=by decide):behindInMarks op b=false:=by
 have a:(op == CmpOp.In)=false:=by cases op<;>first | rfl | exact absurd rfl h
 have c:(op == CmpOp.NotIn)=false:=by cases op<;>first | rfl | exact absurd rfl g
 cases b<;>simp[behindInMarks,a,c]
theorem Gh (o:kP X (compareOp op) r) (g:PE X a p) (j:PE X b C) (l:behindInMarks op b=false):PE X (.Compare a [op] [b] pos) (Bl r p C):=by
 intro c s m H Q I h;exact wpAny_Compare1 (Dl g j I h λv u k x y d e f i q=>o c k m d x y v u Q e f i q) l
def Jw (t:TE):TT:=λc H Q=>t c H λx a=>∃ k,x = .b k/\Q k a
theorem Ca (o:kP X (compareOp op) r) (g:PE X a p) (j:PE X b C) (l:behindInMarks op b=false):PT X (.Compare a [op] [b] pos) (Jw (Bl r p C)):=by
 intro d s f H Q I h;refine wpAny_isTrue_Compare1 (hL (g d s f H _ I h) λv K ⟨x,i,q,E,A⟩=>hL (j d K f i _ q A) λu L ⟨y,m,t,F,B⟩ =>hL (o d L f m x y v u _ t E F B) λc M ⟨z,n,w,G,k,e,D⟩=>?_) l;subst e;cases G;exact dD ⟨n,w,D⟩
def U5 (r g:R2) (j l o:TE):TE:=λa H Q=>j a H λx d=>l a d λy e=>r x y e λz c=>∃ k,z = .b k /\
 (if k=true then o a c λh f=>g y h f Q else Q (.b false) c)
theorem Xn (J:kP X (compareOp op) r) (j:kP X (compareOp g) T) (l:PE X a ta) (o:PE X b tb) (p:PE X c tc)
  (C:lastMarks [op,g] [b,c]=false:=by with_unfolding_all rfl):PT X (.Compare a [op,g] [b,c] pos) (Jw (U5 r T ta tb tc)):=by
 intro f s i H Q I h;refine isTrue_chain (hL (l f s i H _ I h) λv s1 ⟨x,A,F,W,P⟩=>test_link (hL (o f s1 i A _ F P) λu s2 ⟨y,B,G,w,R⟩ =>hL (J f s2 i B x y v u _ G W w R) λd s3 ⟨z,n,q,Y,k,e,t⟩=>?_)) C;subst e;cases Y;refine dD ?_;cases k with
 | false =>
  obtain⟨k',M,O⟩:=t;cases M;exact ite_ff ⟨n,q,O⟩
 | true =>
  refine ite_tt (test_last (hL (p f s3 i n _ q t) λw' s4 ⟨z',D,K,Z,S⟩=>hL (j f s4 i D y z' u w' _ K w Z S) λd' s5 m=>?_));obtain⟨z2,E,L,U,k2,N,V⟩:=m;subst N;cases U;exact dD ⟨E,L,V⟩
def Dg (K:kC) (x:V) (H:Hp) (k:Bool):Prop :=
 match x with
 | .e=>k=false
 | .b b=>k=b
 | .int i=>k=(i != 0)
 | .str y=>y.length<=sizeLine/\k=((y.length:Int) != 0)
 | .byt y=>y.size<=sizeLine/\k=((y.size:Int) != 0)
 | .ref p=>(∃ c,kK K H p c/\k = !c.isEmpty)\/(∃ c,kO K H p c/\k = !c.isEmpty)\/∃ a,H p=some (.k a)/\k = !a.isEmpty
 | _=>False
theorem W3 (r:KV g j):(!j.isEmpty) = !g.isEmpty:=by
 cases r<;>rfl
theorem Jd (r:kF j g):(!g.toArray.isEmpty) = !j.isEmpty:=by
 cases r<;>simp
theorem uM:(sizeLine:Nat)<2 ^ 63:=by rw[sizeLine_eq];decide
theorem Te:Sg X (λx H Q=>∃ k,Dg X.K x H k/\Q k H):=by
 intro E s N H x v Q I n h;obtain⟨k,e,q⟩:=h;have L:=uM;have M:sizeLine=16777216:=sizeLine_eq;cases x with
 | e =>
  cases n;have a:k=false:=e;subst a;exact truthy_none ⟨H,I,q⟩
 | b b =>
  cases n;have a:k=b:=e;subst a;exact dD ⟨H,I,q⟩
 | int i =>
  obtain⟨t,rfl⟩:=n;have a:k=(i != 0):=e;subst a;exact PySem.P.truthy_int ⟨H,I,q⟩
 | str y =>
  obtain⟨t,rfl⟩:=n;obtain⟨G,a⟩:y.length<=sizeLine/\k=((y.length:Int) != 0):=e;subst a;exact PySem.P.truthy_str (by omega) ⟨H,I.tok _,q⟩
 | byt y =>
  obtain⟨t,rfl⟩:=n;obtain⟨G,a⟩:y.size<=sizeLine/\k=((y.size:Int) != 0):=e;subst a;exact PySem.W.truthy_bytes (by omega) ⟨H,I.tok _,q⟩
 | ref p =>
  cases n;have a:(∃ f,kK X.K H p f/\k = !f.isEmpty)\/(∃ f,kO X.K H p f/\k = !f.isEmpty)\/∃ c,H p=some (.k c)/\k = !c.isEmpty:=e;rcases a with⟨f,u,a⟩ | ⟨f,u,a⟩ | ⟨c,u,a⟩
  .subst a;obtain⟨A,r,B,D⟩:=I.list u;have d:=r.length;exact wpAny_truthy_list B.isList (by simp only[aK];omega) ⟨H,I.tok _,by rw[Jd r];exact q⟩
  .subst a;obtain⟨A,r,B,D⟩:=I.tuple u;have d:=r.length;exact truthy_tuple B (by simp only[aK];omega) ⟨H,I.tok _,by rw[Jd r];exact q⟩
  .subst a;obtain⟨D,F,z,r,m⟩:c.length<=sizeLine/\(p == sysModules)=false/\∃ z,KV c z/\s.heap.DictOf (kZ X.prog X.w) p z:=I.hok p _ u;have d:c.length=z.length:=dQ r;exact wpAny_truthy_dict F m (by omega) ⟨H,I.tok _,by rw[W3 r];exact q⟩
 | _=>exact (show False from e).elim
theorem Qd (l:PE X a p) (o:∀ whole,isTrue a X.env whole=(do let v <- whole;standAt a.pos;holding [v] (truthy v))) :
  PT X a (λg H Q=>p g H λx j=>∃ k,Dg X.K x j k/\Q k j):=by
 intro b s g H Q I h;exact isTrue_plain (hL (l b s g H _ I h) λv i ⟨x,c,d,f,e⟩=>Te b i g c x v Q d f e) (o _)
theorem Oc:kP X (binaryOp .Add) (λx y H Q=>∃ i j,x = .str i/\y = .str j/\i.length+j.length<=sizeLine/\Q (.str (i++j)) H):=by
 intro a s k H x y v u Q I c d h;obtain⟨i,j,rfl,rfl,b,q⟩:=h;obtain⟨t,rfl⟩:=c;obtain⟨e,rfl⟩:=d;exact add_str (λe f=>⟨.str (i++j),H,I.tok _,⟨_,rfl⟩,q⟩) b
theorem oV (r:kF [x] g):∃ u,g=[u]/\kD x u:=by
 cases r with
 | cons a b=>cases b;exact⟨_,rfl,a⟩
theorem Aq (r:kF [x,y] j):∃ u g,j=[u,g]/\kD x u/\kD y g:=by
 cases r with
 | cons a b =>
  cases b with
  | cons c d=>cases d;exact⟨_,_,rfl,a,c⟩
theorem Np (l:X.calm=true):lS X (.builtin "max") (λg H Q=>∃ i j,g=[.int i,.int j]/\Q (.int (if j>i then j else i)) H):=by
 intro b s n H g f Q I r h;obtain⟨i,j,rfl,q⟩:=h;obtain⟨u,m,rfl,⟨t,rfl⟩,⟨d,rfl⟩⟩:=Aq r;refine max_two_ints (I.ok.hd l) λc e k=>⟨_,H,I.kept k,?_,q⟩
 by_cases a:j>i
 .rw[aH a,aH a];exact⟨_,rfl⟩
 .rw[aE a,aE a];exact⟨_,rfl⟩
theorem Om (l:X.calm=true):lS X (.builtin "min") (λg H Q=>∃ i j,g=[.int i,.int j]/\Q (.int (if j<i then j else i)) H):=by
 intro b s n H g f Q I r h;obtain⟨i,j,rfl,q⟩:=h;obtain⟨u,m,rfl,⟨t,rfl⟩,⟨d,rfl⟩⟩:=Aq r;refine min_two_ints (I.ok.hd l) λc e k=>⟨_,H,I.kept k,?_,q⟩
 by_cases a:j<i
 .rw[aH a,aH a];exact⟨_,rfl⟩
 .rw[aE a,aE a];exact⟨_,rfl⟩
theorem W2:lS X (.type "int") (λg H Q=>(∃ i,g=[.int i]/\Q (.int i) H)\/∃ k,g=[.b k]/\Q (.int (if k then 1 else 0)) H):=by
 intro a s e H g d Q I r h;rcases h with⟨i,rfl,q⟩ | ⟨k,rfl,q⟩
 .obtain⟨u,rfl,t,rfl⟩:=oV r;exact call_int_int ⟨.int i,H,I,⟨_,rfl⟩,q⟩
 .obtain⟨u,rfl,c⟩:=oV r;cases c;exact call_int_bool ⟨.int (if k then 1 else 0),H,I.tok _,⟨_,rfl⟩,q⟩
end
structure ObjM (h:Heap) (x dx C:Addr) (mA:Str->Option Value):Prop where
 obj:h.get? x=some (PySem.W.instObj C dx)
 ns:h.Ns1 dx mA
 ne:dx≠x
theorem Qc {h:Ag}{g:Ad}{j:Af->Ab Ac}(n:h.Ns1 g j):∃ l,h.get? g=some l/\∀ name,PySem.W.lookIn name l=some (j name):=by
 obtain⟨o,c,s,k,hd,f,_,i⟩:=n;refine⟨o,k,λname=>?_⟩;have e:=i name;unfold nsFind findBy at e;rw[<- Array.find?_toList] at e;unfold PySem.W.lookIn;rw[hd];dsimp only;split
 .rename_i y q
  rw[q] at e;exact cO some e
 .rename_i q
  rw[q] at e;have a:c.toList.any (·.refKey)=false:=by
   rw[List.any_eq_false];intro y m;obtain⟨z,t,b⟩:=f y (Array.mem_toList_iff.mp m);simp[DictEntry.refKey,b]
  have d:¬ c.toList.any (·.refKey)=true:=by rw[a];exact aR
  rw[aE d];exact cO some e
theorem ObjM.look (I:ObjM h x j C l):∃ g,PySem.W.InstAt h x (PySem.W.instObj C j) C (some g)/\∀ name,PySem.W.lookIn name g=some (l name) :=
 let ⟨g,b,a⟩:=Qc I.ns
 ⟨g,⟨I.obj,rfl,rfl,b⟩,a⟩
theorem oX.some_of (r:oX (some v) o):∃ u,o=some u/\kD v u:=by
 cases o with
 | none=>exact (show False from r).elim
 | some u=>exact⟨u,rfl,r⟩
section
variable {P:Ah}{fs:Aa (Af×V)}
theorem P0 (l:lP P w H h) (e:H a=some (.ins C j fs)):∃ g,ObjM h a j C g/\(∀ f,oX (fs.lookup f) (g f))/\PySem.Within g (fs.map (·.1))/\fs.length<=1000/\H j=some (.o a):=by
 obtain⟨d,z,ne,b,g,n,r,q⟩:=(show lM P w H h a (.ins C j fs) from l a _ e);exact⟨g,⟨b,n,ne⟩,r,q,z,d⟩
end
structure Cls (K:kC) (C:Addr):Prop where
 pg:PySem.W.plainGet K C Str.empty=true
 hd:PySem.W.hasDictIn K C=true
 po:PySem.W.plainOver K C=true
 sa:PySem.W.findIn K (.ref C) "__setattr__" = some (some (.builtin "object.__setattr__"))
theorem Cls.get {K:kC}(c:Cls K C) (f:Af):PySem.W.plainGet K C f=true:=c.pg
section
variable {X:Cx}
inductive TyOf (K:kC) (H:Hp):V->Value->Prop where
 | e:TyOf K H .e (.type "NoneType")
 | b (x:Bool):TyOf K H (.b x) (.type "bool")
 | int (i:Int):TyOf K H (.int i) (.type "int")
 | str (x:Str):TyOf K H (.str x) (.type "str")
 | flt (x:UInt64):TyOf K H (.flt x) (.type "float")
 | l {a:Addr} {xs:List V} (e:H a=some (.l xs)):TyOf K H (.ref a) (.type "list")
 | frz {a:Addr} {o:Obj} {xs:List V} (e:H a=some (.frz o (.l xs))):TyOf K H (.ref a) (.type "list")
 | t {a:Addr} {xs:List V} (e:H a=some (.t xs)):TyOf K H (.ref a) (.type "tuple")
 | k {a:Addr} {kvs:List (gV×V)} (e:H a=some (.k kvs)):TyOf K H (.ref a) (.type "dict")
 | T {a:Addr} {kvs:List (List gV×V)} (e:H a=some (.T kvs)):TyOf K H (.ref a) (.type "dict")
 | dM {a:Addr} {kvs:List (MK×V)} (e:H a=some (.dM kvs)):TyOf K H (.ref a) (.type "dict")
 | ins {a C dx:Addr} {fs:List (Str×V)} (e:H a=some (.ins C dx fs)) (cl:Cls K C) (ha:PySem.W.findIn K (.ref C) "__class__" = some (some (.builtin "object.__class__")))
   (hn:PySem.W.specialIn K (.builtin "object.__class__") "__get__" = some (some (.builtin "getset_descriptor.__get__"))) (htk:PySem.W.takesIn K (.builtin "object.__class__")=some true)
   (hm:PySem.W.mroIn K C (.type "object")=some true):TyOf K H (.ref a) (.ref C)
theorem Vc (I:Inv X j U H s) (g:kD x u) (ty:TyOf X.K H x t) (e:PySem.W.kitOne X.K t c=some b) (h:∀ r,Q (.bool b) { s with toks:=r }) :
  wpAny (model X.prog X.w) A (call (.builtin "isinstance") [u,c]) Q E s:=by
 cases ty with
 | e=>cases (show u=Value.none from g);exact cT PySem.W.kitx_none I.kIn True.intro e (λz=>nomatch z) h
 | b y=>cases (show u=Value.bool y from g);exact cT PySem.W.kitx_bool I.kIn True.intro e (λz=>nomatch z) h
 | int i=>obtain⟨t,q⟩:=(show ∃ t,u=Value.int i t from g);cases q;exact cT PySem.W.kitx_int I.kIn True.intro e (λz=>nomatch z) h
 | str y=>obtain⟨t,q⟩:=(show ∃ t,u=Value.str y t from g);cases q;exact cT PySem.W.kitx_str I.kIn True.intro e (λz=>nomatch z) h
 | flt y=>obtain⟨t,q⟩:=(show ∃ t,u=Value.float y t from g);cases q;exact cT PySem.W.kitx_float I.kIn True.intro e (λz=>nomatch z) h
 | @l a B d =>
  cases (show u=Value.ref a from g);obtain⟨_,_,n,_,f⟩:=(show lM X.prog X.w H s.heap a (.l B) from I.hok a _ d);exact cT PySem.W.kitx_list I.kIn ⟨_,f,rfl⟩ e (λz=>nomatch z) h
 | @frz a R B d =>
  cases (show u=Value.ref a from g);obtain⟨_,_,_,n,_,f⟩:=(show lM X.prog X.w H s.heap a (.frz R (.l B)) from I.hok a _ d);exact cT PySem.W.kitx_list I.kIn ⟨_,f,rfl⟩ e (λz=>nomatch z) h
 | @t a B d =>
  cases (show u=Value.ref a from g);obtain⟨_,_,_,p,_⟩:=(show lM X.prog X.w H s.heap a (.t B) from I.hok a _ d);obtain⟨o,f,v,_⟩:=p;exact cT PySem.W.kitx_tuple I.kIn ⟨o,f,v⟩ e (λz=>nomatch z) h
 | @k a m d =>
  cases (show u=Value.ref a from g);obtain⟨_,_,Z,_,p⟩:=(show lM X.prog X.w H s.heap a (.k m) from I.hok a _ d);obtain⟨o,L,G,f,v,_⟩:=p;exact cT jT I.kIn ⟨o,f,v.1⟩ e (λz=>nomatch z) h
 | @T a m d =>
  cases (show u=Value.ref a from g);obtain⟨_,_,B,_,o,L,G,f,v,_⟩:=(show lM X.prog X.w H s.heap a (.T m) from I.hok a _ d);exact cT jT I.kIn ⟨o,f,v.1⟩ e (λz=>nomatch z) h
 | @dM a m d =>
  cases (show u=Value.ref a from g);obtain⟨_,_,B,_,o,L,G,f,v,_⟩:=(show lM X.prog X.w H s.heap a (.dM m) from I.hok a _ d);exact cT jT I.kIn ⟨o,f,v.1⟩ e (λz=>nomatch z) h
 | @ins a C S fs d F M P D N =>
  cases (show u=Value.ref a from g);obtain⟨V,O,_⟩:=P0 I.hok d;obtain⟨Y,J,_⟩:=O.look;exact cT (PySem.W.kitx_own (F.get _) F.hd M P D N) I.kIn J e (λz=>nomatch z) h
end
structure Room (k:Nat) (A:Around):Prop where
 hd:A.handled=none
 dp:A.depth+3*k+5<recursionLimit
 un:A.units+16*k+200<cLine
theorem Room.mono (r:Room k A) (h:j<=k):Room j A:=⟨r.hd,by have:=r.dp;omega,by have:=r.un;omega⟩
theorem Room.deeper (r:Room (k+1) A) (g:Env):Room k (A.deeper g) :=
 ⟨r.hd,by have:=r.dp;show A.depth+1+3*k+5<_;omega,by have:=r.un;show A.units+3+16*k+200<_;omega⟩
theorem Room.depth (r:Room k A):A.depth<recursionLimit:=by have:=r.dp;omega
theorem Room.units (r:Room k A):A.units+64<cLine:=by have:=r.un;omega
def Rz:TA:=λ_ H Q=>Q [] H
def K2 (g:TE) (j:TA):TA:=λa H Q=>g a H λx b=>j a b λd c=>Q (x::d) c
section
variable {X:Cx}
theorem D5:PA X [] Rz:=λ_ _ _ _ H Q I h=>iM ⟨[],H,I,.nil,h⟩
theorem S8 (j:PE X e p) (l:PA X g t) (o:starEach (e::g) X.env=(false,eval e X.env)::starEach g X.env:=by rfl):PA X (e::g) (K2 p t):=by
 intro pos a s c H Q I h;rw[o];show wpAny _ _ (spliced ((false,eval e X.env)::backTo pos (starEach g X.env))) _ _ s;refine gE (hL (j a s c H _ I h) λu w b=>?_);obtain⟨x,d,i,q,m⟩:=b;exact hL (l pos a w c d _ i m) λA z ⟨y,f,k,v,n⟩=>⟨x::y,f,k,.cons q v,n⟩
def Mv (t:TA):TE:=λc H Q=>t c H λb a=>b.length<=sizeLine/\∀ p,a p=none->Q (.ref p) (upd a p (.t b))
def V3 (t:TA):TE:=λc H Q=>t c H λb a=>b.length<=sizeLine/\∀ p,a p=none->Q (.ref p) (upd a p (.l b))
theorem Ny {j}(h:PA X g t):PE X (.Tuple g j pos) (Mv t):=by
 intro a s v H Q I k;refine wpAny_Tuple_spliced (hL (h pos a s v H _ I k) λm c ⟨n,d,f,r,z,q⟩=>⟨by rw[<- r.length];exact z,?_⟩);have i:d c.heap.objs.size=none:=f.hok.fresh (aP _);refine⟨.ref c.heap.objs.size,upd d c.heap.objs.size (.t n),f.laid (t':=c.toks) (λb u e=>aF _ e) (aP _) ?_,rfl,q _ i⟩;exact⟨z,m,r,⟨_,aU _ rfl,rfl,_,rfl⟩,_,aU _ rfl,rfl⟩
theorem Uy (h:PA X g t):PE X (.List g pos) (V3 t):=by
 intro a s v H Q I k;refine wpAny_List_spliced (hL (h pos a s v H _ I k) λm c ⟨n,d,f,r,z,q⟩=>⟨by rw[<- r.length];exact z,?_⟩);have i:d c.heap.objs.size=none:=f.hok.fresh (aP _);refine⟨.ref c.heap.objs.size,upd d c.heap.objs.size (.l n),f.laid (t':=c.toks) (λb u e=>aF _ e) (aP _) ?_,rfl,q _ i⟩;exact⟨z,m,0,r,aU _ rfl⟩
end
abbrev Sp:=Aa V->Hp->VK->XK->Prop
abbrev vX:=Aa Env->Hp->Ae->XK->Ac->Ae->Prop
structure Env0 (P:Program) (w:World) (K:kC) (mg:Str->Option Value) (base:Heap) (A:Around) (outer:List Env) (s:Shared) (H:Hp):Prop where
 frames:A.frames=some outer
 mod:Mod K mg base
 bs:∀ b o,base.get? b=some o->s.heap.get? b=some o/\H b=none
 bsz:base.objs.size<=s.heap.objs.size
 funs:s.heap.FunFrames base outer
 frf:∀ b∈qF outer,H b=none
 hok:lP P w H s.heap
 bare:AllBare s.gens
def CE (g:Aa Env) (P:Ah) (w:World) (H:Hp) (s:Ae) (Q:VK) (u:Ac) (j:Ae):Prop :=
 ∃ v a,j.os=s.os/\AllBare j.gens/\Un (qF g) [] H a s.heap j.heap/\lP P w a j.heap/\kD v u/\Q v a
def CR (l:vX) (g:Aa Env) (P:Ah) (w:World) (H:Hp) (s:Ae) (Q:VK) (E:XK) (r:Result) (j:Ae):Prop :=
 match r with
 | .ok (.ret u)=>CE g P w H s Q u j
 | .ok _=>False
 | .error e=>l g H s E e j
structure FnOk (P:Program) (w:World) (K:kC) (mg:Str->Option Value) (base:Heap) (CX:vX) (k:Nat) (f:Addr) (fd:FuncData) (ps:List Str) (sp:Sp):Prop where
 len:∀ vs H Q E,sp vs H Q E->vs.length=ps.length
 run:∀ (A:Around) (outer:List Env) (s:Shared) (H:Hp) (args:Args) (us:List Value) (vs:List V) (Q:VK) (E:XK),Room k A->Env0 P w K mg base A outer s H->BindsTo s fd args (ps.zip us)->kF vs us->sp vs H Q E ->
  codeAny (model P w) A (.call (.ref f) args) (CR CX outer P w H s Q E) s
section
variable {X:Cx}
theorem Inv.env0 (I:Inv X g j H s):Env0 X.prog X.w X.K X.mg X.base X.A X.stack s H :=
 ⟨I.ok.frames,I.ok.mod,I.bs,bS I.ok.bsz I.sz,I.stack,I.stkFree,I.hok,I.bare⟩
theorem Inv.after (I:Inv X j o H s) (h:CE X.stack X.prog X.w H s Q u l):EP X j o Q u l:=by
 obtain⟨v,e,os,bare,un,a,r,q⟩:=h;obtain⟨f,g,d,t,c⟩:=l;obtain rfl:c=s.os:=os;exact⟨v,e,I.call (h':=f) (g':=g) (d':=d) (t':=t) (ch:=[]) un a bare (λb z=>absurd z (by simp)),r,q⟩
end
def Vp (j:Sp) (g:Aa V) (E:XK) (t:TA):TE:=λc H Q=>t c H λb a=>j (b++g) a Q E
def uZ (K:kC) (fd:FuncData) (j:Aa Af) (g:Aa Ac):Prop :=
 ∀ (s:Ae) (a:Aa Ac),K.In s.heap->(a++g).length=j.length->BindsTo s fd ⟨a,[]⟩ (j.zip (a++g))
theorem uZ.all {K:kC}(h:∀ g:Aa Ac,g.length=j.length->bindArgs fd ⟨g,[]⟩=pure (j.zip g)):uZ K fd j []:=λs g _ a=>by
 rw[gJ] at a |-;exact .of_eq (h g a)
def Ed (g:vX) (X:Cx) (E:XK):Prop:=∀ (a:Aa (Ad×Obj)) (c:St) (H:Hp) (s:Ae) (e:Ac) (b:Ae),Inv X a c H s->g X.stack H s E e b->X.xe e b
section
variable {X:Cx}
theorem Ub (F:FnOk X.prog X.w X.K X.mg X.base T k f fd C sp) (hr:Room k X.A) (U:uZ X.K fd C o) (hd:kF j o) (hx:Ed T X E)
  (I:Inv X g J H s) (r:kF p l) (h:sp (p++j) H Q E):wpAny (model X.prog X.w) X.A (call (.ref f) l) (EP X g J Q) X.xe s:=by
 have b:kF (p++j) (l++o):=r.append hd;have d:(l++o).length=C.length:=by rw[<- b.length];exact F.len _ _ _ _ h
 refine wpAny_call (codeAny_mono (F.run X.A X.stack s H ⟨l,[]⟩ (l++o) (p++j) Q E hr I.env0 (U s l I.kIn d) b h) λr i a=>?_);cases r with
 | error e=>exact hx g J H s e i I a
 | ok c =>
  cases c with
  | ret u=>exact I.after a
  | next=>exact False.elim a
  | brk=>exact False.elim a
  | cont=>exact False.elim a
structure StB (X:Cx) (e:Expr) (es:List Expr) (pos:Pos):Prop where
 a:starEach (e::es) X.env=(false,eval e X.env)::starEach es X.env:=by rfl
 b:(backTo pos (starEach es X.env)).any (·.1)=false:=by rfl
theorem Wp (F:FnOk X.prog X.w X.K X.mg X.base C k f fd ps sp) (hr:Room k X.A) (hg:Gl X x) (hm:X.mg x=some (.ref f)) (hk:PySem.W.keepIn X.K (.ref f)=true) (U:uZ X.K fd ps J) (hd:kF j J) (hx:Ed C X E)
  (T:PA X (e::o) t) (l:(x == ("__debug__" : Af))=false:=by decide) (g:StB X e o pos:=by exact {}) :
  PE X (.Call (.Name x p) (e::o) [] pos) (Vp sp j E t):=by
 intro c s i H Q I h;refine gF (Yo I hg hm ?_ l);refine PySem.W.callWith_K (h₀:=X.base) I.ok.mod.kin hk (hL (T pos c s i H _ I h) λu n ⟨v,m,d,r,q⟩=>⟨d.kIn,?_⟩) g.a g.b;exact Ub F hr U hd hx d r q
end
structure FnScope (N P:List Str) (sc:Scope):Prop where
 kind:sc.kind = .function
 co:sc.isCoroutine=false
 gen:sc.isGenerator=false
 nd:N.Nodup
 pre:N.take P.length=P
 par:∀ x∈P,sc.names.lookup x=some .local\/sc.names.lookup x=some .cell
 nofree:∀ y∈sc.names,y.2 ≠ .free
theorem Gk {kindOf:Af->Ab NameKind}:∀ {binds:Aa (Af×Ac)}{m:Af->Ab Ac},(∀ v,(x,v)∉binds)->bindL kindOf binds m x=m x
 | [],_,_=>rfl
 | (n,v)::r,m,h=>by
  unfold bindL;rw[Gk λw hw=>h w (aV _ hw)];split
  .have:x≠n:=by rintro rfl;exact h v aM
   simp[this]
  .rfl
theorem Km {kindOf:Af->Ab NameKind}:∀ {binds:Aa (Af×Ac)}{m:Af->Ab Ac},(∀ v,(x,v)∉binds)->bindC kindOf binds m x=m x
 | [],_,_=>rfl
 | (n,v)::r,m,h=>by
  unfold bindC;rw[Km λw hw=>h w (aV _ hw)];split
  .rfl
  .have:x≠n:=by rintro rfl;exact h v aM
   simp[this]
theorem J4 {kindOf:Af->Ab NameKind}:∀ {P:Aa Af}{g:Aa Ac}{i:Nat}{m:Af->Ab Ac},P.Nodup->P[i]?=some x->g[i]?=some v->kindOf x=some .local ->
  bindL kindOf (P.zip g) m x=some v
 | [],_,_,_,_,h,_,_=>by simp at h
 | _::_,[],_,_,_,_,h,_=>by simp at h
 | p::P,w::g,0,m,d,a,b,c=>by
  simp at a b;subst a;subst b;show bindL kindOf ((p,w)::P.zip g) m p=_;unfold bindL;rw[Gk λv e=>(bP.mp d).1 (kA e).1,aH c];simp
 | p::P,w::g,i+1,m,d,a,b,c=>by
  show bindL kindOf ((p,w)::P.zip g) m x=_;unfold bindL;exact J4 (i:=i) (bP.mp d).2 (by simpa using a) (by simpa using b) c
theorem Lo {kindOf:Af->Ab NameKind}:∀ {P:Aa Af}{g:Aa Ac}{i:Nat}{m:Af->Ab Ac},P.Nodup->P[i]?=some x->g[i]?=some v->kindOf x≠some .local ->
  bindC kindOf (P.zip g) m x=some v
 | [],_,_,_,_,h,_,_=>by simp at h
 | _::_,[],_,_,_,_,h,_=>by simp at h
 | p::P,w::g,0,m,d,a,b,c=>by
  simp at a b;subst a;subst b;show bindC kindOf ((p,w)::P.zip g) m p=_;unfold bindC;rw[Km λv e=>(bP.mp d).1 (kA e).1,aE c];simp
 | p::P,w::g,i+1,m,d,a,b,c=>by
  show bindC kindOf ((p,w)::P.zip g) m x=_;unfold bindC;exact Lo (i:=i) (bP.mp d).2 (by simpa using a) (by simpa using b) c
def qP (N:Aa Af) (g:Aa V):St:=g.map some++List.replicate (N.length-g.length) none
noncomputable def tO (o:vX) (P:Ah) (w:World) (K:kC) (p:Af->Ab Ac) (base:Ag) (N:Aa Af) (l:Af) (g:Scope) (f:Ad) (cd:Ac) (A:Around) (j:Aa Env) (s:Ae) (H:Hp) (E:XK):Cx where
 prog:=P
 w:=w
 K:=K
 mg:=p
 base:=base
 A:=A.deeper (envOfC l g s.heap.objs.size f cd)
 N:=N
 s₀:=s
 H₀:=H
 env:=envOfC l g s.heap.objs.size f cd
 outer:=j
 stack:=envOfC l g s.heap.objs.size f cd::j
 ex:=[]
 calm:=true
 fn:=λ_=>true
 pn:=[]
 xe:=λe c=>wpAny (model P w) (A.deeper (envOfC l g s.heap.objs.size f cd)) (leaving (envOfC l g s.heap.objs.size f cd) e) (λ_ a=>o j H s E e a) (λb a=>o j H s E b a) c
theorem Kt {g:Scope}{n:Nat}{x:Af}(h:g.names.lookup x=some .cell):∃ c,(cellsFrom n g.names []).lookup x=some c:=by
 have q:=PySem.W.cellsFrom_some g.names n [] (.inl h);exact cV.mp q
theorem We {P:Ah}{K:kC}{cd:Ac}
  (S:FnScope N C g) (hd:A.handled=none) (o:Env0 P w K J base A j s H) (hl:I.length=C.length) (r:kF I T)
  (x:InCallC s s.heap.objs.size (bindL (envOfC l g s.heap.objs.size f cd).kindOf (C.zip T) λ_=>none) (cellsFrom (s.heap.objs.size+1) g.names []) (bindC (envOfC l g s.heap.objs.size f cd).kindOf (C.zip T) λ_=>none) s1) :
  Inv (tO U P w K J base N l g f cd A j s H E) [] (qP N I) H s1:=by
 have Q:C.length<=N.length:=by have:=cO List.length S.pre;rw[bY] at this;omega
 obtain⟨F,W,rfl,L⟩:=x.done;have t:∀ b:Ad,b∉(tO U P w K J base N l g f cd A j s H E).ex:=λb z=>absurd (show b∈([]:Aa Ad) from z) (by simp)
 refine⟨⟨o.mod,S.kind,rfl,rfl,aP _,λy z c F d=>?_,λy m=>?_,λy c _ h=>?_,λ_=>hd,Around.frames_deeper o.frames,.inr ⟨rfl,rfl⟩,λb z=>absurd z (t b),o.bs,o.bsz,λb _ _=>t b,λb z=>absurd z (t b),o.funs,o.frf⟩,
  rfl,o.bare,Un.kept L,⟨_,x.toInCall.ns,λi y v F d V=>?_⟩,λy c h=>⟨_,x.cell y c h⟩,o.hok.fresh (aP _),λy c h=>?_,λp B=>absurd (show p∈([]:Aa (Ad×Obj)) from B) (by simp),o.hok.kept L,?_⟩
 .exact name_of_addr x.apart (cW F) (cW d)
 .have m:g.names.lookup y=some .cell\/g.names.lookup y=some .free:=m;rcases m with m | m
  .exact Kt m
  .exact absurd rfl (S.nofree _ (cW m))
 .exact fK (x.above y c (cW h))
 .have G:i<I.length:=by
   unfold qP at d;by_cases G:i<I.length
   .exact G
   .rw[cZ (by simpa using G)] at d;rw[List.getElem?_replicate] at d;split at d<;>cases d
  have O:I[i]?=some v:=by
   unfold qP at d;rw[eX (by simpa using G),bB] at d;cases e:I[i]? with
   | none=>rw[e] at d;cases d
   | some a=>rw[e] at d;cases d;rfl
  obtain⟨u,M,R⟩:=r.get O;have B:C[i]?=some y:=by
   rw[<- S.pre,List.getElem?_take_of_lt (by omega)];exact F
  have D:C.Nodup:=by rw[<- S.pre];exact S.nd.sublist (List.take_sublist _ _)
  refine⟨u,R,?_⟩;rcases S.par y (aW B) with k | k
  .exact .inl ⟨k,J4 D B M k⟩
  .obtain⟨c,e⟩:=Kt (n:=s.heap.objs.size+1) k;refine .inr ⟨.inl k,c,e,?_⟩;have q:=x.cell y c e;rw[Lo D B M (by show g.names.lookup y≠_;rw[k];decide)] at q;exact q
 .exact o.hok.fresh (fK (x.above y c (cW h)))
 .unfold qP;show _=N.length;rw[bI,aD,eD];omega
theorem Mg {P:Ah}{K:kC}{kV:Ac}
(lk:K.lookup f=some ⟨oc,od,.func (PySem.W.fnOf name l C body g dV kV ab pm an p ct),ae⟩) (ac:PySem.W.codeIn K p l=true) (S:FnScope N ps g)
  (len:∀ T H Q E,sp T H Q E->T.length=ps.length)
  (aa:∀ (A:Around) (j:Aa Env) (s:Ae) (H:Hp) (T:Aa V) (Q:VK) (E:XK),Room k (A.deeper (envOfC l g s.heap.objs.size f p))->sp T H Q E ->∃ t,oM (tO CX P w K mg base N l g f p A j s H E) body t/\t { nx:=λ_ U=>Q .e U,rt:=Q } (qP N T) H) :
  FnOk P w K mg base CX (k+1) f (PySem.W.fnOf name l C body g dV kV ab pm an p ct) ps sp:=by
 refine⟨len,λA j s H args us T Q E m h O r i=>?_⟩;have X:=len _ _ _ _ i;have F:K.In s.heap:=h.mod.kin.keeps λb o e=>(h.bs b o e).1
 have z:s.heap.NoLimit:=h.mod.nolimit.keeps λb o e=>(h.bs b o e).1
 have c:∀ y∈ps.zip us,g.names.lookup y.1=some .local\/(g.names.lookup y.1=some .cell/\((cellsFrom (s.heap.objs.size+1) g.names []).lookup y.1).isSome=true):=λ⟨n,v⟩ hy=>by
  rcases S.par n (kA hy).1 with q | q
  .exact .inl q
  .exact .inr ⟨q,PySem.W.cellsFrom_some _ _ _ (.inl q)⟩
 refine codeAny_call_function m.depth (F _ _ lk) rfl S.co S.gen rfl (PySem.W.codeRec_of F ac) (O _ _ _ _ ?_);refine wpAny_newFunctionEnv_cells S.kind c λL R G x=>?_
 subst R;refine⟨z.keeps x.toInCall.keep,codeAny_func ?_⟩;obtain⟨t,Z,Y⟩:=aa A j s H T Q E (m.deeper _) i;have I:Inv (tO CX P w K mg base N l g f p A j s H E) [] (qP N T) H G:=We S m.hd h X r x;refine cN (Z [] G (qP N T) H _ I Y) (λM D d=>?_) λe D d=>d
 have fin:∀ {a:St} {U:Hp} {v:V} {u:Ac},Inv (tO CX P w K mg base N l g f p A j s H E) [] a U D->kD v u->Q v U->CE j P w H s Q u D :=
  λ{a U v u} J B q=>⟨v,U,J.os,J.bare,J.base,J.hok,B,q⟩
 cases M with
 | ret u =>
  obtain⟨v,a,U,J,B,q⟩:=d;exact fin J B q
 | next =>
  obtain⟨a,U,J,q⟩:=d;exact fin (v:=V.e) (u:=Value.none) J rfl q
 | brk =>
  obtain⟨_,_,_,q⟩:=d;exact False.elim q
 | cont =>
  obtain⟨_,_,_,q⟩:=d;exact False.elim q
section
variable {X:Cx}{id:String}
def Jc (r:Aa V->Hp->VK->Prop) (t:TA):TE:=λc H Q=>t c H λb a=>r b a Q
theorem Tv (C:lS X (.builtin id) r) (J:Gl X x) (T:X.mg x=none) (hv:bootBuiltins x=some (.builtin id)) (o:PA X (e::l) t) (U:x ≠ "__name__" := by decide) (j:(x == ("__debug__" : Af))=false:=by decide)
  (g:StB X e l pos:=by exact {}):PE X (.Call (.Name x p) (e::l) [] pos) (Jc r t):=by
 intro c s d H Q I h;refine gF (uX I J T hv ?_ U j);exact PyProof.Rows.callWith_builtin1 (hL (o pos c s d H _ I h) λq n ⟨u,f,i,m,k⟩=>C c n d f u q Q i m k) g.a g.b
theorem Ob (C:lS X (.type T) r) (J:Gl X x) (U:X.mg x=none) (hv:bootBuiltins x=some (.type T)) (o:PA X (e::l) t) (hn:x ≠ "__name__" := by decide) (j:(x == ("__debug__" : Af))=false:=by decide)
  (g:StB X e l pos:=by exact {}):PE X (.Call (.Name x p) (e::l) [] pos) (Jc r t):=by
 intro c s d H Q I h;refine gF (uX I J U hv ?_ hn j);exact dP (hL (o pos c s d H _ I h) λq n ⟨u,f,i,m,k⟩=>C c n d f u q Q i m k) g.a g.b
end
end L2
namespace HT
open PySem PyProof.Rows
section
theorem cat_tup (J:IsTup s.heap t j.toArray) (I:IsTup s.heap b g.toArray) (o:j≠[])
  (r:g=[]->Q (.ref t) s) (C:g≠[]->Q (.ref s.heap.objs.size) { s with heap:=s.heap.push { cls:=.type "tuple",data:=.seq (j++g).toArray } })
  (l:j.length+g.length<=sizeLine):wpAny (model p w) A (binaryOp .Add (.ref t) (.ref b)) Q E s:=by
 obtain⟨⟨cls,m,data,v⟩,i,q,n,hd⟩:=id J;obtain⟨⟨k,c,data2,h⟩,a,d,u,f⟩:=id I;simp only at q hd d f;subst q hd d f;have e:j.toArray++g.toArray=(j++g).toArray:=by simp
 by_cases hw:g=[]
 .exact concat_meets ⟨_,i,rfl⟩ ⟨_,a,rfl⟩ noFill_tuple_add seq_tuple_add iN iF (hG _ _)
   (tuple_addW1 t b j.toArray g.toArray n u m c v h (by simpa using o) (by simp[hw])) ⟨i,a,r hw⟩
 .refine concat_meets ⟨_,i,rfl⟩ ⟨_,a,rfl⟩ noFill_tuple_add seq_tuple_add iN iF (hG _ _)
   (tuple_addW2 t b j.toArray g.toArray n u m c v h (by simpa using o) (by simpa using hw) (by rw[aK,aK];exact l)) ⟨i,a,?_⟩
  rw[e];exact C hw
noncomputable def sIx (n d:Nat):Ab Int->Nat
 | none=>d
 | some v=>if v<0 then (v+(n:Int)).toNat else min v.toNat n
theorem sIx_none (n d:Nat):sIx n d none=d:=rfl
theorem sIx_nat (n d k:Nat):sIx n d (some (k:Int))=min k n:=by
 show (if (k:Int)<0 then ((k:Int)+(n:Int)).toNat else min (k:Int).toNat n)=min k n;rw[aE (by omega),bQ]
theorem sIx_le (n d:Nat) (hd:d<=n) (o:Ab Int):sIx n d o<=n:=by
 cases o with
 | none=>exact hd
 | some v =>
  show (if v<0 then (v+(n:Int)).toNat else min v.toNat n)<=n;by_cases a:v<0
  .rw[aH a];omega
  .rw[aE a];exact Nat.min_le_right _ _
theorem Fi (v:Int) (n d:Nat):(if v<0 then max (v+(n:Int)) 0 else min v (n:Int))=((sIx n d (some v):Nat):Int):=by
 show (if v<0 then max (v+(n:Int)) 0 else min v (n:Int))=(((if v<0 then (v+(n:Int)).toNat else min v.toNat n):Nat):Int);by_cases a:v<0
 .simp only[aH a];omega
 .simp only[aE a];omega
theorem Sm (lo g:Ab Int) (n:Nat):Builtin.Slice.sliceAdjust lo g 1 (n:Int)=(((sIx n 0 lo:Nat):Int),((sIx n n g:Nat):Int)):=by
 have a:¬ ((1:Int)<0):=by omega
 unfold Builtin.Slice.sliceAdjust;simp only[a,dL];refine Prod.ext ?_ ?_
 .cases lo with
  | none=>rfl
  | some v=>exact Fi v n 0
 .cases g with
  | none=>rfl
  | some v=>exact Fi v n n
theorem Oj (i j:Nat):Builtin.Slice.slicePlaces (i:Int) (j:Int) 1=j-i:=by
 unfold Builtin.Slice.slicePlaces;have a:(1:Int)>0:=by omega
 simp only[a,eF,Int.ediv_one];split<;>omega
theorem Jr (p:IsPart v o) (h:Q o s):wpAny (model g w) A (Builtin.Slice.slicePartIndex v) Q E s:=by
 cases p with
 | none=>exact slicePart_none h
 | int i t=>exact slicePart_int h
theorem M7 {p:Ad}{j l:Ac}{lo g:Ab Int}{n:Nat}{Q:Int×Int×Nat->Ae->Prop}(r:s.heap.IsSliceOf p j l .none) (C:IsPart j lo) (I:IsPart l g)
  (h:Q (((sIx n 0 lo:Nat):Int),1,sIx n n g-sIx n 0 lo) s):wpAny (model o w) A (Builtin.Slice.sliceApplied (.ref p) (pure (n:Int))) Q E s:=by
 obtain⟨os,b,c,a⟩:=id r;unfold Builtin.Slice.sliceApplied Builtin.Slice.sliceFields;refine aA (aA (cK b a (x:=j) rfl (aA (cK b a (x:=l) rfl (aA (cK b a (x:=.none) rfl (aB ?_)))))));refine aA (slicePart_none ?_);show wpAny _ _ (if ((1:Int) == 0)=true then _ else _) _ _ s;rw[aE (by decide)];refine aA (Jr C (aA (Jr I (aA (aB ?_)))));show wpAny _ _ (match Builtin.Slice.sliceAdjust lo g 1 (n:Int) with | (lo,g)=>pure (lo,(1:Int),Builtin.Slice.slicePlaces lo g 1)) _ _ s;rw[Sm lo g n];show wpAny _ _ (pure (((sIx n 0 lo:Nat):Int),(1:Int),Builtin.Slice.slicePlaces ((sIx n 0 lo:Nat):Int) ((sIx n n g:Nat):Int) 1)) _ _ s;rw[Oj];exact aB h
theorem Ot (g:Array Ac) (i k:Nat):((List.range k).filterMap λ(m:Nat)=>g[((i:Int)+(m:Int)*1).toNat]?).toArray=((g.toList.drop i).take k).toArray:=by
 have e:(λ(m:Nat)=>g[((i:Int)+(m:Int)*1).toNat]?)=λm=>g[i+m]?:=by
  funext m
  have:((i:Int)+(m:Int)*1).toNat=i+m:=by omega
  rw[this]
 rw[e];have:=pick_run g i k;rw[List.filterMap_map] at this;have a:((λx=>g[x]?)∘λx=>i+x)=λm=>g[i+m]?:=rfl
 rw[a] at this;rw[this]
theorem getItem_tuple_cut {lo:Ab Int}(j:IsTup s.heap t items) (l:s.heap.IsSliceOf p J T .none) (C:IsPart J lo) (I:IsPart T g)
  (hw:¬ (sIx items.size 0 lo=0/\sIx items.size items.size g=items.size))
  (h:Q (.ref s.heap.objs.size) { s with heap:=s.heap.push { cls:=.type "tuple",data:=.seq ((items.toList.drop (sIx items.size 0 lo)).take (sIx items.size items.size g-sIx items.size 0 lo)).toArray } })
  (r:items.size<=sizeLine):wpAny (model o w) A (getItem (.ref t) (.ref p)) Q E s:=by
 have a:sizeOk (.seq ((items.toList.drop (sIx items.size 0 lo)).take (sIx items.size items.size g-sIx items.size 0 lo)).toArray):=by
  show ((items.toList.drop (sIx items.size 0 lo)).take (sIx items.size items.size g-sIx items.size 0 lo)).toArray.size<=sizeLine;rw[aK,bY,eT,fV];omega
 have i:sIx items.size items.size g<=items.size:=sIx_le _ _ (aP _) g;obtain⟨os,e,c,f⟩:=id l;have b:s.TypeIs (.ref p) "slice" := ⟨os,e,c⟩;unfold getItem
 try with_reducible refine bF ?_
 first | refine aA (aB ?_) | skip
 refine aA (wpAny_sequenceKey j.typeIs (by decide) ?_);refine aA (bK (name:=Str.ofString "__getitem__") j.typeIs fU (bU fU j.typeIs entry_tuple_getitem ?_ (args_tuple_getitem _ _)));show wpAny _ _ (Builtin.Tuple.tupleItemsOf (.ref t) >>= _) _ _ s;refine aA (tupleItemsOf_ j ?_);refine aA (eO b ?_);rw[aH (by decide)];refine aA (M7 l C I ?_);have d:¬ ((((sIx items.size 0 lo:Nat):Int) == 0&&(1:Int) == 1&&(sIx items.size items.size g-sIx items.size 0 lo) == items.size)=true):=by
  intro q;rw[cM,cM] at q;have k:((sIx items.size 0 lo:Nat):Int)=0:=eq_of_beq q.1.1;have n:sIx items.size items.size g-sIx items.size 0 lo=items.size:=eq_of_beq q.2;exact hw ⟨by omega,by omega⟩
 show wpAny _ _ (if (((sIx items.size 0 lo:Nat):Int) == 0&&(1:Int) == 1&&(sIx items.size items.size g-sIx items.size 0 lo) == items.size)=true then _ else _) _ _ s;rw[aE d,Ot]
 first
  | exact aA (m:=Builtin.Tuple.tupleExact _) (dU (aB ⟨_,rfl,aB h⟩) a)
  | exact aA (m:=Builtin.Tuple.tupleExact _) (dU (aA (aB (aB ⟨_,rfl,aB h⟩))) a)
  | exact aA (aA (m:=Builtin.Tuple.tupleExact _) (dU (aB (aB ⟨_,rfl,aB h⟩)) a))
  | exact aA (aA (m:=Builtin.Tuple.tupleExact _) (dU (aB ⟨_,rfl,aB h⟩) a))
end
end HT
namespace L2
open PySem PySem.Spec PyProof.Rows
abbrev TO:=St->Hp->(Ab Int->Hp->Prop)->Prop
def PO (X:Cx) (e:Ab Expr) (t:TO):Prop :=
 ∀ (a:Aa (Ad×Obj)) (s:Ae) (b:St) (H:Hp) (Q:Ab Int->Hp->Prop),Inv X a b H s->t b H Q ->
  wpAny (model X.prog X.w) X.A (evalPart e X.env) (λu d=>∃ o c,Inv X a b c d/\IsPart u o/\Q o c) X.xe s
def Fm:TO:=λ_ H Q=>Q none H
def K0 (t:TE):TO:=λb H Q=>t b H λx a=>∃ i,x = .int i/\Q (some i) a
section
variable {X:Cx}{lo:Ab Expr}
theorem Wy:PO X none Fm:=by
 intro a s b H Q I h;rw[evalPart_none];exact aB ⟨none,H,I,.none,h⟩
theorem Wd (h:PE X e g):PO X (some e) (K0 g):=by
 intro a s m H Q I hw;rw[evalPart_some];refine hL (h a s m H _ I hw) λu n b=>?_
 obtain⟨x,c,d,k,f⟩:=b;obtain⟨i,rfl,q⟩:=f;obtain⟨t,rfl⟩:=k;exact⟨some i,c,d,.int i t,q⟩
def rM (X:Cx) (r:V->Ab Int->Ab Int->Hp->VK->Prop):Prop :=
 ∀ (a:Aa (Ad×Obj)) (s:Ae) (f:St) (H:Hp) (x:V) (v d e:Ac) (lo b:Ab Int) (c:Ad) (Q:VK),Inv X a f H s->kD x v->s.heap.IsSliceOf c d e .none->IsPart d lo->IsPart e b->r x lo b H Q ->
  ∃ T id,typeLookup (.type T) "__getitem__" = pure (some (.builtin id))/\s.TypeIs v T/\wpAny (model X.prog X.w) X.A (getItem v (.ref c)) (EP X a f Q) X.xe s
theorem rM.or (h:rM X r) (j:rM X l):rM X (λx lo g H Q=>r x lo g H Q\/l x lo g H Q):=by
 intro a s m H x v i k lo g f Q I e b c d q;rcases q with q | q
 .exact h a s m H x v i k lo g f Q I e b c d q
 .exact j a s m H x v i k lo g f Q I e b c d q
def Od (r:V->Ab Int->Ab Int->Hp->VK->Prop) (g:TE) (j th:TO):TE:=λa H Q=>g a H λx b=>j a b λl c=>th a c λu d=>r x l u d Q
theorem T7 (p:rM X r) (j:PE X e U) (o:PO X lo tl) (C:PO X g th):PE X (.Subscript e (.Slice lo g none J) pos) (Od r U tl th):=by
 intro a s f H Q I h;refine Subscript_ (hL (j a s f H _ I h) λv R d=>?_);obtain⟨x,n,y,P,M⟩:=d;refine wpAny_Slice (hL (o a R f n _ y M) λi S ⟨l,t,z,K,N⟩=>hL (C a S f t _ z N) λk c d=>?_);obtain⟨u,m,B,L,O⟩:=d;rw[evalPart_none];refine aB ?_;have D:Inv X a f m { c with heap:=c.heap.push { cls:=.type "slice",data:=.fields #[i,k,.none] } }:=B.kept (t':=c.toks) λb V q=>aF _ q
 obtain⟨T,id,E,G,F⟩:=p a { c with heap:=c.heap.push { cls:=.type "slice",data:=.fields #[i,k,.none] } } f m x v i k l u c.heap.objs.size Q D P (Heap.IsSliceOf.new ..) K L O;show wpAny (model X.prog X.w) X.A (subscriptTail e (.Slice lo g none J) v (.ref c.heap.objs.size)) (EP X a f Q) X.xe { c with heap:=c.heap.push { cls:=.type "slice",data:=.fields #[i,k,.none] } };exact tail_any (ops:=[.ref c.heap.objs.size,v]) G E F (by with_unfolding_all rfl)
def sX (g:Aa V) (lo j:Ab Int):Aa V:=(g.drop (HT.sIx g.length 0 lo)).take (HT.sIx g.length g.length j-HT.sIx g.length 0 lo)
theorem Hn (g:Aa V) (lo j:Ab Int):(sX g lo j).length<=g.length:=by
 unfold sX;rw[bY,eT];omega
def Hz (K:kC):V->Ab Int->Ab Int->Hp->VK->Prop:=λx lo c H Q=>∃ a b,x = .ref a/\kO K H a b /\
 ¬ (HT.sIx b.length 0 lo=0/\HT.sIx b.length b.length c=b.length)/\∀ p,H p=none->Q (.ref p) (upd H p (.t (sX b lo c)))
theorem S1:rM X (Hz X.K):=by
 intro m s F H x v D E lo e B Q I z n w y h;obtain⟨a,d,rfl,u,hw,q⟩:=h;cases z;obtain⟨f,r,i,k⟩:=I.tuple u;have c:f.toArray.size=d.length:=by rw[aK];exact r.length.symm
 refine⟨"tuple",_,fU.lookup,i.typeIs,?_⟩;refine HT.getItem_tuple_cut i n w y (by rw[c];exact hw) ?_ (by rw[c];exact k);rw[c];refine⟨.ref s.heap.objs.size,_,I.laid (t':=s.toks) (o:=.t (sX d lo e)) (λb A q=>aF _ q) (aP _) ?_,rfl,q _ (I.hok.fresh (aP _))⟩;exact⟨bS (Hn d lo e) k,_,(r.drop (HT.sIx d.length 0 lo)).take (HT.sIx d.length d.length e-HT.sIx d.length 0 lo),tM.new _ _⟩
def Lz (K:kC):R2:=λx y H Q=>∃ a b d c,x = .ref a/\y = .ref b/\kO K H a d/\kO K H b c/\d≠[]/\d.length+c.length<=sizeLine /\
 (c=[]->Q (.ref a) H)/\(c≠[]->∀ p,H p=none->Q (.ref p) (upd H p (.t (d++c))))
theorem kF.nil_iff (r:kF j g):g=[]↔j=[]:=by
 cases r with
 | nil=>simp
 | cons _ _=>simp
theorem Zg:kP X (binaryOp .Add) (Lz X.K):=by
 intro i s P H x y v u Q I G L h;obtain⟨a,b,M,N,rfl,rfl,k,m,n,e,E,F⟩:=h;cases G;cases L;obtain⟨A,d,B,_⟩:=I.tuple k;obtain⟨f,c,D,_⟩:=I.tuple m;refine HT.cat_tup B D (λz=>n (d.nil_iff.mp z)) (λz=>⟨.ref a,H,I,rfl,E (c.nil_iff.mp z)⟩) (λz=>?_) (by rw[<- d.length,<- c.length];exact e);refine⟨.ref s.heap.objs.size,_,I.laid (t':=s.toks) (o:=.t (M++N)) (λb O q=>aF _ q) (aP _) ?_,rfl,F (λw=>z (c.nil_iff.mpr w)) _ (I.hok.fresh (aP _))⟩;exact⟨by rw[bI];exact e,_,d.append c,tM.new _ _⟩
end
noncomputable def sR (n:Nat) (i:Int):Ab Nat:=if 0<=i then (if i<n then some i.toNat else none) else if -(n:Int)<=i then some (i+n).toNat else none
def mC {l:Type}(g:Aa l) (i:Int):Ab l:=(sR g.length i).bind λj=>g[j]?
theorem Kb (h:sR n i=some j):seqIndex? i n=some j/\j<n/\-(n:Int)<=i/\i<n:=by
 unfold sR at h;by_cases b:0<=i
 .rw[aH b] at h;by_cases a:i<n
  .rw[aH a] at h;have e:i.toNat=j:=bO h;exact⟨by rw[seqIndex_of b a,e],by omega,by omega,a⟩
  .rw[aE a] at h;cases h
 .rw[aE b] at h;by_cases a:-(n:Int)<=i
  .rw[aH a] at h;have e:(i+n).toNat=j:=bO h;exact⟨by rw[seqIndex_neg (by omega) a,e],by omega,a,by omega⟩
  .rw[aE a] at h;cases h
theorem D0 (h:mC g i=some v):∃ j,seqIndex? i g.length=some j/\g[j]?=some v/\j<g.length/\-(g.length:Int)<=i/\i<g.length:=by
 unfold mC at h;cases e:sR g.length i with
 | none=>rw[e] at h;cases h
 | some j =>
  rw[e] at h;obtain⟨a,b,c,d⟩:=Kb e;exact⟨j,a,h,b,c,d⟩
theorem wT {l:Type}{g:Aa l}{j:Nat}{v:l}(h:g[j]?=some v):mC g (j:Int)=some v:=by
 have a:j<g.length:=(aG.mp h).1;have e:sR g.length (j:Int)=some j:=by
  unfold sR;rw[aH (by omega),aH (by omega)];simp
 unfold mC;rw[e];exact h
def B1 (b:Expr):Prop:=∀ o i,subscripted b false o i=operate [o,i] (getItem o i)
def qR (X:Cx) (r:R2):Prop :=
 ∀ (value slice:Expr) (a:Aa (Ad×Obj)) (s:Ae) (b:St) (H:Hp) (x y:V) (v u:Ac) (Q:VK),Inv X a b H s->kD x v->kD y u->r x y H Q ->
  subscripted slice false v u=operate [v,u] (getItem v u)->wpAny (model X.prog X.w) X.A (subscriptTail value slice v u) (EP X a b Q) X.xe s
def zR (X:Cx) (id:String) (r:V->Aa V->Hp->VK->Prop):Prop :=
 ∀ (a:Aa (Ad×Obj)) (s:Ae) (d:St) (H:Hp) (x:V) (c:Aa V) (v:Ac) (b:Aa Ac) (Q:VK),Inv X a d H s->kD x v->kF c b->r x c H Q ->
  wpAny (model X.prog X.w) X.A (call (.builtin id) (v::b)) (EP X a d Q) X.xe s
section
variable {X:Cx}
theorem qR.or (h:qR X r) (g:qR X j):qR X (λx y H Q=>r x y H Q\/j x y H Q):=by
 intro value slice a s e H x y v u Q I c d q b;rcases q with q | q
 .exact h value slice a s e H x y v u Q I c d q b
 .exact g value slice a s e H x y v u Q I c d q b
theorem Fb (l:qR X r) (g:PE X a p) (j:PE X b C) (o:B1 b):PE X (.Subscript a b pos) (Bl r p C):=by
 intro c s m H Q I h;exact Subscript_ (Dl g j I h λv u k x y d e f i q=>l a b c k m d x y v u Q e f i q (o _ _))
def Lq (K:kC):R2:=λx y H Q=>∃ p a i v,x = .ref p/\y = .int i/\kK K H p a/\mC a i=some v/\Q v H
def Ln (K:kC):R2:=λx y H Q=>∃ p a i v,x = .ref p/\y = .int i/\kO K H p a/\mC a i=some v/\Q v H
def Im:R2:=λx y H Q=>∃ z i c,x = .str z/\y = .int i/\z.length<=sizeLine/\mC z.cps.toList i=some c/\Q (.str ⟨#[c]⟩) H
theorem Vt:qR X (Lq X.K):=by
 intro value slice a s A H x y v u Q I M N h n;obtain⟨p,V,i,z,rfl,rfl,L,F,q⟩:=h;cases M;obtain⟨t,rfl⟩:=N;obtain⟨d,r,e,S⟩:=I.list L;obtain⟨j,b,B,P,D,E⟩:=D0 F;obtain⟨w,k,f⟩:=r.get B;have G:=r.length;have R:=uM;have fin:EP X a A Q w s:=⟨z,H,I,f,q⟩;by_cases m:0<=i
 .have c:i.toNat=j:=by
   rw[seqIndex_of m E] at b;exact bO b
  exact item_listR e.isList m (by omega) (by rw[c];simpa using k) fin n
 .have c:(i+(d.toArray.size:Int)).toNat=j:=by
   rw[seqIndex_neg (by omega) D] at b;rw[aK,<- G];exact bO b
  exact subscriptTail_builtinR (x:=w) e.isList.typeIs slot_list_getitem.lookup
   (wpAny_getItem_list_neg (Q:=λr O=>r=w/\EP X a A Q r O) e.isList (by omega) (by rw[aK]<;>omega) (by omega) (by rw[c];simpa using k) ⟨rfl,fin⟩) n
theorem V6:qR X (Ln X.K):=by
 intro value slice a s d H x y v u Q I E F h B;obtain⟨p,R,i,z,rfl,rfl,A,m,q⟩:=h;cases E;obtain⟨t,rfl⟩:=F;obtain⟨D,r,c,P⟩:=I.tuple A;obtain⟨j,f,k,L,M,N⟩:=D0 m;obtain⟨w,e,b⟩:=r.get k;have n:=r.length;have O:=uM;have fin:EP X a d Q w s:=⟨z,H,I,b,q⟩;exact subscriptTail_builtinR (x:=w) c.typeIs slot_tuple_getitem.lookup
  (getItem_tuple (j:=j) (Q:=λr G=>r=w/\EP X a d Q r G) c (by omega) (by omega) (by rw[aK,<- n];exact f) (by simpa using e) ⟨rfl,fin⟩) B
theorem Zj:qR X Im:=by
 intro value slice b s L H x y v u Q I B D h A;obtain⟨z,i,c,rfl,rfl,G,n,q⟩:=h;obtain⟨t,rfl⟩:=B;obtain⟨K,rfl⟩:=D;obtain⟨j,a,f,E,k,m⟩:=D0 n;have w:z.cps.toList.length=z.length:=by simp[Str.length]
 rw[w] at a k m;have F:=uM;exact tail_any (typeIs_str s z t) slot_str_getitem.lookup (getItem_str (c:=c) (by
  have d:decide (i < -(2 ^ 63:Int))=false:=bJ (by omega);have e:decide (i>=2 ^ 63)=false:=bJ (by omega);rw[d,e,Bool.or_false]) (by rw[a];simpa using f) ⟨.str ⟨#[c]⟩,H,I.tok _,⟨_,rfl⟩,q⟩) A
def Ii (K:kC):R2:=λx y H Q=>Lq K x y H Q\/Ln K x y H Q\/Im x y H Q
theorem Og:qR X (Ii X.K):=Vt.or (V6.or Zj)
theorem Xr (g:Aa Ac) (n j:Nat) (u:Ac):Obj.mapSeq (·.setIfInBounds j u) { cls:=.type "list",data:=.seq g.toArray n }={ cls:=.type "list",data:=.seq (g.set j u).toArray n }:=by
 simp[Obj.mapSeq]
theorem Inv.lst {j:Aa (Ad×Obj)}{C:St}{H:Hp}{s:Ae}{p:Ad}{o:Aa V}(I:Inv X j C H s) (h:H p=some (.l o)) :
  ∃ (g:Aa Ac) (n:Nat),kF o g/\s.heap.get? p=some { cls:=.type "list",data:=.seq g.toArray n }/\o.length<=sizeLine:=by
 obtain⟨z,g,n,r,e⟩:=I.hok p _ h;exact⟨g,n,r,e,z⟩
theorem Inv.lstUpd {j:Aa Ac}(I:Inv X o σ H s) (h:H p=some (.l xs))
  (U:s.heap.get? p=some { cls:=.type "list",data:=.seq j.toArray n }) (C:f { cls:=.type "list",data:=.seq j.toArray n }={ cls:=.type "list",data:=.seq g.toArray J }) (r:kF T g) (hz:T.length<=sizeLine) (t:Nat) :
  Inv X o σ (upd H p (.l T)) { s with heap:=s.heap.update p f,toks:=t }:=by
 have e:(s.heap.update p f).get? p=some { cls:=.type "list",data:=.seq g.toArray J }:=by
  rw[eW f U (by rw[C]<;>rfl),C]
 refine I.write (x:=p) (e:=p) (by rw[h];trivial) (.inl rfl) (λb u a q=>(Heap.get?_update_other _ _ (dH a)).trans q) ⟨_,e⟩ ?_;exact⟨hz,g,J,r,e⟩
def Iv:V->V->V->Hp->(Hp->Prop)->Prop:=λo i v H Q=>∃ p a k j,o = .ref p/\i = .int k/\H p=some (.l a)/\sR a.length k=some j/\Q (upd H p (.l (a.set j v)))
theorem Ys:D2 X Iv:=by
 intro b s K H o i v N iv u Q I E D F h;obtain⟨p,G,k,j,rfl,rfl,z,A,q⟩:=h;cases E;obtain⟨t,rfl⟩:=D;obtain⟨a,n,r,f,B⟩:=I.lst z;obtain⟨c,L,x,y⟩:=Kb A;have e:=r.length;have M:=uM;have m:Inv X b K (upd H p (.l (G.set j v))) { s with heap:=s.heap.update p (Obj.mapSeq (·.setIfInBounds j u)) } :=
  I.lstUpd z f (Xr a n j u) (r.set F j) (by rw[bL];exact B) s.toks
 by_cases w:0<=k
 .have d:k.toNat=j:=by
   rw[seqIndex_of w y] at c;exact bO c
  exact PySem.W.ki_setAt f w (by omega) (by rw[aK,<- e];exact y) (by rw[d];exact⟨_,m,q⟩)
 .have d:(k+(a.toArray.size:Int)).toNat=j:=by
   rw[seqIndex_neg (by omega) x] at c;rw[aK,<- e];exact bO c
  exact PySem.W.ki_setBack f (by omega) (by rw[aK,<- e];exact x) (by omega) (by rw[d];exact⟨_,m,q⟩)
theorem Ni (lo g:Ab Int) (n:Nat):(sliceBounds lo g none n).1=((HT.sIx n 0 lo:Nat):Int)/\(sliceBounds lo g none n).2.1=((HT.sIx n n g:Nat):Int)/\(sliceBounds lo g none n).2.2=1:=by
 refine⟨?_,?_,rfl⟩
 .cases lo with
  | none=>simp[sliceBounds,HT.sIx]
  | some i =>
   simp only[sliceBounds,HT.sIx,Option.getD_none,show (1:Int)>0 by decide,eF];by_cases h:i<0
   .simp only[h,eF]<;>omega
   .simp only[h,dL]<;>omega
 .cases g with
  | none=>simp[sliceBounds,HT.sIx]
  | some i =>
   simp only[sliceBounds,HT.sIx,Option.getD_none,show (1:Int)>0 by decide,eF];by_cases h:i<0
   .simp only[h,eF]<;>omega
   .simp only[h,dL]<;>omega
theorem Vu (g:Aa Ac) (lo j:Ab Int):slicePick g.toArray lo j none=((g.drop (HT.sIx g.length 0 lo)).take (HT.sIx g.length g.length j-HT.sIx g.length 0 lo)).toArray:=by
 obtain⟨a,b,c⟩:=Ni lo j g.toArray.size;unfold slicePick;rw[a,b,c];simp only[sliceRange_one,pick_run,aK]<;>rfl
def Ft (K:kC):V->Ab Int->Ab Int->Hp->VK->Prop:=λx lo c H Q=>∃ a b,x = .ref a/\kK K H a b/\∀ p,H p=none->Q (.ref p) (upd H p (.l (sX b lo c)))
theorem O7:rM X (Ft X.K):=by
 intro i s E H x v B D lo e A Q I y k u w h;obtain⟨a,c,rfl,m,q⟩:=h;cases y;obtain⟨t,r,f,n⟩:=I.list m;have d:=r.length;refine⟨"list",_,slot_list_getitem.lookup,f.isList.typeIs,?_⟩;refine wpAny_getItem_list_slice f.isList k u w .none (by simp) ?_ (by rw[aK]<;>omega);rw[Vu,<- d];refine⟨.ref s.heap.objs.size,_,I.laid (t':=s.toks) (o:=.l (sX c lo e)) (λb z q=>aF _ q) (aP _) ?_,rfl,q _ (I.hok.fresh (aP _))⟩;exact⟨bS (Hn c lo e) n,_,0,(r.drop (HT.sIx c.length 0 lo)).take (HT.sIx c.length c.length e-HT.sIx c.length 0 lo),aU _ rfl⟩
def rJ:V->Bool
 | .e=>true
 | .b _=>true
 | .int _=>true
 | .str _=>true
 | _=>false
noncomputable def qO:V->V->Bool
 | .e,.e=>true
 | .b a,.b b=>a == b
 | .b a,.int b=>(if a then 1 else 0) == b
 | .int a,.b b=>a == (if b then 1 else 0)
 | .int a,.int b=>a == b
 | .str a,.str b=>a == b
 | _,_=>false
theorem N6 (l:kD y u) (g:kD x v) (o:rJ y=true) (j:rJ x=true):SeqAt.EqAt A s u v (qO y x):=by
 cases y with
 | e =>
  cases l;cases x with
  | e=>cases g;exact SeqAt.EqAt.same _
  | b b=>cases g;exact SeqAt.EqAt.none_bool b
  | int b=>obtain⟨t,rfl⟩:=g;exact SeqAt.EqAt.none_int b t
  | str b=>obtain⟨t,rfl⟩:=g;exact SeqAt.EqAt.none_str b t
  | _=>exact absurd (show false=true from j) aR
 | b a =>
  cases l;cases x with
  | e=>cases g;exact SeqAt.EqAt.bool_none a
  | b b=>cases g;exact SeqAt.EqAt.bool_bool a b
  | int b=>obtain⟨t,rfl⟩:=g;exact SeqAt.EqAt.bool_int a b t
  | str b=>obtain⟨t,rfl⟩:=g;exact SeqAt.EqAt.bool_str a b t
  | _=>exact absurd (show false=true from j) aR
 | int a =>
  obtain⟨c,rfl⟩:=l;cases x with
  | e=>cases g;exact SeqAt.EqAt.int_none a c
  | b b=>cases g;exact SeqAt.EqAt.int_bool a c b
  | int b=>obtain⟨t,rfl⟩:=g;exact SeqAt.EqAt.int_int a c b t
  | str b=>obtain⟨t,rfl⟩:=g;exact SeqAt.EqAt.int_str a c b t
  | _=>exact absurd (show false=true from j) aR
 | str a =>
  obtain⟨c,rfl⟩:=l;cases x with
  | e=>cases g;exact SeqAt.EqAt.str_none a c
  | b b=>cases g;exact SeqAt.EqAt.str_bool a c b
  | int b=>obtain⟨t,rfl⟩:=g;exact SeqAt.EqAt.str_int a c b t
  | str b=>obtain⟨t,rfl⟩:=g;exact SeqAt.EqAt.str_str a c b t
  | _=>exact absurd (show false=true from j) aR
 | _=>exact absurd (show false=true from o) aR
def pD (x:V) (u:Ac):Bool:=match u with
 | .none=>qO .e x
 | .bool b=>qO (.b b) x
 | .int i _=>qO (.int i) x
 | .str z _=>qO (.str z) x
 | _=>false
theorem G1 (r:kD y u) (f:rJ y=true):pD x u=qO y x:=by
 cases y with
 | e=>cases r;rfl
 | b b=>cases r;rfl
 | int i=>obtain⟨t,rfl⟩:=r;rfl
 | str z=>obtain⟨t,rfl⟩:=r;rfl
 | _=>exact absurd (show false=true from f) aR
theorem xH:∀ {g:Aa V}{j:Aa Ac},kF g j->g.all rJ=true->j.any (pD x)=g.any λy=>qO y x
 | _,_,.nil,_=>rfl
 | y::g,u::j,.cons r t,f=>by
  rw[List.all_cons,cM] at f;rw[eR,eR,G1 r f.1,xH t f.2]
theorem yQ (o:kD x v) (l:rJ x=true):∀ {j:Aa V}{g:Aa Ac},kF j g->j.all rJ=true->∀ u∈g,SeqAt.EqAt A s u v (pD x u)
 | _,_,.nil,_=>λu a=>by cases a
 | y::j,u::g,.cons r t,f=>λb a=>by
  rw[List.all_cons,cM] at f;rcases aJ.mp a with rfl | a
  .rw[G1 r f.1];exact N6 r o f.1 l
  .exact yQ o l t f.2 b a
def vK (x:V) (g:Aa V):Bool:=g.any λy=>qO y x
def B5 (K:kC) (neg:Bool):R2:=λx y H Q=>∃ p a,y = .ref p/\(kK K H p a\/kO K H p a)/\rJ x=true/\a.all rJ=true/\Q (.b (if neg then !vK x a else vK x a)) H
theorem Vf:kP X (compareOp .In) (B5 X.K false):=by
 intro f s t H x y v u Q I i m h;obtain⟨p,n,rfl,c,e,fs,q⟩:=h;cases m;rcases c with c | c
 .obtain⟨a,r,d,k⟩:=I.list c;refine SeqAt.in_listAt (pD x) d.isList (λw hw=>yQ i e r fs w (by simpa using hw)) ⟨.b _,H,I,rfl,?_⟩;rw[show a.toArray.any (pD x)=a.any (pD x) by simp,xH r fs];exact q
 .obtain⟨a,r,d,k⟩:=I.tuple c;refine SeqAt.in_tupleAt (pD x) d (λw hw=>yQ i e r fs w (by simpa using hw)) ⟨.b _,H,I,rfl,?_⟩;rw[show a.toArray.any (pD x)=a.any (pD x) by simp,xH r fs];exact q
theorem T3:kP X (compareOp .NotIn) (B5 X.K true):=by
 intro f s t H x y v u Q I i m h;obtain⟨p,n,rfl,c,e,fs,q⟩:=h;cases m;rcases c with c | c
 .obtain⟨a,r,d,k⟩:=I.list c;refine SeqAt.notIn_listAt (pD x) d.isList (λw hw=>yQ i e r fs w (by simpa using hw)) ⟨.b _,H,I,rfl,?_⟩;rw[show a.toArray.any (pD x)=a.any (pD x) by simp,xH r fs];exact q
 .obtain⟨a,r,d,k⟩:=I.tuple c;refine SeqAt.notIn_tupleAt (pD x) d (λw hw=>yQ i e r fs w (by simpa using hw)) ⟨.b _,H,I,rfl,?_⟩;rw[show a.toArray.any (pD x)=a.any (pD x) by simp,xH r fs];exact q
theorem Ur:lS X (.builtin "len") (λj H Q=>∃ p g,j=[.ref p]/\(kK X.K H p g\/kO X.K H p g)/\Q (.int g.length) H):=by
 intro f s t H j n Q I r h;obtain⟨p,g,rfl,b,q⟩:=h;obtain⟨u,rfl,k⟩:=oV r;cases k;have m:=uM;rcases b with b | b
 .obtain⟨c,e,d,i⟩:=I.list b;have a:=e.length;exact Calls.call_len_list d.isList (by simp only[aK]<;>omega) ⟨.int g.length,H,I.tok _,⟨s.toks+1,by rw[aK,a]⟩,q⟩
 .obtain⟨c,e,d,i⟩:=I.tuple b;have a:=e.length;exact len_tuple d (by simp only[aK]<;>omega) ⟨.int g.length,H,I.tok _,⟨s.toks+1,by rw[aK,a]⟩,q⟩
theorem Q0:lS X (.builtin "len") (λg H Q=>∃ z,g=[.str z]/\z.length<=sizeLine/\Q (.int z.length) H):=by
 intro a s e H g d Q I r h;obtain⟨z,rfl,c,q⟩:=h;obtain⟨u,rfl,t,rfl⟩:=oV r;have b:=uM;exact len_str (by omega) ⟨.int z.length,H,I.tok _,⟨_,rfl⟩,q⟩
theorem lS.or (h:lS X f r) (j:lS X f l):lS X f (λg H Q=>r g H Q\/l g H Q):=by
 intro a s d H g c Q I b q;rcases q with q | q
 .exact h a s d H g c Q I b q
 .exact j a s d H g c Q I b q
theorem B9:lS X (.type "list") (λj H Q=>∃ p g,j=[.ref p]/\(kK X.K H p g\/kO X.K H p g)/\∀ l,H l=none->Q (.ref l) (upd H l (.l g))):=by
 intro v s D H j E Q I r h;obtain⟨p,g,rfl,k,q⟩:=h;obtain⟨u,rfl,B⟩:=oV r;cases B;have fin:∀ (a:Aa Ac),kF g a->g.length<=sizeLine->∀ (c:Ag) (d:Nat),(∀ b A,s.heap.get? b=some A->c.get? b=some A) ->
   c.get? s.heap.objs.size=some { cls:=.type "list",dict:=none,data:=.seq a.toArray d,slots:=#[] }->EP X v D Q (.ref s.heap.objs.size) { s with heap:=c }:=λa f m c d t e =>
  ⟨.ref s.heap.objs.size,_,I.laid (t':=s.toks) t (aP _) (show lM X.prog X.w _ c _ (.l g) from ⟨m,a,d,f,e⟩),rfl,q _ (I.hok.fresh (aP _))⟩
 rcases k with k | k
 .obtain⟨a,f,z,m⟩:=I.list k;have i:=f.length;obtain⟨o,y,x,n,hd⟩:=z.isList;exact call_list_seq p (.inl rfl) y x hd (λc d t e=>fin a f m c d t e) (by simp only[aK]<;>omega)
 .obtain⟨a,f,z,m⟩:=I.tuple k;have i:=f.length;obtain⟨o,y,x,n,hd⟩:=z;exact call_list_seq p (.inr rfl) y x hd (λc d t e=>fin a f m c d t e) (by simp only[aK]<;>omega)
theorem tE:lS X (.type "tuple") (λj H Q=>∃ p g,j=[.ref p]/\((kK X.K H p g/\∀ l,H l=none->Q (.ref l) (upd H l (.t g)))\/(kO X.K H p g/\Q (.ref p) H))):=by
 intro a s x H j B Q I r h;obtain⟨p,g,rfl,h⟩:=h;obtain⟨u,rfl,A⟩:=oV r;cases A;rcases h with⟨f,q⟩ | ⟨f,q⟩
 .obtain⟨c,k,i,v⟩:=I.list f;have n:=k.length;refine call_tuple_list i.isList (λd z=>?_) (by simp only[aK]<;>omega);have m:Inv X a x H { s with heap:=d }:=I.kept (t':=s.toks) z;have y:Inv X a x (upd H d.objs.size (.t g)) { s with heap:=d.push { cls:=.type "tuple",data:=.seq c.toArray } } :=
   m.laid (t':=s.toks) (λb o e=>aF _ e) (aP _) (show lM X.prog X.w _ _ _ (.t g) from ⟨v,c,k,tM.new _ _⟩)
  exact⟨.ref d.objs.size,_,y,rfl,q _ (m.hok.fresh (aP _))⟩
 .obtain⟨c,k,i,v⟩:=I.tuple f;exact call_tuple_same i ⟨.ref p,H,I,rfl,q⟩
def Bm (K:kC) (T:String) (x:V) (H:Hp):Prop:=match x with
 | .str _=>T = "str"
 | .int _=>T = "int"
 | .ref p=>(T = "list" /\ ∃ b,kK K H p b)\/(T = "tuple" /\ ∃ o,K.lookup p=some o/\o.cls = .type "tuple" /\ o.dict=none) \/
   (T = "dict" /\ ((∃ a,H p=some (.k a))\/(∃ a,H p=some (.T a))\/∃ a,H p=some (.dM a)))\/(T = "set" /\ ∃ S n,H p=some (.set S n))
 | _=>False
theorem Pc (I:Inv X j l H s) (r:kD x v) (ty:Bm X.K T x H) :
  s.TypeIs v T/\∀ a,v = .ref a->∃ g,s.heap.get? a=some g/\g.dict=none:=by
 cases x with
 | str z =>
  obtain⟨t,rfl⟩:=r;cases (show T = "str" from ty);exact⟨typeIs_str s z t,λ_ e=>nomatch e⟩
 | int i =>
  obtain⟨t,rfl⟩:=r;cases (show T = "int" from ty);exact⟨typeIs_int s i t,λ_ e=>nomatch e⟩
 | ref p =>
  cases r;rcases ty with⟨rfl,w,q⟩ | ⟨rfl,o,b,m,hd⟩ | ⟨rfl,b⟩ | ⟨rfl,S,n,b⟩
  .obtain⟨u,_,k,_⟩:=I.list q;refine⟨k.isList.typeIs,λa e=>?_⟩;cases e;obtain⟨o,n,e,c,hd,_⟩:=k;exact⟨o,e,hd⟩
  .refine⟨⟨o,I.kIn p o b,m⟩,λa e=>?_⟩;cases e;exact⟨o,I.kIn _ o b,hd⟩
  .have z:∃ o,s.heap.get? p=some o/\o.ExactDict:=by
    rcases b with⟨f,b⟩ | ⟨f,b⟩ | ⟨f,b⟩
    .obtain⟨_,_,_,_,o,_,_,e,d,_⟩:=I.hok p _ b;exact⟨o,e,d⟩
    .obtain⟨_,_,_,_,o,_,_,e,d,_⟩:=I.hok p _ b;exact⟨o,e,d⟩
    .obtain⟨_,_,_,_,o,_,_,e,d,_⟩:=I.hok p _ b;exact⟨o,e,d⟩
   obtain⟨o,e,d⟩:=z;refine⟨⟨o,e,d.1⟩,λa h=>?_⟩;cases h;exact⟨o,e,d.2.1⟩
  .obtain⟨o,_,_,_,e,d,_⟩:=I.hok p _ b;refine⟨⟨o,e,d.1⟩,λa h=>?_⟩;cases h;exact⟨o,e,d.2.1⟩
 | _=>exact False.elim ty
def Nz (K:kC) (T:String) (r:V->Aa V->Hp->VK->Prop) (g:TE) (t:TA):TE:=λb H Q=>g b H λx a=>Bm K T x a/\t b a λd c=>r x d c Q
variable {id:String}
structure MtB (X:Cx) (o:Expr) (name:Str) (apos:Pos) (e:Expr) (es:List Expr) (cpos:Pos):Prop extends StB X e es cpos where
 c:attributeBase o name X.env (eval o X.env)=eval o X.env:=by rfl
 d:((backTo cpos (starEach (e::es) X.env)).all (λx=>!x.1)&&(backToKw cpos (keywordEach [] X.env)).all (λx=>x.1.isSome)&&decide ((e::es).length+([]:List Keyword).length+(if ([]:List Keyword).isEmpty then 0 else 1)<30))=true:=by rfl
 f:(apos.endLine == cpos.line)=true:=by rfl
theorem Nn (pa:PlainAttrs T) (slot:Slot T name id) (p:typeOf (.builtin id)=pure (.type "method_descriptor")) (J:zR X id r) (U:PE X o to) (C:PA X (e::l) t)
  (j:MtB X o name apos e l g:=by exact {}) :
  PE X (.Call (.Attribute o name apos) (e::l) [] g) (Nz X.K T r to t):=by
 intro i s m H Q I h;refine wpAny_Call_method_late j.c j.d j.f rfl (hL (U i s m H _ I h) λv G k=>?_);obtain⟨x,w,n,u,ty,D⟩:=k;obtain⟨A,B⟩:=Pc n u ty;refine⟨T,id,pa,slot,p,A,B,?_⟩;have q:=C g i G m w _ n D;rw[j.a] at q |-;refine iO (by show (false||(backTo g (starEach l X.env)).any (·.1))=false;rw[j.b]<;>rfl) (jA ?_);exact hL q λM L ⟨N,y,z,F,E⟩=>J i L m y x N v M Q z u F E
/- xs.append(e),list.index on a module's tuple .. are zR facts of 06m -/
end
def Gf (X:Cx) (id:String) (r:V->Aa V->Hp->VK->Prop):Prop :=
 ∀ (a:Aa (Ad×Obj)) (s:Ae) (d:St) (H:Hp) (x:V) (c:Aa V) (v:Ac) (b:Aa Ac) (Q:VK),Inv X a d H s->kD x v->kF c b->r x c H Q ->
  wpAny (model X.prog X.w) X.A (call (.builtin id) (v::b)) (EP X a d Q) X.xe s
theorem kF.one:∀ {x:V}{g:Aa Ac},kF [x] g->∃ u,g=[u]/\kD x u
 | _,_,.cons r .nil=>⟨_,rfl,r⟩
theorem kF.eraseIdx:∀ {j:Aa V}{g:Aa Ac}(i:Nat),kF j g->kF (j.eraseIdx i) (g.eraseIdx i)
 | _,_,_,.nil=>.nil
 | _,_,0,.cons _ t=>t
 | _,_,i+1,.cons r t=>.cons r (kF.eraseIdx i t)
theorem kF.rep (h:kF j g):∀ k:Nat,kF (List.replicate k j).flatten (List.replicate k g).flatten
 | 0=>.nil
 | k+1=>by
  rw[cL,cL,fO,fO];exact kF.append h (kF.rep h k)
theorem Lm:∀ (l:Aa g) (i:Nat),(l.eraseIdx i).length<=l.length
 | [],_=>aP _
 | _::_,0=>jB _
 | _::r,i+1=>Nat.succ_le_succ (Lm r i)
theorem Hv (j:Aa Ac):∀ (k:Nat) (g:Aa Ac),
  List.foldl (λl o=>l++o) g.toArray (List.replicate k j.toArray)=(g++(List.replicate k j).flatten).toArray
 | 0,g=>by simp
 | k+1,g=>by
  have e:g.toArray++j.toArray=(g++j).toArray:=by simp
  have a:(g++j)++(List.replicate k j).flatten=g++(List.replicate (k+1) j).flatten:=by
   rw[cL,fO,aX]
  rw[<- a,<- Hv j k (g++j),<- e,cL,List.foldl_cons]
section
variable {X:Cx}
theorem Inv.lset {g:Aa Ac}(I:Inv X j T H s) (p:H l=some (.l xs))
  (e:s.heap.get? l=some { cls:=.type "list",data:=.seq g.toArray n }) (r:f g.toArray=its'.toArray) (C:kF o its') (J:o.length<=sizeLine) :
  Inv X j T (upd H l (.l o)) { s with heap:=s.heap.update l (Obj.mapSeq f),toks:=U }:=by
 have q:=PySem.IsL.update e f;rw[r] at q;refine I.write (x:=l) (e:=l) (by rw[p];exact trivial) (.inl rfl) (λc u a b=>(Heap.get?_update_other s.heap (Obj.mapSeq f) (dH a)).trans b) ⟨_,q⟩ ?_;exact⟨J,its',_,C,q⟩
theorem Inv.lnew (I:Inv X g p H s) (j:kF ys its) (o:ys.length<=sizeLine) :
  Inv X g p (upd H s.heap.objs.size (.l ys)) { s with heap:=s.heap.push { cls:=.type "list",data:=.seq its.toArray },toks:=t' } :=
 I.laid (λ_ _ q=>aF _ q) (aP _) ⟨o,its,0,j,aU _ rfl⟩
theorem Inv.fresh (I:Inv X g j H s):H s.heap.objs.size=none:=I.hok.fresh (aP _)
theorem Inv.lstM (I:Inv X o C H s) (p:H l=some (.l j)):j.length<=sizeLine/\∃ (g:Aa Ac) (n:Nat),kF j g/\j.length=g.length/\s.heap.get? l=some { cls:=.type "list",data:=.seq g.toArray n }:=by
 obtain⟨z,g,n,r,e⟩:=I.hok l _ p;exact⟨z,g,n,r,r.length,e⟩
theorem Vo (h:n<=sizeLine):Builtin.List.listTooLong n=false:=by
 unfold Builtin.List.listTooLong;exact bJ (by omega)
end
section
variable {X:Cx}
def G2:V->Aa V->Hp->VK->Prop:=λx b H Q=>∃ l a y,x = .ref l/\b=[y]/\H l=some (.l a)/\a.length<sizeLine/\Q .e (upd H l (.l (a++[y])))
theorem qV:Gf X "list.append" G2:=by
 intro c s B H x w v t Q I i f h;obtain⟨l,A,y,rfl,rfl,b,m,q⟩:=h;cases i;obtain⟨u,rfl,d⟩:=f.one;obtain⟨z,a,n,r,k,e⟩:=I.lstM b;refine jO F.slot_list_append ⟨_,e,rfl⟩ F.entry_list_append (F.args_list_append_2 _ _) (PySem.list_append l a.toArray n u (by rw[aK];omega)) ⟨e,?_⟩;refine⟨.e,_,I.lset (its':=a++[u]) b e (by simp) (r.append (.cons d .nil)) ?_,rfl,q⟩;rw[bI,List.length_singleton];omega
def Zl:V->Aa V->Hp->VK->Prop:=λx d H Q=>∃ l b a c,x = .ref l/\d=[.ref b]/\H l=some (.l a)/\H b=some (.l c)/\a.length+c.length<=sizeLine/\Q .e (upd H l (.l (a++c)))
def Fl:V->Aa V->Hp->VK->Prop:=λx b H Q=>∃ l a i k y,x = .ref l/\b=[.int i]/\H l=some (.l a)/\-(2 ^ 63)<=i/\i<2 ^ 63/\seqIndex? i a.length=some k/\a[k]?=some y/\Q y (upd H l (.l (a.eraseIdx k)))
theorem Py:Gf X "list.pop" Fl:=by
 intro d s O H x N v M Q I K G h;obtain⟨l,L,i,k,y,rfl,rfl,c,f,m,A,D,q⟩:=h;cases K;obtain⟨u,rfl,E⟩:=G.one;obtain⟨t,rfl⟩:=E;obtain⟨z,a,n,r,B,e⟩:=I.lstM c;obtain⟨w,hw,b⟩:=r.get D;refine jO F.slot_list_pop ⟨_,e,rfl⟩ F.entry_list_pop (F.args_list_pop_2 _ _)
  (MeetsSeq.list_pop_at l a.toArray n i t k w (fitsIndex_both f m) (by rw[aK,<- B];exact A) (by rw[<- gL];exact hw) (by rw[aK];omega)) ⟨e,?_⟩
 refine⟨y,_,I.lset (its':=a.eraseIdx k) c e ?_ (r.eraseIdx k) ?_,b,q⟩
 .show a.toArray.eraseIdxIfInBounds k=(a.eraseIdx k).toArray;rw[List.eraseIdxIfInBounds_toArray]
 .have:=Lm L k;omega
def E9:R2:=λx y H Q=>∃ l b a c,x = .ref l/\y = .ref b/\H l=some (.l a)/\H b=some (.l c)/\a.length+c.length<=sizeLine/\∀ p,H p=none->Q (.ref p) (upd H p (.l (a++c)))
theorem Qe:kP X (binaryOp .Add) E9:=by
 intro d s M H x y v u Q I A B h;obtain⟨l,b,G,L,rfl,rfl,m,k,E,q⟩:=h;cases A;cases B;obtain⟨z,c,n,r,D,e⟩:=I.lstM m;obtain⟨K,a,F,w,t,f⟩:=I.lstM k;refine PySem.P.add_list e f ?_ (by rw[aK,aK];omega);have i:c.toArray++a.toArray=(c++a).toArray:=by simp
 rw[i];exact⟨.ref _,_,I.lnew (t':=s.toks) (r.append w) (by rw[bI];omega),rfl,q _ I.fresh⟩
def Hf:R2:=λx y H Q=>∃ l k a,x = .ref l/\y = .int k/\H l=some (.l a)/\-(2 ^ 63)<=k/\k<2 ^ 63/\a.length*k.toNat<=sizeLine /\
 ∀ p,H p=none->Q (.ref p) (upd H p (.l (List.replicate k.toNat a).flatten))
theorem Rj (g:Aa j) (k:Nat):(List.replicate k g).flatten.length=k*g.length:=by
 induction k with
 | zero=>simp
 | succ k a=>rw[cL,fO,bI,a,Nat.succ_mul,Nat.add_comm]
theorem Mj:kP X (binaryOp .Mult) Hf:=by
 intro E s W H x y v u Q I O P h;obtain⟨l,k,V,rfl,rfl,M,K,L,D,q⟩:=h;cases O;obtain⟨t,rfl⟩:=P;obtain⟨z,b,n,r,N,e⟩:=I.lstM M;have i:b.toArray.size*k.toNat<=sizeLine:=by rw[aK,<- N];exact D
 have d:¬ b.toArray.size*k.toNat>(2 ^ 63-1)/8:=by
  have:(sizeLine:Nat)<=(2 ^ 63-1)/8:=by decide
  omega
 have f:¬ (!Builtin.List.listFitsIndex k)=true:=by
  rw[fitsIndex_both K L];exact aR
 have c:¬ Builtin.List.listTooLong (b.toArray.size*k.toNat)=true:=by
  rw[Vo i];exact aR
 have w:List.foldl (λA B=>A++B) #[] (List.replicate (if b.toArray.isEmpty=true then 0 else k.toNat) b.toArray)=(List.replicate k.toNat b).flatten.toArray:=by
  have G:∀ m:Nat,List.foldl (λA B=>A++B) #[] (List.replicate m b.toArray)=(List.replicate m b).flatten.toArray:=λm=>by
   have:=Hv b m [];rw[eZ] at this;exact this
  rw[G];cases b with
  | nil=>simp
  | cons a S=>rw[aE (by simp)]
 refine wpAny_binaryOp_repeat_ref (T := "list") (U := "int") (by decide) ⟨_,e,rfl⟩ (λR=>typeIs_int R k t) noFill_list_mul F.fills_int_mul F.slot_int_rmul repeat_list F.slot_int_index.lookup
  (jO F.slot_int_rmul (typeIs_int s k t) F.entry_int_rmul (F.args_int_rmul_2 _ _) (int___rmul___int_list k t l b.toArray n) ⟨e,rfl,⟨_,e,rfl⟩,jO F.slot_list_mul ⟨_,e,rfl⟩ F.entry_list_mul (F.args_list_mul_2 _ _) (AutoListH.list___mul___list_int_3 l b.toArray n k t f d c) ⟨e,?_⟩⟩)
 rw[w];exact⟨.ref _,_,I.lnew (t':=s.toks) (r.rep k.toNat) (by rw[Rj,Nat.mul_comm];exact D),rfl,q _ I.fresh⟩
end
section
variable [DecidableEq κ]
noncomputable def nQ (g:Aa (κ×V)) (k:κ):Ab V:=(g.find? λa=>decide (a.1=k)).map (·.2)
noncomputable def lI (g:Aa (κ×V)) (k:κ) (v:V):Aa (κ×V) :=
 if (g.any λa=>decide (a.1=k))=true then g.map (λa=>if a.1=k then (a.1,v) else a) else g++[(k,v)]
theorem yL {p:κ×V}{r:Aa (κ×V)}{k:κ}(e:p.1=k):nQ (p::r) k=some p.2:=by simp[nQ,cB,e]
theorem wV {p:κ×V}{r:Aa (κ×V)}{k:κ}(e:¬ p.1=k):nQ (p::r) k=nQ r k:=by simp[nQ,cB,e]
theorem Ci (k:κ):∀ g:Aa (κ×V),(g.any λj=>decide (j.1=k))=(nQ g k).isSome
 | []=>rfl
 | p::r=>by
  rw[eR];by_cases e:p.1=k
  .simp only[yL e,cC e,Bool.true_or,jP]
  .rw[wV e,bJ e,Bool.false_or];exact Ci k r
theorem wN (g:Aa (κ×V)) (k:κ) (v:V):(lI g k v).length<=g.length+1:=by
 unfold lI;split
 .rw[aD];omega
 .rw[bI,cP,fF];omega
theorem oX.isSome_eq (r:oX o u):o.isSome=u.isSome:=by
 cases o with
 | none=>cases u with
  | none=>rfl
  | some _=>exact (show False from r).elim
 | some _=>cases u with
  | none=>exact (show False from r).elim
  | some _=>rfl
theorem oX.getD (r:oX o u) (rd:kD d g):kD (o.getD d) (u.getD g):=by
 cases o with
 | none=>cases u with
  | none=>exact rd
  | some _=>exact (show False from r).elim
 | some _=>cases u with
  | none=>exact (show False from r).elim
  | some _=>exact r
theorem KV.val (r:KV g j) (k:κ):oX (nQ g k) (valueAt j k):=by
 unfold KV at r;induction r with
 | nil=>exact True.intro
 | @cons p q m c h t i =>
  obtain⟨d,f⟩:=h;by_cases e:p.1=k
  .have a:q.1=k:=d.symm.trans e;have b:valueAt (q::c) k=some q.2:=by simp[valueAt,cB,a]
   rw[yL e,b];exact f
  .have a:¬ q.1=k:=λz=>e (d.trans z)
   have b:valueAt (q::c) k=valueAt c k:=by simp[valueAt,cB,a]
   rw[wV e,b];exact i
theorem KV.any (r:KV j l) (k:κ):(j.any λg=>decide (g.1=k))=l.any λg=>decide (g.1=k):=by
 unfold KV at r;induction r with
 | nil=>rfl
 | cons h t a=>rw[eR,eR,a,h.1]
theorem KV.repl (r:KV j o) (k:κ) (l:kD y u) :
  KV (j.map λg=>if g.1=k then (g.1,y) else g) (o.map λg=>if g.1=k then (g.1,u) else g):=by
 unfold KV at r |-;induction r with
 | nil=>exact .nil
 | @cons p q d f h t c =>
  rw[aI,aI];refine .cons ?_ c;obtain⟨a,b⟩:=h;by_cases e:p.1=k
  .rw[aH e,aH (a.symm.trans e)];exact⟨a,l⟩
  .rw[aE e,aE (λz=>e (a.trans z))];exact⟨a,b⟩
theorem KV.put (r:KV g l) (k:κ) (j:kD y u):KV (lI g k y) (stored l k u):=by
 unfold lI stored;rw[r.any k];by_cases e:(l.any λa=>decide (a.1=k))=true
 .rw[aH e,aH e];exact r.repl k j
 .rw[aE e,aE e];exact Paired.snoc r ⟨rfl,j⟩
theorem KV.length (r:KV g j):g.length=j.length:=dQ r
end
theorem rP {P:Ah}(r:kD (kV k) u):(kZ P w).is k u=true:=by
 cases k with
 | inl i=>obtain⟨t,e⟩:=(show ∃ t,u=Value.int i t from r);subst e;exact Xa P w i t
 | inr x=>obtain⟨t,e⟩:=(show ∃ t,u=Value.str x t from r);subst e;exact Yn P w x t
theorem Lx {P:Ah}:∀ {g:Aa gV}{j:Aa Ac},kF (g.map kV) j->ItemsAre (kZ P w) g j
 | [],_,r=>by rw[fJ] at r;cases r;exact .nil
 | k::g,_,r=>by
  rw[aI] at r;cases r with
  | cons h t=>exact .cons (rP h) (Lx t)
abbrev KT (H:Hp):Aa (Aa gV×V)->Aa (Aa gV×Ad×Ac)->Prop:=Paired λp q=>p.1=q.1/\H q.2.1=some (.t (p.1.map kV))/\kD p.2 q.2.2
theorem KT.val (r:KT H g j) (k:Aa gV):oX (nQ g k) ((atKey j k).map (·.2)):=by
 induction r with
 | nil=>exact True.intro
 | @cons p q m c h t i =>
  obtain⟨d,_,f⟩:=h;by_cases e:p.1=k
  .have a:q.1=k:=d.symm.trans e;have b:atKey (q::c) k=some q.2:=by simp[atKey,cB,a]
   rw[yL e,b];exact f
  .have a:¬ q.1=k:=λz=>e (d.trans z)
   have b:atKey (q::c) k=atKey c k:=by simp[atKey,cB,a]
   rw[wV e,b];exact i
theorem KT.repl (r:KT H j o) (k:Aa gV) (l:kD y u) :
  KT H (j.map λg=>if g.1=k then (g.1,y) else g) (o.map (putAt k u)):=by
 induction r with
 | nil=>exact .nil
 | @cons p q f i h t d =>
  rw[aI,aI];refine .cons ?_ d;obtain⟨a,b,c⟩:=h;unfold putAt;by_cases e:p.1=k
  .rw[aH e,aH (a.symm.trans e)];exact⟨a,b,l⟩
  .rw[aE e,aE (λz=>e (a.trans z))];exact⟨a,b,c⟩
theorem KT.put (r:KT H g j) (k:Aa gV) (o:H b=some (.t (k.map kV))) (l:kD y u) :
  KT H (lI g k y) (storedH j k b u):=by
 have e:(g.any λa=>decide (a.1=k))=(atKey j k).isSome:=by
  rw[Ci,(r.val k).isSome_eq,fQ]
 unfold lI storedH;rw[e];by_cases q:(atKey j k).isSome=true
 .rw[aH q,aH q];exact r.repl k l
 .rw[aE q,aE q];exact Paired.snoc r ⟨rfl,o,l⟩
theorem KT.keeps (r:KT H g p) (o:∀ b j,H b=some (.t j)->l b=some (.t j)):KT l g p :=
 Paired.mapP r λ_ _ z=>⟨z.1,o _ _ z.2.1,z.2.2⟩
section
variable {P:Ah}
theorem B3 (ok:lP P w H h) (e:Rd H a u):lM P w H h a u:=e.ok ok
theorem rB (ok:lP P w H h) (e:Rd H a (.k g)):g.length<=sizeLine/\(a == sysModules)=false/\∃ j,KV g j/\h.DictOf (kZ P w) a j :=
 show lM P w H h a (.k g) from B3 ok e
theorem zM (ok:lP P w H h) (e:H a=some (.k g)):g.length<=sizeLine/\(a == sysModules)=false/\∃ j,KV g j/\h.DictOf (kZ P w) a j:=rB ok (.inl e)
theorem tG (ok:lP P w H h) (e:H a=some (.t (g.map kV))):(tupleKind (kZ P w)).is h g a:=by
 obtain⟨_,b,r,⟨o,c,d,n,f⟩,_⟩:=(show lM P w H h a (.t (g.map kV)) from ok a _ e);exact⟨o,b.toArray,n,c,d,f,by simpa using Lx r⟩
theorem tS (ok:lP P w H h) (e:Rd H a (.T g)):g.length<=sizeLine/\(a == sysModules)=false /\
  ∃ j,KT H g j/\h.DictOfH (tupleKind (kZ P w)) a j:=by
 obtain⟨z,y,j,r,o,f,d,i,k,n,s,u⟩:=(show lM P w H h a (.T g) from B3 ok e);refine⟨z,y,j,r,o,f,d,i,k,n,s,λx b=>?_,u⟩;have all:∀ {l:Aa (Aa gV×V)} {m:Aa (Aa gV×Ad×Ac)},KT H l m->∀ x∈m,(tupleKind (kZ P w)).is h x.1 x.2.1:=by
  intro l m q;induction q with
  | nil=>intro x b;exact nomatch b
  | @cons p q A B c t v =>
   intro x b;rcases aJ.mp b with e | b
   .subst e;exact tG ok (by rw[<- c.1];exact c.2.1)
   .exact v x b
 exact all r x b
theorem Ui (ok:lP P w H h) (e:H a=some (.T g)):g.length<=sizeLine/\(a == sysModules)=false /\
  ∃ j,KT H g j/\h.DictOfH (tupleKind (kZ P w)) a j:=tS ok (.inl e)
end
abbrev KM (H:Hp):Aa (MK×V)->Aa (MK×Ac×Ac)->Prop:=Paired λp q=>p.1=q.1/\rA H p.1 q.2.1/\kD p.2 q.2.2
theorem KM.val (r:KM H g j) (k:MK):oX (nQ g k) ((mE j k).map (·.2)):=by
 induction r with
 | nil=>exact True.intro
 | @cons p q m c h t i =>
  obtain⟨d,_,f⟩:=h;by_cases e:p.1=k
  .have a:q.1=k:=d.symm.trans e;have b:mE (q::c) k=some q.2:=by simp[mE,cB,a]
   rw[yL e,b];exact f
  .have a:¬ q.1=k:=λz=>e (d.trans z)
   have b:mE (q::c) k=mE c k:=by simp[mE,cB,a]
   rw[wV e,b];exact i
theorem KM.repl (r:KM H j o) (k:MK) (l:kD y u) :
  KM H (j.map λg=>if g.1=k then (g.1,y) else g) (o.map (pM k u)):=by
 induction r with
 | nil=>exact .nil
 | @cons p q f i h t d =>
  rw[aI,aI];refine .cons ?_ d;obtain⟨a,b,c⟩:=h;unfold pM;by_cases e:p.1=k
  .rw[aH e,aH (a.symm.trans e)];exact⟨a,b,l⟩
  .rw[aE e,aE (λz=>e (a.trans z))];exact⟨a,b,c⟩
theorem KM.put (r:KM H g j) (k:MK) (o:rA H k key) (l:kD y u):KM H (lI g k y) (pE j k key u):=by
 have e:(g.any λa=>decide (a.1=k))=(mE j k).isSome:=by
  rw[Ci,(r.val k).isSome_eq,fQ]
 unfold lI pE;rw[e];by_cases q:(mE j k).isSome=true
 .rw[aH q,aH q];exact r.repl k l
 .rw[aE q,aE q];exact Paired.snoc r ⟨rfl,o,l⟩
theorem KM.keeps (r:KM H g p) (o:∀ b j,H b=some (.t j)->l b=some (.t j)):KM l g p :=
 Paired.mapP r λ_ _ z=>⟨z.1,Fa o z.2.1,z.2.2⟩
abbrev vB:Aa (gV×Ac)->Aa (MK×Ac×Ac)->Prop:=Paired λp q=>q.1 = .inl p.1/\q.2.2=p.2/\pU p.1 q.2.1=true
theorem Wf {P:Ah}(h:Pairs (kZ P w) l j):(∀ e∈l,∃ k,(kZ P w).is k e.key=true/\e.hash=(kZ P w).hash k)->∃ g,l=g.map (oQ P w)/\vB j g:=by
 induction h with
 | nil=>exact λ_=>⟨[],rfl,.nil⟩
 | @cons e d y v i n t s =>
  intro f;obtain⟨g,m,r⟩:=s λx q=>f x (aV _ q)
  obtain⟨k,g1,g2⟩:=f e aM;have u:k=d.1:=(kZ P w).inj _ _ _ g1 i;subst u;refine⟨(.inl d.1,e.key,e.val)::g,?_,.cons ⟨rfl,n,i⟩ r⟩;rw[aI,<- m]
  congr 1
  obtain⟨a,b,c⟩:=e;cases (show a=(kZ P w).hash d.1 from g2);rfl
theorem vB.keys (r:vB g j):j.map (·.1)=(g.map (·.1)).map (Sum.inl:gV->MK):=by
 induction r with
 | nil=>rfl
 | cons h t a=>rw[aI,aI,aI,a,h.1]
theorem vB.mem (r:vB j g) (P:Ah) (w:World) (h:Ag):∀ x∈g,kU P w h x.1 x.2.1:=by
 induction r with
 | nil=>intro x a;exact nomatch a
 | @cons p q d f b t c =>
  intro x a;rcases aJ.mp a with e | a
  .subst e;rw[b.1];exact b.2.2
  .exact c x a
theorem S6 {P:Ah}(p:h.DictOf (kZ P w) a C):∃ o l j g,EM P w h a o l j g/\vB C g:=by
 obtain⟨o,l,j,k,c,hd,f,m,i⟩:=p;obtain⟨g,b,r⟩:=Wf m λe d=>f e (Array.mem_toList_iff.mp d)
 refine⟨o,l,j,g,⟨k,c,hd,b,r.mem P w h,?_⟩,r⟩;rw[r.keys];exact List.Pairwise.map _ (λx y z q=>z (jS q)) i
theorem N4 (r:KV g j) (q:vB j l):KM H (g.map λp=>((Sum.inl p.1:MK),p.2)) l:=by
 unfold KV at r;induction r generalizing l with
 | nil=>cases q;exact .nil
 | @cons p v e j h t d =>
  cases q with
  | @cons _ y _ f c ty =>
   refine .cons ⟨?_,?_,?_⟩ (d ty)
   .show (Sum.inl p.1:MK)=y.1;rw[c.1,h.1]
   .show kD (kV p.1) y.2.1;rcases pT c.2.2 with⟨i,t,a,b⟩ | ⟨i,t,a,b⟩
    .rw[h.1,a,b];exact⟨t,rfl⟩
    .rw[h.1,a,b];exact⟨t,rfl⟩
   .rw[c.2.1];exact h.2
section
variable {P:Ah}
theorem sE (ok:lP P w H h) (r:rA H k u):kU P w h k u:=by
 rcases k with k | a
 .exact rP r
 .obtain⟨b,e,q⟩:=r;exact⟨b,e,tG ok q⟩
theorem tQ (m:qN H k y) (r:kD y u):rA H k u:=by
 rcases k with k | a
 .cases (show y=kV k from m);exact r
 .obtain⟨b,e,q⟩:=m;subst e;exact⟨b,r,q⟩
theorem tR (ok:lP P w H h) (e:Rd H a (.dM g)):g.length<=sizeLine/\(a == sysModules)=false/\∃ j o I C,KM H g j/\EM P w h a o I C j:=by
 obtain⟨z,y,j,r,o,I,C,d,f,i,k,n⟩:=(show lM P w H h a (.dM g) from B3 ok e);refine⟨z,y,j,o,I,C,r,d,f,i,k,λx b=>?_,n⟩;have all:∀ {l:Aa (MK×V)} {m:Aa (MK×Ac×Ac)},KM H l m->∀ x∈m,kU P w h x.1 x.2.1:=by
  intro l m q;induction q with
  | nil=>intro x b;exact nomatch b
  | @cons p q u v c t s =>
   intro x b;rcases aJ.mp b with e | b
   .subst e;exact sE ok (by rw[<- c.1];exact c.2.1)
   .exact s x b
 exact all r x b
end
def nM (H:Hp) (a:Ad) (y:V) (r:Ab V):Prop :=
 (∃ c k,Rd H a (.k c)/\y=kV k/\r=nQ c k)\/(∃ c k b,Rd H a (.T c)/\y = .ref b/\H b=some (.t (k.map kV))/\r=nQ c k)\/∃ c k,Rd H a (.dM c)/\qN H k y/\r=nQ c k
def pI (H:Hp) (a:Ad) (y v:V) (g:Hp):Prop :=
 (∃ c k,H a=some (.k c)/\y=kV k/\c.length<sizeLine/\g=upd H a (.k (lI c k v))) \/
 (∃ c k b,H a=some (.T c)/\y = .ref b/\H b=some (.t (k.map kV))/\c.length<sizeLine/\g=upd H a (.T (lI c k v))) \/
 (∃ c k,H a=some (.dM c)/\qN H k y/\c.length<sizeLine/\g=upd H a (.dM (lI c k v))) \/
 ∃ c k b,H a=some (.k c)/\y = .ref b/\H b=some (.t (k.map kV))/\c.length<sizeLine/\g=upd H a (.dM (lI (c.map λp=>((Sum.inl p.1:MK),p.2)) (.inr k) v))
theorem nM.k {k:gV}(e:H a=some (.k g)):nM H a (kV k) (nQ g k):=.inl ⟨g,k,.inl e,rfl,rfl⟩
theorem pI.k {k:gV}(e:H a=some (.k g)) (j:g.length<sizeLine):pI H a (kV k) v (upd H a (.k (lI g k v))):=.inl ⟨g,k,e,rfl,j,rfl⟩
theorem pI.t {H:Hp}{a b:Ad}{g:Aa (Aa gV×V)}{k:Aa gV}{v:V}(e:H a=some (.T g)) (j:H b=some (.t (k.map kV))) (l:g.length<sizeLine) :
  pI H a (.ref b) v (upd H a (.T (lI g k v))):=.inr (.inl ⟨g,k,b,e,rfl,j,l,rfl⟩)
theorem nM.m {H:Hp}{a:Ad}{g:Aa (MK×V)}{k:MK}{y:V}(e:Rd H a (.dM g)) (m:qN H k y):nM H a y (nQ g k):=.inr (.inr ⟨g,k,e,m,rfl⟩)
theorem pI.m {H:Hp}{a:Ad}{g:Aa (MK×V)}{k:MK}{y v:V}(e:H a=some (.dM g)) (m:qN H k y) (j:g.length<sizeLine):pI H a y v (upd H a (.dM (lI g k v))):=.inr (.inr (.inl ⟨g,k,e,m,j,rfl⟩))
theorem pI.km {H:Hp}{a b:Ad}{g:Aa (gV×V)}{k:Aa gV}{v:V}(e:H a=some (.k g)) (j:H b=some (.t (k.map kV))) (l:g.length<sizeLine) :
  pI H a (.ref b) v (upd H a (.dM (lI (g.map λp=>((Sum.inl p.1:MK),p.2)) (.inr k) v))):=.inr (.inr (.inr ⟨g,k,b,e,rfl,j,l,rfl⟩))
section
variable {X:Cx}
theorem Inv.big (I:Inv X g j H s):sysModules<s.heap.objs.size:=by
 have h:mainGlobals<s.heap.objs.size:=(I.mod.glob.keeps I.bk).lt;exact Nat.lt_trans (by decide) h
theorem Xp (J:A.units+1<cLine) (I:Inv X r U H s) (g:nM H a y (some v)) (C:kD y u) (h:∀ j T,Inv X r U H T->kD v j->Q j T) :
  wpAny (model X.prog X.w) A (getItem (.ref a) u) Q E s:=by
 rcases g with⟨i,k,e,m,l⟩ | ⟨i,k,b,e,m,t,l⟩ | ⟨i,k,e,x,l⟩
 .subst m;obtain⟨z,hd,B,rel,f⟩:=rB I.hok e;obtain⟨j,hw,c⟩:=oX.some_of (v:=v) (o:=valueAt B k) (by rw[l];exact rel.val k);exact wpAny_getItem_of (rP C) f.mapOf hw (h j _ (I.tok _) c)
 .subst m;cases (show u=Value.ref b from C);obtain⟨z,hd,q,rel,f⟩:=tS I.hok e;obtain⟨j,hw,c⟩:=oX.some_of (v:=v) (o:=(atKey q k).map (·.2)) (by rw[l];exact rel.val k);obtain⟨p,n,d⟩:=bC.mp hw;refine wpAny_getItem_heap (cD J) (tG I.hok t) f n ?_;rw[d];exact h j _ (I.tok _) c
 .obtain⟨z,hd,q,o,F,D,rel,f⟩:=tR I.hok e;obtain⟨j,hw,c⟩:=oX.some_of (v:=v) (o:=(mE q k).map (·.2)) (by rw[l];exact rel.val k);obtain⟨p,n,d⟩:=bC.mp hw;refine Xg J f (sE I.hok (tQ x C)) n ?_;rw[d];exact h j _ (I.tok _) c
theorem Rh (r:A.units+1<cLine) (I:Inv X j J H s) (g:nM H a y o) (p:kD y u) (h:∀ C,Inv X j J H C->Q (.bool o.isSome) C) :
  wpAny (model X.prog X.w) A (compareOp .In u (.ref a)) Q E s:=by
 rcases g with⟨d,k,e,f,l⟩ | ⟨d,k,b,e,f,i,l⟩ | ⟨d,k,e,m,l⟩
 .subst f;obtain⟨z,hd,B,rel,c⟩:=rB I.hok e;refine wpAny_in_of (rP p) hd c.mapOf ?_;rw[<- (rel.val k).isSome_eq,<- l];exact h _ (I.tok _)
 .subst f;cases (show u=Value.ref b from p);obtain⟨z,hd,n,rel,c⟩:=tS I.hok e;refine wpAny_in_heap (cD r) (tG I.hok i) hd c ?_;have q:=(rel.val k).isSome_eq;rw[fQ] at q;rw[<- q,<- l];exact h _ (I.tok _)
 .obtain⟨z,hd,n,x,v,t,rel,c⟩:=tR I.hok e;refine Of r c (sE I.hok (tQ m p)) hd ?_;have q:=(rel.val k).isSome_eq;rw[fQ] at q;rw[<- q,<- l];exact h _ (I.tok _)
theorem J7 (r:A.units+1<cLine) (I:Inv X j J H s) (g:nM H a y o) (p:kD y u) (h:∀ C,Inv X j J H C->Q (.bool (!o.isSome)) C) :
  wpAny (model X.prog X.w) A (compareOp .NotIn u (.ref a)) Q E s:=by
 rcases g with⟨d,k,e,f,l⟩ | ⟨d,k,b,e,f,i,l⟩ | ⟨d,k,e,m,l⟩
 .subst f;obtain⟨z,hd,B,rel,c⟩:=rB I.hok e;refine wpAny_notIn_of (rP p) hd c.mapOf ?_;rw[<- (rel.val k).isSome_eq,<- l];exact h _ (I.tok _)
 .subst f;cases (show u=Value.ref b from p);obtain⟨z,hd,n,rel,c⟩:=tS I.hok e;refine wpAny_notIn_heap (cD r) (tG I.hok i) hd c ?_;have q:=(rel.val k).isSome_eq;rw[fQ] at q;rw[<- q,<- l];exact h _ (I.tok _)
 .obtain⟨z,hd,n,x,v,t,rel,c⟩:=tR I.hok e;refine Uw r c (sE I.hok (tQ m p)) hd ?_;have q:=(rel.val k).isSome_eq;rw[fQ] at q;rw[<- q,<- l];exact h _ (I.tok _)
theorem xS (I:Inv X g C H s) (r:xT (H a)) (p:Heap.SameBut a s.heap j) (o:∃ q,j.get? a=some q) (new:lM X.prog X.w (upd H a l) j a l) :
  Inv X g C (upd H a l) { s with heap:=j,toks:=J } :=
 I.write (x:=a) (e:=a) r (.inl rfl) (λb q c z=>(p.2 b c).trans z) o new
theorem xL {P:Ah}(z:g.length<=sizeLine) (hd:(a == sysModules)=false) (rel:KV g j) (l:o.DictOf (kZ P w) a j) :
  lM P w p o a (.k g):=⟨z,hd,j,rel,l⟩
theorem Oh (T:A.units+1<cLine) (I:Inv X j σ H s) (g:pI H a y v H') (C:kD y u) (J:kD v r) (h:∀ U,Inv X j σ H' U->Q () U) :
  wpAny (model X.prog X.w) A (setItem (.ref a) u r) Q E s:=by
 rcases g with⟨f,k,e,K,l,n⟩ | ⟨f,k,b,e,K,L,l,n⟩ | ⟨f,k,e,M,l,n⟩ | ⟨f,k,b,e,K,L,l,n⟩
 .subst K n;obtain⟨z,hd,V,rel,m⟩:=zM I.hok e;have F:V.length<=sizeLine:=by rw[<- rel.length];exact z
  have B:(lI f k v).length<=sizeLine:=by have:=wN f k v;omega
  refine wpAny_setItem_pairs (hsz:=F) (rP C) m λN d D=>h _ ?_
  have he:∃ q,N.get? a=some q:=let ⟨q,_,_,O,_⟩:=d;⟨q,O⟩;exact xS I (by rw[e];exact True.intro) D he (xL B hd (rel.put k J) d)
 .subst K n;cases (show u=Value.ref b from C);obtain⟨z,hd,G,rel,m⟩:=Ui I.hok e;have F:G.length<=sizeLine:=by rw[<- dQ rel];exact z
  have B:(lI f k v).length<=sizeLine:=by have:=wN f k v;omega
  refine wpAny_setItem_heap (hsz:=F) (cD T) (tG I.hok L) m λN d D=>h _ ?_
  obtain⟨q,R,P,O,Y,Z,h4,_,h5⟩:=d;refine xS I (by rw[e];exact True.intro) D ⟨q,O⟩ ⟨B,hd,_,(rel.put k L J).keeps λc W i=>?_,q,R,P,O,Y,Z,h4,h5⟩;rw[lC (Ds i e (λz=>nomatch z))];exact i
 .subst n;obtain⟨z,hd,G,o,R,P,rel,m⟩:=tR I.hok (.inl e);have F:G.length<=sizeLine:=by rw[<- dQ rel];exact z
  have B:(lI f k v).length<=sizeLine:=by have:=wN f k v;omega
  refine Ko T m (sE I.hok (tQ M C)) F λN S x t d D=>h _ ?_
  refine xS I (by rw[e];exact True.intro) D ⟨_,d.ho⟩ ⟨B,hd,_,(rel.put k (tQ M C) J).keeps λc W i=>?_,S,x,t,d.ho,d.hc,d.hd,d.he,d.nd⟩;rw[lC (Ds i e (λz=>nomatch z))];exact i
 .subst K n;cases (show u=Value.ref b from C);obtain⟨z,hd,V,rel,m⟩:=zM I.hok e;obtain⟨o,R,P,G,M,pr⟩:=S6 m;have km:KM H (f.map λp=>((Sum.inl p.1:MK),p.2)) G:=N4 rel pr;have F:G.length<=sizeLine:=by rw[<- dQ km,aD];exact z
  have B:(lI (f.map λp=>((Sum.inl p.1:MK),p.2)) (.inr k) v).length<=sizeLine:=by
   have:=wN (f.map λp=>((Sum.inl p.1:MK),p.2)) (.inr k) v;rw[aD] at this;omega
  have mk:rA H (.inr k) (.ref b):=⟨b,rfl,L⟩;refine Ko T M (sE I.hok mk) F λN S x t d D=>h _ ?_
  refine xS I (by rw[e];exact True.intro) D ⟨_,d.ho⟩ ⟨B,hd,_,(km.put (.inr k) mk J).keeps λc W i=>?_,S,x,t,d.ho,d.hc,d.hd,d.he,d.nd⟩;rw[lC (Ds i e (λz=>nomatch z))];exact i
end
section
variable {X:Cx}
theorem Qu (I:Inv X g o H s) (e:Rd H a (.k j)) (h:∀ t l,Inv X g o H l->Q (.int j.length t) l):wpAny (model X.prog X.w) A (call (.builtin "len") [.ref a]) Q E s:=by
 obtain⟨z,hd,c,rel,b⟩:=rB I.hok e;refine call_len_dict hd b (by rw[<- rel.length];rw[sizeLine_eq] at z;omega) ?_;rw[<- rel.length];exact h _ _ (I.tok _)
end
theorem L5 {X:Cx}(I:Inv X j l H s) (g:nM H a y o):s.TypeIs (.ref a) "dict" := by
 rcases g with⟨d,k,e,_,_⟩ | ⟨d,k,b,e,_,_,_⟩ | ⟨d,k,e,_,_⟩
 .obtain⟨_,_,h,_,c⟩:=rB I.hok e;exact c.typeIs
 .obtain⟨_,_,f,_,c⟩:=tS I.hok e;exact c.typeIs
 .obtain⟨_,_,f,_,_,_,_,c⟩:=tR I.hok e;exact c.typeIs
def Pd (ty g:TE):TE:=λd H Q=>ty d H λy e=>g d e λx c=>∃ a o,x = .ref a/\nM c a y o/\Q (.b (!o.isSome)) c
section
variable {X:Cx}
theorem Nh (p:X.A.units+1<cLine) (j:PE X i ty) (l:PE X o r):PC X .NotIn i o (Pd ty r):=by
 intro c s e H Q I h;refine hL (j c s e H _ I h) λiv E ⟨y,f,m,D,w⟩=>hL (l c E e f _ m w) λu F d=>?_
 obtain⟨x,k,n,B,a,v,t,g,z⟩:=d;subst t;obtain rfl:u=Value.ref a:=B;exact J7 p n g D λG q=>⟨.b (!v.isSome),k,q,rfl,z⟩
end
theorem Mw {P:Ah}(h:Ag) (g:sysModules<h.objs.size):lM P w H (h.push { cls:=.type "dict",data:=.dict #[] }) h.objs.size (.k []) :=
 ⟨dN _,cF.mpr (dH (bH g)),[],.nil,Heap.DictOf.new h⟩
theorem Se {P:Ah}(h:Ag) (g:sysModules<h.objs.size):lM P w H (h.push { cls:=.type "dict",data:=.dict #[] }) h.objs.size (.T []) :=
 ⟨dN _,cF.mpr (dH (bH g)),[],.nil,_,#[],0,aU _ rfl,⟨rfl,rfl,rfl⟩,rfl,rfl,jQ⟩
def Wu:TE:=λ_ H Q=>∀ p,H p=none->Q (.ref p) (upd H p (.k []))
def Mf:TE:=λ_ H Q=>∀ p,H p=none->Q (.ref p) (upd H p (.T []))
section
variable {X:Cx}
theorem Nv:PE X (.Dict [] [] pos) Wu:=λb s c H Q I h =>
 wpAny_Dict_empty ⟨.ref s.heap.objs.size,_,I.laid (a:=s.heap.objs.size) (o:=.k []) (t':=s.toks) (λ_ _ q=>aF _ q) (aP _) (Mw s.heap I.big),rfl,h _ (I.hok.fresh (aP _))⟩
theorem Sr:PE X (.Dict [] [] pos) Mf:=λb s c H Q I h =>
 wpAny_Dict_empty ⟨.ref s.heap.objs.size,_,I.laid (a:=s.heap.objs.size) (o:=.T []) (t':=s.toks) (λ_ _ q=>aF _ q) (aP _) (Se s.heap I.big),rfl,h _ (I.hok.fresh (aP _))⟩
end
def nX (g more:Aa (gV×V)):Aa (gV×V):=more.foldl (λa b=>lI a b.1 b.2) g
theorem KV.merge:∀ {more:Aa (gV×V)}{l:Aa (gV×Ac)}{g:Aa (gV×V)}{j:Aa (gV×Ac)},KV more l->KV g j->KV (nX g more) (merged j l):=by
 intro more l g j r;unfold KV at r;induction r generalizing g j with
 | nil=>intro q;exact q
 | @cons p q c d h t a =>
  intro b;have e:KV (lI g p.1 p.2) (stored j q.1 q.2):=by
   have:=b.put p.1 h.2;rw[<- h.1];exact this
  exact a e
theorem zL:∀ (more g:Aa (gV×V)),(nX g more).length<=g.length+more.length
 | [],g=>by show g.length<=g.length+0;omega
 | p::r,g=>by
  have a:=zL r (lI g p.1 p.2);have b:=wN g p.1 p.2;show (nX (lI g p.1 p.2) r).length<=_;rw[cP];omega
structure M1 (X:Cx) (o:Expr) (m:Str) (apos:Pos) (e:Expr) (cpos:Pos):Prop where
 base:attributeBase o m X.env (eval o X.env)=eval o X.env
 few:((backTo cpos (starEach [e] X.env)).all (λx=>!x.1)&&(backToKw cpos (keywordEach [] X.env)).all (λx=>x.1.isSome) && decide (([e]:List Expr).length+([]:List Keyword).length+(if ([]:List Keyword).isEmpty then 0 else 1)<30))=true
 line:(apos.endLine == cpos.line)=true
 trees:backTo cpos (starEach [e] X.env)=[(false,eval e X.env)]
structure M2 (X:Cx) (o:Expr) (m:Str) (apos:Pos) (e f:Expr) (cpos:Pos):Prop where
 base:attributeBase o m X.env (eval o X.env)=eval o X.env
 few:((backTo cpos (starEach [e,f] X.env)).all (λx=>!x.1)&&(backToKw cpos (keywordEach [] X.env)).all (λx=>x.1.isSome) && decide (([e,f]:List Expr).length+([]:List Keyword).length+(if ([]:List Keyword).isEmpty then 0 else 1)<30))=true
 line:(apos.endLine == cpos.line)=true
 trees:backTo cpos (starEach [e,f] X.env)=[(false,eval e X.env),(false,eval f X.env)]
def yI (H:Hp) (a:Ad):Prop:=(∃ b,Rd H a (.k b))\/(∃ b,Rd H a (.T b))\/∃ b,Rd H a (.dM b)
theorem Ge {X:Cx}(I:Inv X j l H s) (d:yI H a) :
  s.TypeIs (.ref a) "dict" /\ (∀ b,Value.ref a = .ref b->∃ g,s.heap.get? b=some g/\g.dict=none)/\(a == sysModules)=false:=by
 rcases d with⟨f,e⟩ | ⟨f,e⟩ | ⟨f,e⟩
 .obtain⟨_,hd,m,_,c⟩:=rB I.hok e;refine⟨c.typeIs,λb q=>?_,hd⟩;cases q;obtain⟨g,_,_,h,i,_⟩:=c;exact⟨g,h,i.2.1⟩
 .obtain⟨_,hd,k,_,c⟩:=tS I.hok e;refine⟨c.typeIs,λb q=>?_,hd⟩;cases q;obtain⟨g,_,_,h,i,_⟩:=c;exact⟨g,h,i.2.1⟩
 .obtain⟨_,hd,k,g,_,_,_,c⟩:=tR I.hok e;refine⟨c.typeIs,λb q=>?_,hd⟩;cases q;exact⟨g,c.ho,c.hc.2.1⟩
section
variable {X:Cx}
theorem Qh (r:A.units+1<cLine) (I:Inv X j T H s) (g:nM H a y o) (p:kD y u) (h:∀ J C,Inv X j T H C->kD (o.getD .e) J->Q J C) :
  wpAny (model X.prog X.w) A (call (.builtin "dict.get") [.ref a,u]) Q E s:=by
 rcases g with⟨d,k,e,f,l⟩ | ⟨d,k,b,e,f,m,l⟩ | ⟨d,k,e,n,l⟩
 .subst f;obtain⟨z,hd,x,rel,c⟩:=rB I.hok e;refine gX cX c.typeIs dX (iG _ _) (meets_dict_get (kZ X.prog X.w) a (rP p) hd) ⟨_,c.mapOf,h _ _ (I.tok _) ?_⟩;rw[l];exact (rel.val k).getD rfl
 .subst f;cases (show u=Value.ref b from p);obtain⟨z,hd,i,rel,c⟩:=tS I.hok e;refine gX cX c.typeIs dX (iG _ _) (meetsH_dict_get (tupleKind (kZ X.prog X.w)) a b hd) ⟨cD r,k,i,tG I.hok m,c,h _ _ (I.tok _) ?_⟩;rw[l];exact (rel.val k).getD rfl
 .obtain⟨z,hd,i,v,t,q,rel,c⟩:=tR I.hok e;refine gX cX c.typeIs dX (iG _ _) (Yi hd u) ⟨cD (K:=gV) (knd:=kZ X.prog X.w) r,k,v,t,q,i,c,sE I.hok (tQ n p),h _ _ (I.tok _) ?_⟩;rw[l];exact (rel.val k).getD rfl
theorem Y4 (C:A.units+1<cLine) (I:Inv X j U H s) (g:nM H a y o) (p:kD y u) (rd:kD d r) (h:∀ T J,Inv X j U H J->kD (o.getD d) T->Q T J) :
  wpAny (model X.prog X.w) A (call (.builtin "dict.get") [.ref a,u,r]) Q E s:=by
 rcases g with⟨f,k,e,i,l⟩ | ⟨f,k,b,e,i,n,l⟩ | ⟨f,k,e,q,l⟩
 .subst i;obtain⟨z,hd,B,rel,c⟩:=rB I.hok e;refine gX cX c.typeIs dX (iH _ _ _) (meets_dict_get_default (kZ X.prog X.w) a (rP p) hd r) ⟨_,c.mapOf,h _ _ (I.tok _) ?_⟩;rw[l];exact (rel.val k).getD rd
 .subst i;cases (show u=Value.ref b from p);obtain⟨z,hd,m,rel,c⟩:=tS I.hok e;refine gX cX c.typeIs dX (iH _ _ _) (meetsH_dict_get_default (tupleKind (kZ X.prog X.w)) a b hd r) ⟨cD C,k,m,tG I.hok n,c,h _ _ (I.tok _) ?_⟩;rw[l];exact (rel.val k).getD rd
 .obtain⟨z,hd,m,x,v,t,rel,c⟩:=tR I.hok e;refine gX cX c.typeIs dX (iH _ _ _) (Nk hd u r) ⟨cD (K:=gV) (knd:=kZ X.prog X.w) C,k,x,v,t,m,c,sE I.hok (tQ q p),h _ _ (I.tok _) ?_⟩;rw[l];exact (rel.val k).getD rd
end
def Ta (g ty:TE):TE:=λd H Q=>g d H λx b=>∃ a,x = .ref a/\yI b a/\ty d b λy c=>∃ o,nM c a y o/\Q (o.getD .e) c
def T8 (g ty j:TE):TE:=λb H Q=>g b H λx c=>∃ a,x = .ref a/\yI c a/\ty b c λy e=>j b e λz d=>∃ o,nM d a y o/\Q (o.getD z) d
section
variable {X:Cx}
theorem Qm (r:X.A.units+1<cLine) (p:PE X o C) (l:PE X e ty) (m:M1 X o "get" apos e j):PE X (.Call (.Attribute o "get" apos) [e] [] j) (Ta C ty):=by
 intro b s k H Q I h;refine wpAny_Call_method m.base m.few m.line fX cX PySem.F.type_dict_get (hL (p b s k H _ I h) λu G c=>?_);obtain⟨x,n,i,D,a,w,d,z⟩:=c;subst w;obtain rfl:u=Value.ref a:=D;obtain⟨K,L,_⟩:=Ge i d;refine⟨K,L,?_⟩;rw[m.trees];refine iO rfl (jA (gE (hL (l b G k n _ i z) λiv N ⟨y,q,t,E,M,g,B⟩=>iM ?_)));exact Qh r t g E λP O v f=>⟨_,q,v,f,B⟩
theorem U4 (C:X.A.units+1<cLine) (r:PE X o J) (l:PE X e ty) (p:PE X f T) (m:M2 X o "get" apos e f j):PE X (.Call (.Attribute o "get" apos) [e,f] [] j) (T8 J ty T):=by
 intro b s k H Q I h;refine wpAny_Call_method m.base m.few m.line fX cX PySem.F.type_dict_get (hL (r b s k H _ I h) λu P c=>?_);obtain⟨x,q,n,M,a,E,d,G⟩:=c;subst E;obtain rfl:u=Value.ref a:=M;obtain⟨S,V,_⟩:=Ge n d;refine⟨S,V,?_⟩;rw[m.trees];refine iO rfl (jA (gE (hL (l b P k q _ n G) λiv R ⟨y,t,w,N,K⟩ =>gE (hL (p b R k t _ w K) λW Z ⟨z,v,B,O,Y,g,L⟩=>iM ?_))));exact Y4 C B g N O λw' U D i=>⟨_,v,D,i,L⟩
end
section
variable {X:Cx}
theorem Vx (I:Inv X j r H s) (e:Rd H a (.k g)) (h:∀ p l,H p=none->Inv X j r (upd H p (.k g)) l->Q (.ref p) l):wpAny (model X.prog X.w) A (call (.type "dict") [.ref a]) Q E s:=by
 obtain⟨z,hd,n,rel,f⟩:=rB I.hok e;refine kt_call_dict hd f (by rw[<- rel.length];exact z) λm c i=>?_
 refine h _ _ (I.hok.fresh (aP _)) (I.laid (a:=s.heap.objs.size) (o:=.k g) (t':=s.toks) (λb q d=>?_) (aP _) (xL z (cF.mpr (dH (bH I.big))) rel c));exact (i.2 b (bH (aQ d))).trans (aF _ d)
end
end L2
namespace Att
open PySem PySem.W PySem.Calls PyProof.Rows
theorem Y8 {P:Params}:∀ (g:Aa Int) (j:Aa Ac),WellAll P h j (g.map WData.int)->IntsAre j g:=by
 intro g;induction g with
 | nil =>
  intro j w;rw[fJ] at w;cases w;exact .nil
 | cons n g c =>
  intro j w;rw[aI] at w;cases w with
  | cons a b =>
   cases a;exact .cons _ _ (c _ b)
theorem Xz {l:OpenLaw}(I:l.most=some n){P:Params}
  (j:l.row.toRowW.claim.pre args=true) (p:WellAll P h o args) :
  ∃ a C g,o=[Value.ref a]/\args=[WData.list (g.map WData.int)]/\h.get? a=some { cls:=.type "list",data:=.seq C.toArray }/\IntsAre C g/\g.length<=n:=by
 have i:WShape.hasAll [] args [.list .int]=true:=(pre_splitW j).1;have k:l.pre.holds [] { args:=args }=true:=(pre_splitW j).2;obtain⟨d,r,rfl,m,s⟩:=hasAllW_cons i;obtain rfl:=hasAllW_nil s;obtain⟨w,rfl,t⟩:=hasW_list m;obtain⟨g,rfl⟩:=items_int t;have c:g.length<=n:=by
  unfold OpenLaw.pre at k;have e:(WTm.not (.lt (.lit (.int (n:Int))) (.len (.arg 0)))).holds [] { args:=[.list (g.map .int)] }=true:=by
   have e:=(holds_andW k).1;rw[I] at e;exact e
  have f:=condW_of e (w_not (w_lt w_lit (w_len_list (w_arg rfl))));rw[aD] at f;refine Nat.le_of_not_lt λq=>?_
  have v:(n:Int)<((g.length:Nat):Int):=by omega
  first
   | (rw[cC v] at f;exact absurd f (by decide))
   | (simp at f;omega)
 cases p with
 | cons w1 w2 =>
  cases w2;cases w1 with
  | list u b=>exact⟨_,_,g,rfl,rfl,u,Y8 g _ b,c⟩
theorem R0 (l:OpenLaw) (args:Aa WData):l.row.toRowW.claim.post args (.bool true) args=true :=
 postW_of (r:=l.row.toRowW) (X:=(true == true))
  (show WShape.has [] (.bool true) .bool=true by first | rfl | decide | simp[WShape.has,WShape.arms,WShape.armsAll])
  (show (WTm.eq .res (.lit (.bool true))).value [] { args:=args,res:=some (.bool true),after:=args }=some (.bool (true == true)) from w_eq_bool (w_res rfl) w_lit) rfl
theorem attach_call {l:OpenLaw}
  (hn:l.most=some n) (aa:d.params.defaults=[])
  (call:∀ (w:World) (j g:Ae) (T mb:Af->Ab Ac) (J:Ad) (o:Obj) (pm cd p:Ac) (a:Ad) (I:Aa Ac) (U:Aa Int),Ground q C [] XP w j T mb g.heap->YP w g.heap ->g.heap.get? J=some o->o.data = .func (docDef d.name d.params d.body d.scope pm cd p)->g.heap.CodeRec cd d.name->T d.name=some (.ref J) ->g.heap.get? a=some { cls:=.type "list",data:=.seq I.toArray }->IntsAre I U->U.length<=n->g.gens=#[] ->
   codeAny (model l.prog w) callerA (.call (.ref J) ⟨[.ref a],[]⟩) (λr s'=>r = .ok (.ret (.bool true))/\OldK g.heap s'.heap/\s'.os=g.os/\AllBare s'.gens) g) :
  WalkO q C XP YP l.row.toRowW d [] (λf I=>PySem.call f I):=by
 intro w j g T mb G Y J o pm cd p v kV E hd i s k A args u as h t H m B;obtain rfl:v = .none:=Dflts.none s aa;obtain rfl:kV = .none:=Dflts.noKw s;obtain⟨a,I,U,rfl,rfl,e,b,c⟩:=Xz hn h m;refine enter_call (codeAny_mono (call w j g T mb J o pm cd p a I U G Y E (fd_plain hd) i k e b c A) λr s' F=>?_);obtain⟨rfl,x,y,z⟩:=F;exact⟨.inl ⟨.bool true,.bool true,[],rfl,λ_=>rfl,.bool true,R0 l _,λ_=>⟨List.Pairwise.nil,λ_ D=>(nomatch D)⟩⟩,x,y,z⟩
end Att
namespace L2
open PySem PySem.Spec PyProof.Rows
theorem Kq:∀ {j:Aa Ac}{g:Aa Int},IntsAre j g->kF (g.map V.int) j
 | _,_,.nil=>.nil
 | _,_,.cons n t h=>.cons ⟨t,rfl⟩ (Kq h)
def zK (H:Hp):Prop:=∀ b,H b=none\/∃ o a,H b=some (.frz o (.l a))
theorem P4 {P:Ah}{K:kC}
  (KX:K.In g.heap) (T:g.heap.Ns mainGlobals mg) (j:g.heap.Ns builtinsNs mb) (ab:∀ x:Af,x ≠ "__name__" -> mb x=bootBuiltins x) (J:g.heap.NoLimit) (hg:g.gens=#[])
  (U:g.heap.get? a=some { cls:=.type "list",data:=.seq I.toArray }) (hi:IntsAre I ns) (hl:ns.length<=sizeLine) (hr:Room k callerA)
  (F:∀ base:Ag,K.In base->base.Ns mainGlobals mg->FnOk P w K mg base CX k fa fd [x] sp) (C:∀ (s:Ae) (u:Ac),BindsTo s fd ⟨[u],[]⟩ [(x,u)])
  (ac:∀ H:Hp,zK H->kK K H a (ns.map V.int)->sp [.ref a] H (λv _=>v = .b true) λ_ _ _=>False)
  (aa:∀ H e p,CX [] H g (λ_ _ _=>False) e p->False) :
  codeAny (model P w) callerA (.call (.ref fa) ⟨[.ref a],[]⟩) (λr p=>r = .ok (.ret (.bool true))/\OldK g.heap p.heap/\p.os=g.os/\AllBare p.gens) g:=by
 have R:=Kq hi;have D:=hi.length;have core:∀ H:Hp,zK H->kK K H a (ns.map V.int)->lP P w H g.heap->(∀ b,H b≠none->b=a)->(H a≠none->K.lookup a=none) ->
   codeAny (model P w) callerA (.call (.ref fa) ⟨[.ref a],[]⟩) (λr p=>r = .ok (.ret (.bool true))/\OldK g.heap p.heap/\p.os=g.os/\AllBare p.gens) g:=by
  intro H Q hS A O hK;have c:∀ {b:Ad} {o:Obj},g.heap.get? b=some o->H b=none->(sA g.heap H).get? b=some o:=λe n=>P9 e n
  have M:∀ {b:Ad} {o:Obj} {t:Array DictEntry} {i:Nat},g.heap.get? b=some o->o.data = .dict t i->H b=none:=λ{b o t i} e d=>by
   cases q:H b with
   | none=>rfl
   | some u =>
    have G:b=a:=O b (by rw[q];simp);subst G;rw[U] at e;cases e;have S:Data.seq I.toArray _=Data.dict t i:=d;cases S
  have f:∀ {b:Ad} {m:Af->Ab Ac},g.heap.Ns b m->(sA g.heap H).Ns b m:=λ{b m} ⟨o,t,i,e,d,r⟩=>⟨o,t,i,c e (M e d),d,r⟩
  have y:K.In (sA g.heap H):=λb o e=>c (KX b o e) (by
   cases q:H b with
   | none=>rfl
   | some u =>
    have G:b=a:=O b (by rw[q];simp);subst G;rw[hK (by rw[q];simp)] at e;cases e)
  have hM:Mod K mg (sA g.heap H):=⟨y,f T,⟨mb,f j,ab⟩,let ⟨mc,Z,h2⟩:=J;⟨mc,f Z,h2⟩⟩;have W:Env0 P w K mg (sA g.heap H) callerA [] g H:=⟨rfl,hM,λb o e=>Qj e,Nat.le_of_eq (S9 _ _),trivial,λb j=>absurd (show b∈([]:Aa Ad) from j) (by simp),A,.of_eq hg⟩;refine codeAny_mono ((F _ y (f T)).run callerA [] g H ⟨[.ref a],[]⟩ [.ref a] [.ref a] _ _ hr W (C g (.ref a)) (.cons rfl .nil) (ac H Q hS)) λr p h=>?_
  cases r with
  | error e=>exact (aa H e p h).elim
  | ok Y =>
   cases Y with
   | next=>exact False.elim h
   | brk=>exact False.elim h
   | cont=>exact False.elim h
   | ret u =>
    obtain⟨v,H',os,bare,un,B,r',q⟩:=h;have q':v = .b true:=q;subst q';obtain rfl:u=Value.bool true:=r';refine⟨rfl,OldK.of_keep λb o e=>?_,os,bare⟩;cases q:H b with
    | none=>exact un.keep b o e q (by intro z;exact absurd (show b∈([]:Aa Ad) from z) (by simp)) (by simp)
    | some u =>
     rcases Q b with z | ⟨ob,xs,z⟩
     .rw[q] at z;cases z
     .have z2:=un.frzs b ob _ z;obtain⟨N,_⟩:=A b _ z;obtain⟨X,_⟩:=B b _ z2;rw[e] at N;cases N;exact X
 cases L:K.lookup a with
 | some o =>
  have e:=KX a o L;rw[U] at e;cases e;refine core (λ_=>none) (λ_=>.inl rfl) (.inr ⟨_,I.toArray,_,L,rfl,rfl,rfl,by rw[aK,D];exact hl,by simpa using R⟩) (λb u z=>by have E:(none:Ab HO)=some u:=z;cases E) (λb z=>absurd rfl z) λz=>absurd rfl z
 | none =>
  refine core (λb=>if b=a then some (.frz { cls:=.type "list",data:=.seq I.toArray } (.l (ns.map V.int))) else none) (λb=>?_) (.inl (.inr ⟨{ cls:=.type "list",data:=.seq I.toArray },aH rfl⟩)) (λb u z=>?_) (λb z=>?_) λ_=>L
  .by_cases j:b=a
   .exact .inr ⟨_,_,aH j⟩
   .exact .inl (aE j)
  .by_cases j:b=a
   .have E:=(aH j).symm.trans z;cases E;subst j;exact⟨U,by rw[aD];exact hl,I,_,R,U⟩
   .have E:=(aE j).symm.trans z;cases E
  .by_cases j:b=a
   .exact j
   .exact absurd (aE j) z
theorem walk_of {l:PySem.W.OpenLaw}{n k:Nat}{q:Ah}{j:Aa Af}{XP:(Af->Ab Ac)->Ag->Prop}{YP:World->Ag->Prop}{d:DefRec}{K:Params->kC}{CX:World->vX}{sp:World->Sp}{x:Af}
  (hn:l.most=some n) (U:n<=sizeLine) (J:d.params.defaults=[]) (hr:Room k callerA)
  (hY:∀ (w:World) (h:Ag),YP w h->(K w.params).In h)
  (F:∀ (w:World) (p:Af->Ab Ac) (r:Ad) (h:Ag),(K w.params).In h->h.Ns mainGlobals p->p d.name=some (.ref r) ->∃ fd:FuncData,(∀ (s:Ae) (u:Ac),BindsTo s fd ⟨[u],[]⟩ [(x,u)]) /\ ∀ base:Ag,(K w.params).In base->base.Ns mainGlobals p->FnOk l.prog w (K w.params) p base (CX w) k r fd [x] (sp w))
  (aa:∀ (w:World) (H:Hp) (a:Ad) (C:Aa Int),C.length<=n->zK H->kK (K w.params) H a (C.map V.int)->sp w [.ref a] H (λv _=>v = .b true) λ_ _ _=>False)
  (I:∀ (w:World) (H:Hp) (s:Ae) (e:Ac) (s':Ae),CX w [] H s (λ_ _ _=>False) e s'->False) :
  PySem.W.WalkO q j XP YP l.row.toRowW d [] (λf vs=>PySem.call f vs):=by
 refine Att.attach_call hn J λw A t p Q r o pm cd B a vs C G Y P hd N y m i c O=>?_
 have z:=hY w _ Y;obtain⟨fd,M,D⟩:=F w p r _ z G.T.g y;exact P4 z G.T.g G.T.b G.T.builtins G.T.nolimit O m i (bS c U) hr D M (λH E L=>aa w H a C c E L) λH e s'=>I w H t e s'
def vI (s:Stmt):Arguments:=match s with
 | .FunctionDef _ a _ _ _ _ _ _ _ _=>a
 | _=>{ posonlyargs:=[],args:=[],vararg:=none,kwonlyargs:=[],kw_defaults:=[],kwarg:=none,defaults:=[] }
def sD (s:Stmt):Aa Stmt:=match s with
 | .FunctionDef _ _ b _ _ _ _ _ _ _=>b
 | _=>[]
def lQ (s:Stmt):Scope:=match s with
 | .FunctionDef _ _ _ _ _ _ a _ _ _=>a
 | _=>{ kind:=.function,names:=[],isGenerator:=false,isCoroutine:=false }
abbrev kQ:vX:=λ_ _ _ _ _ _=>False
abbrev E0:XK:=λ_ _ _=>False
theorem Mz {X:Cx}:Ed kQ X E0:=λ_ _ _ _ _ _ _ h=>h.elim
structure Fun (K:kC) (x qual:Str) (st:Stmt) (f:Addr) (fd:FuncData):Prop where
 ex:∃ (oc:Value) (od:Option Addr) (kV doc pm:Value) (an:Option Addr) (cdv ct:Value) (osl:Array (Option Value)),
  fd=PySem.W.fnOf x qual (vI st) (sD st) (lQ st) .none kV doc pm an cdv ct/\K.lookup f=some ⟨oc,od,.func fd,osl⟩/\PySem.W.codeIn K cdv qual=true
 kp:PySem.W.keepIn K (.ref f)=true
section
variable {P:Ah}{K:kC}
theorem Fun.ok {st:Stmt}(F:Fun K x l st f fd) (S:FnScope N r (lQ st)) (len:∀ p H Q E,C p H Q E->p.length=r.length)
  (o:∀ (j:Ac) (A:Around) (g:Aa Env) (s:Ae) (H:Hp) (p:Aa V) (Q:VK) (E:XK),Room k (A.deeper (envOfC l (lQ st) s.heap.objs.size f j))->C p H Q E ->∃ t,oM (tO kQ P w K J base N l (lQ st) f j A g s H E).nox (sD st) t/\t { nx:=λ_ I=>Q .e I,rt:=Q } (qP N p) H):FnOk P w K J base kQ (k+1) f fd r C:=by
 obtain⟨u,v,kV,c,pm,m,j,n,i,rfl,lk,a⟩:=F.ex;refine Mg lk a S len λA g s H p Q E d b=>?_
 obtain⟨t,h,q⟩:=o j A g s H p Q E d b;exact⟨t,h.nox,q⟩
theorem Fun.binds {st:Stmt}(F:Fun K x l st f fd)
  (h:∀ (kV j pm:Ac) (o:Ab Ad) (g p:Ac) (r:Aa Ac),r.length=C.length->bindArgs (PySem.W.fnOf x l (vI st) (sD st) (lQ st) .none kV j pm o g p) ⟨r,[]⟩=pure (C.zip r)):uZ K fd C []:=by
 obtain⟨c,d,kV,j,pm,o,g,p,b,rfl,lk,a⟩:=F.ex;exact .all (h kV j pm o g p)
theorem nP {st:Stmt}{kV:Ac}(l:K.lookup f=some ⟨I,J,.func (PySem.W.fnOf x g (vI st) (sD st) (lQ st) .none kV o pm r j C),p⟩)
  (c:PySem.W.codeIn K j g=true) (k:PySem.W.keepIn K (.ref f)=true):Fun K x g st f (PySem.W.fnOf x g (vI st) (sD st) (lQ st) .none kV o pm r j C):=⟨⟨I,J,kV,o,pm,r,j,C,p,rfl,l,c⟩,k⟩
end
theorem nL (g:Room k A):A.units+1<cLine:=cJ (Nat.add_le_add_left (by decide:1<=64) _) g.units
section
variable {X:Cx}
theorem pv (i:Nat) (j:X.N[i]?=some x:=by rfl) (l:zP X.env.scope x:=by first | exact Or.inl rfl | exact Or.inr (Or.inl rfl) | exact Or.inr (Or.inr rfl)) (hd:(x == ("__debug__" : Af))=false:=by decide)
  (g:(x == ("__classdict__" : Af))=false:=by decide):PE X (.Name x pos) (nZ i):=Yf j l hd g
theorem Sh:lS X (.builtin "len") (λj H Q=>∃ a g,j=[V.ref a]/\H a=some (.k g)/\Q (.int g.length) H):=by
 intro b s m H j i Q I r h;obtain⟨a,g,rfl,d,q⟩:=h;obtain⟨u,rfl,e⟩:=oV r;cases e;exact Qu I (.inl d) λt f c=>⟨.int g.length,H,c,⟨t,rfl⟩,q⟩
end
theorem uA {A B:Prop}(h:B):if false=true then A else B:=by
 rw[aE aR];exact h
def Kw (H g:Hp):Prop:=∀ b o,H b=some o->g b=some o
section
variable {X:Cx}
theorem zX {K:kC}:∀ {j:Aa Int}{g:Aa Ac},kF (j.map V.int) g->∃ xs:Array (Int×Tok),g.toArray=intItems xs/\j=xs.toList.map (·.1)
 | [],_,.nil=>⟨#[],by simp[intItems],rfl⟩
 | n::j,_,.cons r c=>by
  obtain⟨t,rfl⟩:=r;obtain⟨xs,a,b⟩:=zX (K:=K) c;refine⟨(⟨(n,t)::xs.toList⟩:Array (Int×Tok)),?_,by rw[b];rfl⟩;have:(intItems xs).toList=_:=(cO Array.toList a).symm;unfold intItems at this |-;refine Array.toList_inj.mp ?_;simp only[Array.toList_map] at this |-;rw[aI,this]
theorem Bo (p:l=o.toList.map (·.1)) (g:j<o.size):∃ h:j<l.length,numAt o j=l[j]:=by
 subst p;refine⟨by simpa using g,?_⟩;simp[numAt,g]
theorem Dy (l:X.calm=true):lS X (.builtin "sum") (λj H Q=>∃ (p:Ad) (g:Aa Int),j=[.ref p]/\kK X.K H p (g.map V.int)/\Q (.int g.sum) H):=by
 intro a s z H j y Q I r h;obtain⟨p,g,rfl,d,q⟩:=h;obtain⟨u,rfl,m⟩:=oV r;cases m;obtain⟨f,k,i,w⟩:=I.list d;obtain⟨t,e,b⟩:=zX (K:=X.K) k;refine sum_intListG (xs:=t) (I.ok.hd l) (e▸i.isList) λv x n c=>⟨.int g.sum,H,I.kept c,⟨n,?_⟩,q⟩
 rw[preSum_eq,bN (by simp),b]
theorem Pq (l:X.calm=true):lS X (.builtin "min") (λxs H Q=>∃ (p:Ad) (g:Aa Int),xs=[.ref p]/\kK X.K H p (g.map V.int)/\g≠[]/\∀ m:Int,m∈g->(∀ a∈g,m<=a)->Q (.int m) H):=by
 intro n s Y H xs W Q I r h;obtain⟨p,g,rfl,B,f,q⟩:=h;obtain⟨u,rfl,N⟩:=oV r;cases N;obtain⟨E,M,L,P⟩:=I.list B;obtain⟨b,e,d⟩:=zX (K:=X.K) M;have i:0<b.size:=by
  rcases Nat.eq_zero_or_pos b.size with z | z
  .exfalso;apply f;rw[d];simp[Array.size_eq_zero_iff.mp z]
  .exact z
 refine min_intList (xs:=b) (I.ok.hd l) (e▸L.isList) i λv O S D A=>?_
 obtain⟨t,rfl⟩:=intItems_at (xs:=b) D;have c:=argBest_lt (numAt b) (b.size-1);obtain⟨G,w⟩:=Bo d (cJ c.1 (show b.size-1<b.size by omega));refine⟨.int _,H,I.kept A,⟨t,rfl⟩,q _ (w▸gW G) λa y=>?_⟩;obtain⟨j,k,rfl⟩:=List.getElem_of_mem y;have F:j<b.size:=by rw[d] at k;simpa using k
 obtain⟨R,x⟩:=Bo d F;exact x▸c.2 j (by omega)
theorem Xk (l:X.calm=true):lS X (.builtin "max") (λxs H Q=>∃ (p:Ad) (g:Aa Int),xs=[.ref p]/\kK X.K H p (g.map V.int)/\g≠[]/\∀ m:Int,m∈g->(∀ a∈g,a<=m)->Q (.int m) H):=by
 intro n s Y H xs W Q I r h;obtain⟨p,g,rfl,B,f,q⟩:=h;obtain⟨u,rfl,N⟩:=oV r;cases N;obtain⟨E,M,L,P⟩:=I.list B;obtain⟨b,e,d⟩:=zX (K:=X.K) M;have i:0<b.size:=by
  rcases Nat.eq_zero_or_pos b.size with z | z
  .exfalso;apply f;rw[d];simp[Array.size_eq_zero_iff.mp z]
  .exact z
 refine max_intList (xs:=b) (I.ok.hd l) (e▸L.isList) i λv O S D A=>?_
 obtain⟨t,rfl⟩:=intItems_at (xs:=b) D;have c:=argBest_gt (numAt b) (b.size-1);obtain⟨G,w⟩:=Bo d (cJ c.1 (show b.size-1<b.size by omega));refine⟨.int _,H,I.kept A,⟨t,rfl⟩,q _ (w▸gW G) λa y=>?_⟩;obtain⟨j,k,rfl⟩:=List.getElem_of_mem y;have F:j<b.size:=by rw[d] at k;simpa using k
 obtain⟨R,x⟩:=Bo d F;exact x▸c.2 j (by omega)
end
section
variable {X:Cx}
def Dt (K:kC) (neg:Bool):R2:=λx y H Q=>∃ (a b:Ad) (c:Aa V),x = .ref a/\y = .ref b/\kK K H a c/\kK K H b []/\Q (.b (if neg then !c.isEmpty else c.isEmpty)) H
theorem Uc (g:X.A.units+64<cLine):kP X (compareOp .Eq) (Dt X.K false):=by
 intro c s M H x y v u Q I F G h;obtain⟨a,b,L,rfl,rfl,f,z,q⟩:=h;cases F;cases G;obtain⟨B,D,m,_⟩:=I.list f;obtain⟨k,E,n,_⟩:=I.list z;cases E;have t:∀ d,d=L.isEmpty->EP X c M Q (.bool d) s:=λd e=>⟨.b d,H,I,rfl,by subst e;exact q⟩
 cases D with
 | nil=>exact SeqAt.RcAt.lists (e:=λ_=>true) m.isList n.isList rfl (by omega) (λi f _=>by simp at f) X.prog X.w _ _ (t _ (by simp))
 | cons r N=>exact SeqAt.RcAt.lists_lengths m.isList n.isList (by simp) (by omega) X.prog X.w _ _ (t _ rfl)
end
section
variable {X:Cx}
def xW (z:Af) (lo g:Ab Int):Af:=⟨((z.cps.toList.drop (HT.sIx z.length 0 lo)).take (HT.sIx z.length z.length g-HT.sIx z.length 0 lo)).toArray⟩
theorem Qp (lo g:Ab Int) (n:Nat):Builtin.Str.strSliceIndices lo g 1 n=(List.range (HT.sIx n n g-HT.sIx n 0 lo)).map (HT.sIx n 0 lo+·):=by
 unfold Builtin.Str.strSliceIndices;rw[<- sliceRange_one];have c:∀ (v:Ab Int) (d:Nat),d<=n->(match v with | none=>((d:Nat):Int) | some i=>if (1:Int)>0 then max 0 (min (if i<0 then i+(n:Int) else i) (n:Int)) else max (-1) (min (if i<0 then i+(n:Int) else i) ((n:Int)-1)))=((HT.sIx n d v:Nat):Int):=by
  intro v d hd;cases v with
  | none=>rfl
  | some i =>
   simp only[HT.sIx,show (1:Int)>0 by decide,eF];by_cases h:i<0
   .simp only[h,eF]<;>omega
   .simp only[h,dL]<;>omega
 have a:=c lo 0 (dN _);have b:=c g n (aP _);simp only[show (1:Int)>0 by decide,eF] at a b |-;rw[<- a,<- b];cases lo<;>cases g<;>rfl
def Io:V->Ab Int->Ab Int->Hp->VK->Prop:=λx lo a H Q=>∃ z:Af,x = .str z/\z.length<=sizeLine/\Q (.str (xW z lo a)) H
theorem Kx (p:IsPart v o):∃ l:Ab (Int×Tok),v=partValue l/\o=l.map (·.1):=by
 cases p with
 | none=>exact⟨none,rfl,rfl⟩
 | int i t=>exact⟨some (i,t),rfl,rfl⟩
theorem Kz (z:Af):z.cps.toList.length=z.length:=by
 rw[fV];rfl
theorem Qi {a b:Af}(h:a.cps.toList=b.cps.toList):a=b:=by
 obtain⟨a⟩:=a;obtain⟨b⟩:=b
 congr
 exact Array.toList_inj.mp h
theorem Rx:rM X Io:=by
 intro c s L H x v G K lo B E Q I A n w y h;obtain⟨z,rfl,D,q⟩:=h;obtain⟨t,rfl⟩:=A;obtain⟨l,rfl,rfl⟩:=Kx w;obtain⟨u,rfl,rfl⟩:=Kx y;refine⟨"str",_,PySem.F.slot_str_getitem.lookup,typeIs_str _ z t,?_⟩;refine wpAny_getItem_str_slice (l:=l) (u:=u) (st:=none) n rfl ?_;have e:slicePicked z l u none=(List.range (HT.sIx z.length z.length (u.map (·.1))-HT.sIx z.length 0 (l.map (·.1)))).map (HT.sIx z.length 0 (l.map (·.1))+·):=Qp _ _ _;have d:(⟨((slicePicked z l u none).filterMap (z.cps[·]?)).toArray⟩:Af)=xW z (l.map (·.1)) (u.map (·.1)):=by
  rw[e,pick_run];rfl
 have m:=HT.sIx_le z.length z.length (aP _) (u.map (·.1));have b:=HT.sIx_le z.length 0 (dN _) (l.map (·.1));unfold sliceMade;split
 .rename_i k
  have a:(slicePicked z l u none).length=z.length:=by
   have:=(cM _ _).mp k;exact eq_of_beq this.2
  have f:xW z (l.map (·.1)) (u.map (·.1))=z:=by
   rw[e,aD,jU] at a;apply Qi;show ((z.cps.toList.drop _).take _)=z.cps.toList;have i:HT.sIx z.length 0 (l.map (·.1))=0:=by omega
   rw[i] at a |-;rw[List.drop_zero,bN];rw[Kz];omega
  rw[f] at q;exact⟨.str z,H,I,⟨t,rfl⟩,q⟩
 .rw[d];refine⟨?_,.str _,H,I.tok _,⟨_,rfl⟩,q⟩;have:(xW z (l.map (·.1)) (u.map (·.1))).length<=z.length:=by
   show ((z.cps.toList.drop _).take _).toArray.size<=_;rw[aK,bY,eT,Kz];omega
  omega
theorem Up:lS X (.type "dict") (λj H Q=>∃ (a:Ad) (g:Aa (gV×V)),j=[.ref a]/\H a=some (.k g)/\∀ p,H p=none->Q (.ref p) (upd H p (.k g))):=by
 intro b s n H j m Q I r h;obtain⟨a,g,rfl,d,q⟩:=h;obtain⟨u,rfl,f⟩:=oV r;cases f;exact Vx I (.inl d) λp i e c=>⟨.ref p,_,c,rfl,q p e⟩
theorem Vl:lS X (.builtin "isinstance") (λj H Q=>∃ (x c:V) (t g:Ac) (b:Bool),j=[x,c]/\kD c g/\TyOf X.K H x t/\PySem.W.kitOne X.K t g=some b/\Q (.b b) H):=by
 intro k s A H j y Q I r h;obtain⟨x,c,t,g,b,rfl,d,ty,e,q⟩:=h;obtain⟨u,v,rfl,m,f⟩:=Aq r;have:v=g:=by
  cases c with
  | ref a=>cases d;cases f;rfl
  | ty n=>cases d;cases f;rfl
  | e=>cases d;cases f;rfl
  | b b=>cases d;cases f;rfl
  | int i=>obtain⟨z,rfl⟩:=d;exact absurd e (by unfold PySem.W.kitOne PySem.W.kitCls;cases ty<;>simp)
  | str i=>obtain⟨z,rfl⟩:=d;exact absurd e (by unfold PySem.W.kitOne PySem.W.kitCls;cases ty<;>simp)
  | byt i=>obtain⟨z,rfl⟩:=d;exact absurd e (by unfold PySem.W.kitOne PySem.W.kitCls;cases ty<;>simp)
  | flt i=>obtain⟨z,rfl⟩:=d;exact absurd e (by unfold PySem.W.kitOne PySem.W.kitCls;cases ty<;>simp)
 subst this;exact Vc I m ty e λw=>⟨.b b,H,I.tok _,rfl,q⟩
end
def vE (z:Af):It:=⟨λi _=>i<z.length,λi H x a=>a=H/\∃ c,z.cps[i]?=some c/\x = .str ⟨#[c]⟩,λi _=>z.length<=i⟩
theorem U3 {P:Ah}{K:kC}(z:Af) (t:Tok) (it:Ad):Turn P w K tg (vE z) [it] it (λi h=>h.IsStrIter it "str_ascii_iterator" z t i) where
 mem:=by simp
 obj:=λi h st b hb=>by
  have e:b=it:=by simpa using hb
  subst e;obtain⟨o,e,c,d⟩:=st;exact⟨o,e,λv z=>by rw[d] at z;cases z⟩
 keep:=λi h h' st k=>by
  obtain⟨o,e,r⟩:=st;exact⟨o,k it (by simp) o e,r⟩
 item:=by
  intro X hP hw hK hc i pins s σ H E I hf st hg;subst hP hw hK;have hg:i<z.length:=hg;obtain⟨f0,f1,f2,f3,f4,f5⟩:=hf it (by simp);have hz:z.cps[i]?=some (z.cps[i]'hg):=cH hg;refine wpAny_pyNext_ascii_item st hz λh' st' sb=>?_
  have I1:Inv X pins σ H { s with heap:=h',toks:=s.toks+1 }:=I.turned (t':=s.toks+1) (λb o hb e=>(sb.2 b hb).trans e) f0 f1 f3 f4 f5;obtain⟨o,e,c,d⟩:=id st';exact⟨_,rfl,xI (s:={ s with heap:=h',toks:=s.toks+1 }) e c d (by decide) ⟨.str ⟨#[z.cps[i]'hg]⟩,H,I1,⟨_,rfl⟩,⟨rfl,_,hz,rfl⟩,st',λb hb=>(hf b hb).1⟩⟩
 done:=by
  intro X hP hw hK hc i pins s σ H E I hf st hg;subst hP hw hK;have hg:z.length<=i:=hg;obtain⟨f0,f1,f2,f3,f4,f5⟩:=hf it (by simp);exact wpAny_pyNext_ascii_end (I.ok.hd hc) st (dY (by exact hg)) λh' eb=>⟨rfl,I.turned (t':=s.toks) (λb o hb e=>eb b o hb e) f0 f1 f3 f4 f5⟩
 self:=λ_ _ _ _ _ st h=>wpAny_pyIter_striter_ascii st h
end L2
namespace PySem
open PyProof.Rows L2
section
theorem Yc {s g:Ae}(a:g.gens=s.gens) (b:g.drawn=s.drawn) (c:g.os=s.os):g={ s with heap:=g.heap,toks:=g.toks }:=by
 cases s;cases g;cases a;cases b;cases c;rfl
end
theorem zD:entryFor table "dict.update.loop" = some Builtin.«dict.update.loop»:=entryFor_of_tree (by kernel_rfl)
theorem sZ:plainId "dict.update.loop" = true:=by decide +kernel
theorem Uv:typeLookup (.type "list") "keys" = pure none:=am_miss_of_fast (by decide +kernel)
section
theorem P6
  (l:s.heap.get? a=some { cls:=.type "list",dict:=none,data:=.seq j n,slots:=r }) (calm:A.handled=none) (o:∀ p C e,Heap.NewAttrErr s.heap p e (.ref a) "keys" -> E (.ref e) { s with heap:=p,toks:=C }) :
  wpAny (model g w) A (boundAndCalled (.builtin "list.__getattribute__") (.ref a) (.str "keys" u)) Q E s:=by
 have ask:wpAny (model g w) A (call (.builtin "list.__getattribute__") [.ref a,.str "keys" u]) Q E s :=
  jO hU ⟨_,l,rfl⟩ am_entry_list_getattribute (F.args_list_getattribute_2 _ _) (meets_getattribute_miss_list a j n r "keys" u Uv (by decide +kernel)) ⟨l,calm,o⟩
 unfold boundAndCalled;rw[hU.bind (.ref a)];exact aA (aB ask)
theorem X5 (t:s.TypeIs (.ref e) "AttributeError") (j:E (.ref e) s) :
  wpAny (model g w) A (getattributeRaised o name (.type "list") (.ref e) none false false) Q E s:=by
 have last:wpAny (model g w) A (hookOrError o name (.ref e) false false none) Q E s:=aA (wpAny_throw j);have a:hookBehind (.type "list") none=pure none:=am_list_getattr_none;unfold getattributeRaised;refine aA (eU t iB ?_);rw[aH rfl,a];exact aA (aB last)
theorem Wv
  (l:s.heap.get? a=some { cls:=.type "list",dict:=none,data:=.seq I n,slots:=J }) (calm:A.handled=none) (C:∀ j p e,Heap.NewExcOf s.heap j e "AttributeError" -> Q none { s with heap:=j,toks:=p }) :
  wpAny (model g w) A (getAttr? (.ref a) "keys") Q E s:=by
 have c:∀ j p e,Heap.NewAttrErr s.heap j e (.ref a) "keys" -> (∃ o,j.get? e=some o/\o.cls = .type "AttributeError")/\Q none { s with heap:=j,toks:=p }:=λj p e x=>by
  obtain⟨_,_,y⟩:=x.there;exact⟨⟨_,y,rfl⟩,C j p e x.of⟩
 let d:Ae:={ s with toks:=s.toks+1 };let b:Except Ac Ac->Ae->Prop:=λr i=>wpAny (model g w) A (match r with | .ok v=>pure (some v) | .error e=>do if <- isInstance e (.type "AttributeError") then pure none else throw e) Q E i
 have look:wpAny (model g w) A (getAttrBy (.ref a) (.str "keys" s.toks) false) (λv=>b (.ok v)) (λe=>b (.error e)) d:=by
  refine bF (aA (eO (T := "list") ⟨_,l,rfl⟩ (aA (jC hU.lookup ?_))));have own:wpAny (model g w) A (getAttrByItsOwn (.ref a) (.str "keys" s.toks) (.type "list") (.builtin "list.__getattribute__") false false) (λv=>b (.ok v)) (λe=>b (.error e)) d:=by
   refine aA (aB (aA (eG (bF (P6 (s:=d) l calm λj p e x=>?_)))));obtain⟨⟨o,f,h⟩,q⟩:=c j p e x;exact X5 ⟨o,f,h⟩ (aA (eU (T := "AttributeError") ⟨o,f,h⟩ iB (aB q)))
  exact own
 exact aA (wpAny_mkText (aA (eG look)))
end
section
variable {R:Result->Ae->Prop}{P:Nat->Ac->Prop}{St:Nat->Ae->Prop}
theorem Zi (W:WalksS j w A.in1 J fp l G n P St) (d:Ad) (I:d∉fp) (C:Ag) (M:Nat->Ag->Prop) (U:∀ i h p,(∀ b o,b∉l->h.get? b=some o->p.get? b=some o)->M i h->M i p)
  (hT:∀ i v,i<n->P i v->∃ (t:Ad) (o:Obj) (m:Nat) (r x:Ac),v = .ref t/\t∉d::l/\C.get? t=some o/\o.cls = .type "tuple" /\ o.data = .seq #[r,x] m /\ ∀ (s:Ae) (Q:Unit->Ae->Prop) (E:Ac->Ae->Prop),(∀ b o,b∉d::l->C.get? b=some o->s.heap.get? b=some o)->M i s.heap ->(∀ p c,M (i+1) p->Heap.SameBut d s.heap p->Q () { s with heap:=p,toks:=s.toks+c })->wpAny (model j w) A.in1 (dictSet d r x) Q E s) :
  ∀ (k i:Nat) (s:Ae),n-i=k->i<=n->St i s->(∀ b o,b∉d::l->C.get? b=some o->s.heap.get? b=some o)->M i s.heap ->
   (∀ g,Moved (d::l) G s g->M n g.heap->R (.ok (.ret .none)) g) ->
   codeAny (model j w) A (.builtin "dict.update.loop" ⟨[.ref d,.ref J,.int (i:Int) 0,.none],[]⟩) R s:=by
 have q:∀ b∈l,b∈d::l:=λb z=>aV _ z
 intro k;induction k with
 | zero =>
  intro i s hk hi st f L K;have ei:i=n:=by omega
  subst ei;refine jH zD ?_;rw[gQ sZ _];show wpAny _ A.in1 (pyNext (.ref J) >>= _) _ _ s;refine aA (W.done s _ _ st λg D=>?_);show wpAny _ A.in1 (Builtin.Dict.addKeywords d [] >>= _) _ _ g;exact aA (aB (aB (K g (D.mono q) (U _ _ _ D.heap L))))
 | succ k ih =>
  intro i s hk hi st f L K;have B:i<n:=by omega
  refine jH zD ?_;rw[gQ sZ _];show wpAny _ A.in1 (pyNext (.ref J) >>= _) _ _ s;refine aA (W.item i s _ _ B st λv g hv Z D=>?_);obtain⟨t,o,m,r,x,rfl,ht,V,O,S,put⟩:=hT i v B hv;have a:∀ b o,b∉d::l->C.get? b=some o->g.heap.get? b=some o:=λb o u e=>D.heap b o (λz=>u (q _ z)) (f b o u e)
  have y:=a t o ht V;show wpAny _ A.in1 (holding [Value.ref t] _ >>= _) _ _ g;refine aA (bF ?_);refine aA (wpAny_tryCatch ?_);unfold Builtin.Dict.pairItems;refine aA (eO (T := "tuple") ⟨o,y,O⟩ ?_);rw[aH (by decide)];refine aA (dF y S ?_);refine aB ?_;show wpAny _ A.in1 (holding [r,x] (dictSet d r x)) _ _ g;refine bF (put g _ _ a (U _ _ _ D.heap L) λp c N Y=>?_);refine aB ⟨jX sZ _,?_⟩;have e1:(rawInt ((i:Int)+1))=Value.int ((i+1:Nat):Int) 0:=by rfl
  rw[e1];refine ih (i+1) _ (by omega) B (W.frame _ g _ _ Z (jY _ _) λb u o e=>?_) (λb o u e=>?_) N λX H F=>?_
  .rw[Y.2 b (λz:b=d=>I (by rw[<- z];exact u))];exact e
  .rw[Y.2 b (λz:b=d=>u (by rw[z];exact aM))];exact a b o u e
  .refine K X (Moved.trans W.gtrans ((D.mono q).then_heap (jY _ _) λb o u e=>?_) H) F;rw[Y.2 b (λz:b=d=>u (by rw[z];exact aM))];exact e
end
section
variable {K:Type} [DecidableEq K] {knd:KeyKind prog w K}{A:Around}
abbrev Er (l:Ad):Obj:={ cls:=.type "list_iterator",data:=.fields #[.ref l,.int 0 0] }
abbrev X4 (g:Array Ac) (n:Nat) (j:Array (Ab Ac)):Obj:={ cls:=.type "list",dict:=none,data:=.seq g n,slots:=j }
theorem Rw (t:s.TypeIs (.ref d) "dict") (j:s.heap.get? l=some (X4 r n I)) (calm:A.handled=none)
  (C:∀ g o e,Heap.NewExcOf s.heap g e "AttributeError" -> Q (.again (.builtin "dict.update.loop" ⟨[.ref d,.ref g.objs.size,.int 0 0,.none],[]⟩)) { s with heap:=g.push (Er l),toks:=o }) :
  wpAny (model prog w) A (Builtin.«dict.__init__» ⟨[.ref d,.ref l],[]⟩) Q E s:=by
 have first:wpAny (model prog w) A (Builtin.Dict.selfAndRest "__init__" ⟨[.ref d,.ref l],[]⟩) (λp b=>p=(d,[Value.ref l])/\b=s) E s:=aA (gM t (aB ⟨rfl,rfl⟩))
 have a:wpAny (model prog w) A (Builtin.Dict.updateFrom "dict.__init__" d (.ref l) [] .none) Q E s:=by
  refine aA (eO (T := "list") ⟨_,j,rfl⟩ ?_);rw[aH (by decide)];refine aA (Wv j calm λg o e x=>?_);exact aA (eK (aA (wpAny_pyIter_list ⟨_,x.keeps _ _ j,rfl,n,rfl⟩ (aB (C g o e x)))))
 exact aA (cN first (λp b q=>by obtain⟨rfl,rfl⟩:=q;exact a) λ_ _ q=>q)
def uP (s:Ae):Ae:={ s with heap:=s.heap.push { cls:=.type "dict",data:=.dict #[] } }
theorem L3 (M:Nat->Ag->Prop) (I:A.handled=none) (C:s.heap.get? l=some o) (hc:o.cls = .type "list") (hd:o.dict=none) (r:o.data = .seq items nl)
  (m0:∀ h:Ag,h.get? s.heap.objs.size=some { cls:=.type "dict",data:=.dict #[] }->M 0 h) (T:∀ i h g,(∀ b o,b<=s.heap.objs.size->h.get? b=some o->g.get? b=some o)->M i h->M i g)
  (U:∀ (i:Nat) v,items[i]?=some v->∃ (t:Ad) (o:Obj) (m:Nat) (p x:Ac),v = .ref t/\s.heap.get? t=some o/\o.cls = .type "tuple" /\ o.data = .seq #[p,x] m /\ ∀ (B:Around) (j:Ae) (Q:Unit->Ae->Prop) (E:Ac->Ae->Prop),(A.units+2<cLine->B.units<cLine)->(∀ b o,s.heap.get? b=some o->j.heap.get? b=some o)->M i j.heap ->(∀ g c,M (i+1) g->Heap.SameBut s.heap.objs.size j.heap g->Q () { j with heap:=g,toks:=j.toks+c })->wpAny (model prog w) B (dictSet s.heap.objs.size p x) Q E j)
  (h:∀ (g:Ag) (J:Nat),M items.size g->(∀ b o,s.heap.get? b=some o->g.get? b=some o)->Q (.ref s.heap.objs.size) { s with heap:=g,toks:=J }) :
  wpAny (model prog w) A (call (.type "dict") [.ref l]) Q E s:=by
 obtain⟨oc,od,Z,aa⟩:=o;cases hc;cases hd;cases r;let D:=s.heap.objs.size;have O:(uP s).heap.get? D=some { cls:=.type "dict",data:=.dict #[] }:=aU _ rfl;have ty:(uP s).TypeIs (.ref D) "dict" := ⟨_,O,rfl⟩;have old:∀ b o,s.heap.get? b=some o->(uP s).heap.get? b=some o:=λb o e=>aF _ e
 refine callType_codes F.kt_called_dict (F.kt_typeCall_dict_1 _) F.entry_dict_init (kt_code_dict_new _ (Q₁:=λv N=>v = .ref D/\N=uP s) ⟨rfl,rfl⟩) λv N q=>?_
 obtain⟨rfl,rfl⟩:=q;refine⟨ty,F.args_dict_init_2 _ _,Rw ty (old _ _ C) (by simp[I]) λu J e x=>⟨jX sZ _,?_⟩⟩;have d:D<u.objs.size:=aQ (x.keeps _ _ O);have H:l<D:=aQ C;have keeps:∀ b o,s.heap.get? b=some o->(u.push (Er l)).get? b=some o:=λb o e=>aF _ (x.keeps _ _ (old b o e))
 have a:∀ {b:Ad},b<D->b∉[D,u.objs.size]:=λ{b} G z=>by
  rcases aJ.mp z with q | q
  .exact bH G q
  .exact bH (Nat.lt_trans G d) (bA.mp q)
 have n:D∉[u.objs.size,l]:=λz=>by
  rcases aJ.mp z with q | q
  .exact bH d q
  .exact Nat.ne_of_gt H (bA.mp q)
 have f:(u.push (Er l)).IsList l items:=⟨_,keeps _ _ C,rfl,nl,rfl⟩;refine Zi ((Walks.list (by simp[I]) u.objs.size l (bH (Nat.lt_trans H d)) items).toS) D n s.heap M (λi h g k m=>T i h g (λb o V e=>k b o (λz=>bH (cJ V d) (bA.mp z)) e) m) (λi v _ X=>?_) items.size 0 _ (by omega) (dN _) ⟨⟨_,aU _ rfl,rfl,rfl⟩,f⟩ (λb o _ e=>keeps b o e) (m0 _ (aF _ (x.keeps _ _ O))) λj L fin=>?_
 .obtain⟨t,ot,m,p,y,rfl,P,r1,r2,put⟩:=U i v X;exact⟨t,ot,m,p,y,rfl,a (aQ P),P,r1,r2,λN S R Y=>put _ N S R (λW=>by simpa using W) λb o e=>Y b o (a (aQ e)) e⟩
 .have res:=h j.heap j.toks fin λb o e=>L.heap b o (a (aQ e)) (keeps b o e)
  rw[show j={ s with heap:=j.heap,toks:=j.toks } from Yc L.gens L.drawn L.os];exact⟨rfl,res⟩
theorem W4 (J:A.handled=none) (T:s.heap.get? l=some o) (I:o.cls = .type "list") (hd:o.dict=none) (p:o.data = .seq items nl)
  (hn:more.length=items.size)
  (C:∀ (i:Nat) v,items[i]?=some v->∃ (t:Ad) (o:Obj) (m:Nat) (k:K) (j x:Ac),v = .ref t/\s.heap.get? t=some o/\o.cls = .type "tuple" /\ o.data = .seq #[j,x] m/\knd.is k j=true/\more[i]?=some (k,x)) (U:items.size<=sizeLine)
  (h:∀ (g:Ag) (r:Nat),g.DictOf knd s.heap.objs.size (merged [] more)->(∀ b o,s.heap.get? b=some o->g.get? b=some o)->Q (.ref s.heap.objs.size) { s with heap:=g,toks:=r }) :
  wpAny (model prog w) A (call (.type "dict") [.ref l]) Q E s:=by
 refine L3 (λi g=>g.DictOf knd s.heap.objs.size (merged [] (more.take i))) J T I hd p (λn e=>?_) (λi n y k m=>?_) (λi v H=>?_) λg r m=>h g r (by rw[bN (by omega)] at m;exact m)
 .obtain⟨z,f,d,u,rest⟩:=Heap.DictOf.new (knd:=knd) s.heap;cases u.symm.trans (aU _ rfl);exact⟨_,f,d,e,rest⟩
 .obtain⟨z,f,d,u,rest⟩:=m;exact⟨z,f,d,k _ _ (aP _) u,rest⟩
 .obtain⟨t,M,m,L,j,x,rfl,n,y,F,c,a⟩:=C i v H;refine⟨t,M,m,j,x,rfl,n,y,F,λB O Q E _ _ G k=>wpAny_dictSet_pairs (hsz:=?_) c G λg q N=>k g 1 (by rw[merged_take_succ [] more i (L,x) a];exact q) N⟩;have D:=merged_length_le ([]:Aa (K×Ac)) (more.take i);rw[fF,bY] at D;omega
end
end PySem
namespace L2
open PySem PySem.Spec PyProof.Rows
section
variable {X:Cx}
def wY (H:Hp) (j:Aa Ad) (g:Aa (gV×V)):Prop:=Paired (λt (a:gV×V)=>H t=some (.t [kV a.1,a.2])) j g
theorem N2 {P:Ah}(p:lP P w H h):∀ {l:Aa Ad}{g:Aa (gV×V)},wY H l g->∃ more:Aa (gV×Ac),KV g more /\
  ∀ (i:Nat) t,l[i]?=some t->∃ (o:Obj) (m:Nat) (k:gV) (j x:Ac),h.get? t=some o/\o.cls = .type "tuple" /\ o.data = .seq #[j,x] m/\(kZ P w).is k j=true/\more[i]?=some (k,x):=by
 intro l g r;unfold wY at r;induction r with
 | nil=>exact⟨[],.nil,λi t e=>by simp at e⟩
 | @cons t j l g d G u =>
  obtain⟨more,B,q⟩:=u;obtain⟨z,v,a,⟨o,s,f,n,b⟩,_⟩:=p t _ d;cases a with
  | @cons _ E _ K y a =>
   cases a with
   | @cons _ c _ F A a =>
    cases a;refine⟨(j.1,c)::more,.cons ⟨rfl,A⟩ B,λi D e=>?_⟩;cases i with
    | zero =>
     simp at e;subst e;exact⟨o,n,j.1,E,c,s,f,b,rP y,rfl⟩
    | succ i=>simpa using q i D (by simpa using e)
theorem Mn (l:X.calm=true):lS X (.type "dict") (λC H Q=>∃ (p:Ad) (j:Aa Ad) (g:Aa (gV×V)),C=[.ref p]/\kK X.K H p (j.map V.ref)/\wY H j g/\g.length<=1000/\∀ d,H d=none->Q (.ref d) (upd H d (.k (nX [] g)))):=by
 intro E s σ H C us Q I r h;obtain⟨p,j,g,rfl,U,D,hz,q⟩:=h;obtain⟨u,rfl,B⟩:=oV r;cases B;obtain⟨c,F,⟨o,n,e,L,M,N⟩,_⟩:=I.list U;have f:=F.length;rw[aD] at f;have Z:j.length=g.length:=D.length;obtain⟨more,G,J⟩:=N2 I.hok D;have T:=G.length;have b:∀ (i:Nat) v,c[i]?=some v->∃ t,j[i]?=some t/\v = .ref t:=by
  intro i v y;have hi:i<c.length:=(aG.mp y).1;have:i<j.length:=by omega
  obtain⟨u,hu,B⟩:=F.get (i:=i) (x:=V.ref j[i]) (by simp[this]);rw[hu] at y;cases y;cases B;exact⟨j[i],by simp[this],rfl⟩
 refine W4 (knd:=kZ X.prog X.w) (more:=more) (I.ok.hd l) e L M N (by rw[aK];omega) ?_ (by rw[aK];exact fK (cJ (show c.length<=1000 by omega) (by decide))) λh' tk W Y=>?_
 .intro i v y;obtain⟨t,ht,rfl⟩:=b i v (by simpa using y);obtain⟨o,m,k,kv,x,z,O,P,R,S⟩:=J i t ht;exact⟨t,o,m,k,kv,x,rfl,z,O,P,R,S⟩
 .have A:(nX [] g).length<=sizeLine:=by
   have z:=zL g [];rw[fF] at z;exact fK (cJ (show (nX [] g).length<=1000 by omega) (by decide))
  refine⟨.ref s.heap.objs.size,_,I.laid (a:=s.heap.objs.size) (o:=.k (nX [] g)) (t':=tk) Y (aP _) ?_,rfl,q _ I.fresh⟩;exact xL A (cF.mpr (dH (bH I.big))) (G.merge .nil) W
end
noncomputable def E5 (o:Ab Af) (N:Aa Af) (kind:Af->Ab NameKind) (g:Scope) (T j:Aa Af) (l:Aa Nat):Bool :=
 decide (g.names.filter (λp=>p.2 == .cell)=o.toList.map λn=>(n,NameKind.cell))&&o.all (λa=>g.names.lookup a == some .cell)&&g.names.all (λp=>p.2 != .free||kind p.1 == some .cell) &&
 g.names.all (λp=>p.2 != .local||g.names.lookup p.1 == some .local) &&
 (j.zip l).all (λp=>decide (N[p.2]?=some p.1)&&g.names.lookup p.1 == some .free)&&j.length == l.length
abbrev yF:=E5 none
noncomputable def oK (T:Aa Af) (g:Aa Nat) (j:St):St:=T.map (λ_=>none)++g.map (λi=>(j[i]?).join)
noncomputable def pC (X:Cx) (p:Aa Af) (g:Scope) (o:Aa (Af×Ad)) (C:Ad) (l:Ae) (j:Hp) (r:Aa Ad):Cx :=
 { prog:=X.prog,w:=X.w,K:=X.K,mg:=X.mg,base:=X.base,A:=X.A,N:=p,s₀:=l,H₀:=j,env:=compEnvC g o C X.env,outer:=X.stack,stack:=X.stack,ex:=r, fn:=λx=>(o.lookup x).isNone,calm:=X.calm,pn:=[],xe:=λ_ _=>False }
def rW (X:Cx) (g:Aa Expr) (t:TT):Prop :=
 ∀ (a:Aa (Ad×Obj)) (s:Ae) (b:St) (H:Hp) (Q:Bool->Hp->Prop),Inv X a b H s->t b H Q ->
  wpAny (model X.prog X.w) X.A (forIn g true λc r=>if r=true then do let ok <- isTrue c X.env (eval c X.env);pure (ForInStep.yield ok) else pure (ForInStep.yield r)) (TP X a b Q) X.xe s
def Sb:TT:=λ_ H Q=>Q true H
theorem Wx {X:Cx}:rW X [] Sb:=λa s b H Q I h=>wpAny_tests_nil ⟨H,I,h⟩
theorem Xs {X:Cx}(h:PT X c t):rW X [c] t:=λa s b H Q I hw=>wpAny_tests_one (h a s b H Q I hw)
def Ct (T:Aa Af) (j:Aa Nat) (J:It) (g:TG) (tt:TT) (p:TE) (r:St) (o:Hp) (Q:VK) (D:Ad):Prop :=
 ∃ W:Nat->Nat->Aa V->St->Hp->Prop,(∃ m,W 0 m [] (oK T j r) (upd o D (.l [])))/\∀ i m c h d,W i m c h d ->
  (J.stop i d/\Q (.ref D) d)\/(J.go i d/\∃ (N:St->V->Hp->Prop) (F:St->Hp->Prop),(∀ a v k,N a v k->k D=some (.l c)/\c.length<sizeLine/\∃ f,f<m/\W (i+1) f (c++[v]) a (upd k D (.l (c++[v]))))/\(∀ a e,F a e->∃ f,f<m/\W (i+1) f c a e) /\ ∀ x n,J.yld i d x n->g x h n λa q=>tt a q λb e=>if b=true then p a e (N a) else F a e)
def xX (T:Aa Af) (j:Aa Nat) (o:TI) (g:TG) (tt:TT) (l:TE):TE:=λb H Q=>o b H λJ a=>∀ D,a D=none->Ct T j J g tt l b a Q D
theorem Co:∀ (names:Aa (Af×NameKind)) (g:Aa (Af×Ad)),(∀ p∈names,p.2 = .free->∃ c,env.cells.lookup p.1=some c) ->
  (∀ x c,g.lookup x=some c->env.cells.lookup x=some c) ->
  ∃ j,(forIn names g λx r=>if (x.2 == NameKind.free)=true then (cellOf env x.1 >>= λa=>pure (ForInStep.yield ((x.1,a)::r))) else pure (ForInStep.yield r):Sem (Aa (Af×Ad)))=pure j /\
   (∀ x c,j.lookup x=some c->env.cells.lookup x=some c)/\(∀ x,(x,NameKind.free)∈names->(j.lookup x).isSome=true)/\(∀ x,(g.lookup x).isSome=true->(j.lookup x).isSome=true)
 | [],g,_,i=>⟨g,rfl,i,λx h=>by simp at h,λ_ h=>h⟩
 | (n,k)::r,g,v,i=>by
  by_cases w:k = .free
  .subst w;obtain⟨c,z⟩:=v (n,.free) aM rfl;have u:∀ x d,((n,c)::g).lookup x=some d->env.cells.lookup x=some d:=by
    intro x d h;rw[cQ] at h;cases e:x == n with
    | true=>rw[e] at h;have:=iA.mp e;subst this;cases h;exact z
    | false=>rw[e] at h;exact i x d h
   obtain⟨j,m,s,t,f⟩:=Co r ((n,c)::g) (λp y=>v p (aV _ y)) u;have A:(((n,c)::g).lookup n).isSome=true:=by rw[cQ];simp
   refine⟨j,?_,s,λx b=>?_,λx b=>f x ?_⟩
   .rw[jI];simp only[jZ,eF];have:cellOf env n=pure c:=by unfold cellOf;rw[z]
    rw[this];exact m
   .rcases aJ.mp b with q | q
    .cases q;exact f _ A
    .exact t x q
   .rw[cQ];cases e:x == n with
    | true=>rfl
    | false=>exact b
  .obtain⟨j,m,s,t,f⟩:=Co r g (λp y=>v p (aV _ y)) i;refine⟨j,?_,s,λx b=>?_,f⟩
   .rw[jI];have:(k == NameKind.free)=false:=by simpa using w
    simp only[this,bT,dL];exact m
   .rcases aJ.mp b with q | q
    .cases q;exact absurd rfl w
    .exact t x q
theorem Xx (o:∀ p∈g.names,p.2 = .free->∃ c,j.cells.lookup p.1=some c) :
  ∃ l,closureFor g j=pure l/\(∀ x c,l.lookup x=some c->j.cells.lookup x=some c)/\(∀ x,(x,NameKind.free)∈g.names->(l.lookup x).isSome=true):=by
 obtain⟨l,e,d,f,_⟩:=Co (env:=j) g.names [] o (λx c h=>by simp at h);refine⟨l,?_,d,f⟩;simp only[closureFor];have b:(forIn g.names [] λx r=>if (x.2 == NameKind.free)=true then (cellOf j x.1 >>= λa=>pure (ForInStep.yield ((x.1,a)::r))) else pure (ForInStep.yield r):Sem (Aa (Af×Ad)))=pure l:=e
 first
  | exact b
  | (simp only[bind_pure];exact b)
theorem U2 (h:g.names.lookup x=some k):∃ j,(relabel g env).names.lookup x=some j/\(j=k\/(k = .free/\j = .cell)):=by
 have:∀ names:Aa (Af×NameKind),names.lookup x=some k->∃ j,(names.map λ(p:Af×NameKind)=>match p with | (n,k)=>if (k == NameKind.free&&env.scope.kind == .function&&env.kindOf n == some .cell) then (n,NameKind.cell) else (n,k)).lookup x=some j/\(j=k\/(k = .free/\j = .cell)):=by
  intro names;induction names with
  | nil=>intro h;simp at h
  | cons p r b =>
   obtain⟨n,c⟩:=p;intro h;rw[aI];by_cases a:(c == NameKind.free&&env.scope.kind == .function&&env.kindOf n == some .cell)=true
   .simp only[a,eF];rw[cQ] at h |-;cases e:x == n with
    | true =>
     rw[e] at h;cases h;have:k=NameKind.free:=by
      have:=(cM _ _).mp ((cM _ _).mp a).1;exact iA.mp this.1
     exact⟨_,rfl,.inr ⟨this,rfl⟩⟩
    | false=>rw[e] at h;exact b h
   .simp only[a,dL];rw[aE (by simp)];rw[cQ] at h |-;cases e:x == n with
    | true=>rw[e] at h;cases h;exact⟨_,rfl,.inl rfl⟩
    | false=>rw[e] at h;exact b h
 exact this g.names h
theorem Yz {R:Result->Ae->Prop}{iter:Expr}(I:Nat->Ae->Prop)
  (ae:∀ n s,I n s->wpAny (model g w) A (pyNext it) (λr l=>match r with
   | none=>R (.ok .next) l
   | some v=>wpAny (model g w) A (letOwnedTupleGo target it v) (λ_ o=>wpAny (model g w) A (assign target j v) (λ_ C =>
     wpAny (model g w) A (forIn ac true λc r=>if r=true then do let ok <- isTrue c j (eval c j);pure (ForInStep.yield ok) else pure (ForInStep.yield r)) (λok p =>if ok=true then wpAny (model g w) A (eval ab j) (λx J =>wpAny (model g w) A (call (.builtin "list.append") [aa,x]) (λ_ T=>∃ m,m<n/\I m T) (λ_ _=>False) J) (λ_ _=>False) p else ∃ m,m<n/\I m p) (λ_ _=>False) C) (λ_ _=>False) o) (λ_ _=>False) l) (λ_ _=>False) s)
  (n:Nat) (h:I n s) :
  codeAny (model g w) A (.compLoop (.ListComp ab [⟨target,iter,ac,0⟩] U pos) 0 it aa j) R s:=by
 refine codeAny_loop rfl I (λn s q=>?_) n h;show wpAny _ A ((compTurn (.ListComp ab [⟨target,iter,ac,0⟩] U pos) 0 it aa j).onRaise (λx=>do noteFrame x j;theTreesLotGoes x)) _ _ s;refine wpAny_noted ?_;rw[compTurn_list];refine aA (jW (aA (cN (ae n s q) (λr l b=>?_) λ_ _ a=>a.elim)));cases r with
 | none=>exact aB b
 | some v =>
  refine aA (cN b (λ_ o e=>?_) λ_ _ a=>a.elim);refine aA (cN e (λ_ C f=>aA (cN f (λok p d=>?_) λ_ _ a=>a.elim)) λ_ _ a=>a.elim);cases ok with
  | false=>exact aB ⟨rfl,d⟩
  | true =>
   exact aA (aA (cN d (λx J i=>aA (cN i (λ_ T k=>aB (aB ⟨rfl,k⟩)) λ_ _ a=>a.elim)) λ_ _ a=>a.elim))
structure LcO (nw:Option Str) (N:List Str) (kind:Str->Option NameKind) (scope:Scope) (capN:List Str) (caps:List Nat):Prop where
 one:scope.names.filter (λp=>p.2 == .cell)=nw.toList.map λn=>(n,NameKind.cell)
 cel:∀ nm,nw=some nm->scope.names.lookup nm=some .cell
 free:∀ p∈scope.names,p.2 = .free->kind p.1=some .cell
 loc:∀ p∈scope.names,p.2 = .local->scope.names.lookup p.1=some .local
 cap:∀ (j:Nat) (x:Str),capN[j]?=some x->∃ i:Nat,caps[j]?=some i/\N[i]?=some x/\scope.names.lookup x=some .free
 len:capN.length=caps.length
theorem Ip (h:E5 r N kind o T l g=true):LcO r N kind o l g:=by
 unfold E5 at h;simp only[cM] at h;obtain⟨⟨⟨⟨⟨d,c⟩,f⟩,k⟩,m⟩,n⟩:=h;have q:l.length=g.length:=iA.mp n;refine⟨dR d,λu e=>?_,λp a e=>?_,λp a e=>?_,λj x e=>?_,q⟩
 .rw[e] at c;exact iA.mp c
 .have:=iY.mp f p a;rw[e] at this
  simpa using this
 .have:=iY.mp k p a;rw[e] at this
  simpa using this
 .have t:j<l.length:=(aG.mp e).1;have b:g[j]?=some (g[j]'(by omega)):=aL (by omega);have s:(x,g[j]'(by omega))∈l.zip g:=aW (i:=j) (by rw[List.getElem?_zip_eq_some];exact⟨e,b⟩);have:=iY.mp m _ s;simp only[cM,gP,iA] at this;exact⟨_,b,this.1,this.2⟩
theorem LcO.only (h:LcO o N kind g j l) (x:Af) (e:g.names.lookup x=some .cell):o=some x:=by
 have a:(x,NameKind.cell)∈g.names.filter (λp=>p.2 == .cell):=jE.mpr ⟨cW e,rfl⟩;rw[h.one] at a;cases o with
 | none=>cases a
 | some n=>rw[(Prod.mk.inj (bA.mp a)).1]
theorem Fz:∀ {g:Scope},(relabel g j).names.lookup x=some k->(k = .cell\/k = .free)->g.names.lookup x=some .cell\/g.names.lookup x=some .free:=by
 intro g;unfold relabel;have all:∀ names:Aa (Af×NameKind),(names.map λ(n,k)=>if (k == NameKind.free&&j.scope.kind == .function&&j.kindOf n == some .cell) then (n,NameKind.cell) else (n,k)).lookup x=some k->(k = .cell\/k = .free)->names.lookup x=some .cell\/names.lookup x=some .free:=by
  intro names;induction names with
  | nil=>intro h _;simp at h
  | cons p r d =>
   intro h b;obtain⟨n,e⟩:=p;rw[aI] at h;rw[cQ];cases c:x == n with
   | true =>
    by_cases a:(e == NameKind.free&&j.scope.kind == .function&&j.kindOf n == some .cell)=true
    .simp only[cM,iA] at a;exact .inr (by rw[a.1.1])
    .simp only[a,bT,dL,cQ,c] at h;cases h;rcases b with q | q
     .exact .inl (by rw[q])
     .exact .inr (by rw[q])
   | false =>
    by_cases a:(e == NameKind.free&&j.scope.kind == .function&&j.kindOf n == some .cell)=true
    .simp only[a,eF,cQ,c] at h;exact d h b
    .simp only[a,bT,dL,cQ,c] at h;exact d h b
 exact all g.names
theorem Df:∀ (names:Aa (Af×NameKind)) (n:Nat) (g:Aa (Af×Ad)) (h:Ag),names.filter (λp=>p.2 == .cell)=[]->cellsFrom n names g=g/\pushCells h names=h
 | [],_,_,_,_=>⟨rfl,rfl⟩
 | (y,k)::r,n,g,h,e=>by
  unfold cellsFrom pushCells;by_cases a:(k == NameKind.cell)=true
  .rw[List.filter_cons_of_pos (by exact a)] at e;cases e
  .rw[List.filter_cons_of_neg (by exact a)] at e;rw[aE a,aE a];exact Df r n g h e
theorem Jn:∀ (names:Aa (Af×NameKind)) (n:Nat) (g:Aa (Af×Ad)) (h:Ag),names.filter (λp=>p.2 == .cell)=[(j,.cell)]->cellsFrom n names g=(j,n)::g/\pushCells h names=h.push { cls:=.type "cell",data:=.cell none }
 | [],_,_,_,e=>by cases e
 | (y,k)::r,n,g,h,e=>by
  unfold cellsFrom pushCells;by_cases a:(k == NameKind.cell)=true
  .rw[List.filter_cons_of_pos (by exact a)] at e;have b:=(List.cons.inj e).1;have c:=(List.cons.inj e).2;rw[aH a,aH a];have:=Df r (n+1) ((y,n)::g) (h.push { cls:=.type "cell",data:=.cell none }) c;rw[this.1,this.2,(Prod.mk.inj b).1];exact⟨rfl,rfl⟩
  .rw[List.filter_cons_of_neg (by exact a)] at e;rw[aE a,aE a];exact Jn r n g h e
def vC (g:Ab Af) (C:Ad):Aa (Af×Ad):=match g with
 | none=>[]
 | some a=>[(a,C+1)]
theorem S3 {globals:Ad}(one:g.names.filter (λp=>p.2 == .cell)=T.toList.map λn=>(n,NameKind.cell))
  (h:∀ j,j.Ns s.heap.objs.size (λ_=>none)->(∀ J,T=some J->j.IsCell (s.heap.objs.size+1) none)->(∀ b o,s.heap.get? b=some o->j.get? b=some o) ->Q { scope:=g,locals:=s.heap.objs.size,globals:=globals,cells:=vC T s.heap.objs.size++r,qual:=C,func:=none,code:=l.code,frame:=l.frame,builtins:=l.builtins } { s with heap:=j }) :
  wpAny M A (newFunctionEnv g globals r [] C none .none (some l)) Q E s:=by
 simp only[newFunctionEnv,jP,eF];refine aA (wpAny_alloc ?_);refine aA (wpAny_layCells _ (λname kind I=>by cases i:kind == NameKind.cell<;>simp[i]) _ _ _ _ ?_);have z:(s.heap.push { cls:=.type "dict",data:=.dict #[] }).objs.size=s.heap.objs.size+1:=cU ..;have a:=Heap.Ns.new s.heap (.type "dict");show wpAny M A _ Q E _;cases T with
 | none =>
  obtain⟨c,f⟩:=Df g.names (s.heap.push { cls:=.type "dict",data:=.dict #[] }).objs.size r (s.heap.push { cls:=.type "dict",data:=.dict #[] }) one;rw[c,f];exact aA (aB (aB (h _ a (λ_ e=>nomatch e) λb o e=>aF _ e)))
 | some J =>
  obtain⟨c,f⟩:=Jn g.names (s.heap.push { cls:=.type "dict",data:=.dict #[] }).objs.size r (s.heap.push { cls:=.type "dict",data:=.dict #[] }) one;have d:cellsFrom ({ s with heap:=s.heap.push { cls:=.type "dict",data:=.dict #[] } }:Ae).heap.objs.size g.names r=(J,s.heap.objs.size+1)::r:=by rw[<- z];exact c
  rw[d,f];refine aA (aB (aB (h _ (a.keeps λb o e=>aF _ e) (λ_ _=>?_) λb o e=>aF _ (aF _ e))));exact⟨_,by rw[<- z];exact aU _ rfl,rfl⟩
noncomputable def Ye (j:Ab Af) (g:Aa (Af×Ad)):Af->Bool:=match j with
 | none=>λx=>(g.lookup x).isNone
 | some a=>λx=>x == a||(g.lookup x).isNone
def qU (p:Ab Af) (X:Cx) (r:Aa Af) (g:Scope) (o:Aa (Af×Ad)) (C:Ad) (l:Ae) (j:Hp) (I:Aa Ad):Cx :=
 { prog:=X.prog,w:=X.w,K:=X.K,mg:=X.mg,base:=X.base,A:=X.A,N:=r,s₀:=l,H₀:=j,env:=compEnvC g (vC p C++o) C X.env,outer:=X.stack,stack:=X.stack,ex:=I, fn:=Ye p o,calm:=X.calm,pn:=[],xe:=λ_ _=>False }
section
variable {X:Cx}
theorem Inv.moved {t':Nat}{fp:Aa Ad}(I:Inv X g p H s) (j:∀ b∈fp,pG X g H b) (k:∀ b o,b∉fp->s.heap.get? b=some o->l.get? b=some o):Inv X g p H { s with heap:=l,toks:=t' }:=by
 have d:∀ b u,H b=some u->b∉fp:=λb u e z=>by rw[(j b z).1] at e;cases e
 refine I.step (g':=s.gens) (d':=s.drawn) (ch:=fp) (λb f=>⟨(j b f).2.2.2.1,(j b f).2.1,(j b f).2.2.2.2.1,(j b f).2.2.2.2.2⟩) (λb o _ _ a e _=>k b o a e) (λb o _ _ a e _=>⟨o.slots,k b o a e⟩) (λ_ _ _ _ n=>n)
  (λb o a e=>⟨o,k b o a e⟩) (λ_ _ e=>e) (λ_ _ _ e=>e) (λb x e=>⟨#[],by rw[e];simp⟩) (λm t=>?_) (λb u e=>?_) I.bare
 .obtain⟨o,i,h,w,r⟩:=t;exact⟨o,i,h,k _ o (λz=>(j _ z).2.1 rfl) w,r⟩
 .refine (I.hok b u e).stay (λc v a q=>k c v ?_ q) (λ_ q=>q) λ_ _ q=>q
  rcases a with z | z
  .rw[z];exact d b u e
  .exact d c _ z
end
section
variable {X:Cx}
theorem K3 {iter:Expr}{tt:TT}(T U:Aa Af) (aa:Aa Nat) (hc:X.calm=true) (hi:PI X tg iter wi)
  (hk:j.kind = .function) (O:LcO nw X.N X.env.kindOf j U aa)
  (hg:∀ ae ab C cl fp,PG (qU nw X (T++U) j cl C ae ab fp) tg g)
  (ht:∀ ae ab C cl fp,rW (qU nw X (T++U) j cl C ae ab fp) af tt)
  (he:∀ ae ab C cl fp,PE (qU nw X (T++U) j cl C ae ab fp) a4 te)
  (hs:∀ x,foldedSetIterable iter X.env x=pure x)
(I:Inv X ac σ H s) (h:xX T aa wi g tt te σ H Q)
  (fin:∀ (C D:Ad) (s6:Ae) (H5:Hp),Inv X ac σ H5 s6->Q (.ref D) H5->pG X ac H5 C->(∃ m,s6.heap.Ns C m)->compPost (model X.prog X.w) X.A X.xe a2 Qs (.ref D) C (.ok .next) s6) :
  wpAny (model X.prog X.w) X.A (comprehension (.ListComp a4 [⟨tg,iter,af,0⟩] j pos) j X.env (firstIterPos [⟨tg,iter,af,0⟩] pos) (newList []) (firstAsync [⟨tg,iter,af,0⟩]) (firstIter [⟨tg,iter,af,0⟩] X.env) a2) Qs X.xe s:=by
 have ax:∀ p∈j.names,p.2 = .free->∃ c,X.env.cells.lookup p.1=some c:=λp hp e=>I.ok.has p.1 (.inl (O.free p hp e))
 obtain⟨cl,aw,P,a3⟩:=Xx ax;refine wpAny_comprehension_free (use:=a2) rfl hs aw hk O.loc (hL (hi ac s σ H _ I h) λv s1 h1=>hL h1 λb4 s2 h2=>?_);obtain⟨it,fp,tn,J,H2,rfl,I2,B,bb,f2,hD⟩:=h2;refine dU ?_;have f:Inv X ac σ (upd H2 s2.heap.objs.size (.l [])) { s2 with heap:=s2.heap.push { cls:=.type "list",data:=.seq ([]:Aa Ac).toArray } }:=I2.lnew (t':=s2.toks) (its:=[]) (ys:=[]) .nil (dN _);have fD:H2 s2.heap.objs.size=none:=I2.fresh;obtain⟨W,⟨m0,w0⟩,ao⟩:=hD s2.heap.objs.size fD;generalize bo:s2.heap.objs.size=D at f fD w0 ao |-;have bz:tn 0 (s2.heap.push { cls:=.type "list",data:=.seq ([]:Aa Ac).toArray }):=B.keep _ _ _ bb λb _ o e=>aF _ e
 have a9:∀ b∈fp,b<D:=λb a=>by
  obtain⟨o,e,_⟩:=B.obj _ _ bb b a;rw[<- bo];exact aQ e
 generalize bt:({ s2 with heap:=s2.heap.push { cls:=.type "list",data:=.seq ([]:Aa Ac).toArray } }:Ae)=K at f |-;have ag:tn 0 K.heap:=by rw[<- bt];exact bz
 generalize bp:upd H2 D (.l [])=M at f w0;have f3:∀ b∈fp,pG X ac M b:=λb a=>by
  obtain⟨z0,z⟩:=f2 b a;exact⟨by rw[<- bp,lC (bH (a9 b a))];exact z0,z⟩
 refine S3 O.one (λZ V S old=>?_);have av:M K.heap.objs.size=none:=f.fresh;have ak:M (K.heap.objs.size+1)=none:=f.hok.fresh (jB _);generalize hC:K.heap.objs.size=C at V S av ak |-;have ba:∀ b o,K.heap.get? b=some o->b≠C:=λb o e=>by rw[<- hC];exact bH (aQ e)
 have a5:∀ b∈fp,b≠C:=λb a=>by
  obtain⟨o,e,_⟩:=B.obj _ _ ag b a;exact ba b o e
 have a6:∀ b∈fp,b∉qF X.stack:=λb a z=>by
  rcases aJ.mp (f.stkSub b z) with q | q
  .exact (f3 b a).2.1 q
  .exact (f3 b a).2.2.1 q
 have bm:∀ b∈fp,b<C:=λb a=>by
  obtain⟨o,e,_⟩:=B.obj _ _ ag b a;rw[<- hC];exact aQ e
 have look:∀ x c,(vC nw C++cl).lookup x=some c->(nw=some x/\c=C+1)\/(nw≠some x/\cl.lookup x=some c):=λx c e=>by
  cases nw with
  | none=>exact .inr ⟨(λz=>nomatch z),e⟩
  | some nm =>
   have e:((nm,C+1)::cl).lookup x=some c:=e;rw[cQ] at e;cases a:x == nm with
   | true=>rw[a] at e;cases e;exact .inl ⟨by rw[iA.mp a],rfl⟩
   | false=>rw[a] at e;exact .inr ⟨(λz=>by cases z;simp at a),e⟩
 have lift:∀ x c,nw≠some x->cl.lookup x=some c->(vC nw C++cl).lookup x=some c:=λx c n e=>by
  cases nw with
  | none=>exact e
  | some nm =>
   show ((nm,C+1)::cl).lookup x=some c;rw[cQ,show (x == nm)=false from cF.mpr λz=>n (by rw[z])];exact e
 have ai:∀ x c,cl.lookup x=some c->c<C:=λx c e=>by
  obtain⟨v,o,ho,_⟩:=f.cell x c (P x c e);rw[<- hC];exact aQ ho
 have aj:∀ b∈fp,∀ x c,(vC nw C++cl).lookup x=some c->c≠b:=λb a x c e=>by
  rcases look x c e with⟨_,q⟩ | ⟨_,q⟩
  .exact λz=>absurd (bm b a) (by rw[<- z,q];exact Nat.not_lt.mpr (jB C))
  .exact (f3 b a).2.2.2.2.1 x c (P x c q)
 have a8:(qU nw X (T++U) j cl C K M fp).Ok:=by
  refine⟨f.ok.mod,hk,f.ok.glob,f.ok.blt,Nat.le_of_eq hC,λx y c R E=>?_,λx hx=>?_,λx c R E=>?_,f.ok.hd,f.ok.frames,.inl rfl,λb a=>⟨a5 b a,λx c e=>aj b a x c e⟩,λb o e=>f.bs b o e,?_,λb o e z=>?_,λb a=>a6 b a,f.stack,f.stkFree⟩
  .rcases look x c R with⟨q1,r1⟩ | ⟨q1,r1⟩
   .rcases look y c E with⟨q2,r2⟩ | ⟨q2,r2⟩
    .exact bO (q1.symm.trans q2)
    .exact absurd (ai y c r2) (by rw[r1];exact Nat.not_lt.mpr (jB C))
   .rcases look y c E with⟨q2,r2⟩ | ⟨q2,r2⟩
    .exact absurd (ai x c r1) (by rw[r2];exact Nat.not_lt.mpr (jB C))
    .exact f.ok.inj x y c (P x c r1) (P y c r2)
  .have bu:(relabel j X.env).names.lookup x=some .cell\/(relabel j X.env).names.lookup x=some .free:=hx;have hf:j.names.lookup x=some .cell\/j.names.lookup x=some .free:=by
    rcases bu with q | q
    .exact Fz q (.inl rfl)
    .exact Fz q (.inr rfl)
   show ∃ c,(vC nw C++cl).lookup x=some c;by_cases a:nw=some x
   .subst a;exact⟨C+1,by show ((x,C+1)::cl).lookup x=_;rw[cQ,jZ]⟩
   .rcases hf with q | q
    .exact absurd (O.only x q) a
    .obtain⟨c,e⟩:=cV.mp (a3 x (cW q));exact⟨c,lift x c a e⟩
  .rcases look x c E with⟨q,r⟩ | ⟨q,r⟩
   .show K.heap.objs.size<=c;rw[r,hC];exact jB C
   .cases nw with
    | none =>
     have R:(cl.lookup x).isNone=true:=R;rw[r] at R;cases R
    | some nm =>
     have R:(x == nm||(cl.lookup x).isNone)=true:=R;rw[r,show (x == nm)=false from cF.mpr λz=>q (by rw[z])] at R;cases R
  .exact bS f.ok.bsz f.sz
  .obtain⟨z0,z1,z2,z3,_⟩:=f3 b z;rcases z3 with q | q
   .exact f.ok.noex b o e q
   .exact absurd (aY (aQ e) (bS f.ok.bsz q)) (eQ _)
 have I4:Inv (qU nw X (T++U) j cl C K M fp) [] (oK T aa σ) M { K with heap:=Z }:=by
  refine⟨a8,rfl,f.bare,Un.kept old,⟨_,V,λi x v R E e3=>?_⟩,λx c e=>?_,av,λx c e=>?_,λp hp=>absurd (show p∈([]:Aa (Ad×Obj)) from hp) (by simp),f.hok.kept old,?_⟩
  .have R:(T++U)[i]?=some x:=R;unfold oK at E;by_cases hi:i<T.length
   .rw[eX (by simpa using hi),bB] at E;cases q:T[i]? with
    | none=>rw[q] at E;cases E
    | some z=>rw[q] at E;cases E
   .rw[cZ (by omega)] at R;rw[cZ (by simpa using hi),bB,aD] at E;obtain⟨k,k1,k2,k3⟩:=O.cap _ x R;rw[k1] at E;have E:(σ[k]?).join=some v:=bO E;have bj:σ[k]?=some (some v):=by
     cases q:σ[k]? with
     | none=>rw[q] at E;cases E
     | some z=>rw[q] at E;exact cO some E
    have Y:X.env.kindOf x=some .cell:=O.free (x,.free) (cW k3) rfl;obtain⟨m,hn,hl⟩:=f.loc;obtain⟨u,r,l⟩:=hl k x v k2 bj (.inr (.inl Y));refine⟨u,r,.inr ⟨?_,?_⟩⟩
    .obtain⟨k',e5,e6⟩:=U2 (env:=X.env) k3;rcases e6 with z | ⟨_,z⟩
     .subst z;exact .inr e5
     .subst z;exact .inl e5
    .rcases l with⟨l1,_⟩ | ⟨_,c,e7,o,ay,az⟩
     .rw[Y] at l1;cases l1
     .obtain⟨c',e8⟩:=cV.mp (a3 x (cW k3));have:=P x c' e8;rw[e7] at this;cases this;exact⟨c,lift x c (λz=>by rw[O.cel x z] at k3;cases k3) e8,o,old c o ay,az⟩
  .rcases look x c e with⟨n,q⟩ | ⟨_,q⟩
   .exact⟨none,q▸S x n⟩
   .obtain⟨v,o,ay,az⟩:=f.cell x c (P x c q);exact⟨v,o,old c o ay,az⟩
  .rcases look x c e with⟨_,q⟩ | ⟨_,q⟩
   .exact q▸ak
   .exact f.freeC x c (P x c q)
  .show (oK T aa σ).length=(T++U).length;unfold oK;rw[bI,bI,aD,aD,O.len]
 have au:∀ {H':Hp},(∀ b∈fp,H' b=none)->∀ b∈fp,pG (qU nw X (T++U) j cl C K M fp) [] H' b:=λhn b a =>
  ⟨hn b a,a5 b a,a6 b a,.inl a,λx c e=>aj b a x c e,λp hp=>absurd (show p∈([]:Aa (Ad×Obj)) from hp) (by simp)⟩
 have bc:tn 0 Z:=B.keep _ _ _ ag λb _ o e=>old b o e
 have b0:W 0 m0 [] (oK T aa σ) M:=w0;have an:codeAny (model X.prog X.w) X.A (.compLoop (.ListComp a4 [⟨tg,iter,af,0⟩] j pos) 0 (.ref it) (.ref D) (compEnvC j (vC nw C++cl) C X.env))
   (compPost (model X.prog X.w) X.A X.xe a2 Qs (.ref D) C) { K with heap:=Z }:=by
  refine Yz (λn s'=>∃ i ys be H',Inv (qU nw X (T++U) j cl C K M fp) [] be H' s'/\tn i s'.heap/\(∀ b∈fp,H' b=none)/\W i n ys be H') ?_ m0 ⟨0,[],oK T aa σ,M,I4,bc,λb a=>(f3 b a).1,b0⟩;rintro n s5 ⟨i,ys,ah,H5,I5,bd,a7,w5⟩;rcases ao i n ys ah H5 w5 with⟨stop,qn⟩ | ⟨go,N,F,hN,hF,step⟩
  .refine hL (B.done (qU nw X (T++U) j cl C K M fp) rfl rfl rfl hc i [] s5 ah H5 _ I5 (au a7) bd stop) λr s6 t=>?_
   obtain⟨hr,I6⟩:=t;subst hr;obtain⟨m6,br,_⟩:=I6.loc;have bq:H5 C=none:=I6.free;have ub:=I6.base;have a0:=f.fpOk (Nat.le_of_eq hC) av;refine fin C D s6 H5 (Inv.call' (s':=s6) (ch:=fp) f I6.os ?_ I6.hok I6.bare (λb a=>⟨(f3 b a).2.2.2.1,(f3 b a).2.1,(f3 b a).2.2.2.2.1,(f3 b a).2.2.2.2.2⟩)) qn ⟨bq,a0.2⟩ ⟨m6,br⟩;exact⟨λb o q n a hx=>ub.keep b o q n a hx,λb o q n a hx=>ub.slot b o q n a hx,ub.free,λb o q hx=>ub.there b o q hx,ub.tups,ub.frzs,ub.tbls⟩
  .refine hL (B.item (qU nw X (T++U) j cl C K M fp) rfl rfl rfl hc i [] s5 ah H5 _ I5 (au a7) bd go) λr s6 t=>?_
   obtain⟨u,hr,h6⟩:=t;subst hr;refine hL h6 λ_ s7 t=>?_
   obtain⟨x,H7,I7,r7,y7,a1,bn⟩:=t;have bh:=I7.pinned (au bn) (B.obj _ _ a1);have G:∀ {L:St} {H8:Hp} {s8:Ae},Inv (qU nw X (T++U) j cl C K M fp) ([]++xA fp s7.heap) L H8 s8->tn (i+1) s8.heap/\(∀ b∈fp,H8 b=none):=λ{L H8 s8} I8=>by
    refine⟨B.keep _ _ _ a1 λb a o e=>(I8.pin (b,o) (aN _ (aN _ (zO a e)))).1,λb a=>?_⟩;obtain⟨o,e,d⟩:=B.obj _ _ a1 b a;exact (I8.pin (b,o) (aN _ (aN _ (zO a e)))).2.1
   refine hL (hg K M C cl fp _ s7 ah H7 x u _ bh r7 (step x H7 y7)) λ_ s8 t=>?_
   obtain⟨L,H8,I8,q8⟩:=t;refine hL (ht K M C cl fp _ s8 L H8 _ I8 q8) λok s9 t=>?_
   obtain⟨H9,I9,q9⟩:=t;cases ok with
   | false =>
    rw[aE (by simp)] at q9;rw[aE (by simp)];obtain⟨m',hm,w9⟩:=hF _ _ q9;exact⟨m',hm,i+1,ys,L,H9,I9.unpinned,(G I9).1,(G I9).2,w9⟩
   | true =>
    rw[aH rfl] at q9;rw[aH rfl];refine hL (he K M C cl fp _ s9 L H9 _ I9 q9) λvv bx t=>?_
    obtain⟨v,bf,bg,bw,bv⟩:=t;obtain⟨bi,b3,m',hm,b1⟩:=hN _ _ _ bv;refine hL (qV (X:=qU nw X (T++U) j cl C K M fp) _ bx L bf (.ref D) [v] (.ref D) [vv] (λ_ aq=>W (i+1) m' (ys++[v]) L aq) bg rfl (.cons bw .nil) ⟨D,ys,v,rfl,rfl,bi,b3,b1⟩) λ_ b5 t=>?_
    obtain⟨_,aq,ar,_,b2⟩:=t;exact⟨m',hm,i+1,ys++[v],L,aq,ar.unpinned,(G ar).1,(G ar).2,b2⟩
 exact codeAny_compStart_list an (B.self _ 0 _ _ _ bc an)
theorem Sf {D:Ad}(I:Inv X g J j p) (q:Q (.ref D) j) (r:pG X g j C) (l:∃ m,p.heap.Ns C m):compPost (model X.prog X.w) X.A X.xe none (EP X g J Q) (.ref D) C (.ok .next) p:=by
 obtain⟨m,l⟩:=l;refine⟨m,l,λd c=>⟨.ref D,j,I.moved (t':=p.toks) (fp:=[C]) (λb a=>?_) (λb o a e=>?_),rfl,q⟩⟩
 .rw[bA.mp a];exact r
 .exact c.extBut b o (λz=>a (bA.mpr z)) e
theorem Go {iter:Expr}{tt:TT}(T o:Aa Af) (r:Aa Nat) (hc:X.calm=true) (hi:PI X tg iter wi)
  (hk:j.kind = .function) (ho:yF X.N X.env.kindOf j T o r=true)
  (hg:∀ p l C U J,PG (pC X (T++o) j U C p l J) tg g)
  (ht:∀ p l C U J,rW (pC X (T++o) j U C p l J) ab tt)
  (he:∀ p l C U J,PE (pC X (T++o) j U C p l J) aa te)
  (hs:∀ x,foldedSetIterable iter X.env x=pure x:=by intro _;rfl) :
  PE X (.ListComp aa [⟨tg,iter,ab,0⟩] j pos) (xX T r wi g tt te):=by
 intro a s e H Q I h;rw[eval_ListComp];exact K3 (nw:=none) T o r hc hi hk (Ip ho) hg ht he hs I h λC D d c I q J b=>Sf I q J b
end
def wE:Expr->Bool
 | .Starred _ _=>false
 | _=>true
theorem X6 (h:wE e=true):starEach (e::j) g=(false,eval e g)::starEach j g:=by
 cases e<;>first | rfl | (cases h;done)
section
variable {X:Cx}
theorem A6 (j:PE X e o) (l:PA X g t) (h:wE e=true:=by rfl):PA X (e::g) (K2 o t):=S8 j l (X6 h)
end
section
variable {X:Cx}
theorem Yv (g:X.A.units+64<cLine):kP X (compareOp .NotEq) (Dt X.K true):=by
 intro c s M H x y v u Q I F G h;obtain⟨a,b,L,rfl,rfl,f,z,q⟩:=h;cases F;cases G;obtain⟨B,D,m,_⟩:=I.list f;obtain⟨k,E,n,_⟩:=I.list z;cases E;have t:∀ d,d = !L.isEmpty->EP X c M Q (.bool d) s:=λd e=>⟨.b d,H,I,rfl,by subst e;exact q⟩
 cases D with
 | nil=>exact SeqAt.RcNeAt.lists (e:=λ_=>true) m.isList n.isList rfl (by omega) (λi f _=>by simp at f) X.prog X.w _ _ (t _ (by simp))
 | cons r N=>exact SeqAt.RcNeAt.lists_lengths m.isList n.isList (by simp) (by omega) X.prog X.w _ _ (t _ rfl)
def G8 (K:kC):Aa V->Hp->VK->Prop:=λd H Q=>∃ (x c:V) (t a:Ac) (b:Bool),d=[x,c]/\kD c a/\TyOf K H x t/\PySem.W.kitOne K t a=some b/\Q (.b b) H
theorem K1 (K:kC) (g:X.K=K:=by rfl):lS X (.builtin "isinstance") (G8 K):=by subst g;exact Vl
end
section
variable {X:Cx}
theorem Inv.movedT {t':Nat}{p:Aa Ad}{ys:Aa V}{j:Aa Ac}(I:Inv X g U H s) (l:∀ b∈p,pG X g H b) (k:∀ b o,b∉p->s.heap.get? b=some o->C.get? b=some o)
  (new:tM C s.heap.objs.size j.toArray) (T:kF ys j) (J:ys.length<=sizeLine):Inv X g U (upd H s.heap.objs.size (.t ys)) { s with heap:=C,toks:=t' }:=by
 have f:=I.fresh;have h:∀ b u,H b=some u->b∉p:=λb u e z=>by rw[(l b z).1] at e;cases e
 have lt:∀ b o,s.heap.get? b=some o->b≠s.heap.objs.size:=λb o e=>bH (aQ e)
 refine I.step (g':=s.gens) (d':=s.drawn) (ch:=p) (λb a=>⟨(l b a).2.2.2.1,(l b a).2.1,(l b a).2.2.2.2.1,(l b a).2.2.2.2.2⟩) (λb o _ _ d e _=>k b o d e) (λb o _ _ d e _=>⟨o.slots,k b o d e⟩) (λb o _ e n=>by rw[lC (lt b o e)];exact n)
  (λb o d e=>⟨o,k b o d e⟩) (λb A e=>by rw[lC (oA e f)];exact e) (λb o u e=>by rw[lC (oA e f)];exact e) (λb B e=>⟨#[],by rw[lC (oA e f),e];simp⟩) (λm x=>?_) (λb u e=>?_) I.bare
 .obtain⟨o,w,i,y,r⟩:=x;exact⟨o,w,i,k _ o (λz=>(l _ z).2.1 rfl) y,r⟩
 .by_cases a:b=s.heap.objs.size
  .subst a;rw[mB] at e;cases e;exact⟨J,j,T,new⟩
  .rw[lC a] at e;refine (I.hok b u e).stay (λc v d q=>k c v ?_ q) (λc q=>by rw[lC (oA q f)];exact q) λc A q=>by rw[lC (oA q f)];exact q
   rcases d with z | z
   .rw[z];exact h b u e
   .exact h c _ z
end
section
variable {X:Cx}
theorem Q4 {iter:Expr}{tt:TT}(T p:Aa Af) (J:Aa Nat) (hN:X.N.Nodup) (af:X.N[i]?=some x) (hx:rE X.env.scope x)
  (hc:X.calm=true) (hi:PI X tg iter wi) (hk:j.kind = .function) (ho:yF X.N X.env.kindOf j T p J=true)
  (hg:∀ r l C cl U,PG (pC X (T++p) j cl C r l U) tg g)
  (ht:∀ r l C cl U,rW (pC X (T++p) j cl C r l U) ac tt)
  (he:∀ r l C cl U,PE (pC X (T++p) j cl C r l U) ab te)
  (ag:swapsWith (.ListComp ab [⟨tg,iter,ac,0⟩] j pos) (some (.Name x aa)) ae.line X.env=pure true:=by rfl)
  (hs:∀ x,foldedSetIterable iter X.env x=pure x:=by intro _;rfl)
  (hf:X.fn x=true\/X.env.scope.names.lookup x=some .local:=by first | exact .inl rfl | exact .inr rfl | assumption) :
  PS X (.Assign [.Name x aa] (.ListComp ab [⟨tg,iter,ac,0⟩] j pos) ae) (C0 (xX T J wi g tt te) (Cy i)):=by
 intro u s M H D I h;rw[exec_Assign_Name_used _ _ _ _ ag];refine aA (jW (aA ?_));show wpAny _ _ (comprehension _ _ _ _ _ _ _ _ >>= λ_=>pure ()) _ _ _;refine aA (K3 (nw:=none) T p J hc hi hk (Ip ho) hg ht he hs I h λC t L w A q U k=>?_);obtain⟨m,E⟩:=k;show wpAny _ _ (assign (.Name x aa) X.env (.ref t)) _ _ _;refine wpAny_assign_Name (Hl A hN af hx (v:=.ref t) rfl (λF y f=>?_) hf);obtain⟨a,G,B⟩:=f;have c:C≠a:=by
  rcases B with z | z
  .rw[z];exact U.2.1
  .exact (U.2.2.2.2.1 x a z).symm
 refine⟨m,E.sameBut G c,λK n=>aB (aB ⟨_,w,y.moved (t':=F.toks) (fp:=[C]) (λb d=>?_) (λb o d e=>?_),q⟩)⟩
 .rw[bA.mp d];exact U
 .exact n.extBut b o (λz=>d (bA.mpr z)) e
end
inductive D where
 | e | b (b:Bool) | int (i:Int) | str (x:Str) | r (v:V)
 | t (xs:List D) | l (xs:List D)
 | k (kvs:List (gV×D)) | T (kvs:List (List gV×D)) | dM (kvs:List (MK×D))
 | c (xs:List D)
 | con (xs:List D)
def yD (K:kC) (a:Ad) (g:Aa V):Prop:=∃ (o:Obj) (b:Array Ac) (n:Nat),K.lookup a=some o/\o.cls = .type "tuple" /\ o.data = .seq b n/\b.size<=sizeLine/\kF g b.toList
theorem yD.sqT {K:kC}(h:yD K a g):kO K H a g:=.inr h
def rK (K:kC) (H:Hp) (a:Ad) (g:Aa V):Prop:=(∃ o,H a=some (.frz o (.l g))) \/
 ∃ (o:Obj) (b:Array Ac) (n:Nat),K.lookup a=some o/\o.cls = .type "list" /\ o.dict=none/\o.data = .seq b n/\b.size<=sizeLine/\kF g b.toList
theorem rK.sqL {K:kC}(h:rK K H a g):kK K H a g:=h.elim (λh=>.inl (.inr h)) .inr
mutual
inductive Rep (K:kC) (A:Addr->Prop) (H:Hp):D->V->Prop where
 | e:Rep K A H .e .e
 | b (b:Bool):Rep K A H (.b b) (.b b)
 | int (i:Int):Rep K A H (.int i) (.int i)
 | str (x:Str):Rep K A H (.str x) (.str x)
 | r (v:V):Rep K A H (.r v) v
 | t {a:Addr} {vs:List V} {ds:List D}:H a=some (.t vs)->Reps K A H ds vs->Rep K A H (.t ds) (.ref a)
 | con {a:Addr} {vs:List V} {ds:List D}:yD K a vs->Reps K A H ds vs->Rep K A H (.con ds) (.ref a)
 | l {a:Addr} {vs:List V} {ds:List D}:A a->H a=some (.l vs)->Reps K A H ds vs->Rep K A H (.l ds) (.ref a)
 | c {a:Addr} {vs:List V} {ds:List D}:rK K H a vs->Reps K A H ds vs->Rep K A H (.c ds) (.ref a)
 | k {a:Addr} {kvs:List (gV×V)} {ds:List (gV×D)}:A a->H a=some (.k kvs)->ds.map (·.1)=kvs.map (·.1)->Reps K A H (ds.map (·.2)) (kvs.map (·.2))->Rep K A H (.k ds) (.ref a)
 | T {a:Addr} {kvs:List (List gV×V)} {ds:List (List gV×D)}:A a->Rd H a (.T kvs)->ds.map (·.1)=kvs.map (·.1)->Reps K A H (ds.map (·.2)) (kvs.map (·.2))->Rep K A H (.T ds) (.ref a)
 | dM {a:Addr} {kvs:List (MK×V)} {ds:List (MK×D)}:A a->Rd H a (.dM kvs)->ds.map (·.1)=kvs.map (·.1)->Reps K A H (ds.map (·.2)) (kvs.map (·.2))->Rep K A H (.dM ds) (.ref a)
inductive Reps (K:kC) (A:Addr->Prop) (H:Hp):List D->List V->Prop where
 | nil:Reps K A H [] []
 | cons {d:D} {v:V} {ds:List D} {vs:List V}:Rep K A H d v->Reps K A H ds vs->Reps K A H (d::ds) (v::vs)
end
def zI:HO->Bool
 | .t _=>true
 | .frz _ _=>true
 | _=>false
def Kp (A j:Ad->Prop) (H g:Hp):Prop:=(∀ a o,A a->H a=some o->j a/\g a=some o)/\∀ a o,zI o=true->H a=some o->g a=some o
section
variable {K:kC}
theorem Kp.sqF (k:Kp A l H g) (h:rK K H a j):rK K g a j:=by
 rcases h with⟨o,h⟩ | h
 .exact .inl ⟨o,k.2 _ _ rfl h⟩
 .exact .inr h
theorem Kp.rd (k:Kp A j H l) (g:A a) (h:Rd H a u):j a/\Rd l a u:=by
 rcases h with h | ⟨o,h⟩
 .exact⟨(k.1 _ _ g h).1,.inl (k.1 _ _ g h).2⟩
 .exact⟨(k.1 _ _ g h).1,.inr ⟨o,(k.1 _ _ g h).2⟩⟩
theorem Rep.mono (k:Kp A g H j) (h:Rep K A H d v):Rep K g j d v :=
 Rep.rec (motive_1:=λd v _=>Rep K g j d v) (motive_2:=λf i _=>Reps K g j f i) .e .b .int .str .r (λh _ r=>.t (k.2 _ _ rfl h) r) (λh _ r=>.con h r)
  (λa h _ r=>.l (k.1 _ _ a h).1 (k.1 _ _ a h).2 r) (λh _ r=>.c (k.sqF h) r) (λa h e _ r=>.k (k.1 _ _ a h).1 (k.1 _ _ a h).2 e r) (λa h e _ r=>.T (k.rd a h).1 (k.rd a h).2 e r) (λa h e _ r=>.dM (k.rd a h).1 (k.rd a h).2 e r) .nil (λ_ _ h r=>.cons h r) h
theorem Reps.mono (k:Kp A o H p) (h:Reps K A H j l):Reps K o p j l:=by
 induction j generalizing l with
 | nil=>cases h;exact .nil
 | cons d j a=>cases h with | cons g r=>exact .cons (g.mono k) (a r)
theorem Kp.all (h:∀ a,A a->g a):Kp A g H H:=⟨λa o b e=>⟨h a b,e⟩,λ_ _ _ e=>e⟩
theorem Kp.trans (a:Kp A l H r) (b:Kp l g r j):Kp A g H j:=⟨λx o c e=>let ⟨p,q⟩:=a.1 x o c e;b.1 x o p q,λx o t e=>b.2 x o t (a.2 x o t e)⟩
theorem Kp.laid (g:H p=none) (h:∀ a,A a->a≠p->j a):Kp A j H (upd H p o) :=
 ⟨λa u b e=>⟨h a b (oA e g),by rw[lC (oA e g)];exact e⟩,λa u _ e=>by rw[lC (oA e g)];exact e⟩
theorem Kp.same (s:Kw H j) (h:∀ a,A a->g a):Kp A g H j:=⟨λa o b e=>⟨h a b,s a o e⟩,λa o _ e=>s a o e⟩
theorem Kp.write (l:H p=some u) (g:zI u=false) (j:¬ A p):Kp A A H (upd H p o):=by
 refine⟨λa w b e=>⟨b,?_⟩,λa w t e=>?_⟩
 .rw[lC (λz:a=p=>j (by rw[<- z];exact b))];exact e
 .rw[lC (λz=>?_)]
  .exact e
  .subst z;rw[l] at e;cases e;rw[t] at g;cases g
theorem Reps.length (h:Reps K A H j l):j.length=l.length:=by
 induction j generalizing l with
 | nil=>cases h;rfl
 | cons d j a=>cases h with | cons g r=>exact cO (·+1) (a r)
theorem Reps.get {j:Aa D}{l:Aa V}{i:Nat}{d:D}(h:Reps K A H j l) (e:j[i]?=some d):∃ v,l[i]?=some v/\Rep K A H d v:=by
 induction j generalizing l i with
 | nil=>cases e
 | cons c j a =>
  cases h with
  | cons g r =>
   cases i with
   | zero=>cases e;exact⟨_,rfl,g⟩
   | succ i=>exact a r (i:=i) e
theorem Reps.getV {j:Aa D}{l:Aa V}{i:Nat}{v:V}(h:Reps K A H j l) (e:l[i]?=some v):∃ d,j[i]?=some d/\Rep K A H d v:=by
 induction j generalizing l i with
 | nil=>cases h;cases e
 | cons c j a =>
  cases h with
  | cons g r =>
   cases i with
   | zero=>cases e;exact⟨_,rfl,g⟩
   | succ i=>exact a r (i:=i) e
theorem Reps.append (h:Reps K A H j l) (s:Reps K A H o p):Reps K A H (j++o) (l++p):=by
 induction j generalizing l with
 | nil=>cases h;exact s
 | cons d j a=>cases h with | cons g r=>exact .cons g (a r)
theorem Reps.take:∀ {g:Aa D}{j:Aa V}(n:Nat),Reps K A H g j->Reps K A H (g.take n) (j.take n)
 | _,_,0,_=>by rw[gR,gR];exact .nil
 | _,_,n+1,.nil=>.nil
 | _,_,n+1,.cons h r=>.cons h (Reps.take n r)
theorem Reps.drop:∀ {g:Aa D}{j:Aa V}(n:Nat),Reps K A H g j->Reps K A H (g.drop n) (j.drop n)
 | _,_,0,h=>h
 | _,_,n+1,.nil=>.nil
 | _,_,n+1,.cons h r=>Reps.drop n r
theorem Reps.set (h:Rep K A H d v):∀ {j:Aa D}{l:Aa V}(i:Nat),Reps K A H j l->Reps K A H (j.set i d) (l.set i v)
 | _,_,_,.nil=>.nil
 | _,_,0,.cons _ r=>.cons h r
 | _,_,i+1,.cons g r=>.cons g (Reps.set h i r)
theorem Reps.erase:∀ {j:Aa D}{l:Aa V}(i:Nat),Reps K A H j l->Reps K A H (j.eraseIdx i) (l.eraseIdx i)
 | _,_,_,.nil=>.nil
 | _,_,0,.cons _ r=>r
 | _,_,i+1,.cons g r=>.cons g (Reps.erase i r)
theorem Reps.nil_iff (h:Reps K A H g j):j=[]↔g=[]:=by
 cases h<;>simp
theorem Rep.int_inv (h:Rep K A H (.int i) v):v = .int i:=by cases h;rfl
theorem Rep.str_inv (h:Rep K A H (.str i) v):v = .str i:=by cases h;rfl
theorem Rep.bl_inv (h:Rep K A H (.b i) v):v = .b i:=by cases h;rfl
theorem Rep.non_inv (h:Rep K A H .e v):v = .e:=by cases h;rfl
theorem Rep.raw_inv (h:Rep K A H (.r u) v):v=u:=by cases h;rfl
theorem Rep.tup_inv (h:Rep K A H (.t j) v):∃ a g,v = .ref a/\H a=some (.t g)/\Reps K A H j g:=by
 cases h with | t h r=>exact⟨_,_,rfl,h,r⟩
theorem Rep.lst_inv (h:Rep K A H (.l j) v):∃ a g,v = .ref a/\A a/\H a=some (.l g)/\Reps K A H j g:=by
 cases h with | l d h r=>exact⟨_,_,rfl,d,h,r⟩
theorem Rep.con_inv (h:Rep K A H (.con j) v):∃ a g,v = .ref a/\yD K a g/\Reps K A H j g:=by
 cases h with | con h r=>exact⟨_,_,rfl,h,r⟩
theorem Rep.scr_inv (h:Rep K A H (.c j) v):∃ a g,v = .ref a/\rK K H a g/\Reps K A H j g:=by
 cases h with | c h r=>exact⟨_,_,rfl,h,r⟩
theorem Rep.dK_inv (h:Rep K A H (.k j) v):∃ a g,v = .ref a/\A a/\H a=some (.k g)/\j.map (·.1)=g.map (·.1)/\Reps K A H (j.map (·.2)) (g.map (·.2)):=by
 cases h with | k d h e r=>exact⟨_,_,rfl,d,h,e,r⟩
theorem Rep.dT_inv (h:Rep K A H (.T j) v):∃ a g,v = .ref a/\A a/\Rd H a (.T g)/\j.map (·.1)=g.map (·.1)/\Reps K A H (j.map (·.2)) (g.map (·.2)):=by
 cases h with | T d h e r=>exact⟨_,_,rfl,d,h,e,r⟩
theorem Rep.dM_inv (h:Rep K A H (.dM j) v):∃ a g,v = .ref a/\A a/\Rd H a (.dM g)/\j.map (·.1)=g.map (·.1)/\Reps K A H (j.map (·.2)) (g.map (·.2)):=by
 cases h with | dM d h e r=>exact⟨_,_,rfl,d,h,e,r⟩
end
mutual
def imm:D->Bool
 | .t a=>qH a
 | .c a=>qH a
 | .con a=>qH a
 | .l _=>false
 | .k _=>false
 | .T _=>false
 | .dM _=>false
 | _=>true
def qH:Aa D->Bool
 | []=>true
 | d::a=>imm d&&qH a
end
section
variable {K:kC}
theorem Rep.imm (h:Rep K A H d v):imm d=true->Rep K g H d v :=
 Rep.rec (motive_1:=λd v _=>L2.imm d=true->Rep K g H d v) (motive_2:=λa f _=>qH a=true->Reps K g H a f) (λ_=>.e) (λb _=>.b b) (λi _=>.int i) (λx _=>.str x) (λv _=>.r v) (λh _ r e=>.t h (r e)) (λh _ r e=>.con h (r e))
  (λ_ _ _ _ e=>Bool.noConfusion (show false=true from e)) (λh _ r e=>.c h (r e)) (λ_ _ _ _ _ e=>Bool.noConfusion (show false=true from e)) (λ_ _ _ _ _ e=>Bool.noConfusion (show false=true from e)) (λ_ _ _ _ _ e=>Bool.noConfusion (show false=true from e)) (λ_=>.nil) (λ_ _ h r e=>.cons (h (gS.mp e).1) (r (gS.mp e).2)) h
theorem Reps.imm (h:Reps K A H j l) (e:qH j=true):Reps K o H j l:=by
 induction j generalizing l with
 | nil=>cases h;exact .nil
 | cons d j a=>cases h with | cons g r=>exact .cons (g.imm (gS.mp e).1) (a r (gS.mp e).2)
end
end L2
namespace Lw
open PySem L2
structure DeckAt (H:Hp) (d c:Addr):Prop where
 ex:∃ (ns:List Int) (p:Int),H d=some (.l [.ref c,.int p])/\H c=some (.l (ns.map V.int))/\0<ns.length/\ns.length<=100
end Lw
namespace L2
open PySem PySem.Spec PyProof.Rows Lw
inductive Sl where
 | n | v (d:D) | o (d:D)
abbrev lN:=Aa (Sl×Ab V)
def Dk (g:Aa Ad) (H:Hp):Prop:=g=[]\/∃ d c,g=[d,c]/\DeckAt H d c
theorem Dk.some (h:Dk j H) (g:a∈j):∃ o,H a=some (.l o):=by
 rcases h with rfl | ⟨d,c,rfl,h⟩
 .cases g
 .obtain⟨f,p,b,e,_⟩:=h.ex;rcases aJ.mp g with rfl | g
  .exact⟨_,b⟩
  .rcases aJ.mp g with rfl | g
   .exact⟨_,e⟩
   .cases g
theorem Dk.keep (h:Dk g H) (k:∀ a∈g,j a=H a):Dk g j:=by
 rcases h with rfl | ⟨d,c,rfl,h⟩
 .exact .inl rfl
 .refine .inr ⟨d,c,rfl,?_⟩;obtain⟨i,p,b,e,f⟩:=h.ex;exact⟨i,p,by rw[k d (by simp)];exact b,by rw[k c (by simp)];exact e,f⟩
theorem Dk.upd (h:Dk g H) (j:p∉g):Dk g (upd H p o):=h.keep λa b=>lC λz=>j (z▸b)
noncomputable def uO:Sl×Ab V->Ab Ad
 | (.o _,some (.ref a))=>some a
 | _=>none
def gD (L:lN):Aa Ad:=L.filterMap uO
structure Bs where
 dk:List Addr
 A0:Addr->Prop
 H0:Hp
def Al (B:Bs) (R:Aa Ad) (a:Ad):Prop:=a∉B.dk/\a∉R/\(B.A0 a\/B.H0 a=none)
def mF (K:kC) (A:Ad->Prop) (H:Hp) (a:Ad):D->Prop
 | .l c=>∃ d,H a=some (.l d)/\Reps K A H c d
 | .k c=>∃ b,H a=some (.k b)/\c.map (·.1)=b.map (·.1)/\Reps K A H (c.map (·.2)) (b.map (·.2))
 | .T c=>∃ b,H a=some (.T b)/\c.map (·.1)=b.map (·.1)/\Reps K A H (c.map (·.2)) (b.map (·.2))
 | .dM c=>∃ b,H a=some (.dM b)/\c.map (·.1)=b.map (·.1)/\Reps K A H (c.map (·.2)) (b.map (·.2))
 | _=>False
def oY (K:kC) (A:Ad->Prop) (H:Hp):Sl->Ab V->Prop
 | .n,_=>True
 | .v d,x=>∃ v,x=some v/\Rep K A H d v
 | .o d,x=>∃ a,x=some (.ref a)/\mF K A H a d
structure DS (K:kC) (B:Bs) (L:lN) (H:Hp):Prop where
 fr:∀ b o,B.H0 b=some o->b∉B.dk->H b=some o
 dk:Dk B.dk H
 nd:(gD L).Nodup
 new:∀ a∈gD L,B.H0 a=none/\a∉B.dk
 ok:∀ p∈L,oY K (Al B (gD L)) H p.1 p.2
section
variable {K:kC}{L2:lN}
theorem mF.mono (k:Kp A p H j) (g:∀ o,H a=some o->j a=some o) (h:mF K A H a d):mF K p j a d:=by
 cases d with
 | l _=>obtain⟨b,h,r⟩:=h;exact⟨b,g _ h,r.mono k⟩
 | k _=>obtain⟨b,h,e,r⟩:=h;exact⟨b,g _ h,e,r.mono k⟩
 | T _=>obtain⟨b,h,e,r⟩:=h;exact⟨b,g _ h,e,r.mono k⟩
 | dM _=>obtain⟨b,h,e,r⟩:=h;exact⟨b,g _ h,e,r.mono k⟩
 | _=>exact False.elim h
theorem mF.some:∀ {d:D},mF K A H a d->∃ o,H a=some o/\zI o=false
 | .l _,⟨b,h,r⟩=>⟨_,h,rfl⟩
 | .k _,⟨b,h,e,r⟩=>⟨_,h,rfl⟩
 | .T _,⟨b,h,e,r⟩=>⟨_,h,rfl⟩
 | .dM _,⟨b,h,e,r⟩=>⟨_,h,rfl⟩
theorem mF.rep (g:∀ b,A b->o b) (j:o a):∀ {d:D},mF K A H a d->Rep K o H d (.ref a)
 | .l _,⟨c,h,r⟩=>.l j h (r.mono (.all g))
 | .k _,⟨c,h,e,r⟩=>.k j h e (r.mono (.all g))
 | .T _,⟨c,h,e,r⟩=>.T j (.inl h) e (r.mono (.all g))
 | .dM _,⟨c,h,e,r⟩=>.dM j (.inl h) e (r.mono (.all g))
theorem oY.mono (k:Kp A j H g) (h:oY K A H s y) (l:∀ a,uO (s,y)=some a->∀ o,H a=some o->g a=some o):oY K j g s y:=by
 cases s with
 | n=>trivial
 | v d=>obtain⟨v,e,r⟩:=h;exact⟨v,e,r.mono k⟩
 | o d=>obtain⟨a,rfl,r⟩:=h;exact⟨a,rfl,r.mono k (l a rfl)⟩
theorem oC:gD (g++L2)=gD g++gD L2:=List.filterMap_append
theorem qL:a∈gD L↔∃ p∈L,uO p=some a:=hZ
theorem oP:gD (L1++x::L2)=gD L1++((uO x).toList++gD L2):=by
 unfold gD;rw[List.filterMap_append,List.filterMap_cons];cases uO x<;>rfl
theorem DS.live (h:DS K B L H) (g:a∈gD L):∃ o,H a=some o/\zI o=false:=by
 obtain⟨p,c,e⟩:=qL.mp g;have:=h.ok p c;obtain⟨s,y⟩:=p;cases s with
 | n=>cases e
 | v d=>cases e
 | o d =>
  obtain⟨b,rfl,r⟩:=this;cases e;exact r.some
theorem DS.drop (h:DS K B (L1++x::L2) H):DS K B (L1++L2) H:=by
 have e:=oP (L1:=L1) (x:=x) (L2:=L2);have d:∀ a,a∈gD (L1++L2)->a∈gD (L1++x::L2):=λa c=>by
  rw[oC] at c;rw[e];simp only[aZ] at c |-;rcases c with q | q
  .exact .inl q
  .exact .inr (.inr q)
 refine⟨h.fr,h.dk,?_,λa c=>h.new a (d a c),λp f=>?_⟩
 .have n:=h.nd;rw[e] at n;rw[oC];obtain⟨k,m,s⟩:=aO.mp n;exact aO.mpr ⟨k,(aO.mp m).2.1,λa c b i=>s a c b (aN _ i)⟩
 .refine (h.ok p (by simp only[aZ,aJ] at f |-;rcases f with q | q;exact .inl q;exact .inr (.inr q))).mono (.all λa z=>⟨z.1,λq=>z.2.1 (d a q),z.2.2⟩) (λ_ _ _ q=>q)
theorem DS.at (h:DS K B (g++x::L2) H):oY K (Al B (gD (g++x::L2))) H x.1 x.2:=h.ok x (aN _ aM)
theorem DS.valAt (h:DS K B (g++(.v d,some v)::L2) H):Rep K (Al B (gD (g++L2))) H d v:=by
 obtain⟨u,e,r⟩:=h.at;cases e;have:gD (g++(Sl.v d,some v)::L2)=gD (g++L2):=by rw[oP,oC];rfl
 rw[this] at r;exact r
theorem DS.push (h:DS K B (L1++L2) H) (r:Rep K (Al B (gD (L1++L2))) H d v):DS K B (L1++(.v d,some v)::L2) H:=by
 have e:gD (L1++(Sl.v d,some v)::L2)=gD (L1++L2):=by rw[oP,oC];rfl
 refine⟨h.fr,h.dk,by rw[e];exact h.nd,by rw[e];exact h.new,λp a=>?_⟩;rw[e];simp only[aZ,aJ] at a;rcases a with q | q | q
 .exact h.ok p (bM _ q)
 .subst q;exact⟨v,rfl,r⟩
 .exact h.ok p (aN _ q)
theorem DS.pushN (h:DS K B (L1++L2) H) (y:Ab V):DS K B (L1++(.n,y)::L2) H:=by
 have e:gD (L1++(Sl.n,y)::L2)=gD (L1++L2):=by rw[oP,oC];rfl
 refine⟨h.fr,h.dk,by rw[e];exact h.nd,by rw[e];exact h.new,λp a=>?_⟩;rw[e];simp only[aZ,aJ] at a;rcases a with q | q | q
 .exact h.ok p (bM _ q)
 .subst q;trivial
 .exact h.ok p (aN _ q)
theorem DS.grow (h:DS K B L H) (s:Kw H g) (j:Dk B.dk g):DS K B L g :=
 ⟨λb o e n=>s b o (h.fr b o e n),j,h.nd,h.new,λp a=>(h.ok p a).mono (.same s λ_ z=>z) (λ_ _ o q=>s _ o q)⟩
theorem DS.free (h:DS K B L H) (g:H a=none):B.H0 a=none/\a∉B.dk/\a∉gD L:=by
 have n:a∉B.dk:=λz=>by obtain⟨b,e⟩:=h.dk.some z;rw[e] at g;cases g
 refine⟨?_,n,λz=>by obtain⟨o,e,_⟩:=h.live z;rw[e] at g;cases g⟩;cases e:B.H0 a with
 | none=>rfl
 | some o=>rw[h.fr a o e n] at g;cases g
theorem DS.laid (h:DS K B L H) (g:H a=none):DS K B L (upd H a o) :=
 h.grow (λb u e=>by rw[lC (oA e g)];exact e) (h.dk.upd (h.free g).2.1)
theorem DS.tup (h:DS K B (L1++L2) H){g:Aa D}{l:Aa V}(j:H a=none) (r:Reps K (Al B (gD (L1++L2))) H g l):DS K B (L1++(.v (.t g),some (.ref a))::L2) (upd H a (.t l)) :=
 (h.laid j).push (.t mB (r.mono (.laid j λ_ z _=>z)))
theorem DS.make (h:DS K B (L1++L2) H) (g:H a=none) (r:∀ j,Kp (Al B (gD (L1++L2))) j H (upd H a o)->mF K j (upd H a o) a d):DS K B (L1++(.o d,some (.ref a))::L2) (upd H a o):=by
 obtain⟨f1,f2,k⟩:=h.free g;have e:gD (L1++(Sl.o d,some (.ref a))::L2)=gD L1++a::gD L2:=oP;have m:∀ b,b∈gD L1++a::gD L2↔b=a\/b∈gD (L1++L2):=λb=>by
  rw[oC];simp only[aZ,aJ];constructor
  .rintro (q | q | q)
   .exact .inr (.inl q)
   .exact .inl q
   .exact .inr (.inr q)
  .rintro (q | q | q)
   .exact .inr (.inl q)
   .exact .inl q
   .exact .inr (.inr q)
 have s:Kp (Al B (gD (L1++L2))) (Al B (gD L1++a::gD L2)) H (upd H a o):=.laid g λb z n=>⟨z.1,λq=>(m b).mp q |>.elim n z.2.1,z.2.2⟩
 refine⟨λb u q n=>by rw[lC (oA (h.fr b u q n) g)];exact h.fr b u q n,h.dk.upd f2,?_,λb i=>?_,λp f=>?_⟩
 .rw[e];have n:=h.nd;rw[oC] at n k;obtain⟨v,x,y⟩:=aO.mp n;refine aO.mpr ⟨v,bP.mpr ⟨λz=>k (aN _ z),x⟩,λb i c t=>?_⟩;rcases aJ.mp t with q | q
  .intro z;subst z;subst q;exact k (bM _ i)
  .exact y b i c q
 .rw[e] at i;rcases (m b).mp i with q | q
  .subst q;exact⟨f1,f2⟩
  .exact h.new b q
 .rw[e];simp only[aZ,aJ] at f;have old:∀ p∈L1++L2,oY K (Al B (gD L1++a::gD L2)) (upd H a o) p.1 p.2:=λp f=>(h.ok p f).mono s λb i w q=>by rw[lC (oA q g)];exact q
  rcases f with q | q | q
  .exact old p (bM _ q)
  .subst q;exact⟨a,rfl,r _ s⟩
  .exact old p (aN _ q)
theorem DS.freeze (h:DS K B (g++(.o d,some v)::L2) H):DS K B (g++(.v d,some v)::L2) H:=by
 obtain⟨a,e,r⟩:=h.at;cases e;have c:gD (g++(Sl.o d,some (V.ref a))::L2)=gD g++a::gD L2:=oP;have hd:=h.drop;have f:=h.new a (by rw[c];simp);refine hd.push (r.rep (λb z=>⟨z.1,λq=>z.2.1 ?_,z.2.2⟩) ⟨f.2,λq=>?_,.inr f.1⟩)
 .rw[c];rw[oC] at q;simp only[aZ,aJ] at q |-;rcases q with q | q
  .exact .inl q
  .exact .inr (.inr q)
 .have n:=h.nd;rw[c] at n;rw[oC] at q;obtain⟨m,i,k⟩:=aO.mp n;rcases aZ.mp q with q | q
  .exact k a q a aM rfl
  .exact (bP.mp i).1 q
theorem DS.write (h:DS K B (g++(.o d,some (.ref a))::L2) H) (r:∀ j,Kp (Al B (gD g++a::gD L2)) j H (upd H a o)->mF K j (upd H a o) a d'):DS K B (g++(.o d',some (.ref a))::L2) (upd H a o):=by
 have e:∀ d,gD (g++(Sl.o d,some (V.ref a))::L2)=gD g++a::gD L2:=λd=>oP
 have s:=h.new a (by rw[e];simp);obtain⟨u,t,A⟩:=h.live (a:=a) (by rw[e];simp);have k:Kp (Al B (gD g++a::gD L2)) (Al B (gD g++a::gD L2)) H (upd H a o):=.write t A λz=>z.2.1 (by simp)
 have n:=h.nd;rw[e] at n;have y:∀ b,b∈gD g\/b∈gD L2->b≠a:=λb c z=>by
  subst z;obtain⟨D,v,x⟩:=aO.mp n;rcases c with c | c
  .exact x b c b aM rfl
  .exact (bP.mp v).1 c
 refine⟨λb w q m=>?_,h.dk.upd s.2,by rw[e];exact n,λb c=>h.new b (by rw[e] at c |-;exact c),λp f=>?_⟩
 .have:b≠a:=λz=>by subst z;rw[s.1] at q;cases q
  rw[lC this];exact h.fr b w q m
 .rw[e];have old:∀ p,p∈g\/p∈L2->oY K (Al B (gD g++a::gD L2)) (upd H a o) p.1 p.2:=λp i=>by
   have:=h.ok p (by simp only[aZ,aJ];rcases i with q | q;exact .inl q;exact .inr (.inr q));rw[e] at this;refine this.mono k λb c w q=>?_
   rw[lC (y b ?_)]
   .exact q
   .rcases i with z | z
    .exact .inl (qL.mpr ⟨p,z,c⟩)
    .exact .inr (qL.mpr ⟨p,z,c⟩)
  simp only[aZ,aJ] at f;rcases f with q | q | q
  .exact old p (.inl q)
  .subst q;exact⟨a,rfl,r _ k⟩
  .exact old p (.inr q)
theorem DS.ownAt (h:DS K B (g++(.o d,some v)::L2) H):∃ a,v = .ref a/\mF K (Al B (gD g++a::gD L2)) H a d:=by
 obtain⟨a,e,r⟩:=h.at;cases e;rw[show gD (g++(Sl.o d,some (V.ref a))::L2)=gD g++a::gD L2 from oP] at r;exact⟨a,rfl,r⟩
theorem DS.perm (h:DS K B L H) (p:L.Perm M):DS K B M H:=by
 have e:(gD L).Perm (gD M):=p.filterMap uO;refine⟨h.fr,h.dk,e.nodup_iff.mp h.nd,λa b=>h.new a (e.mem_iff.mpr b),λq c=>(h.ok q (p.mem_iff.mpr c)).mono (.all λa z=>⟨z.1,λw=>z.2.1 (e.mem_iff.mpr w),z.2.2⟩) λ_ _ _ w=>w⟩
end
section
theorem rQ {g:Aa Sl}{σ:St}(C:g.length=σ.length){i:Nat}{s:Sl}(h:g[i]?=some s):∃ j y l,σ[i]?=some y/\j.length=i/\g.zip σ=j++(s,y)::l/\∀ o p,(g.set i o).zip (σ.set i p)=j++(o,p)::l:=by
 induction g generalizing σ i with
 | nil=>simp at h
 | cons r g e =>
  cases σ with
  | nil=>simp at C
  | cons z σ =>
   cases i with
   | zero=>simp at h;subst h;exact⟨[],z,g.zip σ,rfl,rfl,rfl,λ_ _=>rfl⟩
   | succ i =>
    obtain⟨j,y,l,a,b,c,d⟩:=e (σ:=σ) (by simpa using C) (i:=i) (by simpa using h);exact⟨(r,z)::j,y,l,by simpa using a,by simp[b],by simp[c],λo p=>by simp[d]⟩
theorem vH {g:St}{i:Nat}{y:Ab V}(h:g[i]?=some y):g.set i y=g:=by
 obtain⟨a,rfl⟩:=aG.mp h;exact List.set_getElem_self a
end
abbrev kX:=Aa Ad->Aa Sl->(Sl->Aa Sl->Prop)->Prop
abbrev mY:=Aa Ad->Aa Sl->(Bool->Aa Sl->Prop)->Prop
def dE (K:kC) (g:kX):TE:=λb H Q=>∃ (B:Bs) (c:Aa Sl) (T:lN) (e:Sl->Aa Sl->Prop),c.length=b.length/\DS K B (c.zip b++T) H/\g B.dk c e /\
 ∀ r a v d,a.length=b.length->DS K B (a.zip b++(r,some v)::T) d->e r a->Q v d
def pP (K:kC) (g:mY):TT:=λc H Q=>∃ (B:Bs) (d:Aa Sl) (T:lN) (f:Bool->Aa Sl->Prop),d.length=c.length/\DS K B (d.zip c++T) H/\g B.dk d f /\
 ∀ b a e,a.length=c.length->DS K B (a.zip c++T) e->f b a->Q b e
theorem dE.elim {K:kC}{P:Prop}(h:dE K C o H Q) (f:∀ (B:Bs) (j:Aa Sl) (T:lN) (l:Sl->Aa Sl->Prop),j.length=o.length->DS K B (j.zip o++T) H->C B.dk j l ->(∀ r g v p,g.length=o.length->DS K B (g.zip o++(r,some v)::T) p->l r g->Q v p)->P):P:=by
 obtain⟨B,j,T,l,a,hd,b,k⟩:=h;exact f B j T l a hd b k
theorem pP.elim {K:kC}{P:Prop}(h:pP K r o H Q) (f:∀ (B:Bs) (j:Aa Sl) (T:lN) (l:Bool->Aa Sl->Prop),j.length=o.length->DS K B (j.zip o++T) H->r B.dk j l ->(∀ b g p,g.length=o.length->DS K B (g.zip o++T) p->l b g->Q b p)->P):P:=by
 obtain⟨B,j,T,l,a,hd,c,k⟩:=h;exact f B j T l a hd c k
abbrev PD (X:Cx) (e:Expr) (g:kX):Prop:=PE X e (dE X.K g)
abbrev pN (X:Cx) (e:Expr) (g:mY):Prop:=PT X e (pP X.K g)
abbrev Av (X:Cx) (e:Expr) (g:mY):Prop:=PW X e (pP X.K g)
theorem PE.mono {X:Cx}(h:PE X e t) (k:∀ g H Q,j g H Q->t g H Q):PE X e j:=λa s g H Q I q=>h a s g H Q I (k g H Q q)
theorem PT.mono {X:Cx}(h:PT X e t) (k:∀ g H Q,j g H Q->t g H Q):PT X e j:=λa s g H Q I q=>h a s g H Q I (k g H Q q)
theorem PW.mono {X:Cx}(h:PW X e t) (k:∀ g H Q,j g H Q->t g H Q):PW X e j:=λb a s g H Q I q=>h b a s g H Q I (k g H Q q)
def sd:Sl->Ab D
 | .v d=>some d
 | .o d=>some d
 | .n=>none
section
variable {K:kC}{L2:lN}
theorem Cd:gD (g++(Sl.v d,y)::L2)=gD (g++L2):=by rw[oP,oC];rfl
theorem DS.thaw (h:DS K B (g++(r,some v)::L2) H) (e:sd r=some d):DS K B (g++(.v d,some v)::L2) H:=by
 cases r with
 | n=>cases e
 | v c=>cases e;exact h
 | o c=>cases e;exact h.freeze
theorem DS.one (h:DS K B (L++(r,some v)::T) H) (e:sd r=some d):DS K B (L++T) H/\Rep K (Al B (gD (L++T))) H d v:=by
 have a:=h.thaw e;exact⟨a.drop,a.valAt⟩
theorem DS.two (h:DS K B (L++(l,some u)::(r,some v)::T) H) (g:sd r=some d) (j:sd l=some e):DS K B (L++T) H/\Rep K (Al B (gD (L++T))) H d v/\Rep K (Al B (gD (L++T))) H e u:=by
 have m:=h.thaw j;have n:DS K B ((L++[(Sl.v e,some u)])++(r,some v)::T) H:=by simpa using m
 have a:=n.thaw g;have b:DS K B (L++(Sl.v e,some u)::(.v d,some v)::T) H:=by simpa using a
 have c:=b.valAt;have f:=a.valAt;have i:gD (L++(Sl.v d,some v)::T)=gD (L++T):=by rw[oP,oC];rfl
 have k:gD ((L++[(Sl.v e,some u)])++T)=gD (L++T):=by
  rw[aX];show gD (L++(Sl.v e,some u)::T)=_;rw[oP,oC];rfl
 rw[i] at c;rw[k] at f;exact⟨b.drop.drop,f,c⟩
theorem DS.mid (h:DS K B (x::(L++T)) H):DS K B (L++x::T) H:=h.perm fY.symm
theorem DS.front (h:DS K B (L++x::T) H):DS K B (x::(L++T)) H:=h.perm fY
theorem DS.pushF (h:DS K B L H) (r:Rep K (Al B (gD L)) H d v):DS K B ((.v d,some v)::L) H:=DS.push (L1:=[]) h r
theorem DS.tupF (h:DS K B L H) (j:H a=none) (r:Reps K (Al B (gD L)) H g l):DS K B ((.v (.t g),some (.ref a))::L) (upd H a (.t l)):=DS.tup (L1:=[]) h j r
theorem DS.lstF (h:DS K B L H) (p:H a=none) (r:Reps K (Al B (gD L)) H j g):DS K B ((.o (.l j),some (.ref a))::L) (upd H a (.l g)) :=
 DS.make (L1:=[]) h p λb k=>⟨g,mB,r.mono k⟩
theorem DS.dKF (h:DS K B L H) (g:H a=none) (e:ds.map (·.1)=kvs.map (·.1)) (r:Reps K (Al B (gD L)) H (ds.map (·.2)) (kvs.map (·.2))):DS K B ((.o (.k ds),some (.ref a))::L) (upd H a (.k kvs)) :=
 DS.make (L1:=[]) h g λb k=>⟨kvs,mB,e,r.mono k⟩
theorem DS.dTF (h:DS K B L H) (g:H a=none) (e:ds.map (·.1)=kvs.map (·.1)) (r:Reps K (Al B (gD L)) H (ds.map (·.2)) (kvs.map (·.2))):DS K B ((.o (.T ds),some (.ref a))::L) (upd H a (.T kvs)) :=
 DS.make (L1:=[]) h g λb k=>⟨kvs,mB,e,r.mono k⟩
theorem DS.dMF (h:DS K B L H) (l:H a=none) (e:j.map (·.1)=g.map (·.1)) (r:Reps K (Al B (gD L)) H (j.map (·.2)) (g.map (·.2))):DS K B ((.o (.dM j),some (.ref a))::L) (upd H a (.dM g)) :=
 DS.make (L1:=[]) h l λb k=>⟨g,mB,e,r.mono k⟩
end
def lB (K:kC) (A:Ad->Prop) (H:Hp):D->V->Prop
 | .l f,v=>∃ a h,v = .ref a/\H a=some (.l h)/\Reps K A H f h
 | .k f,v=>∃ a d,v = .ref a/\H a=some (.k d)/\f.map (·.1)=d.map (·.1)/\Reps K A H (f.map (·.2)) (d.map (·.2))
 | .T f,v=>∃ a d,v = .ref a/\Rd H a (.T d)/\f.map (·.1)=d.map (·.1)/\Reps K A H (f.map (·.2)) (d.map (·.2))
 | .dM f,v=>∃ a d,v = .ref a/\Rd H a (.dM d)/\f.map (·.1)=d.map (·.1)/\Reps K A H (f.map (·.2)) (d.map (·.2))
 | .e,v=>Rep K A H .e v
 | .b b,v=>Rep K A H (.b b) v
 | .int b,v=>Rep K A H (.int b) v
 | .str b,v=>Rep K A H (.str b) v
 | .r b,v=>Rep K A H (.r b) v
 | .t b,v=>Rep K A H (.t b) v
 | .con b,v=>Rep K A H (.con b) v
 | .c b,v=>Rep K A H (.c b) v
section
variable {K:kC}
theorem Rep.peek (h:Rep K A H d v):lB K A H d v:=by
 cases h with
 | l _ h r=>exact⟨_,_,rfl,h,r⟩
 | k _ h e r=>exact⟨_,_,rfl,h,e,r⟩
 | T _ h e r=>exact⟨_,_,rfl,h,e,r⟩
 | dM _ h e r=>exact⟨_,_,rfl,h,e,r⟩
 | e=>exact .e
 | b=>exact .b _
 | int=>exact .int _
 | str=>exact .str _
 | r=>exact .r _
 | t h r=>exact .t h r
 | con h r=>exact .con h r
 | c h r=>exact .c h r
theorem mF.peek:∀ {d:D},mF K A H a d->lB K A H d (.ref a)
 | .l _,⟨b,h,r⟩=>⟨_,b,rfl,h,r⟩
 | .k _,⟨b,h,e,r⟩=>⟨_,b,rfl,h,e,r⟩
 | .T _,⟨b,h,e,r⟩=>⟨_,b,rfl,.inl h,e,r⟩
 | .dM _,⟨b,h,e,r⟩=>⟨_,b,rfl,.inl h,e,r⟩
theorem lB.lst_inv (h:lB K A H (.l j) v):∃ a g,v = .ref a/\H a=some (.l g)/\Reps K A H j g:=h
theorem lB.dK_inv (h:lB K A H (.k j) v):∃ a g,v = .ref a/\H a=some (.k g)/\j.map (·.1)=g.map (·.1)/\Reps K A H (j.map (·.2)) (g.map (·.2)):=h
theorem lB.dT_inv (h:lB K A H (.T j) v):∃ a g,v = .ref a/\Rd H a (.T g)/\j.map (·.1)=g.map (·.1)/\Reps K A H (j.map (·.2)) (g.map (·.2)):=h
theorem lB.dM_inv (h:lB K A H (.dM j) v):∃ a g,v = .ref a/\Rd H a (.dM g)/\j.map (·.1)=g.map (·.1)/\Reps K A H (j.map (·.2)) (g.map (·.2)):=h
theorem lB.tup_inv (h:lB K A H (.t j) v):∃ a g,v = .ref a/\H a=some (.t g)/\Reps K A H j g:=Rep.tup_inv h
theorem lB.con_inv (h:lB K A H (.con j) v):∃ a g,v = .ref a/\yD K a g/\Reps K A H j g:=Rep.con_inv h
theorem lB.scr_inv (h:lB K A H (.c j) v):∃ a g,v = .ref a/\rK K H a g/\Reps K A H j g:=Rep.scr_inv h
theorem lB.int_inv (h:lB K A H (.int i) v):v = .int i:=Rep.int_inv h
theorem lB.str_inv (h:lB K A H (.str i) v):v = .str i:=Rep.str_inv h
theorem lB.bl_inv (h:lB K A H (.b i) v):v = .b i:=Rep.bl_inv h
theorem lB.non_inv (h:lB K A H .e v):v = .e:=Rep.non_inv h
theorem lB.raw_inv (h:lB K A H (.r u) v):v=u:=Rep.raw_inv h
def at? (g:Aa Sl) (i:Nat):Ab D:=(g[i]?).bind sd
theorem DS.peek (l:g.length=j.length) (h:DS K B (g.zip j++T) H) (e:at? g i=some d):∃ v,j[i]?=some (some v)/\lB K (Al B (gD (g.zip j++T))) H d v:=by
 unfold at? at e;cases f:g[i]? with
 | none=>rw[f] at e;cases e
 | some s =>
  rw[f] at e;obtain⟨q,y,t,k,_,m,_⟩:=rQ l f;have b:=h;rw[m] at b;have:=b.ok (s,y) (by simp);rw[<- m] at this;cases s with
  | n=>cases e
  | v c=>cases e;obtain⟨v,rfl,r⟩:=this;exact⟨v,k,r.peek⟩
  | o c=>cases e;obtain⟨a,rfl,r⟩:=this;exact⟨_,k,r.peek⟩
end
noncomputable def vd (i:Nat):kX:=λ_ a b=>match a[i]? with
 | some (.v d)=>b (.v d) a
 | some (.o d)=>b (.v d) (a.set i (.v d))
 | _=>False
def cd (d:D):kX:=λ_ b a=>a (.v d) b
section
variable {X:Cx}
theorem dT (i:Nat) (h:PE X (.Name x pos) (nZ i):=by exact pv _):PD X (.Name x pos) (vd i):=h.mono λL H Q z=>z.elim λB D T M w hd c k=>by
 unfold vd at c;cases e:D[i]? with
 | none=>rw[e] at c;exact c.elim
 | some s =>
  rw[e] at c;obtain⟨f,y,m,A,_,G,q⟩:=rQ w e;have b:DS X.K B (f++(s,y)::(m++T)) H:=by rw[G] at hd;simpa using hd
  cases s with
  | n=>exact c.elim
  | v d =>
   obtain⟨v,rfl,_⟩:=b.at;refine⟨v,A,k _ _ v H w ?_ c⟩;refine hd.push ?_;have:=b.valAt;rw[G];have t:gD ((f++(Sl.v d,some v)::m)++T)=gD (f++(m++T)):=by
    rw[aX,bV,Cd]
   rw[t];exact this
  | o d =>
   obtain⟨a,rfl,_⟩:=b.at;have E:=b.freeze;have F:(D.set i (.v d)).zip L=f++(.v d,some (.ref a))::m:=by
    have:=q (.v d) (some (.ref a));rw[vH A] at this;exact this
   have u:DS X.K B ((D.set i (.v d)).zip L++T) H:=by rw[F];simpa using E
   refine⟨.ref a,A,k _ _ _ H (by rw[bL];exact w) ?_ c⟩;refine u.push ?_;have:=E.valAt;rw[F];have t:gD ((f++(Sl.v d,some (V.ref a))::m)++T)=gD (f++(m++T)):=by
    rw[aX,bV,Cd]
   rw[t];exact this
theorem xE (h:PE X e (tC v)) (r:∀ K A H,Rep K A H d v):PD X e (cd d):=h.mono λm H Q a=>a.elim λB f T i b hd c k=>k _ f v H b (hd.push (r _ _ _)) c
theorem eH:PD X (.Constant (.int i) j pos) (cd (.int i)):=xE Po λ_ _ _=>.int i
theorem mW:PD X (.Constant (.str x) j pos) (cd (.str x)):=xE Qf λ_ _ _=>.str x
theorem A9:PD X (.Constant (.bool x) j pos) (cd (.b x)):=xE Wa λ_ _ _=>.b x
theorem Vj:PD X (.Constant .none j pos) (cd .e):=xE Zd λ_ _ _=>.e
abbrev O2:=D->D->(Sl->Prop)->Prop
def mM (K:kC) (r:R2) (f:O2):Prop:=∀ (B:Bs) (L:lN) (H:Hp) (d e:D) (x y:V) (b:Sl->Prop) (Q:VK),DS K B L H->lB K (Al B (gD L)) H d x->lB K (Al B (gD L)) H e y->f d e b ->
 (∀ s v a,b s->DS K B ((s,some v)::L) a->Q v a)->r x y H Q
def d2 (f:O2) (g j:kX):kX:=λc m k=>g c m λh a=>j c a λi b=>match sd h,sd i with
 | some d,some e=>f d e λr=>k r b
 | _,_=>False
theorem zZ (o:mM X.K r f) (h:dE X.K (d2 f p C) l H Q):dE X.K p l H λx j=>dE X.K C l j λy g=>r x y g Q:=by
 obtain⟨B,N,T,O,w,hd,A,k⟩:=h;refine⟨B,N,T,_,w,hd,A,λq m x j D d1 u=>⟨B,m,(q,some x)::T,_,D,d1,u,λM n y g E d2 a=>?_⟩⟩;cases b:sd q with
 | none=>rw[b] at a;exact a.elim
 | some d =>
  cases c:sd M with
  | none=>rw[b,c] at a;exact a.elim
  | some e =>
   rw[b,c] at a;obtain⟨F,G,L⟩:=d2.two b c;exact o B _ g d e x y _ Q F G.peek L.peek a λs v t z i=>k s n v t E i.mid z
def sH (f:O2) (i:Nat) (g:kX):kX:=λc b k=>(at? b i).isSome=true/\g c b λh a=>match at? a i,sd h with
 | some d,some e=>f d e λr=>k r a
 | _,_=>False
def G0 (f:O2) (g:kX) (i:Nat):kX:=λb k h=>g b k λc a=>match sd c,at? a i with
 | some d,some e=>f d e λr=>h r a
 | _,_=>False
theorem Bh (o:mM X.K r f) (h:dE X.K (sH f i p) j H Q):nZ i j H λx l=>dE X.K p j l λy g=>r x y g Q:=by
 obtain⟨B,O,T,S,t,hd,⟨E,G⟩,k⟩:=h;obtain⟨P,D⟩:=cV.mp E;obtain⟨x,u,_⟩:=hd.peek t D;refine⟨x,u,B,O,T,_,t,hd,G,λN c y g w d2 a=>?_⟩;cases m:at? c i with
 | none=>rw[m] at a;exact a.elim
 | some d =>
  cases n:sd N with
  | none=>rw[m,n] at a;exact a.elim
  | some e =>
   rw[m,n] at a;obtain⟨z,M⟩:=d2.one n;obtain⟨R,b,L⟩:=z.peek w m;rw[u] at b;cases b;exact o B _ g d e x y _ Q z L M.peek a λs v A F q=>k s c v A w q.mid F
theorem Ud (o:mM X.K r f) (h:dE X.K (G0 f p i) j H Q):dE X.K p j H λx g=>nZ i j g λy l=>r x y l Q:=by
 obtain⟨B,G,T,L,w,hd,A,k⟩:=h;refine⟨B,G,T,_,w,hd,A,λF b x g q d1 a=>?_⟩;cases c:sd F with
 | none=>rw[c] at a;exact a.elim
 | some d =>
  cases m:at? b i with
  | none=>rw[c,m] at a;exact a.elim
  | some e =>
   rw[c,m] at a;obtain⟨t,E⟩:=d1.one c;obtain⟨y,D,py⟩:=t.peek q m;exact⟨y,D,o B _ g d e x y _ Q t E.peek py a λs v u z n=>k s b v u q n.mid z⟩
theorem kN (o:kP X (binaryOp op) r) (l:mM X.K r f) (i:Nat) (j:PD X b p) (g:PE X a (nZ i):=by exact pv _):PD X (.BinOp a op b pos) (sH f i p):=(Hm o g j).mono λ_ _ _ h=>Bh l h
theorem Vb (p:kP X (compareOp op) r) (l:mM X.K r f) (g:PE X a (nZ i)) (j:PD X b C) (o:behindInMarks op b=false:=by first | exact xV _ | (with_unfolding_all rfl)):PD X (.Compare a [op] [b] pos) (sH f i C) :=
 (Gh p g j o).mono λ_ _ _ h=>Bh l h
theorem kE (o:kP X (binaryOp op) r) (l:mM X.K r f) (g:PD X a p) (j:PD X b C):PD X (.BinOp a op b pos) (d2 f p C):=(Hm o g j).mono λ_ _ _ h=>zZ l h
theorem Qk (p:kP X (compareOp op) r) (l:mM X.K r f) (g:PD X a C) (j:PD X b I) (o:behindInMarks op b=false:=by first | exact xV _ | (with_unfolding_all rfl)):PD X (.Compare a [op] [b] pos) (d2 f C I) :=
 (Gh p g j o).mono λ_ _ _ h=>zZ l h
def xF (t:kX):mY:=λc e d=>t c e λr a=>match r with
 | .v (.b b)=>d b a
 | _=>False
theorem E1 (h:pP X.K (xF t) j H Q):dE X.K t j H λx g=>∃ k,x = .b k/\Q k g:=by
 obtain⟨B,m,T,q,e,hd,f,k⟩:=h;refine⟨B,m,T,_,e,hd,f,λr c v g i d1 a=>?_⟩;cases r with
 | n=>exact a.elim
 | o d=>exact a.elim
 | v d =>
  cases d with
  | b b=>exact⟨b,d1.valAt.bl_inv,k b c g i d1.drop a⟩
  | _=>exact a.elim
theorem qX (p:kP X (compareOp op) r) (l:mM X.K r f) (g:PE X a (nZ i)) (j:PD X b C) (o:behindInMarks op b=false:=by first | exact xV _ | (with_unfolding_all rfl)):pN X (.Compare a [op] [b] pos) (xF (sH f i C)) :=
 (Ca p g j o).mono λc H Q h=>Bh l (E1 h)
theorem vT (p:kP X (compareOp op) r) (l:mM X.K r f) (g:PD X a C) (j:PE X b (nZ i)) (o:behindInMarks op b=false:=by first | exact xV _ | (with_unfolding_all rfl)):pN X (.Compare a [op] [b] pos) (xF (G0 f C i)) :=
 (Ca p g j o).mono λc H Q h=>Ud l (E1 h)
theorem uR (p:kP X (compareOp op) r) (l:mM X.K r f) (g:PD X a C) (j:PD X b I) (o:behindInMarks op b=false:=by first | exact xV _ | (with_unfolding_all rfl)):pN X (.Compare a [op] [b] pos) (xF (d2 f C I)) :=
 (Ca p g j o).mono λc H Q h=>by
  have:=E1 h;exact zZ l this
end
section
variable [DecidableEq κ]
noncomputable def kG (g:Aa (κ×D)) (k:κ):Ab D:=(g.find? λa=>decide (a.1=k)).map (·.2)
noncomputable def lF (g:Aa (κ×D)) (k:κ) (d:D):Aa (κ×D):=if g.any (λa=>decide (a.1=k)) then g.map (λa=>if a.1=k then (a.1,d) else a) else g++[(k,d)]
theorem Cb:kG ([]:Aa (κ×D)) k=none:=rfl
theorem pV {k j:κ}{d:D}{r:Aa (κ×D)}:kG ((j,d)::r) k=if j=k then some d else kG r k:=by
 unfold kG;rw[List.find?_cons];by_cases h:j=k<;>simp[h]
theorem zE (k:κ):∀ g:Aa (κ×D),(g.any λl=>decide (l.1=k))=(kG g k).isSome
 | []=>rfl
 | (j,d)::r=>by
  rw[pV,eR,zE k r];by_cases h:j=k<;>simp[h]
theorem Ji (g:Aa (κ×D)) (k j:κ) (d:D):kG (lF g k d) j=if k=j then some d else kG g j:=by
 unfold lF;rw[zE];have a:∀ r:Aa (κ×D),kG (r.map λf=>if f.1=k then (f.1,d) else f) j=if k=j then (kG r j).map (λ_=>d) else kG r j:=by
  intro r;induction r with
  | nil=>simp[Cb]
  | cons p r b =>
   obtain⟨i,e⟩:=p;rw[aI];by_cases h:i=k
   .subst h;simp only[eF,pV,b];by_cases z:i=j<;>simp[z]
   .simp only[h,dL,pV,b];by_cases z:i=j
    .subst z;simp[dH h]
    .simp[z]
 have c:∀ r:Aa (κ×D),kG r k=none->kG (r++[(k,d)]) j=if k=j then some d else kG r j:=by
  intro r;induction r with
  | nil=>intro _;rw[eZ,pV,Cb]
  | cons p r b =>
   obtain⟨i,e⟩:=p;rw[pV];by_cases h:i=k
   .simp[h]
   .rw[aE h];intro m;rw[bV,pV,b m,pV];by_cases z:i=j
    .subst z;simp[dH h]
    .simp[z]
 cases e:kG g k with
 | none=>simp only[jN,bT,dL];exact c g e
 | some w =>
  simp only[jP,eF,a];by_cases z:k=j
  .subst z;simp[e]
  .simp[z]
theorem Y1 (g:Aa (κ×D)) (k:κ) (d:D):(lF g k d).length<=g.length+1:=by
 unfold lF;split<;>simp
end
section
variable [DecidableEq κ] {K:kC}
theorem yN:∀ {l:Aa (κ×D)}{g:Aa (κ×V)},l.map (·.1)=g.map (·.1)->Reps K A H (l.map (·.2)) (g.map (·.2))->∀ k,(∀ d,kG l k=some d->∃ v,nQ g k=some v/\Rep K A H d v)/\(kG l k=none->nQ g k=none)
 | [],[],_,_,k=>⟨λd h=>by simp[Cb] at h,λ_=>rfl⟩
 | [],_::_,e,_,_=>by simp at e
 | _::_,[],e,_,_=>by simp at e
 | (i,d)::l,(j,v)::g,e,r,k=>by
  simp only[aI,eC] at e;obtain⟨a,b⟩:=e;subst a;cases r with
  | cons h r =>
   have c:=yN b r k;rw[pV];by_cases z:i=k
   .rw[aH z,yL z];exact⟨λf q=>by cases q;exact⟨v,rfl,h⟩,λq=>by cases q⟩
   .rw[aE z,wV z];exact c
theorem wF {ds:Aa (κ×D)}{kvs:Aa (κ×V)}(e:ds.map (·.1)=kvs.map (·.1)) (r:Reps K A H (ds.map (·.2)) (kvs.map (·.2))){k:κ}{d:D}{v:V}(h:Rep K A H d v) :
  (lF ds k d).map (·.1)=(lI kvs k v).map (·.1)/\Reps K A H ((lF ds k d).map (·.2)) ((lI kvs k v).map (·.2)):=by
 have m:∀ (ds:Aa (κ×D)) (kvs:Aa (κ×V)),ds.map (·.1)=kvs.map (·.1)->(ds.any λa=>decide (a.1=k))=kvs.any λa=>decide (a.1=k):=by
  intro ds;induction ds with
  | nil=>intro kvs e;cases kvs with
   | nil=>rfl
   | cons _ _=>simp at e
  | cons p ds b=>intro kvs e;cases kvs with
   | nil=>simp at e
   | cons q kvs =>
    simp only[aI,eC] at e;rw[eR,eR,b kvs e.2,e.1]
 have n:∀ (ds:Aa (κ×D)) (kvs:Aa (κ×V)),ds.map (·.1)=kvs.map (·.1)->Reps K A H (ds.map (·.2)) (kvs.map (·.2)) ->
   (ds.map λa=>if a.1=k then (a.1,d) else a).map (·.1)=(kvs.map λa=>if a.1=k then (a.1,v) else a).map (·.1) /\
   Reps K A H ((ds.map λa=>if a.1=k then (a.1,d) else a).map (·.2)) ((kvs.map λa=>if a.1=k then (a.1,v) else a).map (·.2)):=by
  intro ds;induction ds with
  | nil=>intro kvs e r;cases kvs with
   | nil=>exact⟨rfl,.nil⟩
   | cons _ _=>simp at e
  | cons p ds b=>intro kvs e r;cases kvs with
   | nil=>simp at e
   | cons q kvs =>
    simp only[aI,eC] at e;cases r with
    | cons g r =>
     obtain⟨c,f⟩:=b kvs e.2 r;obtain⟨i,s⟩:=p;obtain⟨j,v0⟩:=q;obtain⟨rfl,t⟩:=e;by_cases z:i=k
     .simp only[aI,z,eF];exact⟨by rw[c],.cons h f⟩
     .simp only[aI,z,dL];exact⟨by rw[c],.cons g f⟩
 unfold lF lI;rw[m ds kvs e];by_cases z:(kvs.any λa=>decide (a.1=k))=true
 .rw[aH z,aH z];exact n ds kvs e r
 .rw[aE z,aE z];simp only[aT,aI,fJ];exact⟨by rw[e],r.append (.cons h .nil)⟩
end
section
variable {X:Cx}{K:kC}
def Gy (K:kC):R2:=λx y H Q=>∃ a b c,x = .ref a/\y = .ref b/\kO K H a []/\kO K H b c/\Q (.ref b) H
theorem Pb:kP X (binaryOp .Add) (Gy X.K):=by
 intro w s Z H x y v u Q I N O h;obtain⟨a,b,Y,rfl,rfl,B,D,q⟩:=h;cases N;cases O;obtain⟨E,M,G,_⟩:=I.tuple B;obtain⟨t,W,L,_⟩:=I.tuple D;cases M;obtain⟨⟨R,A,V,P⟩,m,k,n,hd⟩:=id G;obtain⟨⟨S,f,z,i⟩,e,c,F,d⟩:=id L;simp only at k hd c d;subst k hd c d;exact concat_meets ⟨_,m,rfl⟩ ⟨_,e,rfl⟩ noFill_tuple_add seq_tuple_add iN iF (hG _ _)
  (tuple_addW0 a b _ _ n F A f P i (by simp)) ⟨m,e,⟨.ref b,H,I,rfl,q⟩⟩
def Js (K:kC):R2:=λx y H Q=>(pO λi j=>.int (i+j)) x y H Q\/(∃ i j,x = .str i/\y = .str j/\i.length+j.length<=sizeLine/\Q (.str (i++j)) H)\/E9 x y H Q\/Lz K x y H Q\/Gy K x y H Q
theorem lG:kP X (binaryOp .Add) (Js X.K):=U0.or (Oc.or (Qe.or (Zg.or Pb)))
theorem uD (h:n<=100000):n<=sizeLine:=bS h (by decide)
def I0:O2
 | .int i,.int j,a=>a (.v (.int (i+j)))
 | .str i,.str j,a=>i.length+j.length<=100000/\a (.v (.str (i++j)))
 | .l b,.l c,a=>b.length+c.length<=100000/\a (.o (.l (b++c)))
 | .t b,.t c,a=>b.length+c.length<=100000/\a (.v (.t (b++c)))
 | _,_,_=>False
theorem lH:mM K (Js K) I0:=by
 intro B L H d e x y A Q hd n s c k;cases d<;>first | exact False.elim c | skip<;>cases e<;>first | exact False.elim c | skip
 .cases n;cases s;exact .inl ⟨_,_,rfl,rfl,k _ _ H c (hd.pushF (.int _))⟩
 .cases n;cases s;exact .inr (.inl ⟨_,_,rfl,rfl,uD c.1,k _ _ H c.2 (hd.pushF (.str _))⟩)
 .obtain⟨a,m,rfl,t,f⟩:=n.tup_inv;obtain⟨b,i,rfl,u,h⟩:=s.tup_inv;have v:m.length+i.length<=100000:=by rw[<- f.length,<- h.length];exact c.1
  by_cases z:m=[]
  .subst z;have:=f.nil_iff.mp rfl;subst this;exact .inr (.inr (.inr (.inr ⟨a,b,i,rfl,rfl,kO.of t,kO.of u,k _ _ H c.2 (hd.pushF s)⟩)))
  .refine .inr (.inr (.inr (.inl ⟨a,b,m,i,rfl,rfl,kO.of t,kO.of u,z,uD v,λq=>?_,λ_ p w=>k _ _ _ c.2 (hd.tupF w (f.append h))⟩)));subst q;have:=h.nil_iff.mp rfl;subst this;exact k _ _ H c.2 (by rw[gJ];exact hd.pushF n)
 .obtain⟨a,m,rfl,t,f⟩:=n.lst_inv;obtain⟨b,i,rfl,u,h⟩:=s.lst_inv;have v:m.length+i.length<=100000:=by rw[<- f.length,<- h.length];exact c.1
  exact .inr (.inr (.inl ⟨a,b,m,i,rfl,rfl,t,u,uD v,λp w=>k _ _ _ c.2 (hd.lstF w (f.append h))⟩))
def fI (C:Int->Int->Prop) (g:Int->Int->D):O2
 | .int i,.int j,a=>C i j/\a (.v (g i j))
 | _,_,_=>False
theorem zT (p:∀ i j,C i j->l i j) (r:∀ A H i j,Rep K A H (g i j) (o i j)):mM K (rI l o) (fI C g):=by
 intro B L H d e x y f Q hd b c a k;cases d<;>first | exact False.elim a | skip<;>cases e<;>first | exact False.elim a | skip
 cases b;cases c;exact⟨_,_,rfl,rfl,p _ _ a.1,k _ _ H a.2 (hd.pushF (r _ _ _ _))⟩
def yJ (g:Int->Int->D):O2
 | .int i,.int j,a=>a (.v (g i j))
 | _,_,_=>False
theorem Bd (o:∀ A H i j,Rep K A H (g i j) (l i j)):mM K (pO l) (yJ g):=by
 intro B L H d e x y f Q hd b c a k;cases d<;>first | exact False.elim a | skip<;>cases e<;>first | exact False.elim a | skip
 cases b;cases c;exact⟨_,_,rfl,rfl,k _ _ H a (hd.pushF (o _ _ _ _))⟩
abbrev Qv:O2:=yJ λi j=>.int (i-j)
theorem rT:mM K (pO λi j=>.int (i-j)) Qv:=Bd λ_ _ _ _=>.int _
def Gm:R2:=λx y H Q=>(rI Ay λi j=>.int (i*j)) x y H Q\/Hf x y H Q
theorem mO:kP X (binaryOp .Mult) Gm:=Yr.or Mj
def E6:O2
 | .int i,.int j,a=>((-(2 ^ 64)<i/\i<2 ^ 64)\/(-(2 ^ 64)<j/\j<2 ^ 64))/\a (.v (.int (i*j)))
 | .l b,.int k,a=>0<=k/\k<=1000/\b.length<=100/\a (.o (.l (List.replicate k.toNat b).flatten))
 | _,_,_=>False
theorem Jx (r:Reps K A H g j):∀ k:Nat,Reps K A H (List.replicate k g).flatten (List.replicate k j).flatten
 | 0=>.nil
 | k+1=>by rw[cL,cL,fO,fO];exact r.append (Jx r k)
theorem mP:mM K Gm E6:=by
 intro B L H d e x y w Q hd h i b k;cases d<;>first | exact False.elim b | skip<;>cases e<;>first | exact False.elim b | skip
 .cases h;cases i;exact .inl ⟨_,_,rfl,rfl,b.1,k _ _ H b.2 (hd.pushF (.int _))⟩
 .cases i
  rename_i n
  obtain⟨a,m,rfl,q,f⟩:=h.lst_inv;obtain⟨u,v,s,b⟩:=b;have c:m.length<=100:=by rw[<- f.length];exact s
  refine .inr ⟨a,n,m,rfl,rfl,q,by omega,by omega,bS (Nat.mul_le_mul c (show n.toNat<=1000 by omega)) (by decide),λp t=>?_⟩;exact k _ _ _ b (hd.lstF t (Jx f _))
theorem My {j:Int}(g:0<j) (h:j<2 ^ 64):j.natAbs.log2<9000:=by
 have:j.natAbs<2 ^ 64:=by omega
 exact aY ((Nat.log2_lt (by omega)).mpr this) (by decide)
theorem mI:kP X (binaryOp .FloorDiv) (rI (λ_ j=>0<j/\j<2 ^ 64) λi j=>.int (i/j)):=wU λi j _ _ _ _ _ a q=>by
 refine floordiv_int (by omega) ?_ (.inl (PyProof.noPylong_of_log2 (My a.1 a.2)));rw[Int.fdiv_eq_ediv_of_nonneg _ (by omega)];exact q
abbrev Mh:O2:=fI (λ_ j=>0<j/\j<2 ^ 64) λi j=>.int (i/j)
theorem mL:mM K (rI (λ_ j=>0<j/\j<2 ^ 64) λi j=>.int (i/j)) Mh:=zT (λ_ _ h=>h) λ_ _ _ _=>.int _
abbrev Tq:O2:=fI (λ_ j=>0<j) λi j=>.int (i%j)
theorem lW:mM K (rI (λ_ j=>0<j) λi j=>.int (i%j)) Tq:=zT (λ_ _ h=>h) λ_ _ _ _=>.int _
abbrev V1:O2:=fI (λi j=>0<=j/\j<=1000000/\i.natAbs<2 ^ 64) λi j=>.int (i*2 ^ j.toNat)
theorem xY:mM K (rI Bc λi j=>.int (i*2 ^ j.toNat)) V1:=zT (λ_ _ h=>h) λ_ _ _ _=>.int _
abbrev X3:O2:=fI (λi j=>0<=j/\j<=1000000/\i.natAbs<2 ^ 64) λi j=>.int (i ^ j.toNat)
theorem U8:mM K (rI Bc λi j=>.int (i ^ j.toNat)) X3:=zT (λ_ _ h=>h) λ_ _ _ _=>.int _
abbrev Rp:O2:=yJ λi j=>.b (decide (i<j))
theorem L4:mM K (pO λi j=>.b (decide (i<j))) Rp:=Bd λ_ _ _ _=>.b _
abbrev Yd:O2:=yJ λi j=>.b (decide (j<i))
theorem Jf:mM K (pO λi j=>.b (decide (j<i))) Yd:=Bd λ_ _ _ _=>.b _
abbrev X7:O2:=yJ λi j=>.b (decide (j<=i))
theorem L8:mM K (pO λi j=>.b (decide (j<=i))) X7:=Bd λ_ _ _ _=>.b _
def Q1 (neg:Bool):O2
 | .e,.e,a=>a (.v (.b (!neg)))
 | .r v,.e,a=>v ≠ .e/\a (.v (.b neg))
 | _,.e,a=>a (.v (.b neg))
 | _,_,_=>False
theorem R5 (r:lB K A H d x):(d = .e/\x = .e)\/(∃ v,d = .r v/\x=v)\/(x ≠ .e/\d ≠ .e/\∀ v,d ≠ .r v):=by
 cases d with
 | e=>exact .inl ⟨rfl,r.non_inv⟩
 | r v=>exact .inr (.inl ⟨_,rfl,r.raw_inv⟩)
 | l _=>obtain⟨a,f,rfl,_⟩:=r.lst_inv;exact .inr (.inr ⟨by simp,by simp,by simp⟩)
 | k _=>obtain⟨a,f,rfl,_⟩:=r.dK_inv;exact .inr (.inr ⟨by simp,by simp,by simp⟩)
 | T _=>obtain⟨a,f,rfl,_⟩:=r.dT_inv;exact .inr (.inr ⟨by simp,by simp,by simp⟩)
 | dM _=>obtain⟨a,f,rfl,_⟩:=r.dM_inv;exact .inr (.inr ⟨by simp,by simp,by simp⟩)
 | t _=>obtain⟨a,f,rfl,_⟩:=r.tup_inv;exact .inr (.inr ⟨by simp,by simp,by simp⟩)
 | con _=>obtain⟨a,f,rfl,_⟩:=r.con_inv;exact .inr (.inr ⟨by simp,by simp,by simp⟩)
 | c _=>obtain⟨a,f,rfl,_⟩:=r.scr_inv;exact .inr (.inr ⟨by simp,by simp,by simp⟩)
 | b _=>have:=r.bl_inv;subst this;exact .inr (.inr ⟨by simp,by simp,by simp⟩)
 | int _=>have:=r.int_inv;subst this;exact .inr (.inr ⟨by simp,by simp,by simp⟩)
 | str _=>have:=r.str_inv;subst this;exact .inr (.inr ⟨by simp,by simp,by simp⟩)
theorem Uj (neg:Bool):mM K (λx y H Q=>y = .e/\Q (.b (if neg then !decide (x = .e) else decide (x = .e))) H) (Q1 neg):=by
 intro B L H d e x y w Q hd t u a k;have n:e = .e:=by
  cases e<;>first | rfl | (exfalso;cases d<;>exact a)
 subst n;have s:=u.non_inv;subst s;refine⟨rfl,?_⟩;rcases R5 t with⟨rfl,rfl⟩ | ⟨v,rfl,rfl⟩ | ⟨h,i,m⟩
 .have c:(if neg then !decide ((V.e) = .e) else decide (V.e = .e)) = !neg:=by cases neg<;>rfl
  rw[c];exact k _ _ H a (hd.pushF (.b _))
 .obtain⟨q,a⟩:=a;have c:(if neg then !decide (x=V.e) else decide (x = .e))=neg:=by cases neg<;>simp[q]
  rw[c];exact k _ _ H a (hd.pushF (.b _))
 .have c:(if neg then !decide (x=V.e) else decide (x = .e))=neg:=by cases neg<;>simp[h]
  rw[c];have f:w (.v (.b neg)):=by
   cases d with
   | e=>exact absurd rfl i
   | r v=>exact absurd rfl (m v)
   | _=>exact a
  exact k _ _ H f (hd.pushF (.b _))
theorem O9:kP X (compareOp .Is) (λx y H Q=>y = .e/\Q (.b (if false then !decide (x = .e) else decide (x = .e))) H):=Ry
end
noncomputable def nT:D->Ab gV
 | .int i=>some (.inl i)
 | .str x=>some (.inr x)
 | _=>none
def qK:Aa D->Ab (Aa gV)
 | []=>some []
 | d::a=>match nT d,qK a with
  | some k,some b=>some (k::b)
  | _,_=>none
theorem Gg {l:Type}{f:l->D}{g:l->gV}(h:∀ x,nT (f x)=some (g x)):∀ j:Aa l,qK (j.map f)=some (j.map g)
 | []=>rfl
 | x::j=>by
  show (match nT (f x),qK (j.map f) with | some k,some a=>some (k::a) | _,_=>none)=_;rw[h x,Gg h j];rfl
noncomputable def nb (neg b:Bool):Bool:=if neg then !b else b
section
variable {X:Cx}{K:kC}
theorem wD (h:nT d=some k) (r:lB K A H d v):v=kV k:=by
 cases d<;>cases h
 .exact r.int_inv
 .exact r.str_inv
theorem Bg (h:qK g=some j) (l:Reps K A H g o):o=j.map kV:=by
 induction g generalizing j o with
 | nil=>cases l;cases h;rfl
 | cons d g c =>
  cases l with
  | cons r l =>
  have h:=(show (match nT d,qK g with | some k,some j=>some (k::j) | _,_=>none)=some j from h);cases a:nT d with
  | none=>rw[a] at h;cases h
  | some k =>
   cases b:qK g with
   | none=>rw[a,b] at h;cases h
   | some e =>
    rw[a,b] at h;cases h;rw[wD a r.peek,c b l];rfl
def qW:D->Ab MK
 | .t a=>(qK a).map Sum.inr
 | d=>(nT d).map Sum.inl
theorem Gv (h:qW e=some k) (r:lB K A H e y):qN H k y:=by
 have lf:(nT e).map Sum.inl=some k->qN H k y:=λh=>by
  obtain⟨j,a,rfl⟩:=bC.mp h;exact wD a r
 cases e with
 | t i =>
  obtain⟨j,a,rfl⟩:=bC.mp h;obtain⟨b,f,rfl,c,d⟩:=r.tup_inv;exact⟨b,rfl,by rw[Bg a d] at c;exact c⟩
 | _=>exact lf h
def tX:D->D->Ab (Ab D)
 | .k a,d=>(nT d).map (kG a)
 | .T a,.t b=>(qK b).map (kG a)
 | .dM a,e=>(qW e).map (kG a)
 | _,_=>none
theorem A7 (h:tX d e=some o) (g:lB K A H d x) (j:lB K A H e y):∃ a w,x = .ref a/\nM H a y w/\(∀ c,o=some c->∃ v,w=some v/\Rep K A H c v)/\(o=none->w=none):=by
 cases d with
 | k f =>
  obtain⟨a,D,rfl,n,i,B⟩:=g.dK_inv;obtain⟨k,s,rfl⟩:=bC.mp h;rw[wD s j];obtain⟨u,z⟩:=yN i B k;exact⟨a,_,rfl,nM.k n,λc q=>u c q,z⟩
 | T f =>
  obtain⟨a,D,rfl,n,i,B⟩:=g.dT_inv;cases e with
  | t L =>
   obtain⟨b,G,rfl,E,F⟩:=j.tup_inv;obtain⟨k,s,rfl⟩:=bC.mp h;rw[Bg s F] at E;obtain⟨u,z⟩:=yN i B k;exact⟨a,_,rfl,.inr (.inl ⟨D,k,b,n,rfl,E,rfl⟩),λc q=>u c q,z⟩
  | _=>cases h
 | dM f =>
  obtain⟨a,D,rfl,n,i,B⟩:=g.dM_inv;obtain⟨k,s,rfl⟩:=bC.mp (show (qW e).map (kG f)=some o from h);obtain⟨u,z⟩:=yN i B k;exact⟨a,_,rfl,nM.m n (Gv s j),λc q=>u c q,z⟩
 | _=>cases h
def K9:R2:=λx y H Q=>∃ a v,x = .ref a/\nM H a y (some v)/\Q v H
theorem Sv (j:X.A.units+1<cLine):qR X K9:=by
 intro value slice b s m H x y v u Q I i k h f;obtain⟨a,w,rfl,g,q⟩:=h;cases i;unfold subscriptTail;refine aA ?_;rw[getitemInPython_of_ne (L5 I g).not_modules];refine aA (wpAny_specialOf (L5 I g) PySem.F.slot_dict_getitem.lookup ?_);have fin:wpAny (model X.prog X.w) X.A (subscripted slice false (.ref a) u) (λr c=>wpAny (model X.prog X.w) X.A (letTemporaryGo value (.ref a) r >>= λ_=>pure r) (EP X b m Q) X.xe c) X.xe s:=by
  rw[f];exact wpAny_operating (Xp j I g k λt n e d=>aA (wpAny_letTemporaryGo (aB ⟨w,H,e,d,q⟩)))
 first
  | exact aB (aA fin)
  | exact aA (aB (aA fin))
  | exact aA fin
def B8 (K:kC):R2:=λx y H Q=>Ii K x y H Q\/K9 x y H Q
theorem Lp (g:X.A.units+1<cLine):qR X (B8 X.K):=Og.or (Sv g)
def vZ:O2:=λd e b=>match d,e with
 | .l a,.int i=>∃ c,mC a i=some c/\b (.v c)
 | .t a,.int i=>∃ c,mC a i=some c/\b (.v c)
 | .con a,.int i=>∃ c,mC a i=some c/\b (.v c)
 | .c a,.int i=>∃ c,mC a i=some c/\b (.v c)
 | .str z,.int i=>z.length<=100000/\∃ c,mC z.cps.toList i=some c/\b (.v (.str ⟨#[c]⟩))
 | d,e=>∃ c,tX d e=some (some c)/\b (.v c)
theorem Ai (r:Reps K A H g l) (h:mC g i=some c):∃ v,mC l i=some v/\Rep K A H c v:=by
 unfold mC at h |-;rw[<- r.length];cases e:sR g.length i with
 | none=>rw[e] at h;cases h
 | some j =>
  rw[e] at h;obtain⟨v,a,b⟩:=r.get (i:=j) h;exact⟨v,a,b⟩
theorem Kv:mM K (B8 K) vZ:=by
 intro B L H d e x y D Q hd t u b k;have f:(∃ c,tX d e=some (some c)/\D (.v c))->B8 K x y H Q:=λz=>by
  obtain⟨c,h,b⟩:=z;obtain⟨a,w,rfl,g,i,_⟩:=A7 h t u;obtain⟨v,rfl,m⟩:=i c rfl;exact .inr ⟨a,v,rfl,g,k _ _ H b (hd.pushF m)⟩
 cases d<;>first | exact f b | skip
 .cases e<;>first | exact f b | skip
  cases u;cases t;obtain⟨A,c,h,b⟩:=b;exact .inl (.inr (.inr ⟨_,_,c,rfl,rfl,uD A,h,k _ _ H b (hd.pushF (.str _))⟩))
 .obtain⟨a,s,rfl,i,q⟩:=t.tup_inv;cases e<;>first | exact f b | skip
  cases u;obtain⟨c,h,b⟩:=b;obtain⟨v,n,m⟩:=Ai q h;exact .inl (.inr (.inl ⟨a,s,_,v,rfl,rfl,kO.of i,n,k _ _ H b (hd.pushF m)⟩))
 .obtain⟨a,s,rfl,i,q⟩:=t.lst_inv;cases e<;>first | exact f b | skip
  cases u;obtain⟨c,h,b⟩:=b;obtain⟨v,n,m⟩:=Ai q h;exact .inl (.inl ⟨a,s,_,v,rfl,rfl,kK.of i,n,k _ _ H b (hd.pushF m)⟩)
 .obtain⟨a,s,rfl,i,q⟩:=t.scr_inv;cases e<;>first | exact f b | skip
  cases u;obtain⟨c,h,b⟩:=b;obtain⟨v,n,m⟩:=Ai q h;exact .inl (.inl ⟨a,s,_,v,rfl,rfl,i.sqL,n,k _ _ H b (hd.pushF m)⟩)
 .obtain⟨a,s,rfl,i,q⟩:=t.con_inv;cases e<;>first | exact f b | skip
  cases u;obtain⟨c,h,b⟩:=b;obtain⟨v,n,m⟩:=Ai q h;exact .inl (.inr (.inl ⟨a,s,_,v,rfl,rfl,i.sqT,n,k _ _ H b (hd.pushF m)⟩))
theorem qD (o:X.A.units+1<cLine) (g:PD X a p) (j:PD X b r) (l:B1 b:=by exact λ_ _=>rfl):PD X (.Subscript a b pos) (d2 vZ p r) :=
 (Fb (Lp o) g j l).mono λ_ _ _ h=>zZ Kv h
def Cz (neg:Bool):R2:=λy x H Q=>∃ a o,x = .ref a/\nM H a y o/\Q (.b (nb neg o.isSome)) H
theorem Nu (j:X.A.units+1<cLine):kP X (compareOp .In) (Cz false):=by
 intro c s k H x y v u Q I e f h;obtain⟨a,o,rfl,g,q⟩:=h;cases f;exact Rh j I g e λi d=>⟨.b o.isSome,H,d,rfl,q⟩
theorem Yk (j:X.A.units+1<cLine):kP X (compareOp .NotIn) (Cz true):=by
 intro c s k H x y v u Q I e f h;obtain⟨a,o,rfl,g,q⟩:=h;cases f;exact J7 j I g e λi d=>⟨.b (!o.isSome),H,d,rfl,q⟩
def Cj (neg:Bool):R2:=λx y H Q=>∃ i j,x = .str i/\y = .str j/\Q (.b (nb neg (!(Builtin.Str.occurrences j i 0 j.length 1).isEmpty))) H
def yO (K:kC) (neg:Bool):R2:=λx y H Q=>B5 K neg x y H Q\/Cj neg x y H Q\/Cz neg x y H Q
theorem D7 (g:X.A.units+1<cLine):kP X (compareOp .In) (yO X.K false):=Vf.or ((show kP X (compareOp .In) (Cj false) from T2).or (Nu g))
theorem At (g:X.A.units+1<cLine):kP X (compareOp .NotIn) (yO X.K true):=T3.or ((show kP X (compareOp .NotIn) (Cj true) from Vg).or (Yk g))
noncomputable def sJ:D->Ab V
 | .e=>some .e
 | .b b=>some (.b b)
 | .int i=>some (.int i)
 | .str x=>some (.str x)
 | _=>none
def sW:Aa D->Ab (Aa V)
 | []=>some []
 | d::a=>match sJ d,sW a with
  | some v,some b=>some (v::b)
  | _,_=>none
theorem J2 {l:Type}{f:l->D}{g:l->V}(h:∀ x,sJ (f x)=some (g x)):∀ j:Aa l,sW (j.map f)=some (j.map g)
 | []=>rfl
 | x::j=>by
  show (match sJ (f x),sW (j.map f) with | some v,some a=>some (v::a) | _,_=>none)=_;rw[h x,J2 h j];rfl
theorem Kn (h:sJ d=some u) (r:lB K A H d v):v=u/\rJ u=true:=by
 cases d<;>cases h<;>cases r<;>exact⟨rfl,rfl⟩
theorem Zc (h:sW g=some l) (j:Reps K A H g o):o=l/\l.all rJ=true:=by
 induction g generalizing l o with
 | nil=>cases j;cases h;exact⟨rfl,rfl⟩
 | cons d g m =>
  cases j with
  | cons r j =>
  have h:=(show (match sJ d,sW g with | some v,some o=>some (v::o) | _,_=>none)=some l from h);cases a:sJ d with
  | none=>rw[a] at h;cases h
  | some k =>
   cases b:sW g with
   | none=>rw[a,b] at h;cases h
   | some n =>
    rw[a,b] at h;cases h;obtain⟨c,e⟩:=Kn a r.peek;obtain⟨f,i⟩:=m b j;exact⟨by rw[c,f],by rw[List.all_cons,e,i];rfl⟩
def zW (neg:Bool) (d:D) (g:Aa D) (j:Sl->Prop):Prop:=∃ v a,sJ d=some v/\sW g=some a/\j (.v (.b (nb neg (vK v a))))
def Mq (neg:Bool):O2:=λd e c=>match e with
 | .l a=>zW neg d a c
 | .t a=>zW neg d a c
 | .con a=>zW neg d a c
 | .str j=>∃ i,d = .str i/\c (.v (.b (nb neg (!(Builtin.Str.occurrences j i 0 j.length 1).isEmpty))))
 | e=>∃ o,tX e d=some o/\c (.v (.b (nb neg o.isSome)))
theorem tY (neg:Bool):mM K (yO K neg) (Mq neg):=by
 intro B L H d e x y G Q hd E s h k;have seq:∀ (a:Ad) (F:Aa D) (t:Aa V),zW neg d F G->y = .ref a->(kK K H a t\/kO K H a t)->Reps K (Al B (gD L)) H F t->yO K neg x y H Q:=by
  rintro a F t ⟨v,m,f,z,M⟩ rfl O r;obtain⟨P,R⟩:=Kn f E;obtain⟨S,W⟩:=Zc z r;subst P S;exact .inl ⟨a,t,rfl,O,R,W,k _ _ H M (hd.pushF (.b _))⟩
 have u:(∃ o,tX e d=some o/\G (.v (.b (nb neg o.isSome))))->yO K neg x y H Q:=λA=>by
  obtain⟨o,N,h⟩:=A;obtain⟨a,w,rfl,g,f,z⟩:=A7 N s E;have e:o.isSome=w.isSome:=by
   cases o with
   | none=>rw[z rfl];rfl
   | some c=>obtain⟨v,rfl,_⟩:=f c rfl;rfl
  exact .inr (.inr ⟨a,w,rfl,g,by rw[<- e];exact k _ _ H h (hd.pushF (.b _))⟩)
 cases e<;>first | exact u h | skip
 .obtain⟨i,rfl,h⟩:=h;cases E;cases s;exact .inr (.inl ⟨_,_,rfl,rfl,k _ _ H h (hd.pushF (.b _))⟩)
 .obtain⟨a,m,n,f,q⟩:=s.tup_inv;exact seq a _ m h n (.inr (kO.of f)) q
 .obtain⟨a,m,n,f,q⟩:=s.lst_inv;exact seq a _ m h n (.inl (kK.of f)) q
 .obtain⟨a,m,n,f,q⟩:=s.con_inv;exact seq a _ m h n (.inr f.sqT) q
end
mutual
def py:D->PyData
 | .e=>.none
 | .b b=>.bool b
 | .int i=>.int i
 | .str x=>.str x
 | .t a=>.tuple (xB a)
 | .l a=>.list (xB a)
 | .con a=>.tuple (xB a)
 | .c a=>.list (xB a)
 | _=>.none
def xB:Aa D->Aa PyData
 | []=>[]
 | d::a=>py d::xB a
end
mutual
def Ew:D->Bool
 | .e=>true
 | .b _=>true
 | .int _=>true
 | .str x=>PyData.strOk x
 | .t a=>xZ a
 | .l a=>xZ a
 | .con a=>xZ a
 | .c a=>xZ a
 | _=>false
def xZ:Aa D->Bool
 | []=>true
 | d::a=>Ew d&&xZ a
end
section
variable {X:Cx}{K:kC}
def Do (neg:Bool):R2:=λx y H Q=>C8 x y=true/\Q (.b (nb neg (decide (x=y)))) H
def R7 (g j:Aa (gV×D)):Prop:=g.length=j.length/\∀ p∈g,∃ e v w,kG j p.1=some e/\sJ p.2=some v/\sJ e=some w/\qO v w=true
def Qq (neg:Bool):O2:=λd e a=>match d,e with
 | .int i,.int j=>a (.v (.b (nb neg (decide (i=j)))))
 | .str i,.str j=>a (.v (.b (nb neg (decide (i=j)))))
 | .b i,.b j=>a (.v (.b (nb neg (decide (i=j)))))
 | .l c,.l []=>a (.v (.b (nb neg c.isEmpty)))
 | .k c,.k f=>R7 c f/\a (.v (.b (!neg)))
 | d,e=>Ew d=true/\Ew e=true/\min (py d).depth (py e).depth<=60/\a (.v (.b (nb neg (PyData.eqv (py d) (py e)))))
end
end L2
namespace L2
open PySem PySem.Spec PyProof.Rows Lw
def uJ (g:Aa D) (lo j:Ab Int):Aa D:=(g.drop (HT.sIx g.length 0 lo)).take (HT.sIx g.length g.length j-HT.sIx g.length 0 lo)
def pt (o:Ab kX):Aa Ad->Aa Sl->(Ab Int->Aa Sl->Prop)->Prop:=λc b k=>match o with
 | none=>k none b
 | some t=>t c b λr a=>match r with
  | .v (.int i)=>k (some i) a
  | _=>False
def xP (K:kC):Ab kX->TO
 | none=>Fm
 | some t=>K0 (dE K t)
abbrev O3:=D->Ab Int->Ab Int->(Sl->Prop)->Prop
def Xe (f:O3) (i:Nat) (lo g:Ab kX):kX:=λc e h=>(at? e i).isSome=true/\pt lo c e λl b=>pt g c b λu a=>match at? a i with
 | some d=>f d l u λr=>h r a
 | none=>False
abbrev R3:=V->Ab Int->Ab Int->Hp->VK->Prop
def Ik (K:kC) (r:R3) (f:O3):Prop:=∀ (B:Bs) (L:lN) (H:Hp) (d:D) (lo b:Ab Int) (x:V) (c:Sl->Prop) (Q:VK),DS K B L H->lB K (Al B (gD L)) H d x->f d lo b c ->
 (∀ s v a,c s->DS K B ((s,some v)::L) a->Q v a)->r x lo b H Q
section
variable {X:Cx}{K:kC}{lo:Ab Expr}
theorem Ki (I:l.length=p.length) (hd:DS K B (l.zip p++T) H) (h:pt o B.dk l k)
  (C:∀ i g j,g.length=p.length->DS K B (g.zip p++T) j->k i g->Q i j):xP K o p H Q:=by
 cases o with
 | none=>exact C none l H I hd h
 | some t =>
  refine⟨B,l,T,_,I,hd,h,λr g v j b d1 a=>?_⟩;cases r with
  | n=>exact a.elim
  | o d=>exact a.elim
  | v d =>
   cases d with
   | int i=>exact⟨i,d1.valAt.int_inv,C (some i) g j b d1.drop a⟩
   | _=>exact a.elim
theorem Dd:PO X none (xP X.K none):=Wy
theorem yM (h:PD X e t):PO X (some e) (xP X.K (some t)):=Wd h
theorem Ap (I:rM X r) (p:Ik X.K r f) (o:PE X a (nZ i)) (g:PO X lo (xP X.K ol)) (j:PO X C (xP X.K J)):PD X (.Subscript a (.Slice lo C none U) pos) (Xe f i ol J) :=
 (T7 I o g j).mono λW H Q q=>q.elim λB V T S t hd ⟨n,F⟩ k=>by
  obtain⟨P,D⟩:=cV.mp n;obtain⟨x,w,_⟩:=hd.peek t D;refine⟨x,w,Ki t hd F λl N O G d2 M=>Ki G d2 M λu c A y d3 e=>?_⟩;cases h:at? c i with
  | none=>rw[h] at e;exact e.elim
  | some d =>
   rw[h] at e;obtain⟨R,b,L⟩:=d3.peek y h;rw[w] at b;cases b;exact p B _ A d l u x _ Q d3 L e λs v z E m=>k s c v z y m.mid E
def Hq (K:kC):R3:=λx lo a H Q=>Ft K x lo a H Q\/Hz K x lo a H Q\/Io x lo a H Q
theorem zN:rM X (Hq X.K):=O7.or (S1.or Rx)
def Yy:O3
 | .l a,lo,b,d=>d (.o (.l (uJ a lo b)))
 | .c a,lo,b,d=>d (.o (.l (uJ a lo b)))
 | .t a,lo,b,d=>¬ (HT.sIx a.length 0 lo=0/\HT.sIx a.length a.length b=a.length)/\d (.v (.t (uJ a lo b)))
 | .str z,lo,b,d=>z.length<=100000/\d (.v (.str (xW z lo b)))
 | _,_,_,_=>False
theorem E3 (r:Reps K A H j l) (lo g:Ab Int):Reps K A H (uJ j lo g) (sX l lo g):=by
 unfold uJ sX;rw[r.length];exact (r.drop _).take _
theorem Ak:Ik K (Hq K) Yy:=by
 intro B L H d lo m x n Q hd i b k;cases d<;>first | exact False.elim b | skip
 .cases i;exact .inr (.inr ⟨_,rfl,uD b.1,k _ _ _ b.2 (hd.pushF (.str _))⟩)
 .obtain⟨a,h,rfl,e,c⟩:=i.tup_inv;exact .inr (.inl ⟨a,h,rfl,kO.of e,by rw[<- c.length];exact b.1,λp f=>k _ _ _ b.2 (hd.tupF f (E3 c lo m))⟩)
 .obtain⟨a,h,rfl,e,c⟩:=i.lst_inv;exact .inl ⟨a,h,rfl,kK.of e,λp f=>k _ _ _ b (hd.lstF f (E3 c lo m))⟩
 .obtain⟨a,h,rfl,e,c⟩:=i.scr_inv;exact .inl ⟨a,h,rfl,e.sqL,λp f=>k _ _ _ b (hd.lstF f (E3 c lo m))⟩
abbrev O1:=D->(Sl->Prop)->Prop
abbrev R1:=V->Hp->VK->Prop
def Qo (K:kC) (r:R1) (f:O1):Prop:=∀ (B:Bs) (L:lN) (H:Hp) (d:D) (x:V) (b:Sl->Prop) (Q:VK),DS K B L H->lB K (Al B (gD L)) H d x->f d b->(∀ s v a,b s->DS K B ((s,some v)::L) a->Q v a)->r x H Q
def d1 (f:O1) (g:kX):kX:=λb h e=>g b h λc a=>match sd c with
 | some d=>f d λr=>e r a
 | none=>False
theorem T4 (j:Qo X.K r f) (h:dE X.K (d1 f l) o H Q):dE X.K l o H λx g=>r x g Q:=by
 obtain⟨B,z,T,A,m,hd,q,k⟩:=h;refine⟨B,z,T,_,m,hd,q,λy e x g t d1 a=>?_⟩;cases b:sd y with
 | none=>rw[b] at a;exact a.elim
 | some d =>
  rw[b] at a;obtain⟨u,w⟩:=d1.one b;exact j B _ g d x _ Q u w.peek a λs v i n c=>k s e v i t c.mid n
def Jo:O1
 | .int i,a=>a (.v (.int (-i)))
 | _,_=>False
theorem wP (g:PD X a j):PD X (.UnaryOp .USub a pos) (d1 Jo j):=(Wt Wl g).mono λ_ _ _ h=>T4 (f:=Jo) (λB L H d x e Q hd c b k=>by
 cases d<;>first | exact False.elim b | skip
 cases c;exact⟨_,rfl,k _ _ H b (hd.pushF (.int _))⟩) h
noncomputable def B4:D->Ab Bool
 | .e=>some false
 | .b b=>some b
 | .int i=>some (i != 0)
 | .str x=>some ((x.length:Int) != 0)
 | .l a=>some (!a.isEmpty)
 | .t a=>some (!a.isEmpty)
 | .k a=>some (!a.isEmpty)
 | _=>none
noncomputable def E2:D->Bool
 | .str x=>decide (x.length<=100000)
 | _=>true
theorem Ux (h:lB K A H d x) (e:B4 d=some k) (g:E2 d=true):Dg K x H k:=by
 cases d<;>simp only[B4,reduceCtorEq,iL] at e<;>subst e
 .have:=h.non_inv;subst this;rfl
 .have:=h.bl_inv;subst this;rfl
 .have:=h.int_inv;subst this;rfl
 .have:=h.str_inv;subst this;exact⟨uD (dR g),rfl⟩
 .obtain⟨a,b,rfl,h,r⟩:=h.tup_inv;exact .inr (.inl ⟨b,kO.of h,by cases r<;>rfl⟩)
 .obtain⟨a,b,rfl,h,r⟩:=h.lst_inv;exact .inl ⟨b,kK.of h,by cases r<;>rfl⟩
 .rename_i c
  obtain⟨a,b,rfl,h,e,r⟩:=h.dK_inv;refine .inr (.inr ⟨b,h,?_⟩);cases c<;>cases b<;>simp at e |-
def Xv (t:kX):mY:=λc f e=>t c f λr a=>match sd r with
 | some d=>E2 d=true/\∃ b,B4 d=some b/\e b a
 | none=>False
theorem Ia (g:PD X a l) (j:∀ whole,isTrue a X.env whole=(do let v <- whole;standAt a.pos;holding [v] (truthy v)):=by intro _;rfl):pN X a (Xv l) :=
 (Qd g j).mono λz H Q f=>f.elim λB x T y n hd s k=>⟨B,x,T,_,n,hd,s,λr h v i t d1 c=>by
  cases e:sd r with
  | none=>rw[e] at c;exact c.elim
  | some d =>
   rw[e] at c;obtain⟨q,b,m,c⟩:=c;obtain⟨u,w⟩:=d1.one e;exact⟨b,Ux w.peek m q,k b h i t u c⟩⟩
def Ms (t u:mY):mY:=λb e d=>t b e λc a=>if c=true then d true a else u b a d
def Tx (t:mY):mY:=λb e d=>t b e λc a=>d (!c) a
variable {rest:Aa Expr}
theorem D6 (h:pN X a g):Av X (.BoolOp .Or [a] pos) g:=O8 h
theorem zU (j:pN X a o) (l:Av X (.BoolOp .Or (b::rest) pos) g):Av X (.BoolOp .Or (a::b::rest) pos) (Ms o g) :=
 (Pr j l).mono λt H Q e=>e.elim λB s T q m hd n k=>⟨B,s,T,_,m,hd,n,λc d i h d1 f=>by
  cases c with
  | true=>exact (aH rfl).mpr (k true d i h d1 ((aH rfl).mp f))
  | false=>exact uA ⟨B,d,T,q,h,d1,(aE (by decide)).mp f,k⟩⟩
theorem Eu (h:Av X a g):pN X a g:=PW.pt h
theorem J1 (h:pN X a g):pN X (.UnaryOp .Not a pos) (Tx g):=(Sx h).mono λt H Q b=>b.elim λB q T s i hd m k=>⟨B,q,T,_,i,hd,m,λc d e n d1 f=>k _ d e n d1 f⟩
def Tw (t:mY) (u w:kX):kX:=λb e d=>t b e λc a=>if c=true then u b a d else w b a d
theorem C1 (l:pN X c o) (g:PD X a p) (j:PD X b r):PD X (.IfExp c a b pos) (Tw o p r) :=
 (Tg l g j).mono λt H Q e=>e.elim λB q T i m hd n k=>⟨B,q,T,_,m,hd,n,λc d s h d1 f=>by
  cases c with
  | true=>exact (aH rfl).mpr ⟨B,d,T,i,h,d1,(aH rfl).mp f,k⟩
  | false=>exact uA ⟨B,d,T,i,h,d1,(aE (by decide)).mp f,k⟩⟩
end
inductive Ar where
 | t (d:D) | al (i:Nat)
abbrev pY:=Aa Ad->Aa Sl->(Aa Ar->Aa Sl->Prop)->Prop
def qE:Aa Ar->Aa V->lN
 | .t d::as,v::a=>(.v d,some v)::qE as a
 | .al _::as,_::a=>qE as a
 | _,_=>[]
inductive ArOk (σ:St):List Ar->List V->Prop where
 | nil:ArOk σ [] []
 | t {d:D} {v:V} {as:List Ar} {vs:List V}:ArOk σ as vs->ArOk σ (.t d::as) (v::vs)
 | al {i:Nat} {v:V} {as:List Ar} {vs:List V}:σ[i]?=some (some v)->ArOk σ as vs->ArOk σ (.al i::as) (v::vs)
noncomputable def rO (g:Aa Sl):Aa Ar->Ab (Aa D)
 | []=>some []
 | .t d::as=>(rO g as).map (d::·)
 | .al i::as=>match at? g i,rO g as with
  | some d,some a=>some (d::a)
  | _,_=>none
noncomputable def tF:Aa Ar->Ab (Aa D)
 | []=>some []
 | .t d::as=>(tF as).map (d::·)
 | .al _::_=>none
def xU:Aa Ar->Bool
 | []=>true
 | .t _::as=>xU as
 | .al _::_=>false
def dA (K:kC) (g:pY):TA:=λb H Q=>∃ (B:Bs) (d:Aa Sl) (T:lN) (f:Aa Ar->Aa Sl->Prop),d.length=b.length/\DS K B (d.zip b++T) H/\g B.dk d f /\
 ∀ as a c e,a.length=b.length->ArOk b as c->DS K B (a.zip b++(qE as c++T)) e->f as a->Q c e
theorem dA.elim {K:kC}{P:Prop}(h:dA K C l H Q) (f:∀ (B:Bs) (j:Aa Sl) (T:lN) (o:Aa Ar->Aa Sl->Prop),j.length=l.length->DS K B (j.zip l++T) H->C B.dk j o ->(∀ as g p r,g.length=l.length->ArOk l as p->DS K B (g.zip l++(qE as p++T)) r->o as g->Q p r)->P):P:=by
 obtain⟨B,j,T,o,a,hd,b,k⟩:=h;exact f B j T o a hd b k
abbrev qG (X:Cx) (g:Aa Expr) (j:pY):Prop:=PA X g (dA X.K j)
def Gc:pY:=λ_ b a=>a [] b
def aC (g:kX) (j:pY):pY:=λc f e=>g c f λr a=>j c a λas b=>match sd r with
 | some d=>e (.t d::as) b
 | none=>False
def aS (i:Nat) (g:pY):pY:=λc b d=>(at? b i).isSome=true/\g c b λas a=>d (.al i::as) a
theorem PA.mono {X:Cx}(h:PA X j t) (k:∀ g H Q,l g H Q->t g H Q):PA X j l:=λp a s g H Q I q=>h p a s g H Q I (k g H Q q)
def Am (B:Bs) (a:Ad):Prop:=a∉B.dk/\(B.A0 a\/B.H0 a=none)
inductive Peeks (K:kC) (A:Addr->Prop) (H:Hp):List D->List V->Prop where
 | nil:Peeks K A H [] []
 | cons {d:D} {v:V} {ds:List D} {vs:List V}:lB K A H d v->Peeks K A H ds vs->Peeks K A H (d::ds) (v::vs)
section
variable {X:Cx}{K:kC}
theorem eI:qG X [] Gc:=D5.mono λf H Q a=>a.elim λB d T e b hd c k=>k [] d [] H b .nil hd c
theorem dK (j:PD X e p) (l:qG X g o) (h:wE e=true:=by rfl):qG X (e::g) (aC p o):=(A6 j l h).mono λA H Q f=>f.elim λB z T E u hd v k =>
 ⟨B,z,T,_,u,hd,v,λr i x D w d1 s=>⟨B,i,(r,some x)::T,_,w,d1,s,λas a n m y ok d2 b=>by
  cases c:sd r with
  | none=>rw[c] at b;exact b.elim
  | some d =>
   rw[c] at b;refine k (.t d::as) a (x::n) m y (.t ok) ?_ b;have d3:DS X.K B ((a.zip A++qE as n)++(r,some x)::T) m:=by simpa using d2
   have q:=(d3.thaw c).front;exact DS.mid (by simpa using q)⟩⟩
theorem wZ (j:PE X e (nZ i)) (l:qG X g o) (h:wE e=true:=by rfl):qG X (e::g) (aS i o):=(A6 j l h).mono λz H Q a=>a.elim λB v T y c hd ⟨q,s⟩ k=>by
 obtain⟨w,m⟩:=cV.mp q;obtain⟨x,d,_⟩:=hd.peek c m;exact⟨x,d,B,v,T,_,c,hd,s,λas b u f t ok d2 n=>k (.al i::as) b (x::u) f t (.al d ok) d2 n⟩
theorem DS.rmArgs:∀ {as:Aa Ar}{vs:Aa V},DS K B (L++(qE as vs++T)) H->DS K B (L++T) H
 | [],_,h=>h
 | .t d::as,[],h=>h
 | .al _::as,[],h=>h
 | .t d::as,v::vs,h=>DS.rmArgs (as:=as) (vs:=vs) (DS.drop (L1:=L) (L2:=qE as vs++T) h)
 | .al _::as,v::vs,h=>DS.rmArgs (as:=as) (vs:=vs) h
theorem Be:∀ {as:Aa Ar}{vs:Aa V},gD (L++(qE as vs++T))=gD (L++T)
 | [],_=>rfl
 | .t d::as,[]=>rfl
 | .al _::as,[]=>rfl
 | .t d::as,v::vs=>(show gD (L++(Sl.v d,some v)::(qE as vs++T))=_ from Cd).trans (Be (as:=as) (vs:=vs))
 | .al _::as,v::vs=>Be (as:=as) (vs:=vs)
theorem DS.temps (h:DS K B (L++(qE as j++T)) H) (ok:ArOk l as j):∀ g,tF as=some g->Reps K (Al B (gD (L++T))) H g j:=by
 have key:∀ p∈qE as j,oY K (Al B (gD (L++T))) H p.1 p.2:=λp b=>by
  have:=h.ok p (by simp[b]);rw[Be] at this;exact this
 clear h;induction ok with
 | nil=>intro g e;cases e;exact .nil
 | @t d v as j ok i =>
  intro g e;obtain⟨a,c,rfl⟩:=bC.mp e;obtain⟨u,f,r⟩:=key (.v d,some v) aM;cases f;exact .cons r (i (λp b=>key p (aV _ b)) a c)
 | al _ _ _=>intro g e;cases e
theorem DS.argsP (I:g.length=C.length) (h:DS K B (g.zip C++(qE as l++T)) H) (ok:ArOk C as l):∀ j,rO g as=some j ->
  Peeks K (Al B (gD (g.zip C++T))) H j l/\Reps K (Am B) H j l/\(xU as=true->Reps K (Al B (gD (g.zip C++T))) H j l):=by
 have key:∀ p∈qE as l,oY K (Al B (gD (g.zip C++T))) H p.1 p.2:=λp m=>by
  have:=h.ok p (by simp[m]);rw[Be] at this;exact this
 have A:=h.rmArgs;have am:∀ a,Al B (gD (g.zip C++T)) a->Am B a:=λa z=>⟨z.1,z.2.2⟩
 clear h;induction ok with
 | nil=>intro j e;cases e;exact⟨.nil,.nil,λ_=>.nil⟩
 | @t d v as l ok D =>
  intro j e;obtain⟨f,b,rfl⟩:=bC.mp e;obtain⟨u,k,r⟩:=key (.v d,some v) aM;cases k;obtain⟨E,F,O⟩:=D (λp m=>key p (aV _ m)) f b;exact⟨.cons r.peek E,.cons (r.mono (.all am)) F,λn=>.cons r (O n)⟩
 | @al i v as l G ok D =>
  intro j e;have e:=(show (match at? g i,rO g as with | some d,some j=>some (d::j) | _,_=>none)=some j from e);cases b:at? g i with
  | none=>rw[b] at e;cases e
  | some d =>
   cases k:rO g as with
   | none=>rw[b,k] at e;cases e
   | some f =>
    rw[b,k] at e;cases e;obtain⟨E,F,O⟩:=D (λp m=>key p m) f k;obtain⟨V,q,pv⟩:=A.peek I b;rw[G] at q;cases q;have Q:Rep K (Am B) H d v:=by
     unfold at? at b;cases w:g[i]? with
     | none=>rw[w] at b;cases b
     | some s =>
      rw[w] at b;obtain⟨R,y,S,M,_,P,_⟩:=rQ I w;rw[G] at M;cases M;have L:(s,some v)∈g.zip C++T:=by rw[P];simp
      have:=A.ok _ L;cases s with
      | n=>cases b
      | v c=>cases b;obtain⟨u,x,r⟩:=this;cases x;exact r.mono (.all am)
      | o c =>
       cases b;obtain⟨a,x,r⟩:=this;cases x;have N:=A.new a (qL.mpr ⟨_,L,rfl⟩);exact r.rep am ⟨N.2,.inr N.1⟩
    exact⟨.cons pv E,.cons Q F,λn=>by simp[xU] at n⟩
def Dx (g:pY):kX:=λc e d=>g c e λas a=>match tF as with
 | some b=>b.length<=1000/\d (.v (.t b)) a
 | none=>False
def Q2 (g:pY):kX:=λc e d=>g c e λas a=>match tF as with
 | some b=>b.length<=1000/\d (.o (.l b)) a
 | none=>False
theorem Kh (h:n<=1000):n<=sizeLine:=bS h (by decide)
theorem lE (h:qG X g j):PD X (.Tuple g l pos) (Dx j):=(Ny h).mono λv H Q c=>c.elim λB q T u f hd m k=>⟨B,q,T,_,f,hd,m,λas d t s n ok d1 a=>by
 cases b:tF as with
 | none=>rw[b] at a;exact a.elim
 | some e =>
  rw[b] at a;have r:=d1.temps ok e b;exact⟨Kh (by rw[<- r.length];exact a.1),λp i=>k _ d _ _ n (d1.rmArgs.tup i r) a.2⟩⟩
theorem nD (h:qG X g j):PD X (.List g pos) (Q2 j):=(Uy h).mono λv H Q c=>c.elim λB q T u f hd m k=>⟨B,q,T,_,f,hd,m,λas d t s n ok d1 a=>by
 cases b:tF as with
 | none=>rw[b] at a;exact a.elim
 | some e =>
  rw[b] at a;have r:=d1.temps ok e b;exact⟨Kh (by rw[<- r.length];exact a.1),λp i=>k _ d _ _ n (d1.rmArgs.lstF i r).mid a.2⟩⟩
def X9:kX:=λ_ b a=>a (.o (.k [])) b
def Tt:kX:=λ_ b a=>a (.o (.T [])) b
theorem As:PD X (.Dict [] [] pos) X9:=Nv.mono λh H Q a=>a.elim λB e T f b hd d k p c=>k _ e _ _ b (hd.dKF (ds:=[]) (kvs:=[]) c rfl .nil).mid d
theorem Wh:PD X (.Dict [] [] pos) Tt:=Sr.mono λh H Q a=>a.elim λB e T f b hd d k p c=>k _ e _ _ b (hd.dTF (ds:=[]) (kvs:=[]) c rfl .nil).mid d
abbrev OC:=Aa D->(Sl->Prop)->Prop
def oU (K:kC) (r:Aa V->Hp->VK->Prop) (f:OC):Prop:=∀ (B:Bs) (L:lN) (H:Hp) (b:Aa D) (c:Aa V) (d:Sl->Prop) (Q:VK),DS K B L H->Peeks K (Al B (gD L)) H b c->f b d ->
 (∀ s v a,d s->DS K B ((s,some v)::L) a->Q v a)->r c H Q
def dC (f:OC) (g:pY):kX:=λb e d=>g b e λas a=>match rO a as with
 | some c=>f c λr=>d r a
 | none=>False
theorem Ei (l:oU X.K r f) (h:dE X.K (dC f o) p H Q):dA X.K o p H λj g=>r j g Q:=by
 obtain⟨B,u,T,w,n,hd,t,k⟩:=h;refine⟨B,u,T,_,n,hd,t,λas a j g i ok d1 b=>?_⟩;cases c:rO a as with
 | none=>rw[c] at b;exact b.elim
 | some e =>
  rw[c] at b;exact l B _ g e j _ Q d1.rmArgs (d1.argsP i ok e c).1 b λs v m q d=>k s a v m i d.mid q
variable {id:String}
theorem pR (C:lS X (.builtin id) r) (I:oU X.K r f) (T:X.mg x=none) (hv:bootBuiltins x=some (.builtin id)) (o:qG X (e::l) ta) (J:Gl X x:=by rfl) (U:x ≠ "__name__" := by decide) (g:(x == ("__debug__" : Af))=false:=by decide)
  (j:StB X e l pos:=by exact {}):PD X (.Call (.Name x p) (e::l) [] pos) (dC f ta) :=
 (Tv C J T hv o U g j).mono λ_ _ _ h=>Ei I h
theorem nF (C:lS X (.type id) r) (I:oU X.K r f) (T:X.mg x=none) (hv:bootBuiltins x=some (.type id)) (o:qG X (e::l) ta) (J:Gl X x:=by rfl) (U:x ≠ "__name__" := by decide) (g:(x == ("__debug__" : Af))=false:=by decide)
  (j:StB X e l pos:=by exact {}):PD X (.Call (.Name x p) (e::l) [] pos) (dC f ta) :=
 (Ob C J T hv o U g j).mono λ_ _ _ h=>Ei I h
end
def yC:Sl->Bool
 | .v d=>imm d
 | .o (.l b)=>qH b
 | .o (.k a)=>qH (a.map (·.2))
 | .o (.T a)=>qH (a.map (·.2))
 | .o (.dM a)=>qH (a.map (·.2))
 | _=>false
def RV (K:kC) (g:Aa Ad) (A:Ad->Prop) (H:Hp) (s:Sl) (v:V) (j:Hp):Prop:=match s with
 | .n=>True
 | .v d=>Rep K (λa=>a∉g/\(A a\/H a=none)) j d v
 | .o d=>∃ a,v = .ref a/\H a=none/\a∉g/\mF K (λb=>b∉g/\b≠a/\(A b\/H b=none)) j a d
def yX (j:Aa Ad) (H g:Hp):Prop:=∀ b o,H b=some o->b∉j->g b=some o
abbrev RD:=Aa Ad->Aa D->(Sl->Prop)->Prop
def kY (K:kC) (R:RD):Sp:=λf H Q _=>∃ (b:Aa Ad) (A:Ad->Prop) (d:Aa D) (e:Sl->Prop),Dk b H/\(∀ a,A a->a∉b)/\Reps K A H d f/\R b d e /\
 ∀ s v c,e s->yX b H c->Dk b c->RV K b A H s v c->Q v c
section
variable {K:kC}
theorem mF.immR (h:mF K A H a d) (e:yC (.o d)=true):mF K g H a d:=by
 cases d with
 | l _=>obtain⟨b,h,r⟩:=h;exact⟨b,h,r.imm e⟩
 | k _=>obtain⟨b,h,k,r⟩:=h;exact⟨b,h,k,r.imm e⟩
 | T _=>obtain⟨b,h,k,r⟩:=h;exact⟨b,h,k,r.imm e⟩
 | dM _=>obtain⟨b,h,k,r⟩:=h;exact⟨b,h,k,r.imm e⟩
 | _=>exact False.elim h
theorem Kp.frm (f:yX g H l) (p:Dk g H) (h:∀ a,A a->a∉g/\j a):Kp A j H l:=by
 refine⟨λa o b e=>⟨(h a b).2,f a o e (h a b).1⟩,λa o t e=>f a o e λz=>?_⟩;obtain⟨c,q⟩:=p.some z;rw[e] at q;cases q;cases t
theorem DS.call (h:DS K B L H) (f:yX B.dk H g) (j:Dk B.dk g):DS K B L g :=
 ⟨λb o e n=>f b o (h.fr b o e n) n,j,h.nd,h.new,λp c=>(h.ok p c).mono (.frm f h.dk λa z=>⟨z.1,z⟩) λb d o q=>f b o q (h.new b (qL.mpr ⟨p,c,d⟩)).2⟩
theorem DS.adopt (h:DS K B L H) (f:yX B.dk H g) (l:Dk B.dk g) (j:H a=none) (r:mF K (Al B (a::gD L)) g a d):DS K B ((.o d,some (.ref a))::L) g:=by
 obtain⟨f1,f2,k⟩:=h.free j;have s:Kp (Al B (gD L)) (Al B (a::gD L)) H g:=by
  refine⟨λb o c e=>⟨⟨c.1,λz=>?_,c.2.2⟩,f b o e c.1⟩,λb o t e=>f b o e λz=>?_⟩
  .rcases aJ.mp z with q | q
   .subst q;rw[j] at e;cases e
   .exact c.2.1 q
  .obtain⟨u,q⟩:=h.dk.some z;rw[e] at q;cases q;cases t
 have i:gD ((Sl.o d,some (V.ref a))::L)=a::gD L:=rfl;refine⟨λb o e n=>f b o (h.fr b o e n) n,l,by rw[i];exact bP.mpr ⟨k,h.nd⟩,λb c=>?_,λp m=>?_⟩
 .rw[i] at c;rcases aJ.mp c with q | q
  .subst q;exact⟨f1,f2⟩
  .exact h.new b q
 .rw[i];rcases aJ.mp m with q | q
  .subst q;exact⟨a,rfl,r⟩
  .exact (h.ok p q).mono s λb c o w=>f b o w (h.new b (qL.mpr ⟨p,q,c⟩)).2
theorem DS.result (h:DS K B L H) (f:yX B.dk H j) (l:Dk B.dk j) (r:RV K B.dk p H s v j) (g:(∀ a,p a->Al B (gD L) a)\/yC s=true):DS K B ((s,some v)::L) j:=by
 have fresh:∀ b,b∉B.dk->H b=none->Al B (gD L) b:=λb n e=>⟨n,(h.free e).2.2,.inr (h.free e).1⟩
 cases s with
 | n=>exact (h.call f l).pushN (L1:=[]) _
 | v d =>
  refine (h.call f l).pushF ?_;rcases g with g | g
  .exact (show Rep K _ j d v from r).mono (.all λb z=>z.2.elim (g b) (fresh b z.1))
  .exact (show Rep K _ j d v from r).imm g
 | o d =>
  obtain⟨a,rfl,c,hd,r⟩:=r;refine h.adopt f l c ?_;rcases g with g | g
  .refine r.mono (.all λb z=>?_) λ_ q=>q
   have:=z.2.2.elim (g b) (fresh b z.1);exact⟨this.1,λq=>(aJ.mp q).elim z.2.1 this.2.1,this.2.2⟩
  .exact r.immR g
end
def A4 (R:RD) (g:pY):kX:=λb e d=>g b e λas a=>match rO a as with
 | some c=>R b c λs=>(xU as=true\/yC s=true)/\d s a
 | none=>False
section
variable {X:Cx}{R:RD}
theorem Mo (h:dE X.K (A4 R l) o H Q):dA X.K l o H λj g=>kY X.K R (j++[]) g Q E0:=by
 obtain⟨B,A,T,D,u,hd,w,k⟩:=h;refine⟨B,A,T,_,u,hd,w,λas b j g q ok d1 c=>?_⟩;cases m:rO b as with
 | none=>rw[m] at c;exact c.elim
 | some i =>
  rw[m] at c;obtain⟨_,x,y⟩:=d1.argsP q ok i m;have d2:=d1.rmArgs;rw[gJ];by_cases t:xU as=true
  .exact⟨B.dk,_,i,_,d2.dk,λa z=>z.1,y t,c,λs v e d f n r=>k s b v e q (d2.result f n r (.inl λa z=>z)).mid d.2⟩
  .exact⟨B.dk,_,i,_,d2.dk,λa z=>z.1,x,c,λs v e d f n r=>k s b v e q (d2.result f n r (.inr (d.1.resolve_left t))).mid d.2⟩
theorem lU (F:FnOk X.prog X.w X.K X.mg X.base kQ k f fd U (kY X.K R)) (T:Room k X.A) (C:Gl X x) (J:X.mg x=some (.ref f)) (I:PySem.W.keepIn X.K (.ref f)=true) (r:uZ X.K fd U [])
  (o:qG X (e::l) ta) (g:(x == ("__debug__" : Af))=false:=by decide) (j:StB X e l pos:=by exact {}) :
  PD X (.Call (.Name x p) (e::l) [] pos) (A4 R ta):=(Wp F T C J I r .nil Mz o g j).mono λ_ _ _ h=>Mo h
end
structure DEnds where
 nx:List Sl->Prop
 rt:Sl->Prop
 bk:List Sl->Prop:=λ_=>False
 ct:List Sl->Prop:=λ_=>False
abbrev nH:=Aa Ad->DEnds->Aa Sl->Prop
def xK (K:kC) (B:Bs) (T:lN) (n:Nat) (g:DEnds) (j:Ends):Prop :=
 (∀ b a c,b.length=a.length->a.length=n->DS K B (b.zip a++T) c->(g.nx b->j.nx a c)/\(g.bk b->j.bk a c)/\(g.ct b->j.ct a c)) /\
 ∀ (r:Sl) (v:V) (b:Aa Sl) (a:St) (c:Hp),b.length=a.length->DS K B (b.zip a++(r,some v)::T) c->g.rt r->j.rt v c
def dS (K:kC) (g:nH):TS:=λd b H=>∃ (B:Bs) (a:Aa Sl) (T:lN) (c:DEnds),a.length=b.length/\DS K B (a.zip b++T) H/\g B.dk c a/\xK K B T b.length c d
theorem dS.elim {K:kC}{P:Prop}(h:dS K p o j H) (f:∀ (B:Bs) (g:Aa Sl) (T:lN) (l:DEnds),g.length=j.length->DS K B (g.zip j++T) H->p B.dk l g->xK K B T j.length l o->P):P:=by
 obtain⟨B,g,T,c,a,hd,b,k⟩:=h;exact f B g T c a hd b k
abbrev pZ (X:Cx) (st:Stmt) (g:nH):Prop:=PS X st (dS X.K g)
abbrev qT (X:Cx) (st:Aa Stmt) (g:nH):Prop:=oM X st (dS X.K g)
theorem PS.mono {X:Cx}{st:Stmt}(h:PS X st t) (k:∀ D g H,j D g H->t D g H):PS X st j:=λa s g H D I q=>h a s g H D I (k D g H q)
theorem oM.mono {X:Cx}{st:Aa Stmt}(h:oM X st t) (k:∀ D g H,j D g H->t D g H):oM X st j:=λa s g H D I q=>h a s g H D I (k D g H q)
def Fs:nH:=λ_ a b=>a.nx b
def Cc (t u:nH):nH:=λb a c=>t b { a with nx:=u b a } c
def rF (g:kX):nH:=λb a c=>g b c λr _=>a.rt r
def Lk (g:kX):nH:=λc b d=>g c d λ_ a=>b.nx a
def Iq (c:mY) (t u:nH):nH:=λd e f=>c d f λb a=>if b=true then t d e a else u d e a
def tT (i:Nat) (g:kX):nH:=λc b d=>g c d λr a=>b.nx (a.set i r)
section
variable {X:Cx}{K:kC}{st:Stmt}{rest:Aa Stmt}
theorem xK.seq (h:xK K B T n o p){P:Aa Sl->Prop}(k:∀ j g l,j.length=g.length->g.length=n->DS K B (j.zip g++T) l->P j->N g l):xK K B T n { o with nx:=P } { p with nx:=N } :=
 ⟨λj g l a b d=>⟨k j g l a b d,(h.1 j g l a b d).2⟩,h.2⟩
theorem oR:qT X [] Fs:=Ig.mono λh e H a=>a.elim λB d T f b hd c lk=>(lk.1 d e H b rfl hd).1 c
theorem hB (g:pZ X st t) (j:qT X rest u):qT X (st::rest) (Cc t u):=(Nq g j).mono λn v H a=>a.elim λB k T c e hd f lk =>
 ⟨B,k,T,_,e,hd,f,lk.seq λb m s h i d q=>⟨B,b,T,c,h,d,q,by rw[i];exact lk⟩⟩
theorem kR (h:pZ X st t):qT X [st] t:=zC h
theorem mG (h:PD X e g):pZ X (.Return (some e) pos) (rF g):=(V0 h).mono λs n H a=>a.elim λB m T q f hd i lk=>⟨B,m,T,_,f,hd,i,λr b v c k d1 d=>lk.2 r v b n c k d1 d⟩
theorem oW (h:PD X e j) (g:swapsWith e none pos.line X.env=pure false:=by rfl):pZ X (.Expr e pos) (Lk j):=(N1 h g).mono λs n H a=>a.elim λB m T q f hd i lk=>⟨B,m,T,_,f,hd,i,λr b v c k d1 d=>(lk.1 b n c k rfl d1.drop).1 d⟩
theorem oH (l:pN X c o) (g:qT X a t) (j:qT X b u):pZ X (.If c a b pos) (Iq o t u):=(Ix l g j).mono λq v H e=>e.elim λB n T f k hd m lk=>⟨B,n,T,_,k,hd,m,λc d s i d1 h=>by
 cases c with
 | true=>exact (aH rfl).mpr ⟨B,d,T,f,i,d1,(aH rfl).mp h,lk⟩
 | false=>exact uA ⟨B,d,T,f,i,d1,(aE (by decide)).mp h,lk⟩⟩
theorem DS.assign {g:Aa Sl}{j:St}(l:g.length=j.length) (h:DS K B (g.zip j++(r,some v)::T) H) (i:Nat):DS K B ((g.set i r).zip (j.set i (some v))++T) H:=by
 by_cases m:i<g.length
 .obtain⟨b,y,c,_,_,n,a⟩:=rQ l (aL m);rw[a r (some v)];rw[n] at h;have d:DS K B (b++(c++(r,some v)::T)) H:=DS.drop (L1:=b) (x:=(g[i],y)) (by simpa using h);have e:DS K B ((b++c)++(r,some v)::T) H:=by simpa using d
  have f:=e.front;have k:DS K B ((r,some v)::(b++(c++T))) H:=by simpa using f
  simpa using k.mid
 .rw[fR (by omega),fR (by omega)];exact h.drop
theorem kI (i:Nat) (j:X.N.Nodup) (l:PD X e J) (p:X.N[i]?=some x:=by rfl) (I:rE X.env.scope x:=by first | exact Or.inl rfl | exact Or.inr rfl) (C:swapsWith e (some (.Name x g)) pos.line X.env=pure false:=by rfl)
  (o:X.fn x=true\/X.env.scope.names.lookup x=some .local:=by first | exact .inl rfl | exact .inr rfl | assumption):pZ X (.Assign [.Name x g] e pos) (tT i J) :=
 (X0 j p I l C o).mono λq s H a=>a.elim λB k T n f hd h lk=>⟨B,k,T,_,f,hd,h,λr m v c b d1 d=>(lk.1 _ _ c (by rw[bL,bL];exact b) (bL ..) (d1.assign b i)).1 d⟩
end
def wA (N:Aa Af) (g:Aa D):Aa Sl:=g.map .v++List.replicate (N.length-g.length) .n
section
variable {P:Ah}{K:kC}
theorem J5:∀ {g:Aa D}{j:Aa V}(n:Nat),g.length=j.length->(g.map Sl.v++List.replicate n Sl.n).zip (j.map some++List.replicate n none)=(g.zip j).map (λp=>(Sl.v p.1,some p.2))++List.replicate n (Sl.n,none)
 | [],[],n,_=>by simp
 | [],_::_,_,e=>by simp at e
 | _::_,[],_,e=>by simp at e
 | d::g,v::j,n,e=>by
  simp only[aI,bV,eV,eC,true_and];exact J5 n (by simpa using e)
theorem Nl (l:Reps K A H g j):∀ p∈g.zip j,Rep K A H p.1 p.2:=by
 induction g generalizing j with
 | nil=>intro p a;cases a
 | cons d g b =>
  cases l with
  | cons h r =>
  intro p a;rw[eV] at a;rcases aJ.mp a with rfl | q
  .exact h
  .exact b r p q
theorem Fun.okD {st:Stmt}{R:RD}(F:Fun K x J st f fd) (S:FnScope N ps (lQ st)) (I:∀ C g T,R C g T->g.length=ps.length) (aa:ps.length<=N.length)
  (U:∀ (l:Ac) (A:Around) (j:Aa Env) (s:Ae) (H:Hp) (E:XK) (C:Aa Ad) (g:Aa D) (T:Sl->Prop),Room k (A.deeper (envOfC J (lQ st) s.heap.objs.size f l))->R C g T ->∃ t,qT (tO kQ P w K mg base N J (lQ st) f l A j s H E).nox (sD st) t/\t C { nx:=λ_=>T (.v .e),rt:=T } (wA N g)):FnOk P w K mg base kQ (k+1) f fd ps (kY K R):=by
 refine F.ok S (λm H Q E M=>by obtain⟨C,A,g,T,_,_,r,u,_⟩:=M;rw[<- r.length];exact I _ _ _ u) λl A j s H m Q E hr M=>?_
 obtain⟨C,A1,g,T,L,hA,r,u,X⟩:=M;obtain⟨t,ht,hb⟩:=U l A j s H E C g T hr u;have G:g.length=m.length:=r.length;have dl:g.length=ps.length:=I _ _ _ u;refine⟨_,ht,⟨C,A1,H⟩,wA N g,[],_,?_,?_,hb,?_,?_⟩
 .unfold wA qP;rw[List.length_append,List.length_append,List.length_map,List.length_map,List.length_replicate,List.length_replicate,G]
 .have W:(wA N g).zip (qP N m)=(g.zip m).map (λp=>(Sl.v p.1,some p.2))++List.replicate (N.length-g.length) (Sl.n,none):=by
   unfold wA qP;rw[<- G];exact J5 _ G
  have B:gD ((wA N g).zip (qP N m))=[]:=by
   rw[W];refine gA.mpr λa i=>?_
   obtain⟨q,c,e⟩:=qL.mp i;rcases aZ.mp c with z | z
   .obtain⟨p,_,rfl⟩:=bE.mp z;cases e
   .rw[(List.mem_replicate.mp z).2] at e;cases e
  rw[gJ];refine⟨λb o e _=>e,L,by rw[B];exact jQ,(λa i=>by rw[B] at i;exact absurd i bZ),λq c=>?_⟩;rw[B];rw[W] at c;rcases aZ.mp c with z | z
  .obtain⟨p,hp,rfl⟩:=bE.mp z;exact⟨p.2,rfl,(Nl r p hp).mono (.all λa i=>⟨hA a i,bZ,.inl i⟩)⟩
  .rw[(List.mem_replicate.mp z).2];trivial
 .intro O V y l1 l2 d1;refine⟨λh=>X _ _ y h d1.fr d1.dk .e,λh=>h.elim,λh=>h.elim⟩
 .intro Z v O V y l1 d1 h;refine X Z v y h d1.fr d1.dk ?_;cases Z with
  | n=>trivial
  | v d=>exact d1.valAt.mono (.all λa z=>⟨z.1,z.2.2⟩)
  | o d =>
   obtain⟨a,rfl,r'⟩:=d1.ownAt;have Y:=d1.new a (by rw[oP];exact aN _ aM);exact⟨a,rfl,Y.1,Y.2,r'.mono (.all λb z=>⟨z.1,λq=>z.2.1 (by simp[q]),z.2.2⟩) λ_ q=>q⟩
end
abbrev qM:=D->Aa Sl->(Aa Sl->Prop)->Prop
abbrev sG:=Aa D->Aa Sl->(Aa Sl->Prop)->Prop
noncomputable def mX (g:Aa D) (j:Aa V):lN:=(g.zip j).map λp=>(Sl.v p.1,some p.2)
def dG (K:kC) (n:Nat) (g:qM):TG:=λv c H Q=>∃ (B:Bs) (e:Aa Sl) (T:lN) (d:D) (h:Aa Sl->Prop),e.length=c.length/\DS K B (e.zip c++(.v d,some v)::T) H/\g d e h /\
 ∀ (b:Aa Sl) (a:St) (f:Hp),b.length=a.length->a.length=c.length->(∀ j,n<=j->a[j]?=c[j]?)->DS K B (b.zip a++T) f->h b->Q a f
def Cu (K:kC) (n:Nat) (g:sG):vD:=λh c H Q=>∃ (B:Bs) (e:Aa Sl) (T:lN) (d:Aa D) (i:Aa Sl->Prop),e.length=c.length/\d.length=h.length/\DS K B (e.zip c++(mX d h++T)) H/\g d e i /\
 ∀ (b:Aa Sl) (a:St) (f:Hp),b.length=a.length->a.length=c.length->(∀ j,n<=j->a[j]?=c[j]?)->DS K B (b.zip a++T) f->i b->Q a f
theorem dG.elim {K:kC}{P:Prop}(h:dG K n I v r H Q) (f:∀ (B:Bs) (o:Aa Sl) (T:lN) (d:D) (p:Aa Sl->Prop),o.length=r.length->DS K B (o.zip r++(.v d,some v)::T) H->I d o p ->(∀ (l:Aa Sl) (g:St) (C:Hp),l.length=g.length->g.length=r.length->(∀ j,n<=j->g[j]?=r[j]?)->DS K B (l.zip g++T) C->p l->Q g C)->P):P:=by
 obtain⟨B,o,T,d,p,a,hd,b,k⟩:=h;exact f B o T d p a hd b k
theorem Cu.elim {K:kC}{P:Prop}(h:Cu K n U J C H Q) (f:∀ (B:Bs) (p:Aa Sl) (T:lN) (o:Aa D) (r:Aa Sl->Prop),p.length=C.length->o.length=J.length->DS K B (p.zip C++(mX o J++T)) H->U o p r ->(∀ (l:Aa Sl) (g:St) (I:Hp),l.length=g.length->g.length=C.length->(∀ j,n<=j->g[j]?=C[j]?)->DS K B (l.zip g++T) I->r l->Q g I)->P):P:=by
 obtain⟨B,p,T,o,r,a,c,hd,b,k⟩:=h;exact f B p T o r a c hd b k
abbrev rY (X:Cx) (n:Nat) (e:Expr) (g:qM):Prop:=PG X e (dG X.K n g)
abbrev yG (X:Cx) (n:Nat) (g:Aa Expr) (j:sG):Prop:=sQ X g (Cu X.K n j)
theorem PG.mono {X:Cx}(h:PG X e t) (k:∀ v g H Q,j v g H Q->t v g H Q):PG X e j:=λa s g H v u Q I r q=>h a s g H v u Q I r (k v g H Q q)
theorem sQ.mono {X:Cx}(h:sQ X j t) (k:∀ v g H Q,l v g H Q->t v g H Q):sQ X j l:=λa s g H v u Q I r q=>h a s g H v u Q I r (k v g H Q q)
def gN (i:Nat):qM:=λd b a=>a (b.set i (.v d))
def Nc:sG:=λa c b=>a=[]/\b c
def P8 (g:qM) (gs:sG):sG:=λa e c=>match a with
 | d::a=>g d e λb=>gs a b c
 | []=>False
def Rt (n:Nat) (gs:sG):qM:=λd c b=>match d with
 | .t a=>a.length=n/\gs a c b
 | _=>False
section
variable {X:Cx}{K:kC}{gs:sG}
theorem DS.pushs {A:Ad->Prop}:∀ {ds:Aa D}{vs:Aa V},DS K B (L++T) H->Reps K (Al B (gD (L++T))) H ds vs->DS K B (L++(mX ds vs++T)) H
 | _,_,h,.nil=>h
 | _,_,h,.cons (ds:=ds) (vs:=vs) r i=>by
  have c:=DS.pushs (A:=A) h i;have b:gD (L++(mX ds vs++T))=gD (L++T):=by
   have:∀ (ds:Aa D) (vs:Aa V),gD (mX ds vs)=[]:=λds vs=>by
    refine gA.mpr λa d=>?_
    obtain⟨q,f,e⟩:=qL.mp d;obtain⟨p,_,rfl⟩:=bE.mp f;cases e
   rw[oC,oC,oC,this,eZ]
  exact c.push (by rw[b];exact r)
theorem kH (i:Nat) (g:X.N.Nodup) (o:X.N[i]?=some x:=by rfl) (p:rE X.env.scope x:=by first | exact Or.inl rfl | exact Or.inr rfl) (r:i<m:=by decide) (l:X.fn x=true\/X.env.scope.names.lookup x=some .local:=by first | exact .inl rfl | exact .inr rfl | assumption):rY X m (.Name x pos) (gN i) :=
 (Ku g o p l).mono λv n H Q a=>a.elim λB h T d f b hd c k=>k _ _ H (by rw[bL,bL];exact b) (bL ..) (λj e=>dO (by omega)) (hd.assign b i) c
theorem oS:yG X m [] Nc:=T5.mono λf i H Q a=>a.elim λB h T n q c e hd ⟨b,d⟩ k=>by
 subst b;cases f with
 | nil=>exact⟨rfl,k h i H c rfl (λ_ _=>rfl) hd d⟩
 | cons _ _=>simp at e
theorem kW (o:rY X m e g) (p:yG X m l gs) (r:(assignEach (e::l) X.env).map (·.2)=assign e X.env::(assignEach l X.env).map (·.2):=by rfl):yG X m (e::l) (P8 g gs) :=
 (Mm o p r).mono λb M H Q c=>c.elim λB F T a E w t hd s k=>by
  cases a with
  | nil=>exact s.elim
  | cons d a =>
   cases b with
   | nil=>simp at t
   | cons v b =>
    refine⟨v,b,rfl,B,F,mX a b++T,d,_,w,hd,s,λf G L x y f1 d1 q=>⟨B,f,T,a,E,x,by simpa using t,d1,q,λh i u z A f2 d2 D=>k h i u z (A.trans y) (λj n=>(f2 j n).trans (f1 j n)) d2 D⟩⟩
theorem pJ (l:X.calm=true) (h:yG X m g gs) (o:(assignEach g X.env).length=n:=by rfl) (j:(assignEach g X.env).findIdx? (·.1)=none:=by rfl):rY X m (.Tuple g k pos) (Rt n gs) :=
 (Q3 l h o j).mono λv x H Q b=>b.elim λB w T d u q hd c k=>by
  cases d with
  | t f =>
   obtain⟨a,s,rfl,i,e⟩:=hd.valAt.tup_inv;exact⟨a,s,rfl,kO.of i,by rw[<- e.length];exact c.1,B,w,T,f,u,q,e.length,hd.drop.pushs (A:=λ_=>True) e,c.2,k⟩
  | _=>exact c.elim
end
def Sk (j:kX) (g:qM):nH:=λc b e=>j c e λr a=>match sd r with
 | some d=>g d a b.nx
 | none=>False
def rV:D->D->D->Ab D
 | .l c,.int i,d=>(sR c.length i).map λj=>.l (c.set j d)
 | .k a,k,d=>if a.length<100000 then (match k with
  | .t b=>(qK b).map λj=>.dM (lF (a.map λp=>((Sum.inl p.1:MK),p.2)) (.inr j) d)
  | k=>(nT k).map λk=>.k (lF a k d)) else none
 | .T a,.t b,d=>if a.length<100000 then (qK b).map λk=>.T (lF a k d) else none
 | .dM a,k,d=>if a.length<100000 then (qW k).map λk=>.dM (lF a k d) else none
 | _,_,_=>none
def He (i:Nat) (g j:kX):nH:=λf h q=>j f q λn a=>(at? a i).isSome=true/\g f a λm b=>match sd n,sd m,b[i]? with
 | some d,some k,some (.o c)=>∃ e,rV c k d=some e/\h.nx (b.set i (.o e))
 | _,_,_=>False
section
variable {X:Cx}{K:kC}
theorem yU (o:PD X e I) (p:rY X m l g) (C:swapsWithSole [l] e pos.line X.env=pure false:=by rfl) (hw:swappedStores [l] e X.env=pure none:=by rfl)
  (j:(assignEach [l] X.env).map (·.2)=[assign l X.env]:=by rfl):pZ X (.Assign [l] e pos) (Sk I g):=(Kl o p C hw j).mono λy A H b=>b.elim λB w T x k hd n lk=>⟨B,w,T,_,k,hd,n,λr c v z q d1 j=>by
 cases a:sd r with
 | none=>rw[a] at j;exact j.elim
 | some d =>
  rw[a] at j;exact⟨B,c,T,d,_,q,d1.thaw a,j,λf h i s t _ d2 u=>(lk.1 f h i s t d2).1 u⟩⟩
def D3:Es:=λo i v H Q=>Iv o i v H Q\/∃ a b,o = .ref a/\pI H a i v b/\Q b
theorem Qg (j:X.A.units+1<cLine):D2 X D3:=by
 intro b s n H o i v m iv u Q I d c e h;rcases h with h | ⟨a,f,rfl,g,q⟩
 .exact Ys b s n H o i v m iv u Q I d c e h
 .cases d;exact Oh j I g c e λt k=>⟨f,k,q⟩
theorem DS.slotW {g:Aa Sl}{j:St}(C:g.length=j.length) (h:DS K B (g.zip j++T) H){i:Nat}{c:D}(e:g[i]?=some (.o c)):∃ a,j[i]?=some (some (.ref a))/\mF K (Al B (gD (g.zip j++T))) H a c /\
  ∀ (o:HO) (l:D),(∀ p,Kp (Al B (gD (g.zip j++T))) p H (upd H a o)->mF K p (upd H a o) a l)->DS K B ((g.set i (.o l)).zip j++T) (upd H a o):=by
 obtain⟨q,y,s,m,_,n,b⟩:=rQ C e;have d:DS K B (q++(.o c,y)::(s++T)) H:=by rw[n] at h;simpa using h
 obtain⟨a,rfl,_⟩:=d.at;have f:gD (g.zip j++T)=gD q++a::gD (s++T):=by rw[n,aX,bV,oP];rfl
 obtain⟨v,t,r⟩:=d.ownAt;cases t;refine⟨a,m,by rw[f];exact r,λo l k=>?_⟩;rw[f] at k;have u:=d.write (o:=o) (d':=l) k;have:=b (.o l) (some (.ref a));rw[vH m] at this;rw[this]
 simpa using u
theorem Y2 (h:rV c k d=some c') (r:mF K A H a c) (U:lB K A H k y) (J:Rep K A H d v)
  (I:∀ o,(∀ C,Kp A C H (upd H a o)->mF K C (upd H a o) a c')->Q (upd H a o)):D3 (.ref a) y v H Q:=by
 cases c with
 | l P =>
  cases k with
  | int i =>
   obtain⟨q,z,x⟩:=r;obtain⟨j,u,rfl⟩:=bC.mp h;have:=U.int_inv;subst this;exact .inl ⟨a,q,i,j,rfl,rfl,z,by rw[<- x.length];exact u,I _ λC w=>⟨_,mB,(x.set J j).mono w⟩⟩
  | _=>cases h
 | k e =>
  obtain⟨q,z,s,x⟩:=r;by_cases n:e.length<100000
  .have F:q.length<sizeLine:=by
    have:=cO List.length s;simp only[aD] at this;exact aY (show q.length<100000 by omega) (by decide)
   have N:(nT k).map (λj=>D.k (lF e j d))=some c'->D3 (.ref a) y v H Q:=λh=>by
    obtain⟨j,u,rfl⟩:=bC.mp h;rw[wD u U];obtain⟨B,E⟩:=wF s x (k:=j) J;exact .inr ⟨a,_,rfl,pI.k z F,I _ λC w=>⟨_,mB,B,E.mono w⟩⟩
   unfold rV at h;dsimp only at h;rw[aH n] at h;cases k with
   | t M =>
    obtain⟨j,u,rfl⟩:=bC.mp h;obtain⟨b,O,rfl,G,L⟩:=U.tup_inv;rw[Bg u L] at G;obtain⟨B,E⟩:=wF (ds:=e.map λp=>((Sum.inl p.1:MK),p.2)) (kvs:=q.map λp=>((Sum.inl p.1:MK),p.2)) (by rw[bG,bG];exact (bG (f:=Prod.fst) (g:=(Sum.inl:gV->MK))).symm.trans ((cO (List.map Sum.inl) s).trans bG)) (by rw[bG,bG];exact x) (k:=.inr j) J;exact .inr ⟨a,_,rfl,pI.km z G F,I _ λC w=>⟨_,mB,B,E.mono w⟩⟩
   | _=>exact N h
  .unfold rV at h;dsimp only at h;rw[aE n] at h;cases h
 | T e =>
  cases k with
  | t M =>
   obtain⟨q,z,s,x⟩:=r;have h:=(show (if e.length<100000 then (qK M).map λj=>D.T (lF e j d) else none)=some c' from h);by_cases n:e.length<100000
   .rw[aH n] at h;obtain⟨j,u,rfl⟩:=bC.mp h;obtain⟨b,O,rfl,G,L⟩:=U.tup_inv;rw[Bg u L] at G;obtain⟨B,E⟩:=wF s x (k:=j) J;have F:q.length<sizeLine:=by
     have:=cO List.length s;simp only[aD] at this;exact aY (show q.length<100000 by omega) (by decide)
    exact .inr ⟨a,_,rfl,pI.t z G F,I _ λC w=>⟨_,mB,B,E.mono w⟩⟩
   .rw[aE n] at h;cases h
  | _=>cases h
 | dM e =>
  obtain⟨q,z,s,x⟩:=r;have h:=(show (if e.length<100000 then (qW k).map λj=>D.dM (lF e j d) else none)=some c' from h);by_cases n:e.length<100000
  .rw[aH n] at h;obtain⟨j,u,rfl⟩:=bC.mp h;obtain⟨B,E⟩:=wF s x (k:=j) J;have F:q.length<sizeLine:=by
    have:=cO List.length s;simp only[aD] at this;exact aY (show q.length<100000 by omega) (by decide)
   exact .inr ⟨a,_,rfl,pI.m z (Gv u U) F,I _ λC w=>⟨_,mB,B,E.mono w⟩⟩
  .rw[aE n] at h;cases h
 | _=>cases h
theorem sV (J:X.A.units+1<cLine) (U:PD X e tv) (C:PE X o (nZ n)) (r:PD X i ti)
  (j:∀ v,assign (.Subscript o i g) X.env v=(do
   let l <- holding [v] (eval o X.env);let iv <- holding [v,l] (eval i X.env)
   standAt g
   holding [v,l,iv] (setItem l iv v)
   release [v,l,iv] []):=by intro _;rfl)
  (I:swapsWithSole [.Subscript o i g] e pos.line X.env=pure false:=by rfl) (hw:swappedStores [.Subscript o i g] e X.env=pure none:=by rfl)
  (p:(assignEach [.Subscript o i g] X.env).map (·.2)=[assign (.Subscript o i g) X.env]:=by rfl):pZ X (.Assign [.Subscript o i g] e pos) (He n ti tv) :=
 (Kl U (Qz C r (Qg J) j) I hw p).mono λDn σ H q=>q.elim λB Z T De N hd P lk=>⟨B,Z,T,_,N,hd,P,λF u v H1 D d1 t=>by
  obtain⟨r,p⟩:=t;obtain⟨d0,L⟩:=cV.mp r;obtain⟨x,z,_⟩:=d1.peek D L;refine⟨x,z,B,u,(F,some v)::T,_,D,d1,p,λW w y H2 E d2 b=>?_⟩;cases f:sd F with
  | none=>rw[f] at b;exact b.elim
  | some d =>
   cases h:sd W with
   | none=>rw[f,h] at b;exact b.elim
   | some k =>
    cases m:w[n]? with
    | none=>rw[f,h,m] at b;exact b.elim
    | some s =>
     cases s with
     | n=>rw[f,h,m] at b;exact b.elim
     | v c=>rw[f,h,m] at b;exact b.elim
     | o c =>
      rw[f,h,m] at b;obtain⟨G,M,b⟩:=b;obtain⟨Q,R,S⟩:=d2.two f h;obtain⟨a,j,V,Y⟩:=Q.slotW E m;rw[z] at j;cases j;exact Y2 M V S.peek R λo O=>(lk.1 _ _ _ (by rw[bL];exact E) rfl (Y o G O)).1 b⟩
def Cq (n:Nat) (f:Int->Int->Int) (g:kX):nH:=λd c b=>match at? b n with
 | some (.int i)=>g d b λr a=>match r with
  | .v (.int j)=>c.nx (a.set n (.v (.int (f i j))))
  | _=>False
 | _=>False
theorem Yb (j:X.N.Nodup) (p:X.N[n]?=some x) (I:rE X.env.scope x) (l:PD X e J) (C:Cv X op (Jz f)) (o:X.fn x=true\/X.env.scope.names.lookup x=some .local:=by first | exact .inl rfl | exact .inr rfl | assumption) :
  pZ X (.AugAssign (.Name x g) op e pos) (Cq n f J):=(Ve j p I l C o).mono λw z H h=>h.elim λB m T u i hd a lk=>by
 unfold Cq at a;cases b:at? m n with
 | none=>rw[b] at a;exact False.elim a
 | some d =>
 rw[b] at a;cases d<;>first | exact False.elim a | skip
 .obtain⟨v,s,pv⟩:=hd.peek i b;have:=pv.int_inv;subst this;refine⟨_,s,B,m,T,_,i,hd,a,λr t y q k d1 c=>?_⟩;cases r<;>first | exact False.elim c | skip
  rename_i d
  cases d<;>first | exact False.elim c | skip
  have:=d1.valAt.int_inv;subst this;exact⟨_,_,rfl,rfl,(lk.1 _ _ q (by rw[bL,bL];exact k) (bL ..) ((d1.drop.push (.int _)).assign k n)).1 c⟩
end
section
variable {X:Cx}
def Uq (K:kC) (R:It->Hp->Prop) (x:V) (H:Hp):Prop:=(∃ a,x = .ref a/\(∃ b,kK K H a b)/\R (tZ K a) H)\/(∃ a,x = .ref a/\(∃ b,kO K H a b)/\R (wH K a) H)\/∃ z:Af,x = .str z/\z.cps.all (·<128)=true/\R (vE z) H
def Ml (K:kC) (g:TE):TI:=λb H R=>g b H λx a=>Uq K R x a
theorem Ir (g:PE X l j):PI X r l (Ml X.K j):=by
 intro d s G H R I h;refine hL (g d s G H _ I h) λv c u=>?_
 obtain⟨x,k,f,w,D⟩:=u;have m:∀ b∈[c.heap.objs.size],pG X d k b:=λb A=>by
  have e:b=c.heap.objs.size:=by simpa using A
  subst e;exact f.fpOk (aP _) (f.hok.fresh (aP _))
 rcases D with⟨a,rfl,⟨F,n⟩,q⟩ | ⟨a,rfl,⟨F,n⟩,q⟩ | ⟨z,rfl,y,q⟩
 .cases w;obtain⟨i,E,p,B⟩:=f.list n;exact wpAny_pyIter_list p.isList ⟨c.heap.objs.size,[c.heap.objs.size],_,_,k,rfl,f.kept (t':=c.toks) λb o e=>aF _ e,V9 a _,⟨_,aU _ rfl,rfl,rfl⟩,m,q⟩
 .cases w;obtain⟨i,E,p,B⟩:=f.tuple n;exact gG (show c.heap.IsTuple a i.toArray from p) ⟨c.heap.objs.size,[c.heap.objs.size],_,_,k,rfl,f.kept (t':=c.toks) λb o e=>aF _ e,Xu a _,⟨_,aU _ rfl,rfl,rfl⟩,m,q⟩
 .obtain⟨t,rfl⟩:=w;exact wpAny_pyIter_ascii y ⟨c.heap.objs.size,[c.heap.objs.size],_,vE z,k,rfl,f.kept (t':=c.toks) λb L q=>aF _ q,U3 z t _,⟨_,aU _ rfl,rfl,rfl⟩,m,q⟩
end
def uC (K:kC) (A:Ad->Prop) (H:Hp) (E:lN):Prop:=∀ p∈E,oY K A H p.1 p.2
structure YD (K:kC) (J:It) (ds:List D) (E:lN):Prop where
 vals:gD E=[]
 go:∀ i H A,i<ds.length->uC K A H E->J.go i H
 yld:∀ i H A x H',i<ds.length->uC K A H E->J.yld i H x H'->∃ d,ds[i]?=some d/\((H'=H/\Rep K A H d x)\/∃ p es vs,H p=none/\x = .ref p/\H'=upd H p (.t vs)/\d = .t es/\Reps K A H es vs)
 stop:∀ i H A,i=ds.length->uC K A H E->J.stop i H
abbrev rZ:=Aa Ad->Aa Sl->(Aa D->Aa Sl->Prop)->Prop
def dI (K:kC) (g:rZ):TI:=λb H R=>∃ (B:Bs) (c:Aa Sl) (T:lN) (f:Aa D->Aa Sl->Prop),c.length=b.length/\DS K B (c.zip b++T) H/\g B.dk c f /\
 ∀ (J:It) (e:Aa D) (a:Aa Sl) (E:lN) (d:Hp),a.length=b.length->DS K B (a.zip b++(E++T)) d->YD K J e E->f e a->R J d
theorem dI.elim {K:kC}{R:It->Hp->Prop}{P:Prop}(h:dI K C o H R) (f:∀ (B:Bs) (j:Aa Sl) (T:lN) (l:Aa D->Aa Sl->Prop),j.length=o.length->DS K B (j.zip o++T) H->C B.dk j l ->(∀ (J:It) (r:Aa D) (g:Aa Sl) (E:lN) (p:Hp),g.length=o.length->DS K B (g.zip o++(E++T)) p->YD K J r E->l r g->R J p)->P):P:=by
 obtain⟨B,j,T,l,a,hd,b,k⟩:=h;exact f B j T l a hd b k
abbrev vY (X:Cx) (g iter:Expr) (j:rZ):Prop:=PI X g iter (dI X.K j)
theorem PI.mono {X:Cx}{iter:Expr}(h:PI X j iter w) (k:∀ g H R,l g H R->w g H R):PI X j iter l:=λa s g H R I q=>h a s g H R I (k g H R q)
noncomputable def vS (z:Af):Aa D:=z.cps.toList.map λc=>D.str ⟨#[c]⟩
def Ym:D->Ab (Aa D)
 | .l a=>some a
 | .t a=>some a
 | .con a=>some a
 | .c a=>some a
 | .str z=>if z.cps.all (·<128) then some (vS z) else none
 | _=>none
def iV (g:kX):rZ:=λb e d=>g b e λr a=>match (sd r).bind Ym with
 | some c=>d c a
 | none=>False
noncomputable def mU (lo:Int) (n:Nat):Aa D:=(List.range n).map λ(i:Nat)=>D.int (lo+i)
def Qt (g:kX):rZ:=λb d c=>g b d λr a=>match r with
 | .v (.int j)=>-(2 ^ 62)<=j/\j<2 ^ 62/\c (mU 0 j.toNat) a
 | _=>False
section
variable {X:Cx}{K:kC}
theorem Ph {a:Ad}{g:Aa D}:YD K (tZ K a) g [(.v (.l g),some (.ref a))] where
 vals:=rfl
 go:=λi H A h ok=>by
  obtain⟨v,e,r⟩:=ok _ aM;cases e;obtain⟨k,b,e,_,c,f⟩:=r.lst_inv;cases e;exact⟨b,b[i]'(by rw[<- f.length];exact h),kK.of c,aL _⟩
 yld:=λi H A x m h ok y=>by
  obtain⟨v,e,r⟩:=ok _ aM;cases e;obtain⟨k,b,e,_,c,f⟩:=r.lst_inv;cases e;obtain⟨d,hd,rd⟩:=f.getV (y.2 b (kK.of c));exact⟨d,hd,.inl ⟨y.1,rd⟩⟩
 stop:=λi H A h ok=>by
  obtain⟨v,e,r⟩:=ok _ aM;cases e;obtain⟨k,b,e,_,c,f⟩:=r.lst_inv;cases e;exact⟨b,kK.of c,by rw[<- f.length];omega⟩
theorem Yt {a:Ad}{g:Aa D}:YD K (tZ K a) g [(.v (.c g),some (.ref a))] where
 vals:=rfl
 go:=λi H A k ok=>by
  obtain⟨v,e,r⟩:=ok _ aM;cases e;obtain⟨m,b,e,f,h⟩:=r.scr_inv;cases e;exact⟨b,b[i]'(by rw[<- h.length];exact k),f.sqL,aL _⟩
 yld:=λi H A x n k ok y=>by
  obtain⟨v,e,r⟩:=ok _ aM;cases e;obtain⟨m,b,e,f,h⟩:=r.scr_inv;cases e;obtain⟨d,hd,rd⟩:=h.getV (y.2 b f.sqL);exact⟨d,hd,.inl ⟨y.1,rd⟩⟩
 stop:=λi H A k ok=>by
  obtain⟨v,e,r⟩:=ok _ aM;cases e;obtain⟨m,b,e,f,h⟩:=r.scr_inv;cases e;exact⟨b,f.sqL,by rw[<- h.length];omega⟩
theorem Fv {a:Ad}{d:D}{g:Aa D}(hd:d = .t g\/d = .con g):YD K (wH K a) g [(.v d,some (.ref a))]:=by
 have key:∀ A H,uC K A H [(.v d,some (.ref a))]->∃ b,kO K H a b/\Reps K A H g b:=λA H ok=>by
  obtain⟨v,e,r⟩:=ok _ aM;cases e;rcases hd with rfl | rfl
  .obtain⟨k,b,e,c,f⟩:=r.tup_inv;cases e;exact⟨b,kO.of c,f⟩
  .obtain⟨k,b,e,c,f⟩:=r.con_inv;cases e;exact⟨b,c.sqT,f⟩
 refine⟨rfl,λi H A h ok=>?_,λi H A x m h ok y=>?_,λi H A h ok=>?_⟩
 .obtain⟨b,c,f⟩:=key A H ok;exact⟨b,b[i]'(by rw[<- f.length];exact h),c,aL _⟩
 .obtain⟨b,c,f⟩:=key A H ok;obtain⟨d,hd,rd⟩:=f.getV (y.2 b c);exact⟨d,hd,.inl ⟨y.1,rd⟩⟩
 .obtain⟨b,c,f⟩:=key A H ok;exact⟨b,c,by rw[<- f.length];omega⟩
theorem Th:YD K (vE z) (vS z) [] where
 vals:=rfl
 go:=λi H A a _=>by simpa [vE,vS,Str.length] using a
 yld:=λi H A x d a _ y=>by
  obtain⟨e,c,b,rfl⟩:=y;refine⟨.str ⟨#[c]⟩,?_,.inl ⟨e,.str _⟩⟩;unfold vS;rw[bB,gL,b];rfl
 stop:=λi H A a _=>by simp[vE,a,vS,Str.length]
theorem So {lo:Int}:YD K (vM lo n) (mU lo n) [] where
 vals:=rfl
 go:=λi H A a _=>by simpa [vM,mU] using a
 yld:=λi H A x c a _ y=>by
  have b:i<n:=by simpa [mU] using a
  refine⟨.int (lo+i),by simp[mU,b],.inl ⟨y.1,?_⟩⟩;rw[y.2];exact .int _
 stop:=λi H A a _=>by simp[vM,mU,a]
theorem nN (g:PD X e j):vY X o e (iV j):=(Ir g).mono λM H R w=>w.elim λB L T G E hd F k=>⟨B,L,T,_,E,hd,F,λr f v n q d1 b=>by
 cases u:sd r with
 | none=>rw[u] at b;exact b.elim
 | some d =>
  rw[u] at b;have d2:=d1.thaw u;have s:=d2.valAt;cases d with
  | l m=>obtain⟨a,i,rfl,_,h,y⟩:=s.lst_inv;exact .inl ⟨a,rfl,⟨i,kK.of h⟩,k _ m f [_] n q d2 Ph b⟩
  | c m=>obtain⟨a,i,rfl,h,y⟩:=s.scr_inv;exact .inl ⟨a,rfl,⟨i,h.sqL⟩,k _ m f [_] n q d2 Yt b⟩
  | t m=>obtain⟨a,i,rfl,h,y⟩:=s.tup_inv;exact .inr (.inl ⟨a,rfl,⟨i,kO.of h⟩,k _ m f [_] n q d2 (Fv (.inl rfl)) b⟩)
  | con m=>obtain⟨a,i,rfl,h,y⟩:=s.con_inv;exact .inr (.inl ⟨a,rfl,⟨i,h.sqT⟩,k _ m f [_] n q d2 (Fv (.inr rfl)) b⟩)
  | str z =>
   have:=s.str_inv;subst this;have b:=(show (match (if z.cps.all (·<128)=true then some (vS z) else none:Ab (Aa D)) with | some A=>G A f | none=>False) from b);by_cases x:z.cps.all (·<128)=true
   .rw[aH x] at b;exact .inr (.inr ⟨z,rfl,x,k _ _ f [] n q d2.drop Th b⟩)
   .rw[aE x] at b;exact b.elim
  | _=>exact b.elim⟩
theorem tI (j:Gl X "range") (l:X.mg "range" = none) (g:PD X a I) (C:starEach [a] X.env=[(false,eval a X.env)]:=by rfl) (o:wE a=true:=by rfl):vY X J (.Call (.Name "range" p) [a] [] pos) (Qt I) :=
 (N0 j l (A6 g D5 o) C).mono λs H R c=>c.elim λB n T q h hd i k=>⟨B,n,T,_,h,hd,i,λr e v f m d1 b=>by
  cases r<;>first | exact False.elim b | skip
  rename_i d
  cases d<;>first | exact False.elim b | skip
  have:=d1.valAt.int_inv;subst this;exact⟨_,rfl,b.1,b.2.1,k _ _ e [] f m d1.drop So b.2.2⟩⟩
def Ez (l:rZ) (g:qM) (j:nH):nH:=λf b k=>l f k λh c=>∃ Pv:Nat->Aa Sl->Prop,Pv 0 c /\
 (∀ i d a,h[i]?=some d->Pv i a->g d a λe=>j f { nx:=Pv (i+1),ct:=Pv (i+1),bk:=b.nx,rt:=b.rt } e)/\∀ a,Pv h.length a->b.nx a
theorem DS.rmE:∀ {E:lN},DS K B (L++(E++T)) H->DS K B (L++T) H
 | [],h=>h
 | x::E,h=>DS.rmE (E:=E) (DS.drop (L1:=L) (x:=x) (by simpa using h))
theorem oD {iter:Expr}{body:Aa Stmt}{o:rZ}{g:qM}{j:nH}(hi:vY X l iter o) (U:rY X 99 l g) (C:qT X body j) (hp:PassesOwn (model X.prog X.w) X.A X.env X.xe:=by exact jJ) (I:X.calm=true:=by rfl)
  (hs:∀ x,foldedSetIterable iter X.env x=pure x:=by intro _;rfl):pZ X (.For l iter body [] pos) (Ez o g j) :=
 (D8 hp I hi U C hs).mono λDn V H O=>O.elim λB ρ T De hl hd ht lk=>⟨B,ρ,T,_,hl,hd,ht,λJ F R E H1 l1 d1 Y P=>by
  obtain⟨Pv,p0,step,fin⟩:=P;refine⟨λi m c k=>m=F.length-i/\i<=F.length/\∃ a,a.length=c.length/\c.length=V.length/\DS X.K B (a.zip c++(E++T)) k/\Pv i a,⟨_,rfl,dN _,R,l1,rfl,d1,p0⟩,?_⟩;rintro i m c k ⟨rfl,Z,a,S,m2,L,pv⟩;have n:uC X.K (Al B (gD (a.zip c++(E++T)))) k E:=λq hq=>L.ok q (by simp[hq])
  by_cases s:i<F.length
  .refine .inr ⟨Y.go i k _ s n,λf t=>∃ b,b.length=f.length/\f.length=V.length/\DS X.K B (b.zip f++(E++T)) t/\Pv (i+1) b,λf t ⟨b,q1,q2,Q,q4⟩=>⟨_,(by omega:F.length-(i+1)<_),rfl,s,b,q1,q2,Q,q4⟩,λx t y=>?_⟩;obtain⟨d,M,alt⟩:=Y.yld i k _ x t s n y;have d2:DS X.K B (a.zip c++(.v d,some x)::(E++T)) t:=by
    rcases alt with⟨rfl,rx⟩ | ⟨p,es,vs,N,rfl,rfl,rfl,rr⟩
    .exact L.push rx
    .exact L.tup N rr
   refine⟨B,a,E++T,d,_,S,d2,step i d a M pv,λb f H3 n1 n2 _ d3 Q=>⟨B,b,E++T,_,n1,d3,Q,?_,?_⟩⟩
   .intro e h G u a2 D;refine⟨λz=>⟨e,u,by omega,D,z⟩,λz=>?_,λz=>⟨e,u,by omega,D,z⟩⟩;exact (lk.1 e h G u (by omega) D.rmE).1 z
   .intro r v e h G u D z;refine lk.2 r v e h G u ?_ z;have:DS X.K B ((e.zip h++[(r,some v)])++(E++T)) G:=by simpa using D
    simpa using this.rmE
  .have W:i=F.length:=by omega
   subst W;exact .inl ⟨Y.stop _ k _ rfl n,(lk.1 a c k S m2 L.rmE).1 (fin a pv)⟩⟩
def M4 (c:mY) (g:nH):nH:=λi h d=>∃ (Pv:Aa Sl->Prop) (f:Aa Sl->Nat),Pv d/\∀ d,Pv d->c i d λb e =>
 if b=true then g i { nx:=λa=>Pv a/\f a<f d,ct:=λa=>Pv a/\f a<f d,bk:=h.nx,rt:=h.rt } e else h.nx e
theorem Qx {c:Expr}{body:Aa Stmt}{j:mY}{g:nH}(p:PassesOwn (model X.prog X.w) X.A X.env X.xe) (o:pN X c j) (l:qT X body g):pZ X (.While c body [] pos) (M4 j g) :=
 (Q6 p o l).mono λC F H t=>t.elim λB Y T Z M hd ⟨Pv,u,P,step⟩ lk=>by
  refine⟨λm f x=>∃ a,m=u a/\a.length=f.length/\f.length=F.length/\DS X.K B (a.zip f++T) x/\Pv a,⟨_,Y,rfl,M,rfl,hd,P⟩,?_⟩;rintro m f x ⟨a,rfl,N,O,L,pv⟩;refine⟨B,a,T,_,N,L,step a pv,λb q G E d1 D=>?_⟩;cases b with
  | true =>
   refine (aH rfl).mpr ⟨λh y=>∃ d,d.length=h.length/\h.length=F.length/\DS X.K B (d.zip h++T) y/\Pv d/\u d<u a,λh y ⟨d,Q,R,S,V,W⟩=>⟨_,W,d,rfl,Q,R,S,V⟩,B,q,T,_,E,d1,(aH rfl).mp D,?_,?_⟩
   .intro e i s k I n;exact⟨λz=>⟨e,k,by omega,n,z⟩,λz=>(lk.1 e i s k (by omega) n).1 z,λz=>⟨e,k,by omega,n,z⟩⟩
   .exact λr v e i s k n z=>lk.2 r v e i s k n z
  | false=>exact uA ((lk.1 q f G E O d1).1 ((aE (by decide)).mp D))
end
def lD (B:Bs) (D:Ad) (g:Aa V):Bs:=⟨B.dk,λa=>(B.A0 a\/B.H0 a=none)/\a≠D,λa=>if a=D then some (.l g) else B.H0 a⟩
section
variable {K:kC}{R:lN}{D:Ad}
theorem wS {R:Aa Ad}:Al (lD B D g) R a↔Al B R a/\a≠D:=by
 unfold Al lD;constructor
 .rintro ⟨c,d,b | b⟩
  .exact⟨⟨c,d,b.1⟩,b.2⟩
  .dsimp only at b;by_cases z:a=D
   .rw[aH z] at b;cases b
   .rw[aE z] at b;exact⟨⟨c,d,.inr b⟩,z⟩
 .rintro ⟨⟨c,d,b⟩,e⟩;exact⟨c,d,.inl ⟨b,e⟩⟩
theorem DS.pin (h:DS K B L H) (g:H D=none):DS K (lD B D []) L (upd H D (.l [])):=by
 obtain⟨f1,f2,d⟩:=h.free g;refine⟨λb o e n=>?_,h.dk.upd f2,h.nd,λa c=>?_,λp f=>(h.ok p f).mono (.laid g λa z n=>wS.mpr ⟨z,n⟩) λb i o q=>by rw[lC (oA q g)];exact q⟩
 .by_cases z:b=D
  .subst z;simp only[lD,eF] at e;cases e;exact mB
  .simp only[lD,aE z] at e;rw[lC z];exact h.fr b o e n
 .have:=h.new a c;have z:a≠D:=λq=>d (q▸c)
  exact⟨by simp only[lD,aE z];exact this.1,this.2⟩
theorem DS.pinAt (h:DS K (lD B D j) L H) (g:D∉B.dk):H D=some (.l j):=h.fr D _ (by simp[lD]) g
theorem DS.pinW (h:DS K (lD B D j) L H) (g:D∉B.dk):DS K (lD B D ys') L (upd H D (.l ys')):=by
 have d:=h.pinAt g;have k:Kp (Al (lD B D j) (gD L)) (Al (lD B D ys') (gD L)) H (upd H D (.l ys')) :=
  (Kp.write (A:=Al (lD B D j) (gD L)) d rfl λz=>(wS.mp z).2 rfl).trans (.all λa z=>wS.mpr (wS.mp z))
 refine⟨λb o e n=>?_,h.dk.upd g,h.nd,λa f=>?_,λp c=>(h.ok p c).mono k λb i o q=>?_⟩
 .by_cases z:b=D
  .subst z;simp only[lD,eF] at e;cases e;exact mB
  .simp only[lD,aE z] at e;rw[lC z];exact h.fr b o (by simp only[lD,aE z];exact e) n
 .have:=h.new a f;have z:a≠D:=λq=>by subst q;simp[lD] at this
  simp only[lD,aE z] at this |-;exact this
 .have:=(h.new b (qL.mpr ⟨p,c,i⟩)).1;have z:b≠D:=λw=>by subst w;simp[lD] at this
  rw[lC z];exact q
theorem DS.unpin (h:DS K (lD B D g) L H) (r:Reps K (Al (lD B D g) (gD L)) H I g) (j:B.H0 D=none) (C:D∉B.dk):DS K B ((.o (.l I),some (.ref D))::L) H:=by
 have k:=h.pinAt C;have i:D∉gD L:=λz=>by have:=(h.new D z).1;simp[lD] at this
 have c:gD ((Sl.o (.l I),some (V.ref D))::L)=D::gD L:=rfl;have al:∀ a,Al (lD B D g) (gD L) a->Al B (D::gD L) a:=λa z=>by
  obtain⟨d,s⟩:=wS.mp z;exact⟨d.1,λq=>(aJ.mp q).elim s d.2.1,d.2.2⟩
 refine⟨λb o e n=>?_,h.dk,by rw[c];exact bP.mpr ⟨i,h.nd⟩,λa f=>?_,λp m=>?_⟩
 .have z:b≠D:=λq=>by subst q;rw[j] at e;cases e
  exact h.fr b o (by simp only[lD,aE z];exact e) n
 .rw[c] at f;rcases aJ.mp f with q | q
  .subst q;exact⟨j,C⟩
  .have:=h.new a q;have z:a≠D:=λw=>i (w▸q)
   simp only[lD,aE z] at this;exact this
 .rw[c];rcases aJ.mp m with q | q
  .subst q;exact⟨D,rfl,g,k,r.mono (.all al)⟩
  .exact (h.ok p q).mono (.all al) λ_ _ _ w=>w
theorem DS.lend1 {g:Aa Sl}{j:St}(l:g.length=j.length) (h:DS K B (g.zip j++R) H) (i:Nat):DS K B ((g.set i .n).zip j++((g[i]?).getD .n,(j[i]?).join)::R) H:=by
 by_cases d:i<g.length
 .obtain⟨b,y,c,f,_,t,a⟩:=rQ l (aL d);rw[t] at h;have k:DS K B (b++(g[i],y)::(c++R)) H:=by simpa using h
  have m:=k.front;have q:DS K B (((g[i],y)::b)++(.n,y)::(c++R)) H:=DS.pushN (L1:=(g[i],y)::b) (by simpa using m) y;have e:=a .n y;rw[vH f] at e;rw[e,aL d,f];have s:DS K B ((g[i],y)::((b++(Sl.n,y)::c)++R)) H:=by simpa using q
  exact s.mid
 .rw[fR (by omega),List.getElem?_eq_none (by omega),List.getElem?_eq_none (by omega)];exact h.pushN _
theorem DS.back1 {g:Aa Sl}{l:St}{s:Sl}{y:Ab V}(o:g.length=l.length) (h:DS K B (g.zip l++(s,y)::R) H){i:Nat}(j:(l[i]?).join=y):DS K B ((g.set i s).zip l++R) H:=by
 by_cases q:i<g.length
 .obtain⟨d,a,f,c,_,t,b⟩:=rQ o (aL q);rw[c] at j;have j:a=y:=j;subst j;have e:=b s a;rw[vH c] at e;rw[e];rw[t] at h;have k:DS K B (d++(f++(s,a)::R)) H:=DS.drop (L1:=d) (x:=(g[i],a)) (by simpa using h);have m:DS K B ((d++f)++(s,a)::R) H:=by simpa using k
  have n:DS K B ((s,a)::(d++(f++R))) H:=by simpa using m.front
  simpa using n.mid
 .rw[fR (by omega)];exact h.drop
def mR (g:Aa Nat) (j:Aa Sl):Aa Sl:=g.map λi=>(j[i]?).getD .n
def nU (g:Aa Nat) (j:St):St:=g.map λi=>(j[i]?).join
def mN (g:Aa Nat) (j:Aa Sl):Aa Sl:=g.foldl (λj i=>j.set i .n) j
def nG:Aa Nat->Aa Sl->Aa Sl->Aa Sl
 | i::a,s::c,b=>nG a c (b.set i s)
 | _,_,b=>b
theorem Dr:∀ (g:Aa Nat) (j:Aa Sl),(mN g j).length=j.length
 | [],_=>rfl
 | i::g,j=>by show (mN g (j.set i .n)).length=_;rw[Dr g,bL]
theorem Gq:∀ (g:Aa Nat) (l:Aa Sl) (j:Aa Sl),(nG g l j).length=j.length
 | [],_,_=>rfl
 | _::_,[],_=>rfl
 | i::g,s::l,j=>(Gq g l (j.set i s)).trans (bL ..)
theorem DS.lend:∀ {caps:Aa Nat}{g:Aa Sl}{R:lN},caps.Nodup->g.length=l.length->DS K B (g.zip l++R) H->DS K B ((mN caps g).zip l++((mR caps g).zip (nU caps l)++R)) H
 | [],g,R,_,a,h=>h
 | i::caps,g,R,d,a,h=>by
  obtain⟨f,k⟩:=bP.mp d;have b:=DS.lend (caps:=caps) (R:=((g[i]?).getD .n,(l[i]?).join)::R) k (by rw[bL];exact a) (h.lend1 a i);have e:mR caps (g.set i .n)=mR caps g:=eN λj c=>by rw[dO (λz:i=j=>f (by rw[z];exact c))]
  rw[e] at b;show DS K B ((mN caps (g.set i .n)).zip l++((((g[i]?).getD .n,(l[i]?).join)::(mR caps g).zip (nU caps l))++R)) H;refine b.perm (List.Perm.append_left _ ?_);rw[bV];exact fY
theorem DS.back:∀ {caps:Aa Nat}{cs:Aa Sl}{g:Aa Sl}{R:lN},cs.length=caps.length->g.length=j.length->DS K B (g.zip j++(cs.zip (nU caps j)++R)) H->DS K B ((nG caps cs g).zip j++R) H
 | [],[],g,R,_,a,h=>h
 | [],_::_,_,_,e,_,_=>by simp at e
 | _::_,[],_,_,e,_,_=>by simp at e
 | i::caps,s::cs,g,R,e,a,h=>by
  have b:DS K B (g.zip j++(s,(j[i]?).join)::(cs.zip (nU caps j)++R)) H:=h;exact DS.back (caps:=caps) (cs:=cs) (by simpa using e) (by rw[bL];exact a) (b.back1 a rfl)
theorem Tf (g:Aa Nat):∀ (o:Aa Sl) (l:Aa Sl),o.length=g.length->g.Nodup->nG g o (mN g l)=nG g o l:=by
 have ext:∀ (g:Aa Nat) (o:Aa Sl) (l a:Aa Sl),o.length=g.length->l.length=a.length->(∀ j,j∉g->l[j]?=a[j]?)->nG g o l=nG g o a:=by
  intro g;induction g with
  | nil=>intro o l a _ _ h;cases o<;>exact List.ext_getElem? λj=>h j bZ
  | cons i g c =>
   intro o l a e d h;cases o with
   | nil=>simp at e
   | cons s o =>
    show nG g o (l.set i s)=nG g o (a.set i s);refine c o _ _ (by simpa using e) (by simp[d]) λj b=>?_
    by_cases z:j=i
    .subst z;rw[List.getElem?_set,List.getElem?_set,d,aH rfl,aH rfl]
    .rw[dO (dH z),dO (dH z)];exact h j λq=>(aJ.mp q).elim z b
 intro o l e _;refine ext g o _ _ e (Dr g l) λj b=>?_
 have:∀ (g:Aa Nat) (l:Aa Sl),j∉g->(mN g l)[j]?=l[j]?:=by
  intro g;induction g with
  | nil=>intro l _;rfl
  | cons i g c =>
   intro l b;show (mN g (l.set i .n))[j]?=_;rw[c _ (λz=>b (aV _ z)),dO (λz=>b (by simp[z]))]
 exact this g l b
theorem Jm:∀ {g:Aa L2.D}{j:Aa V},g.length=j.length->(∀ p∈mX g j,oY K A H p.1 p.2)->Reps K A H g j
 | [],[],_,_=>.nil
 | [],_::_,e,_=>by simp at e
 | _::_,[],e,_=>by simp at e
 | c::g,y::j,e,key=>by
  obtain⟨u,b,r⟩:=key (.v c,some y) (by simp[mX]);cases b;exact .cons r (Jm (by simpa using e) λp a=>key p (by simp only[mX,eV,aI,aJ] at a |-;exact .inr a))
theorem DS.forget {ρ:Aa Sl}(n:Nat) (g:ρ.length=σ.length) (j:n<=ρ.length) (h:DS K B (ρ.zip σ++R) H):DS K B ((List.replicate n Sl.n++ρ.drop n).zip σ++R) H:=by
 induction n generalizing ρ σ R with
 | zero=>simpa using h
 | succ n c =>
  cases ρ with
  | nil=>simp at j
  | cons r ρ =>
   cases σ with
   | nil=>simp at g
   | cons y σ =>
    have a:DS K B (ρ.zip σ++R) H:=DS.drop (L1:=[]) (x:=(r,y)) h;have b:=c (ρ:=ρ) (σ:=σ) (R:=R) (by simpa using g) (by simpa using j) a;rw[cL,bV,List.drop_succ_cons,eV];exact DS.pushN (L1:=[]) b y
end
def Dj:mY:=λ_ b a=>a true b
def tU (n:Nat) (j:Aa Nat) (C:rZ) (g:qM) (tt:mY) (p:kX):kX:=λk u t=>C k u λs f=>∃ Pv:Nat->Aa D->Aa Sl->Prop,Pv 0 [] (mR j f) /\
 (∀ i d e a,s[i]?=some d->a.length=j.length->Pv i e a->g d (List.replicate n Sl.n++a) λm=>tt k m λb h=>if b=true then p k h λr q=>match sd r with
  | some c=>e.length<100000/\Pv (i+1) (e++[c]) (q.drop n)
  | none=>False
  else Pv (i+1) e (h.drop n)) /\
 ∀ e a,a.length=j.length->Pv s.length e a->t (.o (.l e)) (nG j a f)
section
variable {X:Cx}
theorem C5:rW X [] (pP X.K Dj):=λa s f H Q I b=>b.elim λB e T h c hd d k=>Wx a s f H Q I (k true e H c hd d)
theorem L0 (h:pN X c t):rW X [c] (pP X.K t):=Xs h
theorem Fj {T:Aa Af}{C:Aa Nat}{g:qM}{tt:mY}{te:kX}{K:kC}(ac:C.Nodup){σ:St}{H1:Hp}{Q:VK}{B:Bs}{I:Aa Sl}{Tm:lN}{Φ:Sl->Aa Sl->Prop}{J:It}{ds:Aa L2.D}{D:Ad}(l1:I.length=σ.length) (d1:DS K B (I.zip σ++Tm) H1)
  (hJ:∀ i U La M H,(∀ q∈Tm,q∈M)->DS K (lD B D U) (La++M) H->(i<ds.length->J.go i H)/\(i=ds.length->J.stop i H)/\∀ x H2,i<ds.length->J.yld i H x H2->∃ d,ds[i]?=some d/\DS K (lD B D U) (La++(.v d,some x)::M) H2)
  (ag:∃ Pv:Nat->Aa L2.D->Aa Sl->Prop,Pv 0 [] (mR C I) /\ (∀ i d U cs,ds[i]?=some d->cs.length=C.length->Pv i U cs->g d (List.replicate T.length Sl.n++cs) λaf=>tt B.dk af λb ab=>if b=true then te B.dk ab λr aa=>match sd r with
    | some c=>U.length<100000/\Pv (i+1) (U++[c]) (aa.drop T.length)
    | none=>False
    else Pv (i+1) U (ab.drop T.length)) /\
   ∀ U cs,cs.length=C.length->Pv ds.length U cs->Φ (.o (.l U)) (nG C cs I))
  (k:∀ r ae v H',ae.length=σ.length->DS K B (ae.zip σ++(r,some v)::Tm) H'->Φ r ae->Q v H') (hD:H1 D=none):Ct T C J (dG K T.length g) (pP K tt) (dE K te) σ H1 Q D:=by
 obtain⟨Pv,p0,step,fin⟩:=ag;obtain⟨f1,f2,f3⟩:=d1.free hD;refine⟨λi m U s H'=>m=ds.length-i/\i<=ds.length/\s.length=T.length+C.length/\(∀ j,T.length<=j->s[j]?=(oK T C σ)[j]?)/\∃ (h:Aa L2.D) (cs:Aa Sl),cs.length=C.length/\h.length=U.length /\ DS K (lD B D U) ((List.replicate T.length Sl.n++cs).zip s++((mN C I).zip σ++(mX h U++Tm))) H'/\Pv i h cs,?_,?_⟩
 .refine⟨_,rfl,dN _,by simp[oK],λ_ _=>rfl,[],mR C I,by simp[mR],rfl,?_,p0⟩;have h2:=(d1.lend ac l1).pin hD;have e:(List.replicate T.length Sl.n++mR C I).zip (oK T C σ)=List.replicate T.length (Sl.n,none)++(mR C I).zip (nU C σ):=by
   have:∀ n,(List.replicate n Sl.n++mR C I).zip (List.replicate n none++nU C σ)=List.replicate n (Sl.n,none)++(mR C I).zip (nU C σ):=by
    intro n;induction n with
    | zero=>rfl
    | succ n ih=>simp only[cL,bV,eV,ih]
   have W:oK T C σ=List.replicate T.length none++nU C σ:=by unfold oK nU;rw[List.map_const']
   rw[W];exact this _
  rw[e];have h3:DS K (lD B D []) ((mR C I).zip (nU C σ)++((mN C I).zip σ++Tm)) (upd H1 D (.l [])):=h2.perm (by
   rw[<- aX,<- aX (as:=(mR C I).zip (nU C σ))];exact List.perm_append_comm.append_right _)
  have:∀ n,DS K (lD B D []) (List.replicate n (Sl.n,none)++((mR C I).zip (nU C σ)++((mN C I).zip σ++Tm))) (upd H1 D (.l [])):=by
   intro n;induction n with
   | zero=>exact h3
   | succ n ih=>rw[cL];exact DS.pushN (L1:=[]) ih none
  have e3:mX ([]:Aa L2.D) ([]:Aa V)=[]:=rfl;rw[e3]
  simpa using this T.length
 .rintro i m U s H' ⟨rfl,hi,ls,fs,h,cs,G,z,N,pv⟩;obtain⟨j1,j2,j3⟩:=hJ i U _ _ H' (λq hq=>by simp[hq]) N;by_cases w:i<ds.length
  .refine .inr ⟨j1 w,λf v R=>f.length=T.length+C.length/\(∀ j,T.length<=j->f[j]?=(oK T C σ)[j]?)/\U.length<100000/\∃ (c:L2.D) (aa:Aa Sl),aa.length=f.length/\DS K (lD B D U) (aa.zip f++(.v c,some v)::((mN C I).zip σ++(mX h U++Tm))) R/\Pv (i+1) (h++[c]) (aa.drop T.length),λf P=>f.length=T.length+C.length/\(∀ j,T.length<=j->f[j]?=(oK T C σ)[j]?)/\∃ aa:Aa Sl,aa.length=f.length/\DS K (lD B D U) (aa.zip f++((mN C I).zip σ++(mX h U++Tm))) P/\Pv (i+1) h (aa.drop T.length),?_,?_,λx H2 y=>?_⟩
   .rintro f v R ⟨q1,q2,q3,c,aa,A,t,q6⟩;refine⟨t.pinAt f2,aY q3 (by decide),ds.length-(i+1),by omega,rfl,w,q1,q2,h++[c],aa.drop T.length,by rw[eT];omega,by simp[z],?_,q6⟩;have w1:=(t.pinW (ys':=U++[v]) f2).forget T.length A (by omega);refine w1.perm (List.Perm.append_left _ ?_);have ev:mX (h++[c]) (U++[v])=mX h U++[(.v c,some v)]:=by unfold mX;rw[List.zip_append z,List.map_append];rfl
    rw[ev];have p1:((Sl.v c,some v)::((mN C I).zip σ++(mX h U++Tm))).Perm ((mN C I).zip σ++(mX h U++((Sl.v c,some v)::Tm))):=by
     rw[<- aX,<- aX (as:=(mN C I).zip σ)];exact fY.symm
    simpa using p1
   .rintro f P ⟨q1,q2,aa,A,t,q6⟩;exact⟨ds.length-(i+1),by omega,rfl,w,q1,q2,h,aa.drop T.length,by rw[eT];omega,z,t.forget T.length A (by omega),q6⟩
   .obtain⟨d,Z,d2⟩:=j3 x H2 w y;refine⟨lD B D U,_,_,d,_,by simp[G,ls],d2,step i d h cs Z G pv,λaf f H3 n1 n2 fr d3 q3=>⟨lD B D U,af,_,_,n1,d3,q3,λb ab P m1 d4 A=>?_⟩⟩;have F:∀ j,T.length<=j->f[j]?=(oK T C σ)[j]?:=λj O=>(fr j O).trans (fs j O)
    cases b with
    | false=>exact uA ⟨by omega,F,ab,m1,d4,(aE (by decide)).mp A⟩
    | true =>
     refine (aH rfl).mpr ⟨lD B D U,ab,_,_,m1,d4,(aH rfl).mp A,λr aa v R m4 d5 t=>?_⟩;cases S:sd r with
     | none=>rw[S] at t;exact t.elim
     | some c =>
      rw[S] at t;exact⟨by omega,F,by rw[<- z];exact t.1,c,aa,m4,d5.thaw S,t.2⟩
  .have ei:i=ds.length:=by omega
   subst ei;refine .inl ⟨j2 rfl,?_⟩;have es:s=s.take T.length++nU C σ:=by
    apply List.ext_getElem?;intro j;by_cases O:j<T.length
    .rw[eX (by rw[bY];omega),List.getElem?_take_of_lt O]
    .rw[cZ (by rw[bY];omega),bY,fs j (by omega)];have W:oK T C σ=List.replicate T.length none++nU C σ:=by unfold oK nU;rw[List.map_const']
     rw[W,cZ (by rw[eD];omega),eD]
     congr 1
     omega
   have ez:(List.replicate T.length Sl.n++cs).zip s=(List.replicate T.length Sl.n).zip (s.take T.length)++cs.zip (nU C σ):=by
    conv=>lhs;rw[es]
    exact List.zip_append (by rw[eD,bY];omega)
   have rr:Reps K (Al (lD B D U) (gD ((nG C cs (mN C I)).zip σ++Tm))) H' h U/\DS K (lD B D U) ((nG C cs (mN C I)).zip σ++Tm) H':=by
    have g1:DS K (lD B D U) (cs.zip (nU C σ)++((mN C I).zip σ++(mX h U++Tm))) H':=by
     rw[ez,aX] at N;exact DS.rmE (L:=[]) (E:=(List.replicate T.length Sl.n).zip (s.take T.length)) N
    have g2:DS K (lD B D U) ((mN C I).zip σ++(cs.zip (nU C σ)++(mX h U++Tm))) H':=g1.perm (by
     rw[<- aX,<- aX (as:=(mN C I).zip σ)];exact List.perm_append_comm.append_right _)
    have g3:=g2.back G (by rw[Dr];exact l1);have Y:DS K (lD B D U) ((nG C cs (mN C I)).zip σ++(mX h U++Tm)) H':=g3;refine⟨?_,Y.rmE⟩;have er:gD ((nG C cs (mN C I)).zip σ++(mX h U++Tm))=gD ((nG C cs (mN C I)).zip σ++Tm):=by
     have:gD (mX h U)=[]:=by
      refine gA.mpr λa ha=>?_
      obtain⟨q,hq,e⟩:=qL.mp ha;obtain⟨p,_,rfl⟩:=bE.mp hq;cases e
     rw[oC,oC,oC,this,eZ]
    have key:∀ p∈mX h U,oY K (Al (lD B D U) (gD ((nG C cs (mN C I)).zip σ++Tm))) H' p.1 p.2:=λp hp=>by
     have:=Y.ok p (by simp[hp]);rw[er] at this;exact this
    clear g1 g2 g3 Y er N ez es;revert key z;generalize Al (lD B D U) (gD ((nG C cs (mN C I)).zip σ++Tm))=AA;intro z key;exact Jm z key
   have u:=DS.unpin rr.2 rr.1 f1 f2;rw[Tf C cs I G ac] at u;exact k _ _ _ H' (by rw[Gq];exact l1) u.mid (fin h cs G pv)
theorem Fh {tt:mY}{K:kC}(o:j.Nodup) (h:dE K (tU T.length j U g tt I) C H Q) :
  xX T j (dI K U) (dG K T.length g) (pP K tt) (dE K I) C H Q:=by
 obtain⟨B,R,Tm,Φ,A,hd,G,k⟩:=h;refine⟨B,R,Tm,_,A,hd,G,λJ W S E V L d1 Y z D u=>Fj o (Tm:=E++Tm) L d1 (λi P s M H w d=>?_) z (λr c v m l d h=>k r c v m l (by
  have:DS K B ((c.zip C++[(r,some v)])++(E++Tm)) m:=by simpa using d
  simpa using this.rmE) h) u⟩
 have a:uC K (Al (lD B D P) (gD (s++M))) H E:=λq F=>d.ok q (by simp[w q (by simp[F])])
 refine⟨λb=>Y.go i H _ b a,λb=>Y.stop i H _ b a,λx n b y=>?_⟩;obtain⟨t,e,alt⟩:=Y.yld i H _ x n b a y;refine⟨t,e,?_⟩;rcases alt with⟨rfl,O⟩ | ⟨p,Z,vs,f,rfl,rfl,rfl,N⟩
 .exact d.push O
 .exact d.tup f N
theorem rH {iter:Expr}{tt:mY}(T o:Aa Af) (r:Aa Nat) (hi:vY X tg iter ι)
  (hg:∀ p l C I J,rY (pC X (T++o) j I C p l J) T.length tg g)
  (he:∀ p l C I J,PD (pC X (T++o) j I C p l J) aa te)
  (ht:∀ p l C I J,rW (pC X (T++o) j I C p l J) ab (pP X.K tt):=by exact λ_ _ _ _ _=>C5) (hc:X.calm=true:=by rfl) (hk:j.kind = .function:=by rfl) (ho:yF X.N X.env.kindOf j T o r=true:=by rfl) (U:r.Nodup:=by decide) (hs:∀ x,foldedSetIterable iter X.env x=pure x:=by intro _;rfl):PD X (.ListComp aa [⟨tg,iter,ab,0⟩] j pos) (tU T.length r ι g tt te) :=
 (Go T o r hc hi hk ho hg ht he hs).mono λ_ _ _ h=>Fh U h
theorem Ov (i:Nat){iter:Expr}{tt:mY}(T o:Aa Af) (I:Aa Nat) (hN:X.N.Nodup) (hi:vY X tg iter ι) (hg:∀ p l C J fp,rY (pC X (T++o) j J C p l fp) T.length tg g)
  (he:∀ p l C J fp,PD (pC X (T++o) j J C p l fp) U te)
  (ht:∀ p l C J fp,rW (pC X (T++o) j J C p l fp) ab (pP X.K tt):=by exact λ_ _ _ _ _=>C5) (hc:X.calm=true:=by rfl) (hk:j.kind = .function:=by rfl) (ho:yF X.N X.env.kindOf j T o I=true:=by rfl) (af:X.N[i]?=some x:=by rfl) (hx:rE X.env.scope x:=by first | exact Or.inl rfl | exact Or.inr rfl) (aa:I.Nodup:=by decide)
  (ag:swapsWith (.ListComp U [⟨tg,iter,ab,0⟩] j pos) (some (.Name x ac)) ae.line X.env=pure true:=by rfl)
  (hs:∀ x,foldedSetIterable iter X.env x=pure x:=by intro _;rfl)
  (hf:X.fn x=true\/X.env.scope.names.lookup x=some .local:=by first | exact .inl rfl | exact .inr rfl | assumption) :
  pZ X (.Assign [.Name x ac] (.ListComp U [⟨tg,iter,ab,0⟩] j pos) ae) (tT i (tU T.length I ι g tt te)) :=
 (Q4 T o I hN af hx hc hi hk ho hg ht he ag hs hf).mono λm n H a=>a.elim λB f Tm k e hd ht lk=>Fh aa ⟨B,f,Tm,_,e,hd,ht,λr h v c b d1 d=>(lk.1 _ _ c (by rw[bL,bL];exact b) (bL ..) (d1.assign b i)).1 d⟩
end
section
variable {X:Cx}{K:kC}
theorem qA (h:Peeks K A H [d] g):∃ x,g=[x]/\lB K A H d x:=by
 cases h with | cons h r=>cases r;exact⟨_,rfl,h⟩
theorem yP (h:Peeks K A H [d,e] j):∃ x y,j=[x,y]/\lB K A H d x/\lB K A H e y:=by
 cases h with | cons h r=>cases r with | cons g r=>cases r;exact⟨_,_,rfl,h,g⟩
def Xw:D->Ab Nat
 | .l a=>some a.length
 | .t a=>some a.length
 | .con a=>some a.length
 | .c a=>some a.length
 | .str z=>some z.length
 | .k b=>some b.length
 | _=>none
def P2:OC:=λa b=>match a with
 | [d]=>E2 d=true/\∃ n,Xw d=some n/\b (.v (.int n))
 | _=>False
def J3 (K:kC):Aa V->Hp->VK->Prop:=λc H Q=>(∃ p d,c=[.ref p]/\(kK K H p d\/kO K H p d)/\Q (.int d.length) H)\/(∃ z,c=[.str z]/\z.length<=sizeLine/\Q (.int z.length) H)\/∃ a b,c=[V.ref a]/\H a=some (.k b)/\Q (.int b.length) H
theorem A5:lS X (.builtin "len") (J3 X.K):=Ur.or (Q0.or Sh)
theorem zY:oU K (J3 K) P2:=by
 intro B L H m t u Q hd q i k;cases m with
 | nil=>exact False.elim i
 | cons d m =>
 cases m with
 | cons _ _=>exact False.elim i
 | nil =>
 obtain⟨x,rfl,f⟩:=qA q;obtain⟨s,n,c,i⟩:=i;have fin:Q (.int n) H:=k _ _ H i (hd.pushF (.int _));cases d<;>first | (cases c;done) | skip
 .cases c;have:=f.str_inv;subst this;exact .inr (.inl ⟨_,rfl,uD (dR s),fin⟩)
 .cases c;obtain⟨a,b,rfl,h,r⟩:=f.tup_inv;exact .inl ⟨a,b,rfl,.inr (kO.of h),by rw[<- r.length];exact fin⟩
 .cases c;obtain⟨a,b,rfl,h,r⟩:=f.lst_inv;exact .inl ⟨a,b,rfl,.inl (kK.of h),by rw[<- r.length];exact fin⟩
 .cases c;obtain⟨a,b,rfl,h,e,r⟩:=f.dK_inv;refine .inr (.inr ⟨a,b,rfl,h,?_⟩);have:=cO List.length e;rw[aD,aD] at this;rw[<- this];exact fin
 .cases c;obtain⟨a,b,rfl,h,r⟩:=f.scr_inv;exact .inl ⟨a,b,rfl,.inl h.sqL,by rw[<- r.length];exact fin⟩
 .cases c;obtain⟨a,b,rfl,h,r⟩:=f.con_inv;exact .inl ⟨a,b,rfl,.inr h.sqT,by rw[<- r.length];exact fin⟩
noncomputable def sY:Aa D->Ab (Aa Int)
 | []=>some []
 | .int i::a=>(sY a).map (i::·)
 | _=>none
theorem B2:∀ (g:Aa Int),sY (g.map D.int)=some g
 | []=>rfl
 | n::g=>by
  show (sY (g.map D.int)).map (n::·)=_;rw[B2 g];rfl
theorem Cw (h:sY j=some l) (g:Reps K A H j o):o=l.map V.int:=by
 induction j generalizing l o with
 | nil=>cases g;cases h;rfl
 | cons d j b =>
  cases g with
  | cons r g =>
  cases d with
  | int i =>
   obtain⟨c,a,rfl⟩:=bC.mp h;rw[r.int_inv,b a g];rfl
  | _=>cases h
def Rr:OC:=λb d=>match b with
 | [.l c]=>∃ a,sY c=some a/\d (.v (.int a.sum))
 | _=>False
theorem Dp:oU K (λj H Q=>∃ (p:Ad) (g:Aa Int),j=[.ref p]/\kK K H p (g.map V.int)/\Q (.int g.sum) H) Rr:=by
 intro B L H c j n Q hd f b k;cases c with
 | nil=>exact False.elim b
 | cons d c =>
 cases d<;>first | exact False.elim b | skip
 cases c with
 | cons _ _=>exact False.elim b
 | nil =>
 obtain⟨x,rfl,i⟩:=qA f;obtain⟨g,e,b⟩:=b;obtain⟨a,m,rfl,h,r⟩:=i.lst_inv;rw[Cw e r] at h;exact⟨a,g,rfl,kK.of h,k _ _ H b (hd.pushF (.int _))⟩
def C9:OC:=λd c=>match d with
 | [.l e]=>∃ b,sY e=some b/\b≠[]/\∀ m:Int,m∈b->(∀ a∈b,m<=a)->c (.v (.int m))
 | [.int i,.int j]=>∀ m:Int,(m=i\/m=j)->m<=i->m<=j->c (.v (.int m))
 | _=>False
def Nr:OC:=λd c=>match d with
 | [.l e]=>∃ b,sY e=some b/\b≠[]/\∀ m:Int,m∈b->(∀ a∈b,a<=m)->c (.v (.int m))
 | [.int i,.int j]=>∀ m:Int,(m=i\/m=j)->i<=m->j<=m->c (.v (.int m))
 | _=>False
def Cp (K:kC):Aa V->Hp->VK->Prop:=λc H Q=>(∃ (p:Ad) (b:Aa Int),c=[.ref p]/\kK K H p (b.map V.int)/\b≠[]/\∀ m:Int,m∈b->(∀ a∈b,m<=a)->Q (.int m) H)\/∃ i j,c=[.int i,.int j]/\Q (.int (if j<i then j else i)) H
def Iz (K:kC):Aa V->Hp->VK->Prop:=λc H Q=>(∃ (p:Ad) (b:Aa Int),c=[.ref p]/\kK K H p (b.map V.int)/\b≠[]/\∀ m:Int,m∈b->(∀ a∈b,a<=m)->Q (.int m) H)\/∃ i j,c=[.int i,.int j]/\Q (.int (if j>i then j else i)) H
theorem Tj (g:X.calm=true):lS X (.builtin "min") (Cp X.K):=(Pq g).or (Om g)
theorem Fk (g:X.calm=true):lS X (.builtin "max") (Iz X.K):=(Xk g).or (Np g)
theorem Vh:oU K (Cp K) C9:=by
 intro B L H c A D Q hd n b k;cases c with
 | nil=>exact False.elim b
 | cons d c =>
 cases d<;>first | exact False.elim b | skip
 .cases c with
  | nil=>exact False.elim b
  | cons e c =>
  cases e<;>first | exact False.elim b | skip
  cases c with
  | cons _ _=>exact False.elim b
  | nil =>
  obtain⟨x,y,rfl,f,py⟩:=yP n;have:=f.int_inv;have:=py.int_inv;subst_vars
  rename_i i j
  refine .inr ⟨_,_,rfl,?_⟩;by_cases z:j<i
  .rw[aH z];exact k _ _ H (b _ (.inr rfl) (by omega) (by omega)) (hd.pushF (.int _))
  .rw[aE z];exact k _ _ H (b _ (.inl rfl) (by omega) (by omega)) (hd.pushF (.int _))
 .cases c with
  | cons _ _=>exact False.elim b
  | nil =>
  obtain⟨x,rfl,f⟩:=qA n;obtain⟨v,u,q,b⟩:=b;obtain⟨a,w,rfl,h,r⟩:=f.lst_inv;rw[Cw u r] at h;exact .inl ⟨a,v,rfl,kK.of h,q,λm s t=>k _ _ H (b m s t) (hd.pushF (.int _))⟩
theorem Gn:oU K (Iz K) Nr:=by
 intro B L H c A D Q hd n b k;cases c with
 | nil=>exact False.elim b
 | cons d c =>
 cases d<;>first | exact False.elim b | skip
 .cases c with
  | nil=>exact False.elim b
  | cons e c =>
  cases e<;>first | exact False.elim b | skip
  cases c with
  | cons _ _=>exact False.elim b
  | nil =>
  obtain⟨x,y,rfl,f,py⟩:=yP n;have:=f.int_inv;have:=py.int_inv;subst_vars
  rename_i i j
  refine .inr ⟨_,_,rfl,?_⟩;by_cases z:j>i
  .rw[aH z];exact k _ _ H (b _ (.inr rfl) (by omega) (by omega)) (hd.pushF (.int _))
  .rw[aE z];exact k _ _ H (b _ (.inl rfl) (by omega) (by omega)) (hd.pushF (.int _))
 .cases c with
  | cons _ _=>exact False.elim b
  | nil =>
  obtain⟨x,rfl,f⟩:=qA n;obtain⟨v,u,q,b⟩:=b;obtain⟨a,w,rfl,h,r⟩:=f.lst_inv;rw[Cw u r] at h;exact .inl ⟨a,v,rfl,kK.of h,q,λm s t=>k _ _ H (b m s t) (hd.pushF (.int _))⟩
def Kf:D->Ab (Aa D)
 | .l a=>some a
 | .t a=>some a
 | .con a=>some a
 | .c a=>some a
 | _=>none
theorem V2 (h:Kf d=some j) (p:lB K A H d x):∃ a g,x = .ref a/\(kK K H a g\/kO K H a g)/\Reps K A H j g:=by
 cases d<;>cases h
 .obtain⟨a,g,rfl,h,r⟩:=p.tup_inv;exact⟨a,g,rfl,.inr (kO.of h),r⟩
 .obtain⟨a,g,rfl,h,r⟩:=p.lst_inv;exact⟨a,g,rfl,.inl (kK.of h),r⟩
 .obtain⟨a,g,rfl,h,r⟩:=p.scr_inv;exact⟨a,g,rfl,.inl h.sqL,r⟩
 .obtain⟨a,g,rfl,h,r⟩:=p.con_inv;exact⟨a,g,rfl,.inr h.sqT,r⟩
def Vv:OC:=λb c=>match b with
 | [d]=>∃ a,Kf d=some a/\c (.o (.l a))
 | _=>False
theorem Ec:oU K (λg H Q=>∃ p j,g=[.ref p]/\(kK K H p j\/kO K H p j)/\∀ l,H l=none->Q (.ref l) (upd H l (.l j))) Vv:=by
 intro B L H c g q Q hd f b k;cases c with
 | nil=>exact False.elim b
 | cons d c =>
 cases c with
 | cons _ _=>exact False.elim b
 | nil =>
 obtain⟨x,rfl,m⟩:=qA f;obtain⟨g,i,b⟩:=b;obtain⟨a,n,rfl,h,r⟩:=V2 i m;exact⟨a,n,rfl,h,λl e=>k _ _ _ b (hd.lstF e r)⟩
def V7:OC:=λc b=>match c with
 | [.l a]=>b (.v (.t a))
 | [.t a]=>b (.v (.t a))
 | _=>False
theorem tP:oU K (λj H Q=>∃ p g,j=[.ref p]/\((kK K H p g/\∀ l,H l=none->Q (.ref l) (upd H l (.t g)))\/(kO K H p g/\Q (.ref p) H))) V7:=by
 intro B L H e j q Q hd m b k;cases e with
 | nil=>exact False.elim b
 | cons d e =>
 cases d<;>first | exact False.elim b | skip<;>cases e<;>first | exact False.elim b | skip
 .obtain⟨x,rfl,c⟩:=qA m;have f:=c;obtain⟨a,i,rfl,h,r⟩:=c.tup_inv;exact⟨a,i,rfl,.inr ⟨kO.of h,k _ _ _ b (hd.pushF f)⟩⟩
 .obtain⟨x,rfl,c⟩:=qA m;obtain⟨a,i,rfl,h,r⟩:=c.lst_inv;exact⟨a,i,rfl,.inl ⟨kK.of h,λl n=>k _ _ _ b (hd.tupF n r)⟩⟩
def qY:Aa D->Ab (Aa (gV×D))
 | []=>some []
 | .t [k,d]::a=>match nT k,qY a with
  | some k,some r=>some ((k,d)::r)
  | _,_=>none
 | _=>none
theorem yW {l:Type}{f:l->D}{g:l->gV×D}(h:∀ x,∃ k,f x = .t [k,(g x).2]/\nT k=some (g x).1):∀ j:Aa l,qY (j.map f)=some (j.map g)
 | []=>rfl
 | x::j=>by
  obtain⟨k,a,b⟩:=h x;rw[aI,a];show (match nT k,qY (j.map f) with | some k,some r=>some ((k,(g x).2)::r) | _,_=>none)=_;rw[b,yW h j];rfl
def pL (g more:Aa (gV×D)):Aa (gV×D):=more.foldl (λa b=>lF a b.1 b.2) g
theorem Pk (h:qY l=some j) (o:Reps K A H l C):∃ (p:Aa Ad) (g:Aa (gV×V)),C=p.map V.ref/\wY H p g/\j.map (·.1)=g.map (·.1)/\Reps K A H (j.map (·.2)) (g.map (·.2)):=by
 induction l generalizing j C with
 | nil=>cases o;cases h;exact⟨[],[],rfl,.nil,rfl,.nil⟩
 | cons d l t =>
  cases o with
  | cons r o =>
  cases d<;>first | (cases h;done) | skip
  rename_i x
  rcases x with _ | ⟨k,_ | ⟨e,_ | ⟨_,_⟩⟩⟩<;>first | (cases h;done) | skip
  .have h:=(show (match nT k,qY l with | some k,some r=>some ((k,e)::r) | _,_=>none)=some j from h);cases c:nT k with
   | none=>rw[c] at h;cases h
   | some u =>
    cases f:qY l with
    | none=>rw[c,f] at h;cases h
    | some y =>
     rw[c,f] at h;cases h;obtain⟨a,z,rfl,s,b⟩:=r.tup_inv;obtain⟨p,g,i,m,n,q⟩:=t f o;cases b with
     | cons v b =>
      cases b with
      | cons w b =>
       cases b;have:=wD c v.peek;subst this;exact⟨a::p,(u,_)::g,by rw[i];rfl,.cons s m,by rw[aI,aI,n],.cons w q⟩
theorem A3:∀ {more:Aa (gV×D)}{mv:Aa (gV×V)}{kvs:Aa (gV×D)}{vs:Aa (gV×V)},more.map (·.1)=mv.map (·.1)->Reps K A H (more.map (·.2)) (mv.map (·.2))->kvs.map (·.1)=vs.map (·.1)->Reps K A H (kvs.map (·.2)) (vs.map (·.2)) ->
  (pL kvs more).map (·.1)=(nX vs mv).map (·.1)/\Reps K A H ((pL kvs more).map (·.2)) ((nX vs mv).map (·.2))
 | [],[],_,_,_,_,e,r=>⟨e,r⟩
 | [],_::_,_,_,e,_,_,_=>by simp at e
 | _::_,[],_,_,e,_,_,_=>by simp at e
 | (k,d)::more,(j,v)::mv,kvs,vs,a,b,e,r=>by
  simp only[aI,eC] at a;obtain⟨rfl,a⟩:=a;cases b with
  | cons h b =>
   obtain⟨c,f⟩:=wF e r (k:=k) h;exact A3 (more:=more) (mv:=mv) a b c f
def Ng:OC:=λc b=>match c with
 | [.k a]=>b (.o (.k a))
 | [.l d]=>∃ a,qY d=some a/\a.length<=1000/\b (.o (.k (pL [] a)))
 | _=>False
def Kj (K:kC):Aa V->Hp->VK->Prop:=λe H Q=>(∃ (a:Ad) (b:Aa (gV×V)),e=[.ref a]/\H a=some (.k b)/\∀ p,H p=none->Q (.ref p) (upd H p (.k b))) \/
 ∃ (p:Ad) (c:Aa Ad) (b:Aa (gV×V)),e=[.ref p]/\kK K H p (c.map V.ref)/\wY H c b/\b.length<=1000/\∀ d,H d=none->Q (.ref d) (upd H d (.k (nX [] b)))
theorem vW (g:X.calm=true):lS X (.type "dict") (Kj X.K):=Up.or (Mn g)
theorem wI:oU K (Kj K) Ng:=by
 intro B L H i E F Q hd c b k;cases i with
 | nil=>exact False.elim b
 | cons d i =>
 cases d<;>first | exact False.elim b | skip<;>cases i<;>first | exact False.elim b | skip
 .obtain⟨x,rfl,n⟩:=qA c;obtain⟨w,v,D,b⟩:=b;obtain⟨a,s,rfl,h,r⟩:=n.lst_inv;obtain⟨A,f,rfl,t,q,u⟩:=Pk v r;obtain⟨y,z⟩:=A3 (kvs:=[]) (vs:=[]) q u rfl .nil;have m:f.length<=1000:=by
   have:=cO List.length q;simp only[aD] at this;omega
  exact .inr ⟨a,A,f,rfl,kK.of h,t,m,λp c=>k _ _ _ b (hd.dKF c y z)⟩
 .obtain⟨x,rfl,n⟩:=qA c;obtain⟨a,s,rfl,h,e,r⟩:=n.dK_inv;exact .inl ⟨a,s,rfl,h,λp c=>k _ _ _ b (hd.dKF c e r)⟩
def Eg:OC:=λc a=>match c with
 | [.int i]=>a (.v (.int i))
 | [.b b]=>a (.v (.int (if b then 1 else 0)))
 | _=>False
theorem W5:oU K (λg H Q=>(∃ i,g=[.int i]/\Q (.int i) H)\/∃ k,g=[.b k]/\Q (.int (if k then 1 else 0)) H) Eg:=by
 intro B L H c g h Q hd f a k;cases c with
 | nil=>exact False.elim a
 | cons d c =>
 cases d<;>first | exact False.elim a | skip<;>cases c<;>first | exact False.elim a | skip
 .obtain⟨x,rfl,e⟩:=qA f;have:=e.bl_inv;subst this;exact .inr ⟨_,rfl,k _ _ H a (hd.pushF (.int _))⟩
 .obtain⟨x,rfl,e⟩:=qA f;have:=e.int_inv;subst this;exact .inl ⟨_,rfl,k _ _ H a (hd.pushF (.int _))⟩
end
def Cm (T:String):D->Bool
 | .str _=>T == "str"
 | .l _=>T == "list"
 | .c _=>T == "list"
 | .k _=>T == "dict"
 | _=>false
section
variable {X:Cx}{K:kC}
theorem Vi (h:Cm T d=true) (p:lB K A H d x):Bm K T x H:=by
 cases d<;>first | (cases h;done) | skip
 all_goals (have h:=eq_of_beq h;subst h)
 .have:=p.str_inv;subst this;rfl
 .obtain⟨a,b,rfl,h,r⟩:=p.lst_inv;exact .inl ⟨rfl,b,kK.of h⟩
 .obtain⟨a,b,rfl,h,e,r⟩:=p.dK_inv;exact .inr (.inr (.inl ⟨rfl,.inl ⟨b,h⟩⟩))
 .obtain⟨a,b,rfl,h,r⟩:=p.scr_inv;exact .inl ⟨rfl,b,h.sqL⟩
abbrev OM:=D->Aa D->(Sl->Prop)->Prop
abbrev RM:=V->Aa V->Hp->VK->Prop
def Zk (T:String) (f:OM) (i:Nat) (g:pY):kX:=λc b h=>(match at? b i with | some d=>Cm T d=true | none=>False)/\g c b λas a=>match at? a i,rO a as with
 | some d,some e=>f d e λs=>h s a
 | _,_=>False
variable {id:String}
abbrev OW:=D->Aa D->(D->D->Prop)->Prop
def yH (K:kC) (r:RM) (f:OW):Prop:=∀ (A:Ad->Prop) (H:Hp) (a:Ad) (c:D) (h:Aa D) (i:Aa V) (k:D->D->Prop) (Q:VK),¬ A a->mF K A H a c->Reps K A H h i->f c h k ->
 (∀ d v o e,k d e->Rep K A H d v->(∀ b,Kp A b H (upd H a o)->mF K b (upd H a o) a e)->Q v (upd H a o))->r (.ref a) i H Q
def dW (T:String) (f:OW) (i:Nat) (g:pY):kX:=λh b m=>(match at? b i with | some d=>Cm T d=true | none=>False)/\g h b λas a=>match a[i]?,tF as with
 | some (.o c),some k=>f c k λd e=>m (.v d) (a.set i (.o e))
 | _,_=>False
theorem Ol {f:OW}(p:yH X.K r f){g:St}{H:Hp}{Q:VK}(h:dE X.K (dW T f i ta) g H Q):nZ i g H λx l=>Bm X.K T x l/\dA X.K ta g l λxs j=>r x xs j Q:=by
 obtain⟨B,Y,Tm,Φ,S,hd,⟨A,I⟩,k⟩:=h;cases F:at? Y i with
 | none=>rw[F] at A;exact A.elim
 | some d0 =>
  rw[F] at A;obtain⟨x,t,px⟩:=hd.peek S F;refine⟨x,t,Vi A px,B,Y,Tm,_,S,hd,I,λas e vs j D ok d2 b=>?_⟩;cases m:e[i]? with
  | none=>rw[m] at b;exact b.elim
  | some s =>
   cases s with
   | n=>rw[m] at b;exact b.elim
   | v c=>rw[m] at b;exact b.elim
   | o c =>
    cases G:tF as with
    | none=>rw[m,G] at b;exact b.elim
    | some P =>
     rw[m,G] at b;have O:=d2.temps ok P G;have d3:=d2.rmArgs;obtain⟨a,R,W,wr⟩:=d3.slotW D m;rw[t] at R;cases R;obtain⟨u,J,tu⟩:=W.some;have V:¬ Al B (gD (e.zip g++Tm)) a:=λz=>z.2.1 (by
      obtain⟨U,y,N,w,_,L,_⟩:=rQ D m;rw[t] at w;cases w;rw[L,aX,bV,oP];exact aN _ aM)
     refine p _ j a c P vs _ Q V W O b λd v o E M rd C=>k _ _ v _ (by rw[bL];exact D) ?_ M
     refine (wr o E C).push ?_;have Z:gD ((e.set i (.o E)).zip g++Tm)=gD (e.zip g++Tm):=by
      obtain⟨U,y,N,w,_,L,q⟩:=rQ D m;rw[t] at w;cases w;have:=q (.o E) (some (.ref a));rw[vH t] at this;rw[this,L,aX,aX,bV,bV,oP,oP];rfl
     rw[Z];exact rd.mono (.write J tu V)
theorem qB {f:OW}(pa:PlainAttrs T) (slot:Slot T name id) (j:typeOf (.builtin id)=pure (.type "method_descriptor")) (J:zR X id r) (I:yH X.K r f) (U:PE X o (nZ i)) (p:qG X (e::l) ta)
  (C:MtB X o name apos e l g:=by exact {}) :
  PD X (.Call (.Attribute o name apos) (e::l) [] g) (dW T f i ta):=(Nn pa slot j J U p C).mono λ_ _ _ h=>Ol I h
noncomputable def Xi:OW:=λc b f=>match c,b with
 | .l a,[d]=>a.length<100000/\f .e (.l (a++[d]))
 | _,_=>False
theorem rR:yH K G2 Xi:=by
 intro A H a c q s t Q _ i rd b k;cases c<;>first | exact False.elim b | skip
 cases rd with
 | nil=>exact False.elim b
 | cons f rd =>
 cases rd with
 | cons _ _=>exact False.elim b
 | nil =>
 .obtain⟨m,h,r⟩:=i
  .refine⟨a,m,_,rfl,rfl,h,aY (by rw[<- r.length];exact b.1) (by decide),k _ _ _ _ b.2 .e λn d=>⟨_,mB,(r.append (.cons f .nil)).mono d⟩⟩
def Rs:OW:=λc b d=>match c,b with
 | .l a,[.int i]=>∃ k y,-(2 ^ 63)<=i/\i<2 ^ 63/\seqIndex? i a.length=some k/\a[k]?=some y/\d y (.l (a.eraseIdx k))
 | _,_=>False
theorem R9:yH K Fl Rs:=by
 intro A H a c z B D Q _ t rd b k;cases c<;>first | exact False.elim b | skip
 cases rd with
 | nil=>exact False.elim b
 | cons s rd =>
 rename_i d _ _ _
 cases d<;>first | exact False.elim b | skip
 cases rd with
 | cons _ _=>exact False.elim b
 | nil =>
 .obtain⟨w,h,r⟩:=t
  .have:=s.int_inv;subst this;obtain⟨j,y,e,f,i,m,b⟩:=b;obtain⟨v,n,u⟩:=r.get m;exact⟨a,w,_,j,v,rfl,rfl,h,e,f,by rw[<- r.length];exact i,n,k _ _ _ _ b u λx q=>⟨_,mB,(r.erase j).mono q⟩⟩
def Dv:D->Bool
 | .k _=>true
 | .T _=>true
 | .dM _=>true
 | _=>false
def F0 (i:Nat) (ty g:kX):kX:=λc e m=>(match at? e i with | some d=>Dv d=true | none=>False)/\ty c e λf b=>g c b λh a=>match at? a i,sd f,sd h with
 | some d,some k,some x=>∃ o,tX d k=some o/\m (.v (o.getD x)) a
 | _,_,_=>False
theorem wO (U:X.A.units+1<cLine) (l:PE X o (nZ i)) (I:PD X k ty) (J:PD X x tx) (m:M2 X o "get" apos k x j:=by exact⟨rfl,rfl,rfl,rfl⟩):PD X (.Call (.Attribute o "get" apos) [k,x] [] j) (F0 i ty tx) :=
 (U4 U l I J m).mono λσ H Q F=>F.elim λB W Tm Φ O hd ⟨u,T⟩ k=>by
  cases D:at? W i with
  | none=>rw[D] at u;exact u.elim
  | some Z =>
   rw[D] at u;obtain⟨x,P,L⟩:=hd.peek O D;obtain⟨a,rfl,G⟩:∃ a,x = .ref a/\yI H a:=by
    cases Z<;>first | (cases u;done) | skip
    .obtain⟨a,q,rfl,h,e,r⟩:=L.dK_inv;exact⟨a,rfl,.inl ⟨q,.inl h⟩⟩
    .obtain⟨a,q,rfl,h,e,r⟩:=L.dT_inv;exact⟨a,rfl,.inr (.inl ⟨q,h⟩)⟩
    .obtain⟨a,q,rfl,h,e,r⟩:=L.dM_inv;exact⟨a,rfl,.inr (.inr ⟨q,h⟩)⟩
   refine⟨.ref a,P,a,rfl,G,B,W,Tm,_,O,hd,T,λV N y H1 l1 d1 C=>⟨B,N,(V,some y)::Tm,_,l1,d1,C,λrx s z Y R d2 b=>?_⟩⟩;cases f:at? s i with
   | none=>rw[f] at b;exact b.elim
   | some d =>
    cases t:sd V with
    | none=>rw[f,t] at b;exact b.elim
    | some kk =>
     cases E:sd rx with
     | none=>rw[f,t,E] at b;exact b.elim
     | some xx =>
      rw[f,t,E] at b;obtain⟨oo,l,b⟩:=b;obtain⟨S,q2,q3⟩:=d2.two t E;obtain⟨x',n,M⟩:=S.peek R f;rw[P] at n;cases n;obtain⟨a',w,p,g,g1,g2⟩:=A7 l M q2.peek;cases p;refine⟨w,g,k _ s _ Y R (S.push ?_) b⟩;cases oo with
      | none=>rw[g2 rfl];exact q3
      | some c=>obtain⟨v,rfl,rv⟩:=g1 c rfl;exact rv
def zJ:Aa D->Ab (Aa Af)
 | []=>some []
 | .str b::a=>(zJ a).map (b::·)
 | _=>none
theorem Du:∀ (g:Aa Af),zJ (g.map D.str)=some g
 | []=>rfl
 | n::g=>by
  show (zJ (g.map D.str)).map (n::·)=_;rw[Du g];rfl
theorem Hy (h:zJ j=some l) (g:Reps K A H j o):o=l.map V.str:=by
 induction j generalizing l o with
 | nil=>cases g;cases h;rfl
 | cons d j b =>
  cases g with
  | cons r g =>
  cases d with
  | str i =>
   obtain⟨c,a,rfl⟩:=bC.mp h;rw[r.str_inv,b a g];rfl
  | _=>cases h
end
section
variable {X:Cx}
theorem kT (o:X.A.units+1<cLine) (i:Nat) (j:PD X b p) (g:PE X a (nZ i):=by exact pv _) (l:B1 b:=by exact λ_ _=>rfl):PD X (.Subscript a b pos) (sH vZ i p) :=
 (Fb (Lp o) g j l).mono λ_ _ _ h=>Bh Kv h
end
section
variable {X:Cx}{K:kC}
theorem N7 (l:X.calm=true):lS X (.builtin "min") (λg H Q=>∃ i j k,g=[.int i,.int j,.int k]/\∀ m:Int,(m=i\/m=j\/m=k)->m<=i->m<=j->m<=k->Q (.int m) H):=by
 intro f s A H g F Q I r h;obtain⟨i,j,k,rfl,q⟩:=h;cases r with
 | cons y r =>
  obtain⟨v,u,rfl,⟨D,rfl⟩,⟨E,rfl⟩⟩:=Aq r;obtain⟨B,rfl⟩:=y;refine min_three_ints (I.ok.hd l) λw z x=>?_
  have fin:∀ (m:Int) (t:Tok),(m=i\/m=j\/m=k)->m<=i->m<=j->m<=k->EP X f A Q (.int m t) { s with heap:=w,toks:=z }:=λm t a b c d=>⟨.int m,H,I.kept x,⟨t,rfl⟩,q m a b c d⟩
  by_cases n:j<i
  .rw[aH n];by_cases e:k<j
   .rw[aH e];exact fin _ _ (.inr (.inr rfl)) (by omega) (by omega) (by omega)
   .rw[aE e];exact fin _ _ (.inr (.inl rfl)) (by omega) (by omega) (by omega)
  .rw[aE n];by_cases e:k<i
   .rw[aH e];exact fin _ _ (.inr (.inr rfl)) (by omega) (by omega) (by omega)
   .rw[aE e];exact fin _ _ (.inl rfl) (by omega) (by omega) (by omega)
def Bx (K:kC):Aa V->Hp->VK->Prop:=λa H Q=>Cp K a H Q\/∃ i j k,a=[.int i,.int j,.int k]/\∀ m:Int,(m=i\/m=j\/m=k)->m<=i->m<=j->m<=k->Q (.int m) H
theorem Gz (g:X.calm=true):lS X (.builtin "min") (Bx X.K):=(Tj g).or (N7 g)
def Ug:OC:=λa b=>match a with
 | [.int i,.int j,.int k]=>∀ m:Int,(m=i\/m=j\/m=k)->m<=i->m<=j->m<=k->b (.v (.int m))
 | a=>C9 a b
theorem Fe:oU K (Bx K) Ug:=by
 intro B L H i n q Q hd h f k;have two:C9 i q->Bx K n H Q:=λf=>.inl (Vh B L H _ n q Q hd h f k)
 rcases i with _ | ⟨d,_ | ⟨e,_ | ⟨g,_ | ⟨_,_⟩⟩⟩⟩
 .exact two f
 .cases d<;>exact two f
 .cases d<;>first | exact two f | (cases e<;>exact two f)
 .cases d<;>first | exact two f | skip
  cases e<;>first | exact two f | skip
  cases g<;>first | exact two f | skip
  cases h with
  | cons s h =>
   obtain⟨x,y,rfl,t,py⟩:=yP h;have:=s.int_inv;have:=t.int_inv;have:=py.int_inv;subst_vars;exact .inr ⟨_,_,_,rfl,λm a b c d=>k _ _ H (f m a b c d) (hd.pushF (.int _))⟩
 .cases d<;>first | exact two f | (cases e<;>first | exact two f | (cases g<;>exact two f))
noncomputable def D1:D->Ab String
 | .e=>some "NoneType"
 | .b _=>some "bool"
 | .int _=>some "int"
 | .str _=>some "str"
 | .l _=>some "list"
 | .t _=>some "tuple"
 | .k _=>some "dict"
 | _=>none
theorem Rb (h:D1 d=some n) (p:lB K A H d x):TyOf K H x (.type n):=by
 cases d<;>simp only[D1,reduceCtorEq,iL] at h<;>subst h
 .have:=p.non_inv;subst this;exact .e
 .have:=p.bl_inv;subst this;exact .b _
 .have:=p.int_inv;subst this;exact .int _
 .have:=p.str_inv;subst this;exact .str _
 .obtain⟨a,c,rfl,h,r⟩:=p.tup_inv;exact .t h
 .obtain⟨a,c,rfl,h,r⟩:=p.lst_inv;exact .l h
 .obtain⟨a,c,rfl,h,e,r⟩:=p.dK_inv;exact .k h
def Q9 (K:kC):OC:=λa e=>match a with
 | [d,.r (.ty c)]=>∃ n b,D1 d=some n/\PySem.W.kitOne K (.type n) (.type c)=some b/\e (.v (.b b))
 | _=>False
theorem Il:oU K (G8 K) (Q9 K):=by
 intro B L H c q s Q hd i a k;cases c with
 | nil=>exact False.elim a
 | cons d c =>
  cases c with
  | nil=>exact False.elim a
  | cons e c =>
   cases e<;>first | exact False.elim a | skip
   rename_i v
   cases v<;>first | exact False.elim a | skip
   cases c with
   | cons _ _=>exact False.elim a
   | nil =>
    obtain⟨x,y,rfl,m,py⟩:=yP i;obtain⟨n,b,f,h,a⟩:=a;have:=py.raw_inv;subst this;exact⟨x,_,_,_,b,rfl,rfl,Rb f m,h,k _ _ H a (hd.pushF (.b _))⟩
theorem Lv (g:Gl X x) (j:X.mg x=none) (o:bootBuiltins x=some (.type n)) (l:x ≠ "__name__" := by decide) (hd:(x == ("__debug__" : Af))=false:=by decide):PD X (.Name x pos) (cd (.r (.ty n))) :=
 xE (Td (v:=.ty n) g j o rfl l hd) λ_ _ _=>.r _
end
end L2
namespace PySem
open PyProof.Rows L2
abbrev tD (h:Ag) (z TI TO T:Ad) (f:Bool):Prop:=h.get? z=some { cls:=.type "zip",dict:=none,data:=.fields #[rawInt T,.bool f,.bool false,.ref TI,.ref TO],slots:=#[] }
section
theorem T0 (j:s.heap.get? a=some o) (h:Q (some o) s):wpAny (model g w) A (loadIfAlive a) Q E s:=λ_ _ _=>by
 show Q (s.heap.get? a) s;rw[j];exact h
theorem Ri {TI TO:Ad}(g:tD s.heap z TI TO T f) (p:s.heap.get? T=some r) (l:∀ j,tD j z TI TO T true->Heap.SameBut z s.heap j->Q false { s with heap:=j }) :
  wpAny (model o w) A (Builtin.SmallTypes.ownedTupleIsFree (.ref z)) Q E s:=by
 unfold Builtin.SmallTypes.ownedTupleIsFree;refine aA (cK g rfl (x:=rawInt T) rfl ?_);show wpAny _ _ (loadIfAlive ((T:Int).toNat) >>= _) _ _ _;rw[bQ];refine aA (T0 p ?_);simp only[Option.isNone_some,bT,dL];refine aA (cK g rfl (x:=.bool f) rfl ?_);cases f with
 | true =>
  rw[aE (show ¬ ((Value.bool true != Value.bool true)=true) from aR)];exact aB (l _ g (Heap.SameBut.refl _ _))
 | false =>
  rw[aH (show (Value.bool false != Value.bool true)=true from rfl)];exact aA (gH g (by simp) λc b a=>aB (l _ b a))
def Jl (g:Ah) (w:World) (A:Around) (a b:Ac) (Q:Fin->Ae->Prop) (E:Ac->Ae->Prop) (s:Ae):Prop :=
 wpAny (model g w) A (Builtin.SmallTypes.nextOf a) (λx c=>wpAny (model g w) A (Builtin.SmallTypes.nextOf b) (λy d=>wpAny (model g w) A (newTuple [x,y]) (λt e=>Q (.done (.ret t)) e) E d) E c) E s
theorem Fo {TI TO:Ad}(p:tD s.heap z TI TO T f) (r:s.heap.get? T=some C) (o:IsPair s.heap TI a b)
  (go:∀ l,tD l z TI TO T true->Heap.SameBut z s.heap l->Jl j w A a b Q E { s with heap:=l }) :
  wpAny (model j w) A (Builtin.«zip.__next__» ⟨[.ref z],[]⟩) Q E s:=by
 have c:wpAny (model j w) A (Builtin.SmallTypes.ownedTupleIsFree (.ref z)) (λx d=>x=false/\Jl j w A a b Q E d) E s :=
  Ri p r λl e k=>⟨rfl,go l e k⟩
 unfold Builtin.«zip.__next__»;refine aA (aB (aA (cK p rfl (x:=.bool false) rfl (aA (cK p rfl (x:=.ref TI) rfl (aA (dF o rfl ?_)))))));refine aA (hL c ?_);rintro _ d ⟨rfl,g⟩;simp only[aE aR,<- Array.forIn_toList,jI,List.forIn_nil,bind_assoc];refine aA (bF (aA (hL g λx h g1=>aB (aA (aB ?_)))));refine aA (aA (bF (aA (hL g1 λy i g2=>aB (aA (aB (aB ?_)))))));exact aA (hL g2 λt m g3=>aB g3)
def yR (h:Ag) (z TI TO g j:Ad):Prop:=IsPair h TI (.ref g) (.ref j)/\(∃ a b,IsPair h TO a b)/\(IsZip h z TI TO .none\/∃ T f o,tD h z TI TO T f/\h.get? T=some o/\T≠z/\T≠TO/\T≠g/\T≠j)
end
theorem Za:typeLookup (.type "zip") "keys" = pure none:=am_miss_of_fast (by decide +kernel)
theorem Yx:entryFor table "zip.__getattribute__" = some Builtin.«object.__getattribute__»:=entryFor_alias (id' := "object.__getattribute__") (by kernel_rfl) (by decide +kernel) (by decide +kernel) (by kernel_rfl)
theorem Oq:typeLookup (.type "zip") "__getattr__" = pure none:=am_miss_of_fast (by decide +kernel)
theorem Qw {fs:Array Ac}
  (l:s.heap.get? a=some { cls:=.type "zip",dict:=none,data:=.fields fs,slots:=j }) (q:Q .missing s):wpAny (model g w) A (Builtin.ObjectAttr.find (.ref a) (.type "zip") "keys") Q E s:=by
 have own:wpAny (model g w) A (Builtin.ObjectAttr.inOwnDict "keys" (.ref a)) (λr b=>r=none/\b=s) E s :=
  aA (aA (wpAny_loadPart l (aA (wpAny_loadPart l (aB (aB ⟨rfl,rfl⟩))))))
 have guard:wpAny (model g w) A (Builtin.ObjectAttr.copiedAttributeGuard "keys" (.ref a)) (λ_ b=>b=s) E s:=by
  have no:¬ (([Str.ofString "__module__",Str.ofString "__name__",Str.ofString "__qualname__",Str.ofString "__doc__",Str.ofString "__annotations__"]:Aa Af).contains (Str.ofString "keys")=true):=by decide +kernel
  simp only[Builtin.ObjectAttr.copiedAttributeGuard,aE no];exact aB rfl
 unfold Builtin.ObjectAttr.find;rw[Za];refine aA (aB (aA (aB (aA (aB (aA (hL own ?_)))))));rintro _ _ ⟨rfl,rfl⟩;refine aA (hL guard ?_);rintro _ _ rfl;exact aA (eK (aB q))
theorem M5 (a:Ad) (fs:Array Ac) (g:Array (Ab Ac)) (u:Tok):Meets (Builtin.«object.__getattribute__» ⟨[.ref a,.str "keys" u],[]⟩) (λA R s=>s.heap.get? a=some { cls:=.type "zip",dict:=none,data:=.fields fs,slots:=g }/\raisesAttr (.ref a) "keys" A R s) :=
 Meets.of_wp λb w A R s h=>by
  obtain⟨l,calm,c⟩:=h;have f:s.TypeIs (.ref a) "zip" := ⟨_,l,rfl⟩;unfold Builtin.«object.__getattribute__»;refine aA (aB (aA (aB (aA (eO f (aA (Qw l ?_)))))));have named:wpAny (model b w) A.in1 (typeNameOfCut 100 (.ref a)) (λn d=>n = "zip" /\ d=s) (λe d=>R (.error e) d) s :=
   aA (aA (eO f (aB (aB ⟨by decide +kernel,rfl⟩))))
  show wpAny _ _ (Builtin.ObjectAttr.noSuchAttribute (.ref a) "keys") _ _ _;unfold Builtin.ObjectAttr.noSuchAttribute;refine aA (hL named ?_);rintro _ _ ⟨rfl,rfl⟩;exact wpAny_raiseAttrError calm c (by decide +kernel)
section
theorem Rv {fs:Array Ac}
  (l:s.heap.get? a=some { cls:=.type "zip",dict:=none,data:=.fields fs,slots:=p }) (calm:A.handled=none) (j:∀ o r e,Heap.NewAttrErr s.heap o e (.ref a) "keys" -> E (.ref e) { s with heap:=o,toks:=r }) :
  wpAny (model g w) A (boundAndCalled (.builtin "zip.__getattribute__") (.ref a) (.str "keys" u)) Q E s:=by
 have ask:wpAny (model g w) A (call (.builtin "zip.__getattribute__") [.ref a,.str "keys" u]) Q E s :=
  jO iI ⟨_,l,rfl⟩ Yx (F.args_zip_getattribute_2 _ _) (M5 a fs p u) ⟨l,calm,j⟩
 unfold boundAndCalled;rw[iI.bind (.ref a)];exact aA (aB ask)
theorem W0 (t:s.TypeIs (.ref e) "AttributeError") (j:E (.ref e) s) :
  wpAny (model g w) A (getattributeRaised o name (.type "zip") (.ref e) none false false) Q E s:=by
 have last:wpAny (model g w) A (hookOrError o name (.ref e) false false none) Q E s:=aA (wpAny_throw j);have a:hookBehind (.type "zip") none=pure none:=Oq;unfold getattributeRaised;refine aA (eU t iB ?_);rw[aH rfl,a];exact aA (aB last)
theorem Ti {fs:Array Ac}
  (l:s.heap.get? a=some { cls:=.type "zip",dict:=none,data:=.fields fs,slots:=I }) (calm:A.handled=none) (C:∀ j p e,Heap.NewExcOf s.heap j e "AttributeError" -> Q none { s with heap:=j,toks:=p }) :
  wpAny (model g w) A (getAttr? (.ref a) "keys") Q E s:=by
 have c:∀ j p e,Heap.NewAttrErr s.heap j e (.ref a) "keys" -> (∃ o,j.get? e=some o/\o.cls = .type "AttributeError")/\Q none { s with heap:=j,toks:=p }:=λj p e x=>by
  obtain⟨_,_,y⟩:=x.there;exact⟨⟨_,y,rfl⟩,C j p e x.of⟩
 let d:Ae:={ s with toks:=s.toks+1 };let b:Except Ac Ac->Ae->Prop:=λr i=>wpAny (model g w) A (match r with | .ok v=>pure (some v) | .error e=>do if <- isInstance e (.type "AttributeError") then pure none else throw e) Q E i
 have look:wpAny (model g w) A (getAttrBy (.ref a) (.str "keys" s.toks) false) (λv=>b (.ok v)) (λe=>b (.error e)) d:=by
  refine bF (aA (eO (T := "zip") ⟨_,l,rfl⟩ (aA (jC iI.lookup ?_))));have own:wpAny (model g w) A (getAttrByItsOwn (.ref a) (.str "keys" s.toks) (.type "zip") (.builtin "zip.__getattribute__") false false) (λv=>b (.ok v)) (λe=>b (.error e)) d:=by
   refine aA (aB (aA (eG (bF (Rv (s:=d) l calm λj p e x=>?_)))));obtain⟨⟨o,f,h⟩,q⟩:=c j p e x;exact W0 ⟨o,f,h⟩ (aA (eU (T := "AttributeError") ⟨o,f,h⟩ iB (aB q)))
  exact own
 exact aA (wpAny_mkText (aA (eG look)))
end
section
variable {K:Type} [DecidableEq K] {R:Result->Ae->Prop}
theorem Sn {TI TO:Ad}(t:s.TypeIs (.ref d) "dict") (l:IsZip s.heap z TI TO .none) (calm:A.handled=none)
  (r:∀ j o e,Heap.NewExcOf s.heap j e "AttributeError" -> Q (.again (.builtin "dict.update.loop" ⟨[.ref d,.ref z,.int 0 0,.none],[]⟩)) { s with heap:=j,toks:=o }) :
  wpAny (model g w) A (Builtin.«dict.__init__» ⟨[.ref d,.ref z],[]⟩) Q E s:=by
 have first:wpAny (model g w) A (Builtin.Dict.selfAndRest "__init__" ⟨[.ref d,.ref z],[]⟩) (λp c=>p=(d,[Value.ref z])/\c=s) E s:=aA (gM t (aB ⟨rfl,rfl⟩))
 have a:wpAny (model g w) A (Builtin.Dict.updateFrom "dict.__init__" d (.ref z) [] .none) Q E s:=by
  refine aA (eO (T := "zip") ⟨_,l,rfl⟩ ?_);rw[aH (by decide)];refine aA (Ti l calm λj o e x=>?_);have b:IsZip j z TI TO .none:=x.keeps _ _ l;exact aA (eK (aA (wpAny_pyIter_zip b (aB (r j o e x)))))
 exact aA (cN first (λp c q=>by obtain⟨rfl,rfl⟩:=q;exact a) λ_ _ q=>q)
end
end PySem
namespace L2
open PySem PySem.Spec PyProof.Rows Lw
section
variable {X:Cx}
theorem Kr:∀ (g:Aa gV){j:Aa V}{l:Aa Ac},kF j l->KV (g.zip j) (g.zip l)
 | [],_,_,_=>.nil
 | k::g,_,_,.nil=>.nil
 | k::g,_,_,.cons h r=>.cons ⟨rfl,h⟩ (Kr g r)
end
def uU:Aa D->Ab (Aa gV)
 | []=>some []
 | d::a=>match nT d,uU a with
  | some k,some b=>some (k::b)
  | _,_=>none
section
variable {X:Cx}{K:kC}
theorem Vy (h:uU g=some j) (l:Reps K A H g o):o=j.map kV:=by
 induction g generalizing j o with
 | nil=>cases l;cases h;rfl
 | cons d g c =>
  cases l with
  | cons r l =>
  have h:=(show (match nT d,uU g with | some k,some j=>some (k::j) | _,_=>none)=some j from h);cases a:nT d with
  | none=>rw[a] at h;cases h
  | some k =>
   cases b:uU g with
   | none=>rw[a,b] at h;cases h
   | some e =>
    rw[a,b] at h;cases h;rw[c b l,wD a r.peek];rfl
theorem Ks:∀ (g:Aa Af),uU (g.map D.str)=some (g.map Sum.inr)
 | []=>rfl
 | x::g=>by
  show (match some (Sum.inr x:gV),uU (g.map D.str) with | some k,some a=>some (k::a) | _,_=>none)=_;rw[Ks g];rfl
theorem Lh:∀ (g:Aa gV){j:Aa D}{l:Aa V}{A:Ad->Prop}{H:Hp},Reps K A H j l->(g.zip j).map (·.1)=(g.zip l).map (·.1)/\Reps K A H ((g.zip j).map (·.2)) ((g.zip l).map (·.2))
 | [],_,_,_,_,_=>⟨rfl,.nil⟩
 | k::g,_,_,_,_,.nil=>⟨rfl,.nil⟩
 | k::g,_,_,_,_,.cons h r=>by
  obtain⟨a,b⟩:=Lh g r;exact⟨by simp[a],.cons h b⟩
end
section
variable {X:Cx}{K:kC}
def uS (g:Aa D):Aa D:=(List.range g.length).zipWith (λi d=>D.t [.int (i:Nat),d]) g
theorem Ih {xs:Aa D}{i:Nat}{d:D}(h:xs[i]?=some d):(uS xs)[i]?=some (.t [.int i,d]):=by
 obtain⟨a,rfl⟩:=aG.mp h;unfold uS;simp[a]
theorem Bi:(uS g).length=g.length:=by simp[uS]
end
end L2
namespace Lw
open PySem L2
abbrev oJ:=Aa (Af×Int)
noncomputable def hO (t:oJ):Aa (gV×D):=t.map λp=>(Sum.inr p.1,D.int p.2)
noncomputable def look (t:oJ) (x:Af):Int:=match t.find? (λp=>decide (p.1=x)) with
 | some p=>p.2
 | none=>0
theorem sN:look (p::t) x=if p.1=x then p.2 else look t x:=by
 unfold look;rw[cB];by_cases h:p.1=x<;>simp[h]
theorem uQ:∀ (t:oJ) (x:Af),(x∈t.map (·.1)->kG (hO t) (Sum.inr x)=some (.int (look t x)))/\(x∉t.map (·.1)->kG (hO t) (Sum.inr x)=none/\look t x=0)
 | [],x=>⟨λh=>by simp at h,λ_=>⟨rfl,rfl⟩⟩
 | p::t,x=>by
  have a:=uQ t x;have e:hO (p::t)=(Sum.inr p.1,D.int p.2)::hO t:=rfl;rw[e,pV,sN];by_cases h:p.1=x
  .subst h;exact⟨λ_=>by rw[aH rfl,aH rfl],λn=>absurd (by simp) n⟩
  .have b:(Sum.inr p.1:gV)≠Sum.inr x:=λq=>h (fH q)
   rw[aE b,aE h];refine⟨λm=>a.1 ?_,λm=>a.2 λq=>m (by simp only[aI,aJ];exact .inr q)⟩;simp only[aI,aJ] at m;exact m.resolve_left λq=>h q.symm
theorem zF (h:x∉t.map (·.1)):lF (hO t) (Sum.inr x) (.int n)=hO (t++[(x,n)]):=by
 unfold lF;rw[zE,((uQ t x).2 h).1];simp[hO]
theorem Bb:∀ (u t:oJ),((t++u).map (·.1)).Nodup->pL (hO t) (hO u)=hO (t++u)
 | [],t,_=>by simp[pL,hO]
 | p::u,t,h=>by
  have a:p.1∉t.map (·.1):=λq=>by
   rw[aT] at h;exact (aO.mp h).2.2 p.1 q p.1 (by simp) rfl
  have e:pL (hO t) (hO (p::u))=pL (lF (hO t) (Sum.inr p.1) (.int p.2)) (hO u):=rfl;rw[e,zF a,Bb u (t++[p]) (by simpa using h)];simp
theorem zV (h:(t.map (·.1)).Nodup):pL [] (hO t)=hO t:=by
 have:=Bb t [] (by simpa using h)
 simpa [hO] using this
theorem Cs (h:x∈t.map (·.1)):look (t++u) x=look t x:=by
 induction t with
 | nil=>simp at h
 | cons p t a =>
  rw[bV,sN,sN];by_cases e:p.1=x
  .rw[aH e,aH e]
  .rw[aE e,aE e];simp only[aI,aJ] at h;exact a (h.resolve_left λq=>e q.symm)
end Lw
namespace L2
open PySem PySem.Spec PyProof.Rows Lw
section
variable {X:Cx}{K:kC}
theorem Zf:lS X (.type "int") (λg H Q=>∃ (x:Af) (n:Int),g=[.str x]/\intText? x=some n/\x.length<=640/\Q (.int n) H):=by
 intro a s k H g i Q I r h;obtain⟨x,n,rfl,c,d,q⟩:=h;obtain⟨u,rfl,f⟩:=oV r;obtain⟨t,rfl⟩:=f;exact PySem.W.KIN.call_text c d ⟨.int n,H,I.kept (t':=s.toks+1) λb o e=>e,⟨_,rfl⟩,q⟩
def Tr:OC:=λa b=>match a with
 | [.str x]=>∃ n,intText? x=some n/\x.length<=640/\b (.v (.int n))
 | a=>Eg a b
def Ev:Aa V->Hp->VK->Prop:=λa H Q=>((∃ i,a=[.int i]/\Q (.int i) H)\/∃ k,a=[.b k]/\Q (.int (if k then 1 else 0)) H)\/∃ (x:Af) (n:Int),a=[.str x]/\intText? x=some n/\x.length<=640/\Q (.int n) H
theorem Fq:lS X (.type "int") Ev:=W2.or Zf
theorem K6:oU K Ev Tr:=by
 intro B L H b e f Q hd c a k;have two:Eg b f->Ev e H Q:=λa=>.inl (W5 B L H b e f Q hd c a k)
 cases b with
 | nil=>exact two a
 | cons d b =>
 cases d<;>first | exact two a | skip
 cases b with
 | cons _ _=>exact two a
 | nil =>
 obtain⟨x,rfl,m⟩:=qA c;have:=m.str_inv;subst this;obtain⟨n,h,i,a⟩:=a;exact .inr ⟨_,n,rfl,h,i,k _ _ H a (hd.pushF (.int _))⟩
end
section
variable {tt:mY}
theorem Ef (J:Aa α) (U T:α->D) (p:α->Bool) (C:Aa Sl) (ac:∀ Ψ:Aa D->Aa Sl->Prop,Ψ (J.map U) C->ι dk ρ Ψ) (hl:J.length<=100000)
  (hs:∀ (i:Nat) x (I:Aa D) (Nx:Aa D->Aa Sl->Prop),J[i]?=some x->I.length<100000->(p x=true->Nx (I++[T x]) (mR j C))->(p x=false->Nx I (mR j C))->g (U x) (List.replicate n Sl.n++mR j C) λae=>tt dk ae λb aa=>if b=true then te dk aa λr af=>match sd r with
   | some c=>I.length<100000/\Nx (I++[c]) (af.drop n)
   | none=>False
   else Nx I (aa.drop n))
  (ab:Φ (.o (.l ((J.filter p).map T))) (nG j (mR j C) C)):tU n j ι g tt te dk ρ Φ:=by
 refine ac _ ⟨λi I a=>I=((J.take i).filter p).map T/\a=mR j C,⟨by simp,rfl⟩,?_,?_⟩
 .rintro i d I a hd _ ⟨f,h⟩;rw[bB] at hd;cases e:J[i]? with
  | none=>rw[e] at hd;cases hd
  | some x =>
   rw[e] at hd;cases hd;obtain⟨s,_⟩:=aG.mp e;have k:(J.take (i+1)).filter p=(J.take i).filter p++(if p x=true then [x] else []):=by
    rw[cY,e,List.filter_append];by_cases q:p x=true<;>simp[q]
   have len:I.length<100000:=by
    rw[f,aD];have m:=List.length_filter_le p (J.take i);rw[bY] at m;omega
   rw[h];refine hs i x I (λI a=>I=((J.take (i+1)).filter p).map T/\a=mR j C) e len (λq=>⟨?_,rfl⟩) λq=>⟨?_,rfl⟩
   .rw[k,aH q,f,aT];rfl
   .rw[k,aE (by rw[q];decide),gJ];exact f
 .rintro I a _ ⟨f,h⟩;rw[f,h,aD,gY];exact ab
theorem rG (J:Aa α) (C I:α->D) (p:Aa Sl) (ab:∀ Ψ:Aa D->Aa Sl->Prop,Ψ (J.map C) p->ι dk ρ Ψ) (hl:J.length<=100000)
  (hs:∀ (i:Nat) x (T:Aa D) (U:Aa D->Aa Sl->Prop),J[i]?=some x->T.length<100000->U (T++[I x]) (mR j p)->g (C x) (List.replicate n Sl.n++mR j p) λac=>te dk ac λr ae=>match sd r with
   | some c=>T.length<100000/\U (T++[c]) (ae.drop n)
   | none=>False)
  (aa:Φ (.o (.l (J.map I))) (nG j (mR j p) p)):tU n j ι g Dj te dk ρ Φ:=by
 refine Ef J C I (λ_=>true) p ab hl (λi x T U e a b _=>hs i x T U e a (b rfl)) ?_;have:J.filter (λ_=>true)=J:=List.filter_eq_self.mpr λ_ _=>rfl
 rw[this];exact aa
end
end L2
namespace Lw
open PySem L2
def nO (i:Nat):Stmt:=PySem.Challenge.pw_laidcells_k23_whole_fields_that_add.main.body.getD i (.Pass ⟨0,0,0,0⟩)
abbrev vA:Stmt:=nO 4
abbrev wB:Stmt:=nO 6
abbrev vL:Stmt:=nO 7
abbrev tA:Stmt:=nO 8
abbrev sF:Stmt:=nO 10
abbrev uT:Stmt:=nO 11
abbrev vN:Stmt:=nO 12
abbrev wJ:Stmt:=nO 13
abbrev uB:Stmt:=nO 14
abbrev sK:Stmt:=nO 16
abbrev wL:Stmt:=nO 17
abbrev uV:Stmt:=nO 18
abbrev vU:Stmt:=nO 19
abbrev wQ:Stmt:=nO 20
abbrev vF:Stmt:=nO 21
abbrev vR:Stmt:=nO 22
abbrev wG:Stmt:=nO 23
abbrev vV:Stmt:=nO 24
abbrev uE:Stmt:=nO 25
structure Txt (mg:Str->Option Value):Prop where
 len:mg "len" = none
 range:mg "range" = none
 sum:mg "sum" = none
 min:mg "min" = none
 max:mg "max" = none
 tuple:mg "tuple" = none
 list:mg "list" = none
 set:mg "set" = none
 dict:mg "dict" = none
 int:mg "int" = none
 str:mg "str" = none
 zip:mg "zip" = none
 enumerate:mg "enumerate" = none
 all:mg "all" = none
 any:mg "any" = none
 isinstance:mg "isinstance" = none
 sorted:mg "sorted" = none
 abs:mg "abs" = none
 reversed:mg "reversed" = none
 bool:mg "bool" = none
structure Gd (K:kC) (mg:Str->Option Value) (x:Str) (st:Stmt) (ps:List Str) (f:Addr) (fd:FuncData):Prop where
 F:Fun K x x st f fd
 m:mg x=some (.ref f)
 k:PySem.W.keepIn K (.ref f)=true
 b:uZ K fd ps []
noncomputable def Sd:Aa Af:=["and","or","odd"]
structure ArOk (w:Str) (n:Nat):Prop where
 ok:(w∈Sd/\(n=2\/n=3))\/(w = "most" /\ n=3)\/(w = "not" /\ n=1)\/(w = "one" /\ n=0)\/(w = "nil" /\ n=0)
structure Cel where
 ins:List Str
 gates:List (Str×Str×List Str)
 outs:List Str
def Cel.names (C:Cel):Aa Af:=C.ins++C.gates.map (·.1)
def vJ:Aa Af->Aa (Af×Af×Aa Af)->Prop
 | _,[]=>True
 | a,g::r=>ArOk g.2.1 g.2.2.length/\(∀ p∈g.2.2,p∈a)/\vJ (a++[g.1]) r
noncomputable def lT (w:Af) (bs:Aa Int):Int :=
 if w = "and" then (if bs.sum=bs.length then 1 else 0)
 else if w = "or" then (if bs.sum>0 then 1 else 0)
 else if w = "odd" then bs.sum%2
 else if w = "most" then (if bs.sum>=2 then 1 else 0)
 else if w = "not" then (if bs.sum=0 then 1 else 0)
 else if w = "one" then 1 else 0
def kJ (i:Int):Prop:=i=0\/i=1
theorem D4 (w:Af) (bs:Aa Int):kJ (lT w bs):=by
 unfold lT kJ;have:=hX bs.sum (show (2:Int)≠0 by decide);have:=gI bs.sum (show (0:Int)<2 by decide)
 repeat' split
 all_goals omega
theorem D9:∀ {bs:Aa Int},(∀ b∈bs,kJ b)->0<=bs.sum/\bs.sum<=bs.length
 | [],_=>by simp
 | b::r,h=>by
  have a:=h b aM;have d:=D9 λx c=>h x (aV _ c)
  simp only[eJ,cP];unfold kJ at a;omega
theorem Fy:∀ {bs:Aa Int},(∀ b∈bs,b=1)->bs.sum=bs.length
 | [],_=>by simp
 | b::r,h=>by
  have c:=h b aM;have d:=Fy λx a=>h x (aV _ a)
  simp only[eJ,cP];omega
theorem Hr:∀ {bs:Aa Int},(∀ b∈bs,kJ b)->(0:Int)∈bs->bs.sum<bs.length
 | [],_,h=>by simp at h
 | b::r,h,d=>by
  have c:=h b aM;have a:∀ x∈r,kJ x:=λx f=>h x (aV _ f)
  have i:=D9 a;simp only[eJ,cP];unfold kJ at c;rcases aJ.mp d with e | e
  .omega
  .have:=Hr a e;omega
theorem G3:∀ {bs:Aa Int},(∀ b∈bs,kJ b)->(1:Int)∈bs->0<bs.sum
 | [],_,h=>by simp at h
 | b::r,h,d=>by
  have c:=h b aM;have a:∀ x∈r,kJ x:=λx f=>h x (aV _ f)
  have i:=D9 a;simp only[eJ];unfold kJ at c;rcases aJ.mp d with e | e
  .omega
  .have:=G3 a e;omega
theorem Fg:∀ {bs:Aa Int},(∀ b∈bs,b=0)->bs.sum=0
 | [],_=>by simp
 | b::r,h=>by
  have c:=h b aM;have d:=Fg λx a=>h x (aV _ a)
  simp only[eJ];omega
theorem Um {bs:Aa Int}{m:Int}(g:∀ b∈bs,kJ b) (j:m∈bs) (l:∀ a∈bs,m<=a):m=if bs.sum=bs.length then 1 else 0:=by
 rcases g m j with e | e
 .subst e;have:=Hr g j;rw[aE (by omega)]
 .subst e;have:∀ b∈bs,b=1:=λb c=>by
   have:=l b c;rcases g b c with q | q<;>omega
  rw[aH (Fy this)]
theorem R8 {bs:Aa Int}{m:Int}(g:∀ b∈bs,kJ b) (j:m∈bs) (l:∀ a∈bs,a<=m):m=if bs.sum>0 then 1 else 0:=by
 rcases g m j with e | e
 .subst e;have:∀ b∈bs,b=0:=λb c=>by
   have:=l b c;rcases g b c with q | q<;>omega
  have:=Fg this;rw[aE (by omega)]
 .subst e;have:=G3 g j;rw[aH (by omega)]
def nE (j:Af->Int):Aa (Af×Af×Aa Af)->Af->Int
 | []=>j
 | g::r=>nE (λx=>if x=g.1 then lT g.2.1 (g.2.2.map j) else j x) r
def xG (j:Af->Int) (g:Af×Af×Aa Af):Af->Int:=λx=>if x=g.1 then lT g.2.1 (g.2.2.map j) else j x
theorem Fx:∀ (gs:Aa (Af×Af×Aa Af)) (j:Af->Int) (g:Af×Af×Aa Af),nE j (gs++[g])=xG (nE j gs) g
 | [],j,g=>rfl
 | a::r,j,g=>Fx r _ g
def nR (C:Cel) (g:Af->Int):Af->Int:=nE g C.gates
theorem vJ.at {gs:Aa (Af×Af×Aa Af)}:∀ {kn:Aa Af}{i:Nat}{g:Af×Af×Aa Af},vJ kn gs->gs[i]?=some g->ArOk g.2.1 g.2.2.length/\∀ p∈g.2.2,p∈kn++(gs.take i).map (·.1):=by
 induction gs with
 | nil=>intro kn i g _ h;simp at h
 | cons a r c =>
  intro kn i g h e;cases i with
  | zero=>simp at e;subst e;exact⟨h.1,by simpa using h.2.1⟩
  | succ i =>
   have:=c (kn:=kn++[a.1]) (i:=i) (g:=g) h.2.2 (by simpa using e);refine⟨this.1,λp b=>?_⟩;have q:=this.2 p b
   simpa using q
theorem Ic (h:ArOk w n) (g:w = "and" \/ w = "or"):2<=n:=by
 rcases h.ok with⟨_,q | q⟩ | ⟨q,_⟩ | ⟨q,_⟩ | ⟨q,_⟩ | ⟨q,_⟩
 .omega
 .omega
 all_goals (rcases g with e | e<;>(rw[e] at q;exact absurd q (by decide +kernel)))
theorem Xy (h:ArOk "not" n):n=1:=by
 rcases h.ok with⟨q,_⟩ | ⟨q,_⟩ | ⟨_,q⟩ | ⟨q,_⟩ | ⟨q,_⟩
 .exact absurd q (by decide +kernel)
 .exact absurd q (by decide +kernel)
 .exact q
 .exact absurd q (by decide +kernel)
 .exact absurd q (by decide +kernel)
noncomputable def nI (g:Af×Af×Aa Af):D:=.t [.str g.1,.str g.2.1,.t (g.2.2.map D.str)]
def nJ (C:Cel):D:=.t [.t (C.ins.map D.str),.t (C.gates.map nI),.t (C.outs.map D.str)]
structure GC (C:Cel):Prop where
 nd:C.names.Nodup
 gt:vJ C.ins C.gates
 os:∀ o∈C.outs,o∈C.names
 ond:C.outs.Nodup
 li:C.ins.length<=40
 lg:C.gates.length<=40
 lo:C.outs.length<=40
def tN (g:Aa (gV×D)) (l:Aa Af) (j:Af->Int):Prop:=∀ x∈l,kG g (Sum.inr x)=some (.int (j x))/\kJ (j x)
theorem tN.step (h:tN g j o) (l:kJ v) (p:n∉j):tN (lF g (Sum.inr n) (.int v)) (j++[n]) (λx=>if x=n then v else o x):=by
 intro x a;dsimp only;rw[Ji];by_cases e:x=n
 .subst e;rw[aH rfl,aH rfl];exact⟨rfl,l⟩
 .rw[aE (λz=>e (fH z).symm),aE e];rcases aZ.mp a with q | q
  .exact h x q
  .exact absurd (bA.mp q) e
theorem hI (I:Aa Sl->Prop) (o:∀ N:Aa Sl->Prop,(∀ g,I g->N g)->t l { j with nx:=N } r) (p:∀ g,I g->u l j g):Cc t u l j r:=o _ p
theorem oG (p:Aa D) (l:Aa Sl) (r:∀ J:Aa D->Aa Sl->Prop,J p l->ι I ρ J) (Pv:Nat->Aa Sl->Prop) (T:Pv 0 l)
  (U:∀ (i:Nat) d j,p[i]?=some d->Pv i j->g d j λC=>tb I { nx:=Pv (i+1),ct:=Pv (i+1),bk:=o.nx,rt:=o.rt } C) (hd:∀ j,Pv p.length j->o.nx j):Ez ι g tb I o ρ:=r _ ⟨Pv,T,U,hd⟩
theorem rS {j:Type}{f:j->D}{g:Aa j}{i:Nat}{d:D}(h:(g.map f)[i]?=some d):∃ y,g[i]?=some y/\f y=d:=by
 rw[bB] at h;cases e:g[i]? with
 | none=>rw[e] at h;cases h
 | some y=>rw[e] at h;exact⟨y,rfl,bO h⟩
theorem uH {lo:Int}(h:(mU lo n)[i]?=some d):i<n/\d = .int (lo+i):=by
 unfold mU at h;rw[bB] at h;cases e:(List.range n)[i]? with
 | none=>rw[e] at h;cases h
 | some y =>
  rw[e] at h;obtain⟨a,b⟩:=aG.mp e;rw[jU] at a;rw[List.getElem_range] at b;subst b;exact⟨a,(bO h).symm⟩
theorem Ha:∀ {l:Aa g}{n:Nat}{y:g},l[n]?=some y->l.Perm (y::l.eraseIdx n)
 | a::l,0,y,h=>by simp at h;subst h;exact .refl _
 | a::l,n+1,y,h=>by
  have:=Ha (l:=l) (n:=n) (y:=y) (by simpa using h);rw[List.eraseIdx_cons_succ];exact (this.cons a).trans (.swap y a _)
theorem W1 {n k:Nat}(h:k<n):seqIndex? (k:Int) n=some k:=by
 unfold seqIndex?;have:¬ ((k:Int)<0):=by omega
 simp[this,h]
theorem U9 (f:j->D) (g:Aa j) (k:Nat):uJ (g.map f) (some (k:Int)) none=(g.drop k).map f:=by
 unfold uJ;rw[aD,HT.sIx_nat,HT.sIx_none,List.map_drop,bN (by simp)];by_cases h:k<=g.length
 .rw[Nat.min_eq_left h]
 .rw[Nat.min_eq_right (by omega),List.drop_eq_nil_of_le (by simp),List.drop_eq_nil_of_le (by simp;omega)]
end Lw
namespace L2
open PySem PySem.Spec PyProof.Rows Lw
section
variable {X:Cx}{K:kC}
def C2 (K:kC) (neg:Bool):R2:=λx y H Q=>Do neg x y H Q\/Dt K neg x y H Q
theorem rD (g:X.A.units+64<cLine):kP X (compareOp .Eq) (C2 X.K false):=(show kP X (compareOp .Eq) (Do false) from S0).or (Uc g)
theorem G4 (g:X.A.units+64<cLine):kP X (compareOp .NotEq) (C2 X.K true):=(show kP X (compareOp .NotEq) (Do true) from Ua).or (Yv g)
def M6 (neg:Bool):O2:=λd e a=>match d,e with
 | .int i,.int j=>a (.v (.b (nb neg (decide (i=j)))))
 | .str i,.str j=>a (.v (.b (nb neg (decide (i=j)))))
 | .b i,.b j=>a (.v (.b (nb neg (decide (i=j)))))
 | .e,.int _=>a (.v (.b (nb neg false)))
 | .l c,.l []=>a (.v (.b (nb neg c.isEmpty)))
 | _,_=>False
theorem qQ (neg:Bool):mM K (C2 K neg) (M6 neg):=by
 intro B L H d e x y A Q hd h m f k;cases d<;>first | exact False.elim f | skip<;>cases e<;>first | exact False.elim f | skip
 .cases h;cases m
  rename_i j
  have c:decide (V.e=V.int j)=false:=by simp
  exact .inl ⟨rfl,by rw[c];exact k _ _ H f (hd.pushF (.b _))⟩
 .cases h;cases m
  rename_i i j
  have c:decide (V.b i=V.b j)=decide (i=j):=by simp
  exact .inl ⟨rfl,by rw[c];exact k _ _ H f (hd.pushF (.b _))⟩
 .cases h;cases m
  rename_i i j
  have c:decide (V.int i=V.int j)=decide (i=j):=by simp
  exact .inl ⟨rfl,by rw[c];exact k _ _ H f (hd.pushF (.b _))⟩
 .cases h;cases m
  rename_i i j
  have c:decide (V.str i=V.str j)=decide (i=j):=by simp
  exact .inl ⟨rfl,by rw[c];exact k _ _ H f (hd.pushF (.b _))⟩
 .rename_i v w
  cases w with
  | cons _ _=>exact False.elim f
  | nil =>
  obtain⟨a,n,rfl,q,t⟩:=h.lst_inv;obtain⟨b,z,rfl,s,u⟩:=m.lst_inv;cases u;have c:v.isEmpty=n.isEmpty:=by cases t<;>rfl
  refine .inr ⟨a,b,n,rfl,rfl,kK.of q,kK.of s,?_⟩;rw[<- c];exact k _ _ H f (hd.pushF (.b _))
end
end L2
namespace Lw
open PySem L2
def Ho:RD:=λe c d=>∃ (a:Af) (bs:Aa Int),c=[.str a,.l (bs.map D.int)]/\(∀ b∈bs,kJ b)/\ArOk a bs.length/\d (.v (.int (lT a bs)))
def Vd (g:Aa (gV×D)) (j:Aa Af):Prop:=∀ x∈j,∃ d,kG g (Sum.inr x)=some d
def En:RD:=λf c d=>∃ (b:Aa Af) (a:Aa (gV×D)),(c=[.t (b.map D.str),.k a]\/c=[.l (b.map D.str),.k a])/\Vd a b/\d (.v .e)
def Iw:RD:=λe c d=>∃ (C:Cel) (a:Aa (gV×D)) (b:Af->Int),c=[nJ C,.k a]/\GC C/\tN a C.ins b/\d (.v (.t (C.outs.map λo=>D.int (nR C b o))))
def Ao:RD:=λc a b=>∃ n:Nat,a=[.int n]/\n<=1000/\b (.v (.l ((List.range n).map λi=>D.int (2 ^ i))))
def Hb:RD:=λe c d=>∃ (b:Aa Af) (a:Aa (gV×D)) (f:Af->Int) (i:Nat),c=[.t (b.map D.str),.k a,.int (2 ^ i)]/\b.Nodup/\b.length<=100/\i<=60/\(∀ x∈b,kG a (Sum.inr x)=some (.int (f x)))/\d (.o (.k (hO (b.map λx=>(x,f x/2 ^ i%2)))))
theorem Ce {g:Type} [DecidableEq g] {a b:g}{p q:Prop}(j:a=b->p) (l:¬ a=b->q):if (nb false (decide (a=b)))=true then p else q:=by
 by_cases e:a=b
 .rw[aH (by simp[nb,e])];exact j e
 .rw[aE (by simp[nb,e])];exact l e
theorem By {c:Prop} [Decidable c] {p q:Prop}(g:c->p) (j:¬ c->q):if (decide c)=true then p else q:=by
 by_cases e:c
 .rw[aH (cC e)];exact g e
 .rw[aE (by simp[e])];exact j e
theorem wW (h:g.length<100000):rV (.k g) (.str x) d=some (.k (lF g (Sum.inr x) d)):=by
 simp only[rV,aH h];rfl
theorem sL (t:oJ):(hO t).length=t.length:=by simp[hO]
theorem Bz (h:i<=60):(0:Int)<2 ^ i/\(2:Int) ^ i<2 ^ 64:=by
 have a:(2:Int) ^ i=((2 ^ i:Nat):Int):=by norm_cast
 have b:2 ^ i<2 ^ 64:=Nat.pow_lt_pow_right (by decide) (by omega);have c:0<2 ^ i:=jK i;rw[a];omega
theorem Y5:(["name","bits"]:Aa Af).Nodup:=by decide +kernel
theorem Y3:(["known","told"]:Aa Af).Nodup:=by decide +kernel
theorem Pf:(["name","told"]:Aa Af).Nodup:=by decide +kernel
theorem Nf:(["name","words","worth"]:Aa Af).Nodup:=by decide +kernel
section
variable {P:Ah}{K:kC}
theorem nS {P:Aa Af}(a:j.kind = .function:=by rfl) (b:j.isCoroutine=false:=by rfl) (c:j.isGenerator=false:=by rfl) (d:N.Nodup:=by decide +kernel) (e:N.take P.length=P:=by rfl) (f:∀ x∈P,j.names.lookup x=some .local\/j.names.lookup x=some .cell:=by decide +kernel) (g:∀ y∈j.names,y.2 ≠ .free:=by decide +kernel):L2.FnScope N P j:=⟨a,b,c,d,e,f,g⟩
theorem Pu:FnScope ["word","bits"] ["word","bits"] (lQ vL):=nS
theorem Xc (F:Fun K "gate_bit" "gate_bit" vL f fd) (T:Txt r):FnOk P w K r base kQ 1 f fd ["word","bits"] (kY K Ho):=by
 refine F.okD (k:=0) Pu (λi X c ⟨_,_,e,_⟩=>by rw[e];rfl) (by decide) λW A O s H E i X c d j=>?_
 have o:=nL d;obtain⟨x,bs,rfl,G,ok,M⟩:=j;have fin:∀ z:Int,z=lT x bs->c (.v (.int z)):=λz e=>by rw[e];exact M
 have a:=B2 bs;have st:∀ (e:Af) (t u:nH),(x=e->t i { nx:=λ_=>c (.v .e),rt:=c } [.v (.str x),.v (.l (bs.map D.int))])->(¬ x=e->u i { nx:=λ_=>c (.v .e),rt:=c } [.v (.str x),.v (.l (bs.map D.int))]) ->
   (∀ Q R V,Q.rt=R.rt->t i Q V->t i R V)->Cc (Iq (xF (sH (Qq false) 0 (cd (.str e)))) t Fs) u i { nx:=λ_=>c (.v .e),rt:=c } [.v (.str x),.v (.l (bs.map D.int))]:=λe t u Y Z g =>
  ⟨rfl,Ce (λz=>g { nx:=λ_=>c (.v .e),rt:=c } _ _ rfl (Y z)) λz=>Z z⟩
 refine⟨_,(hB (oH (qX (rD d.units) (qQ false) (pv 0) mW) (kR (mG (pR (Gz rfl) Fe T.min PyProof.Rows.boot_min (dK (dT 1) eI)))) oR) (hB (oH (qX (rD d.units) (qQ false) (pv 0) mW) (kR (mG (pR (Fk rfl) Gn T.max PyProof.Rows.boot_max (dK (dT 1) eI)))) oR) (hB (oH (qX (rD d.units) (qQ false) (pv 0) mW) (kR (mG (kE lV lW (pR (Dy rfl) Dp T.sum iU (dK (dT 1) eI)) eH))) oR) (hB (oH (qX (rD d.units) (qQ false) (pv 0) mW) (kR (mG (C1 (uR Hu L8 (pR (Dy rfl) Dp T.sum iU (dK (dT 1) eI)) eH) eH eH))) oR) (hB (oH (qX (rD d.units) (qQ false) (pv 0) mW) (kR (mG (kE rX rT eH (kT o 1 eH)))) oR) (kR (mG (C1 (qX (rD d.units) (qQ false) (pv 0) mW) eH eH)))))))),?_⟩;refine st _ _ _ (λe=>⟨bs,a,?_,λm L B=>fin m ?_⟩) (λh=>?_) (λ_ _ _ e=>by unfold rF;rw[e];exact id)
 .have:=Ic ok (.inl e);intro z;rw[z] at this;simp at this
 .rw[Um G L B];unfold lT;rw[if_pos e]
 refine st _ _ _ (λe=>⟨bs,a,?_,λm L B=>fin m ?_⟩) (λn=>?_) (λ_ _ _ e=>by unfold rF;rw[e];exact id)
 .have:=Ic ok (.inr e);intro z;rw[z] at this;simp at this
 .rw[R8 G L B];unfold lT;rw[if_neg h,if_pos e]
 refine st _ _ _ (λe=>⟨bs,a,by show (0:Int)<2;decide,fin _ ?_⟩) (λy=>?_) (λ_ _ _ e=>by unfold rF;rw[e];exact id)
 .unfold lT;rw[if_neg h,if_neg n,if_pos e]
 refine st _ _ _ (λe=>⟨bs,a,By (λz=>fin _ ?_) (λz=>fin _ ?_)⟩) (λN=>?_) (λ_ _ _ e=>by unfold rF;rw[e];exact id)
 .unfold lT;rw[if_neg h,if_neg n,if_neg y,if_pos e,if_pos z]
 .unfold lT;rw[if_neg h,if_neg n,if_neg y,if_pos e,if_neg z]
 refine st _ _ _ (λe=>?_) (λS=>?_) (λ_ _ _ e=>by unfold rF;rw[e];exact id)
 .subst e;have p:=Xy ok;obtain⟨b,rfl⟩:∃ b,bs=[b]:=by
   match bs,p with
   | [b],_=>exact⟨b,rfl⟩
  refine⟨rfl,.int b,rfl,fin _ ?_⟩;have:=G b (by simp);unfold lT;rw[aE h,aE n,aE y,aE N,aH rfl];rcases this with q | q<;>subst q<;>simp
 refine⟨rfl,Ce (λe=>fin _ ?_) λC=>fin _ ?_⟩
 .unfold lT;rw[if_neg h,if_neg n,if_neg y,if_neg N,if_neg S,if_pos e]
 .unfold lT;rw[if_neg h,if_neg n,if_neg y,if_neg N,if_neg S,if_neg C]
theorem Gi:FnScope ["names","given","name"] ["names","given"] (lQ vA):=nS
theorem Li (j:H b=some (.k g)) (l:nQ g (Sum.inr x)=some v):nM H b (.str x) (some v):=by
 have:=nM.k (k:=(Sum.inr x:gV)) j
 rwa [l] at this
theorem Fd {g:Aa Af}{i:Nat}{x:V}(h:(g.map V.str)[i]?=some x):∃ y,g[i]?=some y/\V.str y=x:=by
 rw[bB] at h;cases e:g[i]? with
 | none=>rw[e] at h;cases h
 | some y=>rw[e] at h;exact⟨y,rfl,bO h⟩
theorem Sa (F:Fun K "check_there" "check_there" vA f fd):FnOk P w K mg base kQ 1 f fd ["names","given"] (kY K En):=by
 refine F.ok Gi (λg H Q E ⟨l,A,o,Φ,D,C,r,⟨m,S,e,_⟩,Y⟩=>by rw[<- r.length];rcases e with e | e<;>rw[e]<;>rfl) (λj A W s H g Q E I O=>?_);obtain⟨l,A1,o,Φ,D,C,r,⟨m,S,e,J,R⟩,Y⟩:=O;have T:=nL I;obtain⟨c,b,u,rfl,q,B,G⟩:∃ c b u,g=[.ref c,.ref b]/\(kK K H c (m.map V.str)\/kO K H c (m.map V.str))/\H b=some (.k u)/\∀ x∈m,∃ v,nQ u (Sum.inr x)=some v:=by
  rcases e with e | e<;>subst e
  all_goals (
   cases r with
   | cons Z r =>
    cases r with
    | cons U r =>
     cases r;obtain⟨b,u,rfl,_,B,p,r3⟩:=U.dK_inv;have G:∀ x∈m,∃ v,nQ u (Sum.inr x)=some v:=λx L=>by
      obtain⟨d,hd⟩:=J x L;obtain⟨v,z,_⟩:=(yN p r3 (Sum.inr x)).1 d hd;exact⟨v,z⟩
     first
     | (obtain⟨c,us,rfl,z,X⟩:=Z.tup_inv;have:=Hy (Du m) X;subst this;exact⟨c,b,u,rfl,.inr (kO.of z),B,G⟩)
     | (obtain⟨c,us,rfl,_,z,X⟩:=Z.lst_inv;have:=Hy (Du m) X;subst this;exact⟨c,b,u,rfl,.inl (kK.of z),B,G⟩))
 have fin:Q .e H:=Y (.v .e) .e H R (λ_ _ e _=>e) D .e;refine⟨_,zC (D8 jJ rfl (Ir (pv 0)) (Ku (i:=2) Gi.nd rfl (Or.inl rfl)) (zC (Ix (V5 (Nh T (pv 2) (pv 1))) (zC Uf) Ig))),?_⟩;refine⟨_,rfl,?_⟩;rcases q with q | q
 .refine .inl ⟨c,rfl,⟨_,q⟩,?_⟩;refine Rl (K:=K) (a:=c) (xs:=m.map V.str) (λi n h=>h=H/\∃ M,n=[some (.ref c),some (.ref b),M]) ⟨rfl,none,rfl⟩ (λi n h _ ⟨e,_⟩=>by rw[e];exact q) ?_ ?_
  .rintro i x n h L ⟨rfl,M,rfl⟩;obtain⟨y,N,rfl⟩:=Fd L;obtain⟨v,t⟩:=G y (aW N);exact⟨_,rfl,_,rfl,b,_,rfl,Li B t,_,rfl,uA ⟨rfl,_,rfl⟩⟩
  .rintro n h ⟨rfl,_⟩;exact fin
 .refine .inr (.inl ⟨c,rfl,⟨_,q⟩,?_⟩);refine Rf (K:=K) (a:=c) (xs:=m.map V.str) (λi n h=>h=H/\∃ M,n=[some (.ref c),some (.ref b),M]) ⟨rfl,none,rfl⟩ (λi n h _ ⟨e,_⟩=>by rw[e];exact q) ?_ ?_
  .rintro i x n h L ⟨rfl,M,rfl⟩;obtain⟨y,N,rfl⟩:=Fd L;obtain⟨v,t⟩:=G y (aW N);exact⟨_,rfl,_,rfl,b,_,rfl,Li B t,_,rfl,uA ⟨rfl,_,rfl⟩⟩
  .rintro n h ⟨rfl,_⟩;exact fin
theorem xO:FnScope ["cell","bits","told","name","word","names"] ["cell","bits"] (lQ wB):=nS
theorem R4 (F:Fun K "told_by" "told_by" wB f fd) (T:Txt mg) (l:Gd K mg "check_there" vA ["names","given"] fT af) (I:Gd K mg "gate_bit" vL ["word","bits"] fG ae)
  (J:FnOk P w K mg base kQ 1 fT af ["names","given"] (kY K En)) (U:FnOk P w K mg base kQ 1 fG ae ["word","bits"] (kY K Ho)):FnOk P w K mg base kQ 2 f fd ["cell","bits"] (kY K Iw):=by
 refine F.okD (k:=1) xO (λdk ds Φ ⟨_,_,_,e,_⟩=>by rw[e];rfl) (by decide) λaj A ai s H E dk ds Φ hr hR=>?_
 have M:=nL hr;obtain⟨C,c,y,rfl,S,hH,ag⟩:=hR;have li:=S.li;have lg:=S.lg;have W:C.ins.Nodup:=(aO.mp S.nd).1;refine⟨_,(hB (oW (lU J (hr.mono (by decide)) (by rfl) l.m l.k l.b (dK (kT M 0 eH) (dK (dT 1) eI)))) (hB (kI 2 xO.nd (nF (vW rfl) wI T.dict cS (dK (rH ["name"] ["bits"] [1] (nN (kT M 0 eH)) (λ_ _ _ _ _=>(kH 0 Y5)) (λ_ _ _ _ _=>(lE (dK (dT 0) (dK (kT M 1 (dT 0)) eI))))) eI))) (hB (oD (nN (kT M 0 eH)) (pJ (n:=3) rfl (kW (kH 3 xO.nd) (kW (kH 4 xO.nd) (kW (kH 5 xO.nd) oS)))) (kR (sV (n:=2) M (lU U (hr.mono (by decide)) (by rfl) I.m I.k I.b (dK (dT 4) (dK (rH ["known"] ["told"] [2] (nN (dT 5)) (λ_ _ _ _ _=>(kH 0 Y3)) (λ_ _ _ _ _=>(kT M 1 (dT 0)))) eI))) (pv 2) (dT 3)))) (kR (mG (nF tE tP T.tuple cR (dK (rH ["name"] ["told"] [2] (nN (kT M 0 eH)) (λ_ _ _ _ _=>(kH 0 Pf)) (λ_ _ _ _ _=>(kT M 1 (dT 0)))) eI))))))),?_⟩;refine⟨rfl,_,rfl,C.ins,c,.inl rfl,λx V=>⟨_,(hH x V).1⟩,.inl rfl,?_⟩;dsimp only;refine hI (λu=>u=[.v (nJ C),.v (.k c),.o (.k (hO (C.ins.map λn=>(n,y n)))),.n,.n,.n]) (λN hN=>?_) ?_
 .unfold tT dC aC;refine rG C.ins D.str (λn=>.t [.str n,.int (y n)]) [.v (nJ C),.v (.k c),.n,.n,.n,.n] (λΨ h=>⟨rfl,_,rfl,h⟩) (by omega) (λi n ys Nx e X Y=>?_) ?_
  .refine⟨rfl,.int (y n),?_,by show 2<=1000;decide,X,Y⟩;show some (kG c (Sum.inr n))=_;rw[(hH n (aW e)).1]
  have e0:qY (C.ins.map λn=>D.t [.str n,.int (y n)])=some (hO (C.ins.map λn=>(n,y n))):=by
   rw[yW (g:=λn=>((Sum.inr n:gV),D.int (y n))) (λn=>⟨.str n,rfl,rfl⟩)];simp[hO]
  refine⟨_,e0,by simp[hO];omega,?_⟩;rw[zV (by simpa [cI] using W)];exact hN _ rfl
 rintro _ rfl;have h0:tN (hO (C.ins.map λn=>(n,y n))) C.ins y:=λx V=>by
  refine⟨?_,(hH x V).2⟩;have hm:x∈(C.ins.map λn=>(n,y n)).map (·.1):=by simpa [cI] using V
  rw[(uQ _ x).1 hm]
  congr 2
  clear hm;revert V;generalize C.ins=xs;induction xs with
  | nil=>intro h;simp at h
  | cons a r ih =>
   intro h;rw[aI,sN];by_cases q:a=x
   .rw[aH q,q]
   .rw[aE q];rcases aJ.mp h with z | z
    .exact absurd z.symm q
    .exact ih z
 refine hI (λu=>∃ (d:Aa (gV×D)) (O Q R:Sl),u=[.v (nJ C),.v (.k c),.o (.k d),O,Q,R]/\tN d C.names (nR C y)) (λN hN=>?_) ?_
 .refine oG (C.gates.map nI) _ (λΨ h=>⟨rfl,_,rfl,h⟩)
   (λi u=>∃ (d:Aa (gV×D)) (O Q R:Sl),u=[.v (nJ C),.v (.k c),.o (.k d),O,Q,R]/\tN d (C.ins++(C.gates.take i).map (·.1)) (nE y (C.gates.take i))/\d.length<=40+i) ⟨_,.n,.n,.n,rfl,by simpa [nE] using h0,by rw[sL,aD];omega⟩ ?_ ?_
  .rintro i x u V ⟨d,O,Q,R,rfl,L,hl⟩;obtain⟨g,G,rfl⟩:=rS V;obtain⟨Z,ac⟩:=S.gt.at G;have hi:i<C.gates.length:=(aG.mp G).1;have ab:g.1∉C.ins++(C.gates.take i).map (·.1):=λq=>by
    have nd:(C.ins++C.gates.map (·.1)).Nodup:=S.nd;have e:C.gates=C.gates.take i++g::C.gates.drop (i+1):=by
     obtain⟨hi,rfl⟩:=aG.mp G;rw[dZ,eE]
    rw[e,aT,<- aX] at nd;exact (aO.mp nd).2.2 g.1 q g.1 (by simp) rfl
   have tk:C.gates.take (i+1)=C.gates.take i++[g]:=by rw[cY,G];rfl
   generalize ah:nE y (C.gates.take i)=B at L;have aa:∀ p∈g.2.2,kJ (B p):=λp hp=>(L p (ac p hp)).2
   refine⟨rfl,rfl,?_⟩;unfold He A4 aC vd;simp only[List.set_cons_succ,List.set_cons_zero,iE,iD];refine rG g.2.2 D.str (λo=>.int (B o)) [.v (nJ C),.v (.k c),.o (.k d),.v (.str g.1),.v (.str g.2.1),.v (.t (g.2.2.map D.str))] (λΨ h=>h) (by rcases Z.ok with⟨_,q | q⟩ | ⟨_,q⟩ | ⟨_,q⟩ | ⟨_,q⟩ | ⟨_,q⟩<;>omega) (λj o ys Nx e X Y=>?_) ?_
   .refine⟨rfl,.int (B o),?_,X,Y⟩;show some (kG d (Sum.inr o))=_;rw[(L o (ac o (aW e))).1]
   refine⟨g.2.1,g.2.2.map B,by rw[bG];rfl,(λb hb=>by obtain⟨p,hp,rfl⟩:=bE.mp hb;exact aa p hp),by rw[aD];exact Z,.inl rfl,rfl,_,wW (by omega),lF d (Sum.inr g.1) (.int (lT g.2.1 (g.2.2.map B))),_,_,_,rfl,?_,?_⟩
   .rw[tk,Fx,ah,aT,<- aX];exact L.step (D4 _ _) ab
   .have:=Y1 d (Sum.inr g.1:gV) (.int (lT g.2.1 (g.2.2.map B)));omega
  .rintro u ⟨d,O,Q,R,rfl,L,hl⟩;rw[aD,bN (aP _)] at L;exact hN _ ⟨d,O,Q,R,rfl,L⟩
 rintro _ ⟨d,O,Q,R,rfl,L⟩;unfold rF dC aC;have lo:=S.lo;refine rG C.outs D.str (λo=>.int (nR C y o)) [.v (nJ C),.v (.k c),.o (.k d),O,Q,R] (λΨ h=>⟨rfl,_,rfl,h⟩) (by omega) (λj o ys Nx e X Y=>?_) ag;refine⟨rfl,.int (nR C y o),?_,X,Y⟩;show some (kG d (Sum.inr o))=_;rw[(L o (S.os o (aW e))).1]
theorem xR:FnScope ["count","found","worth","place"] ["count"] (lQ tA):=nS
theorem Ya (F:Fun K "place_worths" "place_worths" tA f fd) (T:Txt g):FnOk P w K g base kQ 1 f fd ["count"] (kY K Ao):=by
 refine F.okD (k:=0) xR (λt u G ⟨_,e,_⟩=>by rw[e];rfl) (by decide) λq A m s H E t u G z y=>?_
 have O:=nL z;obtain⟨n,rfl,M,d⟩:=y;refine⟨_,(hB (kI 1 xR.nd (nD eI)) (hB (kI 2 xR.nd eH) (hB (oD (tI (by rfl) T.range (dT 0)) (kH 3 xR.nd) (hB (oW (qB bR bW bX qV rR (pv 1) (dK (dT 2) eI))) (kR (kI 2 xR.nd (kN mO mP 2 eH))))) (kR (mG (dT 1)))))),?_⟩;refine⟨by show 0<=1000;decide,?_⟩;dsimp only;refine hI (λb=>b=[.v (.int n),.o (.l []),.v (.int 1),.n]) (λN c=>c _ rfl) ?_;rintro _ rfl;refine hI (λb=>∃ a:Sl,b=[.v (.int n),.o (.l ((List.range n).map λi=>D.int (2 ^ i))),.v (.int (2 ^ n)),a]) (λN c=>?_) ?_
 .refine oG (mU 0 n) [.v (.int n),.o (.l []),.v (.int 1),.n] (λQ h=>⟨by omega,by omega,h⟩) (λi b=>∃ a:Sl,b=[.v (.int n),.o (.l ((List.range i).map λi=>D.int (2 ^ i))),.v (.int (2 ^ i)),a]) ⟨.n,rfl⟩ ?_ ?_
  .rintro i x b B ⟨a,rfl⟩;obtain⟨L,rfl⟩:=uH B;refine⟨rfl,by show ((List.range i).map λi=>D.int (2 ^ i)).length<100000;rw[aD,jU];omega,rfl,.inr ⟨by decide,by decide⟩,.v (.int (0+(i:Int))),?_⟩;rw[List.range_succ,aT];rfl
  .rintro b ⟨a,rfl⟩;have:(mU 0 n).length=n:=by simp[mU]
   rw[this];exact c _ ⟨a,rfl⟩
 rintro _ ⟨a,rfl⟩;exact d
theorem Xq:FnScope ["names","words","worth"] ["names","words","worth"] (lQ vN):=nS
theorem Wg (F:Fun K "word_bits" "word_bits" vN f fd) (T:Txt l):FnOk P w K l base kQ 1 f fd ["names","words","worth"] (kY K Hb):=by
 refine F.okD (k:=0) Xq (λq u Q ⟨_,_,_,_,e,_⟩=>by rw[e];rfl) (by decide) λm A d s H E q u Q L B=>?_
 have M:=nL L;obtain⟨b,a,g,i,rfl,O,S,G,N,c⟩:=B;refine⟨_,(kR (mG (nF (vW rfl) wI T.dict cS (dK (rH ["name"] ["words","worth"] [1,2] (nN (dT 0)) (λ_ _ _ _ _=>(kH 0 Nf)) (λ_ _ _ _ _=>(lE (dK (dT 0) (dK (kE lV lW (kE mI mL (kT M 1 (dT 0)) (dT 2)) eH) eI))))) eI)))),?_⟩;unfold rF dC aC;refine rG b D.str (λn=>.t [.str n,.int (g n/2 ^ i%2)]) [.v (.t (b.map D.str)),.v (.k a),.v (.int (2 ^ i))] (λW h=>h) (by omega) (λj n V R e y z=>?_) ?_
 .refine⟨rfl,.int (g n),?_,Bz G,by show (0:Int)<2;decide,by show 2<=1000;decide,y,z⟩;show some (kG a (Sum.inr n))=_;rw[N n (aW e)]
 have x:qY (b.map λn=>D.t [.str n,.int (g n/2 ^ i%2)])=some (hO (b.map λn=>(n,g n/2 ^ i%2))):=by
  rw[yW (g:=λn=>((Sum.inr n:gV),D.int (g n/2 ^ i%2))) (λn=>⟨.str n,rfl,rfl⟩)];simp[hO]
 refine⟨_,x,by simp[hO];omega,?_⟩;rw[zV (by simpa [cI] using O)];exact c
end
def yE:RD:=λe b d=>∃ (a:Aa Int) (k:Nat),b=[.c (a.map D.int),.int k]/\a.length<=63/\k<=1000/\∀ r:Nat,r<1000000->d (.v (.int r))
def Em:RD:=λe b d=>∃ (n:Nat) (a:Aa D),(b=[.int n,.l a]\/b=[.int n,.t a])/\a.length<=1000/\∀ c,c.Perm a->d (.v (.l c))
def Lc:RD:=λe c d=>∃ n:Nat,c=[.int n]/\∀ a b:Nat,1<=a->a<=8->1<=b->b<=8->d (.v (.t [.int a,.int b]))
theorem sC (m:Nat) (h:0<m):∃ r:Nat,z%(m:Int)=(r:Int)/\r<m:=by
 have a:=hX z (show (m:Int)≠0 by omega);have b:=gI z (show (0:Int)<m by omega);exact⟨(z%(m:Int)).toNat,by omega,by omega⟩
theorem Va {ns:Aa Int}{z:Int}(g:0<=z) (l:z<(ns.length+1:Nat)):∃ c:Int,mC (ns.map D.int++[D.int 0]) z=some (.int c):=by
 obtain⟨j,rfl⟩:=iJ g;have a:j<(ns++[0]).length:=by rw[bI,List.length_singleton];omega
 refine⟨(ns++[0])[j],wT ?_⟩;have e:ns.map D.int++[D.int 0]=(ns++[0]).map D.int:=by rw[aT];rfl
 rw[e,bB,aL a];rfl
section
variable {P:Ah}{K:kC}
theorem sI:FnScope ["script","k","cells","size","cell","turn","step","seed"] ["script","k"] (lQ sK):=nS
theorem M3 (F:Fun K "_law_number" "_law_number" sK f fd) (T:Txt mg):FnOk P w K mg base kQ 1 f fd ["script","k"] (kY K yE):=by
 refine F.okD (k:=0) sI (λW X Φ ⟨_,_,e,_⟩=>by rw[e];rfl) (by decide) λV A O s H E W X Φ B Y=>?_
 have hu:=nL B;obtain⟨a,k,rfl,hl,g,G⟩:=Y;refine⟨_,(hB (kI 2 sI.nd (kE lG lH (nF B9 Ec T.list iP (dK (dT 0) eI)) (nD (dK eH eI)))) (hB (kI 3 sI.nd (pR (Fk rfl) Gn T.max PyProof.Rows.boot_max (dK eH (dK (pR A5 zY T.len jR (dK (dT 0) eI)) eI)))) (hB (kI 4 sI.nd (kT hu 2 (kN lV lW 1 (dT 3)))) (hB (kI 5 sI.nd (kN mI mL 1 (dT 3))) (hB (oH (qX Hu L8 (pv 4) (kE Ww U8 eH eH)) (hB (oD (tI (by rfl) T.range (pR (Gz rfl) Fe T.min PyProof.Rows.boot_min (dK (dT 5) (dK eH eI)))) (kH 6 sI.nd) (kR (kI 4 sI.nd (kN mI mL 4 eH)))) (kR (mG (kN lV lW 4 eH)))) oR) (hB (kI 7 sI.nd (kE lV lW (kE mO mP (kE lG lH (kE lG lH (kE lG lH (kN lV lW 4 eH) eH) (kE mO mP eH (dT 5))) (kE mO mP eH (dT 1))) eH) eH)) (hB (kI 7 sI.nd (kE lV lW (kE lG lH (kE lG lH (kN mO mP 7 (dT 7)) (kE mO mP eH (dT 5))) (kE mO mP eH (dT 1))) eH)) (kR (mG (kE lV lW (kE mI mL (kE lV lW (kN mO mP 7 eH) eH) eH) eH)))))))))),?_⟩;refine hI (λb=>b=[.v (.c (a.map D.int)),.v (.int k),.o (.l (a.map D.int++[D.int 0])),.n,.n,.n,.n,.n]) (λN u=>?_) ?_
 .exact⟨_,rfl,by show 1<=1000;decide,by show (a.map D.int).length+1<=100000;rw[aD];omega,u _ rfl⟩
 rintro _ rfl;refine hI (λb=>∃ m:Nat,1<=m/\m<=a.length+1/\b=[.v (.c (a.map D.int)),.v (.int k),.o (.l (a.map D.int++[D.int 0])),.v (.int m),.n,.n,.n,.n]) (λN u=>?_) ?_
 .refine⟨rfl,_,rfl,λm p R S=>?_⟩;have e:(a.map D.int).length=a.length:=aD ..;rw[e] at p S;obtain⟨j,rfl⟩:=iJ (show 0<=m by omega);exact u _ ⟨j,by omega,by omega,rfl⟩
 rintro _ ⟨m,C,I,rfl⟩;obtain⟨r0,e0,J⟩:=sC (z:=(k:Int)) m (by omega);obtain⟨c,Z⟩:=Va (ns:=a) (z:=(k:Int)%(m:Int)) (by omega) (by omega);refine hI (λb=>b=[.v (.c (a.map D.int)),.v (.int k),.o (.l (a.map D.int++[D.int 0])),.v (.int m),.v (.int c),.n,.n,.n]) (λN u=>?_) ?_
 .exact⟨rfl,rfl,by show (0:Int)<m;omega,_,Z,u _ rfl⟩
 rintro _ rfl;obtain⟨t,U,aa⟩:∃ t:Nat,(k:Int)/(m:Int)=(t:Int)/\t<=1000:=⟨k/m,by norm_cast,bS (Nat.div_le_self _ _) g⟩;refine hI (λb=>b=[.v (.c (a.map D.int)),.v (.int k),.o (.l (a.map D.int++[D.int 0])),.v (.int m),.v (.int c),.v (.int ((k:Int)/(m:Int))),.n,.n]) (λN u=>?_) ?_
 .exact⟨rfl,⟨by show (0:Int)<m;omega,by show (m:Int)<2 ^ 64;omega⟩,u _ rfl⟩
 rintro _ rfl;rw[U];refine hI (λb=>b=[.v (.c (a.map D.int)),.v (.int k),.o (.l (a.map D.int++[D.int 0])),.v (.int m),.v (.int c),.v (.int t),.n,.n]) (λN u=>?_) ?_
 .refine⟨rfl,⟨by decide,by decide,by decide⟩,By (λ_=>?_) λ_=>u _ rfl⟩;refine hI (λb=>∃ (c:Int) (L:Sl),b=[.v (.c (a.map D.int)),.v (.int k),.o (.l (a.map D.int++[D.int 0])),.v (.int m),.v (.int c),.v (.int t),L,.n]) (λN' M=>?_) ?_
  .refine λq hq R S=>⟨by omega,by omega,λi b=>∃ (c:Int) (L:Sl),b=[.v (.c (a.map D.int)),.v (.int k),.o (.l (a.map D.int++[D.int 0])),.v (.int m),.v (.int c),.v (.int t),L,.n],⟨c,.n,rfl⟩,?_,λb h=>M _ h⟩
   rintro i d b hd ⟨Q,L,rfl⟩;exact⟨rfl,⟨by show (0:Int)<1000000;decide,by show (1000000:Int)<2 ^ 64;decide⟩,_,_,rfl⟩
  rintro _ ⟨Q,L,rfl⟩;obtain⟨r,e,B⟩:=sC (z:=Q) 1000000 (by decide);refine⟨rfl,by show (0:Int)<1000000;decide,?_⟩;have:=G r B;rw[<- e] at this;exact this
 rintro _ rfl;have big:∀ z:Int,0<=z->z<2147483648->-(2 ^ 64:Int)<z/\z<2 ^ 64:=λz h0 R=>by omega
 refine hI (λb=>∃ z:Int,0<=z/\z<2147483648/\b=[.v (.c (a.map D.int)),.v (.int k),.o (.l (a.map D.int++[D.int 0])),.v (.int m),.v (.int c),.v (.int t),.n,.v (.int z)]) (λN u=>?_) ?_
 .refine⟨rfl,by show (0:Int)<2147483629;decide,.inl ⟨by decide,by decide⟩,.inl ⟨by decide,by decide⟩,.inr ⟨by decide,by decide⟩,by show (0:Int)<2147483647;decide,u _ ⟨_,?_,?_,rfl⟩⟩
  .exact hX _ (by decide)
  .exact Int.lt_trans (gI _ (by decide)) (by decide)
 rintro _ ⟨z,x,y,rfl⟩;refine hI (λb=>∃ z:Int,0<=z/\z<2147483648/\b=[.v (.c (a.map D.int)),.v (.int k),.o (.l (a.map D.int++[D.int 0])),.v (.int m),.v (.int c),.v (.int t),.n,.v (.int z)]) (λN u=>?_) ?_
 .refine⟨rfl,.inl (big z x y),.inl ⟨by decide,by decide⟩,.inl ⟨by decide,by decide⟩,by show (0:Int)<2147483587;decide,u _ ⟨_,?_,?_,rfl⟩⟩
  .exact hX _ (by decide)
  .exact Int.lt_trans (gI _ (by decide)) (by decide)
 rintro _ ⟨z,x,y,rfl⟩;refine⟨rfl,.inl (big z x y),by show (0:Int)<2147483563;decide,⟨by show (0:Int)<64;decide,by show (64:Int)<2 ^ 64;decide⟩,by show (0:Int)<1000000;decide,?_⟩;obtain⟨r,e,B⟩:=sC (z:=z*69621%2147483563/64) 1000000 (by decide);have:=G r B;rw[<- e] at this;exact this
theorem An:FnScope ["number","things","waiting","found"] ["number","things"] (lQ uV):=nS
theorem Tk (F:Fun K "_law_turned" "_law_turned" uV f fd) (T:Txt g):FnOk P w K g base kQ 1 f fd ["number","things"] (kY K Em):=by
 refine F.okD (k:=0) An (λQ R X ⟨_,_,e,_⟩=>by rcases e with e | e<;>rw[e]<;>rfl) (by decide) λO A B s H E Q R X G S=>?_
 have Z:=nL G;obtain⟨n,i,e,Y,u⟩:=S;refine⟨_,(hB (kI 2 An.nd (nF B9 Ec T.list iP (dK (dT 1) eI))) (hB (kI 3 An.nd (nD eI)) (hB (Qx jJ (qX (G4 G.units) (qQ true) (pv 2) (nD eI)) (hB (oW (qB bR bW bX qV rR (pv 3) (dK (qB bR PySem.F.slot_list_pop PySem.F.type_list_pop Py R9 (pv 2) (dK (kN lV lW 0 (pR A5 zY T.len jR (wZ (pv 2) eI))) eI)) eI))) (kR (kI 0 An.nd (kN mI mL 0 eH))))) (kR (mG (dT 3)))))),?_⟩;refine hI (λb=>∃ h:Sl,b=[.v (.int n),h,.o (.l i),.n]) (λN t=>?_) ?_
 .rcases e with e | e<;>subst e<;>exact⟨_,rfl,t _ ⟨_,rfl⟩⟩
 rintro _ ⟨h,rfl⟩;refine⟨by show 0<=1000;decide,?_⟩;dsimp only;refine hI (λb=>∃ (m:Aa D) (M:Sl),b=[M,h,.o (.l []),.o (.l m)]/\m.Perm i) (λN t=>?_) ?_
 .refine⟨λb=>∃ (n:Nat) (left found:Aa D),b=[.v (.int n),h,.o (.l left),.o (.l found)]/\(found++left).Perm i,λ(b:Aa Sl)=>match b[2]? with | some (Sl.o (D.l l))=>l.length | _=>0,⟨n,i,[],rfl,.refl _⟩,?_⟩;rintro b ⟨n,left,found,rfl,c⟩;have a:=c.length_eq;rw[bI] at a;refine⟨rfl,by show 0<=1000;decide,?_⟩;cases left with
  | nil=>exact t _ ⟨found,_,rfl,by simpa using c⟩
  | cons x left =>
   rw[cP] at a;obtain⟨j,q,d⟩:=sC (z:=(n:Int)) (x::left).length (by simp);obtain⟨y,L⟩:∃ y,(x::left)[j]?=some y:=⟨_,aL d⟩;have W:=List.length_eraseIdx_of_lt d;have V:j<1001:=by simp only[cP] at d;omega
   refine⟨rfl,rfl,rfl,rfl,rfl,_,rfl,by show (0:Int)<((x::left).length:Nat);simp only[cP];omega,j,y,?_,?_,?_,L,by show found.length<100000;omega,rfl,⟨by show (0:Int)<5;decide,by show (5:Int)<2 ^ 64;decide⟩,⟨n/5,(x::left).eraseIdx j,found++[y],?_,?_⟩,?_⟩
   .show -(2 ^ 63)<=(n:Int)%_;rw[q];omega
   .show (n:Int)%_<2 ^ 63;rw[q];omega
   .show seqIndex? ((n:Int)%_) _=_;rw[q];exact W1 d
   .have:(n:Int)/5=((n/5:Nat):Int):=by norm_cast
    rw[<- this];rfl
   .rw[aX];exact ((Ha L).symm.append_left found).trans c
   .show ((x::left).eraseIdx j).length<(x::left).length;omega
 rintro _ ⟨m,M,rfl,c⟩;exact u m c
theorem Xd:FnScope ["number"] ["number"] (lQ vV):=nS
theorem Su (F:Fun K "_law_size" "_law_size" vV f fd):FnOk P w K mg base kQ 1 f fd ["number"] (kY K Lc):=by
 refine F.okD (k:=0) Xd (λB D x ⟨_,e,_⟩=>by rw[e];rfl) (by decide) λy A h s H E B D x u O=>?_
 have W:=nL u;obtain⟨n,rfl,d⟩:=O;have go:∀ (a b c:Int) (m:Nat),0<m->m<=8->x (.v (.t [.int (1+(n:Int)/a%(m:Int)),.int (1+(n:Int)/b%(m:Int))])):=λa b c m i V=>by
  obtain⟨p,G,R⟩:=sC (z:=(n:Int)/a) m i;obtain⟨q,L,S⟩:=sC (z:=(n:Int)/b) m i;have:=d (1+p) (1+q) (by omega) (by omega) (by omega) (by omega);rw[G,L]
  simpa using this
 refine⟨_,(hB (oH (uR (rD u.units) (qQ false) (kN lV lW 0 eH) eH) (kR (mG (lE (dK (kE lG lH eH (kE lV lW (kN mI mL 0 eH) eH)) (dK (kE lG lH eH (kE lV lW (kN mI mL 0 eH) eH)) eI))))) oR) (kR (mG (lE (dK (kE lG lH eH (kE lV lW (kN mI mL 0 eH) eH)) (dK (kE lG lH eH (kE lV lW (kN mI mL 0 eH) eH)) eI)))))),?_⟩;refine hI (λQ=>Q=[.v (.int n)]) (λN M=>⟨rfl,by show (0:Int)<8;decide,Ce (λ_=>?_) λ_=>M _ rfl⟩) ?_
 .exact⟨rfl,⟨by decide,by decide⟩,by show (0:Int)<8;decide,rfl,⟨by decide,by decide⟩,by show (0:Int)<8;decide,by show 2<=1000;decide,go 8 64 0 8 (by decide) (by decide)⟩
 rintro _ rfl;exact⟨rfl,⟨by decide,by decide⟩,by show (0:Int)<4;decide,rfl,⟨by decide,by decide⟩,by show (0:Int)<4;decide,by show 2<=1000;decide,go 8 32 0 4 (by decide) (by decide)⟩
end
end Lw
namespace L2
open PySem PySem.Spec PyProof.Rows Lw
def Jp:RM:=λx d H Q=>∃ (a b:Ad) (c more:Aa (gV×V)),x = .ref a/\d=[.ref b]/\a≠b/\H a=some (.k c)/\H b=some (.k more)/\c.length+more.length<=1000/\Q .e (upd H a (.k (nX c more)))
section
variable {X:Cx}{K:kC}
theorem Ky:zR X "dict.update" Jp:=by
 intro n s g H x W v V Q I G E h;obtain⟨a,b,c,more,rfl,rfl,ne,m,B,P,q⟩:=h;cases G;obtain⟨u,rfl,D⟩:=oV E;cases D;obtain⟨Y,L,i,t,k⟩:=zM I.hok m;obtain⟨Z,M,f,y,z⟩:=zM I.hok B;have R:c.length=i.length:=dQ t;have S:more.length=f.length:=dQ y;have d:i.length+f.length<=sizeLine:=bS (show _<=1000 by omega) (by decide);refine gX F.slot_dict_update k.typeIs F.entry_dict_update (F.args_dict_update_2 _ _) (meets_dict_update (kZ X.prog X.w) a b ne M) ⟨i,f,k,z,d,λA d1 _ N=>?_⟩;have O:(nX c more).length<=sizeLine:=by
  have:=zL more c;exact bS (show (nX c more).length<=1000 by omega) (by decide)
 have there:∃ o,A.get? a=some o:=let ⟨o,_,_,e,_⟩:=d1;⟨o,e⟩;exact⟨.e,_,xS I (by rw[m];exact True.intro) N there (xL O L (y.merge t) d1),rfl,q⟩
def Ze:OW:=λc d f=>match c,d with
 | .k a,[.k b]=>a.length+b.length<=1000/\f .e (.k (pL a b))
 | _,_=>False
theorem K5:yH K Jp Ze:=by
 intro A H a c G L M Q w E rd f k;cases c<;>first | exact False.elim f | skip
 cases rd with
 | nil=>exact False.elim f
 | cons B rd =>
 rename_i d _ _ _
 cases d<;>first | exact False.elim f | skip
 cases rd with
 | cons _ _=>exact False.elim f
 | nil =>
 .obtain⟨i,h,e,r⟩:=E
  .obtain⟨b,m,rfl,s,q,n,D⟩:=B.dK_inv;have u:=cO List.length e;have v:=cO List.length n;simp only[aD] at u v;refine⟨a,b,i,m,rfl,rfl,λz=>w (z▸s),h,q,by have:=f.1;omega,k _ _ _ _ f.2 .e λF t=>?_⟩;obtain⟨x,y⟩:=A3 n D e r;exact⟨_,mB,x,y.mono t⟩
def Nw (i:Nat) (ty:kX):kX:=λc b h=>(match at? b i with | some d=>Dv d=true | none=>False)/\ty c b λf a=>match at? a i,sd f with
 | some d,some k=>∃ o,tX d k=some o/\h (.v (o.getD .e)) a
 | _,_=>False
theorem Wq (j:Dv d=true) (g:lB K A H d x):∃ a,x = .ref a/\yI H a:=by
 cases d<;>first | (cases j;done) | skip
 .obtain⟨a,b,rfl,h,_⟩:=g.dK_inv;exact⟨a,rfl,.inl ⟨b,.inl h⟩⟩
 .obtain⟨a,b,rfl,h,_⟩:=g.dT_inv;exact⟨a,rfl,.inr (.inl ⟨b,h⟩)⟩
 .obtain⟨a,b,rfl,h,_⟩:=g.dM_inv;exact⟨a,rfl,.inr (.inr ⟨b,h⟩)⟩
theorem Ou (r:X.A.units+1<cLine) (l:PE X o (nZ i)) (p:PD X k ty) (m:M1 X o "get" apos k j:=by exact⟨rfl,rfl,rfl,rfl⟩):PD X (.Call (.Attribute o "get" apos) [k] [] j) (Nw i ty) :=
 (Qm r l p m).mono λU H Q u=>u.elim λB M Tm T E hd ⟨q,P⟩ k=>by
  cases s:at? M i with
  | none=>rw[s] at q;exact q.elim
  | some C =>
   rw[s] at q;obtain⟨x,F,S⟩:=hd.peek E s;obtain⟨a,rfl,z⟩:=Wq q S;refine⟨.ref a,F,a,rfl,z,B,M,Tm,_,E,hd,P,λW h y N G d1 b=>?_⟩;cases n:at? h i with
   | none=>rw[n] at b;exact b.elim
   | some d =>
    cases t:sd W with
    | none=>rw[n,t] at b;exact b.elim
    | some I =>
     rw[n,t] at b;obtain⟨R,l,b⟩:=b;obtain⟨L,V⟩:=d1.one t;obtain⟨J,f,D⟩:=L.peek G n;rw[F] at f;cases f;obtain⟨Z,w,O,g,g1,g2⟩:=A7 l D V.peek;cases O;refine⟨w,g,k _ h _ N G (L.push ?_) b⟩;cases R with
     | none=>rw[g2 rfl];exact .e
     | some c=>obtain⟨v,rfl,Y⟩:=g1 c rfl;exact Y
end
end L2
namespace PySem
open PyProof.Rows L2
section
variable {s:Ae}
theorem E4 (calm:A.handled=none) (l:∀ g e,(∀ b o,s.heap.get? b=some o->g.get? b=some o)->(∃ o,g.get? e=some o/\o.cls = .type "StopIteration")->E (.ref e) { s with heap:=g }) :
  wpAny (model j w) A (do raiseNew (<- newExc (.type "StopIteration") [])) Q E s:=by
 have mem:firstArgMember (.type "StopIteration") []=pure Value.none:=by first | rfl | (simp only[firstArgMember];rfl)
 have made:wpAny (model j w) A (newExc (.type "StopIteration") []) (λv c=>∃ e g,v = .ref e/\c={ s with heap:=g }/\(∀ b o,s.heap.get? b=some o->g.get? b=some o)/\∃ o,g.get? e=some o/\o.cls = .type "StopIteration") E s:=by
  unfold newExc newTuple;refine aA (dU ?_ (by size_fits));refine aA (jC mem ?_);exact dU ⟨_,_,rfl,rfl,λb o z=>aF _ (aF _ z),_,aU _ rfl,rfl⟩ (by size_fits)
 refine aA (cN made (λv c a=>?_) λ_ _ z=>z);obtain⟨e,g,f,d,k,t⟩:=a;subst f d;unfold raiseNew;refine aA (wpAny_handled ?_);rw[calm];exact aA (aB (wpAny_throw (l g e k t)))
theorem zQ (x:s.heap.IsTupleIter g t i):∃ o,s.heap.get? g=some o/\o.data = .fields #[.ref t,.int i 0]/\s.TypeIs (.ref g) "tuple_iterator" /\ o.cls = .type "tuple_iterator" := by
 obtain⟨o,a,b,c⟩:=x;exact⟨o,a,c,⟨o,a,b⟩,b⟩
theorem Kd {h:Ag}{g t:Ad}{i:Nat}{o:Obj}(a:h.get? g=some o) (b:o.cls = .type "tuple_iterator") (c:o.data = .fields #[.ref t,.int i 0]):(h.update g (Obj.mapFields (·.setIfInBounds 1 (rawInt ((i:Int)+1))))).IsTupleIter g t (i+1):=by
 refine⟨_,eW _ a (Obj.isFreed_of_fields (iC c _)),?_,?_⟩
 .rw[Obj.cls_mapFields];exact b
 .rw[iC c];simp[rawInt]
theorem Jk (calm:A.handled=none) (C:t≠j):Draws l w A j [j,t] g.size (λi x=>g[i]?=some x) (λi h=>h.IsTupleIter j t i/\h.IsTuple t g) where
 live:=λi h ⟨⟨o,a,_⟩,_⟩=>⟨o,a⟩
 frame:=λi h f ⟨⟨o,a,b⟩,⟨p,c,d⟩⟩ k=>⟨⟨o,k j (by simp) o a,b⟩,⟨p,k t (by simp) p c,d⟩⟩
 item:=λi s Q E M ⟨I,T⟩ q=>by
  obtain⟨o,a,c,ty,b⟩:=zQ I;obtain⟨p,y,L,n,B⟩:=id T;have m:g[i]?=some g[i]:=cH M;have body:wpAny (model l w) A.in1 (Builtin.«tuple_iterator.__next__» ⟨[.ref j],[]⟩) (λr u=>∃ x f,r = .done (.ret x)/\u={ s with heap:=f }/\g[i]?=some x/\f.IsTupleIter j t (i+1)/\Heap.SameBut j s.heap f) E s:=by
   show wpAny _ _ (field (.ref j) 0 >>= _) _ _ s;refine aA (cK a c (x:=.ref t) rfl ?_);refine (show wpAny _ _ (field (.ref j) 1 >>= _) _ _ s from aA (cK a c (x:=.int i 0) rfl (aA (dF y B ?_))));simp only[bQ,m];exact aA (gT a c (by simp) (aB ⟨_,_,rfl,rfl,rfl,Kd a b c,cG ..⟩))
  unfold Builtin.SmallTypes.nextOf;refine aA (bK (name:=Str.ofString "__next__") ty cE (bU cE ty eP (cN body (λr u ⟨x,f,D,F,G,H,K⟩=>?_) λ_ _ z=>z) (eL _)));subst D F;refine⟨x,rfl,aB (q x f s.toks G ⟨H,?_⟩ K)⟩;exact⟨p,(K.2 t C).trans y,L,n,B⟩
 done:=λs Q E ⟨I,T⟩ q=>by
  obtain⟨o,a,c,ty,b⟩:=zQ I;obtain⟨p,y,L,n,B⟩:=id T;have m:g[g.size]?=none:=dY (aP _);have body:wpAny (model l w) A.in1 (Builtin.«tuple_iterator.__next__» ⟨[.ref j],[]⟩) (λ_ _=>False) (λv u=>∃ e f,v = .ref e/\u={ s with heap:=f }/\Heap.ExtBut j s.heap f/\∃ o,f.get? e=some o/\o.cls = .type "StopIteration") s:=by
   show wpAny _ _ (field (.ref j) 0 >>= _) _ _ s;refine aA (cK a c (x:=.ref t) rfl ?_);refine (show wpAny _ _ (field (.ref j) 1 >>= _) _ _ s from aA (cK a c (x:=.int (g.size:Nat) 0) rfl (aA (dF y B ?_))));simp only[bQ,m];refine aA (eK (aA (gT a c (by simp) ?_)));refine E4 calm λf e k z=>⟨e,f,rfl,rfl,λx o N m=>k x o ((cG ..).extBut x o N m),z⟩
  unfold Builtin.SmallTypes.nextOf;refine aA (bK (name:=Str.ofString "__next__") ty cE (bU cE ty eP (cN body (λ_ _ z=>z.elim) λv u ⟨e,f,D,F,G,H⟩=>?_) (eL _)));subst D F;exact q f e G H
theorem Xt (t:Ad) (j:Array Ac) (n:Nat) (l:Ab Ad) (o:Array (Ab Ac)) :
  Meets (Builtin.«enumerate.__new__» ⟨[.type "enumerate",.ref t],[]⟩) (λ_ R s=>s.heap.get? t=some { cls:=.type "tuple",dict:=l,data:=.seq j n,slots:=o } /\
   ∀ I:Ag,I=s.heap.push { cls:=.type "tuple_iterator",data:=.fields #[.ref t,.int 0 0] }->R (.ok (.ret (.ref I.objs.size))) { s with heap:=I.push { cls:=.type "enumerate",data:=.fields #[.none,.bool false,.ref s.heap.objs.size,rawInt 0,.none,.none] } }) :=
 .of_wp λa w A R s h=>by
  obtain⟨b,g,d,e,os⟩:=s;obtain⟨lt,h⟩:=h;have under:=sub_enumerate;have T:Heap.IsTuple (Shared.heap ⟨b,g,d,e,os⟩) t j:=⟨_,lt,rfl,n,rfl⟩
  wp_walk using hV lt
  refine wpAny_stack_any λst=>aB ?_
  split
  .rename_i c _ _ _ _ _
   cases (c == Value.type "enumerate")<;>(wp_walk using hV lt,gG T;exact⟨_,rfl,h _ rfl⟩)
  .wp_walk using hV lt,gG T
   exact⟨_,rfl,h _ rfl⟩
theorem Tl (T:s.heap.IsTuple t j)
  (q:∀ g,IsEnum g (s.heap.objs.size+1) s.heap.objs.size 0 .none->g.IsTupleIter s.heap.objs.size t 0->(∀ b o,s.heap.get? b=some o->g.get? b=some o)->Q (.ref (s.heap.objs.size+1)) { s with heap:=g }) :
  wpAny (model l w) A (call (.type "enumerate") [.ref t]) Q E s:=by
 obtain⟨o,a,b,n,c⟩:=T;obtain⟨m,i,k,e⟩:=o;simp only at b c;subst b c;refine callType_new F.called_enumerate (by decide) (F.typeCall_enumerate_1 _) (F.newCall_enumerate_1 _) (λobj=>F.args_object_init_2 obj _) F.entry_enumerate_new (Xt t j n i e) ⟨a,λI d=>?_⟩;have z:I.objs.size=s.heap.objs.size+1:=by rw[d];exact cU ..
 have hit:I.get? s.heap.objs.size=some { cls:=.type "tuple_iterator",data:=.fields #[.ref t,.int 0 0] }:=by rw[d];exact aU _ rfl
 have h:∀ O:Obj,O.isFreed=false->(I.push O).get? (s.heap.objs.size+1)=some O:=λO f=>by rw[<- z];exact aU _ f
 have keep:∀ b o,s.heap.get? b=some o->I.get? b=some o:=λb o x=>by rw[d];exact aF _ x
 rw[z];exact⟨⟨_,h _ rfl,rfl⟩,q _ (h _ rfl) ⟨_,aF _ hit,rfl,rfl⟩ λb o x=>aF _ (keep b o x)⟩
end
end PySem
namespace L2
open PySem PySem.Spec PyProof.Rows Lw
def Bu (K:kC) (a:Ad):It :=
 ⟨λi H=>∃ b x,kO K H a b/\b[i]?=some x,λi H v c=>∃ p x,H p=none/\v = .ref p/\c=upd H p (.t [.int i,x])/\∀ b,kO K H a b->b[i]?=some x,λi H=>∃ b,kO K H a b/\b.length=i⟩
def No (a e g:Ad) (i:Nat) (h:Ag):Prop:=(∃ old,IsEnum h e g i old)/\h.IsTupleIter g a i
theorem Wi {P:Ah}{K:kC}(g:e≠it) :
  Turn P w K (.Tuple p x1 pos) (Bu K a) [e,it] e (No a e it) where
 mem:=by simp
 obj:=λi h st c u=>by
  obtain⟨⟨old,d⟩,⟨L,n,c4,d4⟩⟩:=st;simp only[aJ,bZ,iQ] at u;rcases u with q | q<;>subst q
  .exact⟨_,d,λv z=>nomatch z⟩
  .exact⟨_,n,λv z=>by rw[d4] at z;cases z⟩
 keep:=λi h C st k=>by
  obtain⟨⟨old,d⟩,⟨L,n,r⟩⟩:=st;exact⟨⟨old,k e (by simp) _ d⟩,⟨L,k it (by simp) _ n,r⟩⟩
 item:=by
  intro X R hw Q u i F s σ H E I G st S;subst R hw Q;obtain⟨⟨old,d⟩,n⟩:=st;obtain⟨xs,x,M,U⟩:=S;obtain⟨f,j,Y,_⟩:=I.tuple M;have m:s.heap.IsTuple a f.toArray:=Y;obtain⟨ux,D,Z⟩:=j.get U;have V:i<f.toArray.size:=by rw[aK];exact (aG.mp D).1
  obtain⟨p0,t,B,_⟩:=id m;obtain⟨L,O,l,_⟩:=id n;have ea:e≠a:=λz=>by rw[<- z,d] at t;cases t;injection B with y;exact absurd y (by decide)
  have W:a≠it:=λz=>by rw[z,O] at t;cases t;rw[l] at B;injection B with y;exact absurd y (by decide)
  refine wpAny_pyNext_enum_itemD (Jk (A:=X.A.in1) (I.ok.hd u) W) d ⟨n,m⟩ V g (by simp[g,ea]) λy C tk n0 n1 n2 n3 n4 n5=>?_
  have ey:y=ux:=by
   rw[List.getElem?_toArray,D] at n0;exact (bO n0).symm
  subst ey;refine⟨_,rfl,wpAny_letOwnedTupleGo_enum n1 λJ m1 N=>?_⟩;have kp:∀ c o,c∉[e,it]->s.heap.get? c=some o->J.get? c=some o:=λc o b q=>by
   simp only[aJ,bZ,iQ,not_or] at b;exact N.extBut c o b.1 (n5 c o b.1 b.2 q)
  have zs:s.heap.objs.size≠e:=λq=>eQ _ (by have:=aQ d;rw[<- q] at this;exact this)
  have nt:tM J s.heap.objs.size [.int i tk,y].toArray:=⟨⟨_,N.extBut _ _ zs n3,rfl,_,rfl⟩,_,N.extBut _ _ zs n3,rfl⟩;have I2:=I.movedT (t':=tk+1) (ys:=[.int i,x]) G kp nt (.cons ⟨_,rfl⟩ (.cons Z .nil)) (by show 2<=sizeLine;decide);refine⟨.ref s.heap.objs.size,_,I2,rfl,⟨_,x,I.fresh,rfl,rfl,λaa q'=>by rw[I.tuple_inj q' M];exact U⟩,⟨⟨y,?_⟩,?_⟩,λc b=>?_⟩
  .have:((i+1:Nat):Int)=(i:Int)+1:=by omega
   rw[this];exact m1
  .obtain⟨o5,r1,r2⟩:=n2.1;exact⟨o5,N.extBut _ o5 (dH g) r1,r2⟩
  .rw[lC]
   .exact (G c b).1
   .intro q;obtain⟨o,ho⟩:∃ o,s.heap.get? c=some o:=by
     simp only[aJ,bZ,iQ] at b;rcases b with q | q<;>rw[q]
     .exact⟨_,d⟩
     .exact⟨_,O⟩
    have:=aQ ho;rw[q] at this;exact eQ _ this
 done:=by
  intro X R hw Q u i F s σ H E I G st S;subst R hw Q;obtain⟨⟨old,d⟩,n⟩:=st;obtain⟨xs,M,T⟩:=S;obtain⟨f,j,Y,_⟩:=I.tuple M;have m:s.heap.IsTuple a f.toArray:=Y;have lx:=j.length;have hi:i=f.toArray.size:=by rw[aK];omega
  subst hi;obtain⟨p0,t,B,_⟩:=id m;obtain⟨L,O,l,_⟩:=id n;have W:a≠it:=λz=>by rw[z,O] at t;cases t;rw[l] at B;injection B with y;exact absurd y (by decide)
  refine wpAny_pyNext_enum_endD (Jk (A:=X.A.in1) (I.ok.hd u) W) d ⟨n,m⟩ λC k=>⟨rfl,I.moved (t':=s.toks) G λc o b q=>?_⟩
  simp only[aJ,bZ,iQ,not_or] at b;exact k c o b.2 q
 self:=λ_ _ _ _ _ st h=>by
  obtain⟨⟨old,d⟩,n⟩:=st;exact wpAny_pyIter_enum d h
section
variable {X:Cx}{K:kC}
def Ws (K:kC) (g:TA):TI:=λe H R=>g e H λc b=>∃ a,c=[.ref a]/\(∃ d,kO K b a d)/\R (Bu K a) b
theorem Wr (l:Gl X "enumerate") (o:X.mg "enumerate" = none) (j:PA X [e] C) (r:starEach [e] X.env=[(false,eval e X.env)]:=by rfl) :
  PI X (.Tuple g T J) (.Call (.Name "enumerate" p) [e] [] pos) (Ws X.K C):=by
 intro b s v H R I h;refine Call_ (uX I l o boot_enumerate (dP (hL (j pos b s v H _ I h) λL d i=>?_) r rfl));obtain⟨M,m,f,E,B⟩:=i;obtain⟨a,rfl,⟨N,D⟩,q⟩:=B;obtain⟨u,rfl,F⟩:=oV E;cases F;obtain⟨k,G,A,_⟩:=f.tuple D;refine Tl (show d.heap.IsTuple a k.toArray from A) λx t y z=>?_
 have w:Inv X b v m { d with heap:=x }:=f.kept (t':=d.toks) z;refine wpAny_pyIter_enum t ⟨_,[_,_],_,_,m,rfl,w,Wi (a:=a) (e:=d.heap.objs.size+1) (it:=d.heap.objs.size) (Nat.succ_ne_self _),⟨⟨_,t⟩,y⟩,λc n=>?_,q⟩;simp only[aJ,bZ,iQ] at n;rcases n with e | e<;>(subst e;exact f.fpOk (by omega) (f.hok.fresh (by omega)))
theorem S2:YD K (Bu K a) (uS g) [(.v (.t g),some (.ref a))]:=by
 have key:∀ A H,uC K A H [(.v (.t g),some (.ref a))]->∃ b,kO K H a b/\Reps K A H g b:=λA H ok=>by
  obtain⟨v,e,r⟩:=ok _ aM;cases e;obtain⟨q,b,e,c,f⟩:=r.tup_inv;cases e;exact⟨b,kO.of c,f⟩
 refine⟨rfl,λi H A h ok=>?_,λi H A x n h ok y=>?_,λi H A h ok=>?_⟩
 .obtain⟨b,c,f⟩:=key A H ok;rw[Bi] at h;exact⟨b,b[i]'(by rw[<- f.length];exact h),c,aL _⟩
 .obtain⟨b,c,f⟩:=key A H ok;obtain⟨p,z,k,rfl,rfl,m⟩:=y;obtain⟨d,hd,rd⟩:=f.getV (m b c);exact⟨_,Ih hd,.inr ⟨p,_,_,k,rfl,rfl,rfl,.cons (.int _) (.cons rd .nil)⟩⟩
 .obtain⟨b,c,f⟩:=key A H ok;rw[Bi] at h;exact⟨b,c,by rw[<- f.length];omega⟩
def Vz (g:kX):rZ:=λb e d=>g b e λr a=>match sd r with
 | some (.t c)=>d (uS c) a
 | _=>False
theorem Nm (l:Gl X "enumerate") (o:X.mg "enumerate" = none) (j:PD X e J) (I:starEach [e] X.env=[(false,eval e X.env)]:=by rfl) (C:wE e=true:=by rfl) :
  vY X (.Tuple g x1 U) (.Call (.Name "enumerate" p) [e] [] pos) (Vz J) :=
 (Wr l o (A6 j D5 C) I).mono λD H R f=>f.elim λB x T A n hd q k=>⟨B,x,T,_,n,hd,q,λr h v i s d1 b=>by
  cases c:sd r with
  | none=>rw[c] at b;exact b.elim
  | some d =>
   rw[c] at b;have d2:=d1.thaw c;have u:=d2.valAt;cases d with
   | t z=>obtain⟨a,w,rfl,m,y⟩:=u.tup_inv;exact⟨a,rfl,⟨w,kO.of m⟩,k _ _ h [_] i s d2 S2 b⟩
   | _=>exact b.elim⟩
end
end L2
namespace PySem
open PyProof.Rows L2
structure RawD (h:Heap) (d:Addr) (o:Obj) (es:Array DictEntry) (ep:Nat):Prop where
 low:(d == sysModules)=false
 get:h.get? d=some o
 ex:o.ExactDict
 dat:o.data = .dict es ep
section
variable {s:Ae}
theorem RawD.ty (r:RawD s.heap d o j g):s.TypeIs (.ref d) "dict" := ⟨o,r.get,r.ex.1⟩
theorem Rc (r:RawD s.heap d o l j) (q:Q (.ref s.heap.objs.size) { s with heap:=s.heap.push { cls:=.type "dict_keyiterator",data:=.fields #[.ref d,.int 0 0,.int l.size 0,.int j 0] } }) :
  wpAny (model g w) A (pyIter (.ref d)) Q E s:=by
 have fresh:∀ h:Ag,h=s.heap.push { cls:=.type "dict_keyiterator",data:=.fields #[.ref d,rawInt 0,rawInt l.size,rawInt j] }->Shared.TypeIs { s with heap:=h } (.ref s.heap.objs.size) "dict_keyiterator" := λh e=>by
  subst e;exact⟨_,aU _ rfl,rfl⟩
 have body:wpAny (model g w) A.in1 (Builtin.«dict.__iter__» ⟨[.ref d],[]⟩) (λr c=>r = .done (.ret (.ref s.heap.objs.size))/\c={ s with heap:=s.heap.push { cls:=.type "dict_keyiterator",data:=.fields #[.ref d,rawInt 0,rawInt l.size,rawInt j] } }) E s:=by
  have self:wpAny (model g w) A.in1 (Builtin.Dict.dictSlotNone "__iter__" ⟨[.ref d],[]⟩) (λv c=>v = .ref d/\c=s) E s:=aA (gM r.ty (aB ⟨rfl,rfl⟩));refine aA (cN self (λv c a=>?_) λ_ _ z=>z);obtain⟨f,i⟩:=a;subst f i;have b:Builtin.Dict.showsAll d=pure ():=by unfold Builtin.Dict.showsAll;simp[r.low]
  refine aA (jC (show Builtin.Dict.addrOf (.ref d)=pure d from rfl) (aA (jC b ?_)));exact aA (gO r.get r.dat (aA (eB r.get r.dat (aA (dU (aB ⟨rfl,rfl⟩))))))
 refine wpAny_pyIter_slot r.ty F.slot_dict_iter (bU F.slot_dict_iter r.ty F.entry_dict_iter (cN body (λv c a=>?_) λ_ _ z=>z) (F.args_dict_iter_1 _));obtain⟨f,i⟩:=a;subst f i;refine⟨_,rfl,"dict_keyiterator",_,fresh _ rfl,dJ.lookup,?_⟩;exact q
theorem Wn (r:RawD s.heap d o j p) (I:s.heap.IsKeyIter g d i j.size p) (J:i<j.size) (q:∀ C,C.IsKeyIter g d (i+1) j.size p->Heap.SameBut g s.heap C->Q (some j[i].key) { s with heap:=C }) :
  wpAny (model l w) A (pyNext (.ref g)) Q E s:=by
 obtain⟨u,f,n,h⟩:=id I;have ty:s.TypeIs (.ref g) "dict_keyiterator" := ⟨u,f,n⟩;have plain:Builtin.Dict_items.ownsTuple "dict_keyiterator" = false:=by decide
 have c:∀ {E:Ac->Ae->Prop} {b:Ae} {k:Nat->Ae->Prop},b.TypeIs (.ref g) "dict_keyiterator" -> k 0 b->wpAny (model l w) A.in1 (do return if Builtin.Dict_items.ownsTuple (<- typeNameOfWhole (.ref g)) then 2 else 0) k E b:=λt z =>
  aA (wpAny_typeNameOfWhole_keyiter t (by rw[plain];exact aB z))
 let e:=s.heap.update g (Obj.mapFields (·.setIfInBounds 1 (rawInt ((i:Int)+1))));have m:e.IsKeyIter g d (i+1) j.size p:=by
  refine⟨_,eW _ f (Obj.isFreed_of_fields (iC h _)),?_,?_⟩
  .rw[Obj.cls_mapFields];exact n
  .rw[iC h];simp[rawInt]
 have body:wpAny (model l w) A.in1 (Builtin.«dict_keyiterator.__next__» ⟨[.ref g],[]⟩) (λx b=>x = .done (.ret j[i].key)/\b={ s with heap:=e }) (λ_ _=>False) s:=by
  refine aA (aB ?_);refine aA (aA (c ty ?_));refine aA (wpAny_fieldsOf f h ?_);have a:¬ ((Value.ref d == Value.none)=true):=aR;show wpAny _ _ (if (Value.ref d == Value.none)=true then _ else _) _ _ s;rw[aE a];refine aA (aB (aA (gO r.get r.dat ?_)));rw[aE (by simp)];refine aA (aB (aA (eB r.get r.dat ?_)));rw[aE (by simp)];refine aB ?_;have row:(if (i:Int)<0 then none else j[(i:Int).toNat]?)=some j[i]:=by
   rw[aE (by omega),bQ,cH J]
  dsimp only;rw[row];refine aA (c ty ?_);refine aA (wpAny_isOneOf_keyiter ty ?_);change wpAny _ _ (setField (.ref g) 1 (rawInt ((i:Int)+1)) >>= _) _ _ s;refine aA (gT f h (by simp) ?_);refine aA (bF (aA (wpAny_isOneOf_keyiter (s:={ s with heap:=e }) m.typeIs ?_)));exact aB (aB ⟨rfl,rfl⟩)
 unfold pyNext;refine aA (eG (bK (name:=Str.ofString "__next__") ty dJ (bU dJ ty F.entry_dict_keyiterator_next (cN body (λx b ⟨v,y⟩=>?_) λ_ _ z=>z.elim) (F.args_dict_keyiterator_next_1 _))));subst v y;exact⟨_,rfl,aB (q e m (cG ..))⟩
theorem Md (calm:A.handled=none) (r:RawD s.heap d o p C) (I:s.heap.IsKeyIter l d p.size p.size C) (q:∀ g,Heap.ExtBut l s.heap g->Q none { s with heap:=g }) :
  wpAny (model j w) A (pyNext (.ref l)) Q E s:=by
 obtain⟨u,h,M,m⟩:=id I;have ty:s.TypeIs (.ref l) "dict_keyiterator" := ⟨u,h,M⟩;have plain:Builtin.Dict_items.ownsTuple "dict_keyiterator" = false:=by decide
 have f:∀ {n:Ac->Ae->Prop} {c:Ae} {i:Nat->Ae->Prop},c.TypeIs (.ref l) "dict_keyiterator" -> i 0 c->wpAny (model j w) A.in1 (do return if Builtin.Dict_items.ownsTuple (<- typeNameOfWhole (.ref l)) then 2 else 0) i n c:=λt z =>
  aA (wpAny_typeNameOfWhole_keyiter t (by rw[plain];exact aB z))
 have body:wpAny (model j w) A.in1 (Builtin.«dict_keyiterator.__next__» ⟨[.ref l],[]⟩) (λ_ _=>False) (λv c=>∃ e g,v = .ref e/\c={ s with heap:=g }/\Heap.ExtBut l s.heap g/\∃ o,g.get? e=some o/\o.cls = .type "StopIteration") s:=by
  refine aA (aB ?_);refine aA (aA (f ty ?_));refine aA (wpAny_fieldsOf h m ?_);have a:¬ ((Value.ref d == Value.none)=true):=aR;show wpAny _ _ (if (Value.ref d == Value.none)=true then _ else _) _ _ s;rw[aE a];refine aA (aB (aA (gO r.get r.dat ?_)));rw[aE (by simp)];refine aA (aB (aA (eB r.get r.dat ?_)));rw[aE (by simp)];refine aB ?_;have row:(if ((p.size:Nat):Int)<0 then none else p[((p.size:Nat):Int).toNat]?)=none:=by
   rw[aE (by omega),bQ,dY (aP _)]
  dsimp only;rw[row];refine aA (f ty (aA (gT h m (by simp) ?_)));exact E4 calm λg e k z=>⟨e,g,rfl,rfl,λx o L K=>k x o ((cG ..).extBut x o L K),z⟩
 unfold pyNext;refine aA (eG (bK (name:=Str.ofString "__next__") ty dJ (bU dJ ty F.entry_dict_keyiterator_next (cN body (λ_ _ z=>z.elim) λv c ⟨e,g,y,B,D,o,G,H⟩=>?_) (F.args_dict_keyiterator_next_1 _))));subst y B;exact aA (eU (T := "StopIteration") (b:=true) ⟨o,G,H⟩ isSubtype_stop (aB (q g D)))
end
end PySem
namespace L2
open PySem PySem.Spec PyProof.Rows Lw
def oO:HO->Ab (Aa MK)
 | .T a=>some (a.map λp=>Sum.inr p.1)
 | .dM a=>some (a.map (·.1))
 | _=>none
def N5:HO->Bool
 | .T _=>true
 | .dM _=>true
 | .frz _ (.T _)=>true
 | .frz _ (.dM _)=>true
 | _=>false
structure Sw (H H':Hp) (a:Addr) (u:HO):Prop where
 out:∀ b,b≠a->H' b=H b
 k:(oO u).isSome=true
 l:Rd H a u
 r:Rd H' a u
section
theorem Sw.get (s:Sw H j a u) (h:H b=some g) (n:N5 g=false:=by rfl):j b=some g:=by
 have ne:b≠a:=λz=>by
  subst z;have k:=s.k;rcases s.l with q | ⟨o,q⟩<;>rw[q] at h<;>cases h<;>cases u<;>first | (cases n;done) | (cases k;done)
 rw[s.out b ne];exact h
theorem Sw.rd (s:Sw H g a u) (j:(oO x).isSome=true) (h:Rd H b x):Rd g b x:=by
 by_cases e:b=a
 .subst e;have:x=u:=by
   have k:=s.k;rcases h with h | ⟨o,h⟩<;>rcases s.l with q | ⟨c,q⟩<;>rw[q] at h<;>cases h<;>first | rfl | (cases j;done) | (cases k;done)
  rw[this];exact s.r
 .rcases h with h | ⟨o,h⟩
  .exact .inl (by rw[s.out b e];exact h)
  .exact .inr ⟨o,by rw[s.out b e];exact h⟩
theorem Sw.sqF {K:kC}(s:Sw H g a u) (h:rK K H b j):rK K g b j:=by
 rcases h with⟨o,h⟩ | h
 .exact .inl ⟨o,s.get h⟩
 .exact .inr h
variable {K:kC}
theorem Rep.sw (s:Sw H o a u) (g:∀ b,A b->j b) (h:Rep K A H d v):Rep K j o d v :=
 Rep.rec (motive_1:=λd v _=>Rep K j o d v) (motive_2:=λi m _=>Reps K j o i m) .e .b .int .str .r (λh _ r=>.t (s.get h) r) (λh _ r=>.con h r)
  (λf h _ r=>.l (g _ f) (s.get h) r) (λh _ r=>.c (s.sqF h) r) (λf h e _ r=>.k (g _ f) (s.get h) e r) (λf h e _ r=>.T (g _ f) (s.rd rfl h) e r) (λf h e _ r=>.dM (g _ f) (s.rd rfl h) e r) .nil (λ_ _ h r=>.cons h r) h
theorem Reps.sw (s:Sw H p a u) (C:∀ b,A b->o b) (h:Reps K A H j l):Reps K o p j l:=by
 induction j generalizing l with
 | nil=>cases h;exact .nil
 | cons d j c=>cases h with | cons g r=>exact .cons (g.sw s C) (c r)
theorem mF.sw (s:Sw H o a u) (g:∀ b,A b->j b) (ne:b≠a) (h:mF K A H b d):mF K j o b d:=by
 cases d with
 | l _=>obtain⟨c,h,r⟩:=h;exact⟨c,by rw[s.out b ne];exact h,r.sw s g⟩
 | k _=>obtain⟨c,h,e,r⟩:=h;exact⟨c,by rw[s.out b ne];exact h,e,r.sw s g⟩
 | T _=>obtain⟨c,h,e,r⟩:=h;exact⟨c,by rw[s.out b ne];exact h,e,r.sw s g⟩
 | dM _=>obtain⟨c,h,e,r⟩:=h;exact⟨c,by rw[s.out b ne];exact h,e,r.sw s g⟩
 | _=>exact False.elim h
theorem oY.sw (s:Sw H l a u) (g:∀ b,A b->j b) (ne:∀ b,uO (x,y)=some b->b≠a) (h:oY K A H x y):oY K j l x y:=by
 cases x with
 | n=>trivial
 | v d=>obtain⟨v,e,r⟩:=h;exact⟨v,e,r.sw s g⟩
 | o d=>obtain⟨b,e,r⟩:=h;subst e;exact⟨b,rfl,r.sw s g (ne b rfl)⟩
noncomputable def mS (B:Bs) (a:Ad) (o:Obj) (u:HO):Bs:=⟨B.dk,λb=>B.A0 b\/b=a,λb=>if b=a then some (.frz o u) else B.H0 b⟩
theorem DS.fz (h:DS K B L H) (s:Sw H g a u) (j:g a=some (.frz o u)) (al:Al B (gD L) a):DS K (mS B a o u) L g:=by
 refine⟨λb m e n=>?_,h.dk.keep λb c=>s.out b λz=>al.1 (z▸c),h.nd,λb c=>?_,λp d=>?_⟩
 .by_cases z:b=a
  .subst z;rw[show (mS B b o u).H0 b=some (.frz o u) from aH rfl] at e;rw[j];exact e
  .rw[show (mS B a o u).H0 b=B.H0 b from aE z] at e;rw[s.out b z];exact h.fr b m e n
 .have z:b≠a:=λz=>al.2.1 (z▸c)
  rw[show (mS B a o u).H0 b=B.H0 b from aE z];exact h.new b c
 .refine (h.ok p d).sw s (λb ⟨f,i,k⟩=>⟨f,i,?_⟩) λb c z=>al.2.1 (qL.mpr ⟨p,d,z▸c⟩)
  by_cases z:b=a
  .exact .inl (.inr z)
  .refine k.elim (λq=>.inl (.inl q)) λq=>.inr ?_
   rw[show (mS B a o u).H0 b=B.H0 b from aE z];exact q
theorem DS.known (h:DS K (mS B a o u) L H) (g:a∉B.dk):H a=some (.frz o u):=h.fr a _ (aH rfl) g
theorem DS.th (h:DS K (mS B a o u) L H) (s:Sw H j a u) (C:a∉B.dk) (l:∀ g,B.H0 a=some g->j a=some g) (r:B.A0 a\/B.H0 a=none):DS K B L j:=by
 have f:∀ b∈gD L,b≠a:=λb c z=>by
  have:=(h.new b c).1;rw[z,show (mS B a o u).H0 a=some (.frz o u) from aH rfl] at this;cases this
 refine⟨λb g e n=>?_,h.dk.keep λb c=>s.out b λz=>C (z▸c),h.nd,λb c=>?_,λp d=>?_⟩
 .by_cases z:b=a
  .subst z;exact l g e
  .rw[s.out b z];exact h.fr b g (by rw[show (mS B a o u).H0 b=B.H0 b from aE z];exact e) n
 .have:=h.new b c;rw[show (mS B a o u).H0 b=B.H0 b from aE (f b c)] at this;exact this
 .refine (h.ok p d).sw s (λb ⟨i,k,m⟩=>⟨i,k,?_⟩) λb c z=>f b (qL.mpr ⟨p,d,c⟩) z
  by_cases z:b=a
  .rw[z];exact r
  .refine m.elim (λq=>.inl (q.resolve_right z)) λq=>.inr ?_
   rw[show (mS B a o u).H0 b=B.H0 b from aE z] at q;exact q
end
section
variable {X:Cx}
theorem Inv.swapped (I:Inv X j C H s) (sw:Sw H g a u) (r:∀ o u,X.H₀ a≠some (.frz o u)) (ok:lM X.prog X.w g s.heap a u->∀ v,g a=some v->lM X.prog X.w g s.heap a v):Inv X j C g s:=by
 have d:∀ b,H b=none->g b=none:=λb e=>by
  rw[sw.out b λz=>by subst z;rcases sw.l with q | ⟨o,q⟩<;>rw[q] at e<;>cases e];exact e
 have nC:∀ b h,H b=some (.t h)->g b=some (.t h):=λb h e=>sw.get e
 have f:∀ b y,H b=some (.o y)->g b=some (.o y):=λb h e=>sw.get e
 refine⟨I.ok,I.os,I.bare,⟨I.base.keep,I.base.slot,λb u e n x=>d b (I.base.free b u e n x),I.base.there,λb h e=>nC b h (I.base.tups b h e),λb i u e=>?_,λb m e=>?_⟩,I.loc,I.cell,d _ I.free,λx c e=>d c (I.freeC x c e),λp k=>?_,λb v e=>?_,I.len⟩
 .have ne:b≠a:=λz=>r i u (z▸e)
  rw[sw.out b ne];exact I.base.frzs b i u e
 .obtain⟨more,q⟩:=I.base.tbls b m e;exact⟨more,sw.get q⟩
 .obtain⟨A,B,D⟩:=I.pin p k;exact⟨A,d _ B,D⟩
 .by_cases z:b=a
  .subst z;have base:lM X.prog X.w H s.heap b u:=sw.l.ok I.hok;exact ok (base.stay (λ_ _ _ q=>q) (λc q=>f c _ q) nC) v e
  .rw[sw.out b z] at e;exact (I.hok b v e).stay (λ_ _ _ q=>q) (λc q=>f c _ q) nC
theorem Inv.no_frz (I:Inv X j p H s) (o:(oO u).isSome=true) (l:H a=some u):∀ g v,X.H₀ a≠some (.frz g v):=λg v e=>by
 have:=I.base.frzs a g v e;rw[l] at this;cases this;cases o
theorem Inv.frozen (I:Inv X g r H s) (l:(oO u).isSome=true) (j:H a=some u) (p:s.heap.get? a=some o):Inv X g r (upd H a (.frz o u)) s:=by
 refine I.swapped ⟨λb n=>lC n,l,.inl j,.inr ⟨o,mB⟩⟩ (I.no_frz l j) λq v e=>?_
 rw[mB] at e;cases e;exact⟨p,q⟩
theorem Inv.thawed (I:Inv X g r H s) (p:(oO u).isSome=true) (l:H a=some (.frz o u)) (j:∀ o u,X.H₀ a≠some (.frz o u)):Inv X g r (upd H a u) s:=by
 refine I.swapped ⟨λb n=>lC n,p,.inr ⟨o,l⟩,.inl mB⟩ j λq v e=>?_
 rw[mB] at e;cases e;exact q
end
theorem Mu {P:Ah}(g:(oO u).isSome=true) (ok:lM P w H h a u):∃ o,h.get? a=some o:=by
 cases u<;>first | (cases g;done) | (obtain⟨_,_,_,_,o,_,_,e,_⟩:=ok;exact⟨o,e⟩)
def sU (a:Ad) (o:Obj) (u:HO) (g:Aa MK):It :=
 ⟨λi H=>H a=some (.frz o u)/\i<g.length,λi H x b=>b=H/\∃ k,g[i]?=some k/\qN H k x,λi H=>H a=some (.frz o u)/\i=g.length⟩
theorem C6 {F:l->o->Prop}:∀ {g:Aa l}{j:Aa o}{i:Nat}{a:l},Paired F g j->g[i]?=some a->∃ b,j[i]?=some b/\F a b
 | _,_,_,_,.nil,h=>by simp at h
 | _,_,0,_,.cons x r,h=>by simp at h;subst h;exact⟨_,by simp,x⟩
 | _,_,i+1,a,.cons x r,h=>by
  obtain⟨b,c,d⟩:=C6 (i:=i) r (by simpa using h);exact⟨b,by simpa using c,d⟩
theorem Qr (h:rA H k u):∃ y,qN H k y/\kD y u:=by
 rcases k with k | c
 .exact⟨kV k,rfl,h⟩
 .obtain⟨b,rfl,a⟩:=h;exact⟨.ref b,⟨b,rfl,a⟩,rfl⟩
theorem Ee {P:Ah}(ok:lP P w H h) (p:oO u=some I) (C:H a=some (.frz o u)) :
  ∃ g l,RawD h a o g l/\g.size=I.length/\∀ (i:Nat) (j:i<g.size),∃ k,I[i]?=some k/\rA H k g[i].key:=by
 have b:∀ {g:Array DictEntry} {i:Nat} {e:DictEntry} (j:i<g.size),g.toList[i]?=some e->g[i]=e:=λ{g i e} j h=>by
  rw[gL,cH j] at h;exact bO h
 cases u<;>first | (cases p;done) | skip
 .cases p;obtain⟨c,z,lo,v,r,A,g,l,d,m,n,f,_⟩:=(show lM P w H h a (.frz o (.T _)) from ok a _ C);rw[c] at d;cases d;have x:=dQ r;have y:g.size=v.length:=by simpa using cO List.length f
  refine⟨g,l,⟨lo,c,m,n⟩,by rw[aD];omega,λi j=>?_⟩;obtain⟨q,s,B,t,D⟩:=C6 r (aL (show i<_ by omega));refine⟨_,by rw[bB,aL (show i<_ by omega)];rfl,?_⟩;rw[b j (by rw[f,bB,s];rfl)];exact⟨_,rfl,t⟩
 .cases p;obtain⟨c,z,lo,v,r,A,g,l,d,m,n,f,_⟩:=(show lM P w H h a (.frz o (.dM _)) from ok a _ C);rw[c] at d;cases d;have x:=dQ r;have y:g.size=v.length:=by simpa using cO List.length f
  refine⟨g,l,⟨lo,c,m,n⟩,by rw[aD];omega,λi j=>?_⟩;obtain⟨q,s,B,t,D⟩:=C6 r (aL (show i<_ by omega));refine⟨_,by rw[bB,aL (show i<_ by omega)];rfl,?_⟩;rw[b j (by rw[f,bB,s];rfl)];exact t
theorem Xf {P:Ah}{K:kC}(a j:Ad) (o:Obj) (p:oO u=some C):Turn P w K tg (sU a o u C) [j] j (λi h=>∃ g,(∃ l,o.data = .dict l g)/\h.IsKeyIter j a i C.length g) where
 mem:=by simp
 obj:=λi h st b n=>by
  have e:b=j:=by simpa using n
  subst e;obtain⟨_,_,o,e,c,d⟩:=st;exact⟨o,e,λv z=>by rw[d] at z;cases z⟩
 keep:=λi h A ⟨g,q,o,e,r⟩ k=>⟨g,q,o,k j (by simp) o e,r⟩
 item:=by
  intro X O hw N V i m s W H E I B st R;subst O hw N;obtain⟨g,⟨D,t⟩,st⟩:=st;obtain⟨Q,S⟩:=R;obtain⟨l,f,raw,sz,rows⟩:=Ee I.hok p Q;have:f=g:=by have:=raw.dat;rw[t] at this;cases this;rfl
  subst this;rw[<- sz] at st S;obtain⟨k,J,T⟩:=rows i S;obtain⟨y,U,k4⟩:=Qr T;obtain⟨F,f1,f2,G,L,M⟩:=B j (by simp);refine Wn raw st S λA x sb=>?_
  have Y:Inv X m W H { s with heap:=A }:=I.turned (t':=s.toks) (λb o n e=>(sb.2 b n).trans e) F f1 G L M;rw[sz] at x;obtain⟨oi,e,c,d⟩:=id x;exact⟨_,rfl,xI (s:={ s with heap:=A }) e c d (by decide) ⟨y,H,Y,k4,⟨rfl,k,J,U⟩,⟨f,⟨l,raw.dat⟩,x⟩,λb n=>(B b n).1⟩⟩
 done:=by
  intro X O hw N V i m s W H E I B st R;subst O hw N;obtain⟨g,⟨D,t⟩,st⟩:=st;obtain⟨Q,rfl⟩:=R;obtain⟨l,f,raw,sz,rows⟩:=Ee I.hok p Q;have:f=g:=by have:=raw.dat;rw[t] at this;cases this;rfl
  subst this;rw[<- sz] at st;obtain⟨F,f1,f2,G,L,M⟩:=B j (by simp);exact Md (I.ok.hd V) raw st λA Z=>⟨rfl,I.turned (t':=s.toks) (λb o n e=>Z b o n e) F f1 G L M⟩
 self:=λ_ _ _ _ _ ⟨_,_,st⟩ h=>wpAny_pyIter_keyiter st h
noncomputable def vQ:gV->D
 | .inl i=>.int i
 | .inr x=>.str x
theorem Eb {K:kC}:∀ k:Aa gV,Reps K A H (k.map vQ) (k.map kV)
 | []=>.nil
 | .inl i::k=>.cons (.int i) (Eb k)
 | .inr x::k=>.cons (.str x) (Eb k)
def yS (g:Aa (Aa gV×D)):Aa D:=g.map λp=>.t (p.1.map vQ)
def nB:MK->D
 | .inl k=>vQ k
 | .inr a=>.t (a.map vQ)
theorem Q5 {K:kC}:∀ {k:MK}{y:V},qN H k y->Rep K A H (nB k) y
 | .inl (.inl i),_,rfl=>.int i
 | .inl (.inr x),_,rfl=>.str x
 | .inr c,_,⟨b,rfl,a⟩=>.t a (Eb c)
def xC (g:Aa (MK×D)):Aa D:=g.map λp=>nB p.1
def A2:D->Ab (Aa D)
 | .T a=>some (yS a)
 | .dM a=>some (xC a)
 | _=>none
structure YS (K:kC) (J:It) (ds:List D) (S:Hp->Prop):Prop where
 go:∀ i H,i<ds.length->S H->J.go i H
 yld:∀ i H x H',i<ds.length->S H->J.yld i H x H'->∃ d,ds[i]?=some d/\H'=H/\∀ A,Rep K A H d x
 stop:∀ i H,i=ds.length->S H->J.stop i H
def Bn (g:kX):rZ:=λb f e=>g b f λr a=>match r with
 | .v d=>match A2 d with
  | some c=>e c a
  | none=>False
 | _=>False
def Gu (X:Cx) (g:TE):TI:=λe H R=>g e H λx b=>∃ a u c,oO u=some c/\x = .ref a/\((b a=some u/\∀ o,(∀ d u,X.H₀ a≠some (.frz d u))->R (sU a o u c) (upd b a (.frz o u)))\/∃ o,b a=some (.frz o u)/\R (sU a o u c) b)
section
variable {X:Cx}
theorem Le (g:PE X l j):PI X p l (Gu X j):=by
 intro c s z H R I h;refine hL (g c s z H _ I h) λv i w=>?_
 obtain⟨x,K,k,G,a,u,y,n,e,alt⟩:=w;subst e;cases G;have t:(oO u).isSome=true:=by rw[n];rfl
 obtain⟨o,f,m,d,q⟩:∃ o f,Inv X c z f i/\f a=some (.frz o u)/\R (sU a o u y) f:=by
  rcases alt with⟨d,q⟩ | ⟨o,d,q⟩
  .obtain⟨o,F⟩:=Mu t (k.hok a _ d);exact⟨o,_,k.frozen t d F,mB,q o (k.no_frz t d)⟩
  .exact⟨o,_,k,d,q⟩
 obtain⟨B,A,raw,sz,_⟩:=Ee m.hok n d;have D:∀ b∈[i.heap.objs.size],pG X c f b:=λb E=>by
  have e:b=i.heap.objs.size:=by simpa using E
  subst e;exact m.fpOk (aP _) (m.hok.fresh (aP _))
 refine Rc raw ⟨i.heap.objs.size,[i.heap.objs.size],_,sU a o u y,f,rfl,m.kept (t':=i.toks) λb L q=>aF _ q,Xf a _ o n,⟨A,⟨B,raw.dat⟩,?_⟩,D,q⟩;exact⟨_,aU _ rfl,rfl,by rw[sz];rfl⟩
def thawQ (X:Cx) (Q:Hp->Prop) (H:Hp):Prop:=Q H\/∃ a o u,(oO u).isSome=true/\H a=some (.frz o u)/\(∀ b u,X.H₀ a≠some (.frz b u))/\Q (upd H a u)
theorem Inv.thawQ (I:Inv X g l H s) (h:L2.thawQ X Q H):∃ j,Inv X g l j s/\Q j:=by
 rcases h with h | ⟨a,o,u,d,c,b,h⟩
 .exact⟨H,I,h⟩
 .exact⟨_,I.thawed d c b,h⟩
theorem Vk (h:PE X e t):PE X e (λg H Q=>t g H λv=>thawQ X (Q v)):=λa s g H Q I q=>by
 refine hL (h a s g H _ I q) λv u b=>?_
 obtain⟨x,n,d,m,i⟩:=b;obtain⟨c,f,k⟩:=d.thawQ i;exact⟨x,c,f,m,k⟩
def Ends.thawQ (X:Cx) (D:Ends):Ends where
 nx:=λa=>L2.thawQ X (D.nx a)
 rt:=λv=>L2.thawQ X (D.rt v)
 bk:=λa=>L2.thawQ X (D.bk a)
 ct:=λa=>L2.thawQ X (D.ct a)
theorem W6 {st:Stmt}(h:PS X st t):PS X st (λD g H=>t (D.thawQ X) g H):=λi s g H D I q=>by
 refine hL (h i s g H _ I q) λf n q=>?_
 cases f with
 | next=>obtain⟨a,k,b,d⟩:=q;obtain⟨m,c,e⟩:=b.thawQ d;exact⟨a,_,c,e⟩
 | brk=>obtain⟨a,k,b,d⟩:=q;obtain⟨m,c,e⟩:=b.thawQ d;exact⟨a,_,c,e⟩
 | cont=>obtain⟨a,k,b,d⟩:=q;obtain⟨m,c,e⟩:=b.thawQ d;exact⟨a,_,c,e⟩
 | ret u=>obtain⟨v,a,k,b,r,d⟩:=q;obtain⟨m,c,e⟩:=b.thawQ d;exact⟨v,a,_,c,r,e⟩
theorem Ex {K:kC}:YS K (sU a o u ks) (ks.map nB) λH=>H a=some (.frz o u):=by
 refine⟨λi H b c=>⟨c,by rw[aD] at b;exact b⟩,?_,λi H b c=>⟨c,by rw[b,aD]⟩⟩;rintro i H x f b c ⟨rfl,k,d,e⟩;exact⟨nB k,by rw[bB,d];rfl,rfl,λA=>Q5 e⟩
theorem Fc {T:Aa Af}{j:Aa Nat}{g:qM}{tt:mY}{te:kX}{K:kC}(aa:j.Nodup){σ:St}{H1:Hp}{Q:VK}{B:Bs}{C:Aa Sl}{Tm:lN}{Φ:Sl->Aa Sl->Prop}{J:It}{ds:Aa L2.D}{S:Hp->Prop}{D:Ad}(l1:C.length=σ.length) (d1:DS K B (C.zip σ++Tm) H1) (Y:YS K J ds S)
  (hS:∀ D,H1 D=none->∀ p L H,DS K (lD B D p) L H->S H)
  (ac:∃ Pv:Nat->Aa L2.D->Aa Sl->Prop,Pv 0 [] (mR j C) /\ (∀ i d p I,ds[i]?=some d->I.length=j.length->Pv i p I->g d (List.replicate T.length Sl.n++I) λae=>tt B.dk ae λb ab=>if b=true then te B.dk ab λr af=>match sd r with
    | some c=>p.length<100000/\Pv (i+1) (p++[c]) (af.drop T.length)
    | none=>False
    else Pv (i+1) p (ab.drop T.length)) /\
   ∀ p I,I.length=j.length->Pv ds.length p I->Φ (.o (.l p)) (nG j I C))
  (k:∀ r U v H',U.length=σ.length->DS K B (U.zip σ++(r,some v)::Tm) H'->Φ r U->Q v H') (hD:H1 D=none):Ct T j J (dG K T.length g) (pP K tt) (dE K te) σ H1 Q D :=
 Fj aa l1 d1 (λi p q M H _ d=>⟨λa=>Y.go i H a (hS D hD _ _ _ d),λa=>Y.stop i H a (hS D hD _ _ _ d),λx f a y=>by obtain⟨h,e,rfl,m⟩:=Y.yld i H x f a (hS D hD _ _ _ d) y;exact⟨h,e,d.push (m _)⟩⟩) ac k hD
theorem DS.known2 {K:kC}(d:DS K B (L++(.v c,some v)::T) H) (p:A2 c=some r) :
  ∃ a u l,v = .ref a/\oO u=some l/\r=l.map nB/\a∉B.dk /\
   ((H a=some u/\∀ o,DS K (mS B a o u) (L++T) (upd H a (.frz o u))/\∀ j g,DS K (mS B a o u) j g->DS K B j (upd g a u)) \/ ∃ o,H a=some (.frz o u)/\DS K (mS B a o u) (L++T) H/\∀ j g,DS K (mS B a o u) j g->DS K B j g):=by
 have hd:=d.drop;have rep:=d.valAt;obtain⟨a,u,l,rfl,al,rd,y,q⟩:∃ a u l,v = .ref a/\Al B (gD (L++T)) a/\Rd H a u/\oO u=some l/\r=l.map nB:=by
  cases c<;>first | (cases p;done) | skip
  .cases p
   rename_i f
   obtain⟨a,x,rfl,al,rd,q,_⟩:=rep.dT_inv;refine⟨a,_,_,rfl,al,rd,rfl,?_⟩;have e:yS f=(f.map (·.1)).map λk=>D.t (k.map vQ):=by unfold yS;rw[List.map_map];rfl
   rw[e,q,bG,bG];rfl
  .cases p
   rename_i f
   obtain⟨a,x,rfl,al,rd,q,_⟩:=rep.dM_inv;refine⟨a,_,_,rfl,al,rd,rfl,?_⟩;have e:xC f=(f.map (·.1)).map nB:=by unfold xC;rw[List.map_map];rfl
   rw[e,q]
 have h:=al.1;have w:(oO u).isSome=true:=by rw[y];rfl
 refine⟨a,u,l,rfl,y,q,h,?_⟩;rcases rd with i | ⟨s,i⟩
 .refine .inl ⟨i,λo=>⟨hd.fz (o:=o) ⟨λb n=>lC n,w,.inl i,.inr ⟨o,mB⟩⟩ mB al,λj g m=>m.th ⟨λb n=>lC n,w,.inr ⟨o,m.known h⟩,.inl mB⟩ h (λu e=>?_) al.2.2⟩⟩;have:=hd.fr a u e h;rw[i] at this;rw[mB];exact this
 .refine .inr ⟨s,i,hd.fz ⟨λ_ _=>rfl,w,.inr ⟨s,i⟩,.inr ⟨s,i⟩⟩ i al,λj g m=>m.th ⟨λ_ _=>rfl,w,.inr ⟨s,m.known h⟩,.inr ⟨s,m.known h⟩⟩ h (λu e=>?_) al.2.2⟩;have:=hd.fr a u e h;rw[i] at this;rw[m.known h];exact this
theorem J8 {K:kC}{B:Bs}{a D:Ad}{o:Obj}{u:HO}{p:Aa V}{L:lN}{H g:Hp}(r:a∉B.dk) (j:g a=some (.frz o u)) (C:g D=none) (d:DS K (lD (mS B a o u) D p) L H):H a=some (.frz o u):=by
 have ne:a≠D:=λz=>by rw[z,C] at j;cases j
 refine d.fr a _ ?_ r;show (if a=D then some (.l p) else if a=a then some (HO.frz o u) else B.H0 a)=_;rw[aE ne,aH rfl]
theorem Me {tt:mY}(l:j.Nodup) (h:dE X.K (tU T.length j (Bn C) g tt p) I H Q) :
  xX T j (Gu X (dE X.K C)) (dG X.K T.length g) (pP X.K tt) (dE X.K p) I H λv=>thawQ X (Q v):=by
 obtain⟨B,N,Tm,S,A,hd,F,k⟩:=h;refine⟨B,N,Tm,_,A,hd,F,λr O v P t d1 b=>?_⟩;cases r<;>first | exact False.elim b | skip
 rename_i d
 dsimp only at b;cases n:A2 d with
 | none=>rw[n] at b;exact False.elim b
 | some R =>
  rw[n] at b;obtain⟨a,u,G,rfl,s,rfl,m,alt⟩:=d1.known2 n;have E:(oO u).isSome=true:=by rw[s];rfl
  refine⟨a,u,G,s,rfl,?_⟩;rcases alt with⟨f,y⟩ | ⟨o,f,d2,back⟩
  .refine .inl ⟨f,λo x D c=>?_⟩;obtain⟨d2,back⟩:=y o;exact Fc (B:=mS B a o u) l t d2 Ex (λD c M L H d=>J8 m mB c d) b (λr e v w q i z=>.inr ⟨a,o,u,E,i.known m,x,k r e v _ q (back _ _ i) z⟩) c
  .refine .inr ⟨o,f,λD c=>?_⟩;exact Fc (B:=mS B a o u) l t d2 Ex (λD c M L H d=>J8 m f c d) b (λr e v w q i z=>.inl (k r e v _ q (back _ _ i) z)) c
theorem Uh {iter:Expr}{tt:mY}(T o:Aa Af) (r:Aa Nat) (hc:X.calm=true) (hi:PD X iter ti)
  (hk:j.kind = .function) (ho:yF X.N X.env.kindOf j T o r=true)
  (hg:∀ p l C I J,rY (pC X (T++o) j I C p l J) T.length tg g)
  (ht:∀ p l C I J,rW (pC X (T++o) j I C p l J) ab (pP X.K tt))
  (he:∀ p l C I J,PD (pC X (T++o) j I C p l J) aa te)
  (U:r.Nodup:=by decide) (hs:∀ x,foldedSetIterable iter X.env x=pure x:=by intro _;rfl):PD X (.ListComp aa [⟨tg,iter,ab,0⟩] j pos) (tU T.length r (Bn ti) g tt te) :=
 (Vk (Go T o r hc (Le hi) hk ho hg ht he hs)).mono λ_ _ _ h=>Me U h
theorem Q8 {iter:Expr}(hp:PassesOwn (model X.prog X.w) X.A X.env X.xe) (j:X.calm=true) (hi:PD X iter ti) (hg:rY X m tg g) (hb:qT X body tb)
  (C:∀ x,foldedSetIterable iter X.env x=pure x:=by intro _;rfl):pZ X (.For tg iter body [] pos) (Ez (Bn ti) g tb) :=
 (W6 (D8 hp j (Le hi) hg hb C)).mono λDn l H ab=>ab.elim λB ρ T De hl hd ht lk=>by
  refine⟨B,ρ,T,_,hl,hd,ht,λr Z v H1 l1 d1 P=>?_⟩;cases r<;>first | exact False.elim P | skip
  rename_i c
  dsimp only at P;cases j:A2 c with
  | none=>rw[j] at P;exact False.elim P
  | some kd =>
   rw[j] at P;obtain⟨Pv,p0,step,fin⟩:=P;obtain⟨a,u,E,rfl,Q,rfl,U,alt⟩:=d1.known2 j;have C:(oO u).isSome=true:=by rw[Q];rfl
   have Y:∀ o,_:=λo=>Ex (K:=X.K) (a:=a) (o:=o) (u:=u) (ks:=E)
   have G:∀ (o:Obj) (q:Ends) (F:Hp),DS X.K (mS B a o u) (Z.zip l++T) F->(∀ (e:Aa Sl) (b:St) (f:Hp),e.length=b.length->b.length=l.length->DS X.K (mS B a o u) (e.zip b++T) f->De.nx e->q.nx b f) ->
     (∀ (r:Sl) (v:V) (e:Aa Sl) (b:St) (f:Hp),e.length=b.length->DS X.K (mS B a o u) (e.zip b++(r,some v)::T) f->De.rt r->q.rt v f) ->
     ∃ W:Nat->Nat->St->Hp->Prop,(∃ m,W 0 m l F)/\∀ i n b f,W i n b f->((sU a o u E).stop i f/\q.nx b f)\/((sU a o u E).go i f/\∃ N:St->Hp->Prop,(∀ L t,N L t->∃ m',m'<n/\W (i+1) m' L t)/\∀ x t,(sU a o u E).yld i f x t->dG X.K m g x b t λk H3=>dS X.K tb { nx:=N,ct:=N,bk:=q.nx,rt:=q.rt } k H3):=λo q F d0 S ac=>by
    refine⟨λi m b f=>m=(E.map nB).length-i/\i<=(E.map nB).length/\∃ e,e.length=b.length/\b.length=l.length/\DS X.K (mS B a o u) (e.zip b++T) f/\Pv i e,⟨_,rfl,dN _,Z,l1,rfl,d0,p0⟩,?_⟩;rintro i m b f ⟨rfl,ae,e,m1,m2,J,pv⟩;have Q:=J.known U;by_cases M:i<(E.map nB).length
    .refine .inr ⟨(Y o).go i f M Q,λk F=>∃ h,h.length=k.length/\k.length=l.length/\DS X.K (mS B a o u) (h.zip k++T) F/\Pv (i+1) h,λk F ⟨h,q1,q2,q3,q4⟩=>⟨_,(by omega:(E.map nB).length-(i+1)<_),rfl,M,h,q1,q2,q3,q4⟩,λx F y=>?_⟩;obtain⟨d,aa,rfl,rx⟩:=(Y o).yld i f x F M Q y;refine⟨mS B a o u,e,T,d,_,m1,J.push (rx _),step i d e aa pv,λh k H3 n1 n2 _ d3 q3=>⟨mS B a o u,h,T,_,n1,d3,q3,?_,?_⟩⟩
     .intro D O I s p R;exact⟨λz=>⟨D,s,by omega,R,z⟩,λz=>S D O I s (by omega) R z,λz=>⟨D,s,by omega,R,z⟩⟩
     .exact λr v D O I s R z=>ac r v D O I s R z
    .have ei:i=(E.map nB).length:=by omega
     subst ei;exact .inl ⟨(Y o).stop _ f rfl Q,S e b f m1 m2 J (fin e pv)⟩
   refine⟨a,u,E,Q,rfl,?_⟩;rcases alt with⟨ha,hh⟩ | ⟨o,ha,d2,back⟩
   .refine .inl ⟨ha,λo h0=>?_⟩;obtain⟨d2,back⟩:=hh o;exact G o _ _ d2 (λe b f s p d z=>.inr ⟨a,o,u,C,d.known U,h0,(lk.1 e b _ s p (back _ _ d)).1 z⟩) λr v e b f s d z=>.inr ⟨a,o,u,C,d.known U,h0,lk.2 r v e b _ s (back _ _ d) z⟩
   .exact .inr ⟨o,ha,G o _ _ d2 (λe b f s p d z=>.inl ((lk.1 e b _ s p (back _ _ d)).1 z)) λr v e b f s d z=>.inl (lk.2 r v e b _ s (back _ _ d) z)⟩
end
end L2
namespace Lw
open PySem L2
structure Fld where
 C:Cel
 al:List (Str×Str×Int×Int)
 rows:List Str
 cols:List Str
def lX (p:Af×Af×Int×Int):D:=.t [.str p.1,.str p.2.1,.int p.2.2.1,.int p.2.2.2]
def lA (F:Fld):D:=.t [nJ F.C,.t (F.al.map lX),.t (F.rows.map D.str),.t (F.cols.map D.str)]
structure GN (x:Str):Prop where
 ok:∀ c∈x.cps.toList,c<128
 le:x.length<=8
 nz:x ≠ ""
structure GF (F:Fld):Prop where
 gc:GC F.C
 ins:F.C.ins.Perm (F.al.map (·.2.1)++F.rows++F.cols)
 ao:∀ p∈F.al,p.1∈F.C.outs
 an:(F.al.map (·.1)).Nodup
 gn:∀ x∈F.C.names,GN x
 st:∀ p∈F.al,(p.2.2.1=0/\p.2.2.2=1)\/(p.2.2.1=1/\p.2.2.2=0)\/(p.2.2.1=1/\p.2.2.2=1)\/(p.2.2.1=1/\p.2.2.2 = -1)
 la:F.al.length<=3
 lr:F.rows.length<=3
 lc:F.cols.length<=3
theorem GF.nin {F:Fld}(h:GF F):(F.al.map (·.2.1)++F.rows++F.cols).Nodup:=h.ins.nodup_iff.mp (aO.mp h.gc.nd).1
def Hj:RD:=λf d e=>∃ (b:Aa Int) (st m:Nat),d=[.c (b.map D.int),.int st,.int m]/\b.length<=63/\st<=500/\m<=40/\∀ a:Aa Af,a.length=m->a.Nodup->(∀ x∈a,GN x)->e (.v (.l (a.map D.str)))
def G9:RD:=λc a b=>∃ (n:Nat) (F:Fld),a=[.int n,lA F]/\(F.al.map (·.2.1)).Nodup/\F.al.length<=100/\∀ t:oJ,(t.map (·.1)).Perm (F.al.map (·.2.1))->(∀ p∈t,kJ p.2)->b (.v (.k (hO t)))
def Gs:RD:=λh e f=>∃ (d:Aa Int) (st:Nat) (F:Fld) (a b:Nat),e=[.c (d.map D.int),.int st,lA F,.int a,.int b]/\d.length<=63/\st<=500/\a<=8/\b<=8/\(F.rows++F.cols).Nodup/\(F.rows++F.cols).length<=6 /\
 ∀ t:oJ,t.map (·.1)=F.rows++F.cols->(∀ p∈t,0<=p.2/\p.2<2 ^ (if p.1∈F.rows then b else a))->f (.v (.k (hO t)))
def nW:Aa Af:=["","","and","odd","b","zz","carry","lengthy"]
def oZ (r i:Nat):Af:=⟨#[97+(r+5*i)%26]⟩
def uN (i:Nat):Aa Af:=if i<=25 then nW else ["w"]
def wR (r:Nat) (i:Nat) (x:Af):Prop:=∃ a∈uN i,x=if r/26%2=0 then a++oZ r i else oZ r i++a
theorem Ue {a b c d:Af}(h:a++b=c++d) (g:b.length=d.length):a=c/\b=d:=by
 have e:(a++b).cps.toList=(c++d).cps.toList:=by rw[h]
 have f:∀ x y:Af,(x++y).cps.toList=x.cps.toList++y.cps.toList:=λx y=>by
  show (x.cps++y.cps).toList=_;exact Array.toList_append
 rw[f,f] at e;have m:b.cps.toList.length=d.cps.toList.length:=by simpa [Str.length] using g
 obtain⟨i,k⟩:=List.append_inj' e m;exact⟨by cases a;cases c;simp at i |-;exact i,by cases b;cases d;simp at k |-;exact k⟩
theorem Wc {a b c d:Af}(h:a++b=c++d) (g:a.length=c.length):a=c/\b=d:=by
 have e:(a++b).cps.toList=(c++d).cps.toList:=by rw[h]
 have f:∀ x y:Af,(x++y).cps.toList=x.cps.toList++y.cps.toList:=λx y=>by
  show (x.cps++y.cps).toList=_;exact Array.toList_append
 rw[f,f] at e;have m:a.cps.toList.length=c.cps.toList.length:=by simpa [Str.length] using g
 obtain⟨i,k⟩:=List.append_inj e m;exact⟨by cases a;cases c;simp at i |-;exact i,by cases b;cases d;simp at k |-;exact k⟩
theorem Pt (h:oZ r i=oZ r j):(5*i)%26=(5*j)%26:=by
 unfold oZ at h;injection h with h;simp at h;omega
theorem Jv:("w" : Af)∉nW:=by decide +kernel
theorem Oy (o:i<40) (p:j<40) (g:wR r i x) (l:wR r j x):i=j:=by
 obtain⟨n,d,m⟩:=g;obtain⟨q,f,h⟩:=l;rw[m] at h;have both:n=q/\oZ r i=oZ r j:=by
  by_cases c:r/26%2=0
  .rw[aH c,aH c] at h;exact Ue h rfl
  .rw[aE c,aE c] at h;exact (Wc h rfl).symm
 have e:=Pt both.2;have k:=both.1;unfold uN at d f;by_cases a:i<=25<;>by_cases b:j<=25
 .omega
 .rw[aH a] at d;rw[aE b] at f;rw[k,bA.mp f] at d;exact absurd d Jv
 .rw[aE a] at d;rw[aH b] at f;rw[<- k,bA.mp d] at f;exact absurd f Jv
 .omega
theorem Vq (h:wR r i x):GN x:=by
 have key:∀ a∈nW++(["w"]:Aa Af),∀ c:Fin 26,((a++(⟨#[97+c.val]⟩:Af)).cps.toList.all (·<128)&&decide ((a++(⟨#[97+c.val]⟩:Af)).length<=8)&&decide (a++(⟨#[97+c.val]⟩:Af) ≠ ""))=true /\
   (((⟨#[97+c.val]⟩:Af)++a).cps.toList.all (·<128)&&decide (((⟨#[97+c.val]⟩:Af)++a).length<=8)&&decide ((⟨#[97+c.val]⟩:Af)++a ≠ ""))=true:=by decide +kernel
 have of:∀ y:Af,(y.cps.toList.all (·<128)&&decide (y.length<=8)&&decide (y ≠ ""))=true->GN y:=λy e=>by
  simp only[cM,iY,gP] at e;exact⟨e.1.1,e.1.2,e.2⟩
 obtain⟨a,b,rfl⟩:=h;have d:a∈nW++(["w"]:Aa Af):=by
  unfold uN at b;split at b
  .exact bM _ b
  .exact aN _ b
 obtain⟨f,k⟩:=key a d ⟨(r+5*i)%26,Nat.mod_lt _ (by decide)⟩;split
 .exact of _ f
 .exact of _ k
theorem Ow {r:Nat}{g:Aa Af}(l:g.length<=40) (h:∀ i x,g[i]?=some x->wR r i x):g.Nodup:=by
 refine List.pairwise_iff_getElem.mpr λi j a c b e=>?_
 have:=Oy (by omega) (by omega) (h i _ (aL a)) (h j _ (by rw[e];exact aL c));omega
def pS:Af := "abcdefghijklmnopqrstuvwxyz"
theorem Us {k:Nat}(h:k<26):mC pS.cps.toList (k:Int)=some (97+k):=by
 have a:∀ k:Fin 26,pS.cps.toList[k.val]?=some (97+k.val):=by decide +kernel
 exact wT (a ⟨k,h⟩)
section
variable {P:Ah}{K:kC}
theorem sB:FnScope ["script","start","many","letters","some","first","found","k","name","own"] ["script","start","many"] (lQ wL):=nS
theorem Vs (F:Fun K "_law_names" "_law_names" wL f fd) (T:Txt mg) (g:Gd K mg "_law_number" sK ["script","k"] fN C) (p:FnOk P w K mg base kQ 1 fN C ["script","k"] (kY K yE)) :
  FnOk P w K mg base kQ 2 f fd ["script","start","many"] (kY K Hj):=by
 refine F.okD (k:=1) sB (λdk ds Φ ⟨_,_,_,e,_⟩=>by rw[e];rfl) (by decide) λac A aa s H E dk ds Φ Y hR=>?_
 have I:=nL Y;obtain⟨M,st,m,rfl,hl,af,hm,U⟩:=hR;refine⟨_,(hB (kI 3 sB.nd mW) (hB (kI 4 sB.nd (nD (dK mW (dK mW (dK mW (dK mW (dK mW (dK mW (dK mW (dK mW eI)))))))))) (hB (kI 5 sB.nd (lU p (Y.mono (by decide)) (by rfl) g.m g.k g.b (dK (dT 0) (dK (dT 1) eI)))) (hB (kI 6 sB.nd (nD eI)) (hB (oD (tI (by rfl) T.range (dT 2)) (kH 7 sB.nd) (hB (kI 8 sB.nd (kT I 4 (kE lV lW (lU p (Y.mono (by decide)) (by rfl) g.m g.k g.b (dK (dT 0) (dK (kE lG lH (kN lG lH 1 eH) (dT 7)) eI))) eH))) (hB (oH (qX Ib Jf (pv 7) eH) (kR (kI 8 sB.nd mW)) oR) (hB (kI 9 sB.nd (kT I 3 (kE lV lW (kN lG lH 5 (kE mO mP eH (dT 7))) eH))) (kR (oW (qB bR bW bX qV rR (pv 6) (dK (qD I (nD (dK (kN lG lH 8 (dT 9)) (dK (kN lG lH 9 (dT 8)) eI))) (kE lV lW (kN mI mL 5 eH) eH)) eI)))))))) (kR (mG (dT 6)))))))),?_⟩;have q0:∀ (Q R O:Sl) (r:Nat) (a:Aa Af),[Sl.v (.c (M.map D.int)),.v (.int st),.v (.int m),.v (.str pS),.o (.l (nW.map D.str)),.v (.int r),.o (.l (a.map D.str)),Q,R,O]=[Sl.v (.c (M.map D.int)),.v (.int st),.v (.int m),.v (.str pS),.o (.l (nW.map D.str)),.v (.int r),.o (.l (a.map D.str)),Q,R,O]:=λ_ _ _ _ _=>rfl
 refine hI (λu=>u=[.v (.c (M.map D.int)),.v (.int st),.v (.int m),.v (.str pS),.n,.n,.n,.n,.n,.n]) (λN S=>S _ rfl) ?_;rintro _ rfl;refine hI (λu=>u=[.v (.c (M.map D.int)),.v (.int st),.v (.int m),.v (.str pS),.o (.l (nW.map D.str)),.n,.n,.n,.n,.n]) (λN S=>⟨by show 8<=1000;decide,S _ rfl⟩) ?_;rintro _ rfl;refine hI (λu=>∃ r:Nat,r<1000000/\u=[.v (.c (M.map D.int)),.v (.int st),.v (.int m),.v (.str pS),.o (.l (nW.map D.str)),.v (.int r),.n,.n,.n,.n]) (λN S=>⟨M,st,rfl,hl,by omega,λr Y=>⟨.inr rfl,S _ ⟨r,Y,rfl⟩⟩⟩) ?_;rintro _ ⟨r,ae,rfl⟩;refine⟨by show 0<=1000;decide,?_⟩;dsimp only;refine hI (λu=>∃ (a:Aa Af) (Q R O:Sl),u=[.v (.c (M.map D.int)),.v (.int st),.v (.int m),.v (.str pS),.o (.l (nW.map D.str)),.v (.int r),.o (.l (a.map D.str)),Q,R,O]/\a.length=m/\∀ i x,a[i]?=some x->wR r i x) (λN S=>?_) ?_
 .refine oG (mU 0 m) _ (λΨ h=>⟨by omega,by omega,h⟩) (λi u=>∃ (a:Aa Af) (Q R O:Sl),u=[.v (.c (M.map D.int)),.v (.int st),.v (.int m),.v (.str pS),.o (.l (nW.map D.str)),.v (.int r),.o (.l (a.map D.str)),Q,R,O]/\a.length=i/\∀ i x,a[i]?=some x->wR r i x) ⟨[],.n,.n,.n,rfl,rfl,λi x h=>by simp at h⟩ ?_ ?_
  .rintro k d u hd ⟨a,Q,R,O,rfl,V,G⟩;obtain⟨hk,rfl⟩:=uH hd;have ek:(0:Int)+(k:Int)=(k:Int):=by omega
   rw[ek];refine hI (λu=>∃ t∈nW,u=[.v (.c (M.map D.int)),.v (.int st),.v (.int m),.v (.str pS),.o (.l (nW.map D.str)),.v (.int r),.o (.l (a.map D.str)),.v (.int k),.v (.str t),O]) (λN' B=>?_) ?_
   .refine⟨rfl,rfl,M,st+1+k,by simp,hl,by omega,λz hz=>⟨.inr rfl,by show (0:Int)<8;decide,?_⟩⟩;obtain⟨j,ej,hj⟩:=sC (z:=(z:Int)) 8 (by decide);have Z:j<nW.length:=hj;refine⟨.str nW[j],?_,B _ ⟨nW[j],gW _,rfl⟩⟩;rw[show (z:Int)%8=(j:Int) from ej];exact wT (by rw[bB,aL Z];rfl)
   rintro _ ⟨t,X,rfl⟩;refine hI (λu=>∃ t∈uN k,u=[.v (.c (M.map D.int)),.v (.int st),.v (.int m),.v (.str pS),.o (.l (nW.map D.str)),.v (.int r),.o (.l (a.map D.str)),.v (.int k),.v (.str t),O]) (λN' B=>⟨rfl,By (λh=>B _ ⟨"w",?_,rfl⟩) λh=>B _ ⟨t,?_,rfl⟩⟩) ?_
   .unfold uN;rw[if_neg (by omega)];simp
   .unfold uN;rw[if_pos (by omega)];exact X
   rintro _ ⟨t,W,rfl⟩;have om:((r:Int)+5*(k:Int))%26=(((r+5*k)%26:Nat):Int):=by norm_cast
   refine hI (λu=>u=[.v (.c (M.map D.int)),.v (.int st),.v (.int m),.v (.str pS),.o (.l (nW.map D.str)),.v (.int r),.o (.l (a.map D.str)),.v (.int k),.v (.str t),.v (.str (oZ r k))]) (λN' B=>?_) ?_
   .refine⟨rfl,rfl,.inl ⟨by decide,by decide⟩,by show (0:Int)<26;decide,by decide +kernel,97+(r+5*k)%26,?_,B _ rfl⟩;show mC pS.cps.toList (((r:Int)+5*(k:Int))%26)=_;rw[om];exact Us (Nat.mod_lt _ (by decide))
   rintro _ rfl;have ab:t.length+1<=100:=by
    have:∀ y∈nW++(["w"]:Aa Af),y.length+1<=100:=by decide +kernel
    refine this t ?_;unfold uN at W;split at W
    .exact bM _ W
    .exact aN _ W
   have two:((r:Int)/26%2)=((r/26%2:Nat):Int):=by norm_cast
   refine⟨rfl,rfl,by show t.length+1<=100000;omega,rfl,by show 1+t.length<=100000;omega,by show 2<=1000;decide,rfl,⟨by decide,by decide⟩,by show (0:Int)<2;decide,.str (if r/26%2=0 then t++oZ r k else oZ r k++t),?_,by show (a.map D.str).length<100000;rw[aD];omega,a++[if r/26%2=0 then t++oZ r k else oZ r k++t],.v (.int k),.v (.str t),.v (.str (oZ r k)),?_,by simp[V],?_⟩
   .show mC [D.str (t++oZ r k),D.str (oZ r k++t)] ((r:Int)/26%2)=_;rw[two];rcases Nat.mod_two_eq_zero_or_one (r/26) with q | q
    .rw[q,aH rfl];rfl
    .rw[q,aE (by decide)];rfl
   .rw[aT];rfl
   .intro i x L;by_cases c:i<a.length
    .rw[eX c] at L;exact G i x L
    .rw[cZ (by omega)] at L;have:i=k:=by
      have:=(aG.mp L).1;simp at this;omega
     subst this;rw[V,Nat.sub_self] at L;cases L;exact⟨t,W,rfl⟩
  .rintro u ⟨a,Q,R,O,rfl,V,G⟩;have:(mU 0 m).length=m:=by simp[mU]
   rw[this] at V;exact S _ ⟨a,Q,R,O,rfl,V,G⟩
 rintro _ ⟨a,Q,R,O,rfl,V,G⟩;refine U a V (Ow (by omega) G) λx J=>?_
 obtain⟨i,hi⟩:=List.getElem?_of_mem J;exact Vq (G i x hi)
end
theorem Dm:∀ {g:Aa o}{j:Aa p},j.Perm (g.map f)->∃ l:Aa o,j=l.map f/\l.Perm g:=by
 intro g j h;generalize c:g.map f=m at h;induction h generalizing g with
 | nil=>exact⟨[],rfl,by rw[List.map_eq_nil_iff.mp c]⟩
 | @cons x j m _ i =>
  cases g with
  | nil=>cases c
  | cons a r =>
   simp only[aI,eC] at c;obtain⟨rfl,c⟩:=c;obtain⟨l,rfl,q⟩:=i c;exact⟨a::l,rfl,q.cons a⟩
 | swap x y m =>
  match g,c with
  | a::b::r,c =>
   simp only[aI,eC] at c;obtain⟨rfl,rfl,rfl⟩:=c;exact⟨b::a::r,rfl,.swap a b r⟩
 | trans _ _ d e =>
  obtain⟨l,rfl,q⟩:=e c;obtain⟨k,rfl,n⟩:=d rfl;exact⟨k,rfl,n.trans q⟩
section
variable {P:Ah}{K:kC}
theorem uG:FnScope ["number","field","found","output","name","down","right"] ["number","field"] (lQ wG):=nS
theorem Yu (F:Fun K "_law_edges" "_law_edges" wG f fd) (T:Txt C) (g:Gd K C "_law_turned" uV ["number","things"] fT r) (l:FnOk P w K C base kQ 1 fT r ["number","things"] (kY K Em)) :
  FnOk P w K C base kQ 2 f fd ["number","field"] (kY K G9):=by
 refine F.okD (k:=1) uG (λI J Φ ⟨_,_,e,_⟩=>by rw[e];rfl) (by decide) λZ A V s H E I J Φ W hR=>?_
 have X:=nL W;obtain⟨n,D,rfl,nd,hl,S⟩:=hR;refine⟨_,(hB (kI 2 uG.nd As) (hB (oD (nN (lU l (W.mono (by decide)) (by rfl) g.m g.k g.b (dK (kN mI mL 0 eH) (dK (kT X 1 eH) eI)))) (pJ (n:=4) rfl (kW (kH 3 uG.nd) (kW (kH 4 uG.nd) (kW (kH 5 uG.nd) (kW (kH 6 uG.nd) oS))))) (hB (sV (n:=2) X (kN lV lW 0 eH) (pv 2) (dT 4)) (kR (kI 0 uG.nd (kN mI mL 0 eH))))) (kR (mG (dT 2))))),?_⟩;refine hI (λB=>B=[.v (.int n),.v (lA D),.o (.k []),.n,.n,.n,.n]) (λN R=>R _ rfl) ?_;rintro _ rfl;refine hI (λB=>∃ (t:oJ) (Y h u x y:Sl),B=[Y,.v (lA D),.o (.k (hO t)),h,u,x,y]/\(t.map (·.1)).Perm (D.al.map (·.2.1))/\∀ p∈t,kJ p.2) (λN R=>?_) ?_
 .have e8:(n:Int)/8=((n/8:Nat):Int):=by norm_cast
  refine⟨rfl,⟨by decide,by decide⟩,rfl,_,rfl,n/8,D.al.map lX,?_,by rw[aD];omega,λys O=>⟨.inl rfl,?_⟩⟩
  .rw[<- e8];exact .inr rfl
  obtain⟨al,rfl,a⟩:∃ al:Aa (Af×Af×Int×Int),ys=al.map lX/\al.Perm D.al:=Dm O;have Q:(al.map (·.2.1)).Nodup:=(a.map (·.2.1)).nodup_iff.mpr nd;refine⟨λi B=>∃ (t:oJ) (n:Nat) (h u x y:Sl),B=[.v (.int n),.v (lA D),.o (.k (hO t)),h,u,x,y]/\t.map (·.1)=(al.take i).map (·.2.1)/\∀ p∈t,kJ p.2,⟨[],n,.n,.n,.n,.n,rfl,by simp,λp O=>by simp at O⟩,?_,?_⟩
  .rintro i d B hd ⟨t,n,h,u,x,y,rfl,G,L⟩;obtain⟨p,c,rfl⟩:=rS hd;have ab:i<al.length:=(aG.mp c).1;have aa:al.length<=100:=by rw[a.length_eq];exact hl
   have ac:t.length<=100:=by have:=cO List.length G;simp at this;omega
   obtain⟨j,ej,hj⟩:=sC (z:=(n:Int)) 2 (by decide);have M:p.2.1∉t.map (·.1):=λq=>by
    rw[G] at q;have e:al=al.take i++p::al.drop (i+1):=by
     obtain⟨hi,rfl⟩:=aG.mp c;rw[dZ,eE]
    rw[e,aT] at Q;exact (aO.mp Q).2.2 p.2.1 q p.2.1 (by simp) rfl
   have U:(n:Int)/2=((n/2:Nat):Int):=by norm_cast
   refine⟨rfl,rfl,rfl,by show (0:Int)<2;decide,rfl,_,wW (by rw[sL];omega),rfl,⟨by decide,by decide⟩,t++[(p.2.1,(n:Int)%2)],n/2,.v (.str p.1),.v (.str p.2.1),.v (.int p.2.2.1),.v (.int p.2.2.2),?_,?_,?_⟩
   .rw[zF M];show _=[Sl.v (.int ((n/2:Nat):Int)),_,_,_,_,_,_];rw[<- U];rfl
   .rw[aT,G,cY,c,aT];rfl
   .intro q hq;rcases aZ.mp hq with z | z
    .exact L q z
    .rw[bA.mp z];show kJ ((n:Int)%2);unfold kJ;omega
  .rintro B ⟨t,n,h,u,x,y,rfl,G,L⟩;rw[aD,bN (aP _)] at G;exact R _ ⟨t,_,h,u,x,y,rfl,by rw[G];exact a.map _,L⟩
 rintro _ ⟨t,Y,h,u,x,y,rfl,O,L⟩;exact S t O L
end
theorem K4 (g:Aa Af):sW (g.map D.str)=some (g.map V.str):=J2 (λ_=>rfl) g
theorem yV:∀ g:Aa Af,vK (.str x) (g.map V.str)=decide (x∈g)
 | []=>by simp[vK]
 | y::g=>by
  have a:=yV (x:=x) g;unfold vK at a |-;rw[aI,eR,a];by_cases e:x=y
  .subst e;have:qO (V.str x) (V.str x)=true:=jZ x;simp[this]
  .have:qO (V.str y) (V.str x)=false:=by
    show (y == x)=false;exact cF.mpr λz=>e z.symm
   have:qO (V.str x) (V.str y)=false:=by
    show (x == y)=false;exact cF.mpr e
   simp[*]
theorem Mt {a b:Nat}(c:Bool):mC [D.int (a:Int),D.int (b:Int)] (if c=true then 1 else 0)=some (.int ((if c=true then b else a:Nat):Int)):=by
 cases c<;>rfl
section
variable {P:Ah}{K:kC}
theorem wK:FnScope ["script","start","field","width","height","found","k","name","full","number"] ["script","start","field","width","height"] (lQ vR):=nS
theorem T6 (F:Fun K "_law_words" "_law_words" vR f fd) (T:Txt mg) (g:Gd K mg "_law_number" sK ["script","k"] fN I) (l:FnOk P w K mg base kQ 1 fN I ["script","k"] (kY K yE)) :
  FnOk P w K mg base kQ 2 f fd ["script","start","field","width","height"] (kY K Gs):=by
 refine F.okD (k:=1) wK (λdk ds Φ ⟨_,_,_,_,_,e,_⟩=>by rw[e];rfl) (by decide) λae A ac s H E dk ds Φ hr hR=>?_
 have Q:=nL hr;obtain⟨R,st,u,a,b,rfl,hl,af,ha,hb,nd,h6,ab⟩:=hR;refine⟨_,(hB (kI 5 wK.nd As) (hB (oD (Nm (by rfl) T.enumerate (kE lG lH (kT Q 2 eH) (kT Q 2 eH))) (pJ (n:=2) rfl (kW (kH 6 wK.nd) (kW (kH 7 wK.nd) oS))) (hB (kI 8 wK.nd (kE wX xY eH (qD Q (nD (dK (dT 3) (dK (dT 4) eI))) (nF Fq K6 T.int iW (dK (Vb (D7 Q) (tY false) (pv 7) (kT Q 2 eH)) eI))))) (hB (kI 9 wK.nd (lU l (hr.mono (by decide)) (by rfl) g.m g.k g.b (dK (dT 0) (dK (kN lG lH 1 (dT 6)) eI)))) (kR (sV (n:=5) Q (kE lV lW (qD Q (nD (dK eH (dK (kN rX rT 8 eH) (dK (kN mI mL 9 eH) (dK (kN mI mL 9 eH) (dK (kN mI mL 9 eH) (dK eH (dK (kN mI mL 9 eH) (dK (kN mI mL 8 eH) eI))))))))) (kN lV lW 9 eH)) (dT 8)) (pv 5) (dT 7)))))) (kR (mG (dT 5))))),?_⟩;refine hI (λG=>G=[.v (.c (R.map D.int)),.v (.int st),.v (lA u),.v (.int a),.v (.int b),.o (.k []),.n,.n,.n,.n]) (λN J=>J _ rfl) ?_;rintro _ rfl;refine hI (λG=>∃ (t:oJ) (S V W L:Sl),G=[.v (.c (R.map D.int)),.v (.int st),.v (lA u),.v (.int a),.v (.int b),.o (.k (hO t)),S,V,W,L]/\t.map (·.1)=u.rows++u.cols/\∀ p∈t,0<=p.2/\p.2<2 ^ (if p.1∈u.rows then b else a)) (λN J=>?_) ?_
 .refine oG (uS ((u.rows++u.cols).map D.str)) _ (λΨ h=>⟨rfl,_,rfl,rfl,_,rfl,by rw[aD,aD];rw[bI] at h6;omega,?_⟩) (λi G=>∃ (t:oJ) (S V W L:Sl),G=[.v (.c (R.map D.int)),.v (.int st),.v (lA u),.v (.int a),.v (.int b),.o (.k (hO t)),S,V,W,L]/\t.map (·.1)=(u.rows++u.cols).take i/\∀ p∈t,0<=p.2/\p.2<2 ^ (if p.1∈u.rows then b else a)) ⟨[],.n,.n,.n,.n,rfl,by simp,λp hp=>by simp at hp⟩ ?_ ?_
  .rw[aT] at h;exact h
  .rintro i d G hd ⟨t,S,V,W,L,rfl,M,C⟩;obtain⟨x,hx,rfl⟩:∃ x,(u.rows++u.cols)[i]?=some x/\D.t [.int (i:Nat),.str x]=d:=by
    have Y:i<((u.rows++u.cols).map D.str).length:=by
     have:=(aG.mp hd).1
     rwa [Bi] at this
    rw[aD] at Y;refine⟨_,aL Y,?_⟩;have:=Ih (xs:=(u.rows++u.cols).map D.str) (i:=i) (d:=.str (u.rows++u.cols)[i]) (by rw[bB,aL Y];rfl);rw[hd] at this;exact (bO this).symm
   have Y:i<(u.rows++u.cols).length:=(aG.mp hx).1;have Z:x∉t.map (·.1):=λq=>by
    rw[M] at q;have e:u.rows++u.cols=(u.rows++u.cols).take i++x::(u.rows++u.cols).drop (i+1):=by
     obtain⟨Y,rfl⟩:=aG.mp hx;rw[dZ,eE]
    rw[e] at nd;exact (aO.mp nd).2.2 x q x (by simp) rfl
   have ag:t.length<=6:=by have:=cO List.length M;rw[aD,bY] at this;omega
   generalize hw:(if x∈u.rows then b else a)=B;have ah:B<=8:=by rw[<- hw];split<;>assumption
   have y:=Bz (i:=B) (by omega);refine⟨rfl,rfl,?_⟩;refine hI (λG=>G=[.v (.c (R.map D.int)),.v (.int st),.v (lA u),.v (.int a),.v (.int b),.o (.k (hO t)),.v (.int i),.v (.str x),.v (.int (2 ^ B)),L]) (λN' O=>?_) ?_
   .refine⟨by show 2<=1000;decide,rfl,rfl,_,rfl,_,_,rfl,K4 _,?_⟩;rw[yV];refine⟨_,Mt _,⟨by omega,?_,by decide⟩,?_⟩
    .show ((if decide (x∈u.rows)=true then b else a:Nat):Int)<=1000000;split<;>omega
    have e:(if decide (x∈u.rows)=true then b else a)=B:=by rw[<- hw];simp only[gP]
    show N' [.v (.c (R.map D.int)),.v (.int st),.v (lA u),.v (.int a),.v (.int b),.o (.k (hO t)),.v (.int i),.v (.str x),.v (.int (1*2 ^ ((if decide (x∈u.rows)=true then b else a:Nat):Int).toNat)),L];rw[bQ,e,jV];exact O _ rfl
   rintro _ rfl;refine hI (λG=>∃ r:Nat,G=[.v (.c (R.map D.int)),.v (.int st),.v (lA u),.v (.int a),.v (.int b),.o (.k (hO t)),.v (.int i),.v (.str x),.v (.int (2 ^ B)),.v (.int r)]) (λN' O=>⟨rfl,R,st+i,by simp,hl,by omega,λr hr=>⟨.inr rfl,O _ ⟨r,rfl⟩⟩⟩) ?_;rintro _ ⟨r,rfl⟩;let X:Aa Int:=[0,2 ^ B-1,(r:Int)/8,(r:Int)/8,(r:Int)/8,1,(r:Int)/8,2 ^ B/2];obtain⟨j,ej,hj⟩:=sC (z:=(r:Int)) 8 (by decide);have aa:j<X.length:=hj;have U:mC (X.map D.int) ((r:Int)%8)=some (.int X[j]):=by
    rw[show (r:Int)%8=(j:Int) from ej];exact wT (by rw[bB,aL aa];rfl)
   refine⟨rfl,rfl,⟨by decide,by decide⟩,rfl,⟨by decide,by decide⟩,rfl,⟨by decide,by decide⟩,rfl,⟨by decide,by decide⟩,rfl,⟨by decide,by decide⟩,by show 8<=1000;decide,rfl,by show (0:Int)<8;decide,_,U,y.1,rfl,_,wW (by rw[sL];omega),t++[(x,X[j]%2 ^ B)],.v (.int i),.v (.str x),.v (.int (2 ^ B)),.v (.int r),?_,?_,?_⟩
   .rw[zF Z];rfl
   .rw[aT,M,cY,hx];rfl
   .intro p hp;rcases aZ.mp hp with z | z
    .exact C p z
    .rw[bA.mp z];show 0<=X[j]%2 ^ B/\X[j]%2 ^ B<2 ^ (if x∈u.rows then b else a);rw[hw];exact⟨hX _ (by omega),gI _ y.1⟩
  .rintro G ⟨t,S,V,W,L,rfl,M,C⟩;rw[Bi,aD,bN (aP _)] at M;exact J _ ⟨t,S,V,W,L,rfl,M,C⟩
 rintro _ ⟨t,S,V,W,L,rfl,M,C⟩;exact ab t M C
end
end Lw
namespace PySem
open PyProof.Rows L2
theorem nC {h j:Ag}(x:h.IsTuple a g) (k:∀ o,h.get? a=some o->j.get? a=some o):j.IsTuple a g:=let ⟨o,e,r⟩:=x;⟨o,k o e,r⟩
section
theorem wM (I:s.heap.IsTupleIter j t i) (T:s.heap.IsTuple t C) (J:C[i]?=some x) (q:∀ g,g.IsTupleIter j t (i+1)->Heap.SameBut j s.heap g->Q x { s with heap:=g }) :
  wpAny (model l w) A (Builtin.SmallTypes.nextOf (.ref j)) Q E s:=by
 obtain⟨o,a,c,ty,b⟩:=zQ I;obtain⟨p,m,v,n,u⟩:=id T;have body:wpAny (model l w) A.in1 (Builtin.«tuple_iterator.__next__» ⟨[.ref j],[]⟩) (λr d=>∃ g,r = .done (.ret x)/\d={ s with heap:=g }/\g.IsTupleIter j t (i+1)/\Heap.SameBut j s.heap g) E s:=by
  show wpAny _ _ (field (.ref j) 0 >>= _) _ _ s;refine aA (cK a c (x:=.ref t) rfl ?_);refine (show wpAny _ _ (field (.ref j) 1 >>= _) _ _ s from aA (cK a c (x:=.int i 0) rfl (aA (dF m u ?_))));simp only[bQ,J];exact aA (gT a c (by simp) (aB ⟨_,rfl,rfl,Kd a b c,cG ..⟩))
 unfold Builtin.SmallTypes.nextOf;refine aA (bK (name:=Str.ofString "__next__") ty cE (bU cE ty eP (cN body (λr d ⟨g,e,f,h,k⟩=>?_) λ_ _ z=>z) (eL _)));subst e f;exact⟨x,rfl,aB (q g h k)⟩
theorem Ba (calm:A.handled=none) (I:s.heap.IsTupleIter j t i) (T:s.heap.IsTuple t C) (r:C[i]?=none)
  (q:∀ g e,Heap.ExtBut j s.heap g->(∃ o,g.get? e=some o/\o.cls = .type "StopIteration")->E (.ref e) { s with heap:=g }):wpAny (model l w) A (Builtin.SmallTypes.nextOf (.ref j)) Q E s:=by
 obtain⟨o,a,c,ty,b⟩:=zQ I;obtain⟨p,f,m,n,h⟩:=id T;have body:wpAny (model l w) A.in1 (Builtin.«tuple_iterator.__next__» ⟨[.ref j],[]⟩) (λ_ _=>False) E s:=by
  show wpAny _ _ (field (.ref j) 0 >>= _) _ _ s;refine aA (cK a c (x:=.ref t) rfl ?_);refine (show wpAny _ _ (field (.ref j) 1 >>= _) _ _ s from aA (cK a c (x:=.int i 0) rfl (aA (dF f h ?_))));simp only[bQ,r];refine aA (eK (aA (gT a c (by simp) ?_)));exact E4 calm λg e k z=>q g e (λx o d r=>k x o ((cG ..).extBut x o d r)) z
 unfold Builtin.SmallTypes.nextOf;exact aA (bK (name:=Str.ofString "__next__") ty cE (bU cE ty eP (cN body (λ_ _ z=>z.elim) λ_ _ z=>z) (eL _)))
def zG (z TI TO:Ad) (E:Ac->Ae->Prop):Ac->Ae->Prop:=λe a=>IsZip a.heap z TI TO .ellipsis/\∀ b,Heap.SameBut z a.heap b->E e { a with heap:=b }
theorem Je {z TI TO:Ad}{a b p q:Ac}{Q:Ac->Ae->Prop}(J:IsZip s.heap z TI TO .none) (aa:IsPair s.heap TI a b)
  (go:∀ C,IsZip C z TI TO .ellipsis->Heap.SameBut z s.heap C->wpAny (model g w) A (Builtin.SmallTypes.nextOf a) (λx T=>IsPair T.heap TO p q/\∀ I,IsPair I TO x q->Heap.SameBut TO T.heap I ->wpAny (model g w) A (Builtin.SmallTypes.nextOf b) (λy U=>IsPair U.heap TO x q/\∀ j,IsPair j TO x y->Heap.SameBut TO U.heap j->IsZip j z TI TO .ellipsis /\ ∀ r,IsZip r z TI TO (rawInt j.objs.size)->IsPair r j.objs.size x y->r.objs.size=j.objs.size+1->(∀ c o,c≠z->j.get? c=some o->r.get? c=some o)->Q (.ref j.objs.size) { U with heap:=r }) (zG z TI TO E) { T with heap:=I }) (zG z TI TO E) { s with heap:=C }) :
  wpAny (model g w) A (Builtin.«zip.__next__» ⟨[.ref z],[]⟩) (λfin l=>∃ v,fin = .done (.ret v)/\Q v l) E s:=by
 have free:wpAny (model g w) A (Builtin.SmallTypes.ownedTupleIsFree (.ref z)) (λx l=>x=true/\l=s) E s:=aA (cK J rfl (x:=.none) rfl (aB ⟨rfl,rfl⟩));have back:∀ {i:Type} {m:Sem i} {R:i->Ae->Prop} {l:Ae},wpAny (model g w) A m R (zG z TI TO E) l->wpAny (model g w) A (m.onRaise λ_=>setField (.ref z) 0 .none) R E l:=λ{i m R l} h =>
  wpAny_onRaise (cN h (λ_ _ z=>z) λe Y ⟨d,K⟩=>gH d (by simp) λr _ O=>K r O)
 unfold Builtin.«zip.__next__»;refine aA (aB (aA (cK J rfl (x:=.bool false) rfl (aA (cK J rfl (x:=.ref TI) rfl (aA (dF aa rfl ?_)))))));refine aA (hL free ?_);rintro _ l ⟨rfl,rfl⟩;simp only[eF];refine aA (eK (aA (cK J rfl (x:=.ref TO) rfl (aA (gH J (by simp) λC P d=>?_)))));simp only[List.zipIdx_cons,List.zipIdx_nil,jI,List.forIn_nil,bind_assoc];refine aA (back (aA (hL (go C P d) λx T ⟨B,g2⟩=>aB ?_)));refine aA (aA (dF B rfl (aA (wpAny_updateSeq_pair B λI N L=>aA (wpAny_letGo (aB ?_))))));refine aA (aA (back (aA (hL (g2 I N L) λy U ⟨D,H⟩=>aB ?_))));refine aA (aA (dF D rfl (aA (wpAny_updateSeq_pair D λj F M=>aA (wpAny_letGo (aB (aB ?_)))))));obtain⟨G,fin⟩:=H j F M;have f:z<j.objs.size:=aQ G;refine aA (dF F rfl (aA (wpAny_newTuple ?_ (hsz:=(show 2<=sizeLine by decide)))));have S:IsZip (j.push (seqObj "tuple" #[x,y] 0)) z TI TO .ellipsis:=aF _ G;refine aA (show wpAny _ _ (setField (.ref z) 0 (rawInt j.objs.size) >>= λ_=>setField (.ref z) 1 (.bool false)) _ _ _ from aA (gH S (by simp) λX V t=>gH V (by simp) λk W u=>?_));have up:∀ c o,c≠z->(j.push (seqObj "tuple" #[x,y] 0)).get? c=some o->k.get? c=some o:=λc o n e=>u.extBut _ _ n (t.extBut _ _ n e)
 refine aB ⟨_,rfl,fin k W (up _ _ (Nat.ne_of_gt f) (aU _ rfl)) (by rw[u.1,t.1,cU]) λc o n e=>up c o n (aF _ e)⟩
theorem nY {h j:Ag}(x:h.IsTupleIter g t i) (k:∀ o,h.get? g=some o->j.get? g=some o):j.IsTupleIter g t i:=let ⟨o,e,r⟩:=x;⟨o,k o e,r⟩
theorem Uk {TI TO:Ad}(D:ZipApart z TI TO j l T U) (hz:IsZip s.heap z TI TO .none) (r:IsPair s.heap TI (.ref j) (.ref l)) (C:IsPair s.heap TO a b)
  (h1:s.heap.IsTupleIter j T k1) (h2:s.heap.IsTupleIter l U k2) (I:s.heap.IsTuple T xs) (J:s.heap.IsTuple U ys) (hx:xs[k1]?=some x) (hy:ys[k2]?=some y)
  (aa:∀ g,IsZip g z TI TO (rawInt s.heap.objs.size)->IsPair g TO x y->g.IsTupleIter j T (k1+1)->g.IsTupleIter l U (k2+1)->IsPair g s.heap.objs.size x y->g.objs.size=s.heap.objs.size+1 ->(∀ c o,c≠z->c≠TO->c≠j->c≠l->s.heap.get? c=some o->g.get? c=some o)->Q (some (.ref s.heap.objs.size)) { s with heap:=g }):wpAny (model ab w) A (pyNext (.ref z)) Q E s:=by
 have ty:s.TypeIs (.ref z) "zip" := ⟨_,hz,rfl⟩;unfold pyNext;refine aA (eG (bK (name:=Str.ofString "__next__") ty eM (bU eM ty iZ (Je (p:=a) (q:=b) hz r λg1 Y f=>?_) (iR _))));have d:∀ c o,c≠z->s.heap.get? c=some o->g1.get? c=some o:=λc o n e=>f.extBut _ _ n e
 refine wM (nY h1 λo e=>d _ o D.i1z e) (nC I λo e=>d _ o D.l1z e) hx λg2 S h=>?_
 have i:∀ c o,c≠j->g1.get? c=some o->g2.get? c=some o:=λc o n e=>h.extBut _ _ n e
 refine⟨i _ _ D.TOi1 (d _ _ D.TOz C),λg3 W H=>?_⟩;have k:∀ c o,c≠TO->g2.get? c=some o->g3.get? c=some o:=λc o n e=>H.extBut _ _ n e
 refine wM (nY h2 λo e=>k _ o D.TOi2.symm (i _ o D.i12.symm (d _ o D.i2z e))) (nC J λo e=>k _ o D.l2TO (i _ o D.l2i1 (d _ o D.l2z e))) hy λF V K=>?_
 have t:∀ c o,c≠l->g3.get? c=some o->F.get? c=some o:=λc o n e=>K.extBut _ _ n e
 refine⟨t _ _ D.TOi2 W,λG X L=>?_⟩;have u:∀ c o,c≠TO->F.get? c=some o->G.get? c=some o:=λc o n e=>L.extBut _ _ n e
 have sz:G.objs.size=s.heap.objs.size:=by rw[L.1,K.1,H.1,h.1,f.1]
 refine⟨u _ _ D.TOz.symm (t _ _ D.i2z.symm (k _ _ D.TOz.symm (i _ _ D.i1z.symm Y))),λg M N O m=>?_⟩;rw[sz] at M N O |-;refine aB (aa g M (m _ _ D.TOz X) (nY S λo e=>m _ o D.i1z (u _ o D.TOi1.symm (t _ o D.i12 (k _ o D.TOi1.symm e)))) (nY V λo e=>m _ o D.i2z (u _ o D.TOi2.symm e)) N O λc o v B P R e=>?_);exact m c o v (u c o B (t c o R (k c o B (i c o P (d c o v e)))))
theorem Sj {TI TO:Ad}(calm:A.handled=none) (D:ZipApart z TI TO r J l1 l2) (hz:IsZip s.heap z TI TO .none) (U:IsPair s.heap TI (.ref r) (.ref J)) (aa:IsPair s.heap TO a b)
  (h1:s.heap.IsTupleIter r l1 k1) (h2:s.heap.IsTupleIter J l2 k2) (l:s.heap.IsTuple l1 xs) (ab:s.heap.IsTuple l2 ys) (j:xs[k1]?=none\/ys[k2]?=none)
  (ac:∀ I,(∀ c o,c≠z->c≠TO->c≠r->c≠J->s.heap.get? c=some o->I.get? c=some o)->Q none { s with heap:=I }):wpAny (model C w) A (pyNext (.ref z)) Q E s:=by
 have ty:s.TypeIs (.ref z) "zip" := ⟨_,hz,rfl⟩;have f:∀ (g:Ag) (e:Ad),(∀ c o,c≠z->c≠TO->c≠r->c≠J->s.heap.get? c=some o->g.get? c=some o)->(∃ o,g.get? e=some o/\o.cls = .type "StopIteration")->IsZip g z TI TO .ellipsis ->
   zG z TI TO (λe W=>wpAny (model C w) A (do if <- isInstance e (.type "StopIteration") then pure none else throw e) Q E W) (.ref e) { s with heap:=g }:=λg e k ⟨o,H,M⟩ P=>by
  refine⟨P,λI N=>?_⟩;have ne:e≠z:=λq=>by
   rw[q,P] at H;cases H;injection M with y;exact absurd y (by decide)
  exact aA (eU (T := "StopIteration") (b:=true) ⟨o,N.extBut _ _ ne H,M⟩ isSubtype_stop (aB (ac I λc o h v i B q=>N.extBut _ _ h (k c o h v i B q))))
 unfold pyNext;refine aA (eG (bK (name:=Str.ofString "__next__") ty eM (bU eM ty iZ (Je (p:=a) (q:=b) hz U λg1 O F=>?_) (iR _))));have d:∀ c o,c≠z->s.heap.get? c=some o->g1.get? c=some o:=λc o n e=>F.extBut _ _ n e
 rcases Option.eq_none_or_eq_some xs[k1]? with m | ⟨x,m⟩
 .exact Ba calm (nY h1 λo e=>d _ o D.i1z e) (nC l λo e=>d _ o D.l1z e) m λg2 e K X=>f g2 e (λc o h _ i _ q=>K c o i (d c o h q)) X (K _ _ D.i1z.symm O)
 .refine wM (nY h1 λo e=>d _ o D.i1z e) (nC l λo e=>d _ o D.l1z e) m λg2 Z G=>?_
  have t:∀ c o,c≠r->g1.get? c=some o->g2.get? c=some o:=λc o n e=>G.extBut _ _ n e
  refine⟨t _ _ D.TOi1 (d _ _ D.TOz aa),λg3 o3 V=>?_⟩;have u:∀ c o,c≠TO->g2.get? c=some o->g3.get? c=some o:=λc o n e=>V.extBut _ _ n e
  have R:ys[k2]?=none:=j.elim (λn=>by rw[n] at m;cases m) id;exact Ba calm (nY h2 λo e=>u _ o D.TOi2.symm (t _ o D.i12.symm (d _ o D.i2z e))) (nC ab λo e=>u _ o D.l2TO (t _ o D.l2i1 (d _ o D.l2z e))) R λS e L Y=>f S e (λc o h v i B q=>L c o B (u c o v (t c o i (d c o h q)))) Y (L _ _ D.i2z.symm (u _ _ D.TOz.symm (t _ _ D.i1z.symm O)))
end
section
theorem Nj {z TI TO T j l r C:Ad}{I J:Nat}{f:Bool}{oT:Obj}{xs ys:Array Ac}{x y:Ac}{Q:Ac->Ae->Prop}(D:ZipApart z TI TO j l r C)
  (hz:tD s.heap z TI TO T f) (hT:s.heap.get? T=some oT) (U:IsPair s.heap TI (.ref j) (.ref l))
  (h1:s.heap.IsTupleIter j r I) (h2:s.heap.IsTupleIter l C J) (aa:s.heap.IsTuple r xs) (ab:s.heap.IsTuple C ys) (hx:xs[I]?=some x) (hy:ys[J]?=some y)
  (hQ:∀ g,tD g z TI TO T true->g.IsTupleIter j r (I+1)->g.IsTupleIter l C (J+1)->IsPair g s.heap.objs.size x y->g.objs.size=s.heap.objs.size+1 ->(∀ c o,c≠z->c≠j->c≠l->s.heap.get? c=some o->g.get? c=some o)->Q (.ref s.heap.objs.size) { s with heap:=g }) :
  wpAny (model ac w) A (Builtin.«zip.__next__» ⟨[.ref z],[]⟩) (λfin s'=>∃ v,fin = .done (.ret v)/\Q v s') E s:=by
 refine Fo hz hT U λd K m=>?_
 have up1:∀ c o,c≠z->s.heap.get? c=some o->d.get? c=some o:=λc o n e=>m.extBut _ _ n e
 have there:d.IsTupleIter j r I/\d.IsTupleIter l C J/\d.IsTuple r xs/\d.IsTuple C ys:=⟨nY h1 λo e=>up1 _ o D.i1z e,nY h2 λo e=>up1 _ o D.i2z e,nC aa λo e=>up1 _ o D.l1z e,nC ab λo e=>up1 _ o D.l2z e⟩;refine wM there.1 there.2.2.1 hx λk G q=>?_
 have a:∀ c o,c≠j->d.get? c=some o->k.get? c=some o:=λc o n e=>q.extBut _ _ n e
 refine wM (nY there.2.1 λo e=>a _ o D.i12.symm e) (nC there.2.2.2 λo e=>a _ o D.l2i1 e) hy λh H t=>?_
 have b:∀ c o,c≠l->k.get? c=some o->h.get? c=some o:=λc o n e=>t.extBut _ _ n e
 have i:h.objs.size=s.heap.objs.size:=t.1.trans (q.1.trans m.1);have more:∀ {c:Ad} {o p:Obj},h.get? c=some o->(h.push p).get? c=some o:=λe=>aF _ e
 refine wpAny_newTuple ⟨_,rfl,?_⟩ (hsz:=(show 2<=sizeLine by decide));have last:=hQ (h.push (seqObj "tuple" #[x,y] 0)) (more (b _ _ D.i2z.symm (a _ _ D.i1z.symm K))) (nY G λo e=>more (b _ o D.i12 e)) (nY H λo e=>more e) (i▸aU _ rfl) ((cU ..).trans (by rw[i]))
  λc o u B F e=>more (b _ _ F (a _ _ B (up1 _ _ u e)))
 rw[<- i] at last;exact last
theorem O4 {TI TO:Ad}(hh:A.handled=none) (D:ZipApart z TI TO j J l l2)
  (hz:tD s.heap z TI TO T f) (hT:s.heap.get? T=some oT) (r:IsPair s.heap TI (.ref j) (.ref J))
  (h1:s.heap.IsTupleIter j l U) (h2:s.heap.IsTupleIter J l2 k2) (C:s.heap.IsTuple l xs) (I:s.heap.IsTuple l2 ys) (g:xs[U]?=none\/ys[k2]?=none)
  (hE:∀ p e,(∀ c o,c≠z->c≠j->c≠J->s.heap.get? c=some o->p.get? c=some o)->(∃ o,p.get? e=some o/\o.cls = .type "StopIteration")->E (.ref e) { s with heap:=p }) :
  wpAny (model aa w) A (Builtin.«zip.__next__» ⟨[.ref z],[]⟩) Q E s:=by
 refine Fo hz hT r λi M F=>?_
 have up1:∀ c o,c≠z->s.heap.get? c=some o->i.get? c=some o:=λc o n e=>F.extBut _ _ n e
 have there:i.IsTupleIter j l U/\i.IsTuple l xs:=⟨nY h1 λo e=>up1 _ o D.i1z e,nC C λo e=>up1 _ o D.l1z e⟩;rcases Option.eq_none_or_eq_some xs[U]? with b | ⟨x,b⟩
 .exact Ba hh there.1 there.2 b λk e t H=>hE k e (λc o d h _ q=>t c o h (up1 c o d q)) H
 .refine wM there.1 there.2 b λk L G=>?_
  have a:∀ c o,c≠z->c≠j->s.heap.get? c=some o->k.get? c=some o:=λc o n m e=>G.extBut _ _ m (up1 c o n e)
  have y:ys[k2]?=none:=g.elim (λn=>by rw[n] at b;cases b) id;exact Ba hh (nY h2 λo e=>a _ o D.i2z D.i12.symm e) (nC I λo e=>a _ o D.l2z D.l2i1 e) y λB e u K=>hE B e (λc o d h v q=>u c o v (a c o d h q)) K
theorem Vn {TI TO:Ad}(D:ZipApart z TI TO r C U l2)
  (j:yR s.heap z TI TO r C) (I:s.heap.IsTupleIter r U k) (J:s.heap.IsTupleIter C l2 k) (l:s.heap.IsTuple U xs) (p:s.heap.IsTuple l2 ys) (hx:xs[k]?=some x) (hy:ys[k]?=some y)
  (hQ:∀ g,yR g z TI TO r C->g.IsTupleIter r U (k+1)->g.IsTupleIter C l2 (k+1)->IsPair g s.heap.objs.size x y->g.objs.size=s.heap.objs.size+1 ->(∀ c o,c≠z->c≠TO->c≠r->c≠C->s.heap.get? c=some o->g.get? c=some o)->Q (some (.ref s.heap.objs.size)) { s with heap:=g }) :
  wpAny (model aa w) A (pyNext (.ref z)) Q E s:=by
 obtain⟨d,⟨a,b,i⟩,j⟩:=j;obtain⟨V,P,_⟩:=id I;obtain⟨W,R,_⟩:=id J;have q:∀ {c o},s.heap.get? c=some o->s.heap.objs.size≠c:=λe=>(bH (aQ e)).symm
 rcases j with j | ⟨T,f,o,j,F,G,S,H,K⟩
 .refine Uk D j d i I J l p hx hy λg t L u v n B h=>?_
  exact hQ g ⟨h _ _ D.TIz D.TITO D.TIi1 D.TIi2 d,⟨_,_,L⟩,.inr ⟨_,false,_,t,n,q j,q i,q P,q R⟩⟩ u v n B h
 .have m:s.TypeIs (.ref z) "zip" := ⟨_,j,rfl⟩;unfold pyNext;refine aA (eG (bK (name:=Str.ofString "__next__") m eM (bU eM m iZ (Nj D j F d I J l p hx hy λg t u v n B h=>aB ?_) (iR _))));exact hQ g ⟨h _ _ D.TIz D.TIi1 D.TIi2 d,⟨_,_,h _ _ D.TOz D.TOi1 D.TOi2 i⟩,.inr ⟨T,true,_,t,h _ _ G H K F,G,S,H,K⟩⟩ u v n B λc o M _ N O e=>h c o M N O e
theorem Zb {TI TO:Ad}(hh:A.handled=none) (D:ZipApart z TI TO C I l1 l2)
  (j:yR s.heap z TI TO C I) (J:s.heap.IsTupleIter C l1 k) (U:s.heap.IsTupleIter I l2 k) (l:s.heap.IsTuple l1 xs) (p:s.heap.IsTuple l2 ys) (g:xs[k]?=none\/ys[k]?=none)
  (hQ:∀ r,(∀ c o,c≠z->c≠TO->c≠C->c≠I->s.heap.get? c=some o->r.get? c=some o)->Q none { s with heap:=r }):wpAny (model aa w) A (pyNext (.ref z)) Q E s:=by
 obtain⟨d,⟨a,b,i⟩,j⟩:=j;rcases j with j | ⟨T,f,o,j,t,B,F,G,H⟩
 .exact Sj hh D j d i J U l p g hQ
 .have h:s.TypeIs (.ref z) "zip" := ⟨_,j,rfl⟩;unfold pyNext;refine aA (eG (bK (name:=Str.ofString "__next__") h eM (bU eM h iZ (O4 hh D j t d J U l p g λr e x v=>?_) (iR _))));obtain⟨o,y,u⟩:=v;refine aA (eU (T := "StopIteration") (b:=true) ⟨o,y,u⟩ isSubtype_stop ?_);exact aB (hQ _ λc o m _ n q e=>x c o m n q e)
end
section
variable {K:Type} [DecidableEq K] {knd:KeyKind prog w K}{A:Around}{R:Result->Ae->Prop}
theorem Yg {TI TO:Ad}(hh:A.handled=none) (D:ZipApart z TI TO l p r C) (hd:d∉[z,TI,TO,l,p,r,C]) (more:Aa (K×Ac)) (hn:more.length=min I.size J.size) (j:more.length<=sizeLine)
  (hT:∀ (i:Nat) x y,I[i]?=some x->J[i]?=some y->∃ k,knd.is k x=true/\more[i]?=some (k,y)) (h0:Ag) :
  ∀ (m i:Nat) (s:Ae),more.length-i=m->i<=more.length->yR s.heap z TI TO l p->s.heap.IsTupleIter l r i->s.heap.IsTupleIter p C i->s.heap.IsTuple r I->s.heap.IsTuple C J->(∀ b o,b∉[z,TO,l,p,d]->h0.get? b=some o->s.heap.get? b=some o)->s.heap.DictOf knd d (merged [] (more.take i)) ->
   (∀ g tk,(∀ b o,b∉[z,TO,l,p,d]->h0.get? b=some o->g.get? b=some o)->g.DictOf knd d (merged [] more)->R (.ok (.ret .none)) { s with heap:=g,toks:=tk }) ->
   codeAny (model prog w) A (.builtin "dict.update.loop" ⟨[.ref d,.ref z,.int (i:Int) 0,.none],[]⟩) R s:=by
 simp only[aJ,bZ,iQ,not_or] at hd;obtain⟨d1,d2,d3,W,X,d6,d7⟩:=hd;have na:∀ {b:Ad},b∉[z,TO,l,p,d]->b≠z/\b≠TO/\b≠l/\b≠p/\b≠d:=λj=>by
  simpa only [aJ,bZ,iQ,not_or] using j
 intro m;induction m with
 | zero =>
  intro i s hm hi hz U h2 c h kp H hR;have ei:i=more.length:=by omega
  subst ei;rw[bN (aP _)] at H;refine jH zD ?_;rw[gQ sZ _];show wpAny _ A.in1 (pyNext (.ref z) >>= _) _ _ s;refine aA (Zb (by simpa using hh) D hz U h2 c h ?_ λg B=>?_)
  .rcases Nat.le_total I.size J.size with q | q
   .exact .inl (dY (by omega))
   .exact .inr (dY (by omega))
  .show wpAny _ A.in1 (Builtin.Dict.addKeywords d [] >>= _) _ _ _;refine aA (aB ?_);obtain⟨o,F,E,u,rest⟩:=H;exact aB (hR g _ (λb o j e=>let ⟨P,Q,S,V,b5⟩:=na j;B b o P Q S V (kp b o j e)) ⟨o,F,E,B d _ d1 d3 W X u,rest⟩)
 | succ m ih =>
  intro i s hm hi hz U h2 c h kp H hR;have ab:i<more.length:=by omega
  obtain⟨x,hx⟩:∃ x,I[i]?=some x:=⟨_,cH (by omega)⟩;obtain⟨y,hy⟩:∃ y,J[i]?=some y:=⟨_,cH (by omega)⟩;obtain⟨ky,N,t⟩:=hT i x y hx hy;refine jH zD ?_;rw[gQ sZ _];show wpAny _ A.in1 (pyNext (.ref z) >>= _) _ _ s;refine aA (Vn D hz U h2 c h hx hy λg z' ac ae pr sz B=>?_);have aa:g.DictOf knd d (merged [] (more.take i)):=by
   obtain⟨o,F,E,u,rest⟩:=H;exact⟨o,F,E,B d _ d1 d3 W X u,rest⟩
  have af:g.IsTuple r I:=nC c λo e=>B r o D.l1z D.l1TO D.l1i1 D.l1i2 e
  have ag:g.IsTuple C J:=nC h λo e=>B C o D.l2z D.l2TO D.l2i1 D.l2i2 e
  have pd:s.heap.objs.size≠d:=by
   obtain⟨o,F,E,u,rest⟩:=H;exact (bH (aQ u)).symm
  show wpAny _ A.in1 (holding [Value.ref s.heap.objs.size] _ >>= _) _ _ _;refine aA (bF ?_);refine aA (wpAny_tryCatch ?_);unfold Builtin.Dict.pairItems;refine aA (eO (T := "tuple") ⟨_,pr,rfl⟩ ?_);rw[aH (by decide)];refine aA (dF pr rfl ?_);refine aB ?_;show wpAny _ A.in1 (holding [x,y] (dictSet d x y)) _ _ _;refine bF ?_;have v:(merged [] (more.take i)).length<=sizeLine:=by
   have Y:=merged_length_le ([]:Aa (K×Ac)) (more.take i);rw[fF,bY] at Y;omega
  refine wpAny_dictSet_pairs (hsz:=v) N aa λG n sb=>?_
  rw[<- merged_take_succ [] more i (ky,y) t] at n;refine aB ⟨jX sZ _,?_⟩;have Y:(rawInt ((i:Int)+1))=Value.int ((i+1:Nat):Int) 0:=by rfl
  rw[Y];have up:∀ b o,b≠d->g.get? b=some o->G.get? b=some o:=λb o j e=>by rw[sb.2 b j];exact e
  have zz:yR G z TI TO l p:=by
   obtain⟨p1,⟨a,b,p2⟩,p3⟩:=z';refine⟨up _ _ (dH d2) p1,⟨a,b,up _ _ (dH d3) p2⟩,?_⟩;rcases p3 with p3 | ⟨T,f,o,q1,q2,q3,q4,q5,q6⟩
   .exact .inl (up _ _ (dH d1) p3)
   .by_cases M:T=d
    .subst M;obtain⟨o',F,E,u,rest⟩:=n;exact .inr ⟨T,f,_,up _ _ (dH d1) q1,u,q3,q4,q5,q6⟩
    .exact .inr ⟨T,f,o,up _ _ (dH d1) q1,up _ _ M q2,q3,q4,q5,q6⟩
  refine ih (i+1) _ (by omega) ab zz (nY ac λo e=>up _ o (dH W) e) (nY ae λo e=>up _ o (dH X) e) (nC af λo e=>up _ o (dH d6) e) (nC ag λo e=>up _ o (dH d7) e) (λb o j e=>?_) n λZ tk O L=>hR Z tk O L
  obtain⟨P,Q,S,V,b5⟩:=na j;exact up b o b5 (B b o P Q S V (kp b o j e))
theorem T9 {TI TO:Ad}(hh:A.handled=none) (D:ZipApart z TI TO U i2 l1 l2)
  (T:IsZip s.heap z TI TO .none) (l:IsPair s.heap TI (.ref U) (.ref i2)) (C:IsPair s.heap TO .none .none) (h1:s.heap.IsTupleIter U l1 0) (h2:s.heap.IsTupleIter i2 l2 0) (I:s.heap.IsTuple l1 xs) (J:s.heap.IsTuple l2 ys)
  (hn:more.length=min xs.size ys.size) (g:more.length<=sizeLine) (hT:∀ (i:Nat) x y,xs[i]?=some x->ys[i]?=some y->∃ k,knd.is k x=true/\more[i]?=some (k,y))
  (h:∀ (j:Ag) (tk:Nat),j.DictOf knd s.heap.objs.size (merged [] more)->(∀ b o,b∉[z,TO,U,i2]->s.heap.get? b=some o->j.get? b=some o)->Q (.ref s.heap.objs.size) { s with heap:=j,toks:=tk }) :
  wpAny (model prog w) A (call (.type "dict") [.ref z]) Q E s:=by
 let d:=s.heap.objs.size;have made:(uP s).heap.DictOf knd d []:=Heap.DictOf.new s.heap;have old:∀ b o,s.heap.get? b=some o->(uP s).heap.get? b=some o:=λb o e=>aF _ e
 refine callType_codes F.kt_called_dict (F.kt_typeCall_dict_1 _) F.entry_dict_init (kt_code_dict_new _ (Q₁:=λv n=>v = .ref d/\n=uP s) ⟨rfl,rfl⟩) λv n q=>?_
 obtain⟨rfl,rfl⟩:=q;refine⟨made.typeIs,F.args_dict_init_2 _ _,Sn made.typeIs (old _ _ T) (by simp[hh]) λc tk e x=>⟨jX sZ _,?_⟩⟩;have keeps:∀ b o,s.heap.get? b=some o->c.get? b=some o:=λb o e=>x.keeps _ _ (old b o e)
 obtain⟨N,G,_⟩:=id h1;obtain⟨O,H,_⟩:=id h2;obtain⟨P,L,_⟩:=id I;obtain⟨S,M,_⟩:=id J;have a:∀ {b o},s.heap.get? b=some o->d≠b:=λe=>(bH (aQ e)).symm
 have f:c.DictOf knd d []:=by
  obtain⟨o,u,t,p,r⟩:=made;exact⟨o,u,t,x.keeps _ _ p,r⟩
 refine Yg (knd:=knd) (by simp[hh]) D ?_ more hn g hT s.heap more.length 0 _ rfl (dN _) ⟨keeps _ _ l,⟨_,_,keeps _ _ C⟩,.inl (keeps _ _ T)⟩ (nY h1 λo e=>keeps _ o e) (nY h2 λo e=>keeps _ o e) (nC I λo e=>keeps _ o e) (nC J λo e=>keeps _ o e) (λb o _ e=>keeps b o e) (by simpa [merged] using f) λj m B fin=>?_
 .simp only[aJ,bZ,iQ,not_or];exact⟨a T,a l,a C,a G,a H,a L,a M⟩
 .refine⟨rfl,h j m fin λb o g e=>B b o (λq=>?_) e⟩;simp only[aJ,bZ,iQ,not_or] at g q;rcases q with q | q | q | q | q
  .exact g.1 q
  .exact g.2.1 q
  .exact g.2.2.1 q
  .exact g.2.2.2 q
  .exact a e q.symm
end
structure ZipMade (h h':Heap) (s t:Addr):Prop where
 z:IsZip h' (h.objs.size+4) (h.objs.size+2) (h.objs.size+3) .none
 ti:IsPair h' (h.objs.size+2) (.ref h.objs.size) (.ref (h.objs.size+1))
 to:IsPair h' (h.objs.size+3) .none .none
 i1:h'.IsTupleIter h.objs.size s 0
 i2:h'.IsTupleIter (h.objs.size+1) t 0
 sz:h'.objs.size=h.objs.size+5
 kp:∀ c o,h.get? c=some o->h'.get? c=some o
def pB (t:Ad):Obj:={ cls:=.type "tuple_iterator",data:=.fields #[.ref t,.int 0 0] }
def El (a b:Ac):Obj:={ cls:=.type "tuple",data:=.seq #[a,b] }
def Tu (a b:Ad):Obj:={ cls:=.type "zip",data:=.fields #[.none,.bool false,.bool false,.ref a,.ref b] }
def Dz (h:Ag) (s t:Ad):Ag:=((((h.push (pB s)).push (pB t)).push (El (.ref h.objs.size) (.ref (h.push (pB s)).objs.size))).push (El .none .none)).push (Tu ((h.push (pB s)).push (pB t)).objs.size (((h.push (pB s)).push (pB t)).push (El (.ref h.objs.size) (.ref (h.push (pB s)).objs.size))).objs.size)
theorem X2 (h:Ag) (s t:Ad):ZipMade h (Dz h s t) s t:=by
 have d:(h.push (pB s)).objs.size=h.objs.size+1:=cU ..;have i:((h.push (pB s)).push (pB t)).objs.size=h.objs.size+2:=by rw[cU,d]
 have k:∀ p,(((h.push (pB s)).push (pB t)).push p).objs.size=h.objs.size+3:=λp=>by rw[cU,i]
 have m:∀ p q,((((h.push (pB s)).push (pB t)).push p).push q).objs.size=h.objs.size+4:=λp q=>by rw[cU,k]
 have b:∀ (g:Ag) (o:Obj) (n:Nat),o.isFreed=false->g.objs.size=n->(g.push o).get? n=some o:=λg o n f e=>by rw[<- e];exact aU _ f
 have a:∀ {g:Ag} {o p:Obj} {c:Ad},g.get? c=some o->(g.push p).get? c=some o:=λe=>aF _ e
 unfold Dz;rw[d,i,k];exact {
  z:=b _ _ _ rfl (m _ _)
  ti:=a (a (b _ _ _ rfl i))
  to:=a (b _ _ _ rfl (k _))
  i1:=⟨_,a (a (a (a (aU _ rfl)))),rfl,rfl⟩
  i2:=⟨_,a (a (a (b _ _ _ rfl d))),rfl,rfl⟩
  sz:=by rw[cU,m]
  kp:=λc o e=>a (a (a (a (a e)))) }
theorem Si (l m:Ad) (p r:Array Ac):Meets (Builtin.«zip.__new__» ⟨[.type "zip",.ref l,.ref m],[]⟩) (λ_ R s=>s.heap.IsTuple l p/\s.heap.IsTuple m r /\ ∀ j,j=Dz s.heap l m->∀ n,n=s.heap.objs.size+4->R (.ok (.ret (.ref n))) { s with heap:=j }) :=
 .of_wp λf w A R s h=>by
  obtain⟨c,g,d,i,os⟩:=s;obtain⟨k,q,h⟩:=h;have under:=sub_zip;have a:Heap.IsTuple (Shared.heap ⟨c,g,d,i,os⟩) l p:=k;have b:Heap.IsTuple (Shared.heap ⟨c.push { cls:=.type "tuple_iterator",data:=.fields #[.ref l,.int 0 0] },g,d,i,os⟩) m r:=nC q λo e=>aF _ e
  wp_walk using gG a,gG b
  refine⟨_,rfl,h _ rfl _ ?_⟩;rw[cU,cU,cU,cU]
section
theorem Y7 (p:s.heap.IsTuple l C) (r:s.heap.IsTuple m I)
  (q:∀ g,IsZip g (s.heap.objs.size+4) (s.heap.objs.size+2) (s.heap.objs.size+3) .none->IsPair g (s.heap.objs.size+2) (.ref s.heap.objs.size) (.ref (s.heap.objs.size+1))->IsPair g (s.heap.objs.size+3) .none .none ->g.IsTupleIter s.heap.objs.size l 0->g.IsTupleIter (s.heap.objs.size+1) m 0->g.objs.size=s.heap.objs.size+5->(∀ c o,s.heap.get? c=some o->g.get? c=some o)->Q (.ref (s.heap.objs.size+4)) { s with heap:=g }) :
  wpAny (model j w) A (call (.type "zip") [.ref l,.ref m]) Q E s:=by
 refine callType_new F.called_zip (by decide) (F.typeCall_zip_2 _ _) (F.newCall_zip_2 _ _) (λobj=>F.args_object_init_3 obj _ _) F.entry_zip_new (Si l m C I) ⟨p,r,λg e n a=>?_⟩;subst e a;have M:=X2 s.heap l m;exact⟨⟨_,M.z,rfl⟩,q _ M.z M.ti M.to M.i1 M.i2 M.sz M.kp⟩
end
end PySem
namespace L2
open PySem PySem.Spec PyProof.Rows Lw
section
variable {X:Cx}
def Oi (K:kC) (g:TA):TE:=λf H Q=>g f H λe a=>∃ (l m:Ad) (b:Aa gV) (c:Aa V),e=[.ref l,.ref m]/\kO K a l (b.map kV)/\kO K a m c/\b.length<=1000/\∀ d,a d=none->Q (.ref d) (upd a d (.k (nX [] (b.zip c))))
theorem Ox (j:X.calm=true) (hg:Gl X "dict") (hm:X.mg "dict" = none) (r:Gl X "zip") (C:X.mg "zip" = none) (ha:PA X [a,b] ta)
  (hs:starEach [a,b] X.env=(false,eval a X.env)::starEach [b] X.env:=by rfl) (J:(backTo g (starEach [b] X.env)).any (·.1)=false:=by rfl) :
  PE X (.Call (.Name "dict" p) [.Call (.Name "zip" p') [a,b] [] g] [] pos) (Oi X.K ta):=by
 intro B s σ H Q I h;refine gF (uX I hg hm boot_dict ?_ (by decide) (by decide));refine dP ?_ rfl rfl;show wpAny _ _ (spliced ((false,eval (.Call (.Name "zip" p') [a,b] [] g) X.env)::backTo pos (starEach [] X.env))) _ _ s;refine gE ?_;refine gF (uX I r C boot_zip ?_ (by decide) (by decide));refine dP (hL (ha g B s σ H _ I h) λus d N=>?_) hs J;obtain⟨xs,H1,z,S,q1⟩:=N;obtain⟨l,m,f,F,rfl,hl,hv,hn,q⟩:=q1;obtain⟨Z,T,rfl,W,Y⟩:∃ Z T,us=[Z,T]/\kD (.ref l) Z/\kD (.ref m) T:=by
  cases S with | cons S V=>cases V with | cons V r3=>cases r3;exact⟨_,_,rfl,S,V⟩
 cases W;cases Y;obtain⟨n,r',R,_⟩:=z.tuple hl;obtain⟨c,D,v,_⟩:=z.tuple hv;refine Y7 (show d.heap.IsTuple l n.toArray from R) (show d.heap.IsTuple m c.toArray from v) λE z1 z2 z3 z4 z5 z6 U=>?_
 refine iM ?_;have L1:=r'.length;have L2:=D.length;rw[aD] at L1;have G:=Kr f D;have O:l<d.heap.objs.size:=by obtain⟨_,e,_⟩:=(show d.heap.IsTuple l n.toArray from R);exact aQ e
 have P:m<d.heap.objs.size:=by obtain⟨_,e,_⟩:=(show d.heap.IsTuple m c.toArray from v);exact aQ e
 refine T9 (knd:=kZ X.prog X.w) (more:=f.zip c) (s:={ d with heap:=E }) (z.ok.hd j) (zipApart_new O P) z1 z2 z3 z4 z5 (nC (show d.heap.IsTuple l n.toArray from R) λo e=>U _ o e) (nC (show d.heap.IsTuple m c.toArray from v) λo e=>U _ o e) ?_ ?_ ?_ λh2 tk hD hk=>?_
 .rw[kB,aK,aK];omega
 .rw[kB];exact fK (cJ (show min f.length c.length<=1000 by omega) (by decide))
 .intro i x y A L;have A:n[i]?=some x:=by simpa using A
  have L:c[i]?=some y:=by simpa using L
  obtain⟨hi,_⟩:=aG.mp A;obtain⟨u,hu,ru⟩:=r'.get (i:=i) (x:=kV (f[i]'(by omega))) (by simp[show i<f.length by omega]);rw[hu] at A;cases A;refine⟨f[i]'(by omega),rP ru,?_⟩;rw[List.getElem?_zip_eq_some];exact⟨aL _,L⟩
 .have M:(nX [] (f.zip F)).length<=sizeLine:=by
   have h1:=zL (f.zip F) [];rw[fF,kB] at h1;exact fK (cJ (show (nX [] (f.zip F)).length<=1000 by omega) (by decide))
  have t:d.heap.objs.size<=E.objs.size:=by omega
  have kp:∀ b o,d.heap.get? b=some o->h2.get? b=some o:=λb o e=>hk b o (λq=>by
   have:=aQ e;simp only[aJ,bZ,iQ] at q;rcases q with q | q | q | q<;>rw[q] at this<;>first | exact absurd this (eQ _) | exact absurd this (Nat.not_lt.mpr (jY _ _))) (U b o e)
  refine⟨.ref E.objs.size,_,z.laid (a:=E.objs.size) (o:=.k (nX [] (f.zip F))) (t':=tk) kp t ?_,rfl,q _ (z.hok.fresh t)⟩;exact xL M (cF.mpr (dH (bH (aY z.big t)))) (G.merge .nil) hD
end
section
variable {X:Cx}{K:kC}
def Ll:OC:=λb e=>match b with
 | [.t c,.t d]=>∃ a,uU c=some a/\a.length<=1000/\e (.o (.k (pL [] (a.zip d))))
 | _=>False
theorem M9:oU K (λo H Q=>∃ (l m:Ad) (g:Aa gV) (j:Aa V),o=[.ref l,.ref m]/\kO K H l (g.map kV)/\kO K H m j/\g.length<=1000/\∀ d,H d=none->Q (.ref d) (upd H d (.k (nX [] (g.zip j))))) Ll:=by
 intro B L H f o F Q hd h c k;cases f with
 | nil=>exact False.elim c
 | cons d f =>
 cases d<;>first | exact False.elim c | skip
 cases f with
 | nil=>exact False.elim c
 | cons e f =>
 cases e<;>first | exact False.elim c | skip
 cases f with
 | cons _ _=>exact False.elim c
 | nil =>
 .obtain⟨x,y,rfl,t,py⟩:=yP h;obtain⟨g,q,s,c⟩:=c;obtain⟨a,E,rfl,i,w⟩:=t.tup_inv;obtain⟨b,j,rfl,n,z⟩:=py.tup_inv;have e:=Vy q w;subst e;obtain⟨A,D⟩:=Lh g z;obtain⟨u,v⟩:=A3 (kvs:=[]) (vs:=[]) A D rfl .nil;exact⟨a,b,g,j,rfl,kO.of i,kO.of n,s,λp h=>k _ _ _ c (hd.dKF h u v)⟩
theorem Vm (g:X.calm=true) (I:Gl X "dict") (J:X.mg "dict" = none) (l:Gl X "zip") (o:X.mg "zip" = none) (C:qG X [a,b] U)
  (T:starEach [a,b] X.env=(false,eval a X.env)::starEach [b] X.env:=by rfl) (r:(backTo j (starEach [b] X.env)).any (·.1)=false:=by rfl) :
  PD X (.Call (.Name "dict" p) [.Call (.Name "zip" p') [a,b] [] j] [] pos) (dC Ll U):=(Ox g I J l o C T r).mono λ_ _ _ h=>Ei M9 h
def vo (i:Nat):kX:=λ_ a b=>match a[i]? with
 | some (.o d)=>b (.o d) (a.set i .n)
 | _=>False
theorem Rn (i:Nat) (h:PE X (.Name x pos) (nZ i)):PD X (.Name x pos) (vo i):=h.mono λG H Q q=>q.elim λB E T F m hd c k=>by
 unfold vo at c;cases f:E[i]? with
 | none=>rw[f] at c;exact False.elim c
 | some s =>
 rw[f] at c;cases s<;>first | exact False.elim c | skip
 .rename_i d
  obtain⟨a,y,b,t,_,z,e⟩:=rQ m f;have u:=e .n y;rw[vH t] at u;obtain⟨v,w,_⟩:=hd.peek m (d:=d) (i:=i) (by unfold at?;rw[f];rfl);rw[t] at w;cases w;refine⟨v,t,k _ _ v H (by rw[bL];exact m) ?_ c⟩;rw[z,aX,bV] at hd;rw[u,aX,bV];have d1:DS X.K B ((.o d,some v)::(a++(b++T))) H:=hd.perm fY;have d2:DS X.K B (((.o d,some v)::a)++(Sl.n,some v)::(b++T)) H:=DS.pushN (L1:=(.o d,some v)::a) (L2:=b++T) d1 (some v);refine d2.perm ?_;have A:(((Sl.o d,some v)::a)++(Sl.n,some v)::(b++T)).Perm ((Sl.o d,some v)::(a++(Sl.n,some v)::b++T)):=by simp
  refine A.trans ?_;have D:((Sl.o d,some v)::(a++(Sl.n,some v)::b++T)).Perm ((a++(Sl.n,some v)::b)++(Sl.o d,some v)::T):=fY.symm;refine D.trans (by simp)
end
end L2
namespace Lw
open PySem L2
abbrev mT:=Aa ((Int×Int)×(Af->Int))
def tt (g:Aa Af) (j:mT):Aa (Aa gV×D):=j.map λe=>([.inl e.1.1,.inl e.1.2],.k (hO (g.map λo=>(o,e.2 o))))
def mZ (g:mT) (a b:Int):Ab (Af->Int):=(g.find? λe=>decide (e.1=(a,b))).map (·.2)
theorem xD (g:Aa Af) (a b:Int):∀ j:mT,kG (tt g j) [.inl a,.inl b]=(mZ j a b).map λv=>.k (hO (g.map λo=>(o,v o)))
 | []=>rfl
 | e::j=>by
  have c:=xD g a b j;show kG (([.inl e.1.1,.inl e.1.2],_)::tt g j) _=_;rw[pV];unfold mZ;rw[cB];by_cases h:e.1=(a,b)
  .rw[aH (by rw[h]),cC h];rfl
  .rw[aE (λz=>h ?_),bJ h]
   .exact c
   .simp only[eC,Sum.inl.injEq,and_true] at z;exact Prod.ext z.1 z.2
def oB (g:mT) (l:Af->Int) (i j:Int) (p:Af×Af×Int×Int):Int:=match mZ g (i-p.2.2.1) (j-p.2.2.2) with
 | some v=>v p.1
 | none=>l p.2.1
theorem tJ {p q:Prop}{c:Bool}(h:c=true) (g:p):if c=true then p else q:=by rw[aH h];exact g
theorem qJ {p q:Prop}{c:Bool}(h:c=false) (g:q):if c=true then p else q:=by rw[aE (by rw[h];decide)];exact g
def Gr:RD:=λh e f=>∃ (al:Aa (Af×Af×Int×Int)) (i j:Int) (a:Aa Af) (b:mT) (c:Aa (gV×D)) (d:Af->Int),e=[.t (al.map lX),.int i,.int j,.T (tt a b),.k c]/\(al.map (·.2.1)).Nodup/\al.length<=100/\(∀ p∈al,p.1∈a) /\
 (∀ p∈al,kG c (Sum.inr p.2.1)=some (.int (d p.2.1)))/\f (.o (.k (hO (al.map λp=>(p.2.1,oB b d i j p)))))
theorem A8 {v:Af->Int}{o:Af}:∀ {os:Aa Af},o∈os->look (os.map λx=>(x,v x)) o=v o
 | [],h=>by simp at h
 | a::r,h=>by
  rw[aI,sN];by_cases q:a=o
  .rw[aH q,q]
  .rw[aE q];rcases aJ.mp h with z | z
   .exact absurd z.symm q
   .exact A8 z
theorem C7 {v:Af->Int}{o:Af}{os:Aa Af}(h:o∈os):kG (hO (os.map λx=>(x,v x))) (Sum.inr o)=some (.int (v o)):=by
 rw[(uQ _ o).1 (by simpa [cI] using h),A8 h]
section
variable {P:Ah}{K:kC}
theorem uK:FnScope ["along","i","j","told","edges","bits","output","name","down","right","source"] ["along","i","j","told","edges"] (lQ wJ):=nS
theorem Y6 (F:Fun K "carried_bits" "carried_bits" wJ f fd) (T:Txt mg):FnOk P w K mg base kQ 1 f fd ["along","i","j","told","edges"] (kY K Gr):=by
 refine F.okD (k:=0) uK (λr C Φ ⟨_,_,_,_,_,_,_,e,_⟩=>by rw[e];rfl) (by decide) λl A W s H E r C Φ hr J=>?_
 have M:=nL hr;obtain⟨al,i,j,b,a,m,u,rfl,g,hl,ho,U,V⟩:=J;refine⟨_,(hB (kI 5 uK.nd As) (hB (oD (nN (dT 0)) (pJ (n:=4) rfl (kW (kH 6 uK.nd) (kW (kH 7 uK.nd) (kW (kH 8 uK.nd) (kW (kH 9 uK.nd) oS))))) (hB (kI 10 uK.nd (lE (dK (kN rX rT 1 (dT 8)) (dK (kN rX rT 2 (dT 9)) eI)))) (kR (sV (n:=5) M (C1 (vT (D7 M) (tY false) (dT 10) (pv 3)) (qD M (kT M 3 (dT 10)) (dT 6)) (kT M 4 (dT 7))) (pv 5) (dT 7))))) (kR (mG (Rn 5 (pv 5)))))),?_⟩;refine hI (λG=>G=[.v (.t (al.map lX)),.v (.int i),.v (.int j),.v (.T (tt b a)),.v (.k m),.o (.k []),.n,.n,.n,.n,.n]) (λN S=>S _ rfl) ?_;rintro _ rfl;refine hI (λG=>∃ x y B D c:Sl,G=[.v (.t (al.map lX)),.v (.int i),.v (.int j),.v (.T (tt b a)),.v (.k m),.o (.k (hO (al.map λp=>(p.2.1,oB a u i j p)))),x,y,B,D,c]) (λN S=>?_) ?_
 .refine oG (al.map lX) _ (λΨ h=>h) (λn G=>∃ x y B D c:Sl,G=[.v (.t (al.map lX)),.v (.int i),.v (.int j),.v (.T (tt b a)),.v (.k m),.o (.k (hO ((al.take n).map λp=>(p.2.1,oB a u i j p)))),x,y,B,D,c]) ⟨.n,.n,.n,.n,.n,rfl⟩ ?_ ?_
  .rintro n d G hd ⟨x,y,B,D,c,rfl⟩;obtain⟨p,R,rfl⟩:=rS hd;have hn:n<al.length:=(aG.mp R).1;have Z:=aW R;have L:p.2.1∉((al.take n).map λp=>(p.2.1,oB a u i j p)).map (·.1):=λq=>by
    have e:al=al.take n++p::al.drop (n+1):=by
     obtain⟨hi,rfl⟩:=aG.mp R;rw[dZ,eE]
    rw[e,aT] at g;exact (aO.mp g).2.2 p.2.1 (by simpa [cI] using q) p.2.1 (by simp) rfl
   have fin:∀ z:Int,z=oB a u i j p->∃ X,rV (.k (hO ((al.take n).map λp=>(p.2.1,oB a u i j p)))) (.str p.2.1) (.int z)=some X/\∃ x y B D c:Sl,[.v (.t (al.map lX)),.v (.int i),.v (.int j),.v (.T (tt b a)),.v (.k m),.o X,.v (.str p.1),.v (.str p.2.1),.v (.int p.2.2.1),.v (.int p.2.2.2),.v (.t [.int (i-p.2.2.1),.int (j-p.2.2.2)])] =
     [.v (.t (al.map lX)),.v (.int i),.v (.int j),.v (.T (tt b a)),.v (.k m),.o (.k (hO ((al.take (n+1)).map λp=>(p.2.1,oB a u i j p)))),x,y,B,D,c]:=λz I=>by
    have e:lF (hO ((al.take n).map λp=>(p.2.1,oB a u i j p))) (Sum.inr p.2.1) (.int z)=hO ((al.take (n+1)).map λp=>(p.2.1,oB a u i j p)):=by
     rw[zF L,I,cY,R,aT];rfl
    refine⟨_,wW (by rw[sL,aD,bY];omega),?_⟩;rw[e];exact⟨_,_,_,_,_,rfl⟩
   refine⟨rfl,rfl,rfl,rfl,by show 2<=1000;decide,_,rfl,?_⟩;have O:=xD b (i-p.2.2.1) (j-p.2.2.2) a;have Q:oB a u i j p=match mZ a (i-p.2.2.1) (j-p.2.2.2) with | some v=>v p.1 | none=>u p.2.1:=rfl
   cases Y:mZ a (i-p.2.2.1) (j-p.2.2.2) with
   | some v =>
    rw[Y] at O Q;refine tJ (by show nb false (kG (tt b a) [.inl (i-p.2.2.1),.inl (j-p.2.2.2)]).isSome=true;rw[O];rfl) ?_;refine⟨rfl,.k (hO (b.map λo=>(o,v o))),?_,.int (v p.1),?_,rfl,fin _ Q.symm⟩
    .show some (kG (tt b a) [.inl (i-p.2.2.1),.inl (j-p.2.2.2)])=_;rw[O];rfl
    .show some (kG _ (Sum.inr p.1))=_;rw[C7 (ho p Z)]
   | none =>
    rw[Y] at O Q;refine qJ (by show nb false (kG (tt b a) [.inl (i-p.2.2.1),.inl (j-p.2.2.2)]).isSome=false;rw[O];rfl) ?_;refine⟨rfl,.int (u p.2.1),?_,rfl,fin _ Q.symm⟩;show some (kG m (Sum.inr p.2.1))=_;rw[U p Z]
  .rintro G ⟨x,y,B,D,c,rfl⟩;rw[aD,bN (aP _)];exact S _ ⟨x,y,B,D,c,rfl⟩
 rintro _ ⟨x,y,B,D,c,rfl⟩;exact V
end
theorem L9:∀ (gs:Aa (Af×Af×Aa Af)) (j:Aa Af) (l:Af->Int),(∀ x∈j,kJ (l x))->∀ x∈j++gs.map (·.1),kJ (nE l gs x)
 | [],j,l,h,x,a=>h x (by simpa using a)
 | g::gs,j,l,h,x,a=>by
  refine L9 gs (j++[g.1]) _ (λy b=>?_) x (by simpa using a);by_cases e:y=g.1
  .show kJ (if y=g.1 then _ else _);rw[aH e];exact D4 _ _
  .show kJ (if y=g.1 then _ else _);rw[aE e];rcases aZ.mp b with z | z
   .exact h y z
   .exact absurd (bA.mp z) e
theorem Fw (g:GC C) (h:∀ x∈C.ins,kJ (j x)):∀ o∈C.outs,kJ (nR C j o):=λo a=>L9 C.gates C.ins j h o (g.os o a)
def pF (F:Fld) (wf l:Af->Int) (g:mT) (i j:Nat):oJ:=F.al.map (λp=>(p.2.1,oB g l i j p))++F.rows.map (λx=>(x,wf x/2 ^ i%2))++F.cols.map (λx=>(x,wf x/2 ^ j%2))
def uF (F:Fld) (wf l:Af->Int) (g:mT) (i j:Nat):Af->Int:=nR F.C (look (pF F wf l g i j))
def lZ (F:Fld) (wf l:Af->Int) (i:Nat) (g:mT):Nat->mT
 | 0=>g
 | j+1=>lZ F wf l i g j++[(((i:Int),(j:Int)),uF F wf l (lZ F wf l i g j) i j)]
def kS (F:Fld) (wf g:Af->Int) (W:Nat):Nat->mT
 | 0=>[]
 | i+1=>lZ F wf g i (kS F wf g W i) W
def qZ (F:Fld) (g:mT):Prop:=∀ e∈g,∀ o∈F.C.outs,kJ (e.2 o)
theorem Ul (F:Fld) (wf l:Af->Int) (g:mT) (i j:Nat):(pF F wf l g i j).map (·.1)=F.al.map (·.2.1)++F.rows++F.cols:=by
 simp[pF,cI]
theorem W7 {F:Fld}(r:qZ F g) (I:∀ p∈F.al,kJ (o p.2.1)) (J:∀ p∈F.al,p.1∈F.C.outs) (l:p∈F.al):kJ (oB g o i j p):=by
 unfold oB;split
 .rename_i v a
  unfold mZ at a;cases e:g.find? λe=>decide (e.1=(i-p.2.2.1,j-p.2.2.2)) with
  | none=>rw[e] at a;cases a
  | some x =>
   rw[e] at a;cases a;exact r x (List.mem_of_find?_eq_some e) p.1 (J p l)
 .exact I p l
theorem Bf {F:Fld}(G:GF F) (o:qZ F g) (I:∀ p∈F.al,kJ (l p.2.1)) (i j:Nat):tN (hO (pF F wf l g i j)) F.C.ins (look (pF F wf l g i j)):=λx k=>by
 have b:x∈(pF F wf l g i j).map (·.1):=by rw[Ul];exact G.ins.mem_iff.mp k
 refine⟨(uQ _ x).1 b,?_⟩;have all:∀ q∈pF F wf l g i j,kJ q.2:=λq c=>by
  unfold pF at c;rcases aZ.mp c with z | z
  .rcases aZ.mp z with z | z
   .obtain⟨p,e,rfl⟩:=bE.mp z;exact W7 o I G.ao e
   .obtain⟨y,_,rfl⟩:=bE.mp z;show kJ (_%2);unfold kJ;omega
  .obtain⟨y,_,rfl⟩:=bE.mp z;show kJ (_%2);unfold kJ;omega
 have key:∀ t:oJ,(∀ q∈t,kJ q.2)->x∈t.map (·.1)->kJ (look t x):=λt=>by
  induction t with
  | nil=>intro _ h;simp at h
  | cons q t m =>
   intro a d;rw[sN];by_cases z:q.1=x
   .rw[aH z];exact a q aM
   .rw[aE z];refine m (λr f=>a r (aV _ f)) ?_;rcases aJ.mp d with y | y
    .exact absurd y.symm z
    .exact y
 exact key _ all b
theorem Lb {F:Fld}(G:GF F) (l:qZ F g) (C:∀ p∈F.al,kJ (r p.2.1)) (i j:Nat):qZ F (g++[(((i:Int),(j:Int)),uF F wf r g i j)]):=λe h o a=>by
 rcases aZ.mp h with z | z
 .exact l e z o a
 .rw[bA.mp z];exact Fw G.gc (λx b=>(Bf G l C i j x b).2) o a
theorem zH {F:Fld}:∀ {j:Nat}{e},e∈lZ F wf l i g j->e∈g\/(e.1.1=(i:Int)/\e.1.2<(j:Int))
 | 0,e,h=>.inl h
 | j+1,e,h=>by
  rcases aZ.mp h with z | z
  .rcases zH z with q | q
   .exact .inl q
   .exact .inr ⟨q.1,by omega⟩
  .rw[bA.mp z];exact .inr ⟨rfl,by show (j:Int)<((j+1:Nat):Int);omega⟩
theorem C4 {F:Fld}{W:Nat}:∀ {i:Nat}{e},e∈kS F wf g W i->e.1.1<(i:Int)
 | 0,e,h=>by simp[kS] at h
 | i+1,e,h=>by
  rcases zH h with z | z
  .have:=C4 z;omega
  .omega
theorem O0 (h:∀ e∈l,e.1≠(i,j)):lF (tt g l) [.inl i,.inl j] (.k (hO (g.map λo=>(o,v o))))=tt g (l++[((i,j),v)]):=by
 unfold lF;have:kG (tt g l) [.inl i,.inl j]=none:=by
  rw[xD];unfold mZ;rw[gC.mpr λe a=>by simp[h e a]];rfl
 rw[zE,this];simp[tt]
theorem Wm (j:Aa Af) (g:mT):(tt j g).length=g.length:=by simp[tt]
theorem Bw {F:Fld}:∀ j,(lZ F wf l i g j).length=g.length+j
 | 0=>rfl
 | j+1=>by
  show (lZ F wf l i g j++_).length=_;rw[bI,Bw j];simp;omega
theorem Ld {F:Fld}{W:Nat}:∀ i,(kS F wf g W i).length=i*W
 | 0=>by simp[kS]
 | i+1=>by
  show (lZ F wf g i (kS F wf g W i) W).length=_;rw[Bw,Ld i,Nat.succ_mul]
theorem Qa (t:oJ):yC (.o (.k (hO t)))=true:=by
 show qH ((hO t).map (·.2))=true;induction t with
 | nil=>rfl
 | cons p t a=>exact a
theorem Qn (g:Aa Af) (v:Af->Int):yC (.v (.t (g.map λo=>D.int (v o))))=true:=by
 show qH (g.map λo=>D.int (v o))=true;induction g with
 | nil=>rfl
 | cons p t a=>exact a
def E7:RD:=λh e f=>∃ (F:Fld) (W c:Nat) (b a:Aa (gV×D)) (wf d:Af->Int),e=[lA F,.int W,.int c,.k b,.k a]/\GF F/\W<=8/\c<=8/\(∀ x∈F.rows++F.cols,kG b (Sum.inr x)=some (.int (wf x)))/\(∀ p∈F.al,kG a (Sum.inr p.2.1)=some (.int (d p.2.1))/\kJ (d p.2.1)) /\
 (qZ F (kS F wf d W c)->f (.v (.T (tt F.C.outs (kS F wf d W c)))))
theorem Wz (g:Aa Af) (v:Af->Int):(g.map (Sum.inr:Af->gV)).zip (g.map λo=>D.int (v o))=hO (g.map λo=>(o,v o)):=by
 induction g with
 | nil=>rfl
 | cons a r b=>rw[aI,aI,eV,b];rfl
theorem Cf (h:i<n):mC ((List.range n).map λi=>D.int (2 ^ i)) (i:Int)=some (.int (2 ^ i)):=wT (by rw[bB,List.getElem?_range h];rfl)
section
variable {P:Ah}{K:kC}
theorem tL:FnScope ["field","width","height","words","edges","cell","row_worths","column_worths","told","i","j","bits"] ["field","width","height","words","edges"] (lQ uT):=nS
theorem Sc (F:Fun K "told_at_places" "told_at_places" uT f fd) (T:Txt mg) (I:Gd K mg "carried_bits" wJ ["along","i","j","told","edges"] fC ak) (r:Gd K mg "word_bits" vN ["names","words","worth"] fW aq)
  (U:Gd K mg "told_by" wB ["cell","bits"] fB aj) (g:Gd K mg "place_worths" tA ["count"] fP an)
  (ab:FnOk P w K mg base kQ 1 fC ak ["along","i","j","told","edges"] (kY K Gr)) (aa:FnOk P w K mg base kQ 1 fW aq ["names","words","worth"] (kY K Hb)) (ac:FnOk P w K mg base kQ 2 fB aj ["cell","bits"] (kY K Iw)) (J:FnOk P w K mg base kQ 1 fP an ["count"] (kY K Ao)) :
  FnOk P w K mg base kQ 3 f fd ["field","width","height","words","edges"] (kY K E7):=by
 refine F.okD (k:=2) tL (λdk ds Φ ⟨_,_,_,_,_,_,_,e,_⟩=>by rw[e];rfl) (by decide) λaz A aw s H E dk ds Φ Z hR=>?_
 have X:=nL Z;obtain⟨a,W,u,y,B,wf,d,rfl,G,hW,hH,hw,he,av⟩:=hR;have ag:∀ p∈a.al,kJ (d p.2.1):=λp hp=>(he p hp).2
 have nin:=G.nin;have la:=G.la;have lr:=G.lr;have lc:=G.lc;let Q:Nat->D:=λn=>.l ((List.range n).map λi=>D.int (2 ^ i))
 refine⟨_,(hB (kI 5 tL.nd (kT X 0 eH)) (hB (kI 6 tL.nd (lU J (Z.mono (by decide)) (by rfl) g.m g.k g.b (dK (dT 2) eI))) (hB (kI 7 tL.nd (lU J (Z.mono (by decide)) (by rfl) g.m g.k g.b (dK (dT 1) eI))) (hB (kI 8 tL.nd Wh) (hB (oD (tI (by rfl) T.range (dT 2)) (kH 9 tL.nd) (kR (oD (tI (by rfl) T.range (dT 1)) (kH 10 tL.nd) (hB (kI 11 tL.nd (lU ab (Z.mono (by decide)) (by rfl) I.m I.k I.b (dK (kT X 0 eH) (dK (dT 9) (dK (dT 10) (wZ (pv 8) (dK (dT 4) eI))))))) (hB (oW (qB fX PySem.F.slot_dict_update PySem.F.type_dict_update Ky K5 (pv 11) (dK (lU aa (Z.mono (by decide)) (by rfl) r.m r.k r.b (dK (kT X 0 eH) (dK (dT 3) (dK (kT X 6 (dT 9)) eI)))) eI))) (hB (oW (qB fX PySem.F.slot_dict_update PySem.F.type_dict_update Ky K5 (pv 11) (dK (lU aa (Z.mono (by decide)) (by rfl) r.m r.k r.b (dK (kT X 0 eH) (dK (dT 3) (dK (kT X 7 (dT 10)) eI)))) eI))) (kR (sV (n:=8) X (Vm rfl (by rfl) T.dict (by rfl) T.zip (dK (kT X 5 eH) (dK (lU ac (Z.mono (by decide)) (by rfl) U.m U.k U.b (dK (dT 5) (wZ (pv 11) eI))) eI))) (pv 8) (lE (dK (dT 9) (dK (dT 10) eI))))))))))) (kR (mG (dT 8)))))))),?_⟩;refine hI (λL=>L=[.v (lA a),.v (.int W),.v (.int u),.v (.k y),.v (.k B),.v (nJ a.C),.n,.n,.n,.n,.n,.n]) (λN V=>⟨rfl,_,rfl,V _ rfl⟩) ?_;rintro _ rfl;refine hI (λL=>L=[.v (lA a),.v (.int W),.v (.int u),.v (.k y),.v (.k B),.v (nJ a.C),.v (Q u),.n,.n,.n,.n,.n]) (λN V=>⟨u,rfl,by omega,.inl rfl,V _ rfl⟩) ?_;rintro _ rfl;refine hI (λL=>L=[.v (lA a),.v (.int W),.v (.int u),.v (.k y),.v (.k B),.v (nJ a.C),.v (Q u),.v (Q W),.n,.n,.n,.n]) (λN V=>⟨W,rfl,by omega,.inl rfl,V _ rfl⟩) ?_;rintro _ rfl;refine hI (λL=>L=[.v (lA a),.v (.int W),.v (.int u),.v (.k y),.v (.k B),.v (nJ a.C),.v (Q u),.v (Q W),.o (.T []),.n,.n,.n]) (λN V=>V _ rfl) ?_;rintro _ rfl;refine hI (λL=>∃ s9 M O sT:Sl,(sT = .o (.T (tt a.C.outs (kS a wf d W u)))\/sT = .v (.T (tt a.C.outs (kS a wf d W u))))/\qZ a (kS a wf d W u)/\L=[.v (lA a),.v (.int W),.v (.int u),.v (.k y),.v (.k B),.v (nJ a.C),.v (Q u),.v (Q W),sT,s9,M,O]) (λN V=>?_) ?_
 .refine oG (mU 0 u) _ (λΨ h=>⟨by omega,by omega,h⟩) (λi L=>∃ s9 M O:Sl,qZ a (kS a wf d W i)/\L=[.v (lA a),.v (.int W),.v (.int u),.v (.k y),.v (.k B),.v (nJ a.C),.v (Q u),.v (Q W),.o (.T (tt a.C.outs (kS a wf d W i))),s9,M,O]) ⟨.n,.n,.n,λe h=>by simp[kS] at h,rfl⟩ ?_ ?_
  .rintro i x L hd ⟨s9,M,O,hb,rfl⟩;obtain⟨hi,rfl⟩:=uH hd;have ei:(0:Int)+(i:Int)=(i:Int):=by omega
   rw[ei];refine oG (mU 0 W) _ (λΨ h=>⟨by omega,by omega,h⟩) (λj L=>∃ M O:Sl,qZ a (lZ a wf d i (kS a wf d W i) j)/\L=[.v (lA a),.v (.int W),.v (.int u),.v (.k y),.v (.k B),.v (nJ a.C),.v (Q u),.v (Q W),.o (.T (tt a.C.outs (lZ a wf d i (kS a wf d W i) j))),.v (.int i),M,O]) ⟨_,_,hb,rfl⟩ ?_ ?_
   .rintro j x L ar ⟨ax,ay,Y,rfl⟩;obtain⟨hj,rfl⟩:=uH ar;have ej:(0:Int)+(j:Int)=(j:Int):=by omega
    rw[ej];have S:∀ e∈lZ a wf d i (kS a wf d W i) j,e.1≠((i:Int),(j:Int)):=λe hm z=>by
     rcases zH hm with q | q
     .have:=C4 q;rw[z] at this;simp at this
     .rw[z] at q;simp at q
    have ah:(lZ a wf d i (kS a wf d W i) j).length<=100:=by
     rw[Bw,Ld];have:i*W<=8*8:=Nat.mul_le_mul (by omega) hW;omega
    have ae:lZ a wf d i (kS a wf d W i) (j+1)=lZ a wf d i (kS a wf d W i) j++[(((i:Int),(j:Int)),uF a wf d (lZ a wf d i (kS a wf d W i) j) i j)]:=rfl;rw[ae];generalize lZ a wf d i (kS a wf d W i) j=c at Y S ah;have n1:(a.al.map λp=>(p.2.1,oB c d (i:Int) (j:Int) p)).map (·.1)=a.al.map (·.2.1):=by simp[cI]
    have n2:∀ (xs:Aa Af) (k:Nat),(xs.map λx=>(x,wf x/2 ^ k%2)).map (·.1)=xs:=λxs k=>by simp[cI]
    refine hI (λL=>L=[.v (lA a),.v (.int W),.v (.int u),.v (.k y),.v (.k B),.v (nJ a.C),.v (Q u),.v (Q W),.o (.T (tt a.C.outs c)),.v (.int i),.v (.int j),.o (.k (hO (a.al.map λp=>(p.2.1,oB c d (i:Int) (j:Int) p))))]) (λN' R=>?_) ?_
    .exact⟨rfl,_,rfl,rfl,a.al,i,j,a.C.outs,c,B,d,rfl,(aO.mp (aO.mp nin).1).1,by omega,G.ao,λp hp=>(he p hp).1,.inr (Qa _),R _ rfl⟩
    rintro _ rfl;refine hI (λL=>L=[.v (lA a),.v (.int W),.v (.int u),.v (.k y),.v (.k B),.v (nJ a.C),.v (Q u),.v (Q W),.o (.T (tt a.C.outs c)),.v (.int i),.v (.int j),.o (.k (hO ((a.al.map λp=>(p.2.1,oB c d (i:Int) (j:Int) p))++a.rows.map λx=>(x,wf x/2 ^ i%2))))]) (λN' R=>?_) ?_
    .refine⟨rfl,rfl,_,rfl,rfl,_,Cf hi,a.rows,y,wf,i,rfl,(aO.mp (aO.mp nin).1).2.1,by omega,by omega,λx hx=>hw x (bM _ hx),.inl rfl,?_,?_⟩
     .rw[sL,sL,aD,aD];omega
     .rw[Bb _ _ (by rw[aT,n1,n2];exact (aO.mp nin).1)];exact R _ rfl
    rintro _ rfl;refine hI (λL=>L=[.v (lA a),.v (.int W),.v (.int u),.v (.k y),.v (.k B),.v (nJ a.C),.v (Q u),.v (Q W),.o (.T (tt a.C.outs c)),.v (.int i),.v (.int j),.o (.k (hO (pF a wf d c i j)))]) (λN' R=>?_) ?_
    .refine⟨rfl,rfl,_,rfl,rfl,_,Cf hj,a.cols,y,wf,j,rfl,(aO.mp nin).2.1,by omega,by omega,λx hx=>hw x (aN _ hx),.inl rfl,?_,?_⟩
     .rw[sL,sL,bI,aD,aD,aD];omega
     .rw[Bb _ _ (by rw[aT,aT,n1,n2,n2];exact nin)];exact R _ rfl
    rintro _ rfl;have step:=Lb G (wf:=wf) Y ag i j;refine⟨rfl,_,rfl,rfl,a.C,_,look (pF a wf d c i j),rfl,G.gc,Bf G Y ag i j,.inr (Qn _ _),_,Ks _,by rw[aD];have:=G.gc.lo;omega,rfl,by show 2<=1000;decide,?_⟩;rw[Wz,zV (by simpa [cI] using G.gc.ond)];have ai:rV (.T (tt a.C.outs c)) (.t [.int i,.int j]) (.k (hO (a.C.outs.map λo=>(o,nR a.C (look (pF a wf d c i j)) o))))=some (.T (tt a.C.outs (c++[(((i:Int),(j:Int)),uF a wf d c i j)]))):=by
     have:(tt a.C.outs c).length<100000:=by rw[Wm];omega
     simp only[rV,aH this];show some (D.T (lF (tt a.C.outs c) [.inl (i:Int),.inl (j:Int)] _))=_;rw[O0 S];rfl
    exact⟨_,ai,_,_,step,rfl⟩
   .rintro L ⟨ax,ay,af,rfl⟩;have:(mU 0 W).length=W:=by simp[mU]
    rw[this] at af |-;exact⟨_,_,_,af,rfl⟩
  .rintro L ⟨s9,M,O,hb,rfl⟩;have:(mU 0 u).length=u:=by simp[mU]
   rw[this] at hb |-;exact V _ ⟨s9,M,O,_,.inl rfl,hb,rfl⟩
 rintro _ ⟨s9,M,O,sT,au,hb,rfl⟩;rcases au with rfl | rfl<;>exact av hb
end
def uI (all:mT) (g:Ab (Int×Int)) (a b:Int):Bool:=match g with
 | none=>true
 | some w=>(mZ all (a+w.1) (b+w.2)).isNone
def mJ (all:mT) (g:Ab (Int×Int)) (o:Af):mT->Int
 | []=>0
 | e::r=>(if uI all g e.1.1 e.1.2 then 2 ^ (e.1.1+e.1.2).toNat*e.2 o else 0)+mJ all g o r
theorem Aw {all:mT}:∀ r:mT,mJ all g o (r++[e])=mJ all g o r+(if uI all g e.1.1 e.1.2 then 2 ^ (e.1.1+e.1.2).toNat*e.2 o else 0)
 | []=>by simp[mJ]
 | x::r=>by
  show _+mJ all g o (r++[e])=_;rw[Aw r];show _=_+mJ all g o r+_;omega
def rC:Ab (Int×Int)->D
 | none=>.e
 | some w=>.t [.int w.1,.int w.2]
structure AccP (acc:mT) (n:Nat):Prop where
 nd:(acc.map (·.1)).Nodup
 at_:∀ e∈acc,0<=e.1.1/\0<=e.1.2/\e.1.1+e.1.2<n
theorem Mc (j:(g.map (·.1)).Nodup) (h:e∈g):mZ g e.1.1 e.1.2=some e.2:=by
 induction g with
 | nil=>simp at h
 | cons x r a =>
  rw[aI] at j;obtain⟨b,c⟩:=bP.mp j;unfold mZ;rw[cB];rcases aJ.mp h with z | z
  .subst z;rw[cC rfl];rfl
  .have:¬ x.1=(e.1.1,e.1.2):=λq=>b (by rw[q];exact bE.mpr ⟨e,z,rfl⟩)
   rw[bJ this];exact a c z
def qC (n:Nat):D:=.l ((List.range n).map λi=>D.int (2 ^ i))
def Ey:RD:=λf d e=>∃ (o:Af) (c:Ab (Int×Int)) (b:Aa Af) (a:mT) (n:Nat),d=[.str o,rC c,.T (tt b a),qC n]/\o∈b/\AccP a n/\n<=60/\e (.v (.int (mJ a c o a)))
theorem L6 {F:Fld}{wf ef:Af->Int}{i W H:Nat}{g:mT}(o:i<H) (l:∀ e∈g,e.1.1<(i:Int)) (h:AccP g (W+H)):∀ j,j<=W->AccP (lZ F wf ef i g j) (W+H)
 | 0,_=>h
 | j+1,f=>by
  have c:=L6 (F:=F) (wf:=wf) (ef:=ef) o l h j (by omega);refine⟨?_,λe a=>?_⟩
  .show ((lZ F wf ef i g j++_).map (·.1)).Nodup;rw[aT];refine aO.mpr ⟨c.nd,by simp,λx d y b=>?_⟩;simp only[aI,fJ,bA] at b;subst b;obtain⟨e,a,rfl⟩:=bE.mp d;intro z;rcases zH a with q | q
   .have:=l e q;rw[z] at this;simp at this
   .rw[z] at q;simp at q
  .rcases aZ.mp a with z | z
   .exact c.at_ e z
   .rw[bA.mp z];show 0<=(i:Int)/\0<=(j:Int)/\(i:Int)+(j:Int)<((W+H:Nat):Int);omega
theorem Lu {F:Fld}{W:Nat}:∀ i,i<=H->AccP (kS F wf ef W i) (W+H)
 | 0,_=>⟨by simp[kS],λe a=>by simp[kS] at a⟩
 | i+1,b=>L6 (by omega) (λe a=>C4 a) (Lu i (by omega)) W (aP _)
theorem Pm (j:Aa Af) (g:mT):yS (tt j g)=g.map λe=>D.t [.int e.1.1,.int e.1.2]:=by
 unfold yS tt;rw[bG];rfl
section
variable {P:Ah}{K:kC}
theorem xQ:FnScope ["name","way","told","worths","found","i","j"] ["name","way","told","worths"] (lQ uB):=nS
theorem Ss (F:Fun K "summed" "summed" uB f fd):FnOk P w K mg base kQ 1 f fd ["name","way","told","worths"] (kY K Ey):=by
 refine F.okD (k:=0) xQ (λR r l ⟨_,_,_,_,_,e,_⟩=>by rw[e];rfl) (by decide) λp A Q s H E R r l U C=>?_
 have y:=nL U;obtain⟨o,c,b,a,n,rfl,J,X,hn,O⟩:=C;refine⟨_,(hB (kI 4 xQ.nd eH) (hB (Q8 (m:=99) jJ rfl (dT 2) (pJ (n:=2) rfl (kW (kH 5 xQ.nd) (kW (kH 6 xQ.nd) oS))) (kR (oH (Eu (zU (qX O9 (Uj false) (pv 1) Vj) (D6 (vT (At y) (tY true) (lE (dK (kN lG lH 5 (kT y 1 eH)) (dK (kN lG lH 6 (kT y 1 eH)) eI))) (pv 2))))) (kR (Yb (n:=4) xQ.nd rfl (Or.inl rfl) (kE mO mP (kT y 3 (kN lG lH 5 (dT 6))) (qD y (kT y 2 (lE (dK (dT 5) (dK (dT 6) eI)))) (dT 0))) Nd)) oR))) (kR (mG (dT 4))))),?_⟩;refine hI (λx=>x=[.v (.str o),.v (rC c),.v (.T (tt b a)),.v (qC n),.v (.int 0),.n,.n]) (λN G=>G _ rfl) ?_;rintro _ rfl;refine hI (λx=>∃ q u:Sl,x=[.v (.str o),.v (rC c),.v (.T (tt b a)),.v (qC n),.v (.int (mJ a c o a)),q,u]) (λN G=>?_) ?_
 .refine oG (a.map λe=>D.t [.int e.1.1,.int e.1.2]) _ (λΨ h=>by rw[<- Pm b a] at h;exact h) (λi x=>∃ q u:Sl,x=[.v (.str o),.v (rC c),.v (.T (tt b a)),.v (qC n),.v (.int (mJ a c o (a.take i))),q,u]) ⟨.n,.n,rfl⟩ ?_ ?_
  .rintro i d x hd ⟨q,u,rfl⟩;obtain⟨e,S,rfl⟩:=rS hd;have W:=aW S;obtain⟨a0,b0,ab⟩:=X.at_ e W;have I:=Mc X.nd W;have Z:=xD b e.1.1 e.1.2 a;rw[I] at Z;have g:a.take (i+1)=a.take i++[e]:=by rw[cY,S];rfl
   obtain⟨k,V⟩:=iJ (show 0<=e.1.1+e.1.2 by omega);have M:k<n:=by omega
   have Y:=Bz (i:=k) (by omega);have add:uI a c e.1.1 e.1.2=true->Cq 4 (λi j=>i+j) (d2 E6 (sH vZ 3 (sH I0 5 (vd 6))) (d2 vZ (sH vZ 2 (Dx (aC (vd 5) (aC (vd 6) Gc)))) (vd 0))) R
     { nx:=λx=>∃ q u:Sl,x=[.v (.str o),.v (rC c),.v (.T (tt b a)),.v (qC n),.v (.int (mJ a c o (a.take (i+1)))),q,u],rt:=l,bk:=N,ct:=λx=>∃ q u:Sl,x=[.v (.str o),.v (rC c),.v (.T (tt b a)),.v (qC n),.v (.int (mJ a c o (a.take (i+1)))),q,u] }
     [.v (.str o),.v (rC c),.v (.T (tt b a)),.v (qC n),.v (.int (mJ a c o (a.take i))),.v (.int e.1.1),.v (.int e.1.2)]:=λL=>by
    refine⟨rfl,rfl,.int (2 ^ k),?_,rfl,by show 2<=1000;decide,.k (hO (b.map λo=>(o,e.2 o))),?_,.int (e.2 o),?_,.inl ⟨by omega,by omega⟩,.v (.int e.1.1),.v (.int e.1.2),?_⟩
    .show mC ((List.range n).map λi=>D.int (2 ^ i)) (e.1.1+e.1.2)=_;rw[V];exact Cf M
    .show some (kG (tt b a) [.inl e.1.1,.inl e.1.2])=_;rw[Z];rfl
    .show some (kG _ (Sum.inr o))=_;rw[C7 J]
    .rw[g,Aw,aH L,V,bQ];rfl
   have skip:uI a c e.1.1 e.1.2=false->∃ q u:Sl,[Sl.v (.str o),.v (rC c),.v (.T (tt b a)),.v (qC n),.v (.int (mJ a c o (a.take i))),.v (.int e.1.1),.v (.int e.1.2)]=[.v (.str o),.v (rC c),.v (.T (tt b a)),.v (qC n),.v (.int (mJ a c o (a.take (i+1)))),q,u]:=λL=>by
    refine⟨.v (.int e.1.1),.v (.int e.1.2),?_⟩;rw[g,Aw,aE (by rw[L];decide),eA]
   refine⟨rfl,rfl,?_⟩;cases c with
   | none=>exact⟨rfl,add rfl⟩
   | some w =>
    refine⟨rfl,rfl,rfl,_,rfl,rfl,rfl,_,rfl,by show 2<=1000;decide,_,rfl,?_⟩;have B:=xD b (e.1.1+w.1) (e.1.2+w.2) a;cases z:mZ a (e.1.1+w.1) (e.1.2+w.2) with
    | none =>
     rw[z] at B;refine tJ (by show nb true (kG (tt b a) [.inl (e.1.1+w.1),.inl (e.1.2+w.2)]).isSome=true;rw[B];rfl) (add ?_);show (mZ a (e.1.1+w.1) (e.1.2+w.2)).isNone=true;rw[z];rfl
    | some v =>
     rw[z] at B;refine qJ (by show nb true (kG (tt b a) [.inl (e.1.1+w.1),.inl (e.1.2+w.2)]).isSome=false;rw[B];rfl) (skip ?_);show (mZ a (e.1.1+w.1) (e.1.2+w.2)).isNone=false;rw[z];rfl
  .rintro x ⟨q,u,rfl⟩;rw[aD,bN (aP _)];exact G _ ⟨q,u,rfl⟩
 rintro _ ⟨q,u,rfl⟩;exact O
end
theorem Gp {j:Type} [DecidableEq j] {g:Aa (j×D)}{k:j}{d:D}(h:k∉g.map (·.1)):lF g k d=g++[(k,d)]:=by
 unfold lF;rw[aE];intro z;rw[List.any_eq_true] at z;obtain⟨p,a,e⟩:=z;exact h (bE.mpr ⟨p,a,dR e⟩)
theorem Jb:∀ (b a:Aa (gV×D)),((a++b).map (·.1)).Nodup->pL a b=a++b
 | [],a,_=>by simp[pL]
 | p::b,a,h=>by
  have c:p.1∉a.map (·.1):=λq=>by
   rw[aT] at h;exact (aO.mp h).2.2 p.1 q p.1 (by simp) rfl
  have e:pL a (p::b)=pL (lF a p.1 p.2) b:=rfl;rw[e,Gp c,Jb b (a++[p]) (by simpa using h)];simp
theorem Ga:∀ {g:Aa Af},g.Nodup->(g.map (Sum.inr:Af->gV)).Nodup
 | [],_=>jQ
 | x::r,h=>by
  obtain⟨b,c⟩:=bP.mp h;refine bP.mpr ⟨λm=>?_,Ga c⟩;obtain⟨y,a,e⟩:=bE.mp m;rw[fH e] at a;exact b a
def pX (al:Aa (Af×Af×Int×Int)) (o:Af):Ab (Int×Int):=(al.find? λp=>decide (p.1=o)).map λp=>p.2.2
def tK (al:Aa (Af×Af×Int×Int)):Aa (gV×D):=al.map λp=>(Sum.inr p.1,.t [.int p.2.2.1,.int p.2.2.2])
theorem G6 (o:Af):∀ al:Aa (Af×Af×Int×Int),(kG (tK al) (Sum.inr o)).getD .e=rC (pX al o)
 | []=>rfl
 | p::al=>by
  have a:=G6 o al;show (kG ((Sum.inr p.1,_)::tK al) _).getD .e=_;rw[pV];unfold pX;rw[cB];by_cases h:p.1=o
  .rw[aH (by rw[h]),cC h];rfl
  .rw[aE (λz=>h (fH z)),bJ h];exact a
def qI (F:Fld) (wf j:Af->Int) (W g:Nat):oJ:=F.C.outs.map λo=>(o,mJ (kS F wf j W g) (pX F.al o) o (kS F wf j W g))
theorem tH:(["output","name","down","right"]:Aa Af).Nodup:=by decide +kernel
theorem W9:(["name","ways","told","worths"]:Aa Af).Nodup:=by decide +kernel
section
variable {P:Ah}{K:kC}
theorem Br:FnScope ["field","width","height","words","edges","told","worths","ways"] ["field","width","height","words","edges"] (lQ sF):=nS
theorem Pn {f fA fW fS:Ad}{fd ae ag af:FuncData}{cdv:Ac}{A:Around}{outer:Aa Env}{s:Ae}{H:Hp}{E:XK}(T:Txt mg) (j:Gd K mg "told_at_places" uT ["field","width","height","words","edges"] fA ae) (l:Gd K mg "place_worths" tA ["count"] fW ag) (J:Gd K mg "summed" uB ["name","way","told","worths"] fS af)
  (I:FnOk P w K mg base kQ 3 fA ae ["field","width","height","words","edges"] (kY K E7)) (U:FnOk P w K mg base kQ 1 fW ag ["count"] (kY K Ao)) (ac:FnOk P w K mg base kQ 1 fS af ["name","way","told","worths"] (kY K Ey))
  (hr:Room 3 (A.deeper (PyProof.Rows.envOfC "field_laid" (lQ sF) s.heap.objs.size f cdv))){dk:Aa Ad}{Φ:Sl->Prop}{F:Fld}{W r:Nat}{ab aa:Aa (gV×D)}{wf ef:Af->Int}(G:GF F) (hW:W<=8) (hH:r<=8) (hw:∀ x∈F.rows++F.cols,kG ab (Sum.inr x)=some (.int (wf x))) (he:∀ p∈F.al,kG aa (Sum.inr p.2.1)=some (.int (ef p.2.1))/\kJ (ef p.2.1))
  (ah:Φ (.o (.k (hO (qI F wf ef W r))))) :
  ∃ t,qT (tO kQ P w K mg base ["field","width","height","words","edges","told","worths","ways"] "field_laid" (lQ sF) f cdv A outer s H E).nox ((sD sF).tail.tail) t/\t dk { nx:=λ_=>Φ (.v .e),rt:=Φ } [.v (lA F),.v (.int W),.v (.int r),.v (.k ab),.v (.k aa),.n,.n,.n]:=by
 have d:=nL hr;have O:=G.la;refine⟨_,(hB (kI 5 Br.nd (lU I (hr.mono (by decide)) (by rfl) j.m j.k j.b (dK (dT 0) (dK (dT 1) (dK (dT 2) (dK (dT 3) (dK (dT 4) eI))))))) (hB (kI 6 Br.nd (lU U (hr.mono (by decide)) (by rfl) l.m l.k l.b (dK (kN lG lH 1 (dT 2)) eI))) (hB (kI 7 Br.nd (nF (vW rfl) wI T.dict cS (dK (rH ["output","name","down","right"] [] [] (nN (kT d 0 eH)) (λ_ _ _ _ _=>(pJ (n:=4) rfl (kW (kH 0 tH) (kW (kH 1 tH) (kW (kH 2 tH) (kW (kH 3 tH) oS)))))) (λ_ _ _ _ _=>(lE (dK (dT 0) (dK (lE (dK (dT 2) (dK (dT 3) eI))) eI))))) eI))) (kR (mG (nF (vW rfl) wI T.dict cS (dK (rH ["name"] ["ways","told","worths"] [7,5,6] (nN (qD d (kT d 0 eH) eH)) (λ_ _ _ _ _=>(kH 0 W9)) (λ_ _ _ _ _=>(lE (dK (dT 0) (dK (lU ac (hr.mono (by decide)) (by rfl) J.m J.k J.b (dK (dT 0) (dK (Ou d (pv 1) (dT 0)) (dK (dT 2) (dK (dT 3) eI))))) eI))))) eI))))))),?_⟩;refine hI (λc=>c=[.v (lA F),.v (.int W),.v (.int r),.v (.k ab),.v (.k aa),.v (.T (tt F.C.outs (kS F wf ef W r))),.n,.n]) (λN a=>⟨F,W,r,ab,aa,wf,ef,rfl,G,hW,hH,hw,he,λ_=>⟨.inl rfl,a _ rfl⟩⟩) ?_;rintro _ rfl;refine hI (λc=>c=[.v (lA F),.v (.int W),.v (.int r),.v (.k ab),.v (.k aa),.v (.T (tt F.C.outs (kS F wf ef W r))),.v (qC (W+r)),.n]) (λN a=>⟨rfl,W+r,by simp,by omega,.inl rfl,a _ rfl⟩) ?_;rintro _ rfl;refine hI (λc=>c=[.v (lA F),.v (.int W),.v (.int r),.v (.k ab),.v (.k aa),.v (.T (tt F.C.outs (kS F wf ef W r))),.v (qC (W+r)),.o (.k (tK F.al))]) (λN a=>?_) ?_
 .unfold tT dC aC;refine rG F.al lX (λp=>.t [.str p.1,.t [.int p.2.2.1,.int p.2.2.2]]) [.v (lA F),.v (.int W),.v (.int r),.v (.k ab),.v (.k aa),.v (.T (tt F.C.outs (kS F wf ef W r))),.v (qC (W+r)),.n] (λM h=>⟨rfl,_,rfl,h⟩) (by omega) (λi p L z e u y=>⟨rfl,rfl,by show 2<=1000;decide,by show 2<=1000;decide,u,y⟩) ?_;have q:qY (F.al.map λp=>D.t [.str p.1,.t [.int p.2.2.1,.int p.2.2.2]])=some (tK F.al):=by
   rw[yW (g:=λp:Af×Af×Int×Int=>((Sum.inr p.1:gV),D.t [.int p.2.2.1,.int p.2.2.2])) (λp=>⟨.str p.1,rfl,rfl⟩)];rfl
  refine⟨_,q,by simp[tK];omega,?_⟩;rw[Jb _ _ (by
   have e:((tK F.al).map (·.1))=(F.al.map (·.1)).map (Sum.inr:Af->gV):=by simp[tK,cI]
   rw[eZ,e];exact Ga G.an),eZ]
  exact a _ rfl
 rintro _ rfl;have lo:=G.gc.lo;have B:=Lu (F:=F) (wf:=wf) (ef:=ef) (W:=W) (H:=r) r (aP _);unfold rF dC aC;refine rG F.C.outs D.str (λo=>.t [.str o,.int (mJ (kS F wf ef W r) (pX F.al o) o (kS F wf ef W r))]) [.v (lA F),.v (.int W),.v (.int r),.v (.k ab),.v (.k aa),.v (.T (tt F.C.outs (kS F wf ef W r))),.v (qC (W+r)),.o (.k (tK F.al))] (λM h=>⟨rfl,_,rfl,_,rfl,h⟩) (by omega) (λi o L z e u y=>?_) ?_
 .refine⟨rfl,_,rfl,o,pX F.al o,F.C.outs,kS F wf ef W r,W+r,?_,aW e,B,by omega,.inr rfl,by show 2<=1000;decide,u,y⟩;rw[<- G6]
 have q:qY (F.C.outs.map λo=>D.t [.str o,.int (mJ (kS F wf ef W r) (pX F.al o) o (kS F wf ef W r))])=some (hO (qI F wf ef W r)):=by
  rw[yW (g:=λo=>((Sum.inr o:gV),D.int (mJ (kS F wf ef W r) (pX F.al o) o (kS F wf ef W r)))) (λn=>⟨.str n,rfl,rfl⟩)];simp[hO,qI]
 refine⟨_,q,by rw[sL];simp[qI];omega,?_⟩;rw[zV (by simpa [qI,cI] using G.gc.ond)];exact ah
end
def J9:RD:=λh e f=>∃ (F:Fld) (W c:Nat) (b a:Aa (gV×D)) (wf d:Af->Int),e=[lA F,.int W,.int c,.k b,.k a]/\GF F/\W<=8/\c<=8/\(∀ x∈F.rows++F.cols,kG b (Sum.inr x)=some (.int (wf x)))/\(∀ p∈F.al,kG a (Sum.inr p.2.1)=some (.int (d p.2.1))/\kJ (d p.2.1)) /\
 f (.o (.k (hO (qI F wf d W c))))
section
variable {P:Ah}{K:kC}
theorem Ts (F:Fun K "field_laid" "field_laid" sF f fd) (T:Txt U) (g:Gd K U "check_there" vA ["names","given"] fT ac) (o:Gd K U "told_at_places" uT ["field","width","height","words","edges"] fA aa) (C:Gd K U "place_worths" tA ["count"] fW ae) (J:Gd K U "summed" uB ["name","way","told","worths"] fS ab)
  (j:FnOk P w K U base kQ 1 fT ac ["names","given"] (kY K En)) (l:FnOk P w K U base kQ 3 fA aa ["field","width","height","words","edges"] (kY K E7)) (r:FnOk P w K U base kQ 1 fW ae ["count"] (kY K Ao)) (I:FnOk P w K U base kQ 1 fS ab ["name","way","told","worths"] (kY K Ey)) :
  FnOk P w K U base kQ 4 f fd ["field","width","height","words","edges"] (kY K J9):=by
 refine F.okD (k:=3) Br (λO S R ⟨_,_,_,_,_,_,_,e,_⟩=>by rw[e];rfl) (by decide) λy A q s H E O S R t hR=>?_
 have B:=nL t;obtain⟨d,W,u,c,a,wf,ef,rfl,G,hW,Z,hw,Q,L⟩:=hR;have la:=G.la;have lr:=G.lr;have lc:=G.lc;obtain⟨t3,Y,k3⟩:=Pn (f:=f) (fd:=fd) (cdv:=y) (A:=A) (outer:=q) (s:=s) (H:=H) (E:=E) T o C J l r I t (dk:=O) (Φ:=R) G hW Z hw Q L;refine⟨_,hB (oW (lU j (t.mono (by decide)) (by rfl) g.m g.k g.b (dK (kE lG lH (kT B 0 eH) (kT B 0 eH)) (dK (dT 3) eI)))) (hB (oW (lU j (t.mono (by decide)) (by rfl) g.m g.k g.b (dK (rH ["output","name","down","right"] [] [] (nN (kT B 0 eH)) (λ_ _ _ _ _=>(pJ (n:=4) rfl (kW (kH 0 tH) (kW (kH 1 tH) (kW (kH 2 tH) (kW (kH 3 tH) oS)))))) (λ_ _ _ _ _=>(dT 1))) (dK (dT 4) eI)))) Y),?_⟩;refine hI (λM=>M=[.v (lA d),.v (.int W),.v (.int u),.v (.k c),.v (.k a),.n,.n,.n]) (λN z=>?_) ?_
 .refine⟨rfl,_,rfl,rfl,_,rfl,by rw[aD,aD];omega,d.rows++d.cols,c,.inl (by rw[aT]),λx D=>⟨_,hw x D⟩,.inl rfl,z _ rfl⟩
 rintro _ rfl;refine hI (λM=>M=[.v (lA d),.v (.int W),.v (.int u),.v (.k c),.v (.k a),.n,.n,.n]) (λN z=>?_) ?_
 .unfold Lk A4 aC;refine rG d.al lX (λp=>.str p.2.1) [.v (lA d),.v (.int W),.v (.int u),.v (.k c),.v (.k a),.n,.n,.n] (λΨ h=>⟨rfl,_,rfl,h⟩) (by omega) (λi p ys Nx e V X=>⟨rfl,rfl,V,X⟩) ?_;refine⟨d.al.map (·.2.1),a,.inr (by rw[bG];rfl),λx D=>?_,.inl rfl,z _ rfl⟩;obtain⟨p,hp,rfl⟩:=bE.mp D;exact⟨_,(Q p hp).1⟩
 rintro _ rfl;exact k3
end
def sg (f:Nat->Int):Nat->Int
 | 0=>0
 | n+1=>sg f n+f n
theorem mQ:∀ {n:Nat},(∀ i,i<n->f i=g i)->sg f n=sg g n
 | 0,_=>rfl
 | n+1,h=>by show sg f n+f n=sg g n+g n;rw[mQ λi a=>h i (by omega),h n (by omega)]
theorem Dc:∀ n,sg (λi=>f i+g i) n=sg f n+sg g n
 | 0=>rfl
 | n+1=>by show sg (λi=>f i+g i) n+(f n+g n)=sg f n+f n+(sg g n+g n);rw[Dc n];omega
theorem tV (c:Int):∀ n,sg (λi=>c*f i) n=c*sg f n
 | 0=>(dB c).symm
 | n+1=>by show sg (λi=>c*f i) n+c*f n=c*(sg f n+f n);rw[tV c n,jD]
theorem yZ:∀ n,sg (λ_=>0) n=0
 | 0=>rfl
 | n+1=>by show sg (λ_=>0) n+0=0;rw[yZ n];rfl
theorem yB:∀ n,sg (λi=>2 ^ i) n=2 ^ n-1
 | 0=>rfl
 | n+1=>by show sg (λi=>2 ^ i) n+2 ^ n=_;rw[yB n,Int.pow_succ];omega
theorem xJ (a:Int) (g:0<=a):∀ W,sg (λj=>2 ^ j*(a/2 ^ j%2)) W=a%2 ^ W
 | 0=>by show (0:Int)=a%2 ^ 0;rw[Int.pow_zero,Int.emod_one]
 | W+1=>by
  show sg (λj=>2 ^ j*(a/2 ^ j%2)) W+2 ^ W*(a/2 ^ W%2)=_;rw[xJ a g W,Int.pow_succ];have e:(0:Int)<2 ^ W:=Int.pow_pos (by decide);have f:=iX a (2 ^ W);have b:=iX (a/2 ^ W) 2;have c:a/(2 ^ W*2)=a/2 ^ W/2:=(Int.ediv_ediv_of_nonneg (Int.le_of_lt e)).symm;have d:=iX a (2 ^ W*2);rw[c] at d;have h:(2:Int) ^ W*(a/2 ^ W)=2 ^ W*(a/2 ^ W%2)+2 ^ W*2*(a/2 ^ W/2):=by
   rw[eS,<- jD,b]
  omega
theorem Db (h:Int->Int):∀ n,sg (λi=>if 1<=(i:Int) then h ((i:Int)-1) else 0) (n+1)=sg (λi=>h i) n
 | 0=>rfl
 | n+1=>by
  show sg _ (n+1)+(if 1<=((n+1:Nat):Int) then h (((n+1:Nat):Int)-1) else 0)=sg (λi=>h i) n+h n;rw[Db h n,aH (by omega),show ((n+1:Nat):Int)-1=n by omega]
theorem Kc (h:Int->Int) (n:Nat):sg (λi=>if (i:Int)+1<((n+1:Nat):Int) then h i else 0) (n+1)=sg (λi=>h i) n:=by
 show sg _ n+(if (n:Int)+1<((n+1:Nat):Int) then h n else 0)=_;rw[aE (by omega),eA];exact mQ λi a=>aH (by omega)
def In (n:Nat) (a:Int):Prop:=0<=a/\a<n
instance (n:Nat) (a:Int):Decidable (In n a):=inferInstanceAs (Decidable (_/\_))
theorem Gj (hd:d=0\/d=1\/d = -1) (h:Int->Int) (n:Nat):sg (λi=>if In n ((i:Int)-d) then h ((i:Int)-d) else 0) n=sg (λi=>if In n ((i:Int)+d) then h i else 0) n:=by
 have a:∀ {p q:Prop} [Decidable p] [Decidable q] {x y:Int},(p↔q)->x=y->(if p then x else 0)=if q then y else 0:=λ{p q _ _ x y} e z=>by
  by_cases c:p
  .rw[aH c,aH (e.mp c),z]
  .rw[aE c,aE λz=>c (e.mpr z)]
 rcases hd with rfl | rfl | rfl
 .exact mQ λi b=>by rw[show (i:Int)-0=i by omega,show (i:Int)+0=i by omega]
 .cases n with
  | zero=>rfl
  | succ n=>exact ((mQ λi b=>a (by unfold In;omega) rfl).trans (Db h n)).trans ((mQ λi b=>a (by unfold In;omega) rfl).trans (Kc h n)).symm
 .cases n with
  | zero=>rfl
  | succ n=>exact ((mQ λi b=>a (by unfold In;omega) (by rw[show (i:Int) - -1=i+1 by omega])).trans (Kc (λx=>h (x+1)) n)).trans ((mQ λi b=>a (by unfold In;omega) (by rw[show (i:Int)-1+1=i by omega])).trans (Db (λx=>h (x+1)) n)).symm
def gs (W g:Nat) (f:Nat->Nat->Int):Int:=sg (λi=>sg (λj=>2 ^ (i+j)*f i j) W) g
section
variable {W:Nat}
theorem rL (h:∀ i j,i<l->j<W->f i j=g i j):gs W l f=gs W l g:=mQ λi a=>mQ λj b=>by rw[h i j a b]
theorem sO:gs W l (λi j=>f i j+g i j)=gs W l f+gs W l g:=by
 unfold gs;rw[<- Dc];refine mQ λi _=>?_
 rw[<- Dc];exact mQ λj _=>jD _ _ _
theorem tW (c:Int):gs W g (λi j=>c*f i j)=c*gs W g f:=by
 unfold gs;rw[<- tV];refine mQ λi _=>?_
 rw[<- tV];exact mQ λj _=>by rw[Int.mul_left_comm]
theorem uY {p:Type}{f:p->Nat->Nat->Int}:∀ (l:Aa p),gs W o (λi j=>(l.map λx=>f x i j).sum)=(l.map λx=>gs W o (f x)).sum
 | []=>by
  show sg (λi=>sg (λj=>2 ^ (i+j)*0) W) o=0;rw[mQ (g:=λ_=>0) λi _=>(mQ (g:=λ_=>0) λj _=>dB _).trans (yZ W),yZ]
 | x::l=>by
  show gs W o (λi j=>f x i j+(l.map λx=>f x i j).sum)=gs W o (f x)+(l.map λx=>gs W o (f x)).sum;rw[sO,uY l]
theorem Az (a b:Nat->Int):gs W Ht (λi j=>a i*b j)=sg (λi=>2 ^ i*a i) Ht*sg (λj=>2 ^ j*b j) W:=by
 unfold gs;rw[iS,<- tV];refine mQ λi _=>?_
 rw[iS,<- tV];exact mQ λj _=>by rw[Int.pow_add,eS,eS,Int.mul_left_comm (2 ^ j)]
theorem Jj:gs W g (λ_ _=>1)=(2 ^ g-1)*(2 ^ W-1):=by
 have:=Az (W:=W) (Ht:=g) (λ_=>1) λ_=>1
 simp only[gB] at this;rw[this,yB,yB]
theorem N9 (h:0<=x/\x<2 ^ j):gs W j (λi _=>x/2 ^ i%2)=x*(2 ^ W-1):=by
 rw[rL (g:=λi _=>x/2 ^ i%2*1) λ_ _ _ _=>(gB _).symm,Az (λi=>x/2 ^ i%2) λ_=>1,xJ x h.1,iT h.1 h.2,<- yB];simp only[gB]
theorem Pe (h:0<=x/\x<2 ^ W):gs W l (λ_ j=>x/2 ^ j%2)=x*(2 ^ l-1):=by
 rw[rL (g:=λ_ j=>1*(x/2 ^ j%2)) λ_ _ _ _=>(jV _).symm,Az (λ_=>1) λj=>x/2 ^ j%2,xJ x h.1,iT h.1 h.2,<- yB,iS x];simp only[gB]
theorem Tc (h:0<=x/\x<2 ^ g) (k:0<=y/\y<2 ^ W):gs W g (λi j=>x/2 ^ i%2*(y/2 ^ j%2))=x*y:=by
 rw[Az (λi=>x/2 ^ i%2) λj=>y/2 ^ j%2,xJ x h.1,xJ y k.1,iT h.1 h.2,iT k.1 k.2]
def Pl (W g:Nat) (a b:Int):Prop:=In g a/\In W b
instance (a b:Int):Decidable (Pl W Ht a b):=inferInstanceAs (Decidable (_/\_))
def Cn (d r:Int):Prop:=(d=0/\r=1)\/(d=1/\r=0)\/(d=1/\r=1)\/(d=1/\r = -1)
theorem Oo (st:Cn d r) (u:Int->Int->Int) (e:Int) :
  gs W Ht (λi j=>if Pl W Ht ((i:Int)-d) ((j:Int)-r) then u ((i:Int)-d) ((j:Int)-r) else e)-2 ^ (d+r).toNat*gs W Ht (λi j=>u i j) =
   gs W Ht (λi j=>if Pl W Ht ((i:Int)-d) ((j:Int)-r) then 0 else 1)*e-2 ^ (d+r).toNat*gs W Ht (λi j=>if Pl W Ht ((i:Int)+d) ((j:Int)+r) then 0 else u i j):=by
 have hd:d=0\/d=1\/d = -1:=by rcases st with⟨a,b⟩ | ⟨a,b⟩ | ⟨a,b⟩ | ⟨a,b⟩<;>omega
 have h:r=0\/r=1\/r = -1:=by rcases st with⟨a,b⟩ | ⟨a,b⟩ | ⟨a,b⟩ | ⟨a,b⟩<;>omega
 have s:0<=d+r:=by rcases st with⟨a,b⟩ | ⟨a,b⟩ | ⟨a,b⟩ | ⟨a,b⟩<;>omega
 have k:gs W Ht (λi j=>if Pl W Ht ((i:Int)-d) ((j:Int)-r) then u ((i:Int)-d) ((j:Int)-r) else 0)=2 ^ (d+r).toNat*gs W Ht (λi j=>if Pl W Ht ((i:Int)+d) ((j:Int)+r) then u i j else 0):=by
  let g:Int->Int->Int:=λa b=>2 ^ (a+b+(d+r)).toNat*u a b
  have l:gs W Ht (λi j=>if Pl W Ht ((i:Int)-d) ((j:Int)-r) then u ((i:Int)-d) ((j:Int)-r) else 0)=sg (λi=>if In Ht ((i:Int)-d) then sg (λj=>if In W ((j:Int)-r) then g ((i:Int)-d) ((j:Int)-r) else 0) W else 0) Ht:=by
   unfold gs;refine mQ λi f=>?_
   by_cases q:In Ht ((i:Int)-d)
   .rw[aH q];refine mQ λj c=>?_
    dsimp only;by_cases z:In W ((j:Int)-r)
    .rw[aH (show Pl W Ht _ _ from ⟨q,z⟩),aH z];show _=2 ^ ((i:Int)-d+((j:Int)-r)+(d+r)).toNat*_;rw[show ((i:Int)-d+((j:Int)-r)+(d+r)).toNat=i+j by omega]
    .rw[aE λy=>z y.2,aE z,dB]
   .rw[aE q,mQ (g:=λ_=>0) λj c=>by dsimp only;rw[if_neg λy=>q y.1,Int.mul_zero],yZ]
  rw[l,Gj hd (λa=>sg (λj=>if In W ((j:Int)-r) then g a ((j:Int)-r) else 0) W)];unfold gs;rw[<- tV];refine mQ λi f=>?_
  by_cases q:In Ht ((i:Int)+d)
  .rw[aH q,Gj h (g i),<- tV];refine mQ λj c=>?_
   dsimp only;by_cases z:In W ((j:Int)+r)
   .rw[aH z,aH (show Pl W Ht _ _ from ⟨q,z⟩)];show 2 ^ ((i:Int)+(j:Int)+(d+r)).toNat*u i j=_;rw[show ((i:Int)+(j:Int)+(d+r)).toNat=(d+r).toNat+(i+j) by omega,Int.pow_add,eS]
   .rw[aE z,aE λy=>z y.2,dB,dB]
  .rw[aE q,<- tV,mQ (g:=λ_=>0) λj c=>by dsimp only;rw[if_neg λy=>q y.1,Int.mul_zero,Int.mul_zero],yZ]
 have m:gs W Ht (λi j=>if Pl W Ht ((i:Int)-d) ((j:Int)-r) then u ((i:Int)-d) ((j:Int)-r) else e)=gs W Ht (λi j=>if Pl W Ht ((i:Int)-d) ((j:Int)-r) then u ((i:Int)-d) ((j:Int)-r) else 0)+e*gs W Ht (λi j=>if Pl W Ht ((i:Int)-d) ((j:Int)-r) then 0 else 1):=by
  rw[<- tW,<- sO];refine rL λi j _ _=>?_
  by_cases q:Pl W Ht ((i:Int)-d) ((j:Int)-r)
  .rw[aH q,aH q,aH q,dB,eA]
  .rw[aE q,aE q,aE q,gB,Int.zero_add]
 have n:gs W Ht (λi j=>u i j)=gs W Ht (λi j=>if Pl W Ht ((i:Int)+d) ((j:Int)+r) then u i j else 0)+gs W Ht (λi j=>if Pl W Ht ((i:Int)+d) ((j:Int)+r) then 0 else u i j):=by
  rw[<- sO];refine rL λi j _ _=>?_
  by_cases q:Pl W Ht ((i:Int)+d) ((j:Int)+r)
  .rw[aH q,aH q,eA]
  .rw[aE q,aE q,Int.zero_add]
 rw[m,k,n,jD,iS e];omega
end
def vP (F:Fld) (wf g:Af->Int) (W i j:Nat):Af->Int:=uF F wf g (lZ F wf g i (kS F wf g W i) j) i j
theorem Xo:mZ (g++[e]) a b=(mZ g a b).or (if e.1=(a,b) then some e.2 else none):=by
 unfold mZ;rw[List.find?_append];cases h:g.find? λe=>decide (e.1=(a,b)) with
 | some v=>rfl
 | none =>
  rw[List.find?_singleton];by_cases q:e.1=(a,b)
  .rw[aH (cC q),aH q];rfl
  .rw[aE (λz=>q (dR z)),aE q];rfl
section
variable {F:Fld}{W:Nat}
theorem B6 {i:Nat}{g:mT}(h:∀ b,mZ g i b=none) (a b:Int):∀ j:Nat,mZ (lZ F wf l i g j) a b=if a=i/\In j b then some (uF F wf l (lZ F wf l i g b.toNat) i b.toNat) else mZ g a b
 | 0=>by rw[aE (λz=>by have:=z.2;unfold In at this;omega)];rfl
 | j+1=>by
  show mZ (lZ F wf l i g j++[_]) a b=_;rw[Xo,B6 h a b j];by_cases c:a=i
  .subst c;by_cases d:In j b
   .rw[aH ⟨rfl,d⟩,aH (show (i:Int)=i/\In (j+1) b from ⟨rfl,by unfold In at d |-;omega⟩)];rfl
   .rw[aE (show ¬ ((i:Int)=i/\In j b) from λz=>d z.2),h b];by_cases e:b=j
    .subst e;rw[aH rfl,aH (show (i:Int)=i/\In (j+1) j from ⟨rfl,by unfold In;omega⟩),Int.toNat_natCast];rfl
    .rw[aE (λz=>e (cO Prod.snd z).symm),aE (show ¬ ((i:Int)=i/\In (j+1) b) from λz=>by have:=z.2;unfold In at this d;omega)];rfl
  .rw[aE (show ¬ (a=i/\In j b) from λz=>c z.1),aE (show ¬ (a=i/\In (j+1) b) from λz=>c z.1),aE (λz=>c (cO Prod.fst z).symm),Option.or_none]
theorem yY (a b:Int):∀ n:Nat,mZ (kS F wf g W n) a b=if Pl W n a b then some (vP F wf g W a.toNat b.toNat) else none
 | 0=>by rw[aE (λz=>by have:=z.1;unfold In at this;omega)];rfl
 | n+1=>by
  show mZ (lZ F wf g n (kS F wf g W n) W) a b=_;rw[B6 (λc=>by rw[yY n c n,aE (λz=>by have:=z.1;unfold In at this;omega)]) a b W,yY a b n];by_cases e:a=n
  .subst e;by_cases d:In W b
   .rw[aH ⟨rfl,d⟩,aH ⟨by unfold In;omega,d⟩,Int.toNat_natCast];rfl
   .rw[aE λz=>d z.2,aE λz=>d z.2,aE λz=>d z.2]
  .rw[aE λz=>e z.1];by_cases q:Pl W n a b
   .rw[aH q,aH ⟨by have:=q.1;unfold In at this |-;omega,q.2⟩]
   .rw[aE q,aE λz=>q ⟨by have:=z.1;unfold In at this |-;omega,z.2⟩]
theorem H4 {all:mT}:∀ j:Nat,mJ all l o (lZ F wf p i g j)=mJ all l o g+sg (λj=>if uI all l i j then 2 ^ (i+j)*uF F wf p (lZ F wf p i g j) i j o else 0) j
 | 0=>(eA _).symm
 | j+1=>by
  show mJ all l o (lZ F wf p i g j++[_])=_+(sg _ j+_);rw[Aw,H4 j,gK,show ((i:Int)+(j:Int)).toNat=i+j by omega]
theorem Au {all:mT}:∀ n:Nat,mJ all g o (kS F wf l W n)=sg (λi=>sg (λj=>if uI all g i j then 2 ^ (i+j)*vP F wf l W i j o else 0) W) n
 | 0=>rfl
 | n+1=>by
  show mJ all g o (lZ F wf l n (kS F wf l W n) W)=sg _ n+_;rw[H4,Au n];rfl
theorem Rq (o:Af):mJ (kS F wf l W g) none o (kS F wf l W g)=gs W g λi j=>vP F wf l W i j o:=by
 rw[Au];rfl
theorem Xj (o:Af) (d r:Int):mJ (kS F wf l W g) (some (d,r)) o (kS F wf l W g)=gs W g λi j=>if Pl W g ((i:Int)+d) ((j:Int)+r) then 0 else vP F wf l W i j o:=by
 rw[Au];refine mQ λi _=>mQ λj _=>?_
 show (if (mZ (kS F wf l W g) ((i:Int)+d) ((j:Int)+r)).isNone=true then 2 ^ (i+j)*vP F wf l W i j o else 0)=2 ^ (i+j)*(if Pl W g ((i:Int)+d) ((j:Int)+r) then 0 else vP F wf l W i j o);rw[yY];by_cases q:Pl W g ((i:Int)+d) ((j:Int)+r)
 .rw[aH q,aH q,aE (by simp),dB]
 .rw[aE q,aE q];exact aH rfl
theorem Mr (C:i<l) (I:j<W) (st:Cn p.2.2.1 p.2.2.2):oB (lZ F wf g i (kS F wf g W i) j) g i j p=if Pl W l ((i:Int)-p.2.2.1) ((j:Int)-p.2.2.2) then vP F wf g W ((i:Int)-p.2.2.1).toNat ((j:Int)-p.2.2.2).toNat p.1 else g p.2.1:=by
 obtain⟨o,n,d,r⟩:=p;unfold oB;dsimp only at st |-;rw[B6 (λc=>by rw[yY i c i,aE (λz=>by have:=z.1;unfold In at this;omega)]),yY];by_cases q:Pl W l ((i:Int)-d) ((j:Int)-r)
 .rw[aH q];by_cases z:d=0
  .subst z;rw[aH ⟨by omega,by have:=q.2;unfold In at this |-;rcases st with⟨a,b⟩ | ⟨a,b⟩ | ⟨a,b⟩ | ⟨a,b⟩<;>omega⟩,Int.sub_zero,Int.toNat_natCast];rfl
  .rw[aE λy=>z (by omega),aH ⟨by have:=q.1;unfold In at this |-;rcases st with⟨a,b⟩ | ⟨a,b⟩ | ⟨a,b⟩ | ⟨a,b⟩<;>omega,q.2⟩]
 .rw[aE q,aE λy=>q ⟨by unfold In;omega,by have:=y.2;unfold In at this |-;omega⟩,if_neg λy=>q ⟨by have:=y.1;unfold In at this |-;omega,y.2⟩]
theorem Iy (h:x∉t.map (·.1)):look (t++u) x=look u x:=by
 induction t with
 | nil=>rfl
 | cons p t a =>
  rw[bV,sN,aE λz=>h (by rw[aI,z];exact aM),a λz=>h (aV _ z)]
theorem Hi {j:Type}{k:j->Af}{v:j->Int}:∀ {g:Aa j}{p:j},(g.map k).Nodup->p∈g->look (g.map λp=>(k p,v p)) (k p)=v p
 | [],_,_,h=>nomatch h
 | q::g,p,a,h=>by
  rw[aI] at a;obtain⟨b,c⟩:=bP.mp a;rw[aI,sN];rcases aJ.mp h with rfl | h
  .rw[aH rfl]
  .rw[aE λz=>b (by rw[show k q=k p from z];exact bE.mpr ⟨p,h,rfl⟩),Hi c h]
theorem xN:∀ (gs:Aa (Af×Af×Aa Af)) (j:Af->Int) (x:Af),x∉gs.map (·.1)->nE j gs x=j x
 | [],_,_,_=>rfl
 | g::gs,j,x,h=>by
  show nE (xG j g) gs x=j x;rw[xN gs _ x λz=>h (aV _ z)];exact aE λz=>h (by rw[z];exact aM)
theorem Bv (G:GF F) (l:x∈F.al.map (·.2.1)++F.rows++F.cols):vP F wf g W i j x=look (pF F wf g (lZ F wf g i (kS F wf g W i) j) i j) x :=
 xN F.C.gates _ x λz=>(aO.mp G.gc.nd).2.2 x (G.ins.mem_iff.mpr l) x z rfl
theorem Lj (G:GF F) (g:x∈F.rows):vP F wf l W i j x=wf x/2 ^ i%2:=by
 obtain⟨b,_,e⟩:=aO.mp G.nin;obtain⟨c,d,a⟩:=aO.mp b;rw[Bv G (bM _ (aN _ g))];unfold pF;rw[Cs (by simp only[aT,bG];exact aN _ (bE.mpr ⟨x,g,rfl⟩)),Iy (by rw[bG];exact λz=>a x z x g rfl),A8 g]
theorem Ja (G:GF F) (g:x∈F.cols):vP F wf l W i j x=wf x/2 ^ j%2:=by
 obtain⟨b,_,a⟩:=aO.mp G.nin;rw[Bv G (aN _ g)];unfold pF;rw[Iy (by simp only[aT,bG];exact λz=>a x (by simpa [cI] using z) x g rfl),A8 g]
theorem V4 (G:GF F) (r:i<o) (C:j<W) (g:p∈F.al):vP F wf l W i j p.2.1=if Pl W o ((i:Int)-p.2.2.1) ((j:Int)-p.2.2.2) then vP F wf l W ((i:Int)-p.2.2.1).toNat ((j:Int)-p.2.2.2).toNat p.1 else l p.2.1:=by
 obtain⟨c,_,f⟩:=aO.mp G.nin;obtain⟨b,d,e⟩:=aO.mp c;have a:p.2.1∈F.al.map (·.2.1):=bE.mpr ⟨p,g,rfl⟩;rw[Bv G (bM _ (bM _ a)),<- Mr r C (G.st p g)];unfold pF;rw[Cs (by simp only[aT,bG];exact bM _ a),Cs (by rw[bG];exact a)];exact Hi (k:=λp:Af×Af×Int×Int=>p.2.1) b g
theorem Ax (G:GF F) (l:∀ p∈F.al,kJ (o p.2.1)) (h:qZ F g):∀ j,qZ F (lZ F wf o i g j)
 | 0=>h
 | j+1=>Lb G (Ax G l h j) l i j
theorem Ep (G:GF F) (g:∀ p∈F.al,kJ (j p.2.1)):∀ n,qZ F (kS F wf j W n)
 | 0=>λe h=>nomatch h
 | n+1=>Ax G g (Ep G g n) W
abbrev nK (x:Af):MK:=.inl (.inr x)
abbrev pK (x y:Af):MK:=.inr [.inr x,.inr y]
def vO (F:Fld):Aa Af:=F.C.outs.filter λo=>decide (o∉F.al.map (·.1))
def sS (F:Fld) (w:MK->Int) (v:Af->Int):Int :=
 w (nK "")+(F.rows.map λr=>w (nK r)*v r+(F.cols.map λc=>w (pK r c)*(v r*v c)).sum).sum+(F.cols.map λc=>w (nK c)*v c).sum +
  (F.al.map λp=>w (nK p.2.1)*(v p.2.1 + -(2 ^ (p.2.2.1+p.2.2.2).toNat)*v p.1)).sum+((vO F).map λo=>w (nK o)*v o).sum
def vG (F:Fld) (w:MK->Int):Prop:=∀ a:Af->Int,(∀ x∈F.C.ins,kJ (a x))->sS F w (nR F.C a)=0
def uW (W g:Nat) (d r:Int):Int:=gs W g λi j=>if Pl W g ((i:Int)-d) ((j:Int)-r) then 0 else 1
def pA (F:Fld) (wf j:Af->Int) (W g:Nat) (o:Af):Int:=mJ (kS F wf j W g) (pX F.al o) o (kS F wf j W g)
def Bk (F:Fld) (w:MK->Int) (W g:Nat) (wf l j:Af->Int):Int :=
 w (nK "")*(2 ^ W-1)*(2 ^ g-1)+(F.rows.map λr=>w (nK r)*wf r*(2 ^ W-1)+(F.cols.map λc=>w (pK r c)*wf r*wf c).sum).sum+(F.cols.map λc=>w (nK c)*wf c*(2 ^ g-1)).sum +
  (F.al.map λp=>w (nK p.2.1)*(uW W g p.2.2.1 p.2.2.2*l p.2.1-j p.1*2 ^ (p.2.2.1+p.2.2.2).toNat)).sum+((vO F).map λo=>w (nK o)*j o).sum
theorem S7 (j:(al.map (·.1)).Nodup) (g:p∈al):pX al p.1=some p.2.2:=by
 unfold pX;induction al with
 | nil=>nomatch g
 | cons q al a =>
  obtain⟨b,c⟩:=bP.mp (show (q.1::al.map (·.1)).Nodup from j);rw[cB];rcases aJ.mp g with rfl | h
  .rw[cC rfl];rfl
  .rw[bJ λz=>b (by rw[z];exact bE.mpr ⟨p,h,rfl⟩)];exact a c h
theorem Oz (h:o∉al.map (·.1)):pX al o=none:=by
 unfold pX;rw[gC.mpr λp a=>by simp only[gP];exact λz=>h (z▸bE.mpr ⟨p,a,rfl⟩)];rfl
theorem yK {l:Type}{f g:l->Int}:∀ {j:Aa l},(∀ x∈j,f x=g x)->(j.map f).sum=(j.map g).sum:=λh=>by rw[eN h]
theorem Pp (G:GF F) (I:vG F w) (U:∀ x∈F.rows,0<=wf x/\wf x<2 ^ C) (T:∀ x∈F.cols,0<=wf x/\wf x<2 ^ W) (J:∀ p∈F.al,kJ (l p.2.1)):Bk F w W C wf l (pA F wf l W C)=0:=by
 have z:gs W C (λi j=>sS F w (vP F wf l W i j))=0:=by
  rw[rL (f:=λi j=>sS F w (vP F wf l W i j)) (g:=λ_ _=>(([]:Aa Int).map λx=>x).sum) λi j e m=>I _ λx q=>(Bf G (Ax G J (Ep G J i) j) J i j x q).2];exact uY (f:=λx _ _=>x) []
 rw[<- z];unfold sS Bk;rw[sO,sO,sO,sO,uY,uY,uY,uY]
 congr 1
 .congr 1
  .congr 1
   .congr 1
    .rw[rL (g:=λ_ _=>w (nK "")*1) λ_ _ _ _=>(gB _).symm,tW,Jj,eS,iS (2 ^ W-1)]
    .refine yK λr h=>?_
     rw[sO,tW,rL (λi j _ _=>Lj G h),N9 (U r h),uY,eS]
     congr 1
     refine yK λc k=>?_
     rw[tW,rL (λi j _ _=>by rw[Lj G h,Ja G k]),Tc (U r h) (T c k),eS]
   .refine yK λc k=>?_
    rw[tW,rL (λi j _ _=>Ja G k),Pe (T c k),eS]
  .refine yK λp d=>?_
   rw[tW,sO,tW,rL (λi j e m=>V4 G e m d)];have:=Oo (W:=W) (Ht:=C) (G.st p d) (λa b=>vP F wf l W a.toNat b.toNat p.1) (l p.2.1);simp only[bQ] at this;unfold pA uW;rw[S7 G.an d,Xj,Int.neg_mul,<- Int.sub_eq_add_neg,this,iS (gs W C _) (2 ^ _)]
 .refine yK λo n=>?_
  unfold pA;rw[tW,Oz (dR (jE.mp n).2),Rq]
end
end Lw
namespace L2
open PySem PySem.W PySem.Spec PyProof.Rows Lw
section
variable {P:Ah}
theorem kU.grow (k:∀ b o,h.get? b=some o->g.get? b=some o) (a:kU P w h x v):kU P w g x v:=by
 rcases x with x | d
 .exact a
 .obtain⟨b,e,o,items,n,c,rest⟩:=a;exact⟨b,e,o,items,n,k _ _ c,rest⟩
def sP (more:Aa (MK×Ac×Ac)):Aa (MK×Ac×Ac):=more.foldl (λa q=>pE a q.1 q.2.1 q.2.2) []
theorem Rm (g:Aa (MK×Ac×Ac)) (k:MK) (a v:Ac):(pE g k a v).length<=g.length+1:=by
 unfold pE;by_cases h:(mE g k).isSome=true
 .rw[aH h,aD];omega
 .rw[aE h,bI];exact aP _
theorem Oe (g:∀ x∈j,kU P w h x.1 x.2.1) (l:kU P w h k a):∀ x∈pE j k a v,kU P w h x.1 x.2.1:=λx b=>by
 unfold pE at b;by_cases e:(mE j k).isSome=true
 .rw[aH e] at b;obtain⟨y,c,rfl⟩:=bE.mp b;unfold pM;by_cases z:y.1=k
  .rw[aH z];exact g y c
  .rw[aE z];exact g y c
 .rw[aE e] at b;rcases aZ.mp b with b | b
  .exact g x b
  .rw[bA.mp b];exact l
theorem Lf {more:Aa (MK×Ac×Ac)}{i:Nat}{q:MK×Ac×Ac}(h:more[i]?=some q):sP (more.take (i+1))=pE (sP (more.take i)) q.1 q.2.1 q.2.2:=by
 unfold sP;rw[cY,h,List.foldl_append];rfl
theorem Jt {more:Aa (MK×Ac×Ac)}{h:Ag}(g:∀ x∈more,kU P w h x.1 x.2.1):∀ i,i<=more.length->(sP (more.take i)).length<=i/\∀ x∈sP (more.take i),kU P w h x.1 x.2.1
 | 0,_=>⟨aP _,λx b=>(bZ b).elim⟩
 | i+1,d=>by
  obtain⟨c,a⟩:=Jt g i (by omega);rw[Lf (aL (show i<more.length by omega))];exact⟨bS (Rm _ _ _ _) (by omega),Oe a (g _ (gW _))⟩
theorem Qb (hh:A.handled=none) (hu:A.units+2<cLine) (hl:s.heap.get? l=some o) (U:o.cls = .type "list") (hd:o.dict=none) (C:o.data = .seq items nl)
  (hn:more.length=items.size)
  (T:∀ (i:Nat) v,items[i]?=some v->∃ (t:Ad) (o:Obj) (m:Nat) (q:MK×Ac×Ac),v = .ref t/\s.heap.get? t=some o/\o.cls = .type "tuple" /\ o.data = .seq #[q.2.1,q.2.2] m/\more[i]?=some q)
  (J:∀ q∈more,kU P w s.heap q.1 q.2.1) (hb:items.size<=sizeLine)
  (h:∀ (g:Ag) (I:Nat),(∃ o j p,g.get? s.heap.objs.size=some o/\o.ExactDict/\o.data = .dict j p/\j.toList=(sP more).map (oQ P w)/\((sP more).map (·.1)).Nodup)->(∀ b o,s.heap.get? b=some o->g.get? b=some o)->Q (.ref s.heap.objs.size) { s with heap:=g,toks:=I }) :
  wpAny (model P w) A (call (.type "dict") [.ref l]) Q E s:=by
 refine L3 (λi g=>∃ o j p,g.get? s.heap.objs.size=some o/\o.ExactDict/\o.data = .dict j p/\j.toList=(sP (more.take i)).map (oQ P w)/\((sP (more.take i)).map λx:MK×Ac×Ac=>x.1).Nodup) hh hl U hd C (λn e=>⟨_,#[],0,e,⟨rfl,rfl,rfl⟩,rfl,rfl,jQ⟩) (λi n u k ⟨o,j,p,H,r⟩=>⟨o,j,p,k _ _ (aP _) H,r⟩) (λi v K=>?_) λg I m=>h g I (by rw[bN (by omega)] at m;exact m)
 obtain⟨t,N,m,q,rfl,n,u,F,a⟩:=T i v K;have S:i<more.length:=(aG.mp a).1;refine⟨t,N,m,_,_,rfl,n,u,F,λB W Q E G y ⟨V,j,p,g1,g2,g3,z,D⟩ k=>?_⟩;obtain⟨X,R⟩:=Jt J i (by omega);refine Kk (G hu) ⟨g1,g2,g3,z,λx L=>(R x L).grow y,D⟩ ((J q (aW a)).grow y) (by omega) λg M f d c O=>k g _ ?_ O
 rw[Lf a];exact⟨M,f,d,c.ho,c.hc,c.hd,c.he,c.nd⟩
end
def Bq (H:Hp):Aa Ad->Aa (MK×V×V)->Prop:=Paired λt m=>H t=some (.t [m.2.1,m.2.2])/\qN H m.1 m.2.1
def oN {j:Type}(put:Aa (MK×j)->MK->j->Aa (MK×j)) (g:Aa (MK×j)) (l:Aa (MK×j)):Aa (MK×j):=l.foldl (λg m=>put g m.1 m.2) g
theorem U1 {P:Ah}(j:lP P w H h) (r:Bq H I p):∃ more:Aa (MK×Ac×Ac),more.length=p.length /\
  (∀ (i:Nat) t,I[i]?=some t->∃ (o:Obj) (m:Nat) (q:MK×Ac×Ac),h.get? t=some o/\o.cls = .type "tuple" /\ o.data = .seq #[q.2.1,q.2.2] m/\more[i]?=some q) /\
  (∀ q∈more,kU P w h q.1 q.2.1)/\∀ g C,KM H g C->KM H (oN lI g (p.map λm=>(m.1,m.2.2))) (more.foldl (λl q=>pE l q.1 q.2.1 q.2.2) C):=by
 unfold Bq at r;induction r with
 | nil=>exact⟨[],rfl,λi t e=>by simp at e,λq a=>(bZ a).elim,λ_ _ k=>k⟩
 | @cons t m I p v Q E =>
  obtain⟨more,G,B,A,y⟩:=E;obtain⟨s,u⟩:=v;obtain⟨z,F,b,⟨o,D,x,n,c⟩,_⟩:=j t _ s;cases b with
  | @cons _ f _ R K b =>
   cases b with
   | @cons _ N _ O L b =>
    cases b;have d:rA H m.1 f:=tQ u K;refine⟨(m.1,f,N)::more,by rw[cP,cP,G],λi M e=>?_,λq a=>?_,λg C k=>?_⟩
    .cases i with
     | zero =>
      simp at e;subst e;exact⟨o,n,_,D,x,c,rfl⟩
     | succ i=>simpa using B i M (by simpa using e)
    .rcases aJ.mp a with rfl | a
     .exact sE j d
     .exact A q a
    .exact y _ _ (k.put _ d L)
def L7 (K:kC):Aa V->Hp->VK->Prop:=λc H Q=>∃ (p:Ad) (b:Aa Ad) (a:Aa (MK×V×V)),c=[.ref p]/\kK K H p (b.map V.ref)/\Bq H b a/\a.length<=1000/\∀ d,H d=none->Q (.ref d) (upd H d (.dM (oN lI [] (a.map λm=>(m.1,m.2.2)))))
theorem Fp:∀ (j:Aa (MK×V)) (g:Aa (MK×V)),(oN lI g j).length<=g.length+j.length
 | [],g=>by simp[oN]
 | m::j,g=>by
  have a:=Fp j (lI g m.1 m.2);have b:=wN g m.1 m.2;show (oN lI (lI g m.1 m.2) j).length<=_;rw[cP];omega
section
variable {X:Cx}
theorem Ka (g:X.calm=true) (j:X.A.units+2<cLine):lS X (.type "dict") (L7 X.K):=by
 intro L s σ H xs us Q I r h;obtain⟨p,z,y,rfl,hq,G,hz,q⟩:=h;obtain⟨u,rfl,E⟩:=oV r;cases E;obtain⟨f,M,⟨o,n,e,P,R,S⟩,_⟩:=I.list hq;have k:=M.length;rw[aD] at k;have aa:z.length=y.length:=dQ G;obtain⟨more,ml,hm,U,T⟩:=U1 I.hok G;have d:∀ (i:Nat) v,f[i]?=some v->∃ t,z[i]?=some t/\v = .ref t:=by
  intro i v w;have hi:i<f.length:=(aG.mp w).1;have:i<z.length:=by omega
  obtain⟨u,j,E⟩:=M.get (i:=i) (x:=V.ref z[i]) (by simp[this]);rw[j] at w;cases w;cases E;exact⟨z[i],by simp[this],rfl⟩
 refine Qb (more:=more) (I.ok.hd g) j e P R S (by rw[aK];omega) ?_ U (by rw[aK];exact fK (cJ (show f.length<=1000 by omega) (by decide))) λh' tk J c=>?_
 .intro i v w;obtain⟨t,ht,rfl⟩:=d i v (by simpa using w);obtain⟨o,m,q,B,Z,l,C⟩:=hm i t ht;exact⟨t,o,m,q,rfl,B,Z,l,C⟩
 .have D:(oN lI [] (y.map λm=>(m.1,m.2.2))).length<=sizeLine:=by
   have B:=Fp (y.map λm=>(m.1,m.2.2)) [];rw[fF,aD] at B;exact fK (cJ (show (oN lI [] (y.map λm=>(m.1,m.2.2))).length<=1000 by omega) (by decide))
  obtain⟨ob,Y,W,d1,d2,d3,N,O⟩:=J;refine⟨.ref s.heap.objs.size,_,I.laid (a:=s.heap.objs.size) (o:=.dM (oN lI [] (y.map λm=>(m.1,m.2.2)))) (t':=tk) c (aP _) ?_,rfl,q _ I.fresh⟩;refine⟨D,cF.mpr (dH (bH I.big)),_,(T [] [] .nil).keeps λb ys F=>?_,ob,Y,W,d1,d2,d3,N,O⟩;rw[lC (oA F I.fresh)];exact F
end
section
variable {K:kC}
theorem P5 (h:Rep K A H (nB k) y):qN H k y:=by
 rcases k with (i | x) | c
 .exact h.int_inv
 .exact h.str_inv
 .obtain⟨b,e,rfl,a,d⟩:=Rep.tup_inv h;refine⟨b,rfl,?_⟩;have:e=c.map kV:=by
   clear a h;induction c generalizing e with
   | nil=>cases d;rfl
   | cons k c f =>
    cases d with
    | cons g r =>
     rw[f _ r];rcases k with i | x
     .rw[Rep.int_inv g];rfl
     .rw[Rep.str_inv g];rfl
  rw[this] at a;exact a
theorem Hk:∀ {j:Aa (MK×D)}{o:Aa V},Reps K A H (j.map λm=>D.t [nB m.1,m.2]) o->∃ (l:Aa Ad) (g:Aa (MK×V×V)),o=l.map V.ref/\Bq H l g/\g.map (·.1)=j.map (·.1)/\Reps K A H (j.map (·.2)) (g.map (·.2.2))
 | [],_,.nil=>⟨[],[],rfl,.nil,rfl,.nil⟩
 | m::j,_,.cons h r=>by
  obtain⟨l,g,rfl,c,d,e⟩:=Hk r;obtain⟨a,n,rfl,f,b⟩:=h.tup_inv;cases b with
  | cons i b =>
   cases b with
   | cons k b =>
    cases b;exact⟨a::l,(m.1,_,_)::g,rfl,.cons ⟨f,P5 i⟩ c,by rw[aI,aI,d],.cons k e⟩
theorem Lg:∀ {ms:Aa (MK×D)}{mv:Aa (MK×V)}{kvs:Aa (MK×D)}{vs:Aa (MK×V)},ms.map (·.1)=mv.map (·.1)->Reps K A H (ms.map (·.2)) (mv.map (·.2))->kvs.map (·.1)=vs.map (·.1)->Reps K A H (kvs.map (·.2)) (vs.map (·.2)) ->
  (oN lF kvs ms).map (·.1)=(oN lI vs mv).map (·.1)/\Reps K A H ((oN lF kvs ms).map (·.2)) ((oN lI vs mv).map (·.2))
 | [],[],_,_,_,_,e,r=>⟨e,r⟩
 | [],_::_,_,_,e,_,_,_=>by simp at e
 | _::_,[],_,_,e,_,_,_=>by simp at e
 | (k,d)::ms,(j,v)::mv,kvs,vs,a,b,e,r=>by
  simp only[aI,eC] at a;obtain⟨rfl,a⟩:=a;cases b with
  | cons h b =>
   obtain⟨c,f⟩:=wF e r (k:=k) h;exact Lg (ms:=ms) (mv:=mv) a b c f
def Sq:OC:=λb d=>match b with
 | [.l c]=>∃ a:Aa (MK×D),c=a.map (λm=>D.t [nB m.1,m.2])/\a.length<=1000/\d (.o (.dM (oN lF [] a)))
 | _=>False
theorem Fn:oU K (L7 K) Sq:=by
 intro B L H c F G Q hd u b k;cases c with
 | nil=>exact False.elim b
 | cons d c =>
 cases c with
 | cons _ _=>cases d<;>exact False.elim b
 | nil =>
 cases d<;>first | exact False.elim b | skip
 obtain⟨x,rfl,v⟩:=qA u;obtain⟨n,rfl,D,b⟩:=b;obtain⟨a,E,rfl,h,r⟩:=v.lst_inv;obtain⟨A,f,rfl,s,i,t⟩:=Hk r;have q:n.map (·.1)=(f.map λm=>(m.1,m.2.2)).map (·.1):=by rw[bG,<- i];rfl
 have z:Reps K (Al B (gD L)) H (n.map (·.2)) ((f.map λm=>(m.1,m.2.2)).map (·.2)):=by rw[bG];exact t
 obtain⟨w,y⟩:=Lg (kvs:=[]) (vs:=[]) q z rfl .nil;refine⟨a,A,f,rfl,kK.of h,s,?_,λd e=>k _ _ _ b (hd.dMF e w y)⟩;have:=cO List.length i;rw[aD,aD] at this;omega
end
end L2
namespace L2
open PySem PySem.Spec PyProof.Rows Lw
def Wb (g l o:kX):mY:=λb n e=>g b n λf c=>l b c λh a=>match f,h with
 | .v (.int i),.v (.int j)=>if i<=j then o b a λm d=>match m with
   | .v (.int k)=>e (decide (j<k)) d
   | _=>False
  else e false a
 | _,_=>False
section
variable {X:Cx}
theorem M8 (g:PD X a r) (l:PD X b C) (o:PD X c I) (p:lastMarks [.LtE,.Lt] [b,c]=false:=by with_unfolding_all rfl):pN X (.Compare a [.LtE,.Lt] [b,c] pos) (Wb r C I) :=
 (Xn Qy Cg g l o p).mono λσ H Q s=>s.elim λB J T Φ M hd N k=>by
  refine⟨B,J,T,_,M,hd,N,λA t x U O d1 L=>⟨B,t,(A,some x)::T,_,O,d1,L,λY m y D v d2 f=>?_⟩⟩;cases A<;>first | exact False.elim f | skip
  rename_i F
  cases F<;>first | exact False.elim f | skip
  rename_i i
  cases Y<;>first | exact False.elim f | skip
  rename_i G
  cases G<;>first | exact False.elim f | skip
  rename_i j
  obtain⟨w,R,S⟩:=d2.two (d:=.int i) (e:=.int j) rfl rfl;cases R.int_inv;cases S.int_inv;refine⟨i,j,rfl,rfl,_,rfl,?_⟩;have f:=(show if i<=j then _ else _ from f);by_cases h:i<=j
  .rw[aH h] at f;rw[aH (cC h)];refine⟨B,m,T,_,v,w,f,λZ u z E P d3 q=>?_⟩;cases Z<;>first | exact False.elim q | skip
   rename_i K
   cases K<;>first | exact False.elim q | skip
   rename_i n
   obtain⟨V,W⟩:=d3.one (d:=.int n) rfl;cases W.int_inv;exact⟨j,n,rfl,rfl,_,rfl,k _ u E P V q⟩
  .rw[aE h] at f;rw[aE (λz=>h (dR z))];exact⟨false,rfl,k _ m D v w f⟩
end
end L2
namespace Lw
open PySem L2
def K7:RD:=λe b c=>∃ (W a:Nat) (d r:Int),b=[.int W,.int a,.int d,.int r]/\W<=8/\a<=8/\Cn d r/\c (.v (.int (uW W a d r)))
theorem Pz {p:Prop} [Decidable p] {a b:Prop}(h:p) (x:a):if p then a else b:=by rw[aH h];exact x
theorem Yl {p:Prop} [Decidable p] {a b:Prop}(h:¬ p) (x:b):if p then a else b:=by rw[aE h];exact x
section
variable {P:Ah}{K:kC}
theorem yT:FnScope ["width","height","down","right","total","i","j"] ["width","height","down","right"] (lQ wQ):=nS
theorem V8 (F:Fun K "_law_edge_worth" "_law_edge_worth" wQ f fd) (T:Txt l):FnOk P w K l base kQ 1 f fd ["width","height","down","right"] (kY K K7):=by
 refine F.okD (k:=0) yT (λX Y o ⟨_,_,_,_,e,_⟩=>by rw[e];rfl) (by decide) λV A Q s H E X Y o g Z=>?_
 have hu:=nL g;obtain⟨W,B,d,r,rfl,I,C,st,O⟩:=Z;have S:∀ n:Nat,(mU 0 n).length=n:=λn=>by simp[mU]
 let q:Nat->Nat->Int:=λi j=>if Pl W B ((i:Int)-d) ((j:Int)-r) then 0 else 1
 let y (t:Int) (x c:Sl):Aa Sl:=[.v (.int W),.v (.int B),.v (.int d),.v (.int r),.v (.int t),x,c];refine⟨_,(hB (kI 4 yT.nd eH) (hB (oD (tI (by rfl) T.range (dT 1)) (kH 5 yT.nd) (kR (oD (tI (by rfl) T.range (dT 0)) (kH 6 yT.nd) (kR (oH (Eu (zU (qX Cg L4 (pv 5) (dT 2)) (D6 (J1 (M8 eH (kN rX rT 6 (dT 3)) (dT 0)))))) (kR (kI 4 yT.nd (kN lG lH 4 (kE wX xY eH (kN lG lH 5 (dT 6)))))) oR))))) (kR (mG (dT 4))))),?_⟩;refine hI (λm=>m=y 0 .n .n) (λN L=>L _ rfl) ?_;rintro _ rfl;refine hI (λm=>∃ x c,m=y (uW W B d r) x c) (λN L=>?_) ?_
 .refine oG (mU 0 B) _ (λp h=>⟨by omega,by omega,h⟩) (λi m=>∃ x c,m=y (sg (λi=>sg (λj=>2 ^ (i+j)*q i j) W) i) x c) ⟨.n,.n,rfl⟩ ?_ ?_
  .rintro i e m M ⟨x,c,rfl⟩;obtain⟨J,rfl⟩:=uH M;rw[show (0:Int)+(i:Int)=i by omega];refine oG (mU 0 W) _ (λp h=>⟨by omega,by omega,h⟩) (λj m=>∃ c,m=y (sg (λi=>sg (λj=>2 ^ (i+j)*q i j) W) i+sg (λj=>2 ^ (i+j)*q i j) j) (.v (.int i)) c) ⟨c,by rw[show sg (λj=>2 ^ (i+j)*q i j) 0=0 from rfl,eA];rfl⟩ ?_ ?_
   .rintro j e m M ⟨c,rfl⟩;obtain⟨U,rfl⟩:=uH M;rw[show (0:Int)+(j:Int)=j by omega];have step:sg (λj=>2 ^ (i+j)*q i j) (j+1)=sg (λj=>2 ^ (i+j)*q i j) j+2 ^ (i+j)*q i j:=rfl;have stay:q i j=0->∃ c,y (sg (λi=>sg (λj=>2 ^ (i+j)*q i j) W) i+sg (λj=>2 ^ (i+j)*q i j) j) (.v (.int i)) (.v (.int j))=y (sg (λi=>sg (λj=>2 ^ (i+j)*q i j) W) i+sg (λj=>2 ^ (i+j)*q i j) (j+1)) (.v (.int i)) c:=λu=>⟨_,by rw[step,u,dB,eA]⟩
    have more:q i j=1->∃ c,y (sg (λi=>sg (λj=>2 ^ (i+j)*q i j) W) i+sg (λj=>2 ^ (i+j)*q i j) j+1*2 ^ ((i:Int)+(j:Int)).toNat) (.v (.int i)) (.v (.int j))=y (sg (λi=>sg (λj=>2 ^ (i+j)*q i j) W) i+sg (λj=>2 ^ (i+j)*q i j) (j+1)) (.v (.int i)) c:=λu=>⟨_,by rw[step,u,gB,jV,gK,show ((i:Int)+(j:Int)).toNat=i+j by omega]⟩
    by_cases R:(i:Int)<d
    .have u:q i j=1:=aE λz=>by have:=z.1;unfold In at this;omega
     exact⟨rfl,tJ (cC R) ⟨rfl,rfl,⟨by omega,by omega,by decide⟩,more u⟩⟩
    .refine⟨rfl,qJ (bJ R) ⟨rfl,?_⟩⟩;by_cases D:(0:Int)<=(j:Int)-r
     .refine Pz D ?_;by_cases G:(j:Int)-r<(W:Int)
      .exact qJ (by rw[cC G];rfl) (stay (aH ⟨by unfold In;rcases st with⟨a,b⟩ | ⟨a,b⟩ | ⟨a,b⟩ | ⟨a,b⟩<;>omega,D,G⟩))
      .have u:q i j=1:=aE λz=>G z.2.2
       exact tJ (by rw[bJ G];rfl) ⟨rfl,rfl,⟨by omega,by omega,by decide⟩,more u⟩
     .have u:q i j=1:=aE λz=>D z.2.1
      exact Yl D ⟨rfl,rfl,⟨by omega,by omega,by decide⟩,more u⟩
   .rintro m ⟨c,rfl⟩;exact⟨_,c,by rw[S];rfl⟩
  .rintro m ⟨x,c,rfl⟩;exact L _ ⟨x,c,by rw[S];rfl⟩
 .rintro _ ⟨x,c,rfl⟩;exact O
end
theorem Vw:(["output","weights","told","carried"]:Aa Af).Nodup:=by decide +kernel
abbrev mD:=Aa (MK×Int)
def kM (g:mD):Aa (MK×D):=g.map λp=>(p.1,D.int p.2)
def kL (g:mD) (k:MK):Int:=((g.find? λp=>decide (p.1=k)).map (·.2)).getD 0
theorem Ma (g:mD) (k:MK):kG (kM g) k=(g.find? λp=>decide (p.1=k)).map λp=>D.int p.2:=by
 induction g with
 | nil=>rfl
 | cons p g a =>
  show kG ((p.1,D.int p.2)::kM g) k=_;rw[pV,cB];by_cases h:p.1=k
  .rw[aH h,cC h];rfl
  .rw[aE h,bJ h];exact a
theorem Ch (g:mD) (k:MK):(kG (kM g) k).getD (.int 0) = .int (kL g k):=by
 rw[Ma];unfold kL;cases g.find? λp=>decide (p.1=k)<;>rfl
theorem wC (h:at? g i=some (.dM (kM p))) (l:D) (k:MK) (J:qW l=some k) (r:∀ j:Sl->Aa Sl->Prop,j (.v l) g->ty o g j) (C:∀ j:Sl->Aa Sl->Prop,j (.v (.int 0)) g->T o g j) (I:U (.v (.int (kL p k))) g):F0 i ty T o g U:=by
 refine⟨by rw[h];rfl,r _ (C _ ?_)⟩;rw[h];refine⟨kG (kM p) k,by show (qW l).map _=_;rw[J];rfl,?_⟩;rw[Ch];exact I
theorem Aj {j:Type}{f:j->Int}{g:Aa j}{i:Nat}{x:j}(h:g[i]?=some x):((g.take (i+1)).map f).sum=((g.take i).map f).sum+f x:=by
 rw[cY,h,aT,List.sum_append];show _+(f x+0)=_;rw[eA]
theorem Fu (al:Aa (Af×Af×Int×Int)):(kG (al.map λp=>((Sum.inr p.1:gV),D.b true)) (Sum.inr o)).isSome=true↔o∈al.map (·.1):=by
 induction al with
 | nil=>exact⟨λh=>(nomatch h),λh=>(nomatch h)⟩
 | cons p al a =>
  rw[aI,aI,pV,aJ];by_cases h:p.1=o
  .rw[aH (by rw[h])];exact⟨λ_=>.inl h.symm,λ_=>rfl⟩
  .rw[aE λz=>h (fH z),a];exact⟨.inr,λz=>z.resolve_left λy=>h y.symm⟩
def Gb:RD:=λn i m=>∃ (F:Fld) (d:mD) (W e:Nat) (c a b:Aa (gV×D)) (wf f h:Af->Int),i=[lA F,.dM (kM d),.t [.int W,.int e],.k c,.k a,.k b]/\W<=8/\e<=8/\GF F /\
 (∀ x∈F.rows++F.cols,kG c (Sum.inr x)=some (.int (wf x))/\0<=wf x/\wf x<2 ^ 8)/\(∀ p∈F.al,kG a (Sum.inr p.2.1)=some (.int (f p.2.1))/\kJ (f p.2.1))/\(∀ o∈F.C.outs,kG b (Sum.inr o)=some (.int (h o))/\(h o).natAbs<2 ^ 64) /\
 (∀ k,-(2 ^ 64)<kL d k/\kL d k<2 ^ 64)/\m (.v (.int (Bk F (kL d) W e wf f h)))
section
variable {P:Ah}{K:kC}
theorem nA:FnScope ["field","weights","size","words","edges","told","cell","along","rows","columns","width","height","wide","high","total","name","other","carried","output","down","right","worth"] ["field","weights","size","words","edges","told"] (lQ vF):=nS
theorem M0 (F:Fun K "_law_sum" "_law_sum" vF f fd) (T:Txt mg) (g:Gd K mg "_law_edge_worth" wQ ["width","height","down","right"] fE aj)
  (l:FnOk P w K mg base kQ 1 fE aj ["width","height","down","right"] (kY K K7)):FnOk P w K mg base kQ 2 f fd ["field","weights","size","words","edges","told"] (kY K Gb):=by
 refine F.okD (k:=1) nA (λdk ds Φ ⟨_,_,_,_,_,_,_,_,_,_,e,_⟩=>by rw[e];rfl) (by decide) λau A aq s H E dk ds Φ hr hR=>?_
 have Y:=nL hr;obtain⟨x,Z,W,O,I,af,ac,wf,ef,tf,rfl,hW,hH,G,hw,he,ht,hb,ak⟩:=hR;have la:=G.la;have lr:=G.lr;have lc:=G.lc;have pW:(0:Int)<2 ^ W/\(2:Int) ^ W<=256:=by
  have h2:2 ^ W<=2 ^ 8:=gU (by decide) hW;have h3:=jK W;have h4:(2:Int) ^ W=((2 ^ W:Nat):Int):=by norm_cast
  rw[h4];omega
 have pH:(0:Int)<2 ^ O/\(2:Int) ^ O<=256:=by
  have h2:2 ^ O<=2 ^ 8:=gU (by decide) hH;have h3:=jK O;have h4:(2:Int) ^ O=((2 ^ O:Nat):Int):=by norm_cast
  rw[h4];omega
 let fld:Aa D:=[lA x,.dM (kM Z),.t [.int W,.int O],.k I,.k af,.k ac];let a:Aa Sl:=[.v (lA x),.v (.dM (kM Z)),.v (.t [.int W,.int O]),.v (.k I),.v (.k af),.v (.k ac),.v (nJ x.C),.v (.t (x.al.map lX)),.v (.t (x.rows.map D.str)),.v (.t (x.cols.map D.str)),.v (.int W),.v (.int O)];let st (t:Int) (d u ar Q R S M:Sl):Aa Sl:=a++[.v (.int (2 ^ W-1)),.v (.int (2 ^ O-1)),.v (.int t),d,u,ar,Q,R,S,M];refine⟨_,(hB (yU (m:=99) (dT 0) (pJ (n:=4) rfl (kW (kH 6 nA.nd) (kW (kH 7 nA.nd) (kW (kH 8 nA.nd) (kW (kH 9 nA.nd) oS)))))) (hB (yU (m:=99) (dT 2) (pJ (n:=2) rfl (kW (kH 10 nA.nd) (kW (kH 11 nA.nd) oS)))) (hB (kI 12 nA.nd (kE rX rT (kE wX xY eH (dT 10)) eH)) (hB (kI 13 nA.nd (kE rX rT (kE wX xY eH (dT 11)) eH)) (hB (kI 14 nA.nd (kE mO mP (kE mO mP (wO Y (pv 1) mW eH) (dT 12)) (dT 13))) (hB (oD (nN (dT 8)) (kH 15 nA.nd) (hB (kI 14 nA.nd (kN lG lH 14 (kE mO mP (kE mO mP (wO Y (pv 1) (dT 15) eH) (kT Y 3 (dT 15))) (dT 12)))) (kR (oD (nN (dT 9)) (kH 16 nA.nd) (kR (kI 14 nA.nd (kN lG lH 14 (kE mO mP (kE mO mP (wO Y (pv 1) (lE (dK (dT 15) (dK (dT 16) eI))) eH) (kT Y 3 (dT 15))) (kT Y 3 (dT 16)))))))))) (hB (oD (nN (dT 9)) (kH 15 nA.nd) (kR (kI 14 nA.nd (kN lG lH 14 (kE mO mP (kE mO mP (wO Y (pv 1) (dT 15) eH) (kT Y 3 (dT 15))) (dT 13)))))) (hB (kI 17 nA.nd As) (hB (oD (nN (dT 7)) (pJ (n:=4) rfl (kW (kH 18 nA.nd) (kW (kH 15 nA.nd) (kW (kH 19 nA.nd) (kW (kH 20 nA.nd) oS))))) (hB (sV (n:=17) Y A9 (pv 17) (dT 18)) (hB (kI 21 nA.nd (kE mO mP (lU l (hr.mono (by decide)) (by rfl) g.m g.k g.b (dK (dT 10) (dK (dT 11) (dK (dT 19) (dK (dT 20) eI))))) (kT Y 4 (dT 15)))) (kR (kI 14 nA.nd (kN lG lH 14 (kE mO mP (wO Y (pv 1) (dT 15) eH) (kN rX rT 21 (kE wX xY (kT Y 5 (dT 18)) (kN lG lH 19 (dT 20))))))))))) (kR (mG (kN lG lH 14 (pR (Dy rfl) Dp T.sum iU (dK (rH ["output"] ["weights","told","carried"] [1,5,17] (nN (kT Y 6 eH)) (λ_ _ _ _ _=>(kH 0 Vw)) (λ_ _ _ _ _=>(kE mO mP (wO Y (pv 1) (dT 0) eH) (kT Y 2 (dT 0)))) (ht:=λ_ _ _ _ _=>(L0 (vT (At Y) (tY true) (dT 0) (pv 3))))) eI)))))))))))))),?_⟩;refine hI (λB=>B=[.v (lA x),.v (.dM (kM Z)),.v (.t [.int W,.int O]),.v (.k I),.v (.k af),.v (.k ac),.v (nJ x.C),.v (.t (x.al.map lX)),.v (.t (x.rows.map D.str)),.v (.t (x.cols.map D.str)),.n,.n,.n,.n,.n,.n,.n,.n,.n,.n,.n,.n]) (λN L=>⟨rfl,rfl,L _ rfl⟩) ?_;rintro _ rfl;refine hI (λB=>B=a++[.n,.n,.n,.n,.n,.n,.n,.n,.n,.n]) (λN L=>⟨rfl,rfl,L _ rfl⟩) ?_;rintro _ rfl;refine hI (λB=>B=a++[.v (.int (2 ^ W-1)),.n,.n,.n,.n,.n,.n,.n,.n,.n]) (λN L=>⟨⟨by omega,by omega,by decide⟩,L _ (by rw[jV,bQ];rfl)⟩) ?_;rintro _ rfl;refine hI (λB=>B=a++[.v (.int (2 ^ W-1)),.v (.int (2 ^ O-1)),.n,.n,.n,.n,.n,.n,.n,.n]) (λN L=>⟨⟨by omega,by omega,by decide⟩,L _ (by rw[jV,bQ];rfl)⟩) ?_;rintro _ rfl;refine hI (λB=>B=st (kL Z (nK "")*(2 ^ W-1)*(2 ^ O-1)) .n .n .n .n .n .n .n) (λN L=>?_) ?_
 .unfold tT d2;exact wC rfl (.str "") (nK "") rfl (λ_ h=>h) (λ_ h=>h) ⟨.inr ⟨by omega,by omega⟩,.inr ⟨by omega,by omega⟩,L _ rfl⟩
 rintro _ rfl;let X (r:Af):Int:=kL Z (nK r)*wf r*(2 ^ W-1)+(x.cols.map λc=>kL Z (pK r c)*wf r*wf c).sum;let t0:Int:=kL Z (nK "")*(2 ^ W-1)*(2 ^ O-1);refine hI (λB=>∃ d u,B=st (t0+(x.rows.map X).sum) d u .n .n .n .n .n) (λN L=>?_) ?_
 .refine oG (x.rows.map D.str) _ (λΨ h=>h) (λi B=>∃ d u,B=st (t0+((x.rows.take i).map X).sum) d u .n .n .n .n .n) ⟨.n,.n,by rw[gR];show st t0 _ _ _ _ _ _ _=st (t0+0) _ _ _ _ _ _ _;rw[eA]⟩ ?_ ?_
  .rintro i e B aa ⟨d,u,rfl⟩;obtain⟨r,ah,rfl⟩:=rS aa;have hm:r∈x.rows++x.cols:=bM _ (aW ah);obtain⟨w1,w2,w3⟩:=hw r hm;refine hI (λB=>B=st (t0+((x.rows.take i).map X).sum+kL Z (nK r)*wf r*(2 ^ W-1)) (.v (.str r)) u .n .n .n .n .n) (λN L=>?_) ?_
   .refine⟨rfl,?_⟩;unfold d2;refine wC rfl (.str r) (nK r) rfl (λ_ h=>h) (λ_ h=>h) ⟨rfl,.int (wf r),by show some (kG I (Sum.inr r))=_;rw[w1],.inr ⟨by omega,by omega⟩,.inr ⟨by omega,by omega⟩,L _ rfl⟩
   rintro _ rfl;refine oG (x.cols.map D.str) _ (λΨ h=>h) (λj B=>∃ u,B=st (t0+((x.rows.take i).map X).sum+kL Z (nK r)*wf r*(2 ^ W-1)+((x.cols.take j).map λc=>kL Z (pK r c)*wf r*wf c).sum) (.v (.str r)) u .n .n .n .n .n) ⟨u,by rw[gR,fJ,List.sum_nil,eA]⟩ ?_ ?_
   .rintro j e B hj ⟨u,rfl⟩;obtain⟨c,U,rfl⟩:=rS hj;obtain⟨v1,v2,v3⟩:=hw c (aN _ (aW U));refine⟨rfl,?_⟩;unfold d2;refine wC rfl (.t [.str r,.str c]) (pK r c) rfl (λ_ h=>⟨by show 2<=1000;decide,h⟩) (λ_ h=>h) ⟨rfl,.int (wf r),by show some (kG I (Sum.inr r))=_;rw[w1],.inr ⟨by omega,by omega⟩,rfl,.int (wf c),by show some (kG I (Sum.inr c))=_;rw[v1],.inr ⟨by omega,by omega⟩,.v (.str c),?_⟩;rw[Aj U,<- gK];rfl
   .rintro B ⟨u,rfl⟩;refine⟨.v (.str r),u,?_⟩;rw[aD,gY,Aj ah,<- gK,<- gK]
  .rintro B ⟨d,u,rfl⟩;exact L _ ⟨d,u,by rw[aD,gY]⟩
 rintro _ ⟨d,u,rfl⟩;let t1:Int:=t0+(x.rows.map X).sum;let J (c:Af):Int:=kL Z (nK c)*wf c*(2 ^ O-1);refine hI (λB=>∃ d u,B=st (t1+(x.cols.map J).sum) d u .n .n .n .n .n) (λN L=>?_) ?_
 .refine oG (x.cols.map D.str) _ (λΨ h=>h) (λi B=>∃ d,B=st (t1+((x.cols.take i).map J).sum) d u .n .n .n .n .n) ⟨d,by rw[gR,fJ,List.sum_nil,eA]⟩ ?_ ?_
  .rintro i e B aa ⟨d,rfl⟩;obtain⟨c,U,rfl⟩:=rS aa;obtain⟨w1,w2,w3⟩:=hw c (aN _ (aW U));refine⟨rfl,?_⟩;unfold d2;refine wC rfl (.str c) (nK c) rfl (λ_ h=>h) (λ_ h=>h) ⟨rfl,.int (wf c),by show some (kG I (Sum.inr c))=_;rw[w1],.inr ⟨by omega,by omega⟩,.inr ⟨by omega,by omega⟩,.v (.str c),?_⟩;rw[Aj U,<- gK];rfl
  .rintro B ⟨d,rfl⟩;exact L _ ⟨d,u,by rw[aD,gY]⟩
 rintro _ ⟨d,u,rfl⟩;let t2:Int:=t1+(x.cols.map J).sum;refine hI (λB=>B=st t2 d u (.o (.k [])) .n .n .n .n) (λN L=>L _ rfl) ?_;rintro _ rfl;let ae (p:Af×Af×Int×Int):Int:=kL Z (nK p.2.1)*(uW W O p.2.2.1 p.2.2.2*ef p.2.1-tf p.1*2 ^ (p.2.2.1+p.2.2.2).toNat);let V (i:Nat):Aa (gV×D):=(x.al.take i).map λp=>(Sum.inr p.1,.b true)
 refine hI (λB=>∃ d Q R S M,B=st (t2+(x.al.map ae).sum) d u (.o (.k (x.al.map λp=>(Sum.inr p.1,.b true)))) Q R S M) (λN L=>?_) ?_
 .refine oG (x.al.map lX) _ (λΨ h=>h) (λi B=>∃ d Q R S M,B=st (t2+((x.al.take i).map ae).sum) d u (.o (.k (V i))) Q R S M) ⟨d,.n,.n,.n,.n,by rw[gR,fJ,List.sum_nil,eA];rfl⟩ ?_ ?_
  .rintro i e B aa ⟨d,Q,R,S,M,rfl⟩;obtain⟨p,ab,rfl⟩:=rS aa;have hp:=aW ab;obtain⟨e1,e2⟩:=he p hp;obtain⟨o1,o2⟩:=ht p.1 (G.ao p hp);have av:i<x.al.length:=(aG.mp ab).1;have ag:(Sum.inr p.1:gV)∉(V i).map (·.1):=λq=>by
    obtain⟨y,hy,ey⟩:=bE.mp q;obtain⟨z,hz,rfl⟩:=bE.mp hy;have e:x.al=x.al.take i++p::x.al.drop (i+1):=by
     obtain⟨hi,rfl⟩:=aG.mp ab;rw[dZ,eE]
    have ai:=G.an;rw[e,aT] at ai;exact (aO.mp ai).2.2 z.1 (bE.mpr ⟨z,hz,rfl⟩) p.1 (by simp) (fH ey)
   have put:lF (V i) (Sum.inr p.1) (.b true)=V (i+1):=by
    rw[Gp ag];simp only[V];rw[cY,ab,aT];rfl
   refine⟨rfl,rfl,?_⟩;refine hI (λB=>B=st (t2+((x.al.take i).map ae).sum) (.v (.str p.2.1)) u (.o (.k (V (i+1)))) (.v (.str p.1)) (.v (.int p.2.2.1)) (.v (.int p.2.2.2)) M) (λN L=>?_) ?_
   .exact⟨rfl,_,wW (by simp only[V,aD,bY];omega),L _ (by rw[put];rfl)⟩
   rintro _ rfl;refine hI (λB=>B=st (t2+((x.al.take i).map ae).sum) (.v (.str p.2.1)) u (.o (.k (V (i+1)))) (.v (.str p.1)) (.v (.int p.2.2.1)) (.v (.int p.2.2.2)) (.v (.int (uW W O p.2.2.1 p.2.2.2*ef p.2.1)))) (λN L=>?_) ?_
   .refine⟨W,O,p.2.2.1,p.2.2.2,rfl,hW,hH,G.st p hp,.inl rfl,rfl,.int (ef p.2.1),by show some (kG af (Sum.inr p.2.1))=_;rw[e1],.inr ⟨by unfold kJ at e2;omega,by unfold kJ at e2;omega⟩,L _ rfl⟩
   rintro _ rfl;have hs:(0:Int)<=p.2.2.1+p.2.2.2/\p.2.2.1+p.2.2.2<=2:=by rcases G.st p hp with⟨a,b⟩ | ⟨a,b⟩ | ⟨a,b⟩ | ⟨a,b⟩<;>omega
   refine⟨rfl,?_⟩;unfold d2;refine wC rfl (.str p.2.1) (nK p.2.1) rfl (λ_ h=>h) (λ_ h=>h) ⟨rfl,rfl,.int (tf p.1),by show some (kG ac (Sum.inr p.1))=_;rw[o1],rfl,⟨hs.1,by omega,o2⟩,.inl (hb _),.v (.str p.2.1),.v (.str p.1),.v (.int p.2.2.1),.v (.int p.2.2.2),.v (.int (uW W O p.2.2.1 p.2.2.2*ef p.2.1)),?_⟩;rw[Aj ab,<- gK];rfl
  .rintro B ⟨d,Q,R,S,M,rfl⟩;exact L _ ⟨d,Q,R,S,M,by simp only[V,aD,gY]⟩
 rintro _ ⟨d,Q,R,S,M,rfl⟩;refine⟨rfl,?_⟩;unfold dC aC;refine Ef x.C.outs D.str (λo=>.int (kL Z (nK o)*tf o)) (λo=>decide (o∉x.al.map (·.1))) _ (λΨ h=>⟨rfl,_,rfl,h⟩) (by have:=G.gc.lo;omega) (λi o ys Nx e h1 h2 h3=>?_) ?_
 .obtain⟨o1,o2⟩:=ht o (aW e);refine⟨kG (x.al.map λp=>((Sum.inr p.1:gV),D.b true)) (Sum.inr o),rfl,?_⟩;by_cases ho:o∈x.al.map (·.1)
  .refine qJ (by rw[(Fu x.al).mpr ho];rfl) (h3 (bJ λz=>z ho))
  .refine tJ (by rw[Bool.eq_false_iff.mpr λz=>ho ((Fu x.al).mp z)];rfl) ?_;unfold d2;exact wC rfl (.str o) (nK o) rfl (λ_ h=>h) (λ_ h=>h) ⟨rfl,.int (tf o),by show some (kG ac (Sum.inr o))=_;rw[o1],.inl (hb _),h1,h2 (cC ho)⟩
 .refine⟨((vO x).map λo=>kL Z (nK o)*tf o),?_,ak⟩;have e:(vO x).map (λo=>D.int (kL Z (nK o)*tf o))=((vO x).map λo=>kL Z (nK o)*tf o).map D.int:=by rw[bG];rfl
  exact (cO sY e).trans (B2 _)
end
def oI (g:mD) (k:MK) (v:Int):mD:=if g.any (λp=>decide (p.1=k)) then g.map (λp=>if p.1=k then (p.1,v) else p) else g++[(k,v)]
theorem Eo (g:mD) (k:MK) (v:Int):lF (kM g) k (.int v)=kM (oI g k v):=by
 have e:(kM g).any (λa=>decide (a.1=k))=g.any λp=>decide (p.1=k):=by unfold kM;rw[List.any_map];rfl
 unfold lF oI;rw[e];by_cases h:(g.any λp=>decide (p.1=k))=true
 .rw[aH h,aH h];unfold kM;rw[bG,bG];refine eN λp _=>?_
  show (if p.1=k then (p.1,D.int v) else (p.1,D.int p.2))=((if p.1=k then (p.1,v) else p).1,D.int (if p.1=k then (p.1,v) else p).2);by_cases q:p.1=k
  .rw[aH q,aH q]
  .rw[aE q,aE q]
 .rw[aE h,aE h];unfold kM;rw[aT];rfl
theorem B0 (g:mD) (k:MK) (v:Int) (j:MK):kL (oI g k v) j=if k=j then v else kL g j:=by
 have h:=Ch (oI g k v) j;rw[<- Eo,Ji] at h;by_cases q:k=j
 .rw[aH q] at h |-;exact (D.int.inj h).symm
 .rw[aE q] at h |-;rw[Ch] at h;exact (D.int.inj h).symm
def nV (j:mD) (g:mD):mD:=g.foldl (λa m=>oI a m.1 m.2) j
theorem Ea:∀ (g j:mD),oN lF (kM j) (kM g)=kM (nV j g)
 | [],j=>rfl
 | m::g,j=>by
  show oN lF (lF (kM j) m.1 (.int m.2)) (kM g)=_;rw[Eo,Ea g];rfl
theorem Jq (f:MK->Int) (j:MK):∀ (g:Aa MK) (l:mD),(j∈g->kL (nV l (g.map λk=>(k,f k))) j=f j)/\(j∉g->kL (nV l (g.map λk=>(k,f k))) j=kL l j)
 | [],l=>⟨λh=>(nomatch h),λ_=>rfl⟩
 | k::g,l=>by
  show (_->kL (nV (oI l k (f k)) (g.map λk=>(k,f k))) j=_)/\(_->kL (nV (oI l k (f k)) (g.map λk=>(k,f k))) j=_);obtain⟨b,a⟩:=Jq f j g (oI l k (f k));rw[B0] at a;refine⟨λh=>?_,λh=>?_⟩
  .by_cases q:j∈g
   .exact b q
   .have e:k=j:=((aJ.mp h).resolve_right q).symm;rw[a q,aH e,e]
  .rw[a λz=>h (aV _ z),aE λz=>h (by rw[z];exact aM)]
theorem Mi (h:j∉g.map (·.1)):kL g j=0:=by
 unfold kL;rw[gC.mpr λp a=>by simp only[gP];exact λz=>h (z▸bE.mpr ⟨p,a,rfl⟩)];rfl
theorem G5:kL [] j=0:=rfl
theorem Y9 (h:j∈g.map (·.1)):kG (kM g) j=some (.int (kL g j)):=by
 rw[Ma];unfold kL;cases e:g.find? λp=>decide (p.1=j) with
 | some p=>rfl
 | none =>
  obtain⟨p,a,rfl⟩:=bE.mp h;exact absurd (gC.mp e p a) (by simp)
theorem Pa (g:mD) (b:Int) (j:MK):kL (nV [] (g.map λp=>(p.1,b*kL g p.1))) j=b*kL g j:=by
 have e:(g.map λp=>(p.1,b*kL g p.1))=(g.map (·.1)).map λk=>(k,b*kL g k):=by rw[bG];rfl
 rw[e];obtain⟨a,c⟩:=Jq (λk=>b*kL g k) j (g.map (·.1)) [];by_cases h:j∈g.map (·.1)
 .exact a h
 .rw[c h,Mi h,dB];rfl
theorem Hg:∀ (j l:Aa (Af×Af×Aa Af)) (o:Af->Int),nE o (j++l)=nE (nE o j) l
 | [],_,_=>rfl
 | g::j,l,o=>by show nE (xG o g) (j++l)=nE (nE (xG o g) j) l;rw[Hg]
theorem X1 (h:GC C) (j:Af->Int) (l:g∈C.gates):nR C j g.1=lT g.2.1 (g.2.2.map (nR C j)):=by
 obtain⟨i,f,e⟩:=List.mem_iff_getElem.mp l;have c:C.gates=C.gates.take i++g::C.gates.drop (i+1):=by rw[<- e,dZ,eE]
 have b:=h.nd;unfold Cel.names at b;rw[c,aT,aI,<- aX] at b;obtain⟨n,k,m⟩:=aO.mp b;have d:=(vJ.at h.gt (aG.mpr ⟨f,e⟩)).2;unfold nR;rw[c,Hg];have old:∀ x∈C.ins++(C.gates.take i).map (·.1),nE (nE j (C.gates.take i)) (g::C.gates.drop (i+1)) x=nE j (C.gates.take i) x:=λx a=>xN _ _ x λz=>m x a x (by rw[<- aI];exact z) rfl
 rw[eN (g:=nE j (C.gates.take i)) λx a=>old x (d x a)];show nE (xG (nE j (C.gates.take i)) g) (C.gates.drop (i+1)) g.1=_;rw[xN _ _ _ (bP.mp k).1];exact aH rfl
section
variable (n:Fin 9->Af)
def lK (k o:Bool):Aa (Af×MK):=(if k then [(n 3,nK (n 3)),(n 5,pK (n 0) (n 1))] else [(n 5,pK (n 0) (n 1)),(n 2,nK (n 2))])++if o then [(n 4,nK (n 4))] else []
def lO (k o:Bool):Aa Af:=(if k then [n 3,n 5] else [n 5,n 2])++if o then [n 4] else []
def mK (k o y:Bool):Aa (Af×Af×Int×Int):=(if k then [(n 7,n 3,1,-1)] else [])++if o then [(n 8,n 4,if y then 0 else 1,if y then 1 else 0)] else []
def lJ (k z:Bool):Aa Af:=if k then [n 0] else if z then [n 0,n 2] else [n 0]
def lL (k z:Bool):Aa Af:=if k then [n 1] else if z then [n 1] else [n 1,n 2]
def oF (k o:Bool):Aa Af:=(if k then [n 3] else [])++if o then [n 4] else []
def mH (k o t:Bool):Aa (Af×Af×Aa Af) :=
 (n 5,"and",[n 0,n 1])::((if t then [(n 6,("not" : Af),[if k then n 3 else n 5]),(n 8,if o then ("most" : Af) else "and",n 6::(lO n k o).drop 1)] else [(n 8,if o then ("most" : Af) else "and",lO n k o)])++[(n 7,("odd" : Af),lO n k o)])
def w1 (k o:Bool):mD:=nV [] ((lK n k o).map λp=>(p.2,1))
def w2 (k o t:Bool):mD:=if t then nV (w1 n k o) (((lK n k o).drop 1).map λp=>(p.2,-1)) else w1 n k o
def w3 (k o t:Bool):mD:=if o then w2 n k o t else oI (w2 n k o t) (nK (n 8)) (if t then 2 else -2)
def w4 (k o t:Bool):mD:=if k then w3 n k o t else oI (w3 n k o t) (nK (n 7)) (-1)
def rN (k o t z y:Bool) (ins g:Aa Af):Fld:=⟨⟨ins,mH n k o t,g⟩,mK n k o y,lJ n k z,lL n k z⟩
end
theorem Zh {g j:Aa Int}(h:g.Perm j):g.sum=j.sum:=by
 induction h with
 | nil=>rfl
 | cons x _ c=>rw[eJ,eJ,c]
 | swap x y l=>simp only[eJ];omega
 | trans _ _ a b=>exact a.trans b
theorem Iu (g:kJ a) (j:kJ b):lT "odd" [a,b]=a+b-2*lT "and" [a,b]/\lT "odd" [a,b]=a-b+2*lT "and" [lT "not" [a],b]/\lT "and" [a,b]=a*b:=by
 rcases g with rfl | rfl<;>rcases j with rfl | rfl<;>decide
theorem Tn (g:kJ a) (j:kJ b) (l:kJ c):lT "odd" [a,b,c]=a+b+c-2*lT "most" [a,b,c]/\lT "odd" [a,b,c]=a-b-c+2*lT "most" [lT "not" [a],b,c]:=by
 rcases g with rfl | rfl<;>rcases j with rfl | rfl<;>rcases l with rfl | rfl<;>decide
theorem S5 (inj:∀ i j,(n i=n j)=(i=j)) (k o t:Bool) (j:MK):-2<=kL (w4 n k o t) j/\kL (w4 n k o t) j<=2:=by
 cases k<;>cases o<;>cases t<;>simp only[w4,w3,w2,w1,nV,lK,aI,fJ,List.foldl_cons,List.foldl_nil,List.drop_succ_cons,List.drop_zero,bV,eZ,eF,dL,bT,gJ,B0,G5]<;>(repeat' split)<;>decide
theorem Ff {n:Fin 9->Af}(inj:∀ i j,(n i=n j)=(i=j)){k o t:Bool}{z:Bool}{ins g:Aa Af}{c:Bool}(l:ins.Perm (oF n k o++lJ n k z++lL n k z)) (p:g.Perm ([n 7,n 8]++if c then [n 5] else [])):GC ⟨ins,mH n k o t,g⟩:=by
 have q:=l.length_eq;have b:=p.length_eq;refine⟨?_,?_,?_,?_,?_,?_,?_⟩
 .show (ins++(mH n k o t).map (·.1)).Nodup;rw[(l.append_right _).nodup_iff];cases k<;>cases o<;>cases t<;>cases z<;>simp[oF,lJ,lL,mH,inj]
 .have u:∀ x,x∈ins↔x∈oF n k o++lJ n k z++lL n k z:=λx=>l.mem_iff
  have d:ArOk "and" 2:=⟨.inl ⟨by decide,.inl rfl⟩⟩;have e:ArOk "most" 3:=⟨.inr (.inl ⟨rfl,rfl⟩)⟩;have f:ArOk "not" 1:=⟨.inr (.inr (.inl ⟨rfl,rfl⟩))⟩;have h:ArOk "odd" 2:=⟨.inl ⟨by decide,.inl rfl⟩⟩;have m:ArOk "odd" 3:=⟨.inl ⟨by decide,.inr rfl⟩⟩;cases k<;>cases o<;>cases t<;>cases z<;>simp[vJ,mH,lO,u,oF,lJ,lL,d,e,f,h,m,inj]
 .intro x s;have a:=p.mem_iff.mp s;show x∈ins++(mH n k o t).map (·.1);refine aN _ ?_;cases c<;>cases t<;>simp[mH] at a |-<;>rcases a with rfl | rfl | rfl<;>simp
 .rw[p.nodup_iff];cases c<;>simp[inj]
 .rw[q];cases k<;>cases o<;>cases z<;>simp[oF,lJ,lL]
 .cases k<;>cases o<;>cases t<;>simp[mH]
 .rw[b];cases c<;>simp
theorem Xl {n:Fin 9->Af}(inj:∀ i j,(n i=n j)=(i=j)) (C:∀ i,GN (n i)){k o t z y:Bool}{ins g:Aa Af}{c:Bool}(l:ins.Perm (oF n k o++lJ n k z++lL n k z)) (r:g.Perm ([n 7,n 8]++if c then [n 5] else [])):GF (rN n k o t z y ins g):=by
 have m:∀ x,x∈g↔x∈[n 7,n 8]++if c then [n 5] else []:=λx=>r.mem_iff
 refine⟨Ff inj l r,?_,?_,?_,?_,?_,?_,?_,?_⟩
 .have e:(mK n k o y).map (·.2.1)=oF n k o:=by cases k<;>cases o<;>rfl
  show ins.Perm ((mK n k o y).map (·.2.1)++_++_);rw[e];exact l
 .intro p b;show p.1∈g;rw[m];have a:=(show p∈mK n k o y from b);cases k<;>cases o<;>simp[mK] at a<;>first | (rcases a with rfl | rfl<;>simp) | (subst a;simp)
 .show ((mK n k o y).map (·.1)).Nodup;cases k<;>cases o<;>simp[mK,inj]
 .intro x f;have d:x∈ins++(mH n k o t).map (·.1):=f;have:∃ i,x=n i:=by
   rcases aZ.mp d with h | h
   .rw[l.mem_iff] at h;cases k<;>cases o<;>cases z<;>simp[oF,lJ,lL] at h<;>(repeat' (rcases h with h | h))<;>first | exact⟨_,rfl⟩ | exact⟨_,h⟩
   .cases k<;>cases o<;>cases t<;>simp[mH] at h<;>(repeat' (rcases h with h | h))<;>first | exact⟨_,rfl⟩ | exact⟨_,h⟩
  obtain⟨i,rfl⟩:=this;exact C i
 .intro p b;have a:=(show p∈mK n k o y from b);cases k<;>cases o<;>cases y<;>simp[mK] at a<;>first | (rcases a with rfl | rfl<;>simp) | (subst a;simp)
 .cases k<;>cases o<;>simp[rN,mK]
 .cases k<;>cases z<;>simp[rN,lJ]
 .cases k<;>cases z<;>simp[rN,lL]
theorem Oa {n:Fin 9->Af}(inj:∀ i j,(n i=n j)=(i=j)) (ne:∀ i,n i ≠ ""){k o t z y:Bool}{ins l:Aa Af}{c:Bool}(p:ins.Perm (oF n k o++lJ n k z++lL n k z)) (r:l.Perm ([n 7,n 8]++if c then [n 5] else [])):vG (rN n k o t z y ins l) (kL (w4 n k o t)):=by
 intro d R;have q:=Ff (t:=t) inj p r;have gt:∀ g∈mH n k o t,nR ⟨ins,mH n k o t,l⟩ d g.1=lT g.2.1 (g.2.2.map (nR ⟨ins,mH n k o t,l⟩ d)):=λg S=>X1 q d S
 have m:∀ x∈oF n k o++lJ n k z++lL n k z,kJ (nR ⟨ins,mH n k o t,l⟩ d x):=λx V=>by
  have u:=p.mem_iff.mpr V;have e:nR ⟨ins,mH n k o t,l⟩ d x=d x:=xN _ _ x λz=>(aO.mp q.nd).2.2 x u x z rfl
  rw[e];exact R x u
 show sS _ _ (nR ⟨ins,mH n k o t,l⟩ d)=0;generalize nR ⟨ins,mH n k o t,l⟩ d=v at gt m |-;have O:((vO (rN n k o t z y ins l)).map λf=>kL (w4 n k o t) (nK f)*v f).sum=((([n 7,n 8]++if c then [n 5] else []).filter λf=>decide (f∉(mK n k o y).map (·.1))).map λf=>kL (w4 n k o t) (nK f)*v f).sum:=Zh ((r.filter _).map _);have N:∀ i,(nK "" = nK (n i))=False:=λi=>eq_false λh=>ne i (fH (jS h)).symm
 have w:∀ i,(nK (n i)=nK "")=False:=λi=>eq_false λh=>ne i (fH (jS h))
 have K:kJ (v (n 0)):=m _ (by cases k<;>cases z<;>simp[lJ]);have L:kJ (v (n 1)):=m _ (by cases k<;>cases z<;>simp[lL]);have G:v (n 5)=lT "and" [v (n 0),v (n 1)]:=gt (n 5,"and",[n 0,n 1]) aM;have E:kJ (v (n 5)):=by rw[G];exact D4 _ _
 have W:v (n 0)*v (n 1)=v (n 5):=by rw[G,(Iu K L).2.2]
 have key:v (n 7)=v (if k then n 3 else n 5)+(if t then -1 else 1)*v (if k then n 5 else n 2)+(if t then -1 else 1)*(if o then v (n 4) else 0)-(if t then -1 else 1)*(2*v (n 8)):=by
  have A:=gt (n 7,"odd",lO n k o) (by simp[mH]);have F:kJ (v (if k then n 3 else n 5)):=by
   cases k
   .exact E
   .exact m _ (by simp[oF])
  have s:kJ (v (if k then n 5 else n 2)):=by
   cases k
   .exact m _ (by cases z<;>simp[lJ,lL])
   .exact E
  have H:(lO n k o).map v=v (if k then n 3 else n 5)::v (if k then n 5 else n 2)::if o then [v (n 4)] else []:=by cases k<;>cases o<;>rfl
  have Q:v (n 8)=lT (if o then "most" else "and") ((if t then lT "not" [v (if k then n 3 else n 5)] else v (if k then n 3 else n 5))::v (if k then n 5 else n 2)::if o then [v (n 4)] else []):=by
   cases t
   .have:=gt (n 8,if o then "most" else "and",lO n k o) (by simp[mH]);rw[show (lO n k o).map v=_ from H] at this;exact this
   .have P:=gt (n 6,"not",[if k then n 3 else n 5]) (by simp[mH]);have g:=gt (n 8,if o then "most" else "and",n 6::(lO n k o).drop 1) (by simp[mH]);have e:(n 6::(lO n k o).drop 1).map v=v (n 6)::v (if k then n 5 else n 2)::if o then [v (n 4)] else []:=by cases k<;>cases o<;>rfl
    dsimp only at g;rw[e,P] at g;exact g
  dsimp only at A;rw[H] at A;generalize v (if k then n 3 else n 5)=a at *;generalize v (if k then n 5 else n 2)=b at *;rw[A,Q];cases o
  .obtain⟨B,D,_⟩:=Iu F s;cases t
   .simp only[bT,dL];rw[B];omega
   .simp only[bT,dL,eF];rw[D];omega
  .obtain⟨B,D⟩:=Tn F s (m (n 4) (by simp[oF]));cases t
   .simp only[bT,dL,eF];rw[B];omega
   .simp only[eF];rw[D];omega
 unfold sS;rw[O];have M:∀ b:Bool,(2:Int) ^ ((if b then 0 else 1:Int)+(if b then 1 else 0)).toNat=2:=λb=>by cases b<;>rfl
 cases k<;>cases o<;>cases t<;>cases z<;>cases c<;>simp[rN,lJ,lL,mK,w4,w3,w2,w1,nV,lK,B0,G5,N,w,inj,M,W]<;>simp at key<;>omega
end Lw
namespace PySem
open PyProof.Rows L2
section
theorem Nb (j:s.heap.IsList l items) (q:Q false s):wpAny (model g w) A (notIterableAtAll (.ref l)) Q E s:=by
 have has:wpAny (model g w) A (specialOf (.ref l) "__iter__") (λr a=>r.isSome=true/\a=s) E s :=
  aA (eO j.typeIs (jC F.slot_list_iter.lookup ⟨rfl,rfl⟩))
 unfold notIterableAtAll;refine aA (hL has ?_);rintro r _ ⟨e,rfl⟩;rw[aH e];exact aB q
theorem Ly (g:l≠j):∀ (n i:Nat) (s:Ae) (Q:Aa Ac->Ae->Prop),s.heap.IsListIter j l i->s.heap.IsList l items->i+n<=items.size ->
  (∀ p,p.IsListIter j l (i+n)->(∀ b,b≠j->p.get? b=s.heap.get? b)->Q ((items.toList.drop i).take n) { s with heap:=p })->wpAny (model r w) A (draw (.ref j) n) Q E s
 | 0,i,s,Q,hit,_,_,q=>aB (q s.heap hit λ_ _=>rfl)
 | n+1,i,s,Q,hit,d,le,q=>by
  have lt:i<items.size:=by omega
  have this:items[i]?=some items[i]:=cH lt;have parts:items.toList.drop i=items[i]::items.toList.drop (i+1):=by
   rw[List.drop_eq_getElem_cons (by simpa using lt)];simp
  unfold draw;refine aA (wpAny_pyNext_list_item hit d this λm a f=>?_);refine aA (bF (Ly g n (i+1) _ _ a (d.at λo e=>(f.2 l g).trans e) (by omega) λh c k=>aB ?_));have:=q h (by rw[show i+(n+1)=i+1+n by omega];exact c) λb nb=>(k b nb).trans (f.2 b nb)
  rw[parts] at this;exact this
theorem Wk (calm:A.handled=none) (j:s.heap.IsList l items) (C:p.length=items.size) (plain:p.findIdx? (·.1)=none)
  (go:∀ r,(∀ b o,s.heap.get? b=some o->r.get? b=some o)->wpAny (model g w) A (assignInOrder (p.map (·.2)) items.toList) Q E { s with heap:=r }):wpAny (model g w) A (unpack (.ref l) p) Q E s:=by
 have lt:l<s.heap.objs.size:=by
  obtain⟨_,e,_⟩:=j;exact aQ e
 let a:=s.heap.push { cls:=.type "list_iterator",data:=.fields #[.ref l,.int 0 0] };have same:∀ b o,s.heap.get? b=some o->a.get? b=some o:=λb o e=>aF _ e
 have less:∀ b o,s.heap.get? b=some o->b≠s.heap.objs.size:=λb o e=>bH (aQ e)
 have c:a.IsListIter s.heap.objs.size l 0:=⟨_,aU _ rfl,rfl,rfl⟩;have h:a.IsList l items:=j.at λo e=>same _ o e
 unfold unpack;rw[plain,C];refine aA (bF ?_);unfold unpackItems;refine aA (Nb j ?_);rw[aE aR];refine aA (bF (wpAny_pyIter_list j ?_));refine aA (bF (Ly (bH lt) items.size 0 _ _ c h (by omega) λi d f=>?_));have all:(items.toList.drop 0).take items.size=items.toList:=by rw[List.drop_zero];exact bN (by simp)
 have n:i.IsList l items:=h.at λo e=>(f l (bH lt)).trans e
 rw[all,aE (by simp)];refine aA (bF (wpAny_pyNext_list_end calm d n (dY (by omega)) λk m=>?_));simp only[jN,bT,dL];exact aB (go k λb o e=>m b o (less b o e) ((f b (less b o e)).trans (same b o e)))
end
end PySem
namespace L2
open PySem PySem.Spec PyProof.Rows
section
variable {X:Cx}
def To (K:kC) (n:Nat) (t:vD):TG:=λv c H Q=>∃ a b,v = .ref a/\kK K H a b/\b.length=n/\t b c H Q
theorem S4 (l:X.calm=true) (h:sQ X g t)
  (o:(assignEach g X.env).length=n:=by rfl) (plain:(assignEach g X.env).findIdx? (·.1)=none:=by rfl) (j:∀ v,assign (.Tuple g k pos) X.env v=(do standAt pos;unpack v (assignEach g X.env)):=by intro _;rfl):PG X (.Tuple g k pos) (To X.K n t):=by
 intro b s q H v u Q I r hw;obtain⟨a,m,rfl,e,d,hw⟩:=hw;cases r;obtain⟨f,c,i,x⟩:=I.list e;rw[j];refine aA (jW (Wk (I.ok.hd l) i.isList (by rw[o,<- d,aK];exact c.length) plain λw k=>?_));exact h b _ q H m _ Q (I.kept (t':=s.toks) k) (by simpa using c) hw
end
end L2
namespace L2
open PySem PySem.Spec PyProof.Rows Lw
theorem Hw (g:Room k A):A.units+2<cLine:=cJ (Nat.add_le_add_left (by decide:2<=64) _) g.units
def Mb (n:Nat) (gs:sG):qM:=λd c b=>match d with
 | .l a=>a.length=n/\gs a c b
 | _=>False
section
variable {X:Cx}{gs:sG}
theorem Jy (p:X.calm=true) (h:yG X m g gs) (r:(assignEach g X.env).length=n:=by rfl) (j:(assignEach g X.env).findIdx? (·.1)=none:=by rfl) (o:∀ v,assign (.Tuple g k pos) X.env v=(do standAt pos;unpack v (assignEach g X.env)):=by intro _;rfl):rY X m (.Tuple g k pos) (Mb n gs) :=
 (S4 p h r j o).mono λv w H Q b=>b.elim λB u T d t q hd c k=>by
  cases d with
  | l f =>
   obtain⟨a,s,rfl,_,i,e⟩:=hd.valAt.lst_inv;exact⟨a,s,rfl,kK.of i,by rw[<- e.length];exact c.1,B,u,T,f,t,q,e.length,hd.drop.pushs (A:=λ_=>True) e,c.2,k⟩
  | _=>exact c.elim
end
end L2
namespace Lw
open PySem L2
theorem lk (h:Nat.ble n m=true:=by rfl):n<=m:=Nat.le_of_ble_eq_true h
theorem G7:∀ k:MK,qW (nB k)=some k
 | .inl (.inl _)=>rfl
 | .inl (.inr _)=>rfl
 | .inr a=>by
  show (qK (a.map vQ)).map Sum.inr=_;rw[Gg (g:=λk=>k) (λk=>by cases k<;>rfl)];simp
theorem Bt (l:qW j=some k) (o:g.length<=100) (v:Int):rV (.dM (kM g)) j (.int v)=some (.dM (kM (oI g k v))):=by
 show (if (kM g).length<100000 then (qW j).map λk=>D.dM (lF (kM g) k (.int v)) else none)=_;rw[aH (by unfold kM;rw[List.length_map];omega),l,Option.map_some,Eo]
theorem Ek (g:mD) (k:MK) (v:Int):(oI g k v).length<=g.length+1:=by
 unfold oI;by_cases h:(g.any λp=>decide (p.1=k))=true
 .rw[aH h,aD];omega
 .rw[aE h,bI];exact aP _
theorem Bj:∀ (j g:mD),(nV g j).length<=g.length+j.length
 | [],g=>aP _
 | m::j,g=>by
  have a:=Bj j (oI g m.1 m.2);have b:=Ek g m.1 m.2;show (nV (oI g m.1 m.2) j).length<=_;rw[cP];omega
theorem Na {j g:mD}{i:Nat}{m:MK×Int}(h:g[i]?=some m):nV j (g.take (i+1))=oI (nV j (g.take i)) m.1 m.2:=by
 unfold nV;rw[cY,h,List.foldl_append];rfl
section
theorem Dq (k o:Bool):(lK n k o).length<=3:=by cases k<;>cases o<;>exact lk
theorem Ij (k o:Bool):(w1 n k o).length<=3:=bS (Bj _ []) (by rw[aD,fF,Nat.zero_add];exact Dq k o)
theorem Ie (k o t:Bool):(w2 n k o t).length<=10:=by
 unfold w2;have a:=Ij (n:=n) k o;cases t
 .exact bS a lk
 .have b:=Bj (((lK n k o).drop 1).map λp=>(p.2,-1)) (w1 n k o);have c:=Dq (n:=n) k o;rw[aD,eT] at b;rw[aH rfl];omega
theorem Ls (k o t:Bool):(w3 n k o t).length<=11:=by
 unfold w3;have a:=Ie (n:=n) k o t;cases o
 .exact bS (Ek _ _ _) (by omega)
 .exact bS a lk
end
theorem Et (x:Int):∃ z:Bool,x%2=if z then 1 else 0:=by
 by_cases h:x%2=0
 .exact⟨false,h⟩
 .exact⟨true,show x%2=1 by omega⟩
def mV (p:Af×MK):D:=.t [.str p.1,nB p.2]
theorem Uo (l:g.length=10) (p:g.Nodup):∃ (n:Fin 9->Af) (o:Af),(∀ i j,(n i=n j)=(i=j))/\g=[n 0,n 1,n 2,n 3,n 4,n 5,n 6,n 7,n 8,o]:=by
 refine⟨λi=>g[i.val]'(by omega),g[9]'(by omega),λi j=>?_,?_⟩
 .refine propext ⟨λh=>?_,λh=>by rw[h]⟩;exact Fin.ext ((List.getElem_inj p).mp h)
 .refine List.ext_getElem l λi a b=>?_
  have:i<10:=by rw[<- l];exact a
  match i,this with
  | 0,_=>rfl
  | 1,_=>rfl
  | 2,_=>rfl
  | 3,_=>rfl
  | 4,_=>rfl
  | 5,_=>rfl
  | 6,_=>rfl
  | 7,_=>rfl
  | 8,_=>rfl
  | 9,_=>rfl
theorem Gx (b:Int):∀ g:Aa j,(g.map λx=>b*f x).sum=b*(g.map f).sum
 | []=>(dB b).symm
 | x::g=>by rw[aI,aI,eJ,eJ,Gx b g,jD]
theorem Ql {F:Fld}(h:vG F w) (e:∀ j,g j=b*w j):vG F g:=λa c=>by
 have z:=h a c;have l:sS F g (nR F.C a)=b*sS F w (nR F.C a):=by
  unfold sS;simp only[e,jD,eS,<- Gx]
 rw[l,z,dB]
theorem Vr (g:mD):xC (kM g)=g.map λp=>nB p.1:=by unfold xC kM;rw[List.map_map];rfl
theorem Bp:(["name","thing"]:Aa Af).Nodup:=by decide +kernel
theorem Ru:(["name","legs"]:Aa Af).Nodup:=by decide +kernel
theorem R6:(["thing","by","weights"]:Aa Af).Nodup:=by decide +kernel
def Hx:RD:=λf d e=>∃ b:Aa Int,d=[.c (b.map D.int)]/\b.length<=63/\∀ (F:Fld) (a:mD),GF F->vG F (kL a)->(∀ k,-(2 ^ 64)<kL a k/\kL a k<2 ^ 64)->e (.v (.t [lA F,.dM (kM a)]))
theorem Ra (h:g[i]?=some (.v d)) (k:j (.v d) g):vd i l g j:=by unfold vd;rw[h];exact k
section
variable {P:Ah}{K:kC}
theorem lY:FnScope ["script","head","names","row","column","other","kept","over_in","both","turned","total","over","gates","adds","along","rows","columns","legs","weights","name","thing","by","inputs","outputs","field"] ["script"] (lQ vU):=nS
theorem Yh (F:Fun K "_law_adder" "_law_adder" vU f fd) (T:Txt mg) (I:Gd K mg "_law_number" sK ["script","k"] fN ai) (J:Gd K mg "_law_names" wL ["script","start","many"] fM ah) (C:Gd K mg "_law_turned" uV ["number","things"] fT aj)
  (aa:FnOk P w K mg base kQ 1 fN ai ["script","k"] (kY K yE)) (ab:FnOk P w K mg base kQ 2 fM ah ["script","start","many"] (kY K Hj)) (U:FnOk P w K mg base kQ 1 fT aj ["number","things"] (kY K Em)):FnOk P w K mg base kQ 3 f fd ["script"] (kY K Hx):=by
 refine F.okD (k:=2) lY (λdk ds Φ ⟨_,e,_⟩=>by rw[e];rfl) (by decide) λax A ao s H E dk ds Φ Y hR=>?_
 have Q:=nL Y;obtain⟨ns,rfl,hl,an⟩:=hR;refine⟨_,(hB (kI 1 lY.nd (lU aa (Y.mono (by decide)) (by rfl) I.m I.k I.b (dK (dT 0) (dK eH eI)))) (hB (kI 2 lY.nd (lU ab (Y.mono (by decide)) (by rfl) J.m J.k J.b (dK (dT 0) (dK eH (dK eH eI))))) (hB (yU (m:=99) (Ap zN Ak (pv 2) Dd (yM eH)) (Jy (n:=5) rfl (kW (kH 3 lY.nd) (kW (kH 4 lY.nd) (kW (kH 5 lY.nd) (kW (kH 6 lY.nd) (kW (kH 7 lY.nd) oS))))))) (hB (yU (m:=99) (Ap zN Ak (pv 2) (yM eH) (yM eH)) (Jy (n:=4) rfl (kW (kH 8 lY.nd) (kW (kH 9 lY.nd) (kW (kH 10 lY.nd) (kW (kH 11 lY.nd) oS)))))) (hB (kI 12 lY.nd (nD (dK (lE (dK (dT 8) (dK mW (dK (lE (dK (dT 3) (dK (dT 4) eI))) eI)))) eI))) (hB (kI 13 lY.nd (nD (dK (lE (dK (dT 8) (dK (lE (dK (dT 3) (dK (dT 4) eI))) eI))) (dK (lE (dK (dT 5) (dK (dT 5) eI))) eI)))) (hB (kI 14 lY.nd (nD eI)) (hB (kI 15 lY.nd (qD Q (nD (dK (lE (dK (dT 3) eI)) (dK (lE (dK (dT 3) (dK (dT 5) eI))) eI))) (kN lV lW 1 eH))) (hB (kI 16 lY.nd (qD Q (nD (dK (lE (dK (dT 4) (dK (dT 5) eI))) (dK (lE (dK (dT 4) eI)) eI))) (kN lV lW 1 eH))) (hB (oH (uR (rD Y.units) (qQ false) (kE lV lW (kN mI mL 1 eH) eH) eH) (hB (kI 13 lY.nd (nD (dK (lE (dK (dT 6) (dK (dT 6) eI))) (dK (lE (dK (dT 8) (dK (lE (dK (dT 3) (dK (dT 4) eI))) eI))) eI)))) (hB (oW (qB bR bW bX qV rR (pv 14) (dK (lE (dK (dT 10) (dK (dT 6) (dK eH (dK (wP eH) eI))))) eI))) (hB (kI 15 lY.nd (lE (dK (dT 3) eI))) (kR (kI 16 lY.nd (lE (dK (dT 4) eI))))))) oR) (hB (oH (uR Ib Jf (kE lV lW (kN mI mL 1 eH) eH) eH) (hB (oW (qB bR bW bX qV rR (pv 13) (dK (lE (dK (dT 7) (dK (dT 7) eI))) eI))) (kR (oW (qB bR bW bX qV rR (pv 14) (dK (kE lG lH (lE (dK (dT 11) (dK (dT 7) eI))) (qD Q (nD (dK (lE (dK eH (dK eH eI))) (dK (lE (dK eH (dK eH eI))) eI))) (kE lV lW (kN mI mL 1 eH) eH))) eI))))) oR) (hB (kI 17 lY.nd (rH ["name","thing"] [] [] (nN (dT 13)) (λ_ _ _ _ _=>(pJ (n:=2) rfl (kW (kH 0 Bp) (kW (kH 1 Bp) oS)))) (λ_ _ _ _ _=>(dT 0)))) (hB (kI 18 lY.nd (nF (Ka rfl (Hw Y)) Fn T.dict cS (dK (rH ["name","thing"] [] [] (nN (dT 13)) (λ_ _ _ _ _=>(pJ (n:=2) rfl (kW (kH 0 Bp) (kW (kH 1 Bp) oS)))) (λ_ _ _ _ _=>(lE (dK (dT 1) (dK eH eI))))) eI))) (hB (oH (uR (rD Y.units) (qQ false) (kE lV lW (kN mI mL 1 eH) eH) eH) (hB (oD (nN (Ap zN Ak (pv 13) (yM eH) Dd)) (pJ (n:=2) rfl (kW (kH 19 lY.nd) (kW (kH 20 lY.nd) oS))) (kR (sV (n:=18) Q (wP eH) (pv 18) (dT 20)))) (hB (oW (qB bR bW bX qV rR (pv 12) (dK (lE (dK (dT 9) (dK mW (dK (lE (dK (kT Q 17 eH) eI)) eI)))) eI))) (kR (oW (qB bR bW bX qV rR (pv 12) (dK (lE (dK (dT 11) (dK (qD Q (nD (dK mW (dK mW eI))) (kE rX rT (pR A5 zY T.len jR (dK (dT 17) eI)) eH)) (dK (nF tE tP T.tuple cR (dK (kE lG lH (nD (dK (dT 9) eI)) (Ap zN Ak (pv 17) (yM eH) Dd)) eI)) eI)))) eI)))))) (kR (oW (qB bR bW bX qV rR (pv 12) (dK (lE (dK (dT 11) (dK (qD Q (nD (dK mW (dK mW eI))) (kE rX rT (pR A5 zY T.len jR (dK (dT 17) eI)) eH)) (dK (nF tE tP T.tuple cR (dK (dT 17) eI)) eI)))) eI))))) (hB (oH (vT (At Q) (tY true) (dT 7) (pv 17)) (kR (sV (n:=18) Q (kE lG lH (wP eH) (kE mO mP eH (nF Fq K6 T.int iW (dK (Qk (rD Y.units) (qQ false) (kE lV lW (kN mI mL 1 eH) eH) eH) eI)))) (pv 18) (dT 11))) oR) (hB (oW (qB bR bW bX qV rR (pv 12) (dK (lE (dK (dT 10) (dK mW (dK (nF tE tP T.tuple cR (dK (dT 17) eI)) eI)))) eI))) (hB (oH (vT (At Q) (tY true) (dT 6) (pv 17)) (kR (sV (n:=18) Q (wP eH) (pv 18) (dT 10))) oR) (hB (kI 21 lY.nd (qD Q (nD (dK eH (dK (wP eH) (dK eH (dK (wP eH) (dK eH eI)))))) (kE lV lW (kN mI mL 1 eH) eH))) (hB (Ov 22 ["name"] ["legs"] [17] lY.nd (nN (lE (dK (dT 6) (dK (dT 7) eI)))) (λ_ _ _ _ _=>(kH 0 Ru)) (λ_ _ _ _ _=>(dT 0)) (ht:=λ_ _ _ _ _=>(L0 (vT (D7 Q) (tY false) (dT 0) (pv 1))))) (hB (kI 22 lY.nd (lU U (Y.mono (by decide)) (by rfl) C.m C.k C.b (dK (kN mI mL 1 eH) (dK (kN lG lH 22 (nF B9 Ec T.list iP (dK (kN lG lH 15 (dT 16)) eI))) eI)))) (hB (kI 23 lY.nd (lU U (Y.mono (by decide)) (by rfl) C.m C.k C.b (dK (kN mI mL 1 eH) (dK (kE lG lH (nD (dK (dT 10) (dK (dT 11) eI))) (kE mO mP (nD (dK (dT 8) eI)) (kE lV lW (kN mI mL 1 eH) eH))) eI)))) (hB (kI 24 lY.nd (lE (dK (lE (dK (nF tE tP T.tuple cR (dK (dT 22) eI)) (dK (nF tE tP T.tuple cR (wZ (pv 12) eI)) (dK (nF tE tP T.tuple cR (dK (dT 23) eI)) eI)))) (dK (nF tE tP T.tuple cR (wZ (pv 14) eI)) (dK (dT 15) (dK (dT 16) eI)))))) (kR (mG (lE (dK (dT 24) (dK (nF (Ka rfl (Hw Y)) Fn T.dict cS (dK (Uh ["thing"] ["by","weights"] [21,18] rfl (dT 18) rfl rfl (λ_ _ _ _ _=>(kH 0 R6)) (λ_ _ _ _ _=>C5) (λ_ _ _ _ _=>(lE (dK (dT 0) (dK (kN mO mP 1 (kT Q 2 (dT 0))) eI))))) eI)) eI))))))))))))))))))))))))))),?_⟩;refine hI (λB=>∃ hd:Nat,B=[.v (.c (ns.map D.int)),.v (.int hd),.n,.n,.n,.n,.n,.n,.n,.n,.n,.n,.n,.n,.n,.n,.n,.n,.n,.n,.n,.n,.n,.n,.n]) (λN u=>⟨ns,130,rfl,hl,lk,λr _=>⟨.inl rfl,u _ ⟨r,rfl⟩⟩⟩) ?_;rintro _ ⟨hd,rfl⟩;refine hI (λB=>∃ (n:Fin 9->Af) (n9:Af),(∀ i j,(n i=n j)=(i=j))/\(∀ i,GN (n i))/\B=[.v (.c (ns.map D.int)),.v (.int hd),.v (.l ([n 0,n 1,n 2,n 3,n 4,n 5,n 6,n 7,n 8,n9].map D.str)),.n,.n,.n,.n,.n,.n,.n,.n,.n,.n,.n,.n,.n,.n,.n,.n,.n,.n,.n,.n,.n,.n]) (λN u=>?_) ?_
 .refine⟨ns,131,10,rfl,hl,lk,lk,λxs R O h3=>⟨.inl rfl,u _ ?_⟩⟩;obtain⟨n,n9,inj,rfl⟩:=Uo R O;exact⟨n,n9,inj,λi=>h3 _ (by match i with | 0=>simp | 1=>simp | 2=>simp | 3=>simp | 4=>simp | 5=>simp | 6=>simp | 7=>simp | 8=>simp),rfl⟩
 rintro _ ⟨n,n9,inj,gn,rfl⟩;have ne:∀ i,n i ≠ "" := λi=>(gn i).nz
 let a:Aa Sl:=[.v (.c (ns.map D.int)),.v (.int hd),.v (.l ([n 0,n 1,n 2,n 3,n 4,n 5,n 6,n 7,n 8,n9].map D.str)),.v (.str (n 0)),.v (.str (n 1)),.v (.str (n 2)),.v (.str (n 3)),.v (.str (n 4))];let b:Aa Sl:=a++[.v (.str (n 5)),.v (.str (n 6)),.v (.str (n 7)),.v (.str (n 8))];refine hI (λB=>B=a++[.n,.n,.n,.n,.n,.n,.n,.n,.n,.n,.n,.n,.n,.n,.n,.n,.n]) (λN u=>?_) ?_
 .exact⟨rfl,rfl,rfl,u _ rfl⟩
 rintro _ rfl;refine hI (λB=>B=b++[.n,.n,.n,.n,.n,.n,.n,.n,.n,.n,.n,.n,.n]) (λN u=>?_) ?_
 .exact⟨rfl,rfl,rfl,u _ rfl⟩
 rintro _ rfl;let st (g ad al ro co le we G L aq ar au av:Sl):Aa Sl:=b++[g,ad,al,ro,co,le,we,G,L,aq,ar,au,av];obtain⟨z,hz⟩:=Et (hd:Int);obtain⟨y,hy⟩:=Et ((hd:Int)/16);obtain⟨c,hc⟩:=Et ((hd:Int)/320);obtain⟨k,hk⟩:∃ k:Bool,decide ((hd:Int)/2%2=0)=k:=⟨_,rfl⟩;obtain⟨o,ho⟩:∃ k:Bool,decide ((0:Int)<(hd:Int)/4%4)=k:=⟨_,rfl⟩;obtain⟨t,ht⟩:∃ k:Bool,decide ((hd:Int)/32%2=0)=k:=⟨_,rfl⟩;let W:Aa (Af×Af×Aa Af):=[(n 5,"and",[n 0,n 1])];refine hI (λB=>B=st (.o (.l (W.map nI))) .n .n .n .n .n .n .n .n .n .n .n .n) (λN u=>⟨lk,lk,lk,u _ rfl⟩) ?_;rintro _ rfl;refine hI (λB=>B=st (.o (.l (W.map nI))) (.o (.l ((lK n false false).map mV))) .n .n .n .n .n .n .n .n .n .n .n) (λN u=>⟨lk,lk,lk,lk,u _ rfl⟩) ?_;rintro _ rfl;refine hI (λB=>B=st (.o (.l (W.map nI))) (.o (.l ((lK n false false).map mV))) (.o (.l [])) .n .n .n .n .n .n .n .n .n .n) (λN u=>⟨lk,u _ rfl⟩) ?_;rintro _ rfl;refine hI (λB=>B=st (.o (.l (W.map nI))) (.o (.l ((lK n false false).map mV))) (.o (.l [])) (.v (.t ((lJ n false z).map D.str))) .n .n .n .n .n .n .n .n .n) (λN u=>?_) ?_
 .exact⟨lk,lk,lk,rfl,(by decide:(0:Int)<2),.t ((lJ n false z).map D.str),by show mC _ ((hd:Int)%2)=_;rw[hz];cases z<;>rfl,u _ rfl⟩
 rintro _ rfl;refine hI (λB=>B=st (.o (.l (W.map nI))) (.o (.l ((lK n false false).map mV))) (.o (.l [])) (.v (.t ((lJ n false z).map D.str))) (.v (.t ((lL n false z).map D.str))) .n .n .n .n .n .n .n .n) (λN u=>?_) ?_
 .exact⟨lk,lk,lk,rfl,(by decide:(0:Int)<2),.t ((lL n false z).map D.str),by show mC _ ((hd:Int)%2)=_;rw[hz];cases z<;>rfl,u _ rfl⟩
 rintro _ rfl;refine hI (λB=>B=st (.o (.l (W.map nI))) (.o (.l ((lK n k false).map mV))) (.o (.l ((mK n k false y).map lX))) (.v (.t ((lJ n k z).map D.str))) (.v (.t ((lL n k z).map D.str))) .n .n .n .n .n .n .n .n) (λN u=>?_) ?_
 .refine⟨rfl,⟨by decide,by decide⟩,(by decide:(0:Int)<2),?_⟩;cases k
  .exact qJ hk (u _ rfl)
  .exact tJ hk ⟨lk,lk,lk,lk,rfl,lk,lk,lk,lk,u _ rfl⟩
 rintro _ rfl;refine hI (λB=>B=st (.o (.l (W.map nI))) (.o (.l ((lK n k o).map mV))) (.o (.l ((mK n k o y).map lX))) (.v (.t ((lJ n k z).map D.str))) (.v (.t ((lL n k z).map D.str))) .n .n .n .n .n .n .n .n) (λN u=>?_) ?_
 .refine⟨rfl,⟨by decide,by decide⟩,(by decide:(0:Int)<4),?_⟩;cases o
  .exact qJ ho (u _ (by cases k<;>rfl))
  .refine tJ ho ⟨rfl,lk,by cases k<;>exact lk,rfl,lk,lk,lk,lk,rfl,⟨by decide,by decide⟩,(by decide:(0:Int)<2),.t [.int (if y then 0 else 1),.int (if y then 1 else 0)],by show mC _ ((hd:Int)/16%2)=_;rw[hy];cases y<;>rfl,lk,by cases k<;>exact lk,u _ ?_⟩;cases k<;>rfl
 rintro _ rfl;have aw:=Dq (n:=n) k o;refine hI (λB=>B=st (.o (.l (W.map nI))) (.v (.l ((lK n k o).map mV))) (.o (.l ((mK n k o y).map lX))) (.v (.t ((lJ n k z).map D.str))) (.v (.t ((lL n k z).map D.str))) (.o (.l ((lO n k o).map D.str))) .n .n .n .n .n .n .n) (λN u=>?_) ?_
 .unfold tT;refine rG (lK n k o) mV (λp=>.str p.1) _ (λΨ h=>h) (by omega) (λi p S Nx e R O=>⟨rfl,rfl,R,O⟩) (u _ ?_);cases k<;>cases o<;>rfl
 rintro _ rfl;refine hI (λB=>B=st (.o (.l (W.map nI))) (.v (.l ((lK n k o).map mV))) (.o (.l ((mK n k o y).map lX))) (.v (.t ((lJ n k z).map D.str))) (.v (.t ((lL n k z).map D.str))) (.o (.l ((lO n k o).map D.str))) (.o (.dM (kM (w1 n k o)))) .n .n .n .n .n .n) (λN u=>?_) ?_
 .unfold tT dC aC;refine rG (lK n k o) mV (λp=>.t [nB p.2,.int 1]) _ (λΨ h=>h) (by omega) (λi p S Nx e R O=>⟨rfl,rfl,lk,R,O⟩) ⟨kM ((lK n k o).map λp=>(p.2,1)),by unfold kM;rw[List.map_map,List.map_map];rfl,by unfold kM;rw[List.length_map,List.length_map];omega,u _ ?_⟩;rw[show oN lF [] (kM ((lK n k o).map λp=>(p.2,1)))=kM (w1 n k o) from Ea _ []];rfl
 rintro _ rfl;let g1:Aa (Af×Af×Aa Af):=(n 5,"and",[n 0,n 1])::(if t then [(n 6,("not" : Af),[if k then n 3 else n 5]),(n 8,if o then ("most" : Af) else "and",n 6::(lO n k o).drop 1)] else [(n 8,if o then ("most" : Af) else "and",lO n k o)]);refine hI (λB=>∃ G L,B=st (.o (.l (g1.map nI))) (.v (.l ((lK n k o).map mV))) (.o (.l ((mK n k o y).map lX))) (.v (.t ((lJ n k z).map D.str))) (.v (.t ((lL n k z).map D.str))) (.v (.l ((lO n k o).map D.str))) (.o (.dM (kM (w2 n k o t)))) G L .n .n .n .n) (λN u=>?_) ?_
 .refine⟨rfl,⟨by decide,by decide⟩,(by decide:(0:Int)<2),?_⟩;cases t
  .refine qJ ht ?_;cases k<;>cases o<;>exact⟨rfl,lk,rfl,_,rfl,_,rfl,lk,lk,u _ ⟨.n,.n,rfl⟩⟩
  .refine tJ ht ?_;have R:=Ij (n:=n) k o;refine hI (λB=>∃ G L,B=st (.o (.l (W.map nI))) (.v (.l ((lK n k o).map mV))) (.o (.l ((mK n k o y).map lX))) (.v (.t ((lJ n k z).map D.str))) (.v (.t ((lL n k z).map D.str))) (.o (.l ((lO n k o).map D.str))) (.o (.dM (kM (w2 n k o true)))) G L .n .n .n .n) (λN u=>?_) ?_
   .let ms:mD:=((lK n k o).drop 1).map λp=>(p.2,-1)
    refine oG (((lK n k o).drop 1).map mV) _ (λΨ h=>⟨rfl,by rw[<- U9 mV (lK n k o) 1] at h;exact h⟩) (λi B=>∃ G L,B=st (.o (.l (W.map nI))) (.v (.l ((lK n k o).map mV))) (.o (.l ((mK n k o y).map lX))) (.v (.t ((lJ n k z).map D.str))) (.v (.t ((lL n k z).map D.str))) (.o (.l ((lO n k o).map D.str))) (.o (.dM (kM (nV (w1 n k o) (ms.take i))))) G L .n .n .n .n) ⟨.n,.n,rfl⟩ ?_ ?_
    .rintro i e B he ⟨G,L,rfl⟩;obtain⟨p,Z,rfl⟩:=rS he;have hm:ms[i]?=some (p.2,-1):=by show (((lK n k o).drop 1).map λp=>(p.2,(-1:Int)))[i]?=_;rw[bB,Z];rfl
     have ak:(nV (w1 n k o) (ms.take i)).length<=100:=by
      have O:=Bj (ms.take i) (w1 n k o);have h3:(ms.take i).length<=3:=by
       rw[bY];have:ms.length<=3:=by show (((lK n k o).drop 1).map λp=>(p.2,(-1:Int))).length<=3;rw[aD,eT];omega
       omega
      omega
     refine⟨rfl,rfl,rfl,_,Bt (G7 p.2) ak (-1),.v (.str p.1),.v (nB p.2),?_⟩;rw[Na hm];rfl
    .rintro B ⟨G,L,rfl⟩;refine u _ ⟨G,L,?_⟩;rw[bN (by show (((lK n k o).drop 1).map λp=>(p.2,(-1:Int))).length<=_;rw[aD,aD];exact aP _)];rfl
   rintro _ ⟨G,L,rfl⟩;cases k<;>cases o<;>exact⟨rfl,rfl,_,rfl,lk,lk,lk,rfl,lk,rfl,_,rfl,_,rfl,lk,rfl,lk,lk,lk,u _ ⟨G,L,rfl⟩⟩
 rintro _ ⟨G,L,rfl⟩;have fl:sW ((lO n k o).map D.str)=some ((lO n k o).map V.str):=K4 _;have l4:decide (n 4∈lO n k o)=o:=by cases k<;>cases o<;>simp[lO,inj]
 have l3:decide (n 3∈lO n k o)=k:=by cases k<;>cases o<;>simp[lO,inj]
 refine hI (λB=>B=st (.o (.l (g1.map nI))) (.v (.l ((lK n k o).map mV))) (.o (.l ((mK n k o y).map lX))) (.v (.t ((lJ n k z).map D.str))) (.v (.t ((lL n k z).map D.str))) (.v (.l ((lO n k o).map D.str))) (.o (.dM (kM (w3 n k o t)))) G L .n .n .n .n) (λN u=>?_) ?_
 .refine⟨_,_,rfl,fl,?_⟩;rw[yV,l4];have O:=Ie (n:=n) k o t;cases o
  .have hv:(-2:Int)+4*(if decide ((hd:Int)/32%2=0)=true then 1 else 0)=if t=true then 2 else -2:=by rw[ht];cases t<;>rfl
   refine⟨rfl,⟨by decide,by decide⟩,(by decide:(0:Int)<2),.inl ⟨by decide,by decide⟩,rfl,.dM (kM (oI (w2 n k false t) (nK (n 8)) (if t=true then 2 else -2))),?_,u _ rfl⟩;rw[<- hv];exact Bt (k:=nK (n 8)) rfl (by omega) _
  .exact u _ rfl
 rintro _ rfl;refine hI (λB=>B=st (.o (.l ((mH n k o t).map nI))) (.v (.l ((lK n k o).map mV))) (.o (.l ((mK n k o y).map lX))) (.v (.t ((lJ n k z).map D.str))) (.v (.t ((lL n k z).map D.str))) (.v (.l ((lO n k o).map D.str))) (.o (.dM (kM (w3 n k o t)))) G L .n .n .n .n) (λN u=>?_) ?_
 .cases k<;>cases o<;>cases t<;>exact⟨rfl,lk,lk,u _ rfl⟩
 rintro _ rfl;refine hI (λB=>B=st (.o (.l ((mH n k o t).map nI))) (.v (.l ((lK n k o).map mV))) (.o (.l ((mK n k o y).map lX))) (.v (.t ((lJ n k z).map D.str))) (.v (.t ((lL n k z).map D.str))) (.v (.l ((lO n k o).map D.str))) (.o (.dM (kM (w4 n k o t)))) G L .n .n .n .n) (λN u=>?_) ?_
 .refine⟨_,_,rfl,fl,?_⟩;rw[yV,l3];have O:=Ls (n:=n) k o t;cases k
  .exact⟨rfl,_,Bt (k:=nK (n 7)) rfl (by omega) _,u _ rfl⟩
  .exact u _ rfl
 rintro _ rfl;refine hI (λB=>∃ M:Int,-1000003<=M/\M<=1000003/\B=st (.o (.l ((mH n k o t).map nI))) (.v (.l ((lK n k o).map mV))) (.o (.l ((mK n k o y).map lX))) (.v (.t ((lJ n k z).map D.str))) (.v (.t ((lL n k z).map D.str))) (.v (.l ((lO n k o).map D.str))) (.o (.dM (kM (w4 n k o t)))) G L (.v (.int M)) .n .n .n) (λN u=>?_) ?_
 .have h5:(hd:Int)/64%5=0\/(hd:Int)/64%5=1\/(hd:Int)/64%5=2\/(hd:Int)/64%5=3\/(hd:Int)/64%5=4:=by omega
  obtain⟨M,b1,b2,hb⟩:∃ M:Int,-1000003<=M/\M<=1000003/\mC [D.int 1,.int (-1),.int 3,.int (-7),.int 1000003] ((hd:Int)/64%5)=some (.int M):=by
   rcases h5 with e | e | e | e | e<;>rw[e]
   .exact⟨1,by decide,by decide,rfl⟩
   .exact⟨-1,by decide,by decide,rfl⟩
   .exact⟨3,by decide,by decide,rfl⟩
   .exact⟨-7,by decide,by decide,rfl⟩
   .exact⟨1000003,by decide,by decide,rfl⟩
  exact⟨lk,rfl,⟨by decide,by decide⟩,(by decide:(0:Int)<5),.int M,hb,u _ ⟨M,b1,b2,rfl⟩⟩
 rintro _ ⟨M,b1,b2,rfl⟩;have fe:[n 3,n 4].filter (λx=>decide (x∈lO n k o))=oF n k o:=by
  simp only[List.filter_cons,List.filter_nil,l3,l4];cases k<;>cases o<;>rfl
 refine hI (λB=>B=st (.o (.l ((mH n k o t).map nI))) (.v (.l ((lK n k o).map mV))) (.o (.l ((mK n k o y).map lX))) (.v (.t ((lJ n k z).map D.str))) (.v (.t ((lL n k z).map D.str))) (.v (.l ((lO n k o).map D.str))) (.o (.dM (kM (w4 n k o t)))) G L (.v (.int M)) (.o (.l ((oF n k o).map D.str))) .n .n) (λN u=>?_) ?_
 .unfold tT;refine Ef [n 3,n 4] D.str D.str (λx=>decide (x∈lO n k o)) _ (λΨ h=>⟨lk,h⟩) lk (λi x S Nx e R O h3=>?_) (u _ (by rw[fe];rfl));refine⟨_,_,rfl,fl,?_⟩;rw[yV];cases hx:decide (x∈lO n k o)
  .exact h3 hx
  .exact⟨R,O hx⟩
 rintro _ rfl;have af:(hd:Int)/320=((hd/320:Nat):Int):=by omega
 have e7:(hd:Int)/7=((hd/7:Nat):Int):=by omega
 refine hI (λB=>∃ ins:Aa Af,ins.Perm (oF n k o++lJ n k z++lL n k z)/\B=st (.o (.l ((mH n k o t).map nI))) (.v (.l ((lK n k o).map mV))) (.o (.l ((mK n k o y).map lX))) (.v (.t ((lJ n k z).map D.str))) (.v (.t ((lL n k z).map D.str))) (.v (.l ((lO n k o).map D.str))) (.o (.dM (kM (w4 n k o t)))) G L (.v (.int M)) (.v (.l (ins.map D.str))) .n .n) (λN u=>?_) ?_
 .have hx:(oF n k o).map D.str++((lJ n k z).map D.str++(lL n k z).map D.str)=(oF n k o++lJ n k z++lL n k z).map D.str:=by rw[aT,aT,aX]
  refine⟨rfl,⟨by decide,by decide⟩,rfl,rfl,by cases k<;>cases z<;>exact lk,_,rfl,by cases k<;>cases o<;>cases z<;>exact lk,hd/320,(oF n k o).map D.str++((lJ n k z).map D.str++(lL n k z).map D.str),.inl (by rw[<- af]),by cases k<;>cases o<;>cases z<;>exact lk,λS Z=>⟨.inl rfl,?_⟩⟩;rw[hx] at Z;obtain⟨ins,rfl,hi⟩:=Dm Z;exact u _ ⟨ins,hi,rfl⟩
 rintro _ ⟨ins,hi,rfl⟩;refine hI (λB=>∃ q:Aa Af,q.Perm ([n 7,n 8]++if c then [n 5] else [])/\B=st (.o (.l ((mH n k o t).map nI))) (.v (.l ((lK n k o).map mV))) (.o (.l ((mK n k o y).map lX))) (.v (.t ((lJ n k z).map D.str))) (.v (.t ((lL n k z).map D.str))) (.v (.l ((lO n k o).map D.str))) (.o (.dM (kM (w4 n k o t)))) G L (.v (.int M)) (.v (.l (ins.map D.str))) (.v (.l (q.map D.str))) .n) (λN u=>?_) ?_
 .refine⟨rfl,⟨by decide,by decide⟩,lk,lk,rfl,⟨by decide,by decide⟩,(by decide:(0:Int)<2),?_⟩;show E6 (.l [.str (n 5)]) (.int ((hd:Int)/320%2)) _;rw[hc];have go:∀ xs:Aa Af,xs.length<=3->xs.Perm ([n 7,n 8]++if c then [n 5] else [])->∀ S:Aa D,S.Perm (xs.map D.str)->∃ q:Aa Af,q.Perm ([n 7,n 8]++if c then [n 5] else [])/\S=q.map D.str:=λxs _ R S O=>by
   obtain⟨q,rfl,h3⟩:=Dm O;exact⟨q,h3.trans R,rfl⟩
  cases c
  .refine⟨by decide,by decide,lk,lk,hd/7,[n 7,n 8].map D.str,.inl (by rw[<- e7];rfl),lk,λS Z=>⟨.inl rfl,?_⟩⟩;obtain⟨q,ac,rfl⟩:=go [n 7,n 8] lk (.refl _) S Z;exact u _ ⟨q,ac,rfl⟩
  .refine⟨by decide,by decide,lk,lk,hd/7,[n 7,n 8,n 5].map D.str,.inl (by rw[<- e7];rfl),lk,λS Z=>⟨.inl rfl,?_⟩⟩;obtain⟨q,ac,rfl⟩:=go [n 7,n 8,n 5] lk (.refl _) S Z;exact u _ ⟨q,ac,rfl⟩
 rintro _ ⟨q,ag,rfl⟩;refine hI (λB=>∃ sg sa,B=st sg (.v (.l ((lK n k o).map mV))) sa (.v (.t ((lJ n k z).map D.str))) (.v (.t ((lL n k z).map D.str))) (.v (.l ((lO n k o).map D.str))) (.o (.dM (kM (w4 n k o t)))) G L (.v (.int M)) (.v (.l (ins.map D.str))) (.v (.l (q.map D.str))) (.v (lA (rN n k o t z y ins q)))) (λN u=>?_) ?_
 .exact⟨rfl,lk,rfl,lk,u _ ⟨_,_,rfl⟩⟩
 rintro _ ⟨sg,sa,rfl⟩;have hw:∀ j,-(2 ^ 64)<M*kL (w4 n k o t) j/\M*kL (w4 n k o t) j<2 ^ 64:=λj=>by
  obtain⟨R,O⟩:=S5 inj k o t j;have:kL (w4 n k o t) j = -2\/kL (w4 n k o t) j = -1\/kL (w4 n k o t) j=0\/kL (w4 n k o t) j=1\/kL (w4 n k o t) j=2:=by omega
  rcases this with e | e | e | e | e<;>rw[e]<;>omega
 have ay:(w4 n k o t).length<=12:=by
  have:=Ls (n:=n) k o t;unfold w4;cases k
  .exact bS (Ek _ _ _) (by omega)
  .exact bS this lk
 let ae:mD:=nV [] ((w4 n k o t).map λp=>(p.1,M*kL (w4 n k o t) p.1));have X:∀ j,kL ae j=M*kL (w4 n k o t) j:=Pa _ M;unfold rF Dx dC aC;refine Ra (d:=lA (rN n k o t z y ins q)) rfl ?_;show tU 1 [21,18] (Bn (vd 18)) (gN 0) Dj _ dk _ _;refine rG (w4 n k o t) (λp=>nB p.1) (λp=>.t [nB p.1,.int (M*kL (w4 n k o t) p.1)]) (st sg (.v (.l ((lK n k o).map mV))) sa (.v (.t ((lJ n k z).map D.str))) (.v (.t ((lL n k z).map D.str))) (.v (.l ((lO n k o).map D.str))) (.v (.dM (kM (w4 n k o t)))) G L (.v (.int M)) (.v (.l (ins.map D.str))) (.v (.l (q.map D.str))) (.v (lA (rN n k o t z y ins q)))) (λΨ h=>?_) (by omega) (λi p S Nx e R O=>?_) ?_
 .rw[<- Vr] at h;exact h
 .have hm:p.1∈(w4 n k o t).map (·.1):=bE.mpr ⟨p,aW e,rfl⟩;exact⟨rfl,rfl,.int (kL (w4 n k o t) p.1),by show (qW (nB p.1)).map (kG (kM (w4 n k o t)))=_;rw[G7,Option.map_some,Y9 hm],.inl ⟨by omega,by omega⟩,lk,R,O⟩
 .refine⟨kM ((w4 n k o t).map λp=>(p.1,M*kL (w4 n k o t) p.1)),by unfold kM;rw[List.map_map,List.map_map];rfl,by unfold kM;rw[List.length_map,List.length_map];omega,lk,?_⟩;rw[show oN lF [] (kM ((w4 n k o t).map λp=>(p.1,M*kL (w4 n k o t) p.1)))=kM ae from Ea _ []];exact an _ ae (Xl inj gn hi ag) (Ql (Oa inj ne hi ag) X) λj=>by rw[X];exact hw j
end
theorem Eh:∀ {n:Nat},(∀ i,i<n->0<=f i/\f i<=g i)->0<=sg f n/\sg f n<=sg g n
 | 0,_=>⟨Int.le_refl _,Int.le_refl _⟩
 | n+1,h=>by
  have a:=Eh (n:=n) λi c=>h i (by omega)
  have b:=h n (by omega);show 0<=sg f n+f n/\sg f n+f n<=sg g n+g n;omega
theorem U7 {F:Fld}(G:GF F) (r:∀ p∈F.al,kJ (l p.2.1)){W:Nat}(I:W<=8) (J:g<=8) (T:o∈F.C.outs):0<=pA F wf l W g o/\pA F wf l W g o<2 ^ 64:=by
 have h:0<=pA F wf l W g o/\pA F wf l W g o<=gs W g λ_ _=>1:=by
  unfold pA gs;rw[Au];refine Eh λi _=>Eh λj _=>?_
  have b:kJ (vP F wf l W i j o):=Fw G.gc (λx f=>(Bf G (Ax G r (Ep G r i) j) r i j x f).2) o T;have p:(0:Int)<2 ^ (i+j):=Int.pow_pos (by decide);rw[gB];by_cases c:uI (kS F wf l W g) (pX F.al o) i j=true
  .rw[aH c];rcases b with e | e<;>rw[e]<;>omega
  .rw[aE c];omega
 rw[Jj] at h;have q:∀ {n:Nat},n<=8->(0:Int)<=2 ^ n-1/\(2:Int) ^ n-1<=255:=λ{n} d=>by
  have k:2 ^ n<=2 ^ 8:=gU (by decide) d;have s:=jK n;have a:(2:Int) ^ n=((2 ^ n:Nat):Int):=by norm_cast
  rw[a];omega
 have m:=Int.mul_le_mul (q J).2 (q I).2 (q I).1 (by decide);omega
theorem U6 (K:kC) (v:Ac):PySem.W.kitOne K v v=some true:=by unfold PySem.W.kitOne;rw[if_pos (by simp)]
theorem Hc (g:(t.map (·.1)).Nodup) (h:x∈t.map (·.1)):(x,look t x)∈t:=by
 induction t with
 | nil=>nomatch h
 | cons p t a =>
  obtain⟨c,b⟩:=bP.mp (show (p.1::t.map (·.1)).Nodup from g);rw[sN];by_cases e:p.1=x
  .rw[aH e,<- e];exact aM
  .rw[aE e];exact aV _ (a b ((aJ.mp h).resolve_left λz=>e z.symm))
def Sz:RD:=λf d e=>∃ a:Aa Int,d=[.c (a.map D.int)]/\a.length<=63/\e (.v (.b true))
def xM (K:kC):Sp:=kY K Sz
section
variable {P:Ah}{K:kC}
theorem sM:FnScope ["script","field","weights","k","size","words","edges","told","output"] ["script"] (lQ uE):=nS
theorem Tp (F:Fun K "law" "law" uE f fd) (T:Txt mg) (I:Gd K mg "_law_adder" vU ["script"] fA aq) (aa:Gd K mg "_law_size" vV ["number"] fZ ay) (g:Gd K mg "_law_number" sK ["script","k"] fN av)
  (U:Gd K mg "_law_words" vR ["script","start","field","width","height"] fW ax) (J:Gd K mg "_law_edges" wG ["number","field"] fE ar) (l:Gd K mg "field_laid" sF ["field","width","height","words","edges"] fL au) (ac:Gd K mg "_law_sum" vF ["field","weights","size","words","edges","told"] fS aw)
  (af:FnOk P w K mg base kQ 3 fA aq ["script"] (kY K Hx)) (ai:FnOk P w K mg base kQ 1 fZ ay ["number"] (kY K Lc)) (ab:FnOk P w K mg base kQ 1 fN av ["script","k"] (kY K yE)) (ah:FnOk P w K mg base kQ 2 fW ax ["script","start","field","width","height"] (kY K Gs))
  (ag:FnOk P w K mg base kQ 2 fE ar ["number","field"] (kY K G9)) (ae:FnOk P w K mg base kQ 4 fL au ["field","width","height","words","edges"] (kY K J9)) (aj:FnOk P w K mg base kQ 2 fS aw ["field","weights","size","words","edges","told"] (kY K Gb))
  (kb:PySem.W.kitOne K (.type "int") (.type "bool")=some false) :
  FnOk P w K mg base kQ 5 f fd ["script"] (xM K):=by
 refine F.okD (k:=4) sM (λdk ds Φ ⟨_,e,_⟩=>by rw[e];rfl) (by decide) λa7 A a5 s H E dk ds Φ S hR=>?_
 have X:=nL S;have ki:=U6 K (.type "int");obtain⟨R,rfl,hl,a4⟩:=hR;refine⟨_,(hB (yU (m:=99) (lU af (S.mono (by decide)) (by rfl) I.m I.k I.b (dK (dT 0) eI)) (pJ (n:=2) rfl (kW (kH 1 sM.nd) (kW (kH 2 sM.nd) oS)))) (hB (oD (tI (by rfl) T.range eH) (kH 3 sM.nd) (hB (kI 4 sM.nd (lU ai (S.mono (by decide)) (by rfl) aa.m aa.k aa.b (dK (lU ab (S.mono (by decide)) (by rfl) g.m g.k g.b (dK (dT 0) (dK (kE lG lH eH (dT 3)) eI))) eI))) (hB (kI 5 sM.nd (lU ah (S.mono (by decide)) (by rfl) U.m U.k U.b (dK (dT 0) (dK (kE lG lH eH (kE mO mP eH (dT 3))) (dK (dT 1) (dK (kT X 4 eH) (dK (kT X 4 eH) eI))))))) (hB (kI 6 sM.nd (lU ag (S.mono (by decide)) (by rfl) J.m J.k J.b (dK (lU ab (S.mono (by decide)) (by rfl) g.m g.k g.b (dK (dT 0) (dK (kE lG lH eH (dT 3)) eI))) (dK (dT 1) eI)))) (hB (kI 7 sM.nd (lU ae (S.mono (by decide)) (by rfl) l.m l.k l.b (dK (dT 1) (dK (kT X 4 eH) (dK (kT X 4 eH) (dK (nF (vW rfl) wI T.dict cS (dK (dT 5) eI)) (dK (nF (vW rfl) wI T.dict cS (dK (dT 6) eI)) eI))))))) (hB (oD (nN (qD X (kT X 1 eH) eH)) (kH 8 sM.nd) (kR (oH (Eu (zU (J1 (Ia (pR (K1 _) Il T.isinstance jL (dK (kT X 7 (dT 8)) (dK (Lv (by rfl) T.int iW) eI))))) (zU (Ia (pR (K1 _) Il T.isinstance jL (dK (kT X 7 (dT 8)) (dK (Lv (by rfl) T.bool PyProof.Rows.boot_bool) eI)))) (D6 (uR Cg L4 (kT X 7 (dT 8)) eH))))) (kR (mG A9)) oR))) (kR (oH (uR (G4 S.units) (qQ true) (lU aj (S.mono (by decide)) (by rfl) ac.m ac.k ac.b (dK (dT 1) (dK (dT 2) (dK (dT 4) (dK (dT 5) (dK (dT 6) (dK (dT 7) eI))))))) eH) (kR (mG A9)) oR)))))))) (kR (mG A9)))),?_⟩;refine hI (λB=>∃ (d:Fld) (L:mD),GF d/\vG d (kL L)/\(∀ k,-(2 ^ 64)<kL L k/\kL L k<2 ^ 64)/\B=[.v (.c (R.map D.int)),.v (lA d),.v (.dM (kM L)),.n,.n,.n,.n,.n,.n]) (λN M=>⟨R,rfl,hl,λd L h1 Y h3=>⟨.inl rfl,rfl,rfl,M _ ⟨d,L,h1,Y,h3,rfl⟩⟩⟩) ?_;rintro _ ⟨d,L,G,an,hb,rfl⟩;refine hI (λB=>True) (λN M=>?_) (λ_ _=>a4);refine oG (mU 0 4) _ (λΨ h=>⟨by decide,by decide,h⟩) (λi B=>∃ s3 s4 s5 s6 s7 Q:Sl,B=[.v (.c (R.map D.int)),.v (lA d),.v (.dM (kM L)),s3,s4,s5,s6,s7,Q]) ⟨.n,.n,.n,.n,.n,.n,rfl⟩ ?_ (λB _=>M B trivial);rintro i e B he ⟨s3,s4,s5,s6,s7,Q,rfl⟩;obtain⟨hi,rfl⟩:=uH he;rw[show (0:Int)+(i:Int)=(i:Int) by omega];refine hI (λB=>∃ W y:Nat,W<=8/\y<=8/\B=[.v (.c (R.map D.int)),.v (lA d),.v (.dM (kM L)),.v (.int i),.v (.t [.int W,.int y]),s5,s6,s7,Q]) (λN M=>?_) ?_
 .exact⟨R,90+i,by simp,hl,by omega,λr _=>⟨.inl rfl,r,rfl,λa b _ ha _ hb=>⟨.inl rfl,M _ ⟨a,b,ha,hb,rfl⟩⟩⟩⟩
 rintro _ ⟨W,y,hW,hH,rfl⟩;have la:=G.la;have lr:=G.lr;have lc:=G.lc;have nin:=G.nin;have Z:(d.rows++d.cols).Nodup:=by rw[aX] at nin;exact (aO.mp nin).2.1
 have ao:(d.al.map (·.2.1)).Nodup:=by rw[aX] at nin;exact (aO.mp nin).1
 refine hI (λB=>∃ q:oJ,q.map (·.1)=d.rows++d.cols/\(∀ p∈q,0<=p.2/\p.2<2 ^ (if p.1∈d.rows then y else W))/\B=[.v (.c (R.map D.int)),.v (lA d),.v (.dM (kM L)),.v (.int i),.v (.t [.int W,.int y]),.v (.k (hO q)),s6,s7,Q]) (λN M=>?_) ?_
 .exact⟨.inl ⟨by decide,by decide⟩,rfl,_,rfl,rfl,_,rfl,R,150+10*i,d,W,y,by simp,hl,by omega,hW,hH,Z,by rw[bI];omega,λq h1 Y=>⟨.inl rfl,M _ ⟨q,h1,Y,rfl⟩⟩⟩
 rintro _ ⟨q,hw,a3,rfl⟩;refine hI (λB=>∃ u:oJ,(u.map (·.1)).Perm (d.al.map (·.2.1))/\(∀ p∈u,kJ p.2)/\B=[.v (.c (R.map D.int)),.v (lA d),.v (.dM (kM L)),.v (.int i),.v (.t [.int W,.int y]),.v (.k (hO q)),.v (.k (hO u)),s7,Q]) (λN M=>?_) ?_
 .exact⟨R,145+i,by simp,hl,by omega,λr _=>⟨.inl rfl,r,d,rfl,ao,by omega,λu h1 Y=>⟨.inl rfl,M _ ⟨u,h1,Y,rfl⟩⟩⟩⟩
 rintro _ ⟨u,hp,az,rfl⟩;have a6:(q.map (·.1)).Nodup:=by rw[hw];exact Z
 have ak:(u.map (·.1)).Nodup:=hp.nodup_iff.mpr ao;have fw:∀ x∈d.rows++d.cols,kG (hO q) (Sum.inr x)=some (.int (look q x)):=λx O=>(uQ q x).1 (by rw[hw];exact O)
 have fb:∀ x∈d.rows++d.cols,0<=look q x/\look q x<2 ^ (if x∈d.rows then y else W):=λx O=>a3 _ (Hc a6 (by rw[hw];exact O))
 have fe:∀ p∈d.al,kG (hO u) (Sum.inr p.2.1)=some (.int (look u p.2.1))/\kJ (look u p.2.1):=λp a2=>by
  have hm:p.2.1∈u.map (·.1):=hp.mem_iff.mpr (List.mem_map_of_mem (f:=λp:Af×Af×Int×Int=>p.2.1) a2);exact⟨(uQ u p.2.1).1 hm,az _ (Hc ak hm)⟩
 refine hI (λB=>B=[.v (.c (R.map D.int)),.v (lA d),.v (.dM (kM L)),.v (.int i),.v (.t [.int W,.int y]),.v (.k (hO q)),.v (.k (hO u)),.o (.k (hO (qI d (look q) (look u) W y))),Q]) (λN M=>?_) ?_
 .exact⟨rfl,_,rfl,rfl,_,rfl,d,W,y,hO q,hO u,look q,look u,rfl,G,hW,hH,fw,fe,.inl rfl,M _ rfl⟩
 rintro _ rfl;have tv:∀ o∈d.C.outs,kG (hO (qI d (look q) (look u) W y)) (Sum.inr o)=some (.int (pA d (look q) (look u) W y o)):=λo V=>C7 (v:=pA d (look q) (look u) W y) V
 have tb:∀ o∈d.C.outs,0<=pA d (look q) (look u) W y o/\pA d (look q) (look u) W y o<2 ^ 64:=λo V=>U7 G (λp hp=>(fe p hp).2) hW hH V
 refine hI (λB=>∃ Q,B=[.v (.c (R.map D.int)),.v (lA d),.v (.dM (kM L)),.v (.int i),.v (.t [.int W,.int y]),.v (.k (hO q)),.v (.k (hO u)),.o (.k (hO (qI d (look q) (look u) W y))),Q]) (λN M=>?_) ?_
 .refine oG (d.C.outs.map D.str) _ (λΨ h=>⟨rfl,_,rfl,_,rfl,h⟩) (λ_ B=>∃ Q,B=[.v (.c (R.map D.int)),.v (lA d),.v (.dM (kM L)),.v (.int i),.v (.t [.int W,.int y]),.v (.k (hO q)),.v (.k (hO u)),.o (.k (hO (qI d (look q) (look u) W y))),Q]) ⟨Q,rfl⟩ ?_ (λB h=>M B h);rintro j e B a0 ⟨Q,rfl⟩;obtain⟨o,a1,rfl⟩:=rS a0;have V:=aW a1;have hv:tX (.k (hO (qI d (look q) (look u) W y))) (.str o)=some (some (.int (pA d (look q) (look u) W y o))):=by
   show some (kG _ (Sum.inr o))=_;rw[tv o V]
  refine⟨rfl,_,hv,"int",true,rfl,ki,rfl,true,rfl,qJ rfl ⟨rfl,_,hv,"int",false,rfl,kb,rfl,false,rfl,qJ rfl ⟨rfl,_,hv,qJ (bJ (by have:=(tb o V).1;omega)) ⟨_,rfl⟩⟩⟩⟩
 rintro _ ⟨Q,rfl⟩;have p8:∀ {n:Nat},n<=8->(2:Int) ^ n<=2 ^ 8:=λ{n} hn=>by
  have Y:2 ^ n<=2 ^ 8:=gU (by decide) hn;have h4:(2:Int) ^ n=((2 ^ n:Nat):Int):=by norm_cast
  rw[h4];omega
 have zero:Bk d (kL L) W y (look q) (look u) (pA d (look q) (look u) W y)=0:=Pp G an (λx O=>by
   have:=fb x (bM _ O);rw[aH O] at this;exact this) (λx O=>by
   have:=fb x (aN _ O);rw[aE λz=>(aO.mp Z).2.2 x z x O rfl] at this;exact this) λp hp=>(fe p hp).2
 refine⟨d,L,W,y,hO q,hO u,hO (qI d (look q) (look u) W y),look q,look u,pA d (look q) (look u) W y,rfl,hW,hH,G,λx O=>⟨fw x O,(fb x O).1,?_⟩,fe,λo V=>⟨tv o V,by have:=tb o V;omega⟩,hb,.inl rfl,?_⟩
 .have h1:=(fb x O).2;have Y:(2:Int) ^ (if x∈d.rows then y else W)<=2 ^ 8:=p8 (by split<;>assumption);omega
 .exact qJ (by rw[zero];rfl) ⟨_,_,_,_,_,_,rfl⟩
end
theorem Hd {K:kC}:∀ g:Aa Int,Reps K A H (g.map D.int) (g.map V.int)
 | []=>.nil
 | _::g=>.cons (.int _) (Hd g)
theorem Px {K:kC}{g:Aa Int}(p:g.length<=63) (j:zK H) (l:kK K H a (g.map V.int)):xM K [.ref a] H (λv _=>v = .b true) λ_ _ _=>False:=by
 have e:rK K H a (g.map V.int):=by
  rcases l with (h | h) | h
  .rcases j a with z | ⟨o,f,z⟩
   .rw[h] at z;cases z
   .rw[h] at z;cases z
  .exact .inl h
  .exact .inr h
 refine⟨[],λ_=>False,[.c (g.map D.int)],λs=>s = .v (.b true),.inl rfl,λ_ z=>z.elim,.cons (.c e (Hd g)) .nil,⟨g,rfl,p,rfl⟩,?_⟩;rintro s v d rfl _ _ r;exact (show Rep K _ d (.b true) v from r).bl_inv
theorem Ej (h:g.length=1):∃ j,g=[j]:=List.length_eq_one_iff.mp h
theorem uL (h:g.length=2):∃ j l,g=[j,l]:=by
 cases g with
 | nil=>cases h
 | cons a r =>
  obtain⟨b,rfl⟩:=List.length_eq_one_iff.mp (jM h);exact⟨a,b,rfl⟩
theorem C3 (h:g.length=3):∃ j l o,g=[j,l,o]:=by
 cases g with
 | nil=>cases h
 | cons a r =>
  obtain⟨b,c,rfl⟩:=uL (jM h);exact⟨a,b,c,rfl⟩
theorem Dh (h:g.length=4):∃ j l o p,g=[j,l,o,p]:=by
 cases g with
 | nil=>cases h
 | cons a r =>
  obtain⟨b,c,d,rfl⟩:=C3 (jM h);exact⟨a,b,c,d,rfl⟩
theorem zA (h:g.length=5):∃ j l o p C,g=[j,l,o,p,C]:=by
 cases g with
 | nil=>cases h
 | cons a r =>
  obtain⟨b,c,d,e,rfl⟩:=Dh (jM h);exact⟨a,b,c,d,e,rfl⟩
theorem Yq (h:g.length=6):∃ j l o p C I,g=[j,l,o,p,C,I]:=by
 cases g with
 | nil=>cases h
 | cons a r =>
  obtain⟨b,c,d,e,f,rfl⟩:=zA (jM h);exact⟨a,b,c,d,e,f,rfl⟩
abbrev NsF (K:kC) (x:Af) (f:Ad):Prop:=PySem.W.nsIn K mainGlobals x=some (some (.ref f))
abbrev LkF (K:kC) (f:Ad) (x:Af) (st:Stmt) (u:Ab Ad×Ab Ad×Array (Ab Ac)×Ac×Ac×Ac×Ac×Ac) (cd:Ac):Prop:=K.lookup f=some ⟨u.2.2.2.1,u.1,.func (PySem.W.fnOf x x (vI st) (sD st) (lQ st) .none u.2.2.2.2.1 u.2.2.2.2.2.1 u.2.2.2.2.2.2.1 u.2.1 cd u.2.2.2.2.2.2.2),u.2.2.1⟩
theorem all_mk {l:PySem.W.OpenLaw}{K:kC}(X:K.In h) (G:h.Ns mainGlobals g) (db:g "law" = some (.ref fa))
  (a1:NsF K "check_there" f1) (l1:LkF K f1 "check_there" vA (h4,gm,ir,hu,hk,ha,ie,gy) ct) (c1:PySem.W.codeIn K ct "check_there" = true) (k1:PySem.W.keepIn K (.ref f1)=true)
  (a2:NsF K "told_by" f2) (l2:LkF K f2 "told_by" wB (h5,gn,it,hv,hm,hb,ig,gz) cu) (c2:PySem.W.codeIn K cu "told_by" = true) (k2:PySem.W.keepIn K (.ref f2)=true)
  (a3:NsF K "gate_bit" f3) (l3:LkF K f3 "gate_bit" vL (h6,gp,iu,hx,hn,hc,ih,g0) cv) (c3:PySem.W.codeIn K cv "gate_bit" = true) (k3:PySem.W.keepIn K (.ref f3)=true)
  (a4:NsF K "place_worths" f4) (l4:LkF K f4 "place_worths" tA (h7,gq,iw,hy,ho,he,ij,g4) cw) (c4:PySem.W.codeIn K cw "place_worths" = true) (k4:PySem.W.keepIn K (.ref f4)=true)
  (a5:NsF K "field_laid" f5) (l5:LkF K f5 "field_laid" sF (h8,gr,ix,hz,hp,hf,ik,g5) cx) (c5:PySem.W.codeIn K cx "field_laid" = true) (k5:PySem.W.keepIn K (.ref f5)=true)
  (a6:NsF K "told_at_places" f6) (l6:LkF K f6 "told_at_places" uT (h9,gu,iy,h0,hq,hg,il,g6) cy) (c6:PySem.W.codeIn K cy "told_at_places" = true) (k6:PySem.W.keepIn K (.ref f6)=true)
  (a7:NsF K "word_bits" f7) (l7:LkF K f7 "word_bits" vN (ia,gv,iz,h1,hr,hh,im,g7) cz) (c7:PySem.W.codeIn K cz "word_bits" = true) (k7:PySem.W.keepIn K (.ref f7)=true)
  (a8:NsF K "carried_bits" f8) (l8:LkF K f8 "carried_bits" wJ (ib,gw,i0,h2,hs,hi,ip,g8) c0) (c8:PySem.W.codeIn K c0 "carried_bits" = true) (k8:PySem.W.keepIn K (.ref f8)=true)
  (a9:NsF K "summed" f9) (l9:LkF K f9 "summed" uB (ic,gx,i1,h3,ht,hj,iq,g9) da) (c9:PySem.W.codeIn K da "summed" = true) (k9:PySem.W.keepIn K (.ref f9)=true)
  (b4:NsF K "_law_number" p) (dd:LkF K p "_law_number" sK (fg,d0,gb,e4,ev,el,fr,ec) aw) (cg:PySem.W.codeIn K aw "_law_number" = true) (bh:PySem.W.keepIn K (.ref p)=true)
  (b5:NsF K "_law_names" r) (de:LkF K r "_law_names" wL (fh,d4,gc,e5,ew,em,ft,ed) ax) (ch:PySem.W.codeIn K ax "_law_names" = true) (bi:PySem.W.keepIn K (.ref r)=true)
  (b6:NsF K "_law_turned" C) (df:LkF K C "_law_turned" uV (fi,d5,gd,e6,ex,en,fu,ee) ay) (cj:PySem.W.codeIn K ay "_law_turned" = true) (bj:PySem.W.keepIn K (.ref C)=true)
  (b7:NsF K "_law_adder" I) (dg:LkF K I "_law_adder" vU (fj,d6,gf,e7,ey,eo,fv,ef) az) (ck:PySem.W.codeIn K az "_law_adder" = true) (bm:PySem.W.keepIn K (.ref I)=true)
  (b8:NsF K "_law_edge_worth" J) (dh:LkF K J "_law_edge_worth" wQ (fk,d7,gg,e8,ez,ep,fw,eg) a0) (cl:PySem.W.codeIn K a0 "_law_edge_worth" = true) (bn:PySem.W.keepIn K (.ref J)=true)
  (b9:NsF K "_law_sum" U) (di:LkF K U "_law_sum" vF (fl,d8,gh,e9,e0,er,fx,eh) ba) (cm:PySem.W.codeIn K ba "_law_sum" = true) (bo:PySem.W.keepIn K (.ref U)=true)
  (ca:NsF K "_law_words" aa) (dj:LkF K aa "_law_words" vR (fm,d9,gi,fb,e1,es,fy,ei) bb) (cn:PySem.W.codeIn K bb "_law_words" = true) (bp:PySem.W.keepIn K (.ref aa)=true)
  (cb:NsF K "_law_edges" ab) (dk:LkF K ab "_law_edges" wG (fo,ea,gj,fc,e2,et,f0,ej) bc) (cp:PySem.W.codeIn K bc "_law_edges" = true) (bq:PySem.W.keepIn K (.ref ab)=true)
  (cc:NsF K "_law_size" ac) (dm:LkF K ac "_law_size" vV (fp,eb,gk,fe,e3,eu,ga,ek) bd) (cq:PySem.W.codeIn K bd "_law_size" = true) (br:PySem.W.keepIn K (.ref ac)=true)
  (cf:NsF K "law" bg) (dn:LkF K bg "law" uE (fq,av,gl,ff,bt,bf,bu,be) j) (cs:PySem.W.codeIn K j "law" = true) (dc:PySem.W.keepIn K (.ref bg)=true)
  (z1:PySem.W.nsIn K mainGlobals "len" = some none)
  (z2:PySem.W.nsIn K mainGlobals "range" = some none)
  (z3:PySem.W.nsIn K mainGlobals "sum" = some none)
  (z4:PySem.W.nsIn K mainGlobals "min" = some none)
  (z5:PySem.W.nsIn K mainGlobals "max" = some none)
  (z6:PySem.W.nsIn K mainGlobals "tuple" = some none)
  (z7:PySem.W.nsIn K mainGlobals "list" = some none)
  (z8:PySem.W.nsIn K mainGlobals "set" = some none)
  (z9:PySem.W.nsIn K mainGlobals "dict" = some none)
  (dp:PySem.W.nsIn K mainGlobals "int" = some none)
  (dq:PySem.W.nsIn K mainGlobals "str" = some none)
  (dr:PySem.W.nsIn K mainGlobals "zip" = some none)
  (ds:PySem.W.nsIn K mainGlobals "enumerate" = some none)
  (dt:PySem.W.nsIn K mainGlobals "all" = some none)
  (du:PySem.W.nsIn K mainGlobals "any" = some none)
  (dv:PySem.W.nsIn K mainGlobals "isinstance" = some none)
  (dw:PySem.W.nsIn K mainGlobals "sorted" = some none)
  (dx:PySem.W.nsIn K mainGlobals "abs" = some none)
  (dy:PySem.W.nsIn K mainGlobals "reversed" = some none)
  (dz:PySem.W.nsIn K mainGlobals "bool" = some none)
  (kb:PySem.W.kitOne K (.type "int") (.type "bool")=some false)
  : ∃ fd:FuncData,(∀ (s:Ae) (v:Ac),BindsTo s fd ⟨[v],[]⟩ [("script",v)])/\∀ base:Ag,K.In base->base.Ns mainGlobals g->FnOk l.prog w K g base kQ 5 fa fd ["script"] (xM K):=by
 have e:=db.symm.trans (cA X G cf);cases e;have F1:=nP (st:=vA) l1 c1 k1;have c:Gd K g "check_there" vA ["names","given"] f1 _:=⟨F1,cA X G a1,k1,F1.binds λ_ _ _ _ _ _ H m=>by obtain⟨L,O,rfl⟩:=uL m;rfl⟩;have F2:=nP (st:=wB) l2 c2 k2;have D:Gd K g "told_by" wB ["cell","bits"] f2 _:=⟨F2,cA X G a2,k2,F2.binds λ_ _ _ _ _ _ H m=>by obtain⟨L,O,rfl⟩:=uL m;rfl⟩;have F3:=nP (st:=vL) l3 c3 k3;have z:Gd K g "gate_bit" vL ["word","bits"] f3 _:=⟨F3,cA X G a3,k3,F3.binds λ_ _ _ _ _ _ H m=>by obtain⟨L,O,rfl⟩:=uL m;rfl⟩;have F4:=nP (st:=tA) l4 c4 k4;have b:Gd K g "place_worths" tA ["count"] f4 _:=⟨F4,cA X G a4,k4,F4.binds λ_ _ _ _ _ _ H m=>by obtain⟨L,rfl⟩:=Ej m;rfl⟩;have F5:=nP (st:=sF) l5 c5 k5;have n:Gd K g "field_laid" sF ["field","width","height","words","edges"] f5 _:=⟨F5,cA X G a5,k5,F5.binds λ_ _ _ _ _ _ H m=>by obtain⟨L,O,Y,x3,x4,rfl⟩:=zA m;rfl⟩;have F6:=nP (st:=uT) l6 c6 k6;have f:Gd K g "told_at_places" uT ["field","width","height","words","edges"] f6 _:=⟨F6,cA X G a6,k6,F6.binds λ_ _ _ _ _ _ H m=>by obtain⟨L,O,Y,x3,x4,rfl⟩:=zA m;rfl⟩;have F7:=nP (st:=vN) l7 c7 k7;have y:Gd K g "word_bits" vN ["names","words","worth"] f7 _:=⟨F7,cA X G a7,k7,F7.binds λ_ _ _ _ _ _ H m=>by obtain⟨L,O,Y,rfl⟩:=C3 m;rfl⟩;have F8:=nP (st:=wJ) l8 c8 k8;have k:Gd K g "carried_bits" wJ ["along","i","j","told","edges"] f8 _:=⟨F8,cA X G a8,k8,F8.binds λ_ _ _ _ _ _ H m=>by obtain⟨L,O,Y,x3,x4,rfl⟩:=zA m;rfl⟩;have F9:=nP (st:=uB) l9 c9 k9;have E:Gd K g "summed" uB ["name","way","told","worths"] f9 _:=⟨F9,cA X G a9,k9,F9.binds λ_ _ _ _ _ _ H m=>by obtain⟨L,O,Y,x3,rfl⟩:=Dh m;rfl⟩;have ae:=nP (st:=sK) dd cg bh;have a:Gd K g "_law_number" sK ["script","k"] p _:=⟨ae,cA X G b4,bh,ae.binds λ_ _ _ _ _ _ H m=>by obtain⟨L,O,rfl⟩:=uL m;rfl⟩;have af:=nP (st:=wL) de ch bi;have u:Gd K g "_law_names" wL ["script","start","many"] r _:=⟨af,cA X G b5,bi,af.binds λ_ _ _ _ _ _ H m=>by obtain⟨L,O,Y,rfl⟩:=C3 m;rfl⟩;have ag:=nP (st:=uV) df cj bj;have i:Gd K g "_law_turned" uV ["number","things"] C _:=⟨ag,cA X G b6,bj,ag.binds λ_ _ _ _ _ _ H m=>by obtain⟨L,O,rfl⟩:=uL m;rfl⟩;have ah:=nP (st:=vU) dg ck bm;have q:Gd K g "_law_adder" vU ["script"] I _:=⟨ah,cA X G b7,bm,ah.binds λ_ _ _ _ _ _ H m=>by obtain⟨L,rfl⟩:=Ej m;rfl⟩;have ai:=nP (st:=wQ) dh cl bn;have d:Gd K g "_law_edge_worth" wQ ["width","height","down","right"] J _:=⟨ai,cA X G b8,bn,ai.binds λ_ _ _ _ _ _ H m=>by obtain⟨L,O,Y,x3,rfl⟩:=Dh m;rfl⟩;have aj:=nP (st:=vF) di cm bo;have B:Gd K g "_law_sum" vF ["field","weights","size","words","edges","told"] U _:=⟨aj,cA X G b9,bo,aj.binds λ_ _ _ _ _ _ H m=>by obtain⟨L,O,Y,x3,x4,x5,rfl⟩:=Yq m;rfl⟩;have ak:=nP (st:=vR) dj cn bp;have x:Gd K g "_law_words" vR ["script","start","field","width","height"] aa _:=⟨ak,cA X G ca,bp,ak.binds λ_ _ _ _ _ _ H m=>by obtain⟨L,O,Y,x3,x4,rfl⟩:=zA m;rfl⟩;have an:=nP (st:=wG) dk cp bq;have t:Gd K g "_law_edges" wG ["number","field"] ab _:=⟨an,cA X G cb,bq,an.binds λ_ _ _ _ _ _ H m=>by obtain⟨L,O,rfl⟩:=uL m;rfl⟩;have ao:=nP (st:=vV) dm cq br;have A:Gd K g "_law_size" vV ["number"] ac _:=⟨ao,cA X G cc,br,ao.binds λ_ _ _ _ _ _ H m=>by obtain⟨L,rfl⟩:=Ej m;rfl⟩;have bv:=nP (st:=uE) dn cs dc;refine⟨PySem.W.fnOf "law" "law" (vI uE) (sD uE) (lQ uE) .none bt bf bu av j be,λs v=>.of_eq rfl,λbase _ _=>?_⟩;have T:Txt g:=⟨bD X G z1,bD X G z2,bD X G z3,bD X G z4,bD X G z5,bD X G z6,bD X G z7,bD X G z8,bD X G z9,bD X G dp,bD X G dq,bD X G dr,bD X G ds,bD X G dt,bD X G du,bD X G dv,bD X G dw,bD X G dx,bD X G dy,bD X G dz⟩;have M:=M3 (P:=l.prog) (w:=w) (base:=base) a.F T;have Q:=Tk (P:=l.prog) (w:=w) (base:=base) i.F T;have Z:=Su (P:=l.prog) (w:=w) (base:=base) (mg:=g) A.F;have S:=Vs (P:=l.prog) (w:=w) (base:=base) u.F T a M;have R:=Yu (P:=l.prog) (w:=w) (base:=base) t.F T i Q;have V:=T6 (P:=l.prog) (w:=w) (base:=base) x.F T a M;have N:=Sa (P:=l.prog) (w:=w) (base:=base) (mg:=g) c.F;have b0:=Xc (P:=l.prog) (w:=w) (base:=base) z.F T;have o:=R4 (P:=l.prog) (w:=w) (base:=base) D.F T c z N b0;have ar:=Ya (P:=l.prog) (w:=w) (base:=base) b.F T;have b3:=Wg (P:=l.prog) (w:=w) (base:=base) y.F T;have aq:=Y6 (P:=l.prog) (w:=w) (base:=base) k.F T;have b2:=Sc (P:=l.prog) (w:=w) (base:=base) f.F T k y D b aq b3 o ar;have au:=Ss (P:=l.prog) (w:=w) (base:=base) (mg:=g) E.F;have bz:=Ts (P:=l.prog) (w:=w) (base:=base) n.F T c f b E N b2 ar au;have bx:=V8 (P:=l.prog) (w:=w) (base:=base) d.F T;have b1:=M0 (P:=l.prog) (w:=w) (base:=base) B.F T d bx;have bw:=Yh (P:=l.prog) (w:=w) (base:=base) q.F T a u i M S Q;exact Tp bv T q A a x t n B bw Z M V R bz b1 kb
theorem walk {l:PySem.W.OpenLaw}{q:Ah}{g:Aa Af}{C:(Af->Ab Ac)->Ag->Prop}{p:World->Ag->Prop}{d:DefRec}{K:Params->kC}(J:l.most=some 63) (o:d.params.defaults=[])
  (I:∀ (w:World) (h:Ag),p w h->(K w.params).In h)
  (F:∀ (w:World) (j:Af->Ab Ac) (r:Ad) (h:Ag),(K w.params).In h->h.Ns mainGlobals j->j d.name=some (.ref r) ->∃ fd:FuncData,(∀ (s:Ae) (u:Ac),BindsTo s fd ⟨[u],[]⟩ [("script",u)])/\∀ base:Ag,(K w.params).In base->base.Ns mainGlobals j->FnOk l.prog w (K w.params) j base kQ 5 r fd ["script"] (xM (K w.params))) :
  PySem.W.WalkO q g C p l.row.toRowW d [] (λf T=>PySem.call f T) :=
 L2.walk_of (n:=63) (k:=5) (x := "script") (CX:=λ_=>kQ) (sp:=λw=>xM (K w.params)) J (by decide) o ⟨rfl,by decide,by decide⟩ I F (λ_ _ a i e b c=>Px e b c) λ_ _ _ _ _ z=>z
end Lw
namespace PySem.W.Fast
theorem tw11590400992445564028:True:=⟨⟩
theorem tw8505444227841282354:True:=⟨⟩
theorem tw11790285149745274063:True:=⟨⟩
theorem tw10679559794185862174:True:=⟨⟩
theorem tw11660416690682969425:True:=⟨⟩
theorem tw40522689336664849:True:=⟨⟩
theorem tw2931448358207473946:True:=⟨⟩
theorem tw7175131207942777424:True:=⟨⟩
theorem tw4973424486637901633:True:=⟨⟩
theorem tw10552542812556000933:True:=⟨⟩
theorem tw5463113666736432824:True:=⟨⟩
theorem tw14616083418526688475:True:=⟨⟩
theorem tw4415205871648127104:True:=⟨⟩
theorem tw10508887202647182514:True:=⟨⟩
theorem tw750281469020311009:True:=⟨⟩
theorem tw8963744907033964832:True:=⟨⟩
theorem tw2742450677376087788:True:=⟨⟩
theorem tw12901645749448772112:True:=⟨⟩
theorem tw1440952195501071044:True:=⟨⟩
theorem tw16429528858309603903:True:=⟨⟩
theorem tw587669228225195454:True:=⟨⟩
theorem tw16358946650988919905:True:=⟨⟩
theorem tw15865925527814445705:True:=⟨⟩
theorem tw17842974235664610018:True:=⟨⟩
theorem tw6247414372516360572:True:=⟨⟩
theorem tw10936811415351900611:True:=⟨⟩
theorem tw13777775945509828573:True:=⟨⟩
theorem tw15212081267285958183:True:=⟨⟩
theorem tw17751622848911854181:True:=⟨⟩
theorem tw3690091882113118839:True:=⟨⟩
theorem tw10773791815338189564:True:=⟨⟩
theorem tw18159100828643735068:True:=⟨⟩
theorem tw11824353391422174550:True:=⟨⟩
theorem tw4445694116387303498:True:=⟨⟩
theorem tw13187110384959179548:True:=⟨⟩
theorem tw6561942288049240100:True:=⟨⟩
theorem tw16872233490071412547:True:=⟨⟩
theorem tw12024612585620273611:True:=⟨⟩
theorem tw13677265197050885164:True:=⟨⟩
theorem tw12632672188013757834:True:=⟨⟩
theorem tw1674899542068131127:True:=⟨⟩
theorem tw11814585991745674449:True:=⟨⟩
theorem tw9798432784985425967:True:=⟨⟩
theorem tw13241905368568399028:True:=⟨⟩
theorem tw12310113337810757957:True:=⟨⟩
theorem tw15696872116865781959:True:=⟨⟩
theorem tw17169770378952043792:True:=⟨⟩
theorem tw13849352554340921061:True:=⟨⟩
theorem tw6071971322153138817:True:=⟨⟩
theorem tw2267759693938551650:True:=⟨⟩
theorem tw1439426478398802874:True:=⟨⟩
theorem tw10988789657156671095:True:=⟨⟩
theorem tw3105363639362142737:True:=⟨⟩
theorem tw14101218819772577084:True:=⟨⟩
theorem tw5009921455299930718:True:=⟨⟩
theorem tw7700322082513641449:True:=⟨⟩
theorem tw14768829060128908953:True:=⟨⟩
theorem tw9441912505552778343:True:=⟨⟩
theorem tw2044210213707829104:True:=⟨⟩
theorem tw2789683823593099042:True:=⟨⟩
end PySem.W.Fast
open PySem PySem.W PyProof.Rows
set_option maxRecDepth 100000 in
set_option maxHeartbeats 0 in
theorem PySem.Challenge.cw_laidcells_k23_whole_fields_that_add_holds : PySem.Challenge.rw_laidcells_k23_whole_fields_that_add.Holds := by
 w_on;o_law;k_head;(case hw=>w_witness2)
 k_fill
 refine Lw.walk (l:=PySem.Challenge.rw_laidcells_k23_whole_fields_that_add) rfl rfl (fun w h Y=>PySem.W.kIn_of Y) ?F
 case F =>
  intro w mg fa h KX G hmg;refine' Lw.all_mk KX G hmg ?_ ?_ ?_ ?_ ?_ ?_ ?_ ?_ ?_ ?_ ?_ ?_ ?_ ?_ ?_ ?_ ?_ ?_ ?_ ?_ ?_ ?_ ?_ ?_ ?_ ?_ ?_ ?_ ?_ ?_ ?_ ?_ ?_ ?_ ?_ ?_ ?_ ?_ ?_ ?_ ?_ ?_ ?_ ?_ ?_ ?_ ?_ ?_ ?_ ?_ ?_ ?_ ?_ ?_ ?_ ?_ ?_ ?_ ?_ ?_ ?_ ?_ ?_ ?_ ?_ ?_ ?_ ?_ ?_ ?_ ?_ ?_ ?_ ?_ ?_ ?_ ?_ ?_ ?_ ?_ ?_ ?_ ?_ ?_ ?_ ?_ ?_ ?_ ?_ ?_ ?_ ?_ ?_ ?_ ?_ ?_ ?kb
  all_goals try first | k_is | (dsimp only[Lw.NsF,Lw.LkF];k_is)
  all_goals first | kernel_rfl | rfl
