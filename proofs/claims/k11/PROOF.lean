import PyProof.Rows.All
import Wide.All
import OpenK.AllK
import Wide.FinOn
import Lean
import PyProof.EqAt
import PyProof.EqKinds
import PyProof.TupleCall
import PyProof.StationsW
import PyProof.Commute
import PyProof.ExcClass3
import PyProof.ExcInit
import OpenK.KCls
import OpenK.KMake
import PyProof.ExcArgsOwn
import PyProof.InstStoreFacts
import PyProof.MaxThree
import KE.KMinKey
import KE.KIntText
import PyProof.DictUpdate
import PyProof.Draws
import PyProof.EnumMake
import PyProof.DictIter
import KE.KDictSum
import KE.KRevSl
import PyProof.Rows.SortStr
import PyProof.Rows.SortWalk
import PyProof.DictValues
import PyProof.DictWalks
import PyProof.MeetsDictList
import PySem.Challenge.RW_laidcells_k11_rows_that_lack_names
set_option Elab.async false
set_option linter.all false
set_option maxRecDepth 100000
noncomputable section
namespace L2
open PySem PySem.Spec PyProof.Rows
abbrev Key:=Sum Int Str
def amj:Key->Value->Bool
 | .inl k,v=>Value.isInt k v
 | .inr x,v=>Value.isStrOf x v
def keyH (w:World):Key->Int
 | .inl k=>hashInt k
 | .inr x=>hashStr w x
theorem abf:∀ {k:Key}{v:Value},amj k v=true->(∃ i t,k=Sum.inl i/\v=Value.int i t)\/(∃ x t,k=Sum.inr x/\v=Value.str x t)
 | .inl i,v,h=>by
  obtain⟨t,e⟩:=Value.isInt_shape (k:=i) (v:=v) h;exact .inl ⟨i,t,rfl,e⟩
 | .inr x,v,h=>by
  obtain⟨t,e⟩:=Value.isStrOf_shape (x:=x) (v:=v) h;exact .inr ⟨x,t,rfl,e⟩
theorem aqx (i:Int) (t:Tok):amj (.inl i) (.int i t)=true:=by simp[amj,Value.isInt]
theorem arz (x:Str) (t:Tok):amj (.inr x) (.str x t)=true:=by simp[amj,Value.isStrOf]
theorem key_ll (a b:Int):decide ((Sum.inl a:Key)=Sum.inl b)=(a == b):=by
 by_cases e:a=b
 ·subst e;simp
 ·have h:¬ (Sum.inl a:Key)=Sum.inl b:=fun q=>e (Sum.inl.inj q)
  rw[decide_eq_false h];exact (beq_eq_false_iff_ne.mpr e).symm
theorem key_rr (a b:Str):decide ((Sum.inr a:Key)=Sum.inr b)=decide (a=b):=by
 by_cases e:a=b
 ·subst e;simp
 ·have h:¬ (Sum.inr a:Key)=Sum.inr b:=fun q=>e (Sum.inr.inj q)
  rw[decide_eq_false h,decide_eq_false e]
theorem key_lr (a:Int) (b:Str):decide ((Sum.inl a:Key)=Sum.inr b)=false:=decide_eq_false (fun q=>nomatch q)
theorem key_rl (a:Str) (b:Int):decide ((Sum.inr a:Key)=Sum.inl b)=false:=decide_eq_false (fun q=>nomatch q)
def aa8 (prog:Program) (w:World):PySem.KeyKind prog w Key where
 is:=amj
 hash:=keyH w
 inj:=fun v a b ha hb=>by
  rcases abf ha with⟨i,t,rfl,rfl⟩ | ⟨x,t,rfl,rfl⟩
  ·rcases abf hb with⟨j,u,rfl,e⟩ | ⟨y,u,rfl,e⟩
   ·injection e with e1 _;rw[e1]
   ·exact nomatch e
  ·rcases abf hb with⟨j,u,rfl,e⟩ | ⟨y,u,rfl,e⟩
   ·exact nomatch e
   ·injection e with e1 _;rw[e1]
 byValue:=fun k v h=>by
  rcases abf h with⟨i,t,rfl,rfl⟩ | ⟨x,t,rfl,rfl⟩<;>rfl
 pyHash:=fun hv h=>by
  rcases abf hv with⟨i,t,rfl,rfl⟩ | ⟨x,t,rfl,rfl⟩
  ·exact wpAny_pyHash_int h
  ·exact wpAny_pyHash_str h
 eqBool:=fun hu hv h=>by
  rcases abf hu with⟨i,t,rfl,rfl⟩ | ⟨x,t,rfl,rfl⟩
  ·rcases abf hv with⟨j,u,rfl,rfl⟩ | ⟨y,u,rfl,rfl⟩
   ·rw[key_ll] at h;exact wpAny_eqBool_int h
   ·rw[key_lr] at h;exact SeqAt.EqAt.int_str i t y u _ _ _ _ h
  ·rcases abf hv with⟨j,u,rfl,rfl⟩ | ⟨y,u,rfl,rfl⟩
   ·rw[key_rl] at h;exact SeqAt.EqAt.str_int x t j u _ _ _ _ h
   ·rw[key_rr] at h;exact wpAny_eqBool_str h
 «strs»:=fun k x t v h=>by
  rcases abf h with⟨i,u,rfl,e⟩ | ⟨y,u,rfl,e⟩
  ·exact nomatch e
  ·injection e with e1 _;subst e1;cases v<;>rfl
theorem alq (prog:Program) (w:World) (i:Int) (t:Tok):(aa8 prog w).is (.inl i) (.int i t)=true:=aqx i t
theorem amh (prog:Program) (w:World) (x:Str) (t:Tok):(aa8 prog w).is (.inr x) (.str x t)=true:=arz x t
inductive V where
 | non | bl (b:Bool) | int (i:Int) | str (x:Str) | byt (b:Array UInt8) | flt (b:UInt64) | ref (a:Addr) | ty (n:String)
 deriving DecidableEq
def RelV:V->Value->Prop
 | .non,u=>u=Value.none
 | .bl b,u=>u=Value.bool b
 | .int i,u=>∃ t,u=Value.int i t
 | .str x,u=>∃ t,u=Value.str x t
 | .byt b,u=>∃ t,u=Value.bytes b t
 | .flt b,u=>∃ t,u=Value.float b t
 | .ref a,u=>u=Value.ref a
 | .ty n,u=>u=Value.type n
abbrev Vals:List V->List Value->Prop:=Paired RelV
theorem Vals.length {xs:List V}{us:List Value}(r:Vals xs us):xs.length=us.length:=Paired.length r
theorem Vals.get:∀ {xs:List V}{us:List Value}{i:Nat}{x:V},Vals xs us->xs[i]?=some x->∃ u,us[i]?=some u/\RelV x u
 | _,_,_,_,.nil,e=>by simp at e
 | _,_,0,_,.cons r _,e=>by simp at e;subst e;exact⟨_,rfl,r⟩
 | _,_,i+1,x,.cons _ t,e=>by
  obtain⟨u,h1,h2⟩:=Vals.get (i:=i) (x:=x) t (by simpa using e);exact⟨u,by simpa using h1,h2⟩
theorem Vals.set {x:V}{u:Value}(r:RelV x u):∀ {xs:List V}{us:List Value}(i:Nat),Vals xs us->Vals (xs.set i x) (us.set i u)
 | _,_,_,.nil=>.nil
 | _,_,0,.cons _ t=>.cons r t
 | _,_,i+1,.cons q t=>.cons q (Vals.set r i t)
theorem Vals.append:∀ {xs ys:List V}{us ws:List Value},Vals xs us->Vals ys ws->Vals (xs++ys) (us++ws)
 | _,_,_,_,.nil,s=>s
 | _,_,_,_,.cons r t,s=>.cons r (Vals.append t s)
theorem Vals.take:∀ {xs:List V}{us:List Value}(n:Nat),Vals xs us->Vals (xs.take n) (us.take n)
 | _,_,0,_=>.nil
 | _,_,_+1,.nil=>.nil
 | _,_,n+1,.cons r t=>.cons r (Vals.take n t)
theorem Vals.drop:∀ {xs:List V}{us:List Value}(n:Nat),Vals xs us->Vals (xs.drop n) (us.drop n)
 | _,_,0,r=>r
 | _,_,_+1,.nil=>.nil
 | _,_,n+1,.cons _ t=>Vals.drop n t
def RelO:Option V->Option Value->Prop
 | some v,some u=>RelV v u
 | none,none=>True
 | _,_=>False
def KV {κ:Type}:List (κ×V)->List (κ×Value)->Prop:=Paired fun (p:κ×V) (q:κ×Value)=>p.1=q.1/\RelV p.2 q.2
def kV:Key->V
 | .inl i=>.int i
 | .inr x=>.str x
inductive HO where
 | lst (xs:List V)
 | tup (xs:List V)
 | dK (kvs:List (Key×V)) | dT (kvs:List (List Key×V))
 | set (S:Int->Bool) (n:Nat)
 | ins (C dx:Addr) (fs:List (Str×V))
 | own (x:Addr)
 | xd (fs:List (Str×V))
 | met (f x:Addr)
 | rng (lo hi:Int)
 | frz (o:Obj) (u:HO)
 | tbl (ps:Array Value)
 | ext (φ:Heap->Prop)
abbrev Hp:=Addr->Option HO
def upd (H:Hp) (a:Addr) (o:HO):Hp:=fun b=>if b=a then some o else H b
theorem aaa {H:Hp}{a:Addr}{o:HO}:upd H a o a=some o:=by unfold upd;rw[if_pos rfl]
theorem aad {H:Hp}{a b:Addr}{o:HO}(h:b≠a):upd H a o b=H b:=by unfold upd;rw[if_neg h]
theorem axl {H:Hp}{a:Addr}{o u:HO}:upd (upd H a o) a u=upd H a u:=by
 funext b;unfold upd;split<;>rfl
theorem ne_of {H:Hp}{a b:Addr}{o u:HO}(h:H a=some o) (h':H b=some u) (d:o≠u):a≠b:=by
 intro e;subst e;rw[h] at h';exact d (Option.some.inj h')
theorem aab {H:Hp}{a b:Addr}{o:HO}(h:H a=some o) (h':H b=none):a≠b:=by
 intro e;subst e;rw[h] at h';cases h'
section
variable (P:Program) (w:World)
def ah9 (h:Heap) (a:Addr) (items:Array Value):Prop:=IsTup h a items/\∃ o,h.get? a=some o/\o.dict=none
theorem ah9.new (h:Heap) (items:Array Value):ah9 (h.push { cls:=.type "tuple",data:=.seq items }) h.objs.size items:=⟨IsTup.new _ _,_,Heap.get?_push_size _ rfl,rfl⟩
def ack (H:Hp) (h:Heap) (a:Addr):HO->Prop
 | .lst xs=>xs.length<=sizeLine/\∃ (its:List Value) (n:Nat),Vals xs its/\h.get? a=some { cls:=.type "list",data:=.seq its.toArray n }
 | .tup xs=>xs.length<=sizeLine/\∃ its:List Value,Vals xs its/\ah9 h a its.toArray
 | .dK kvs=>kvs.length<=sizeLine/\(a == sysModules)=false/\∃ vs,KV kvs vs/\h.DictOf (aa8 P w) a vs
 | .dT kvs=>kvs.length<=sizeLine/\(a == sysModules)=false/\∃ xs:List (List Key×Addr×Value),
   Paired (fun (p:List Key×V) (q:List Key×Addr×Value)=>p.1=q.1/\H q.2.1=some (.tup (p.1.map kV))/\RelV p.2 q.2.2) kvs xs /\
   ∃ o es ep,h.get? a=some o/\o.ExactDict/\o.data = .dict es ep/\es.toList=xs.map (entryOfKey (tupleKind (aa8 P w)))/\(xs.map (·.1)).Nodup
 | .set S n=>h.SetOf (intKind P w) a S n
 | .ins C dx fs=>H dx=some (.own a)/\fs.length<=1000/\dx≠a/\h.get? a=some (PySem.W.instObj C dx) /\
   ∃ mA,h.Ns1 dx mA/\(∀ f,RelO (fs.lookup f) (mA f))/\PySem.Within mA (fs.map (·.1))
 | .own _=>∃ o,h.get? a=some o
 | .xd fs=>∃ mA,h.Ns1 a mA/\∀ f,RelO (fs.lookup f) (mA f)
 | .rng lo hi=>∃ t u v,h.get? a=some { cls:=.type "range",data:=.fields #[.int lo t,.int hi u,.int 1 v] }
 | .frz o u=>h.get? a=some o/\ack H h a u
 | .tbl ps=>h.get? a=some { cls:=.none,data:=.fields ps }
 | .met f x=>h.get? a=some (PySem.W.methodObj (.ref f) (.ref x))
 | .ext φ=>φ h/\(∃ o,h.get? a=some o)/\∀ h1 h2:Heap,φ h1->(∀ o,h1.get? a=some o->h2.get? a=some o)->φ h2
def HOk (H:Hp) (h:Heap):Prop:=∀ a o,H a=some o->ack P w H h a o
end
section
variable {P:Program}{w:World}{H H':Hp}{h h':Heap}{a:Addr}{o:HO}
theorem ack.lt (x:ack P w H h a o):a<h.objs.size:=by
 cases o with
 | lst xs=>obtain⟨_,_,_,_,e⟩:=x;exact Heap.lt_size e
 | tup xs=>obtain⟨_,_,_,p,_⟩:=x;exact p.lt
 | dK kvs=>obtain⟨_,_,_,_,o,_,_,e,_⟩:=x;exact Heap.lt_size e
 | dT kvs=>obtain⟨_,_,_,_,o,_,_,e,_⟩:=x;exact Heap.lt_size e
 | set S n=>obtain⟨o,_,_,_,e,_⟩:=x;exact Heap.lt_size e
 | ins C dx fs=>obtain⟨_,_,_,e,_⟩:=x;exact Heap.lt_size e
 | own y=>obtain⟨_,e⟩:=x;exact Heap.lt_size e
 | xd fs=>obtain⟨_,⟨_,_,_,e,_⟩,_⟩:=x;exact Heap.lt_size e
 | rng lo hi=>obtain⟨_,_,_,e⟩:=x;exact Heap.lt_size e
 | frz ob u=>obtain⟨e,_⟩:=x;exact Heap.lt_size e
 | tbl ps=>exact Heap.lt_size (show h.get? a=some _ from x)
 | met f y=>exact Heap.lt_size (show h.get? a=some _ from x)
 | ext φ=>obtain⟨_,⟨_,e⟩,_⟩:=x;exact Heap.lt_size e
theorem Paired.mapP {α β:Type}{F G:α->β->Prop}:∀ {l₁:List α}{l₂:List β},Paired F l₁ l₂->(∀ a b,F a b->G a b)->Paired G l₁ l₂
 | _,_,.nil,_=>.nil
 | _,_,.cons r t,f=>.cons (f _ _ r) (Paired.mapP t f)
theorem ack.stay (x:ack P w H h a o) (k:∀ b u,(b=a\/H b=some (.own a))->h.get? b=some u->h'.get? b=some u)
  (ho:∀ b,H b=some (.own a)->H' b=some (.own a)) (ht:∀ b xs,H b=some (.tup xs)->H' b=some (.tup xs)):ack P w H' h' a o:=by
 induction o with
 | lst xs=>obtain⟨z,its,n,r,e⟩:=x;exact⟨z,its,n,r,k _ _ (.inl rfl) e⟩
 | tup xs=>obtain⟨z,its,r,⟨ob,e,c⟩,o2,e2,c2⟩:=x;exact⟨z,its,r,⟨ob,k _ _ (.inl rfl) e,c⟩,o2,k _ _ (.inl rfl) e2,c2⟩
 | dK kvs=>obtain⟨z,y,vs,r,ob,es,ep,e,c⟩:=x;exact⟨z,y,vs,r,ob,es,ep,k _ _ (.inl rfl) e,c⟩
 | dT kvs =>
  obtain⟨z,y,xs,r,ob,es,ep,e,c⟩:=x;exact⟨z,y,xs,Paired.mapP r fun p q z=>⟨z.1,ht _ _ z.2.1,z.2.2⟩,ob,es,ep,k _ _ (.inl rfl) e,c⟩
 | set S n=>obtain⟨ob,es,ep,t,e,c⟩:=x;exact⟨ob,es,ep,t,k _ _ (.inl rfl) e,c⟩
 | ins C dx fs =>
  obtain⟨d,z,ne,e,mA,⟨od,es,ep,e2,c⟩,r⟩:=x;exact⟨ho _ d,z,ne,k _ _ (.inl rfl) e,mA,⟨od,es,ep,k _ _ (.inr d) e2,c⟩,r⟩
 | own y=>obtain⟨ob,e⟩:=x;exact⟨ob,k _ _ (.inl rfl) e⟩
 | xd fs=>obtain⟨mA,⟨od,es,ep,e,c⟩,r⟩:=x;exact⟨mA,⟨od,es,ep,k _ _ (.inl rfl) e,c⟩,r⟩
 | rng lo hi=>obtain⟨t,u,v,e⟩:=x;exact⟨t,u,v,k _ _ (.inl rfl) e⟩
 | frz ob u ih=>obtain⟨e,q⟩:=x;exact⟨k _ _ (.inl rfl) e,ih q⟩
 | tbl ps =>
  have e:h.get? a=some { cls:=.none,data:=.fields ps }:=x;show h'.get? a=some { cls:=.none,data:=.fields ps };exact k a _ (.inl rfl) e
 | met f y =>
  have e:h.get? a=some (PySem.W.methodObj (.ref f) (.ref y)):=x;show h'.get? a=some (PySem.W.methodObj (.ref f) (.ref y));exact k a _ (.inl rfl) e
 | ext φ=>obtain⟨p,⟨o,e⟩,st⟩:=x;exact⟨st _ _ p fun o q=>k _ _ (.inl rfl) q,⟨o,k _ _ (.inl rfl) e⟩,st⟩
theorem HOk.lt (x:HOk P w H h) (e:H a=some o):a<h.objs.size:=(x a o e).lt
theorem HOk.fresh (x:HOk P w H h) (e:h.objs.size<=a):H a=none:=by
 cases q:H a with
 | none=>rfl
 | some u=>exact absurd (Nat.lt_of_lt_of_le (x.lt q) e) (Nat.lt_irrefl _)
theorem HOk.kept (x:HOk P w H h) (k:∀ b u,h.get? b=some u->h'.get? b=some u):HOk P w H h':=fun a o e =>
 (x a o e).stay (fun b u _ q=>k b u q) (fun _ q=>q) fun _ _ q=>q
theorem HOk.laid (x:HOk P w H h) (k:∀ b u,h.get? b=some u->h'.get? b=some u) (hp:h.objs.size<=a) (new:ack P w (upd H a o) h' a o):HOk P w (upd H a o) h':=fun b u e=>by
 have hn:=x.fresh hp;by_cases hb:b=a
 ·subst hb;rw[aaa] at e;cases e;exact new
 ·rw[aad hb] at e;exact (x b u e).stay (fun c v _ q=>k c v q) (fun c q=>by rw[aad (aab q hn)];exact q) fun c xs q=>by rw[aad (aab q hn)];exact q
end
def Rd (H:Hp) (a:Addr) (u:HO):Prop:=H a=some u\/∃ o,H a=some (.frz o u)
theorem Rd.ok {P:Program}{w:World}{H:Hp}{h:Heap}{a:Addr}{u:HO}(r:Rd H a u) (x:HOk P w H h):ack P w H h a u:=by
 rcases r with r | ⟨o,r⟩
 ·exact x a u r
 ·obtain⟨_,q⟩:=x a _ r;exact q
def Mut:Option HO->Prop
 | some (.lst _)=>True
 | some (.dK _)=>True
 | some (.dT _)=>True
 | some (.set _ _)=>True
 | some (.ins _ _ _)=>True
 | some (.ext _)=>True
 | _=>False
section
variable {P:Program}{w:World}{H:Hp}{h h':Heap}{x e:Addr}{o':HO}
theorem HOk.write (ok:HOk P w H h) (mu:Mut (H x)) (he:e=x\/H e=some (.own x)) (k:∀ b u,b≠e->h.get? b=some u->h'.get? b=some u) (heo:∃ u,h'.get? e=some u)
  (new:ack P w (upd H x o') h' x o'):HOk P w (upd H x o') h':=fun b u q=>by
 have nown:∀ c y,H c=some (.own y)->c≠x:=fun c y r z=>by subst z;rw[r] at mu;exact mu
 have ntup:∀ c xs,H c=some (.tup xs)->c≠x:=fun c xs r z=>by subst z;rw[r] at mu;exact mu
 by_cases hb:b=x
 ·subst hb;rw[aaa] at q;cases q;exact new
 ·rw[aad hb] at q;by_cases hbe:b=e
  ·have q':H b=some (.own x):=by
    rcases he with z | z
    ·exact absurd (hbe.trans z) hb
    ·rw[hbe];exact z
   rw[q] at q';cases q';obtain⟨v,hv⟩:=heo;exact⟨v,by rw[hbe];exact hv⟩
  ·refine (ok b u q).stay (fun c v hc r=>k c v ?_ r) (fun c r=>by rw[aad (nown c b r)];exact r) fun c xs r=>by rw[aad (ntup c xs r)];exact r
   rcases hc with rfl | hc
   ·exact hbe
   ·rintro rfl;rcases he with z | z
    ·exact nown c b hc z
    ·rw[hc] at z;cases z;exact hb rfl
end
structure Un (fs ex:List Addr) (H H':Hp) (h h':Heap):Prop where
 keep:∀ b o,h.get? b=some o->H b=none->b∉fs->b∉ex->h'.get? b=some o
 slot:∀ b o,h.get? b=some o->H b=none->b∈fs->b∉ex->∃ sl,h'.get? b=some { o with slots:=sl }
 free:∀ b o,h.get? b=some o->H b=none->b∉ex->H' b=none
 there:∀ b o,h.get? b=some o->b∉ex->∃ o',h'.get? b=some o'
 tups:∀ b xs,H b=some (.tup xs)->H' b=some (.tup xs)
 frzs:∀ b o u,H b=some (.frz o u)->H' b=some (.frz o u)
 tbls:∀ b ps,H b=some (.tbl ps)->∃ more,H' b=some (.tbl (ps++more))
section
variable {fs fs' ex ex':List Addr}{H H1 H2:Hp}{h h1 h2 h':Heap}{a x e:Addr}{o:HO}
theorem Un.any (u:Un fs ex H H1 h h1){b:Addr}{ob:Obj}(q:h.get? b=some ob) (n:H b=none) (hx:b∉ex):∃ sl,h1.get? b=some { ob with slots:=sl }:=by
 by_cases hb:b∈fs
 ·exact u.slot b ob q n hb hx
 ·exact⟨ob.slots,u.keep b ob q n hb hx⟩
theorem Un.kept (k:∀ b u,h.get? b=some u->h'.get? b=some u):Un fs ex H H h h' :=
 ⟨fun b ob q _ _ _=>k b ob q,fun b ob q _ _ _=>⟨ob.slots,k b ob q⟩,fun _ _ _ n _=>n,fun b ob q _=>⟨ob,k b ob q⟩,fun _ _ q=>q,fun _ _ _ q=>q,fun _ ps q=>⟨#[],by rw[q];simp⟩⟩
theorem Un.refl:Un fs ex H H h h:=Un.kept fun _ _ q=>q
theorem Un.laid (k:∀ b u,h.get? b=some u->h'.get? b=some u) (hp:h.objs.size<=a) (hn:H a=none):Un fs ex H (upd H a o) h h' where
 keep:=fun b u q _ _ _=>k b u q
 slot:=fun b u q _ _ _=>⟨u.slots,k b u q⟩
 free:=fun b u q n _=>by rw[aad (Nat.ne_of_lt (Nat.lt_of_lt_of_le (Heap.lt_size q) hp))];exact n
 there:=fun b u q _=>⟨u,k b u q⟩
 tups:=fun b xs q=>by rw[aad (aab q hn)];exact q
 frzs:=fun b u xs q=>by rw[aad (aab q hn)];exact q
 tbls:=fun b ps q=>⟨#[],by rw[aad (aab q hn),q];simp⟩
theorem Un.write (mu:Mut (H x)) (he:e=x\/H e=some (.own x)) (k:∀ b u,b≠e->h.get? b=some u->h'.get? b=some u) (heo:∃ u,h'.get? e=some u):Un fs ex H (upd H x o) h h':=by
 have hx:∀ b,H b=none->b≠x:=fun b n z=>by subst z;rw[n] at mu;exact mu
 have hb:∀ b,H b=none->b≠e:=fun b n z=>by
  subst z;rcases he with r | r
  ·exact hx b n r
  ·rw[n] at r;cases r
 have hm:∀ b u,H b=some u->¬ Mut (some u)->b≠x:=fun b u q nm z=>by subst z;rw[q] at mu;exact nm mu
 refine⟨fun b u q n _ _=>k b u (hb b n) q,fun b u q n _ _=>⟨u.slots,k b u (hb b n) q⟩,fun b u q n _=>by rw[aad (hx b n)];exact n,fun b u q _=>?_,
  fun b xs q=>by rw[aad (hm b _ q fun z=>z)];exact q,fun b u xs q=>by rw[aad (hm b _ q fun z=>z)];exact q,fun b ps q=>⟨#[],by rw[aad (hm b _ q fun z=>z),q];simp⟩⟩
 by_cases hbe:b=e
 ·subst hbe;exact heo
 ·exact⟨u,k b u hbe q⟩
end
def trk (h:Heap) (H:Hp):List Addr:=(List.range h.objs.size).filter fun a=>(H a).isSome
def hidT (h:Heap) (H:Hp):Heap:=PySem.W.hideAll h (trk h H)
theorem aph (h:Heap) (H:Hp):(hidT h H).objs.size=h.objs.size:=PySem.W.hideAll_size _ _
theorem atl {h:Heap}{H:Hp}{b:Addr}{o:Obj}(e:h.get? b=some o) (n:H b=none):(hidT h H).get? b=some o :=
 PySem.W.hideAll_get _ e fun hm=>by
  have q:(H b).isSome=true:=(List.mem_filter.mp hm).2;rw[n] at q;simp at q
theorem awv {h:Heap}{H:Hp}{b:Addr}{o:Obj}(e:(hidT h H).get? b=some o):h.get? b=some o/\H b=none:=by
 have e':h.get? b=some o:=PySem.W.of_hideAll (trk h H) e;refine⟨e',?_⟩;cases q:H b with
 | none=>rfl
 | some x =>
  have hm:b∈trk h H:=List.mem_filter.mpr ⟨List.mem_range.mpr (Heap.lt_size e'),by simp[q]⟩;have z:(hidT h H).get? b=none:=PySem.W.hideAll_none (trk h H) hm;rw[z] at e;cases e
structure Mod (K:PySem.W.Frag) (mg:Str->Option Value) (base:Heap):Prop where
 kin:K.In base
 glob:base.Ns mainGlobals mg
 blt:∃ mb,base.Ns builtinsNs mb/\∀ x:Str,x ≠ "__name__" -> mb x=bootBuiltins x
 nolimit:base.NoLimit
/-- the context: a def's body (or a comprehension's block) running. base: fixed through the whole law;s₀,H₀: the entry;outer: the frames whose slots others may change (a def's callers);stack: all frames that run;
 ex: iterators that were made ahead of the entry and are walked here (a comprehension's);fn: the names whose cells were made at the entry (a def: all;a comprehension's block: its own);calm: not within an except suite;pn: pins that every state bears;xe: what is wanted of an exception that leaves the code -/
structure Cx where
 prog:Program
 w:World
 K:PySem.W.Frag
 mg:Str->Option Value
 base:Heap
 A:Around
 N:List Str
 s₀:Shared
 H₀:Hp
 env:Env
 outer:List Env
 stack:List Env
 ex:List Addr
 fn:Str->Bool
 calm:Bool
 pn:List (Addr×Obj)
 xe:Value->Shared->Prop
def frs (l:List Env):List Addr:=l.filterMap (·.frame)
abbrev Cx.fs (X:Cx):List Addr:=frs X.outer
def Vis (sc:Scope) (x:Str):Prop:=sc.names.lookup x=some .local\/sc.names.lookup x=some .cell\/sc.names.lookup x=some .free
def Loc (sc:Scope) (x:Str):Prop:=sc.names.lookup x=some .local\/sc.names.lookup x=some .cell
def Look (env:Env) (h:Heap) (m:Str->Option Value) (x:Str) (u:Value):Prop :=
 (env.kindOf x=some .local/\m x=some u)\/((env.kindOf x=some .cell\/env.kindOf x=some .free)/\∃ c,env.cells.lookup x=some c/\h.IsCell c (some u))
structure Cx.Ok (X:Cx):Prop where
 mod:Mod X.K X.mg X.base
 kind:X.env.scope.kind = .function
 glob:X.env.globals=mainGlobals
 blt:X.env.builtins=builtinsNs
 above:X.s₀.heap.objs.size<=X.env.locals
 inj:∀ x y c,X.env.cells.lookup x=some c->X.env.cells.lookup y=some c->x=y
 has:∀ x,(X.env.kindOf x=some .cell\/X.env.kindOf x=some .free)->∃ c,X.env.cells.lookup x=some c
 cab:∀ x c,X.fn x=true->X.env.cells.lookup x=some c->X.s₀.heap.objs.size<=c
 hd:X.calm=true->X.A.handled=none
 frames:X.A.frames=some X.stack
 stk:X.stack=X.outer\/(X.stack=X.env::X.outer/\X.env.frame=some X.env.locals)
 exf:∀ b∈X.ex,b≠X.env.locals/\∀ x c,X.env.cells.lookup x=some c->c≠b
 bs:∀ b o,X.base.get? b=some o->X.s₀.heap.get? b=some o/\X.H₀ b=none
 bsz:X.base.objs.size<=X.s₀.heap.objs.size
 noex:∀ b o,X.base.get? b=some o->b∉X.ex
 exfs:∀ b∈X.ex,b∉X.fs
 funs:X.s₀.heap.FunFrames X.base X.outer
 frf:∀ b∈X.fs,X.H₀ b=none
structure Inv (X:Cx) (pins:List (Addr×Obj)) (σ:List (Option V)) (H:Hp) (s:Shared):Prop where
 ok:X.Ok
 os:s.os=X.s₀.os
 bare:AllBare s.gens
 base:Un X.fs X.ex X.H₀ H X.s₀.heap s.heap
 loc:∃ m,s.heap.Ns X.env.locals m/\∀ (i:Nat) (x:Str) (v:V),X.N[i]?=some x->σ[i]?=some (some v)->Vis X.env.scope x->∃ u,RelV v u/\Look X.env s.heap m x u
 cell:∀ x c,X.env.cells.lookup x=some c->∃ v,s.heap.IsCell c v
 free:H X.env.locals=none
 freeC:∀ x c,X.env.cells.lookup x=some c->H c=none
 pin:∀ p∈X.pn++pins,s.heap.get? p.1=some p.2/\H p.1=none/\p.1≠X.env.locals/\p.1∉X.fs/\∀ v,p.2.data ≠ .cell v
 hok:HOk X.prog X.w H s.heap
 len:σ.length=X.N.length
section
variable {X:Cx}{pins:List (Addr×Obj)}{σ:List (Option V)}{H H':Hp}{s:Shared}{h':Heap}
theorem Cx.Ok.nofr (ok:X.Ok){b:Addr}{o:Obj}(e:X.base.get? b=some o):b∉X.fs:=fun hb=>by
 have:=(ok.funs.mem hb).1;rw[e] at this;cases this
theorem Inv.bs (I:Inv X pins σ H s):∀ b o,X.base.get? b=some o->s.heap.get? b=some o/\H b=none:=fun b o e =>
 ⟨I.base.keep b o (I.ok.bs b o e).1 (I.ok.bs b o e).2 (I.ok.nofr e) (I.ok.noex b o e),I.base.free b o (I.ok.bs b o e).1 (I.ok.bs b o e).2 (I.ok.noex b o e)⟩
theorem Inv.bk (I:Inv X pins σ H s):∀ b o,X.base.get? b=some o->s.heap.get? b=some o:=fun b o e=>(I.bs b o e).1
theorem Inv.mod (I:Inv X pins σ H s):Mod X.K X.mg X.base:=I.ok.mod
theorem Inv.kIn (I:Inv X pins σ H s):X.K.In s.heap:=I.ok.mod.kin.keeps I.bk
theorem Inv.lt (I:Inv X pins σ H s):X.env.locals<s.heap.objs.size:=let ⟨_,hn,_⟩:=I.loc;hn.lt
theorem Inv.sz (I:Inv X pins σ H s):X.s₀.heap.objs.size<=s.heap.objs.size:=Nat.le_trans I.ok.above (Nat.le_of_lt I.lt)
theorem Inv.nofs (I:Inv X pins σ H s){a:Addr}(h:s.heap.objs.size<=a):a∉X.fs:=fun hb=>by
 obtain⟨_,o,ho,_⟩:=I.ok.funs.mem hb;exact absurd (Nat.lt_of_lt_of_le (Heap.lt_size ho) (Nat.le_trans I.sz h)) (Nat.lt_irrefl _)
theorem Inv.cne (I:Inv X pins σ H s):∀ x c,X.env.cells.lookup x=some c->c≠X.env.locals:=fun x c e z=>by
 obtain⟨v,o,ho,hd⟩:=I.cell x c e;obtain⟨m,⟨o',es,ep,ho',hd',_⟩,_⟩:=I.loc;rw[z,ho'] at ho;cases ho;rw[hd'] at hd;cases hd
theorem Inv.funs (I:Inv X pins σ H s):s.heap.FunFrames X.base X.outer:=by
 have all:∀ (l:List Env),(∀ b∈frs l,b∈X.fs)->X.s₀.heap.FunFrames X.base l->s.heap.FunFrames X.base l:=by
  intro l;induction l with
  | nil=>intro _ _;trivial
  | cons env r ih =>
   intro hs hl;obtain⟨hk,⟨L,o,hf,hn,ho,hd⟩,hr⟩:=hl;have hL:L∈X.fs:=hs L (by unfold frs;rw[List.filterMap_cons,hf];exact List.mem_cons_self);obtain⟨sl,e⟩:=I.base.slot L o ho (I.ok.frf L hL) hL fun z=>I.ok.exfs L z hL
   exact⟨hk,⟨L,_,hf,hn,e,hd⟩,ih (fun b hb=>hs b (by unfold frs;rw[List.filterMap_cons,hf];exact List.mem_cons_of_mem _ hb)) hr⟩
 exact all X.outer (fun _ hb=>hb) I.ok.funs
theorem Inv.stack (I:Inv X pins σ H s):s.heap.FunFrames X.base X.stack:=by
 rcases I.ok.stk with e | ⟨e,hf⟩
 ·rw[e];exact I.funs
 ·rw[e];obtain⟨m,hn,_⟩:=I.loc;refine .cons (by rw[I.ok.kind];decide) hf hn ?_ I.funs;exact Heap.get?_none_of_le (Nat.le_trans I.ok.bsz I.ok.above)
theorem Inv.stkSub (I:Inv X pins σ H s):∀ b∈frs X.stack,b∈X.env.locals::X.fs:=fun b hb=>by
 rcases I.ok.stk with e | ⟨e,hf⟩
 ·rw[e] at hb;exact List.mem_cons_of_mem _ hb
 ·rw[e] at hb;unfold frs at hb;rw[List.filterMap_cons,hf] at hb;exact hb
theorem Inv.stkFree (I:Inv X pins σ H s):∀ b∈frs X.stack,H b=none:=fun b hb=>by
 rcases List.mem_cons.mp (I.stkSub b hb) with e | hb
 ·rw[e];exact I.free
 ·obtain⟨_,o,ho,_⟩:=I.ok.funs.mem hb;exact I.base.free b o ho (I.ok.frf b hb) fun z=>I.ok.exfs b z hb
theorem Inv.step {g':Array GenState}{t':Nat}{d':Drawn}{ch:List Addr}(I:Inv X pins σ H s)
  (hch:∀ b∈ch,(b∈X.ex\/X.s₀.heap.objs.size<=b)/\b≠X.env.locals/\(∀ x c,X.env.cells.lookup x=some c->c≠b)/\∀ p∈X.pn++pins,p.1≠b)
  (keep:∀ b o,b≠X.env.locals->b∉X.fs->b∉ch->s.heap.get? b=some o->H b=none->h'.get? b=some o)
  (slot:∀ b o,b≠X.env.locals->b∈X.fs->b∉ch->s.heap.get? b=some o->H b=none->∃ sl,h'.get? b=some { o with slots:=sl }) (free:∀ b o,b∉ch->s.heap.get? b=some o->H b=none->H' b=none)
  (there:∀ b o,b∉ch->s.heap.get? b=some o->∃ o',h'.get? b=some o')
  (tups:∀ b xs,H b=some (.tup xs)->H' b=some (.tup xs)) (frzs:∀ b o u,H b=some (.frz o u)->H' b=some (.frz o u)) (tbls:∀ b ps,H b=some (.tbl ps)->∃ more,H' b=some (.tbl (ps++more)))
  (ns:∀ m,s.heap.Ns X.env.locals m->h'.Ns X.env.locals m) (hok:HOk X.prog X.w H' h') (hg:AllBare g') :
  Inv X pins σ H' { s with heap:=h',gens:=g',drawn:=d',toks:=t' }:=by
 have neL:∀ b o,X.s₀.heap.get? b=some o->b≠X.env.locals:=fun b o e=>Nat.ne_of_lt (Nat.lt_of_lt_of_le (Heap.lt_size e) I.ok.above)
 have neC:∀ b o,X.s₀.heap.get? b=some o->b∉X.ex->b∉ch:=fun b o e hx hb=>by
  rcases (hch b hb).1 with z | z
  ·exact hx z
  ·exact absurd (Nat.lt_of_lt_of_le (Heap.lt_size e) z) (Nat.lt_irrefl _)
 have cellK:∀ x c,X.env.cells.lookup x=some c->∀ v,s.heap.IsCell c v->h'.IsCell c v:=fun x c e v ⟨o,ho,hd⟩=>by
  have nch:c∉ch:=fun z=>(hch c z).2.2.1 x c e rfl
  by_cases hc:c∈X.fs
  ·obtain⟨sl,q⟩:=slot c o (I.cne x c e) hc nch ho (I.freeC x c e);exact⟨_,q,hd⟩
  ·exact⟨o,keep c o (I.cne x c e) hc nch ho (I.freeC x c e),hd⟩
 refine⟨I.ok,I.os,hg,⟨fun b o e n hb hx=>?_,fun b o e n hb hx=>?_,fun b o e n hx=>?_,fun b o e hx=>?_,fun b xs e=>tups b xs (I.base.tups b xs e),fun b o xs e=>frzs b o xs (I.base.frzs b o xs e),fun b ps e=>?_⟩,?_,fun x c e=>?_,?_,fun x c e=>?_,fun p hp=>?_,hok,I.len⟩
 ·exact keep b o (neL b o e) hb (neC b o e hx) (I.base.keep b o e n hb hx) (I.base.free b o e n hx)
 ·obtain⟨sl,e1⟩:=I.base.slot b o e n hb hx;obtain⟨sl',e2⟩:=slot b _ (neL b o e) hb (neC b o e hx) e1 (I.base.free b o e n hx);exact⟨sl',e2⟩
 ·obtain⟨o',e1⟩:=I.base.there b o e hx;exact free b o' (neC b o e hx) e1 (I.base.free b o e n hx)
 ·obtain⟨o',e1⟩:=I.base.there b o e hx;exact there b o' (neC b o e hx) e1
 ·obtain⟨m1,e1⟩:=I.base.tbls b ps e;obtain⟨m2,e2⟩:=tbls b _ e1;exact⟨m1++m2,by rw[e2,Array.append_assoc]⟩
 ·obtain⟨m,hn,hl⟩:=I.loc;refine⟨m,ns m hn,fun i x v e1 e2 e3=>?_⟩;obtain⟨u,r,l⟩:=hl i x v e1 e2 e3;refine⟨u,r,?_⟩;rcases l with l | ⟨k,c,e,z⟩
  ·exact .inl l
  ·exact .inr ⟨k,c,e,cellK x c e _ z⟩
 ·obtain⟨v,z⟩:=I.cell x c e;exact⟨v,cellK x c e v z⟩
 ·obtain⟨m,⟨o,_,_,ho,_⟩,_⟩:=I.loc;exact free _ o (fun z=>(hch _ z).2.1 rfl) ho I.free
 ·obtain⟨v,o,ho,hd⟩:=I.cell x c e;exact free c o (fun z=>(hch c z).2.2.1 x c e rfl) ho (I.freeC x c e)
 ·obtain⟨e,n,ne,nf,d⟩:=I.pin p hp;have nch:p.1∉ch:=fun z=>(hch p.1 z).2.2.2 p hp rfl
  exact⟨keep p.1 p.2 ne nf nch e n,free p.1 p.2 nch e n,ne,nf,d⟩
theorem Inv.un {t':Nat}(I:Inv X pins σ H s) (u:Un X.fs [] H H' s.heap h') (hok:HOk X.prog X.w H' h'):Inv X pins σ H' { s with heap:=h',toks:=t' }:=by
 obtain⟨m,⟨o,es,ep,ho,r⟩,_⟩:=id I.loc;obtain⟨sl,hL⟩:=u.any ho I.free (by simp);exact I.step (g':=s.gens) (d':=s.drawn) (ch:=[]) (fun _ z=>nomatch z) (fun b o _ hb _ e n=>u.keep b o e n hb (by simp)) (fun b o _ hb _ e n=>u.slot b o e n hb (by simp)) (fun b o _ e n=>u.free b o e n (by simp)) (fun b o _ e=>u.there b o e (by simp)) u.tups u.frzs u.tbls (fun m' hm=>by
  obtain⟨o',es',ep',ho',r'⟩:=hm;rw[ho] at ho';cases ho';exact⟨_,es',ep',hL,r'⟩) hok I.bare
theorem Inv.call {g':Array GenState}{t':Nat}{d':Drawn}{ch:List Addr}(I:Inv X pins σ H s) (u:Un (frs X.stack) ch H H' s.heap h') (hok:HOk X.prog X.w H' h') (hg:AllBare g')
  (hch:∀ b∈ch,(b∈X.ex\/X.s₀.heap.objs.size<=b)/\b≠X.env.locals/\(∀ x c,X.env.cells.lookup x=some c->c≠b)/\∀ p∈X.pn++pins,p.1≠b) :
  Inv X pins σ H' { s with heap:=h',gens:=g',drawn:=d',toks:=t' }:=by
 obtain⟨m,⟨o,es,ep,ho,r⟩,_⟩:=id I.loc;obtain⟨sl,hL⟩:=u.any ho I.free fun z=>(hch _ z).2.1 rfl
 exact I.step (ch:=ch) hch (fun b o hL hb hc e n=>u.keep b o e n (fun z=>(List.mem_cons.mp (I.stkSub b z)).elim hL hb) hc) (fun b o _ _ hc e n=>u.any e n hc) (fun b o hc e n=>u.free b o e n hc) (fun b o hc e=>u.there b o e hc) u.tups u.frzs u.tbls (fun m' hm=>by
  obtain⟨o',es',ep',ho',r'⟩:=hm;rw[ho] at ho';cases ho';exact⟨_,es',ep',hL,r'⟩) hok hg
theorem Inv.turned {t':Nat}{it:Addr}(I:Inv X pins σ H s) (k:∀ b o,b≠it->s.heap.get? b=some o->h'.get? b=some o) (hn:H it=none) (hL:it≠X.env.locals)
  (h1:it∈X.ex\/X.s₀.heap.objs.size<=it) (h2:∀ x c,X.env.cells.lookup x=some c->c≠it) (h3:∀ p∈X.pn++pins,p.1≠it):Inv X pins σ H { s with heap:=h',toks:=t' }:=by
 have nit:∀ b u,H b=some u->b≠it:=fun b u e z=>by rw[z,hn] at e;cases e
 refine I.step (g':=s.gens) (d':=s.drawn) (ch:=[it]) (fun b hb=>?_) (fun b o _ _ hc e _=>k b o (fun z=>hc (by simp[z])) e) (fun b o _ _ hc e _=>⟨o.slots,k b o (fun z=>hc (by simp[z])) e⟩) (fun _ _ _ _ n=>n)
  (fun b o hc e=>⟨o,k b o (fun z=>hc (by simp[z])) e⟩) (fun _ _ e=>e) (fun _ _ _ e=>e) (fun b ps e=>⟨#[],by rw[e];simp⟩) (fun m hm=>?_) (fun b u e=>?_) I.bare
 ·have e:b=it:=by simpa using hb
  subst e;exact⟨h1,hL,h2,h3⟩
 ·obtain⟨o,es,ep,ho,r⟩:=hm;exact⟨o,es,ep,k _ o (Ne.symm hL) ho,r⟩
 ·refine (I.hok b u e).stay (fun c v hc q=>k c v ?_ q) (fun _ q=>q) fun _ _ q=>q
  rcases hc with z | z
  ·rw[z];exact nit b u e
  ·exact nit c _ z
theorem Inv.tok (I:Inv X pins σ H s) (t:Nat):Inv X pins σ H { s with toks:=t }:=I.un (h':=s.heap) (t':=t) Un.refl I.hok
theorem Inv.kept {t':Nat}(I:Inv X pins σ H s) (k:∀ b u,s.heap.get? b=some u->h'.get? b=some u):Inv X pins σ H { s with heap:=h',toks:=t' }:=I.un (Un.kept k) (I.hok.kept k)
theorem Inv.laid {a:Addr}{o:HO}{t':Nat}(I:Inv X pins σ H s) (k:∀ b u,s.heap.get? b=some u->h'.get? b=some u) (hp:s.heap.objs.size<=a) (new:ack X.prog X.w (upd H a o) h' a o) :
  Inv X pins σ (upd H a o) { s with heap:=h',toks:=t' }:=I.un (Un.laid k hp (I.hok.fresh hp)) (I.hok.laid k hp new)
theorem Inv.write {x e:Addr}{o:HO}{t':Nat}(I:Inv X pins σ H s) (mu:Mut (H x)) (he:e=x\/H e=some (.own x)) (k:∀ b u,b≠e->s.heap.get? b=some u->h'.get? b=some u) (heo:∃ u,h'.get? e=some u)
  (new:ack X.prog X.w (upd H x o) h' x o):Inv X pins σ (upd H x o) { s with heap:=h',toks:=t' }:=I.un (Un.write mu he k heo) (I.hok.write mu he k heo new)
theorem Inv.pins_of {pins':List (Addr×Obj)}(I:Inv X pins σ H s) (h:∀ p∈pins',s.heap.get? p.1=some p.2/\H p.1=none/\p.1≠X.env.locals/\p.1∉X.fs/\∀ v,p.2.data ≠ .cell v):Inv X pins' σ H s :=
 ⟨I.ok,I.os,I.bare,I.base,I.loc,I.cell,I.free,I.freeC,fun p hp=>(List.mem_append.mp hp).elim (fun z=>I.pin p (List.mem_append_left _ z)) (h p),I.hok,I.len⟩
theorem am5 {N:List Str}(hN:N.Nodup){i j:Nat}{x:Str}(a:N[i]?=some x) (b:N[j]?=some x):i=j:=by
 obtain⟨h1,e1⟩:=List.getElem?_eq_some_iff.mp a;obtain⟨h2,e2⟩:=List.getElem?_eq_some_iff.mp b;exact (List.getElem_inj hN).mp (e1.trans e2.symm)
theorem alf {M:Model}{A:Around}{E:Value->Shared->Prop}{i:Nat}{x:Str}{v:V}{u:Value}{Q:Unit->Shared->Prop}(I:Inv X pins σ H s) (hN:X.N.Nodup) (hi:X.N[i]?=some x) (hx:Loc X.env.scope x) (r:RelV v u)
  (h:∀ s',Inv X pins (σ.set i (some v)) H s'->(∃ a,Heap.SameBut a s.heap s'.heap/\(a=X.env.locals\/X.env.cells.lookup x=some a))->Q () s') (hf:X.fn x=true\/X.env.scope.names.lookup x=some .local:=by first | exact .inl rfl | exact .inr rfl | assumption):wpAny M A (storeName X.env x u) Q E s:=by
 obtain⟨m,hn,hl⟩:=id I.loc;have hcls:(X.env.scope.kind == .class||(X.env.scope.kind == .module&&X.env.locals != X.env.globals))=false:=by rw[I.ok.kind];rfl
 have hiσ:i<σ.length:=by rw[I.len];exact (List.getElem?_eq_some_iff.mp hi).1
 have cne:=I.cne;have tracked:∀ {a:Addr} {h':Heap},(∃ o,s.heap.get? a=some o/\H a=none)->Heap.SameBut a s.heap h'->HOk X.prog X.w H h':=fun {a h'} ha hs b ob e=>by
  obtain⟨_,_,hfree⟩:=ha;refine (I.hok b ob e).stay (fun c w' hc q=>(hs.2 c ?_).trans q) (fun _ q=>q) fun _ _ q=>q
  rintro rfl;rcases hc with rfl | hc
  ·rw[hfree] at e;cases e
  ·rw[hfree] at hc;cases hc
 rcases hx with hk | hk
 ·refine wpAny_storeName_local hk hn (fun h' hn' hs=>?_) hcls;obtain⟨oL,_,_,hoL,_⟩:=id hn;refine h _ ⟨I.ok,I.os,I.bare,⟨fun b o e n hb hx=>?_,fun b o e n hb hx=>?_,I.base.free,fun b o e hx=>?_,I.base.tups,I.base.frzs,I.base.tbls⟩,⟨_,hn',fun j y v' e1 e2 e3=>?_⟩,fun y c e=>?_,I.free,I.freeC,fun p hp=>?_,tracked ⟨oL,hoL,I.free⟩ hs,by simpa using I.len⟩ ⟨_,hs,.inl rfl⟩
  ·exact (hs.2 b (Nat.ne_of_lt (Nat.lt_of_lt_of_le (Heap.lt_size e) I.ok.above))).trans (I.base.keep b o e n hb hx)
  ·obtain⟨sl,e1⟩:=I.base.slot b o e n hb hx;exact⟨sl,(hs.2 b (Nat.ne_of_lt (Nat.lt_of_lt_of_le (Heap.lt_size e) I.ok.above))).trans e1⟩
  ·obtain⟨o',e1⟩:=I.base.there b o e hx;exact⟨o',(hs.2 b (Nat.ne_of_lt (Nat.lt_of_lt_of_le (Heap.lt_size e) I.ok.above))).trans e1⟩
  ·by_cases hj:j=i
   ·subst hj;rw[hi] at e1;cases e1;rw[List.getElem?_set_self hiσ] at e2;cases e2;exact⟨u,r,.inl ⟨hk,by simp⟩⟩
   ·rw[List.getElem?_set_ne (Ne.symm hj)] at e2;obtain⟨u',r',q⟩:=hl j y v' e1 e2 e3;refine⟨u',r',?_⟩;rcases q with⟨k,e⟩ | ⟨k,c,e,z⟩
    ·refine .inl ⟨k,?_⟩;have:y≠x:=fun e=>hj (am5 hN e1 (e▸hi))
     simp[this,e]
    ·exact .inr ⟨k,c,e,z.sameBut hs (cne y c e)⟩
  ·obtain⟨w',z⟩:=I.cell y c e;exact⟨w',z.sameBut hs (cne y c e)⟩
  ·obtain⟨e,n,ne,nf,d⟩:=I.pin p hp;exact⟨(hs.2 p.1 ne).trans e,n,ne,nf,d⟩
 ·have hfn:X.fn x=true:=by
   rcases hf with z | z
   ·exact z
   ·rw[z] at hk;cases hk
  obtain⟨c,hc⟩:=I.ok.has x (.inl hk);obtain⟨w',z⟩:=I.cell x c hc;refine wpAny_storeName_cell I.ok.kind hk hc z (fun h' hc' hs=>?_);obtain⟨oc,hoc,hocd⟩:=id z;refine h { s with heap:=h' } ⟨I.ok,I.os,I.bare,⟨fun b o e n hb hx=>?_,fun b o e n hb hx=>?_,I.base.free,fun b o e hx=>?_,I.base.tups,I.base.frzs,I.base.tbls⟩,⟨m,hn.sameBut hs (Ne.symm (cne x c hc)),fun j y v' e1 e2 e3=>?_⟩,fun y c' e=>?_,I.free,I.freeC,fun p hp=>?_,tracked ⟨oc,hoc,I.freeC x c hc⟩ hs,by simpa using I.len⟩ ⟨c,hs,.inr hc⟩
  ·exact (hs.2 b (Nat.ne_of_lt (Nat.lt_of_lt_of_le (Heap.lt_size e) (I.ok.cab x c hfn hc)))).trans (I.base.keep b o e n hb hx)
  ·obtain⟨sl,e1⟩:=I.base.slot b o e n hb hx;exact⟨sl,(hs.2 b (Nat.ne_of_lt (Nat.lt_of_lt_of_le (Heap.lt_size e) (I.ok.cab x c hfn hc)))).trans e1⟩
  ·obtain⟨o',e1⟩:=I.base.there b o e hx;exact⟨o',(hs.2 b (Nat.ne_of_lt (Nat.lt_of_lt_of_le (Heap.lt_size e) (I.ok.cab x c hfn hc)))).trans e1⟩
  ·by_cases hj:j=i
   ·subst hj;rw[hi] at e1;cases e1;rw[List.getElem?_set_self hiσ] at e2;cases e2;exact⟨u,r,.inr ⟨.inl hk,c,hc,hc'⟩⟩
   ·rw[List.getElem?_set_ne (Ne.symm hj)] at e2;obtain⟨u',r',q⟩:=hl j y v' e1 e2 e3;refine⟨u',r',?_⟩;rcases q with q | ⟨k,c',e,z'⟩
    ·exact .inl q
    ·refine .inr ⟨k,c',e,z'.sameBut hs ?_⟩;rintro rfl;exact hj (am5 hN e1 (I.ok.inj _ _ _ e hc▸hi))
  ·by_cases hcc:c'=c
   ·subst hcc;exact⟨_,hc'⟩
   ·obtain⟨w2,z2⟩:=I.cell y c' e;exact⟨w2,z2.sameBut hs hcc⟩
  ·obtain⟨e,n,ne,nf,d⟩:=I.pin p hp;refine⟨(hs.2 p.1 ?_).trans e,n,ne,nf,d⟩;intro q;rw[q,hoc] at e;have q':oc=p.2:=Option.some.inj e;exact d w' (by rw[← q'];exact hocd)
theorem aij {M:Model}{A:Around}{E:Value->Shared->Prop}{i:Nat}{x:Str}{v:V}{u:Value}{Q:Unit->Shared->Prop}(I:Inv X pins σ H s) (hN:X.N.Nodup) (hi:X.N[i]?=some x) (hx:Loc X.env.scope x) (r:RelV v u)
  (h:∀ s',Inv X pins (σ.set i (some v)) H s'->Q () s') (hf:X.fn x=true\/X.env.scope.names.lookup x=some .local:=by first | exact .inl rfl | exact .inr rfl | assumption):wpAny M A (storeName X.env x u) Q E s :=
 alf I hN hi hx r (fun s' I' _=>h s' I') hf
theorem Inv.call' {s':Shared}{ch:List Addr}(I:Inv X pins σ H s) (ho:s'.os=s.os) (u:Un (frs X.stack) ch H H' s.heap s'.heap) (hok:HOk X.prog X.w H' s'.heap) (hg:AllBare s'.gens)
  (hch:∀ b∈ch,(b∈X.ex\/X.s₀.heap.objs.size<=b)/\b≠X.env.locals/\(∀ x c,X.env.cells.lookup x=some c->c≠b)/\∀ p∈X.pn++pins,p.1≠b):Inv X pins σ H' s':=by
 obtain⟨h',g',d',t',o'⟩:=s';have e:o'=s.os:=ho;subst e;exact I.call (g':=g') (t':=t') (d':=d') u hok hg hch
end
abbrev XK:=Value->Option Addr->Hp->Prop
abbrev St:=List (Option V)
abbrev VK:=V->Hp->Prop
abbrev TE:=St->Hp->VK->Prop
abbrev TT:=St->Hp->(Bool->Hp->Prop)->Prop
abbrev TA:=St->Hp->(List V->Hp->Prop)->Prop
structure Ends where
 nx:St->Hp->Prop
 rt:VK
 bk:St->Hp->Prop:=fun _ _=>False
 ct:St->Hp->Prop:=fun _ _=>False
abbrev TS:=Ends->St->Hp->Prop
def EP (X:Cx) (pins:List (Addr×Obj)) (σ:St) (Q:VK) (u:Value) (s':Shared):Prop:=∃ v H',Inv X pins σ H' s'/\RelV v u/\Q v H'
def TP (X:Cx) (pins:List (Addr×Obj)) (σ:St) (Q:Bool->Hp->Prop) (b:Bool) (s':Shared):Prop:=∃ H',Inv X pins σ H' s'/\Q b H'
def AP (X:Cx) (pins:List (Addr×Obj)) (σ:St) (Q:List V->Hp->Prop) (us:List Value) (s':Shared):Prop:=∃ vs H',Inv X pins σ H' s'/\Vals vs us/\Q vs H'
def SP (X:Cx) (pins:List (Addr×Obj)) (D:Ends) (f:Flow) (s':Shared):Prop :=
 match f with
 | .next=>∃ σ' H',Inv X pins σ' H' s'/\D.nx σ' H'
 | .brk=>∃ σ' H',Inv X pins σ' H' s'/\D.bk σ' H'
 | .cont=>∃ σ' H',Inv X pins σ' H' s'/\D.ct σ' H'
 | .ret u=>∃ v σ' H',Inv X pins σ' H' s'/\RelV v u/\D.rt v H'
def PE (X:Cx) (e:Expr) (t:TE):Prop :=
 ∀ (pins:List (Addr×Obj)) (s:Shared) (σ:St) (H:Hp) (Q:VK),Inv X pins σ H s->t σ H Q->wpAny (model X.prog X.w) X.A (eval e X.env) (EP X pins σ Q) X.xe s
def PT (X:Cx) (e:Expr) (t:TT):Prop :=
 ∀ (pins:List (Addr×Obj)) (s:Shared) (σ:St) (H:Hp) (Q:Bool->Hp->Prop),Inv X pins σ H s->t σ H Q->wpAny (model X.prog X.w) X.A (isTrue e X.env (eval e X.env)) (TP X pins σ Q) X.xe s
def PW (X:Cx) (e:Expr) (t:TT):Prop :=
 ∀ (whole:Sem Value) (pins:List (Addr×Obj)) (s:Shared) (σ:St) (H:Hp) (Q:Bool->Hp->Prop),Inv X pins σ H s->t σ H Q->wpAny (model X.prog X.w) X.A (isTrue e X.env whole) (TP X pins σ Q) X.xe s
theorem PW.pt {X:Cx}{e:Expr}{t:TT}(h:PW X e t):PT X e t:=h _
def PA (X:Cx) (es:List Expr) (t:TA):Prop :=
 ∀ (pos:Pos) (pins:List (Addr×Obj)) (s:Shared) (σ:St) (H:Hp) (Q:List V->Hp->Prop),Inv X pins σ H s->t σ H Q->wpAny (model X.prog X.w) X.A (spliced (backTo pos (starEach es X.env))) (AP X pins σ Q) X.xe s
def PS (X:Cx) (st:Stmt) (t:TS):Prop :=
 ∀ (pins:List (Addr×Obj)) (s:Shared) (σ:St) (H:Hp) (D:Ends),Inv X pins σ H s->t D σ H->wpAny (model X.prog X.w) X.A (exec st X.env) (SP X pins D) X.xe s
def PSs (X:Cx) (st:List Stmt) (t:TS):Prop :=
 ∀ (pins:List (Addr×Obj)) (s:Shared) (σ:St) (H:Hp) (D:Ends),Inv X pins σ H s->t D σ H->wpAny (model X.prog X.w) X.A (execs st X.env) (SP X pins D) X.xe s
theorem thn {α:Type}{t:Sem α}{Q Q':α->Shared->Prop}{M:Model}{A:Around}{E:Value->Shared->Prop}{s:Shared}(h:wpAny M A t Q E s) (hQ:∀ a s,Q a s->Q' a s):wpAny M A t Q' E s:=wpAny_mono h hQ fun _ _ x=>x
section
variable {X:Cx}
def tVar (i:Nat):TE:=fun σ H Q=>∃ v,σ[i]?=some (some v)/\Q v H
def tC (v:V):TE:=fun _ H Q=>Q v H
theorem avi {i:Nat}{x:Str}{pos:Pos}(hN:X.N[i]?=some x) (hv:Vis X.env.scope x) (hd:(x == ("__debug__" : Str))=false:=by decide) (hcd:(x == ("__classdict__" : Str))=false:=by decide):PE X (.Name x pos) (tVar i):=by
 intro pins s σ H Q I h;obtain⟨v,e,h⟩:=h;obtain⟨m,hn,hl⟩:=I.loc;obtain⟨u,r,l⟩:=hl i x v hN e hv;have fin:EP X pins σ Q u s:=⟨v,H,I,r,h⟩;rcases l with⟨hk,hm⟩ | ⟨hk,c,hc,hcell⟩
 ·exact wpAny_Name (wpAny_loadName_local I.ok.kind hk hn hm fin) hd
 ·rcases hk with hk | hk
  ·exact wpAny_Name (wpAny_loadName_cell I.ok.kind hk hc hcell fin) hd
  ·exact wpAny_Name (wpAny_loadName_free I.ok.kind hk hc hcell fin hcd) hd
theorem aap {i j pos}:PE X (.Constant (.int i) j pos) (tC (.int i)):=fun _ _ _ H _ I h=>wpAny_Constant_int ⟨.int i,H,I.tok _,⟨_,rfl⟩,h⟩
theorem auj {b j pos}:PE X (.Constant (.bool b) j pos) (tC (.bl b)):=fun _ _ _ H _ I h=>Constant_bool ⟨.bl b,H,I,rfl,h⟩
theorem avp {j pos}:PE X (.Constant .none j pos) (tC .non):=fun _ _ _ H _ I h=>Constant_none ⟨.non,H,I,rfl,h⟩
theorem aeh {x j pos}:PE X (.Constant (.str x) j pos) (tC (.str x)):=fun _ _ _ H _ I h=>Calls.Constant_str ⟨.str x,H,I.tok _,⟨_,rfl⟩,h⟩
def Gl (X:Cx) (x:Str):Prop:=X.env.kindOf x=some .globalImplicit
theorem ae4 {E:Value->Shared->Prop}{pins:List (Addr×Obj)}{s:Shared}{σ:St}{H:Hp}{x:Str}{u:Value}{pos:Pos}{Q:Value->Shared->Prop}(I:Inv X pins σ H s) (hg:Gl X x) (hm:X.mg x=some u) (h:Q u s)
  (hd:(x == ("__debug__" : Str))=false:=by decide):wpAny (model X.prog X.w) X.A (eval (.Name x pos) X.env) Q E s :=
 Calls.Name_function_global I.ok.kind hg (Calls.loadGlobal_global (by rw[I.ok.glob];exact I.mod.glob.keeps I.bk) hm h) hd
theorem afo {E:Value->Shared->Prop}{pins:List (Addr×Obj)}{s:Shared}{σ:St}{H:Hp}{x:Str}{u:Value}{pos:Pos}{Q:Value->Shared->Prop}(I:Inv X pins σ H s) (hg:Gl X x) (hm:X.mg x=none) (hv:bootBuiltins x=some u) (h:Q u s)
  (hn:x ≠ "__name__" := by decide) (hd:(x == ("__debug__" : Str))=false:=by decide):wpAny (model X.prog X.w) X.A (eval (.Name x pos) X.env) Q E s:=by
 obtain⟨mb,h1,h2⟩:=I.mod.blt;exact Calls.Name_function_global I.ok.kind hg (Calls.loadGlobal_builtin (by rw[I.ok.glob];exact I.mod.glob.keeps I.bk) hm (by rw[I.ok.blt];exact h1.keeps I.bk) ((h2 x hn).trans hv) h) hd
theorem aju {x:Str}{v:V}{u:Value}{pos:Pos}(hg:Gl X x) (hm:X.mg x=some u) (r:RelV v u) (hd:(x == ("__debug__" : Str))=false:=by decide):PE X (.Name x pos) (tC v) :=
 fun _ _ _ H _ I h=>ae4 I hg hm ⟨v,H,I,r,h⟩ hd
theorem av4 {x:Str}{v:V}{u:Value}{pos:Pos}(hg:Gl X x) (hm:X.mg x=none) (hv:bootBuiltins x=some u) (r:RelV v u) (hn:x ≠ "__name__" := by decide) (hd:(x == ("__debug__" : Str))=false:=by decide):PE X (.Name x pos) (tC v) :=
 fun _ _ _ H _ I h=>afo I hg hm hv ⟨v,H,I,r,h⟩ hn hd
variable {a b:Expr}{ta tb:TE}{pos:Pos}
def PC (X:Cx) (op:CmpOp) (a b:Expr) (t:TE):Prop :=
 ∀ (pins:List (Addr×Obj)) (s:Shared) (σ:St) (H:Hp) (Q:VK),Inv X pins σ H s->t σ H Q ->
  wpAny (model X.prog X.w) X.A (eval a X.env) (fun v s₁=>wpAny (model X.prog X.w) X.A (eval b X.env) (fun u s₂=>wpAny (model X.prog X.w) X.A (compareOp op v u) (EP X pins σ Q) X.xe s₂) X.xe s₁) X.xe s
theorem anq (b:Expr){op:CmpOp}(h:op ≠ .In) (h2:op ≠ .NotIn):behindInMarks op b=false:=by
 have e1:(op == CmpOp.In)=false:=by cases op<;>first | rfl | exact absurd rfl h
 have e2:(op == CmpOp.NotIn)=false:=by cases op<;>first | rfl | exact absurd rfl h2
 cases b<;>simp[behindInMarks,e1,e2]
def tIsN (ta:TE):TE:=fun σ H Q=>ta σ H fun x H1=>Q (.bl (decide (x = .non))) H1
def tNotN (ta:TE):TE:=fun σ H Q=>ta σ H fun x H1=>Q (.bl (!decide (x = .non))) H1
theorem RelV.none_iff {x:V}{v:Value}(r:RelV x v):(v == Value.none)=decide (x = .non):=by
 cases x with
 | non=>cases r;rfl
 | bl _=>cases r;rfl
 | int _=>obtain⟨t,rfl⟩:=r;rfl
 | str _=>obtain⟨t,rfl⟩:=r;rfl
 | byt _=>obtain⟨t,rfl⟩:=r;rfl
 | flt _=>obtain⟨t,rfl⟩:=r;rfl
 | ref _=>cases r;rfl
 | ty _=>cases r;rfl
theorem aqv {j pos'}(ha:PE X a ta):PC X .Is a (.Constant .none j pos') (tIsN ta):=by
 intro pins s σ H Q I h;refine thn (ha pins s σ H _ I h) fun v s1 ⟨x,H1,I1,r1,q1⟩=>?_
 exact Constant_none (is_none_gen ⟨.bl _,H1,I1,by rw[r1.none_iff];rfl,q1⟩)
theorem avq {j pos'}(ha:PE X a ta):PC X .IsNot a (.Constant .none j pos') (tNotN ta):=by
 intro pins s σ H Q I h;refine thn (ha pins s σ H _ I h) fun v s1 ⟨x,H1,I1,r1,q1⟩=>?_
 exact Constant_none (isnot_none_gen ⟨.bl _,H1,I1,by rw[r1.none_iff];rfl,q1⟩)
def tB (t:TE):TT:=fun σ H Q=>t σ H fun x H1=>∃ c,x = .bl c/\Q c H1
theorem apr {op:CmpOp}{t:TE}(h:PC X op a b t) (h1:behindInMarks op b=false:=by first | exact anq _ (by decide) (by decide) | rfl):PE X (.Compare a [op] [b] pos) t:=fun pins s σ H Q I hw=>wpAny_Compare1 (h pins s σ H Q I hw) h1
theorem ara {op:CmpOp}{t:TE}(h:PC X op a b t) (h1:behindInMarks op b=false:=by first | exact anq _ (by decide) (by decide) | rfl):PT X (.Compare a [op] [b] pos) (tB t):=by
 intro pins s σ H Q I hw;refine wpAny_isTrue_Compare1 (thn (h pins s σ H _ I hw) fun v s1 h1=>thn h1 fun u s2 h2=>thn h2 fun c s3 ⟨x,H1,I1,r1,q1⟩=>?_) h1;obtain⟨d,rfl,q⟩:=q1;cases r1;exact wpAny_truthy_bool ⟨H1,I1,q⟩
theorem arw {e:Expr}{t:TE}(h:PE X e t) (he:∀ whole,isTrue e X.env whole=(do let v ← whole;standAt e.pos;holding [v] (truthy v)):=by intro _;rfl):PT X e (tB t):=by
 intro pins s σ H Q I hw;refine isTrue_plain (thn (h pins s σ H _ I hw) fun v s1 ⟨x,H1,I1,r1,q1⟩=>?_) (he _);obtain⟨d,rfl,q⟩:=q1;cases r1;exact wpAny_truthy_bool ⟨H1,I1,q⟩
variable {tA tB':TT}{rest:List Expr}
def tAnd (t u:TT):TT:=fun σ H Q=>t σ H fun c H1=>if c=true then u σ H1 Q else Q false H1
def tOr (t u:TT):TT:=fun σ H Q=>t σ H fun c H1=>if c=true then Q true H1 else u σ H1 Q
def tNot (t:TT):TT:=fun σ H Q=>t σ H fun c H1=>Q (!c) H1
theorem alr (ha:PT X a tA):PW X (.BoolOp .And [a] pos) tA:=by
 intro wh pins s σ H Q I h;refine isTrue_and (thn (ha pins s σ H Q I h) fun c s1 e=>?_);cases c with
 | true=>exact isTrue_and_nil e
 | false=>exact e
theorem aqc (ha:PT X a tA):PW X (.BoolOp .Or [a] pos) tA:=by
 intro wh pins s σ H Q I h;refine isTrue_or (thn (ha pins s σ H Q I h) fun c s1 e=>?_);cases c with
 | false=>exact isTrue_or_nil e
 | true=>exact e
theorem aq7 (ha:PT X a tA) (hb:PW X (.BoolOp .And (b::rest) pos) tB'):PW X (.BoolOp .And (a::b::rest) pos) (tAnd tA tB'):=by
 intro wh pins s σ H Q I h;refine isTrue_and (thn (ha pins s σ H _ I h) fun c s1 ⟨H1,I1,q1⟩=>?_);cases c with
 | true=>exact hb wh pins s1 σ H1 Q I1 q1
 | false=>exact⟨H1,I1,q1⟩
theorem axi (ha:PT X a tA) (hb:PW X (.BoolOp .Or (b::rest) pos) tB'):PW X (.BoolOp .Or (a::b::rest) pos) (tOr tA tB'):=by
 intro wh pins s σ H Q I h;refine isTrue_or (thn (ha pins s σ H _ I h) fun c s1 ⟨H1,I1,q1⟩=>?_);cases c with
 | true=>exact⟨H1,I1,q1⟩
 | false=>exact hb wh pins s1 σ H1 Q I1 q1
theorem am6 (ha:PT X a tA):PT X (.UnaryOp .Not a pos) (tNot tA):=by
 intro pins s σ H Q I h;exact isTrue_not (ha pins s σ H (fun c H1=>Q (!c) H1) I h)
def tNotV (ta:TE):TE:=fun σ H Q=>ta σ H fun x H1=>∃ c,x = .bl c/\Q (.bl (!c)) H1
theorem pe_not (ha:PE X a ta):PE X (.UnaryOp .Not a pos) (tNotV ta):=by
 intro pins s σ H Q I h;refine UnaryOp_ (thn (ha pins s σ H _ I h) fun v s1 ⟨x,H1,I1,r1,q1⟩=>?_);obtain⟨c,rfl,q1⟩:=q1;cases r1;exact not_of (wpAny_truthy_bool ⟨.bl (!c),H1,I1,rfl,q1⟩)
def tIf (t:TT) (ta tb:TE):TE:=fun σ H Q=>t σ H fun c H1=>if c=true then ta σ H1 Q else tb σ H1 Q
theorem asv {c:Expr}(hc:PT X c tA) (ha:PE X a ta) (hb:PE X b tb):PE X (.IfExp c a b pos) (tIf tA ta tb):=by
 intro pins s σ H Q I h;refine wpAny_IfExp (thn (hc pins s σ H _ I h) fun d s1 ⟨H1,I1,q1⟩=>?_);cases d with
 | true=>exact ha pins s1 σ H1 Q I1 q1
 | false=>exact hb pins s1 σ H1 Q I1 q1
end
def SqL (K:PySem.W.Frag) (H:Hp) (a:Addr) (xs:List V):Prop :=
 Rd H a (.lst xs) \/
  ∃ (o:Obj) (its:Array Value) (n:Nat),K.lookup a=some o/\o.cls = .type "list" /\ o.dict=none/\o.data = .seq its n/\its.size<=sizeLine/\Vals xs its.toList
def SqT (K:PySem.W.Frag) (H:Hp) (a:Addr) (xs:List V):Prop :=
 Rd H a (.tup xs) \/
  ∃ (o:Obj) (its:Array Value) (n:Nat),K.lookup a=some o/\o.cls = .type "tuple" /\ o.data = .seq its n/\its.size<=sizeLine/\Vals xs its.toList
def absV:Value->Option V
 | .none=>some .non
 | .bool b=>some (.bl b)
 | .int i _=>some (.int i)
 | .str x _=>some (.str x)
 | .bytes b _=>some (.byt b)
 | .float b _=>some (.flt b)
 | .ref a=>some (.ref a)
 | .type n=>some (.ty n)
 | _=>none
theorem RelV.abs {x:V}{u:Value}(r:RelV x u):absV u=some x:=by
 cases x with
 | non=>cases r;rfl
 | bl _=>cases r;rfl
 | int _=>obtain⟨t,rfl⟩:=r;rfl
 | str _=>obtain⟨t,rfl⟩:=r;rfl
 | byt _=>obtain⟨t,rfl⟩:=r;rfl
 | flt _=>obtain⟨t,rfl⟩:=r;rfl
 | ref _=>cases r;rfl
 | ty _=>cases r;rfl
theorem RelV.inj {x y:V}{u:Value}(r:RelV x u) (q:RelV y u):x=y:=Option.some.inj (r.abs.symm.trans q.abs)
theorem Vals.inj:∀ {xs ys:List V}{us:List Value},Vals xs us->Vals ys us->xs=ys
 | _,_,_,.nil,.nil=>rfl
 | _,_,_,.cons r t,.cons r' t'=>by rw[r.inj r',Vals.inj t t']
section
variable {X:Cx}{pins:List (Addr×Obj)}{σ:St}{H:Hp}{s:Shared}{a:Addr}{xs ys:List V}
theorem SqL.of {K:PySem.W.Frag}(h:H a=some (.lst xs)):SqL K H a xs:=.inl (.inl h)
theorem SqT.of {K:PySem.W.Frag}(h:H a=some (.tup xs)):SqT K H a xs:=.inl (.inl h)
theorem Inv.list (I:Inv X pins σ H s) (h:SqL X.K H a xs):∃ its:List Value,Vals xs its/\PlainL s.heap a its.toArray/\xs.length<=sizeLine:=by
 rcases h with h | ⟨o,its,n,hk,hc,hd,hs,hz,r⟩
 ·obtain⟨z,its,n,r,e⟩:=h.ok I.hok;exact⟨its,r,⟨_,n,e,rfl,rfl,rfl⟩,z⟩
 ·refine⟨its.toList,r,⟨o,n,I.kIn a o hk,hc,hd,by simpa using hs⟩,?_⟩;have e:=r.length;simp only[Array.length_toList] at e;omega
theorem Inv.tuple (I:Inv X pins σ H s) (h:SqT X.K H a xs):∃ its:List Value,Vals xs its/\IsTup s.heap a its.toArray/\xs.length<=sizeLine:=by
 rcases h with h | ⟨o,its,n,hk,hc,hs,hz,r⟩
 ·obtain⟨z,its,r,p,_⟩:=h.ok I.hok;exact⟨its,r,p,z⟩
 ·refine⟨its.toList,r,⟨o,I.kIn a o hk,hc,n,by simpa using hs⟩,?_⟩;have e:=r.length;simp only[Array.length_toList] at e;omega
theorem Inv.list_inj (I:Inv X pins σ H s) (h:SqL X.K H a xs) (h':SqL X.K H a ys):xs=ys:=by
 obtain⟨its,r,⟨o,n,e,_,_,d⟩,_⟩:=I.list h;obtain⟨its',r',⟨o',n',e',_,_,d'⟩,_⟩:=I.list h';rw[e] at e';cases e';rw[d] at d';injection d' with d1 _;have:its=its':=by simpa using congrArg Array.toList d1
 subst this;exact r.inj r'
theorem Inv.tuple_inj (I:Inv X pins σ H s) (h:SqT X.K H a xs) (h':SqT X.K H a ys):xs=ys:=by
 obtain⟨its,r,⟨o,e,_,n,d⟩,_⟩:=I.tuple h;obtain⟨its',r',⟨o',e',_,n',d'⟩,_⟩:=I.tuple h';rw[e] at e';cases e';rw[d] at d';injection d' with d1 _;have:its=its':=by simpa using congrArg Array.toList d1
 subst this;exact r.inj r'
end
abbrev Cx.wish (X:Cx) (E:Value->Shared->Prop):Cx:={ X with xe:=E }
abbrev Cx.nox (X:Cx):Cx:=X.wish fun _ _=>False
theorem Cx.Ok.wish {X:Cx}(ok:X.Ok) (E:Value->Shared->Prop):(X.wish E).Ok :=
 ⟨ok.mod,ok.kind,ok.glob,ok.blt,ok.above,ok.inj,ok.has,ok.cab,ok.hd,ok.frames,ok.stk,ok.exf,ok.bs,ok.bsz,ok.noex,ok.exfs,ok.funs,ok.frf⟩
theorem Cx.Ok.unwish {X:Cx}{E:Value->Shared->Prop}(ok:(X.wish E).Ok):X.Ok :=
 ⟨ok.mod,ok.kind,ok.glob,ok.blt,ok.above,ok.inj,ok.has,ok.cab,ok.hd,ok.frames,ok.stk,ok.exf,ok.bs,ok.bsz,ok.noex,ok.exfs,ok.funs,ok.frf⟩
section
variable {X:Cx}{pins:List (Addr×Obj)}{σ:St}{H:Hp}{s:Shared}{E:Value->Shared->Prop}
theorem Inv.wish (I:Inv X pins σ H s) (E:Value->Shared->Prop):Inv (X.wish E) pins σ H s:=⟨I.ok.wish E,I.os,I.bare,I.base,I.loc,I.cell,I.free,I.freeC,I.pin,I.hok,I.len⟩
theorem Inv.unwish (I:Inv (X.wish E) pins σ H s):Inv X pins σ H s:=⟨I.ok.unwish,I.os,I.bare,I.base,I.loc,I.cell,I.free,I.freeC,I.pin,I.hok,I.len⟩
theorem SP.unwish {D:Ends}{f:Flow}{s':Shared}(h:SP (X.wish E) pins D f s'):SP X pins D f s':=by
 cases f with
 | next=>obtain⟨σ',H',I,q⟩:=h;exact⟨σ',H',I.unwish,q⟩
 | brk=>obtain⟨σ',H',I,q⟩:=h;exact⟨σ',H',I.unwish,q⟩
 | cont=>obtain⟨σ',H',I,q⟩:=h;exact⟨σ',H',I.unwish,q⟩
 | ret u=>obtain⟨v,σ',H',I,r,q⟩:=h;exact⟨v,σ',H',I.unwish,r,q⟩
theorem PSs.nox {st:List Stmt}{t:TS}(h:PSs X.nox st t):PSs X st t:=fun pins s σ H D I hw =>
 wpAny_mono (h pins s σ H D (I.wish _) hw) (fun _ _ q=>q.unwish) fun _ _ z=>False.elim z
end
section
variable {X:Cx}{st:Stmt}{rest:List Stmt}{t u:TS}{e:Expr}{te:TE}{pos:Pos}
def tNext:TS:=fun D σ H=>D.nx σ H
def tSeq (t u:TS):TS:=fun D σ H=>t { D with nx:=u D } σ H
theorem adl:PSs X [] tNext:=fun _ _ σ H _ I h=>wpAny_execs_nil ⟨σ,H,I,h⟩
theorem aas (h1:PS X st t) (h2:PSs X rest u):PSs X (st::rest) (tSeq t u):=by
 intro pins s σ H D I h;refine wpAny_execs_cons (thn (h1 pins s σ H { D with nx:=u D } I h) fun f s1 q=>?_);cases f with
 | next =>
  obtain⟨σ',H',I',q⟩:=q;exact h2 pins s1 σ' H' D I' q
 | ret v=>exact q
 | brk=>exact q
 | cont=>exact q
theorem aav (h1:PS X st t):PSs X [st] t:=by
 intro pins s σ H D I h;refine wpAny_execs_cons (thn (h1 pins s σ H D I h) fun f s1 q=>?_);cases f with
 | next=>exact wpAny_execs_nil q
 | ret v=>exact q
 | brk=>exact q
 | cont=>exact q
theorem Inv.quiet {pins:List (Addr×Obj)}{σ:St}{H:Hp}{s:Shared}(I:Inv X pins σ H s):interactive X.env=false:=by simp[interactive,I.ok.kind]
def awd (te:TE):TS:=fun D σ H=>te σ H fun _ H1=>D.nx σ H1
theorem aeb (he:PE X e te) (hs:swapsWith e none pos.line X.env=pure false:=by rfl):PS X (.Expr e pos) (awd te):=by
 intro pins s σ H D I h;exact wpAny_Expr_any (thn (he pins s σ H _ I h) fun v s1 ⟨x,H1,I1,r1,q1⟩=>⟨σ,H1,I1,q1⟩) I.quiet hs
def tRet (te:TE):TS:=fun D σ H=>te σ H D.rt
theorem ac6 (he:PE X e te):PS X (.Return (some e) pos) (tRet te):=by
 intro pins s σ H D I h;exact wpAny_Return_some (thn (he pins s σ H _ I h) fun v s1 ⟨x,H1,I1,r1,q1⟩=>⟨x,σ,H1,I1,r1,q1⟩)
def tIfS (c:TT) (t u:TS):TS:=fun D σ H=>c σ H fun b H1=>if b=true then t D σ H1 else u D σ H1
theorem ahc {c:Expr}{a b:List Stmt}{tc:TT}(hc:PT X c tc) (ha:PSs X a t) (hb:PSs X b u):PS X (.If c a b pos) (tIfS tc t u):=by
 intro pins s σ H D I h;refine wpAny_If (thn (hc pins s σ H _ I h) fun d s1 ⟨H1,I1,q1⟩=>?_);cases d with
 | true=>exact ha pins s1 σ H1 D I1 q1
 | false=>exact hb pins s1 σ H1 D I1 q1
def tNever:TS:=fun _ _ _=>False
theorem auc:PS X st tNever:=fun _ _ _ _ _ _ h=>h.elim
end
abbrev TG:=V->St->Hp->(St->Hp->Prop)->Prop
abbrev TGs:=List V->St->Hp->(St->Hp->Prop)->Prop
def PG (X:Cx) (target:Expr) (t:TG):Prop :=
 ∀ (pins:List (Addr×Obj)) (s:Shared) (σ:St) (H:Hp) (v:V) (u:Value) (Q:St->Hp->Prop),Inv X pins σ H s->RelV v u->t v σ H Q ->
  wpAny (model X.prog X.w) X.A (assign target X.env u) (fun _ s'=>∃ σ' H',Inv X pins σ' H' s'/\Q σ' H') X.xe s
def PGs (X:Cx) (ts:List Expr) (t:TGs):Prop :=
 ∀ (pins:List (Addr×Obj)) (s:Shared) (σ:St) (H:Hp) (vs:List V) (us:List Value) (Q:St->Hp->Prop),Inv X pins σ H s->Vals vs us->t vs σ H Q ->
  wpAny (model X.prog X.w) X.A (assignInOrder ((assignEach ts X.env).map (·.2)) us) (fun _ s'=>∃ σ' H',Inv X pins σ' H' s'/\Q σ' H') X.xe s
abbrev TSet:=V->V->V->Hp->(Hp->Prop)->Prop
def PSet (X:Cx) (t:TSet):Prop :=
 ∀ (pins:List (Addr×Obj)) (s:Shared) (σ:St) (H:Hp) (o i v:V) (ov iv u:Value) (Q:Hp->Prop),Inv X pins σ H s->RelV o ov->RelV i iv->RelV v u->t o i v H Q ->
  wpAny (model X.prog X.w) X.A (setItem ov iv u) (fun _ s'=>∃ H',Inv X pins σ H' s'/\Q H') X.xe s
section
variable {X:Cx}{pos:Pos}
def ak9 (i:Nat):TG:=fun v σ H Q=>Q (σ.set i (some v)) H
theorem ado {i:Nat}{x:Str}(hN:X.N.Nodup) (hi:X.N[i]?=some x) (hx:Loc X.env.scope x) (hf:X.fn x=true\/X.env.scope.names.lookup x=some .local:=by first | exact .inl rfl | exact .inr rfl | assumption):PG X (.Name x pos) (ak9 i):=by
 intro pins s σ H v u Q I r h;exact wpAny_assign_Name (aij I hN hi hx r (fun s' I'=>⟨_,H,I',h⟩) hf)
def gNil:TGs:=fun vs σ H Q=>vs=[]/\Q σ H
def gCons (t:TG) (u:TGs):TGs:=fun vs σ H Q=>∃ v r,vs=v::r/\t v σ H fun σ' H'=>u r σ' H' Q
theorem axs:PGs X [] gNil:=by
 intro pins s σ H vs us Q I r h;obtain⟨e,h⟩:=h;subst e;cases r;exact assignInOrder_nil ⟨σ,H,I,h⟩
theorem atr {e:Expr}{es:List Expr}{t:TG}{u:TGs}(h1:PG X e t) (h2:PGs X es u)
  (hs:(assignEach (e::es) X.env).map (·.2)=assign e X.env::(assignEach es X.env).map (·.2):=by rfl):PGs X (e::es) (gCons t u):=by
 intro pins s σ H vs us Q I r h;obtain⟨v,vr,e1,h⟩:=h;subst e1;cases r with
 | cons r rr =>
  rw[hs];refine assignInOrder_cons (thn (h1 pins s σ H _ _ _ I r h) fun _ s1 ⟨σ1,H1,I1,q1⟩=>?_);exact h2 pins s1 σ1 H1 _ _ Q I1 rr q1
def gTup (K:PySem.W.Frag) (n:Nat) (t:TGs):TG:=fun v σ H Q=>∃ a xs,v = .ref a/\SqT K H a xs/\xs.length=n/\t xs σ H Q
theorem pg_tup {es:List Expr}{k:Nat}{t:TGs}{n:Nat}(hc:X.calm=true) (h:PGs X es t)
  (hn:(assignEach es X.env).length=n:=by rfl) (hst:(assignEach es X.env).findIdx? (·.1)=none:=by rfl):PG X (.Tuple es k pos) (gTup X.K n t):=by
 intro pins s σ H v u Q I r hw;obtain⟨a,xs,e1,hq,hl,hw⟩:=hw;subst e1;cases r;obtain⟨its,rv,ht,hz⟩:=I.tuple hq;refine assign_Tuple_tuple (I.ok.hd hc) ht (by simp[hn,← hl,rv.length]) hst fun h' hx=>?_
 have I1:Inv X pins σ H { s with heap:=h' }:=I.kept (t':=s.toks) fun b o e=>hx b o (Nat.ne_of_lt (Heap.lt_size e)) e
 exact h pins _ σ H xs _ Q I1 (by simpa using rv) hw
def gSub (to ti:TE) (t:TSet):TG:=fun v σ H Q=>to σ H fun o H1=>ti σ H1 fun i H2=>t o i v H2 fun H3=>Q σ H3
theorem amx {o i:Expr}{to ti:TE}{t:TSet}(ho:PE X o to) (hi:PE X i ti) (hs:PSet X t)
  (ha:∀ v,assign (.Subscript o i pos) X.env v=(do
   let ov ← holding [v] (eval o X.env);let iv ← holding [v,ov] (eval i X.env)
   standAt pos
   holding [v,ov,iv] (setItem ov iv v)
   release [v,ov,iv] []):=by intro _;rfl):PG X (.Subscript o i pos) (gSub to ti t):=by
 intro pins s σ H v u Q I r h;rw[ha];refine wpAny_bind (wpAny_holding (thn (ho pins s σ H _ I h) fun ov s1 ⟨x,H1,I1,r1,q1⟩=>?_));refine wpAny_bind (wpAny_holding (thn (hi pins s1 σ H1 _ I1 q1) fun iv s2 ⟨y,H2,I2,r2,q2⟩=>?_));refine wpAny_bind (wpAny_standAt (wpAny_bind (wpAny_holding (thn (hs pins s2 σ H2 x y v ov iv u _ I2 r1 r2 r q2) fun _ s3 ⟨H3,I3,q3⟩=>?_))));exact wpAny_release ⟨σ,H3,I3,q3⟩
def tAsg (te:TE) (g:TG):TS:=fun D σ H=>te σ H fun x H1=>g x σ H1 D.nx
theorem anv {tg e:Expr}{te:TE}{g:TG}(he:PE X e te) (hg:PG X tg g) (hs:swapsWithSole [tg] e pos.line X.env=pure false:=by rfl) (hw:swappedStores [tg] e X.env=pure none:=by rfl)
  (h1:(assignEach [tg] X.env).map (·.2)=[assign tg X.env]:=by rfl):PS X (.Assign [tg] e pos) (tAsg te g):=by
 intro pins s σ H D I h;refine wpAny_Assign_stores (thn (he pins s σ H _ I h) fun v s1 ⟨x,H1,I1,r1,q1⟩=>?_) hs hw;rw[h1];exact thn (hg pins s1 σ H1 x v _ I1 r1 q1) fun _ s2 q=>q
theorem aa5 {i:Nat}{x:Str}{e:Expr}{te:TE}{pos':Pos}(hN:X.N.Nodup) (hi:X.N[i]?=some x) (hx:Loc X.env.scope x) (he:PE X e te) (hs:swapsWith e (some (.Name x pos')) pos.line X.env=pure false:=by rfl) (hf:X.fn x=true\/X.env.scope.names.lookup x=some .local:=by first | exact .inl rfl | exact .inr rfl | assumption) :
  PS X (.Assign [.Name x pos'] e pos) (tAsg te (ak9 i)):=by
 intro pins s σ H D I h;refine wpAny_Assign_Name (thn (he pins s σ H _ I h) fun v s1 ⟨y,H1,I1,r1,q1⟩=>?_) hs;exact aij I1 hN hi hx r1 (fun s2 I2=>⟨_,H1,I2,q1⟩) hf
end
section
variable {X:Cx}{pos:Pos}
def tWhile (c:TT) (tb:TS):TS:=fun D σ H=>∃ W:Nat->St->Hp->Prop,(∃ m,W m σ H)/\∀ m σ H,W m σ H ->
 c σ H fun b H1=>if b=true then ∃ N:St->Hp->Prop,(∀ σ' H',N σ' H'->∃ m',m'<m/\W m' σ' H')/\tb { D with nx:=N,ct:=N,bk:=D.nx } σ H1 else D.nx σ H1
theorem aud {c:Expr}{body:List Stmt}{tc:TT}{tb:TS}(hp:PassesOwn (model X.prog X.w) X.A X.env X.xe) (hc:PT X c tc) (hb:PSs X body tb):PS X (.While c body [] pos) (tWhile tc tb):=by
 intro pins s σ H D I h;obtain⟨W,⟨m0,w0⟩,turn⟩:=h;refine wpAny_While (codeAny_whileLoop (fun n s'=>∃ σ' H',Inv X pins σ' H' s'/\W n σ' H') ?_ m0 ⟨σ,H,I,w0⟩);rintro n s1 ⟨σ1,H1,I1,w1⟩;refine wpAny_passesOwn hp (thn (hc pins s1 σ1 H1 _ I1 (turn n σ1 H1 w1)) fun b s2 ⟨H2,I2,q2⟩=>?_);cases b with
 | true =>
  obtain⟨N,hN,q2⟩:=q2;rw[if_pos rfl];refine wpAny_passesOwn hp (thn (hb pins s2 σ1 H2 _ I2 q2) fun f s3 q3=>?_);cases f with
  | next =>
   obtain⟨σ3,H3,I3,n3⟩:=q3;obtain⟨m',hm,w3⟩:=hN σ3 H3 n3;exact⟨m',hm,σ3,H3,I3,w3⟩
  | cont =>
   obtain⟨σ3,H3,I3,n3⟩:=q3;obtain⟨m',hm,w3⟩:=hN σ3 H3 n3;exact⟨m',hm,σ3,H3,I3,w3⟩
  | brk=>exact q3
  | ret v=>exact q3
 | false =>
  rw[if_neg Bool.false_ne_true];exact wpAny_execs_nil ⟨σ1,H2,I2,q2⟩
end
structure It where
 go:Nat->Hp->Prop
 yld:Nat->Hp->V->Hp->Prop
 stop:Nat->Hp->Prop
def FpOk (X:Cx) (pins:List (Addr×Obj)) (H:Hp) (b:Addr):Prop :=
 H b=none/\b≠X.env.locals/\b∉X.fs/\(b∈X.ex\/X.s₀.heap.objs.size<=b)/\(∀ x c,X.env.cells.lookup x=some c->c≠b)/\∀ p∈X.pn++pins,p.1≠b
theorem Inv.fpOk {X:Cx}{pins:List (Addr×Obj)}{σ:St}{H H':Hp}{s:Shared}{b:Addr}(I:Inv X pins σ H s) (hb:s.heap.objs.size<=b) (hn:H' b=none):FpOk X pins H' b:=by
 refine⟨hn,Nat.ne_of_gt (Nat.lt_of_lt_of_le I.lt hb),I.nofs hb,.inr (Nat.le_trans I.sz hb),fun x c e z=>?_,fun p hp z=>?_⟩
 ·obtain⟨v,q⟩:=I.cell x c e;exact absurd (Nat.lt_of_lt_of_le q.lt (by rw[z];exact hb)) (Nat.lt_irrefl _)
 ·exact absurd (Nat.lt_of_lt_of_le (Heap.lt_size (I.pin p hp).1) (by rw[z];exact hb)) (Nat.lt_irrefl _)
structure Turn (P:Program) (w:World) (K:PySem.W.Frag) (tg:Expr) (J:It) (fp:List Addr) (it:Addr) (tn:Nat->Heap->Prop):Prop where
 mem:it∈fp
 obj:∀ i h,tn i h->∀ b∈fp,∃ o,h.get? b=some o/\∀ v,o.data ≠ .cell v
 keep:∀ i h h',tn i h->(∀ b∈fp,∀ o,h.get? b=some o->h'.get? b=some o)->tn i h'
 item:∀ (X:Cx),X.prog=P->X.w=w->X.K=K->X.calm=true->∀ (i:Nat) (pins:List (Addr×Obj)) (s:Shared) (σ:St) (H:Hp) (E:Value->Shared->Prop),Inv X pins σ H s->(∀ b∈fp,FpOk X pins H b)->tn i s.heap->J.go i H ->
  wpAny (model P w) X.A (pyNext (.ref it)) (fun r s1=>∃ u,r=some u /\ wpAny (model P w) X.A (letOwnedTupleGo tg (.ref it) u) (fun _ s2=>∃ x H',Inv X pins σ H' s2/\RelV x u/\J.yld i H x H'/\tn (i+1) s2.heap/\∀ b∈fp,H' b=none) E s1) E s
 done:∀ (X:Cx),X.prog=P->X.w=w->X.K=K->X.calm=true->∀ (i:Nat) (pins:List (Addr×Obj)) (s:Shared) (σ:St) (H:Hp) (E:Value->Shared->Prop),Inv X pins σ H s->(∀ b∈fp,FpOk X pins H b)->tn i s.heap->J.stop i H ->
  wpAny (model P w) X.A (pyNext (.ref it)) (fun r s1=>r=none/\Inv X pins σ H s1) E s
 self:∀ (A:Around) (i:Nat) (s:Shared) (Q:Value->Shared->Prop) (E:Value->Shared->Prop),tn i s.heap->Q (.ref it) s->wpAny (model P w) A (pyIter (.ref it)) Q E s
abbrev TI:=St->Hp->(It->Hp->Prop)->Prop
def PIE (X:Cx) (pins:List (Addr×Obj)) (σ:St) (tg:Expr) (R:It->Hp->Prop) (itv:Value) (s2:Shared):Prop :=
 ∃ (it:Addr) (fp:List Addr) (tn:Nat->Heap->Prop) (J:It) (H':Hp),itv = .ref it/\Inv X pins σ H' s2/\Turn X.prog X.w X.K tg J fp it tn/\tn 0 s2.heap/\(∀ b∈fp,FpOk X pins H' b)/\R J H'
def PI (X:Cx) (tg iter:Expr) (wi:TI):Prop :=
 ∀ (pins:List (Addr×Obj)) (s:Shared) (σ:St) (H:Hp) (R:It->Hp->Prop),Inv X pins σ H s->wi σ H R ->
  wpAny (model X.prog X.w) X.A (eval iter X.env) (fun v s1=>wpAny (model X.prog X.w) X.A (pyIter v) (PIE X pins σ tg R) X.xe s1) X.xe s
theorem ary {M:Model}{A:Around}{E:Value->Shared->Prop}{s:Shared}{tg:Expr}{it:Addr}{u:Value}{o:Obj}{n:String}{vs:Array Value}{Q:Unit->Shared->Prop}(ho:s.heap.get? it=some o) (hc:o.cls = .type n) (hd:o.data = .fields vs)
  (hn:["enumerate","zip","dict_itemiterator","dict_reverseitemiterator","odict_iterator","itertools.zip_longest","itertools.pairwise"].contains n=false) (hQ:Q () s):wpAny M A (letOwnedTupleGo tg (.ref it) u) Q E s:=by
 unfold letOwnedTupleGo;cases tg<;>first
  | exact wpAny_pure hQ
  | (cases u<;>first
    | exact wpAny_pure hQ
    | (refine wpAny_bind (wpAny_load ho ?_);rw[hc,hd];show wpAny M A (if (["enumerate","zip","dict_itemiterator","dict_reverseitemiterator","odict_iterator","itertools.zip_longest","itertools.pairwise"].contains n&&vs[0]? == some (rawInt _))=true then _ else _) Q E s;rw[if_neg (by intro h;rw[hn,Bool.false_and] at h;cases h)];exact wpAny_pure hQ))
def Itl (K:PySem.W.Frag) (a:Addr):It :=
 ⟨fun i H=>∃ xs x,SqL K H a xs/\xs[i]?=some x,fun i H x H'=>H'=H/\∀ xs,SqL K H a xs->xs[i]?=some x,fun i H=>∃ xs,SqL K H a xs/\xs.length<=i⟩
def Itt (K:PySem.W.Frag) (a:Addr):It :=
 ⟨fun i H=>∃ xs x,SqT K H a xs/\xs[i]?=some x,fun i H x H'=>H'=H/\∀ xs,SqT K H a xs->xs[i]?=some x,fun i H=>∃ xs,SqT K H a xs/\xs.length<=i⟩
def Itr (lo:Int) (n:Nat):It:=⟨fun i _=>i<n,fun i H x H'=>H'=H/\x = .int (lo+i),fun i _=>n<=i⟩
theorem aj8 {P:Program}{w:World}{K:PySem.W.Frag}{tg:Expr}(a it:Addr):Turn P w K tg (Itl K a) [it] it (fun i h=>h.IsListIter it a i) where
 mem:=by simp
 obj:=fun i h st b hb=>by
  have e:b=it:=by simpa using hb
  subst e;obtain⟨o,e,c,d⟩:=st;exact⟨o,e,fun v z=>by rw[d] at z;cases z⟩
 keep:=fun i h h' st k=>st.at fun o e=>k it (by simp) o e
 item:=by
  intro X hP hw hK hc i pins s σ H E I hf st hg;subst hP hw hK;obtain⟨xs,x,hq,hx⟩:=hg;obtain⟨its,rv,p,hz⟩:=I.list hq;obtain⟨u,hu,ru⟩:=rv.get hx;obtain⟨f0,f1,f2,f3,f4,f5⟩:=hf it (by simp);refine wpAny_pyNext_list_item st p.isList (x:=u) (by simpa using hu) fun h' st' sb=>?_
  have I1:Inv X pins σ H { s with heap:=h' }:=I.turned (t':=s.toks) (fun b o hb e=>(sb.2 b hb).trans e) f0 f1 f3 f4 f5;obtain⟨o,e,c,d⟩:=id st';exact⟨u,rfl,ary (s:={ s with heap:=h' }) e c d (by decide) ⟨x,H,I1,ru,⟨rfl,fun ys hy=>by rw[I.list_inj hy hq];exact hx⟩,st',fun b hb=>(hf b hb).1⟩⟩
 done:=by
  intro X hP hw hK hc i pins s σ H E I hf st hg;subst hP hw hK;obtain⟨xs,hq,hx⟩:=hg;obtain⟨its,rv,p,hz⟩:=I.list hq;obtain⟨f0,f1,f2,f3,f4,f5⟩:=hf it (by simp);have hl:=rv.length;exact wpAny_pyNext_list_end (I.ok.hd hc) st p.isList (by simp;omega) fun h' eb=>⟨rfl,I.turned (t':=s.toks) (fun b o hb e=>eb b o hb e) f0 f1 f3 f4 f5⟩
 self:=fun _ _ _ _ _ st h=>wpAny_pyIter_listiter st h
theorem aoe {P:Program}{w:World}{K:PySem.W.Frag}{tg:Expr}(a it:Addr):Turn P w K tg (Itt K a) [it] it (fun i h=>h.IsTupleIter it a i) where
 mem:=by simp
 obj:=fun i h st b hb=>by
  have e:b=it:=by simpa using hb
  subst e;obtain⟨o,e,c,d⟩:=st;exact⟨o,e,fun v z=>by rw[d] at z;cases z⟩
 keep:=fun i h h' st k=>st.at fun o e=>k it (by simp) o e
 item:=by
  intro X hP hw hK hc i pins s σ H E I hf st hg;subst hP hw hK;obtain⟨xs,x,hq,hx⟩:=hg;obtain⟨its,rv,p,hz⟩:=I.tuple hq;obtain⟨u,hu,ru⟩:=rv.get hx;obtain⟨f0,f1,f2,f3,f4,f5⟩:=hf it (by simp);refine wpAny_pyNext_tuple_item st (show s.heap.IsTuple a its.toArray from p) (x:=u) (by simpa using hu) fun h' st' sb=>?_
  have I1:Inv X pins σ H { s with heap:=h' }:=I.turned (t':=s.toks) (fun b o hb e=>(sb.2 b hb).trans e) f0 f1 f3 f4 f5;obtain⟨o,e,c,d⟩:=id st';exact⟨u,rfl,ary (s:={ s with heap:=h' }) e c d (by decide) ⟨x,H,I1,ru,⟨rfl,fun ys hy=>by rw[I.tuple_inj hy hq];exact hx⟩,st',fun b hb=>(hf b hb).1⟩⟩
 done:=by
  intro X hP hw hK hc i pins s σ H E I hf st hg;subst hP hw hK;obtain⟨xs,hq,hx⟩:=hg;obtain⟨its,rv,p,hz⟩:=I.tuple hq;obtain⟨f0,f1,f2,f3,f4,f5⟩:=hf it (by simp);have hl:=rv.length;exact wpAny_pyNext_tuple_end (I.ok.hd hc) st (show s.heap.IsTuple a its.toArray from p) (by simp;omega) fun h' eb=>⟨rfl,I.turned (t':=s.toks) (fun b o hb e=>eb b o hb e) f0 f1 f3 f4 f5⟩
 self:=fun _ _ _ _ _ st h=>wpAny_pyIter_tupleiter st h
theorem aod {P:Program}{w:World}{K:PySem.W.Frag}{tg:Expr}(it:Addr) (lo:Int) (n:Nat):Turn P w K tg (Itr lo n) [it] it (fun i h=>IsRangeIter h it (lo+(i:Nat)*1) ((n:Int)-(i:Nat)) 1) where
 mem:=by simp
 obj:=fun i h st b hb=>by
  have e:b=it:=by simpa using hb
  subst e;exact⟨_,st,fun v z=>by
   have z':Data.fields _=Data.cell v:=z;cases z'⟩
 keep:=fun i h h' st k=>k it (by simp) _ st
 item:=by
  intro X hP hw hK hc i pins s σ H E I hf st hg;subst hP hw hK;obtain⟨f0,f1,f2,f3,f4,f5⟩:=hf it (by simp);have W:=Walks.range (prog:=X.prog) (w:=X.w) (I.ok.hd hc) it lo 1 n;refine W.item i s _ _ hg st fun v h' tk hv st' kk=>?_
  obtain⟨t,rfl⟩:=hv;have I1:Inv X pins σ H { s with heap:=h',toks:=tk }:=I.turned (fun b o hb e=>kk b o (by simpa using hb) e) f0 f1 f3 f4 f5;refine⟨_,rfl,ary (s:={ s with heap:=h',toks:=tk }) (n := "range_iterator") st' rfl rfl (by decide) ⟨.int (lo+i),H,I1,⟨t,?_⟩,⟨rfl,rfl⟩,st',fun b hb=>(hf b hb).1⟩⟩;rw[Int.mul_one]
 done:=by
  intro X hP hw hK hc i pins s σ H E I hf st hg;subst hP hw hK;obtain⟨f0,f1,f2,f3,f4,f5⟩:=hf it (by simp);exact wpAny_pyNext_range_end (I.ok.hd hc) st (by have:n<=i:=hg;omega) fun h' eb=>⟨rfl,I.turned (t':=s.toks) (fun b o hb e=>eb b o hb e) f0 f1 f3 f4 f5⟩
 self:=fun _ _ _ _ _ st h=>wpAny_pyIter_rangeiter st h
section
variable {X:Cx}{tg:Expr}
def iList (K:PySem.W.Frag) (tl:TE):TI:=fun σ H R=>tl σ H fun x H1=>∃ a,x = .ref a/\(∃ xs,SqL K H1 a xs)/\R (Itl K a) H1
theorem aww {l:Expr}{tl:TE}(hl:PE X l tl):PI X tg l (iList X.K tl):=by
 intro pins s σ H R I h;refine thn (hl pins s σ H _ I h) fun v s1 ⟨x,H1,I1,r1,q1⟩=>?_
 obtain⟨a,e,⟨xs,hq⟩,q⟩:=q1;subst e;cases r1;obtain⟨its,rv,p,hz⟩:=I1.list hq;refine wpAny_pyIter_list p.isList ?_;refine⟨s1.heap.objs.size,[s1.heap.objs.size],_,_,H1,rfl,I1.kept (t':=s1.toks) fun b o e=>Heap.get?_push_of_some _ e,aj8 a _,⟨_,Heap.get?_push_size _ rfl,rfl,rfl⟩,fun b hb=>?_,q⟩;have e:b=s1.heap.objs.size:=by simpa using hb
 subst e;exact I1.fpOk (Nat.le_refl _) (I1.hok.fresh (Nat.le_refl _))
theorem as4 {pins:List (Addr×Obj)}{σ:St}{H:Hp}{s:Shared}{R:It->Hp->Prop}{E:Value->Shared->Prop}{lo hi:Int}{t u v:Tok}{tk:Nat}(I:Inv X pins σ H s) (h1:-(2 ^ 62)<=lo) (h2:lo<2 ^ 62) (h3:-(2 ^ 62)<=hi) (h4:hi<2 ^ 62)
  (q:R (Itr lo (hi-lo).toNat) H):wpAny (model X.prog X.w) X.A (pyIter (.ref s.heap.objs.size)) (PIE X pins σ tg R) E { s with heap:=s.heap.push { cls:=.type "range",data:=.fields #[.int lo t,.int hi u,.int 1 v] },toks:=tk }:=by
 refine wpAny_pyIter_range (IsRange.new ..) (small_one h1 h2 h3 h4) ?_;have I1:Inv X pins σ H { s with heap:=s.heap.push { cls:=.type "range",data:=.fields #[.int lo t,.int hi u,.int 1 v] },toks:=tk }:=I.kept fun b o e=>Heap.get?_push_of_some _ e
 refine⟨(s.heap.push { cls:=.type "range",data:=.fields #[.int lo t,.int hi u,.int 1 v] }).objs.size,[(s.heap.push { cls:=.type "range",data:=.fields #[.int lo t,.int hi u,.int 1 v] }).objs.size],_,_,H,rfl,
  I1.kept (t':=tk) fun b o e=>Heap.get?_push_of_some _ e,aod _ lo (hi-lo).toNat,?_,fun b hb=>?_,q⟩
 ·have e1:lo+((0:Nat):Int)*1=lo:=by simp
  have e2:(((hi-lo).toNat:Nat):Int)-((0:Nat):Int)=Builtin.Range.rangeSize lo hi 1:=by rw[rangeSize_one];split<;>omega
  show IsRangeIter _ _ (lo+((0:Nat):Int)*1) ((((hi-lo).toNat:Nat):Int)-((0:Nat):Int)) 1;rw[e1,e2];exact Heap.get?_push_size _ rfl
 ·have e:b=(s.heap.push { cls:=.type "range",data:=.fields #[.int lo t,.int hi u,.int 1 v] }).objs.size:=by simpa using hb
  subst e;exact I1.fpOk (Nat.le_refl _) (I1.hok.fresh (Nat.le_refl _))
def iRng1 (ta:TA):TI:=fun σ H R=>ta σ H fun vs H1=>∃ j:Int,vs=[.int j]/\-(2 ^ 62)<=j/\j<2 ^ 62/\R (Itr 0 j.toNat) H1
theorem adu {a:Expr}{ta:TA}{p pos:Pos}(hg:Gl X "range") (hm:X.mg "range" = none) (ha:PA X [a] ta) (hs:starEach [a] X.env=[(false,eval a X.env)]:=by rfl):PI X tg (.Call (.Name "range" p) [a] [] pos) (iRng1 ta):=by
 intro pins s σ H R I h;refine Call_ (afo I hg hm boot_range (PyProof.Rows.callWith_type1 (thn (ha pos pins s σ H _ I h) fun us s1 ⟨vs,H1,I1,r1,q1⟩=>?_) hs rfl));obtain⟨j,e,q1,q2,q⟩:=q1;subst e;cases r1 with
 | cons r rr =>
  cases rr;obtain⟨t,rfl⟩:=r;exact call_range_1 (as4 I1 (by omega) (by omega) q1 q2 (by simpa using q))
def tFor (wi:TI) (g:TG) (tb:TS):TS:=fun D σ H=>wi σ H fun J H1=>∃ W:Nat->Nat->St->Hp->Prop,(∃ m,W 0 m σ H1)/\∀ i m σ H,W i m σ H ->
 (J.stop i H/\D.nx σ H)\/(J.go i H/\∃ N:St->Hp->Prop,(∀ σ' H',N σ' H'->∃ m',m'<m/\W (i+1) m' σ' H')/\∀ x H',J.yld i H x H'->g x σ H' fun σ2 H2=>tb { D with nx:=N,ct:=N,bk:=D.nx } σ2 H2)
def aii (fp:List Addr) (h:Heap):List (Addr×Obj):=fp.filterMap fun b=>(h.get? b).map fun o=>(b,o)
theorem ac4 {fp:List Addr}{h:Heap}{b:Addr}{o:Obj}(hb:b∈fp) (e:h.get? b=some o):(b,o)∈aii fp h:=List.mem_filterMap.mpr ⟨b,hb,by rw[e];rfl⟩
theorem aqq {fp:List Addr}{h:Heap}{p:Addr×Obj}(hp:p∈aii fp h):p.1∈fp/\h.get? p.1=some p.2:=by
 obtain⟨b,hb,e⟩:=List.mem_filterMap.mp hp;cases q:h.get? b with
 | none=>rw[q] at e;cases e
 | some o =>
  rw[q] at e;have e':(b,o)=p:=Option.some.inj e;subst e';exact⟨hb,q⟩
theorem Inv.pinned {pins:List (Addr×Obj)}{σ:St}{H:Hp}{s:Shared}{fp:List Addr}(I:Inv X pins σ H s) (hf:∀ b∈fp,FpOk X pins H b) (ho:∀ b∈fp,∃ o,s.heap.get? b=some o/\∀ v,o.data ≠ .cell v):Inv X (pins++aii fp s.heap) σ H s :=
 I.pins_of fun p hp=>(List.mem_append.mp hp).elim (fun z=>I.pin p (List.mem_append_right _ z)) fun z=>by
  obtain⟨hb,e⟩:=aqq z;obtain⟨f0,f1,f2,_⟩:=hf p.1 hb;obtain⟨o,e',d⟩:=ho p.1 hb;rw[e] at e';cases e';exact⟨e,f0,f1,f2,d⟩
theorem Inv.unpinned {pins pl:List (Addr×Obj)}{σ:St}{H:Hp}{s:Shared}(I:Inv X (pins++pl) σ H s):Inv X pins σ H s:=I.pins_of fun p hp=>I.pin p (List.mem_append_right _ (List.mem_append_left _ hp))
theorem ahz {iter:Expr}{body:List Stmt}{wi:TI}{g:TG}{tb:TS}{pos:Pos}(hp:PassesOwn (model X.prog X.w) X.A X.env X.xe) (hc:X.calm=true) (hi:PI X tg iter wi) (hg:PG X tg g) (hb:PSs X body tb)
  (hs:∀ x,foldedSetIterable iter X.env x=pure x:=by intro _;rfl):PS X (.For tg iter body [] pos) (tFor wi g tb):=by
 intro pins s σ H D I h;refine wpAny_For (thn (hi pins s σ H _ I h) fun v s1 h1=>thn h1 fun itv s2 h2=>?_) hs;obtain⟨it,fp,tn,J,H2,e,I2,T,st2,f2,W,⟨m0,w0⟩,turn⟩:=h2;subst e;have stat:∀ {H':Hp},(∀ b∈fp,H' b=none)->∀ b∈fp,FpOk X pins H' b:=fun hn b hb=>⟨hn b hb,(f2 b hb).2⟩
 refine codeAny_forLoop_any (fun n s'=>∃ i σ' H',Inv X pins σ' H' s'/\tn i s'.heap/\(∀ b∈fp,H' b=none)/\W i n σ' H') ?_ m0 ⟨0,σ,H2,I2,st2,fun b hb=>(f2 b hb).1,w0⟩;rintro n s3 ⟨i,σ3,H3,I3,st3,fr3,w3⟩;rcases turn i n σ3 H3 w3 with⟨stop,qn⟩ | ⟨go,N,hN,step⟩
 ·refine wpAny_passesOwn hp (thn (T.done X rfl rfl rfl hc i pins s3 σ3 H3 X.xe I3 (stat fr3) st3 stop) fun r s4 ⟨hr,I4⟩=>?_);subst hr;exact wpAny_execs_nil ⟨σ3,H3,I4,qn⟩
 ·refine wpAny_passesOwn hp (thn (T.item X rfl rfl rfl hc i pins s3 σ3 H3 X.xe I3 (stat fr3) st3 go) fun r s4 ⟨u,hr,h4⟩=>?_);subst hr;refine wpAny_passesOwn hp (thn h4 fun _ s5 ⟨x,H5,I5,r5,y5,st5,fr5⟩=>?_);have I5':=I5.pinned (stat fr5) (T.obj _ _ st5);refine wpAny_passesOwn hp (thn (hg _ s5 σ3 H5 x u _ I5' r5 (step x H5 y5)) fun _ s6 ⟨σ6,H6,I6,q6⟩=>?_);refine wpAny_passesOwn hp (thn (hb _ s6 σ6 H6 _ I6 q6) fun f s7 q7=>?_);have again:∀ {σ7:St} {H7:Hp},Inv X (pins++aii fp s5.heap) σ7 H7 s7->N σ7 H7->∃ m,m<n/\∃ i σ' H',Inv X pins σ' H' s7/\tn i s7.heap/\(∀ b∈fp,H' b=none)/\W i m σ' H':=fun {σ7 H7} I7 n7=>by
   obtain⟨m',hm,w7⟩:=hN σ7 H7 n7;refine⟨m',hm,i+1,σ7,H7,I7.unpinned,T.keep _ _ _ st5 fun b hb o e=>(I7.pin (b,o) (List.mem_append_right _ (List.mem_append_right _ (ac4 hb e)))).1,fun b hb=>?_,w7⟩;obtain⟨o,e,d⟩:=T.obj _ _ st5 b hb;exact (I7.pin (b,o) (List.mem_append_right _ (List.mem_append_right _ (ac4 hb e)))).2.1
  cases f with
  | next=>obtain⟨σ7,H7,I7,n7⟩:=q7;exact again I7 n7
  | cont=>obtain⟨σ7,H7,I7,n7⟩:=q7;exact again I7 n7
  | brk=>obtain⟨σ7,H7,I7,q7⟩:=q7;exact⟨σ7,H7,I7.unpinned,q7⟩
  | ret v=>obtain⟨x7,σ7,H7,I7,r7,q7⟩:=q7;exact⟨x7,σ7,H7,I7.unpinned,r7,q7⟩
end
theorem an0 {K:PySem.W.Frag}{a:Addr}{xs:List V}{g:TG}{tb:TS}{D:Ends}{σ:St}{H:Hp}(Pv:Nat->St->Hp->Prop) (h0:Pv 0 σ H) (hl:∀ i σ H,i<=xs.length->Pv i σ H->SqL K H a xs)
  (hs:∀ i x σ H,xs[i]?=some x->Pv i σ H->g x σ H fun σ2 H2=>tb { D with nx:=Pv (i+1),ct:=Pv (i+1),bk:=D.nx } σ2 H2) (hd:∀ σ H,Pv xs.length σ H->D.nx σ H) :
  ∃ W:Nat->Nat->St->Hp->Prop,(∃ m,W 0 m σ H)/\∀ i m σ H,W i m σ H ->
   ((Itl K a).stop i H/\D.nx σ H)\/((Itl K a).go i H/\∃ N:St->Hp->Prop,(∀ σ' H',N σ' H'->∃ m',m'<m/\W (i+1) m' σ' H')/\∀ x H',(Itl K a).yld i H x H'->g x σ H' fun σ2 H2=>tb { D with nx:=N,ct:=N,bk:=D.nx } σ2 H2):=by
 refine⟨fun i m σ H=>m=xs.length-i/\i<=xs.length/\Pv i σ H,⟨xs.length,by simp,Nat.zero_le _,h0⟩,?_⟩;rintro i m σ H ⟨rfl,hi,p⟩;have q:=hl i σ H hi p;by_cases hlt:i<xs.length
 ·refine .inr ⟨⟨xs,xs[i],q,by simp[hlt]⟩,Pv (i+1),fun σ' H' p'=>⟨xs.length-(i+1),by omega,rfl,hlt,p'⟩,fun x H' y=>?_⟩;obtain⟨e,y⟩:=y;subst e;exact hs i x σ _ (y xs q) p
 ·have e:i=xs.length:=by omega
  subst e;exact .inl ⟨⟨xs,q,Nat.le_refl _⟩,hd σ H p⟩
theorem aqa {K:PySem.W.Frag}{a:Addr}{xs:List V}{g:TG}{tb:TS}{D:Ends}{σ:St}{H:Hp}(Pv:Nat->St->Hp->Prop) (h0:Pv 0 σ H) (hl:∀ i σ H,i<=xs.length->Pv i σ H->SqT K H a xs)
  (hs:∀ i x σ H,xs[i]?=some x->Pv i σ H->g x σ H fun σ2 H2=>tb { D with nx:=Pv (i+1),ct:=Pv (i+1),bk:=D.nx } σ2 H2) (hd:∀ σ H,Pv xs.length σ H->D.nx σ H) :
  ∃ W:Nat->Nat->St->Hp->Prop,(∃ m,W 0 m σ H)/\∀ i m σ H,W i m σ H ->
   ((Itt K a).stop i H/\D.nx σ H)\/((Itt K a).go i H/\∃ N:St->Hp->Prop,(∀ σ' H',N σ' H'->∃ m',m'<m/\W (i+1) m' σ' H')/\∀ x H',(Itt K a).yld i H x H'->g x σ H' fun σ2 H2=>tb { D with nx:=N,ct:=N,bk:=D.nx } σ2 H2):=by
 refine⟨fun i m σ H=>m=xs.length-i/\i<=xs.length/\Pv i σ H,⟨xs.length,by simp,Nat.zero_le _,h0⟩,?_⟩;rintro i m σ H ⟨rfl,hi,p⟩;have q:=hl i σ H hi p;by_cases hlt:i<xs.length
 ·refine .inr ⟨⟨xs,xs[i],q,by simp[hlt]⟩,Pv (i+1),fun σ' H' p'=>⟨xs.length-(i+1),by omega,rfl,hlt,p'⟩,fun x H' y=>?_⟩;obtain⟨e,y⟩:=y;subst e;exact hs i x σ _ (y xs q) p
 ·have e:i=xs.length:=by omega
  subst e;exact .inl ⟨⟨xs,q,Nat.le_refl _⟩,hd σ H p⟩
theorem agv {lo:Int}{n:Nat}{g:TG}{tb:TS}{D:Ends}{σ:St}{H:Hp}(Pv:Nat->St->Hp->Prop) (h0:Pv 0 σ H)
  (hs:∀ i σ H,i<n->Pv i σ H->g (.int (lo+i)) σ H fun σ2 H2=>tb { D with nx:=Pv (i+1),ct:=Pv (i+1),bk:=D.nx } σ2 H2) (hd:∀ σ H,Pv n σ H->D.nx σ H) :
  ∃ W:Nat->Nat->St->Hp->Prop,(∃ m,W 0 m σ H)/\∀ i m σ H,W i m σ H ->
   ((Itr lo n).stop i H/\D.nx σ H)\/((Itr lo n).go i H/\∃ N:St->Hp->Prop,(∀ σ' H',N σ' H'->∃ m',m'<m/\W (i+1) m' σ' H')/\∀ x H',(Itr lo n).yld i H x H'->g x σ H' fun σ2 H2=>tb { D with nx:=N,ct:=N,bk:=D.nx } σ2 H2):=by
 refine⟨fun i m σ H=>m=n-i/\i<=n/\Pv i σ H,⟨n,by simp,Nat.zero_le _,h0⟩,?_⟩;rintro i m σ H ⟨rfl,hi,p⟩;by_cases hlt:i<n
 ·refine .inr ⟨hlt,Pv (i+1),fun σ' H' p'=>⟨n-(i+1),by omega,rfl,hlt,p'⟩,fun x H' y=>?_⟩;obtain⟨e,y⟩:=y;subst e y;exact hs i σ _ hlt p
 ·have e:i=n:=by omega
  subst e;exact .inl ⟨Nat.le_refl _,hd σ H p⟩
abbrev R2:=V->V->Hp->VK->Prop
def OpR (X:Cx) (f:Value->Value->Sem Value) (r:R2):Prop :=
 ∀ (pins:List (Addr×Obj)) (s:Shared) (σ:St) (H:Hp) (x y:V) (v u:Value) (Q:VK),Inv X pins σ H s->RelV x v->RelV y u->r x y H Q ->
  wpAny (model X.prog X.w) X.A (f v u) (EP X pins σ Q) X.xe s
def UnR (X:Cx) (f:Value->Sem Value) (r:V->Hp->VK->Prop):Prop :=
 ∀ (pins:List (Addr×Obj)) (s:Shared) (σ:St) (H:Hp) (x:V) (v:Value) (Q:VK),Inv X pins σ H s->RelV x v->r x H Q ->
  wpAny (model X.prog X.w) X.A (f v) (EP X pins σ Q) X.xe s
def abr (X:Cx) (f:Value) (r:List V->Hp->VK->Prop):Prop :=
 ∀ (pins:List (Addr×Obj)) (s:Shared) (σ:St) (H:Hp) (xs:List V) (us:List Value) (Q:VK),Inv X pins σ H s->Vals xs us->r xs H Q ->
  wpAny (model X.prog X.w) X.A (call f us) (EP X pins σ Q) X.xe s
def TruR (X:Cx) (r:V->Hp->(Bool->Hp->Prop)->Prop):Prop :=
 ∀ (pins:List (Addr×Obj)) (s:Shared) (σ:St) (H:Hp) (x:V) (v:Value) (Q:Bool->Hp->Prop),Inv X pins σ H s->RelV x v->r x H Q ->
  wpAny (model X.prog X.w) X.A (truthy v) (TP X pins σ Q) X.xe s
def tOp (r:R2) (ta tb:TE):TE:=fun σ H Q=>ta σ H fun x H1=>tb σ H1 fun y H2=>r x y H2 Q
def tUn (r:V->Hp->VK->Prop) (ta:TE):TE:=fun σ H Q=>ta σ H fun x H1=>r x H1 Q
def rI (C:Int->Int->Prop) (g:Int->Int->V):R2:=fun x y H Q=>∃ i j,x = .int i/\y = .int j/\C i j/\Q (g i j) H
def rI0 (g:Int->Int->V):R2:=fun x y H Q=>∃ i j,x = .int i/\y = .int j/\Q (g i j) H
def rU (g:Int->V):V->Hp->VK->Prop:=fun x H Q=>∃ i,x = .int i/\Q (g i) H
section
variable {X:Cx}{a b c:Expr}{ta tb tc:TE}{pos:Pos}
theorem binT (ha:PE X a ta) (hb:PE X b tb){pins:List (Addr×Obj)}{s:Shared}{σ:St}{H:Hp}{R:V->V->Hp->Prop}(I:Inv X pins σ H s)
  (h:ta σ H fun x H1=>tb σ H1 fun y H2=>R x y H2){Q:Value->Shared->Prop}{f:Value->Value->Sem Value}
  (hf:∀ v u s2 x y H2,Inv X pins σ H2 s2->RelV x v->RelV y u->R x y H2->wpAny (model X.prog X.w) X.A (f v u) Q X.xe s2) :
  wpAny (model X.prog X.w) X.A (eval a X.env) (fun v s₁=>wpAny (model X.prog X.w) X.A (eval b X.env) (fun u s₂=>wpAny (model X.prog X.w) X.A (f v u) Q X.xe s₂) X.xe s₁) X.xe s:=by
 refine thn (ha pins s σ H _ I h) fun v s1 ⟨x,H1,I1,r1,q1⟩=>?_
 refine thn (hb pins s1 σ H1 _ I1 q1) fun u s2 ⟨y,H2,I2,r2,q2⟩=>?_
 exact hf v u s2 x y H2 I2 r1 r2 q2
theorem aa6 {op:Operator}{r:R2}(ho:OpR X (binaryOp op) r) (ha:PE X a ta) (hb:PE X b tb):PE X (.BinOp a op b pos) (tOp r ta tb):=by
 intro pins s σ H Q I h;exact wpAny_BinOp (binT ha hb I h fun v u s2 x y H2 I2 rx ry q=>ho pins s2 σ H2 x y v u Q I2 rx ry q)
theorem pe_un {op:UnaryOp}{r:V->Hp->VK->Prop}(ho:UnR X (unaryOp op) r) (ha:PE X a ta):PE X (.UnaryOp op a pos) (tUn r ta):=by
 intro pins s σ H Q I h;exact UnaryOp_ (thn (ha pins s σ H _ I h) fun v s1 ⟨x,H1,I1,r1,q1⟩=>ho pins s1 σ H1 x v Q I1 r1 q1)
theorem opI {f:Value->Value->Sem Value}{C:Int->Int->Prop}{g:Int->Int->Int}
  (rule:∀ (i j:Int) (t u:Tok) (s:Shared) (Q:Value->Shared->Prop) (E:Value->Shared->Prop),C i j->Q (.int (g i j) s.toks) { s with toks:=s.toks+1 }->wpAny (model X.prog X.w) X.A (f (.int i t) (.int j u)) Q E s) :
  OpR X f (rI C fun i j=>.int (g i j)):=by
 intro pins s σ H x y v u Q I rx ry h;obtain⟨i,j,rfl,rfl,hc,q⟩:=h;obtain⟨t,rfl⟩:=rx;obtain⟨t',rfl⟩:=ry;exact rule i j t t' s _ _ hc ⟨.int (g i j),H,I.tok _,⟨_,rfl⟩,q⟩
theorem opI0 {f:Value->Value->Sem Value}{g:Int->Int->Int}
  (rule:∀ (i j:Int) (t u:Tok) (s:Shared) (Q:Value->Shared->Prop) (E:Value->Shared->Prop),Q (.int (g i j) s.toks) { s with toks:=s.toks+1 }->wpAny (model X.prog X.w) X.A (f (.int i t) (.int j u)) Q E s) :
  OpR X f (rI0 fun i j=>.int (g i j)):=by
 intro pins s σ H x y v u Q I rx ry h;obtain⟨i,j,rfl,rfl,q⟩:=h;obtain⟨t,rfl⟩:=rx;obtain⟨t',rfl⟩:=ry;exact rule i j t t' s _ _ ⟨.int (g i j),H,I.tok _,⟨_,rfl⟩,q⟩
theorem opB0 {f:Value->Value->Sem Value}{g:Int->Int->Bool}
  (rule:∀ (i j:Int) (t u:Tok) (s:Shared) (Q:Value->Shared->Prop) (E:Value->Shared->Prop),Q (.bool (g i j)) s->wpAny (model X.prog X.w) X.A (f (.int i t) (.int j u)) Q E s) :
  OpR X f (rI0 fun i j=>.bl (g i j)):=by
 intro pins s σ H x y v u Q I rx ry h;obtain⟨i,j,rfl,rfl,q⟩:=h;obtain⟨t,rfl⟩:=rx;obtain⟨t',rfl⟩:=ry;exact rule i j t t' s _ _ ⟨.bl (g i j),H,I,rfl,q⟩
def CDiv (i j:Int):Prop:=0<j/\j<1073741824
def CMul (i j:Int):Prop:=(-(2 ^ 64)<i/\i<2 ^ 64)\/(-(2 ^ 64)<j/\j<2 ^ 64)
theorem CMul.ok {i j:Int}(h:CMul i j):IntMulOk i j:=by
 rcases h with⟨h1,h2⟩ | ⟨h1,h2⟩
 ·exact .of_left (intBits_le_64 h1 h2)
 ·exact .of_right (intBits_le_64 h1 h2)
theorem afk:OpR X (binaryOp .Add) (rI0 fun i j=>.int (i+j)):=opI0 fun _ _ _ _ _ _ _ q=>add_int q
theorem apb:OpR X (binaryOp .Sub) (rI0 fun i j=>.int (i-j)):=opI0 fun _ _ _ _ _ _ _ q=>sub_int q
theorem afa:OpR X (binaryOp .Mult) (rI CMul fun i j=>.int (i*j)):=opI fun _ _ _ _ _ _ _ hc q=>mul_int q hc.ok
theorem apo:OpR X (binaryOp .FloorDiv) (rI CDiv fun i j=>.int (i/j)):=opI fun i j _ _ _ _ _ hc q=>by
 have h1:(0:Int)<j:=hc.1;have h2:j<1073741824:=hc.2;exact floordiv_int (by omega) (by rw[Int.fdiv_eq_ediv_of_nonneg i (by omega)];exact q) (.inl (PyProof.noPylong_small (by omega)))
theorem acy:OpR X (binaryOp .Mod) (rI (fun _ j=>0<j) fun i j=>.int (i%j)):=opI fun i j _ _ _ _ _ hc q=>by
 have h1:(0:Int)<j:=hc;exact mod_int' (by omega) (by rw[Int.fmod_eq_emod_of_nonneg i (by omega)];exact q)
theorem unI {f:Value->Sem Value}{g:Int->Int}
  (rule:∀ (i:Int) (t:Tok) (s:Shared) (Q:Value->Shared->Prop) (E:Value->Shared->Prop),Q (.int (g i) s.toks) { s with toks:=s.toks+1 }->wpAny (model X.prog X.w) X.A (f (.int i t)) Q E s) :
  UnR X f (rU fun i=>.int (g i)):=by
 intro pins s σ H x v Q I rx h;obtain⟨i,rfl,q⟩:=h;obtain⟨t,rfl⟩:=rx;exact rule i t s _ _ ⟨.int (g i),H,I.tok _,⟨_,rfl⟩,q⟩
theorem un_neg:UnR X (unaryOp .USub) (rU fun i=>.int (-i)):=unI fun _ _ _ _ _ q=>neg_int q
end
def scal:V->V->Bool
 | .non,.non=>true | .non,.int _=>true | .int _,.non=>true | .non,.bl _=>true | .bl _,.non=>true | .non,.str _=>true | .str _,.non=>true
 | .int _,.int _=>true | .bl _,.bl _=>true | .str _,.str _=>true | .byt _,.byt _=>true
 | .int _,.str _=>true | .str _,.int _=>true | .bl _,.str _=>true | .str _,.bl _=>true
 | _,_=>false
def rEq:R2:=fun x y H Q=>scal x y=true/\Q (.bl (decide (x=y))) H
def rNe:R2:=fun x y H Q=>scal x y=true/\Q (.bl (!decide (x=y))) H
theorem apa {i j:Int}:decide (V.int i=V.int j)=(i == j):=by
 rw[Bool.eq_iff_iff];simp
theorem ava {i j:Bool}:decide (V.bl i=V.bl j)=(i == j):=by
 rw[Bool.eq_iff_iff];simp
theorem ar0 {i j:Str}:decide (V.str i=V.str j)=(i == j):=by
 rw[Bool.eq_iff_iff];simp
theorem apw {i j:Array UInt8}:decide (V.byt i=V.byt j)=(i.toList == j.toList):=by
 rw[Bool.eq_iff_iff];cases i;cases j;simp
section
variable {X:Cx}{a b c:Expr}{ta tb tc:TE}{pos:Pos}
theorem aa4 {pins:List (Addr×Obj)}{σ:St}{H:Hp}{s:Shared}{Q:VK}{k k':Bool}(I:Inv X pins σ H s) (q:Q (.bl k) H) (e:k=k'):EP X pins σ Q (.bool k') s:=by
 subst e;exact⟨.bl k,H,I,rfl,q⟩
theorem ap8:OpR X (compareOp .Eq) rEq:=by
 intro pins s σ H x y v u Q I rx ry h;obtain⟨hs,q⟩:=h;cases x with
 | non =>
  cases rx;cases y with
  | non=>cases ry;exact PySem.EqNone.eq_none_none (aa4 I q (by simp))
  | bl j=>cases ry;exact PySem.EqNone.eq_none_bool (aa4 I q (by simp))
  | int j=>obtain⟨t',rfl⟩:=ry;exact PySem.EqNone.eq_none_int (aa4 I q (by simp))
  | str j=>obtain⟨t',rfl⟩:=ry;exact PySem.EqNone.eq_none_str (aa4 I q (by simp))
  | _=>exact absurd (show false=true from hs) Bool.false_ne_true
 | bl i =>
  cases rx;cases y with
  | non=>cases ry;exact PySem.EqNone.eq_bool_none (aa4 I q (by simp))
  | bl j=>cases ry;exact eq_bool (aa4 I q ava)
  | str j=>obtain⟨t',rfl⟩:=ry;exact PySem.EqMixed.eq_bool_str (aa4 I q (by simp))
  | _=>exact absurd (show false=true from hs) Bool.false_ne_true
 | int i =>
  obtain⟨t,rfl⟩:=rx;cases y with
  | non=>cases ry;exact PySem.EqNone.eq_int_none (aa4 I q (by simp))
  | int j=>obtain⟨t',rfl⟩:=ry;exact eq_int (aa4 I q apa)
  | str j=>obtain⟨t',rfl⟩:=ry;exact PySem.EqMixed.eq_int_str (aa4 I q (by simp))
  | _=>exact absurd (show false=true from hs) Bool.false_ne_true
 | str i =>
  obtain⟨t,rfl⟩:=rx;cases y with
  | non=>cases ry;exact PySem.EqNone.eq_str_none (aa4 I q (by simp))
  | bl j=>cases ry;exact PySem.EqMixed.eq_str_bool (aa4 I q (by simp))
  | int j=>obtain⟨t',rfl⟩:=ry;exact PySem.EqMixed.eq_str_int (aa4 I q (by simp))
  | str j=>obtain⟨t',rfl⟩:=ry;exact eq_str (aa4 I q ar0)
  | _=>exact absurd (show false=true from hs) Bool.false_ne_true
 | byt i =>
  obtain⟨t,rfl⟩:=rx;cases y with
  | byt j=>obtain⟨t',rfl⟩:=ry;exact PySem.W.eq_bytes (aa4 I q apw)
  | _=>exact absurd (show false=true from hs) Bool.false_ne_true
 | _=>cases y<;>exact absurd (show false=true from hs) Bool.false_ne_true
theorem axr:OpR X (compareOp .NotEq) rNe:=by
 intro pins s σ H x y v u Q I rx ry h;obtain⟨hs,q⟩:=h;cases x with
 | non =>
  cases rx;cases y with
  | non=>cases ry;exact PySem.EqNone.ne_none_none (aa4 I q (by simp))
  | bl j=>cases ry;exact PySem.EqNone.ne_none_bool (aa4 I q (by simp))
  | int j=>obtain⟨t',rfl⟩:=ry;exact PySem.EqNone.ne_none_int (aa4 I q (by simp))
  | str j=>obtain⟨t',rfl⟩:=ry;exact PySem.EqNone.ne_none_str (aa4 I q (by simp))
  | _=>exact absurd (show false=true from hs) Bool.false_ne_true
 | bl i =>
  cases rx;cases y with
  | non=>cases ry;exact PySem.EqNone.ne_bool_none (aa4 I q (by simp))
  | bl j=>cases ry;exact ne_bool (aa4 I q (congrArg not ava))
  | str j=>obtain⟨t',rfl⟩:=ry;exact PySem.EqMixed.ne_bool_str (aa4 I q (by simp))
  | _=>exact absurd (show false=true from hs) Bool.false_ne_true
 | int i =>
  obtain⟨t,rfl⟩:=rx;cases y with
  | non=>cases ry;exact PySem.EqNone.ne_int_none (aa4 I q (by simp))
  | int j=>obtain⟨t',rfl⟩:=ry;exact ne_int (aa4 I q (congrArg not apa))
  | str j=>obtain⟨t',rfl⟩:=ry;exact PySem.EqMixed.ne_int_str (aa4 I q (by simp))
  | _=>exact absurd (show false=true from hs) Bool.false_ne_true
 | str i =>
  obtain⟨t,rfl⟩:=rx;cases y with
  | non=>cases ry;exact PySem.EqNone.ne_str_none (aa4 I q (by simp))
  | bl j=>cases ry;exact PySem.EqMixed.ne_str_bool (aa4 I q (by simp))
  | int j=>obtain⟨t',rfl⟩:=ry;exact PySem.EqMixed.ne_str_int (aa4 I q (by simp))
  | str j=>obtain⟨t',rfl⟩:=ry;exact ne_str (aa4 I q (congrArg not ar0))
  | _=>exact absurd (show false=true from hs) Bool.false_ne_true
 | byt i =>
  obtain⟨t,rfl⟩:=rx;cases y with
  | byt j=>obtain⟨t',rfl⟩:=ry;exact PySem.W.ne_bytes (aa4 I q (congrArg not apw))
  | _=>exact absurd (show false=true from hs) Bool.false_ne_true
 | _=>cases y<;>exact absurd (show false=true from hs) Bool.false_ne_true
theorem op_gt:OpR X (compareOp .Gt) (rI0 fun i j=>.bl (decide (j<i))):=opB0 fun _ _ _ _ _ _ _ q=>gt_int q
theorem op_ge:OpR X (compareOp .GtE) (rI0 fun i j=>.bl (decide (j<=i))):=opB0 fun _ _ _ _ _ _ _ q=>ge_int q
theorem arn:OpR X (compareOp .In) (fun x y H Q=>∃ i j,x = .str i/\y = .str j/\Q (.bl (!(Builtin.Str.occurrences j i 0 j.length 1).isEmpty)) H):=by
 intro pins s σ H x y v u Q I rx ry h;obtain⟨i,j,rfl,rfl,q⟩:=h;obtain⟨t,rfl⟩:=rx;obtain⟨t',rfl⟩:=ry;exact in_str (aa4 I q rfl)
theorem aln:OpR X (compareOp .NotIn) (fun x y H Q=>∃ i j,x = .str i/\y = .str j/\Q (.bl (!(!(Builtin.Str.occurrences j i 0 j.length 1).isEmpty))) H):=by
 intro pins s σ H x y v u Q I rx ry h;obtain⟨i,j,rfl,rfl,q⟩:=h;obtain⟨t,rfl⟩:=rx;obtain⟨t',rfl⟩:=ry;exact notIn_str (aa4 I q rfl)
theorem OpR.or {f:Value->Value->Sem Value}{r r':R2}(h:OpR X f r) (h':OpR X f r'):OpR X f (fun x y H Q=>r x y H Q\/r' x y H Q):=by
 intro pins s σ H x y v u Q I rx ry q;rcases q with q | q
 ·exact h pins s σ H x y v u Q I rx ry q
 ·exact h' pins s σ H x y v u Q I rx ry q
theorem ad4 (b:Expr){op:CmpOp}(h:op ≠ .In:=by decide) (h2:op ≠ .NotIn:=by decide):behindInMarks op b=false:=by
 have e1:(op == CmpOp.In)=false:=by cases op<;>first | rfl | exact absurd rfl h
 have e2:(op == CmpOp.NotIn)=false:=by cases op<;>first | rfl | exact absurd rfl h2
 cases b<;>simp[behindInMarks,e1,e2]
theorem awa {op:CmpOp}{r:R2}(ho:OpR X (compareOp op) r) (ha:PE X a ta) (hb:PE X b tb) (hm:behindInMarks op b=false):PE X (.Compare a [op] [b] pos) (tOp r ta tb):=by
 intro pins s σ H Q I h;exact wpAny_Compare1 (binT ha hb I h fun v u s2 x y H2 I2 rx ry q=>ho pins s2 σ H2 x y v u Q I2 rx ry q) hm
def tTest (t:TE):TT:=fun σ H Q=>t σ H fun x H'=>∃ k,x = .bl k/\Q k H'
theorem acj {op:CmpOp}{r:R2}(ho:OpR X (compareOp op) r) (ha:PE X a ta) (hb:PE X b tb) (hm:behindInMarks op b=false):PT X (.Compare a [op] [b] pos) (tTest (tOp r ta tb)):=by
 intro pins s σ H Q I h;refine wpAny_isTrue_Compare1 (thn (ha pins s σ H _ I h) fun v s1 ⟨x,H1,I1,r1,q1⟩=>thn (hb pins s1 σ H1 _ I1 q1) fun u s2 ⟨y,H2,I2,r2,q2⟩ =>thn (ho pins s2 σ H2 x y v u _ I2 r1 r2 q2) fun c s3 ⟨z,H3,I3,r3,k,e,q3⟩=>?_) hm;subst e;cases r3;exact wpAny_truthy_bool ⟨H3,I3,q3⟩
def TruV (K:PySem.W.Frag) (x:V) (H:Hp) (k:Bool):Prop :=
 match x with
 | .non=>k=false
 | .bl b=>k=b
 | .int i=>k=(i != 0)
 | .str y=>y.length<=sizeLine/\k=((y.length:Int) != 0)
 | .byt y=>y.size<=sizeLine/\k=((y.size:Int) != 0)
 | .ref p=>(∃ xs,SqL K H p xs/\k = !xs.isEmpty)\/(∃ xs,SqT K H p xs/\k = !xs.isEmpty)\/∃ kvs,H p=some (.dK kvs)/\k = !kvs.isEmpty
 | _=>False
theorem aol {κ:Type}{kvs:List (κ×V)}{vs:List (κ×Value)}(r:KV kvs vs):(!vs.isEmpty) = !kvs.isEmpty:=by
 cases r<;>rfl
theorem aib {xs:List V}{its:List Value}(r:Vals xs its):(!its.toArray.isEmpty) = !xs.isEmpty:=by
 cases r<;>simp
theorem agz:(sizeLine:Nat)<2 ^ 63:=by rw[sizeLine_eq];decide
theorem tru_ok:TruR X (fun x H Q=>∃ k,TruV X.K x H k/\Q k H):=by
 intro pins s σ H x v Q I rx h;obtain⟨k,e,q⟩:=h;have hl:=agz;have hs:sizeLine=16777216:=sizeLine_eq;cases x with
 | non =>
  cases rx;have e':k=false:=e;subst e';exact truthy_none ⟨H,I,q⟩
 | bl b =>
  cases rx;have e':k=b:=e;subst e';exact wpAny_truthy_bool ⟨H,I,q⟩
 | int i =>
  obtain⟨t,rfl⟩:=rx;have e':k=(i != 0):=e;subst e';exact PySem.P.truthy_int ⟨H,I,q⟩
 | str y =>
  obtain⟨t,rfl⟩:=rx;obtain⟨hy,e'⟩:y.length<=sizeLine/\k=((y.length:Int) != 0):=e;subst e';exact PySem.P.truthy_str (by omega) ⟨H,I.tok _,q⟩
 | byt y =>
  obtain⟨t,rfl⟩:=rx;obtain⟨hy,e'⟩:y.size<=sizeLine/\k=((y.size:Int) != 0):=e;subst e';exact PySem.W.truthy_bytes (by omega) ⟨H,I.tok _,q⟩
 | ref p =>
  cases rx;have e':(∃ xs,SqL X.K H p xs/\k = !xs.isEmpty)\/(∃ xs,SqT X.K H p xs/\k = !xs.isEmpty)\/∃ kvs,H p=some (.dK kvs)/\k = !kvs.isEmpty:=e;rcases e' with⟨xs,hx,e'⟩ | ⟨xs,hx,e'⟩ | ⟨kvs,hx,e'⟩
  ·subst e';obtain⟨its,r,pl,hz⟩:=I.list hx;have hlen:=r.length;exact wpAny_truthy_list pl.isList (by simp only[List.size_toArray];omega) ⟨H,I.tok _,by rw[aib r];exact q⟩
  ·subst e';obtain⟨its,r,pl,hz⟩:=I.tuple hx;have hlen:=r.length;exact truthy_tuple pl (by simp only[List.size_toArray];omega) ⟨H,I.tok _,by rw[aib r];exact q⟩
  ·subst e';obtain⟨hz,hS,vs,r,m⟩:kvs.length<=sizeLine/\(p == sysModules)=false/\∃ vs,KV kvs vs/\s.heap.DictOf (aa8 X.prog X.w) p vs:=I.hok p _ hx;have hlen:kvs.length=vs.length:=Paired.length r;exact wpAny_truthy_dict hS m (by omega) ⟨H,I.tok _,by rw[aol r];exact q⟩
 | _=>exact (show False from e).elim
theorem atc (ha:PE X a ta) (he:∀ whole,isTrue a X.env whole=(do let v ← whole;standAt a.pos;holding [v] (truthy v))) :
  PT X a (fun σ H Q=>ta σ H fun x H'=>∃ k,TruV X.K x H' k/\Q k H'):=by
 intro pins s σ H Q I h;exact isTrue_plain (thn (ha pins s σ H _ I h) fun v s1 ⟨x,H1,I1,r1,q1⟩=>tru_ok pins s1 σ H1 x v Q I1 r1 q1) (he _)
theorem ab4:OpR X (binaryOp .Add) (fun x y H Q=>∃ i j,x = .str i/\y = .str j/\i.length+j.length<=sizeLine/\Q (.str (i++j)) H):=by
 intro pins s σ H x y v u Q I rx ry h;obtain⟨i,j,rfl,rfl,hz,q⟩:=h;obtain⟨t,rfl⟩:=rx;obtain⟨t',rfl⟩:=ry;exact add_str (fun t' tk=>⟨.str (i++j),H,I.tok _,⟨_,rfl⟩,q⟩) hz
theorem ad8 {x:V}{us:List Value}(r:Vals [x] us):∃ u,us=[u]/\RelV x u:=by
 cases r with
 | cons r1 r2=>cases r2;exact⟨_,rfl,r1⟩
theorem al9 {x y:V}{us:List Value}(r:Vals [x,y] us):∃ u w',us=[u,w']/\RelV x u/\RelV y w':=by
 cases r with
 | cons r1 r2 =>
  cases r2 with
  | cons r3 r4=>cases r4;exact⟨_,_,rfl,r1,r3⟩
theorem ar1 (hc:X.calm=true):abr X (.builtin "max") (fun xs H Q=>∃ i j,xs=[.int i,.int j]/\Q (.int (if j>i then j else i)) H):=by
 intro pins s σ H xs us Q I r h;obtain⟨i,j,rfl,q⟩:=h;obtain⟨u,w',rfl,⟨t,rfl⟩,⟨t',rfl⟩⟩:=al9 r;refine max_two_ints (I.ok.hd hc) fun h' tk k=>⟨_,H,I.kept k,?_,q⟩
 by_cases hj:j>i
 ·rw[if_pos hj,if_pos hj];exact⟨_,rfl⟩
 ·rw[if_neg hj,if_neg hj];exact⟨_,rfl⟩
theorem ak0 (hc:X.calm=true):abr X (.builtin "min") (fun xs H Q=>∃ i j,xs=[.int i,.int j]/\Q (.int (if j<i then j else i)) H):=by
 intro pins s σ H xs us Q I r h;obtain⟨i,j,rfl,q⟩:=h;obtain⟨u,w',rfl,⟨t,rfl⟩,⟨t',rfl⟩⟩:=al9 r;refine min_two_ints (I.ok.hd hc) fun h' tk k=>⟨_,H,I.kept k,?_,q⟩
 by_cases hj:j<i
 ·rw[if_pos hj,if_pos hj];exact⟨_,rfl⟩
 ·rw[if_neg hj,if_neg hj];exact⟨_,rfl⟩
theorem aqw:abr X (.type "int") (fun xs H Q=>(∃ i,xs=[.int i]/\Q (.int i) H)\/∃ k,xs=[.bl k]/\Q (.int (if k then 1 else 0)) H):=by
 intro pins s σ H xs us Q I r h;rcases h with⟨i,rfl,q⟩ | ⟨k,rfl,q⟩
 ·obtain⟨u,rfl,t,rfl⟩:=ad8 r;exact call_int_int ⟨.int i,H,I,⟨_,rfl⟩,q⟩
 ·obtain⟨u,rfl,r1⟩:=ad8 r;cases r1;exact call_int_bool ⟨.int (if k then 1 else 0),H,I.tok _,⟨_,rfl⟩,q⟩
theorem akh:abr X (.type "str") (fun xs H Q=>∃ i,xs=[.int i]/\i.natAbs.log2<1920/\Q (.str (toString i)) H):=by
 intro pins s σ H xs us Q I r h;obtain⟨i,rfl,hz,q⟩:=h;obtain⟨u,rfl,t,rfl⟩:=ad8 r;exact PySem.P.str_of_int hz ⟨.str _,H,I.tok _,⟨_,rfl⟩,q⟩
end
theorem RelO.some_of {v:V}{o:Option Value}(r:RelO (some v) o):∃ u,o=some u/\RelV v u:=by
 cases o with
 | none=>exact (show False from r).elim
 | some u=>exact⟨u,rfl,r⟩
theorem RelO.none_of {o:Option Value}(r:RelO none o):o=none:=by
 cases o with
 | none=>rfl
 | some u=>exact (show False from r).elim
def InOp (X:Cx) (op:Operator) (rd:V->V->Hp->VK->Prop):Prop :=
 ∀ (pins:List (Addr×Obj)) (s:Shared) (σ:St) (H:Hp) (x y:V) (u v:Value) (Q:VK),Inv X pins σ H s->RelV x u->RelV y v->rd x y H Q->wpAny (model X.prog X.w) X.A (inplaceOp op u v) (EP X pins σ Q) X.xe s
section
variable {X:Cx}{o e value:Expr}{f:Str}{pos pos' tpos:Pos}{ta tv:TE}
def rAdd:V->V->Hp->VK->Prop:=fun x y H Q=>∃ i j,x = .int i/\y = .int j/\Q (.int (i+j)) H
theorem in_add:InOp X .Add rAdd:=by
 rintro pins s σ H x y u v Q I rx ry ⟨i,j,rfl,rfl,q⟩;obtain⟨t,rfl⟩:=(show ∃ t,u=Value.int i t from rx);obtain⟨t',rfl⟩:=(show ∃ t',v=Value.int j t' from ry);exact PyProof.Rows.iadd_int ⟨.int (i+j),H,I.tok _,⟨_,rfl⟩,q⟩
end
structure Room (k:Nat) (A:Around):Prop where
 hd:A.handled=none
 dp:A.depth+3*k+5<recursionLimit
 un:A.units+16*k+200<cLine
theorem Room.mono {j k:Nat}{A:Around}(r:Room k A) (h:j<=k):Room j A:=⟨r.hd,by have:=r.dp;omega,by have:=r.un;omega⟩
theorem Room.deeper {k:Nat}{A:Around}(r:Room (k+1) A) (env:Env):Room k (A.deeper env) :=
 ⟨r.hd,by have:=r.dp;show A.depth+1+3*k+5<_;omega,by have:=r.un;show A.units+3+16*k+200<_;omega⟩
theorem aoq {A:Around}{C:Addr}{us:List Value}{kw:List (Str×Value)}:(A.under (.builtin "type.__call__" ⟨.ref C::us,kw⟩)).depth=A.depth+1:=by
 first | rfl | simp[Around.under,Code.weight,Code.isCreation,Code.isGuard,Code.isCaller,Code.frames,Code.isFrame,guardIds]
theorem aoo {A:Around}{C:Addr}{us:List Value}{kw:List (Str×Value)}:(A.under (.builtin "type.__call__" ⟨.ref C::us,kw⟩)).units=A.units+1:=by
 first | rfl | simp[Around.under,Code.cUnits,Code.frames,Code.isFrame]
theorem Room.make {k:Nat}{A:Around}(r:Room (k+1) A) (C:Addr) (us:List Value) (kw:List (Str×Value)):Room k (A.under (.builtin "type.__call__" ⟨.ref C::us,kw⟩)) :=
 ⟨r.hd,by have:=r.dp;rw[aoq];omega,by have:=r.un;rw[aoo];omega⟩
theorem Room.depth {k:Nat}{A:Around}(r:Room k A):A.depth<recursionLimit:=by have:=r.dp;omega
theorem Room.units {k:Nat}{A:Around}(r:Room k A):A.units+64<cLine:=by have:=r.un;omega
def tNil:TA:=fun _ H Q=>Q [] H
def aqz (ta:TE) (tr:TA):TA:=fun σ H Q=>ta σ H fun x H1=>tr σ H1 fun xs H2=>Q (x::xs) H2
section
variable {X:Cx}{e:Expr}{es:List Expr}{te:TE}{t:TA}{pos:Pos}
theorem aak:PA X [] tNil:=fun _ _ _ _ H Q I h=>Calls.spliced_nil ⟨[],H,I,.nil,h⟩
theorem ad1 (ha:PE X e te) (hr:PA X es t) (hs:starEach (e::es) X.env=(false,eval e X.env)::starEach es X.env:=by rfl):PA X (e::es) (aqz te t):=by
 intro pos pins s σ H Q I h;rw[hs];show wpAny _ _ (spliced ((false,eval e X.env)::backTo pos (starEach es X.env))) _ _ s;refine Calls.spliced_cons (thn (ha pins s σ H _ I h) fun u s1 ⟨x,H1,I1,r1,q1⟩=>?_);exact thn (hr pos pins s1 σ H1 _ I1 q1) fun us s2 ⟨xs,H2,I2,r2,q2⟩=>⟨x::xs,H2,I2,.cons r1 r2,q2⟩
def tTup (t:TA):TE:=fun σ H Q=>t σ H fun xs H1=>xs.length<=sizeLine/\∀ p,H1 p=none->Q (.ref p) (upd H1 p (.tup xs))
def tLst (t:TA):TE:=fun σ H Q=>t σ H fun xs H1=>xs.length<=sizeLine/\∀ p,H1 p=none->Q (.ref p) (upd H1 p (.lst xs))
theorem aj1 {x1}(h:PA X es t):PE X (.Tuple es x1 pos) (tTup t):=by
 intro pins s σ H Q I hq;refine wpAny_Tuple_spliced (thn (h pos pins s σ H _ I hq) fun us s1 ⟨xs,H1,I1,r,z,q⟩=>⟨by rw[← r.length];exact z,?_⟩);have hf:H1 s1.heap.objs.size=none:=I1.hok.fresh (Nat.le_refl _);refine⟨.ref s1.heap.objs.size,upd H1 s1.heap.objs.size (.tup xs),I1.laid (t':=s1.toks) (fun b u e=>Heap.get?_push_of_some _ e) (Nat.le_refl _) ?_,rfl,q _ hf⟩;exact⟨z,us,r,⟨_,Heap.get?_push_size _ rfl,rfl,_,rfl⟩,_,Heap.get?_push_size _ rfl,rfl⟩
theorem ab1 (h:PA X es t):PE X (.List es pos) (tLst t):=by
 intro pins s σ H Q I hq;refine wpAny_List_spliced (thn (h pos pins s σ H _ I hq) fun us s1 ⟨xs,H1,I1,r,z,q⟩=>⟨by rw[← r.length];exact z,?_⟩);have hf:H1 s1.heap.objs.size=none:=I1.hok.fresh (Nat.le_refl _);refine⟨.ref s1.heap.objs.size,upd H1 s1.heap.objs.size (.lst xs),I1.laid (t':=s1.toks) (fun b u e=>Heap.get?_push_of_some _ e) (Nat.le_refl _) ?_,rfl,q _ hf⟩;exact⟨z,us,0,r,Heap.get?_push_size _ rfl⟩
end
abbrev Sp:=List V->Hp->VK->XK->Prop
abbrev CXT:=List Env->Hp->Shared->XK->Value->Shared->Prop
structure Env0 (P:Program) (w:World) (K:PySem.W.Frag) (mg:Str->Option Value) (base:Heap) (A:Around) (outer:List Env) (s:Shared) (H:Hp):Prop where
 frames:A.frames=some outer
 mod:Mod K mg base
 bs:∀ b o,base.get? b=some o->s.heap.get? b=some o/\H b=none
 bsz:base.objs.size<=s.heap.objs.size
 funs:s.heap.FunFrames base outer
 frf:∀ b∈frs outer,H b=none
 hok:HOk P w H s.heap
 bare:AllBare s.gens
def CE (outer:List Env) (P:Program) (w:World) (H:Hp) (s:Shared) (Q:VK) (u:Value) (s':Shared):Prop :=
 ∃ v H',s'.os=s.os/\AllBare s'.gens/\Un (frs outer) [] H H' s.heap s'.heap/\HOk P w H' s'.heap/\RelV v u/\Q v H'
def CR (CX:CXT) (outer:List Env) (P:Program) (w:World) (H:Hp) (s:Shared) (Q:VK) (E:XK) (r:Result) (s':Shared):Prop :=
 match r with
 | .ok (.ret u)=>CE outer P w H s Q u s'
 | .ok _=>False
 | .error e=>CX outer H s E e s'
structure FnOk (P:Program) (w:World) (K:PySem.W.Frag) (mg:Str->Option Value) (base:Heap) (CX:CXT) (k:Nat) (f:Addr) (fd:FuncData) (ps:List Str) (sp:Sp):Prop where
 len:∀ vs H Q E,sp vs H Q E->vs.length=ps.length
 run:∀ (A:Around) (outer:List Env) (s:Shared) (H:Hp) (args:Args) (us:List Value) (vs:List V) (Q:VK) (E:XK),Room k A->Env0 P w K mg base A outer s H->BindsTo s fd args (ps.zip us)->Vals vs us->sp vs H Q E ->
  codeAny (model P w) A (.call (.ref f) args) (CR CX outer P w H s Q E) s
theorem FnOk.imp {P:Program}{w:World}{K:PySem.W.Frag}{mg:Str->Option Value}{base:Heap}{CX:CXT}{k:Nat}{f:Addr}{fd:FuncData}{ps:List Str}{sp sp':Sp}(F:FnOk P w K mg base CX k f fd ps sp)
  (h:∀ vs H Q E,sp' vs H Q E->sp vs H Q E):FnOk P w K mg base CX k f fd ps sp' :=
 ⟨fun vs H Q E q=>F.len vs H Q E (h _ _ _ _ q),fun A outer s H args us vs Q E hr he hb hv hs=>F.run A outer s H args us vs Q E hr he hb hv (h _ _ _ _ hs)⟩
theorem Env0.make {P:Program}{w:World}{K:PySem.W.Frag}{mg:Str->Option Value}{base:Heap}{A:Around}{outer:List Env}{s:Shared}{H:Hp}(e:Env0 P w K mg base A outer s H) (C:Addr) (us:List Value) (kw:List (Str×Value)) :
  Env0 P w K mg base (A.under (.builtin "type.__call__" ⟨.ref C::us,kw⟩)) outer s H:=⟨by first | exact e.frames | (simpa [Around.under,Code.envs,Code.isFrame,pushEnvs] using e.frames),e.mod,e.bs,e.bsz,e.funs,e.frf,e.hok,e.bare⟩
section
variable {X:Cx}{pins:List (Addr×Obj)}{σ:St}{H:Hp}{s s':Shared}
theorem Inv.env0 (I:Inv X pins σ H s):Env0 X.prog X.w X.K X.mg X.base X.A X.stack s H :=
 ⟨I.ok.frames,I.ok.mod,I.bs,Nat.le_trans I.ok.bsz I.sz,I.stack,I.stkFree,I.hok,I.bare⟩
theorem Inv.after {Q:VK}{u:Value}(I:Inv X pins σ H s) (h:CE X.stack X.prog X.w H s Q u s'):EP X pins σ Q u s':=by
 obtain⟨v,H',os,bare,un,hok,r,q⟩:=h;obtain⟨hh,g,d,t,os'⟩:=s';obtain rfl:os'=s.os:=os;exact⟨v,H',I.call (h':=hh) (g':=g) (d':=d) (t':=t) (ch:=[]) un hok bare (fun b z=>absurd z (by simp)),r,q⟩
end
def tCall (sp:Sp) (dvs:List V) (E:XK) (t:TA):TE:=fun σ H Q=>t σ H fun vs H1=>sp (vs++dvs) H1 Q E
def ahl (K:PySem.W.Frag) (fd:FuncData) (ps:List Str) (ds:List Value):Prop :=
 ∀ (s:Shared) (us:List Value),K.In s.heap->(us++ds).length=ps.length->BindsTo s fd ⟨us,[]⟩ (ps.zip (us++ds))
theorem ahl.all {K:PySem.W.Frag}{fd:FuncData}{ps:List Str}(h:∀ us:List Value,us.length=ps.length->bindArgs fd ⟨us,[]⟩=pure (ps.zip us)):ahl K fd ps []:=fun s us _ hl=>by
 rw[List.append_nil] at hl ⊢;exact .of_eq (h us hl)
def akq (CX:CXT) (X:Cx) (E:XK):Prop:=∀ (pins:List (Addr×Obj)) (σ:St) (H:Hp) (s:Shared) (e:Value) (s':Shared),Inv X pins σ H s->CX X.stack H s E e s'->X.xe e s'
section
variable {X:Cx}{CX:CXT}{k:Nat}{f C:Addr}{fd:FuncData}{ps:List Str}{sp:Sp}{dvs:List V}{ds:List Value}{E:XK}{x m:Str}{p pos apos:Pos}{e o:Expr}{es:List Expr}{ta:TE}{t:TA}
theorem auy {pins:List (Addr×Obj)}{σ:St}{H:Hp}{s:Shared}{Q:VK}{us:List Value}{vs:List V}(F:FnOk X.prog X.w X.K X.mg X.base CX k f fd ps sp) (hr:Room k X.A) (hb:ahl X.K fd ps ds) (hd:Vals dvs ds) (hx:akq CX X E)
  (I:Inv X pins σ H s) (r:Vals vs us) (h:sp (vs++dvs) H Q E):wpAny (model X.prog X.w) X.A (call (.ref f) us) (EP X pins σ Q) X.xe s:=by
 have r2:Vals (vs++dvs) (us++ds):=r.append hd;have hl:(us++ds).length=ps.length:=by rw[← r2.length];exact F.len _ _ _ _ h
 refine wpAny_call (codeAny_mono (F.run X.A X.stack s H ⟨us,[]⟩ (us++ds) (vs++dvs) Q E hr I.env0 (hb s us I.kIn hl) r2 h) fun r s' hq=>?_);cases r with
 | error e=>exact hx pins σ H s e s' I hq
 | ok fl =>
  cases fl with
  | ret u=>exact I.after hq
  | next=>exact False.elim hq
  | brk=>exact False.elim hq
  | cont=>exact False.elim hq
theorem aba (F:FnOk X.prog X.w X.K X.mg X.base CX k f fd ps sp) (hr:Room k X.A) (hg:Gl X x) (hm:X.mg x=some (.ref f)) (hk:PySem.W.keepIn X.K (.ref f)=true) (hb:ahl X.K fd ps ds) (hd:Vals dvs ds) (hx:akq CX X E)
  (ha:PA X (e::es) t) (hdb:(x == ("__debug__" : Str))=false:=by decide) (he:starEach (e::es) X.env=(false,eval e X.env)::starEach es X.env:=by rfl) (hpl:(backTo pos (starEach es X.env)).any (·.1)=false:=by rfl) :
  PE X (.Call (.Name x p) (e::es) [] pos) (tCall sp dvs E t):=by
 intro pins s σ H Q I h;refine wpAny_Call_Name_kw (ae4 I hg hm ?_ hdb);refine PySem.W.callWith_K (h₀:=X.base) I.ok.mod.kin hk (thn (ha pos pins s σ H _ I h) fun us s1 ⟨vs,H1,I1,r,q⟩=>⟨I1.kIn,?_⟩) he hpl;exact auy F hr hb hd hx I1 r q
theorem ant (F:FnOk X.prog X.w X.K X.mg X.base CX k f fd ps sp) (hr:Room k X.A) (hg:Gl X x) (hm:X.mg x=some (.ref f)) (hk:PySem.W.keepIn X.K (.ref f)=true) (hb:ahl X.K fd ps ds) (hd:Vals dvs ds) (hx:akq CX X E)
  (hdb:(x == ("__debug__" : Str))=false:=by decide):PE X (.Call (.Name x p) [] [] pos) (tCall sp dvs E tNil):=by
 intro pins s σ H Q I h;refine wpAny_Call_Name_kw (ae4 I hg hm ?_ hdb);exact PySem.W.callWith_K0 I.kIn hk (auy (us:=[]) F hr hb hd hx I .nil h)
end
structure FnScope (N P:List Str) (sc:Scope):Prop where
 kind:sc.kind = .function
 co:sc.isCoroutine=false
 gen:sc.isGenerator=false
 nd:N.Nodup
 pre:N.take P.length=P
 par:∀ x∈P,sc.names.lookup x=some .local\/sc.names.lookup x=some .cell
 nofree:∀ y∈sc.names,y.2 ≠ .free
theorem akc {kindOf:Str->Option NameKind}{x:Str}:∀ {binds:List (Str×Value)}{m:Str->Option Value},(∀ v,(x,v)∉binds)->bindL kindOf binds m x=m x
 | [],_,_=>rfl
 | (n,v)::r,m,h=>by
  unfold bindL;rw[akc fun w hw=>h w (List.mem_cons_of_mem _ hw)];split
  ·have:x≠n:=by rintro rfl;exact h v List.mem_cons_self
   simp[this]
  ·rfl
theorem alj {kindOf:Str->Option NameKind}{x:Str}:∀ {binds:List (Str×Value)}{m:Str->Option Value},(∀ v,(x,v)∉binds)->bindC kindOf binds m x=m x
 | [],_,_=>rfl
 | (n,v)::r,m,h=>by
  unfold bindC;rw[alj fun w hw=>h w (List.mem_cons_of_mem _ hw)];split
  ·rfl
  ·have:x≠n:=by rintro rfl;exact h v List.mem_cons_self
   simp[this]
theorem akx {kindOf:Str->Option NameKind}{x:Str}{v:Value}:∀ {P:List Str}{vs:List Value}{i:Nat}{m:Str->Option Value},P.Nodup->P[i]?=some x->vs[i]?=some v->kindOf x=some .local ->
  bindL kindOf (P.zip vs) m x=some v
 | [],_,_,_,_,h,_,_=>by simp at h
 | _::_,[],_,_,_,_,h,_=>by simp at h
 | p::P,w::vs,0,m,nd,h1,h2,hk=>by
  simp at h1 h2;subst h1;subst h2;show bindL kindOf ((p,w)::P.zip vs) m p=_;unfold bindL;rw[akc fun v hv=>(List.nodup_cons.mp nd).1 (List.of_mem_zip hv).1,if_pos hk];simp
 | p::P,w::vs,i+1,m,nd,h1,h2,hk=>by
  show bindL kindOf ((p,w)::P.zip vs) m x=_;unfold bindL;exact akx (i:=i) (List.nodup_cons.mp nd).2 (by simpa using h1) (by simpa using h2) hk
theorem akt {kindOf:Str->Option NameKind}{x:Str}{v:Value}:∀ {P:List Str}{vs:List Value}{i:Nat}{m:Str->Option Value},P.Nodup->P[i]?=some x->vs[i]?=some v->kindOf x≠some .local ->
  bindC kindOf (P.zip vs) m x=some v
 | [],_,_,_,_,h,_,_=>by simp at h
 | _::_,[],_,_,_,_,h,_=>by simp at h
 | p::P,w::vs,0,m,nd,h1,h2,hk=>by
  simp at h1 h2;subst h1;subst h2;show bindC kindOf ((p,w)::P.zip vs) m p=_;unfold bindC;rw[alj fun v hv=>(List.nodup_cons.mp nd).1 (List.of_mem_zip hv).1,if_neg hk];simp
 | p::P,w::vs,i+1,m,nd,h1,h2,hk=>by
  show bindC kindOf ((p,w)::P.zip vs) m x=_;unfold bindC;exact akt (i:=i) (List.nodup_cons.mp nd).2 (by simpa using h1) (by simpa using h2) hk
def afs (N:List Str) (vs:List V):St:=vs.map some++List.replicate (N.length-vs.length) none
def cxOf (CX:CXT) (P:Program) (w:World) (K:PySem.W.Frag) (mg:Str->Option Value) (base:Heap) (N:List Str) (qual:Str) (scope:Scope) (f:Addr) (cd:Value) (A:Around) (outer:List Env) (s:Shared) (H:Hp) (E:XK):Cx where
 prog:=P
 w:=w
 K:=K
 mg:=mg
 base:=base
 A:=A.deeper (envOfC qual scope s.heap.objs.size f cd)
 N:=N
 s₀:=s
 H₀:=H
 env:=envOfC qual scope s.heap.objs.size f cd
 outer:=outer
 stack:=envOfC qual scope s.heap.objs.size f cd::outer
 ex:=[]
 calm:=true
 fn:=fun _=>true
 pn:=[]
 xe:=fun e s'=>wpAny (model P w) (A.deeper (envOfC qual scope s.heap.objs.size f cd)) (leaving (envOfC qual scope s.heap.objs.size f cd) e) (fun _ s''=>CX outer H s E e s'') (fun e' s''=>CX outer H s E e' s'') s'
theorem anb {sc:Scope}{n:Nat}{x:Str}(h:sc.names.lookup x=some .cell):∃ c,(cellsFrom n sc.names []).lookup x=some c:=by
 have q:=PySem.W.cellsFrom_some sc.names n [] (.inl h);exact Option.isSome_iff_exists.mp q
theorem arh {CX:CXT}{P:Program}{w:World}{K:PySem.W.Frag}{mg:Str->Option Value}{base:Heap}{N ps:List Str}{qual:Str}{scope:Scope}{f:Addr}{cd:Value}{A:Around}{outer:List Env}{s s1:Shared}{H:Hp}{E:XK}{us:List Value}{vs:List V}
  (S:FnScope N ps scope) (hd:A.handled=none) (e0:Env0 P w K mg base A outer s H) (hl:vs.length=ps.length) (r:Vals vs us)
  (x:InCallC s s.heap.objs.size (bindL (envOfC qual scope s.heap.objs.size f cd).kindOf (ps.zip us) fun _=>none) (cellsFrom (s.heap.objs.size+1) scope.names []) (bindC (envOfC qual scope s.heap.objs.size f cd).kindOf (ps.zip us) fun _=>none) s1) :
  Inv (cxOf CX P w K mg base N qual scope f cd A outer s H E) [] (afs N vs) H s1:=by
 have hpl:ps.length<=N.length:=by have:=congrArg List.length S.pre;rw[List.length_take] at this;omega
 obtain⟨h1,tk,rfl,hk⟩:=x.done;have noA:∀ b:Addr,b∉(cxOf CX P w K mg base N qual scope f cd A outer s H E).ex:=fun b z=>absurd (show b∈([]:List Addr) from z) (by simp)
 refine⟨⟨e0.mod,S.kind,rfl,rfl,Nat.le_refl _,fun y z c h1 h2=>?_,fun y hy=>?_,fun y c _ h=>?_,fun _=>hd,Around.frames_deeper e0.frames,.inr ⟨rfl,rfl⟩,fun b z=>absurd z (noA b),e0.bs,e0.bsz,fun b _ _=>noA b,fun b z=>absurd z (noA b),e0.funs,e0.frf⟩,
  rfl,e0.bare,Un.kept hk,⟨_,x.toInCall.ns,fun i y v h1 h2 h3=>?_⟩,fun y c h=>⟨_,x.cell y c h⟩,e0.hok.fresh (Nat.le_refl _),fun y c h=>?_,fun p hp=>absurd (show p∈([]:List (Addr×Obj)) from hp) (by simp),e0.hok.kept hk,?_⟩
 ·exact name_of_addr x.apart (PySem.mem_of_lookup h1) (PySem.mem_of_lookup h2)
 ·have hy:scope.names.lookup y=some .cell\/scope.names.lookup y=some .free:=hy;rcases hy with hy | hy
  ·exact anb hy
  ·exact absurd rfl (S.nofree _ (PySem.mem_of_lookup hy))
 ·exact Nat.le_of_lt (x.above y c (PySem.mem_of_lookup h))
 ·have hi:i<vs.length:=by
   unfold afs at h2;by_cases hi:i<vs.length
   ·exact hi
   ·rw[List.getElem?_append_right (by simpa using hi)] at h2;rw[List.getElem?_replicate] at h2;split at h2<;>cases h2
  have ha:vs[i]?=some v:=by
   unfold afs at h2;rw[List.getElem?_append_left (by simpa using hi),List.getElem?_map] at h2;cases e:vs[i]? with
   | none=>rw[e] at h2;cases h2
   | some a=>rw[e] at h2;cases h2;rfl
  obtain⟨u,hu,rv⟩:=r.get ha;have hp:ps[i]?=some y:=by
   rw[← S.pre,List.getElem?_take_of_lt (by omega)];exact h1
  have ndP:ps.Nodup:=by rw[← S.pre];exact S.nd.sublist (List.take_sublist _ _)
  refine⟨u,rv,?_⟩;rcases S.par y (List.mem_of_getElem? hp) with k | k
  ·exact .inl ⟨k,akx ndP hp hu k⟩
  ·obtain⟨c,e⟩:=anb (n:=s.heap.objs.size+1) k;refine .inr ⟨.inl k,c,e,?_⟩;have q:=x.cell y c e;rw[akt ndP hp hu (by show scope.names.lookup y≠_;rw[k];decide)] at q;exact q
 ·exact e0.hok.fresh (Nat.le_of_lt (x.above y c (PySem.mem_of_lookup h)))
 ·unfold afs;show _=N.length;rw[List.length_append,List.length_map,List.length_replicate];omega
theorem fn_of {CX:CXT}{P:Program}{w:World}{K:PySem.W.Frag}{mg:Str->Option Value}{base:Heap}{k:Nat}{f:Addr}{name qual:Str}{params:Arguments}{body:List Stmt}{scope:Scope}{dV kV doc pm cdv ct oc:Value}{an od:Option Addr}
  {osl:Array (Option Value)}{N ps:List Str}{sp:Sp}(lk:K.lookup f=some ⟨oc,od,.func (PySem.W.fnOf name qual params body scope dV kV doc pm an cdv ct),osl⟩) (hcd:PySem.W.codeIn K cdv qual=true) (S:FnScope N ps scope)
  (len:∀ vs H Q E,sp vs H Q E->vs.length=ps.length)
  (hbody:∀ (A:Around) (outer:List Env) (s:Shared) (H:Hp) (vs:List V) (Q:VK) (E:XK),Room k (A.deeper (envOfC qual scope s.heap.objs.size f cdv))->sp vs H Q E ->∃ t,PSs (cxOf CX P w K mg base N qual scope f cdv A outer s H E) body t/\t { nx:=fun _ H'=>Q .non H',rt:=Q } (afs N vs) H) :
  FnOk P w K mg base CX (k+1) f (PySem.W.fnOf name qual params body scope dV kV doc pm an cdv ct) ps sp:=by
 refine⟨len,fun A outer s H args us vs Q E hr e0 hb r hsp=>?_⟩;have hl:=len _ _ _ _ hsp;have KX:K.In s.heap:=e0.mod.kin.keeps fun b o e=>(e0.bs b o e).1
 have lim:s.heap.NoLimit:=e0.mod.nolimit.keeps fun b o e=>(e0.bs b o e).1
 have hkind:∀ y∈ps.zip us,scope.names.lookup y.1=some .local\/(scope.names.lookup y.1=some .cell/\((cellsFrom (s.heap.objs.size+1) scope.names []).lookup y.1).isSome=true):=fun ⟨n,v⟩ hy=>by
  rcases S.par n (List.of_mem_zip hy).1 with q | q
  ·exact .inl q
  ·exact .inr ⟨q,PySem.W.cellsFrom_some _ _ _ (.inl q)⟩
 refine codeAny_call_function hr.depth (KX _ _ lk) rfl S.co S.gen rfl (PySem.W.codeRec_of KX hcd) (hb _ _ _ _ ?_);refine wpAny_newFunctionEnv_cells S.kind hkind fun env he s1 x=>?_
 subst he;refine⟨lim.keeps x.toInCall.keep,codeAny_func ?_⟩;obtain⟨t,ht,hq⟩:=hbody A outer s H vs Q E (hr.deeper _) hsp;have I:Inv (cxOf CX P w K mg base N qual scope f cdv A outer s H E) [] (afs N vs) H s1:=arh S hr.hd e0 hl r x;refine wpAny_mono (ht [] s1 (afs N vs) H _ I hq) (fun fl s' hs=>?_) fun e s' hs=>hs
 have fin:∀ {σ':St} {H':Hp} {v:V} {u:Value},Inv (cxOf CX P w K mg base N qual scope f cdv A outer s H E) [] σ' H' s'->RelV v u->Q v H'->CE outer P w H s Q u s' :=
  fun {σ' H' v u} J rv q=>⟨v,H',J.os,J.bare,J.base,J.hok,rv,q⟩
 cases fl with
 | ret u =>
  obtain⟨v,σ',H',J,rv,q⟩:=hs;exact fin J rv q
 | next =>
  obtain⟨σ',H',J,q⟩:=hs;exact fin (v:=V.non) (u:=Value.none) J rfl q
 | brk =>
  obtain⟨_,_,_,q⟩:=hs;exact False.elim q
 | cont =>
  obtain⟨_,_,_,q⟩:=hs;exact False.elim q
section
variable {X:Cx}{x:Str}{p pos:Pos}{e:Expr}{es:List Expr}{t:TA}{id T:String}{r:List V->Hp->VK->Prop}
def tCB (r:List V->Hp->VK->Prop) (t:TA):TE:=fun σ H Q=>t σ H fun vs H1=>r vs H1 Q
theorem abq (hc:abr X (.builtin id) r) (hg:Gl X x) (hm:X.mg x=none) (hv:bootBuiltins x=some (.builtin id)) (ha:PA X (e::es) t) (hn:x ≠ "__name__" := by decide) (hdb:(x == ("__debug__" : Str))=false:=by decide)
  (he:starEach (e::es) X.env=(false,eval e X.env)::starEach es X.env:=by rfl) (hpl:(backTo pos (starEach es X.env)).any (·.1)=false:=by rfl):PE X (.Call (.Name x p) (e::es) [] pos) (tCB r t):=by
 intro pins s σ H Q I h;refine wpAny_Call_Name_kw (afo I hg hm hv ?_ hn hdb);exact PyProof.Rows.callWith_builtin1 (thn (ha pos pins s σ H _ I h) fun us s1 ⟨vs,H1,I1,r1,q1⟩=>hc pins s1 σ H1 vs us Q I1 r1 q1) he hpl
theorem ahm (hc:abr X (.type T) r) (hg:Gl X x) (hm:X.mg x=none) (hv:bootBuiltins x=some (.type T)) (ha:PA X (e::es) t) (hn:x ≠ "__name__" := by decide) (hdb:(x == ("__debug__" : Str))=false:=by decide)
  (he:starEach (e::es) X.env=(false,eval e X.env)::starEach es X.env:=by rfl) (hpl:(backTo pos (starEach es X.env)).any (·.1)=false:=by rfl):PE X (.Call (.Name x p) (e::es) [] pos) (tCB r t):=by
 intro pins s σ H Q I h;refine wpAny_Call_Name_kw (afo I hg hm hv ?_ hn hdb);exact PyProof.Rows.callWith_type1 (thn (ha pos pins s σ H _ I h) fun us s1 ⟨vs,H1,I1,r1,q1⟩=>hc pins s1 σ H1 vs us Q I1 r1 q1) he hpl
end
end L2
namespace HT
open PySem PyProof.Rows
section
variable {prog:Program}{w:World}{A:Around}{E:Value->Shared->Prop}{s:Shared}
theorem cat_tup {t b:Addr}{vs ws:List Value}{Q:Value->Shared->Prop}(ht:IsTup s.heap t vs.toArray) (hb:IsTup s.heap b ws.toArray) (hv:vs≠[])
  (h1:ws=[]->Q (.ref t) s) (h2:ws≠[]->Q (.ref s.heap.objs.size) { s with heap:=s.heap.push { cls:=.type "tuple",data:=.seq (vs++ws).toArray } })
  (hsz:vs.length+ws.length<=sizeLine):wpAny (model prog w) A (binaryOp .Add (.ref t) (.ref b)) Q E s:=by
 obtain⟨⟨cls,dd,data,sl⟩,ho,hc,n,hd⟩:=id ht;obtain⟨⟨cls2,dd2,data2,sl2⟩,ho2,hc2,n2,hd2⟩:=id hb;simp only at hc hd hc2 hd2;subst hc hd hc2 hd2;have e:vs.toArray++ws.toArray=(vs++ws).toArray:=by simp
 by_cases hw:ws=[]
 ·exact concat_meets ⟨_,ho,rfl⟩ ⟨_,ho2,rfl⟩ noFill_tuple_add seq_tuple_add PySem.F.slot_tuple_add PySem.F.entry_tuple_add (PySem.F.args_tuple_add_2 _ _)
   (tuple_addW1 t b vs.toArray ws.toArray n n2 dd dd2 sl sl2 (by simpa using hv) (by simp[hw])) ⟨ho,ho2,h1 hw⟩
 ·refine concat_meets ⟨_,ho,rfl⟩ ⟨_,ho2,rfl⟩ noFill_tuple_add seq_tuple_add PySem.F.slot_tuple_add PySem.F.entry_tuple_add (PySem.F.args_tuple_add_2 _ _)
   (tuple_addW2 t b vs.toArray ws.toArray n n2 dd dd2 sl sl2 (by simpa using hv) (by simpa using hw) (by rw[List.size_toArray,List.size_toArray];exact hsz)) ⟨ho,ho2,?_⟩
  rw[e];exact h2 hw
def sIx (n d:Nat):Option Int->Nat
 | none=>d
 | some v=>if v<0 then (v+(n:Int)).toNat else min v.toNat n
theorem sIx_none (n d:Nat):sIx n d none=d:=rfl
theorem sIx_nat (n d k:Nat):sIx n d (some (k:Int))=min k n:=by
 show (if (k:Int)<0 then ((k:Int)+(n:Int)).toNat else min (k:Int).toNat n)=min k n;rw[if_neg (by omega),Int.toNat_natCast]
theorem sIx_le (n d:Nat) (hd:d<=n) (o:Option Int):sIx n d o<=n:=by
 cases o with
 | none=>exact hd
 | some v =>
  show (if v<0 then (v+(n:Int)).toNat else min v.toNat n)<=n;by_cases hv:v<0
  ·rw[if_pos hv];omega
  ·rw[if_neg hv];exact Nat.min_le_right _ _
theorem ap7 (v:Int) (n d:Nat):(if v<0 then max (v+(n:Int)) 0 else min v (n:Int))=((sIx n d (some v):Nat):Int):=by
 show (if v<0 then max (v+(n:Int)) 0 else min v (n:Int))=(((if v<0 then (v+(n:Int)).toNat else min v.toNat n):Nat):Int);by_cases hv:v<0
 ·simp only[if_pos hv];omega
 ·simp only[if_neg hv];omega
theorem aot (lo hi:Option Int) (n:Nat):Builtin.Slice.sliceAdjust lo hi 1 (n:Int)=(((sIx n 0 lo:Nat):Int),((sIx n n hi:Nat):Int)):=by
 have h1:¬ ((1:Int)<0):=by omega
 unfold Builtin.Slice.sliceAdjust;simp only[h1,if_false];refine Prod.ext ?_ ?_
 ·cases lo with
  | none=>rfl
  | some v=>exact ap7 v n 0
 ·cases hi with
  | none=>rfl
  | some v=>exact ap7 v n n
theorem aoy (i j:Nat):Builtin.Slice.slicePlaces (i:Int) (j:Int) 1=j-i:=by
 unfold Builtin.Slice.slicePlaces;have h1:(1:Int)>0:=by omega
 simp only[h1,if_true,Int.ediv_one];split<;>omega
theorem ah0 {v:Value}{o:Option Int}{Q:Option Int->Shared->Prop}(p:IsPart v o) (h:Q o s):wpAny (model prog w) A (Builtin.Slice.slicePartIndex v) Q E s:=by
 cases p with
 | none=>exact slicePart_none h
 | int i t=>exact slicePart_int h
theorem age {sl:Addr}{vl vu:Value}{lo hi:Option Int}{n:Nat}{Q:Int×Int×Nat->Shared->Prop}(hs:s.heap.IsSliceOf sl vl vu .none) (pl:IsPart vl lo) (pu:IsPart vu hi)
  (h:Q (((sIx n 0 lo:Nat):Int),1,sIx n n hi-sIx n 0 lo) s):wpAny (model prog w) A (Builtin.Slice.sliceApplied (.ref sl) (pure (n:Int))) Q E s:=by
 obtain⟨os,hos,hcs,hds⟩:=id hs;unfold Builtin.Slice.sliceApplied Builtin.Slice.sliceFields;refine wpAny_bind (wpAny_bind (wpAny_field hos hds (x:=vl) rfl (wpAny_bind (wpAny_field hos hds (x:=vu) rfl (wpAny_bind (wpAny_field hos hds (x:=.none) rfl (wpAny_pure ?_)))))));refine wpAny_bind (slicePart_none ?_);show wpAny _ _ (if ((1:Int) == 0)=true then _ else _) _ _ s;rw[if_neg (by decide)];refine wpAny_bind (ah0 pl (wpAny_bind (ah0 pu (wpAny_bind (wpAny_pure ?_)))));show wpAny _ _ (match Builtin.Slice.sliceAdjust lo hi 1 (n:Int) with | (lo,hi)=>pure (lo,(1:Int),Builtin.Slice.slicePlaces lo hi 1)) _ _ s;rw[aot lo hi n];show wpAny _ _ (pure (((sIx n 0 lo:Nat):Int),(1:Int),Builtin.Slice.slicePlaces ((sIx n 0 lo:Nat):Int) ((sIx n n hi:Nat):Int) 1)) _ _ s;rw[aoy];exact wpAny_pure h
theorem asu (xs:Array Value) (i k:Nat):((List.range k).filterMap fun (m:Nat)=>xs[((i:Int)+(m:Int)*1).toNat]?).toArray=((xs.toList.drop i).take k).toArray:=by
 have e:(fun (m:Nat)=>xs[((i:Int)+(m:Int)*1).toNat]?)=fun m=>xs[i+m]?:=by
  funext m
  have:((i:Int)+(m:Int)*1).toNat=i+m:=by omega
  rw[this]
 rw[e];have:=pick_run xs i k;rw[List.filterMap_map] at this;have e2:((fun x=>xs[x]?)∘fun x=>i+x)=fun m=>xs[i+m]?:=rfl
 rw[e2] at this;rw[this]
theorem getItem_tuple_cut {t sl:Addr}{items:Array Value}{vl vu:Value}{lo hi:Option Int}{Q:Value->Shared->Prop}(ht:IsTup s.heap t items) (hs:s.heap.IsSliceOf sl vl vu .none) (pl:IsPart vl lo) (pu:IsPart vu hi)
  (hw:¬ (sIx items.size 0 lo=0/\sIx items.size items.size hi=items.size))
  (h:Q (.ref s.heap.objs.size) { s with heap:=s.heap.push { cls:=.type "tuple",data:=.seq ((items.toList.drop (sIx items.size 0 lo)).take (sIx items.size items.size hi-sIx items.size 0 lo)).toArray } })
  (hsz:items.size<=sizeLine):wpAny (model prog w) A (getItem (.ref t) (.ref sl)) Q E s:=by
 have htake:sizeOk (.seq ((items.toList.drop (sIx items.size 0 lo)).take (sIx items.size items.size hi-sIx items.size 0 lo)).toArray):=by
  show ((items.toList.drop (sIx items.size 0 lo)).take (sIx items.size items.size hi-sIx items.size 0 lo)).toArray.size<=sizeLine;rw[List.size_toArray,List.length_take,List.length_drop,Array.length_toList];omega
 have hj:sIx items.size items.size hi<=items.size:=sIx_le _ _ (Nat.le_refl _) hi;obtain⟨os,hos,hcs,hds⟩:=id hs;have hTs:s.TypeIs (.ref sl) "slice" := ⟨os,hos,hcs⟩;unfold getItem
 try with_reducible refine wpAny_holding ?_
 first | refine wpAny_bind (wpAny_pure ?_) | skip
 refine wpAny_bind (wpAny_sequenceKey ht.typeIs (by decide) ?_);refine wpAny_bind (wpAny_callSpecial?_slot (name:=Str.ofString "__getitem__") ht.typeIs PyProof.Rows.slot_tuple_getitem (wpAny_call_entry PyProof.Rows.slot_tuple_getitem ht.typeIs entry_tuple_getitem ?_ (args_tuple_getitem _ _)));show wpAny _ _ (Builtin.Tuple.tupleItemsOf (.ref t) >>= _) _ _ s;refine wpAny_bind (tupleItemsOf_ ht ?_);refine wpAny_bind (wpAny_typeOf hTs ?_);rw[if_pos (by decide)];refine wpAny_bind (age hs pl pu ?_);have hno:¬ ((((sIx items.size 0 lo:Nat):Int) == 0&&(1:Int) == 1&&(sIx items.size items.size hi-sIx items.size 0 lo) == items.size)=true):=by
  intro q;rw[Bool.and_eq_true,Bool.and_eq_true] at q;have q1:((sIx items.size 0 lo:Nat):Int)=0:=eq_of_beq q.1.1;have q2:sIx items.size items.size hi-sIx items.size 0 lo=items.size:=eq_of_beq q.2;exact hw ⟨by omega,by omega⟩
 show wpAny _ _ (if (((sIx items.size 0 lo:Nat):Int) == 0&&(1:Int) == 1&&(sIx items.size items.size hi-sIx items.size 0 lo) == items.size)=true then _ else _) _ _ s;rw[if_neg hno,asu]
 first
  | exact wpAny_bind (m:=Builtin.Tuple.tupleExact _) (wpAny_newObj_type (wpAny_pure ⟨_,rfl,wpAny_pure h⟩) htake)
  | exact wpAny_bind (m:=Builtin.Tuple.tupleExact _) (wpAny_newObj_type (wpAny_bind (wpAny_pure (wpAny_pure ⟨_,rfl,wpAny_pure h⟩))) htake)
  | exact wpAny_bind (wpAny_bind (m:=Builtin.Tuple.tupleExact _) (wpAny_newObj_type (wpAny_pure (wpAny_pure ⟨_,rfl,wpAny_pure h⟩)) htake))
  | exact wpAny_bind (wpAny_bind (m:=Builtin.Tuple.tupleExact _) (wpAny_newObj_type (wpAny_pure ⟨_,rfl,wpAny_pure h⟩) htake))
end
end HT
namespace L2
open PySem PySem.Spec PyProof.Rows
abbrev TO:=St->Hp->(Option Int->Hp->Prop)->Prop
def PO (X:Cx) (e:Option Expr) (t:TO):Prop :=
 ∀ (pins:List (Addr×Obj)) (s:Shared) (σ:St) (H:Hp) (Q:Option Int->Hp->Prop),Inv X pins σ H s->t σ H Q ->
  wpAny (model X.prog X.w) X.A (evalPart e X.env) (fun u s'=>∃ o H',Inv X pins σ H' s'/\IsPart u o/\Q o H') X.xe s
def aq5:TO:=fun _ H Q=>Q none H
def tPart (t:TE):TO:=fun σ H Q=>t σ H fun x H1=>∃ i,x = .int i/\Q (some i) H1
section
variable {X:Cx}{e:Expr}{te:TE}{lo hi:Option Expr}{tl th:TO}{pos p2:Pos}
theorem ahg:PO X none aq5:=by
 intro pins s σ H Q I h;rw[evalPart_none];exact wpAny_pure ⟨none,H,I,.none,h⟩
theorem ahf (h:PE X e te):PO X (some e) (tPart te):=by
 intro pins s σ H Q I hw;rw[evalPart_some];refine thn (h pins s σ H _ I hw) fun u s1 ⟨x,H1,I1,r1,q1⟩=>?_
 obtain⟨i,rfl,q⟩:=q1;obtain⟨t,rfl⟩:=r1;exact⟨some i,H1,I1,.int i t,q⟩
def SlR (X:Cx) (r:V->Option Int->Option Int->Hp->VK->Prop):Prop :=
 ∀ (pins:List (Addr×Obj)) (s:Shared) (σ:St) (H:Hp) (x:V) (v vl vu:Value) (lo hi:Option Int) (sl:Addr) (Q:VK),Inv X pins σ H s->RelV x v->s.heap.IsSliceOf sl vl vu .none->IsPart vl lo->IsPart vu hi->r x lo hi H Q ->
  ∃ T id,typeLookup (.type T) "__getitem__" = pure (some (.builtin id))/\s.TypeIs v T/\wpAny (model X.prog X.w) X.A (getItem v (.ref sl)) (EP X pins σ Q) X.xe s
theorem SlR.or {r r':V->Option Int->Option Int->Hp->VK->Prop}(h:SlR X r) (h':SlR X r'):SlR X (fun x lo hi H Q=>r x lo hi H Q\/r' x lo hi H Q):=by
 intro pins s σ H x v vl vu lo hi sl Q I rx hs pl pu q;rcases q with q | q
 ·exact h pins s σ H x v vl vu lo hi sl Q I rx hs pl pu q
 ·exact h' pins s σ H x v vl vu lo hi sl Q I rx hs pl pu q
def tSl (r:V->Option Int->Option Int->Hp->VK->Prop) (te:TE) (tl th:TO):TE:=fun σ H Q=>te σ H fun x H1=>tl σ H1 fun l H2=>th σ H2 fun u H3=>r x l u H3 Q
theorem afd {r:V->Option Int->Option Int->Hp->VK->Prop}(hr:SlR X r) (he:PE X e te) (hl:PO X lo tl) (hu:PO X hi th):PE X (.Subscript e (.Slice lo hi none p2) pos) (tSl r te tl th):=by
 intro pins s σ H Q I h;refine Subscript_ (thn (he pins s σ H _ I h) fun v s1 ⟨x,H1,I1,r1,q1⟩=>?_);refine wpAny_Slice (thn (hl pins s1 σ H1 _ I1 q1) fun vl s2 ⟨l,H2,I2,pl,q2⟩=>thn (hu pins s2 σ H2 _ I2 q2) fun vu s3 ⟨u,H3,I3,pu,q3⟩=>?_);rw[evalPart_none];refine wpAny_pure ?_;have I4:Inv X pins σ H3 { s3 with heap:=s3.heap.push { cls:=.type "slice",data:=.fields #[vl,vu,.none] } }:=I3.kept (t':=s3.toks) fun b ob q=>Heap.get?_push_of_some _ q
 obtain⟨T,id,hT,ht,hg⟩:=hr pins { s3 with heap:=s3.heap.push { cls:=.type "slice",data:=.fields #[vl,vu,.none] } } σ H3 x v vl vu l u s3.heap.objs.size Q I4 r1 (Heap.IsSliceOf.new ..) pl pu q3;show wpAny (model X.prog X.w) X.A (subscriptTail e (.Slice lo hi none p2) v (.ref s3.heap.objs.size)) (EP X pins σ Q) X.xe { s3 with heap:=s3.heap.push { cls:=.type "slice",data:=.fields #[vl,vu,.none] } };exact tail_any (ops:=[.ref s3.heap.objs.size,v]) ht hT hg (by with_unfolding_all rfl)
def cutV (xs:List V) (lo hi:Option Int):List V:=(xs.drop (HT.sIx xs.length 0 lo)).take (HT.sIx xs.length xs.length hi-HT.sIx xs.length 0 lo)
theorem ag3 (xs:List V) (lo hi:Option Int):(cutV xs lo hi).length<=xs.length:=by
 unfold cutV;rw[List.length_take,List.length_drop];omega
def rSlT (K:PySem.W.Frag):V->Option Int->Option Int->Hp->VK->Prop:=fun x lo hi H Q=>∃ a xs,x = .ref a/\SqT K H a xs /\
 ¬ (HT.sIx xs.length 0 lo=0/\HT.sIx xs.length xs.length hi=xs.length)/\∀ p,H p=none->Q (.ref p) (upd H p (.tup (cutV xs lo hi)))
theorem sl_tup:SlR X (rSlT X.K):=by
 intro pins s σ H x v vl vu lo hi sl Q I rx hs pl pu h;obtain⟨a,xs,rfl,hx,hw,q⟩:=h;cases rx;obtain⟨its,r,ht,hz⟩:=I.tuple hx;have hlen:its.toArray.size=xs.length:=by rw[List.size_toArray];exact r.length.symm
 refine⟨"tuple",_,PyProof.Rows.slot_tuple_getitem.lookup,ht.typeIs,?_⟩;refine HT.getItem_tuple_cut ht hs pl pu (by rw[hlen];exact hw) ?_ (by rw[hlen];exact hz);rw[hlen];refine⟨.ref s.heap.objs.size,_,I.laid (t':=s.toks) (o:=.tup (cutV xs lo hi)) (fun b ob q=>Heap.get?_push_of_some _ q) (Nat.le_refl _) ?_,rfl,q _ (I.hok.fresh (Nat.le_refl _))⟩;exact⟨Nat.le_trans (ag3 xs lo hi) hz,_,(r.drop (HT.sIx xs.length 0 lo)).take (HT.sIx xs.length xs.length hi-HT.sIx xs.length 0 lo),ah9.new _ _⟩
def rCatT (K:PySem.W.Frag):R2:=fun x y H Q=>∃ a b xs ys,x = .ref a/\y = .ref b/\SqT K H a xs/\SqT K H b ys/\xs≠[]/\xs.length+ys.length<=sizeLine /\
 (ys=[]->Q (.ref a) H)/\(ys≠[]->∀ p,H p=none->Q (.ref p) (upd H p (.tup (xs++ys))))
theorem Vals.nil_iff {xs:List V}{us:List Value}(r:Vals xs us):us=[]↔xs=[]:=by
 cases r with
 | nil=>simp
 | cons _ _=>simp
theorem avu:OpR X (binaryOp .Add) (rCatT X.K):=by
 intro pins s σ H x y v u Q I rx ry h;obtain⟨a,b,xs,ys,rfl,rfl,ha,hb,hx,hz,q1,q2⟩:=h;cases rx;cases ry;obtain⟨its,r1,p1,_⟩:=I.tuple ha;obtain⟨its2,r2,p2,_⟩:=I.tuple hb;refine HT.cat_tup p1 p2 (fun z=>hx (r1.nil_iff.mp z)) (fun z=>⟨.ref a,H,I,rfl,q1 (r2.nil_iff.mp z)⟩) (fun z=>?_) (by rw[← r1.length,← r2.length];exact hz);refine⟨.ref s.heap.objs.size,_,I.laid (t':=s.toks) (o:=.tup (xs++ys)) (fun b ob q=>Heap.get?_push_of_some _ q) (Nat.le_refl _) ?_,rfl,q2 (fun w=>z (r2.nil_iff.mpr w)) _ (I.hok.fresh (Nat.le_refl _))⟩;exact⟨by rw[List.length_append];exact hz,_,r1.append r2,ah9.new _ _⟩
end
def ixN (n:Nat) (i:Int):Option Nat:=if 0<=i then (if i<n then some i.toNat else none) else if -(n:Int)<=i then some (i+n).toNat else none
def atI {α:Type}(xs:List α) (i:Int):Option α:=(ixN xs.length i).bind fun j=>xs[j]?
theorem apl {n:Nat}{i:Int}{j:Nat}(h:ixN n i=some j):seqIndex? i n=some j/\j<n/\-(n:Int)<=i/\i<n:=by
 unfold ixN at h;by_cases h0:0<=i
 ·rw[if_pos h0] at h;by_cases h1:i<n
  ·rw[if_pos h1] at h;have e:i.toNat=j:=Option.some.inj h;exact⟨by rw[seqIndex_of h0 h1,e],by omega,by omega,h1⟩
  ·rw[if_neg h1] at h;cases h
 ·rw[if_neg h0] at h;by_cases h1:-(n:Int)<=i
  ·rw[if_pos h1] at h;have e:(i+n).toNat=j:=Option.some.inj h;exact⟨by rw[seqIndex_neg (by omega) h1,e],by omega,h1,by omega⟩
  ·rw[if_neg h1] at h;cases h
theorem amv {α:Type}{xs:List α}{i:Int}{v:α}(h:atI xs i=some v):∃ j,seqIndex? i xs.length=some j/\xs[j]?=some v/\j<xs.length/\-(xs.length:Int)<=i/\i<xs.length:=by
 unfold atI at h;cases e:ixN xs.length i with
 | none=>rw[e] at h;cases h
 | some j =>
  rw[e] at h;obtain⟨h1,h2,h3,h4⟩:=apl e;exact⟨j,h1,h,h2,h3,h4⟩
theorem aa9 {α:Type}{xs:List α}{j:Nat}{v:α}(h:xs[j]?=some v):atI xs (j:Int)=some v:=by
 have hj:j<xs.length:=(List.getElem?_eq_some_iff.mp h).1;have e:ixN xs.length (j:Int)=some j:=by
  unfold ixN;rw[if_pos (by omega),if_pos (by omega)];simp
 unfold atI;rw[e];exact h
def ame (b:Expr):Prop:=∀ o i,subscripted b false o i=operate [o,i] (getItem o i)
def IxR (X:Cx) (r:R2):Prop :=
 ∀ (value slice:Expr) (pins:List (Addr×Obj)) (s:Shared) (σ:St) (H:Hp) (x y:V) (v u:Value) (Q:VK),Inv X pins σ H s->RelV x v->RelV y u->r x y H Q ->
  subscripted slice false v u=operate [v,u] (getItem v u)->wpAny (model X.prog X.w) X.A (subscriptTail value slice v u) (EP X pins σ Q) X.xe s
def MtR (X:Cx) (id:String) (r:V->List V->Hp->VK->Prop):Prop :=
 ∀ (pins:List (Addr×Obj)) (s:Shared) (σ:St) (H:Hp) (x:V) (xs:List V) (v:Value) (us:List Value) (Q:VK),Inv X pins σ H s->RelV x v->Vals xs us->r x xs H Q ->
  wpAny (model X.prog X.w) X.A (call (.builtin id) (v::us)) (EP X pins σ Q) X.xe s
section
variable {X:Cx}{a b:Expr}{ta tb:TE}{pos:Pos}
theorem IxR.or {r r':R2}(h:IxR X r) (h':IxR X r'):IxR X (fun x y H Q=>r x y H Q\/r' x y H Q):=by
 intro value slice pins s σ H x y v u Q I rx ry q hs;rcases q with q | q
 ·exact h value slice pins s σ H x y v u Q I rx ry q hs
 ·exact h' value slice pins s σ H x y v u Q I rx ry q hs
theorem acq {r:R2}(hr:IxR X r) (ha:PE X a ta) (hb:PE X b tb) (hs:ame b):PE X (.Subscript a b pos) (tOp r ta tb):=by
 intro pins s σ H Q I h;exact Subscript_ (binT ha hb I h fun v u s2 x y H2 I2 rx ry q=>hr a b pins s2 σ H2 x y v u Q I2 rx ry q (hs _ _))
def rIxL (K:PySem.W.Frag):R2:=fun x y H Q=>∃ p xs i v,x = .ref p/\y = .int i/\SqL K H p xs/\atI xs i=some v/\Q v H
def rIxT (K:PySem.W.Frag):R2:=fun x y H Q=>∃ p xs i v,x = .ref p/\y = .int i/\SqT K H p xs/\atI xs i=some v/\Q v H
def rIxS:R2:=fun x y H Q=>∃ z i c,x = .str z/\y = .int i/\z.length<=sizeLine/\atI z.cps.toList i=some c/\Q (.str ⟨#[c]⟩) H
theorem abi:IxR X (rIxL X.K):=by
 intro value slice pins s σ H x y v u Q I rx ry h hs;obtain⟨p,xs,i,z,rfl,rfl,hq,he,q⟩:=h;cases rx;obtain⟨t,rfl⟩:=ry;obtain⟨its,r,pl,hz⟩:=I.list hq;obtain⟨j,h1,h2,h3,h4,h5⟩:=amv he;obtain⟨w,ew,rw'⟩:=r.get h2;have hl:=r.length;have hn:=agz;have fin:EP X pins σ Q w s:=⟨z,H,I,rw',q⟩;by_cases h0:0<=i
 ·have hj:i.toNat=j:=by
   rw[seqIndex_of h0 h5] at h1;exact Option.some.inj h1
  exact item_listR pl.isList h0 (by omega) (by rw[hj];simpa using ew) fin hs
 ·have hj:(i+(its.toArray.size:Int)).toNat=j:=by
   rw[seqIndex_neg (by omega) h4] at h1;rw[List.size_toArray,← hl];exact Option.some.inj h1
  exact subscriptTail_builtinR (x:=w) pl.isList.typeIs slot_list_getitem.lookup
   (wpAny_getItem_list_neg (Q:=fun r s'=>r=w/\EP X pins σ Q r s') pl.isList (by omega) (by rw[List.size_toArray]<;>omega) (by omega) (by rw[hj];simpa using ew) ⟨rfl,fin⟩) hs
theorem auv:IxR X (rIxT X.K):=by
 intro value slice pins s σ H x y v u Q I rx ry h hs;obtain⟨p,xs,i,z,rfl,rfl,hq,he,q⟩:=h;cases rx;obtain⟨t,rfl⟩:=ry;obtain⟨its,r,pl,hz⟩:=I.tuple hq;obtain⟨j,h1,h2,h3,h4,h5⟩:=amv he;obtain⟨w,ew,rw'⟩:=r.get h2;have hl:=r.length;have hn:=agz;have fin:EP X pins σ Q w s:=⟨z,H,I,rw',q⟩;exact subscriptTail_builtinR (x:=w) pl.typeIs slot_tuple_getitem.lookup
  (getItem_tuple (j:=j) (Q:=fun r s'=>r=w/\EP X pins σ Q r s') pl (by omega) (by omega) (by rw[List.size_toArray,← hl];exact h1) (by simpa using ew) ⟨rfl,fin⟩) hs
theorem anu:IxR X rIxS:=by
 intro value slice pins s σ H x y v u Q I rx ry h hs;obtain⟨z,i,c,rfl,rfl,hz,he,q⟩:=h;obtain⟨t,rfl⟩:=rx;obtain⟨t',rfl⟩:=ry;obtain⟨j,h1,h2,h3,h4,h5⟩:=amv he;have hl:z.cps.toList.length=z.length:=by simp[Str.length]
 rw[hl] at h1 h4 h5;have hn:=agz;exact tail_any (typeIs_str s z t) slot_str_getitem.lookup (getItem_str (c:=c) (by
  have e1:decide (i < -(2 ^ 63:Int))=false:=decide_eq_false (by omega);have e2:decide (i>=2 ^ 63)=false:=decide_eq_false (by omega);rw[e1,e2,Bool.or_false]) (by rw[h1];simpa using h2) ⟨.str ⟨#[c]⟩,H,I.tok _,⟨_,rfl⟩,q⟩) hs
def rIx (K:PySem.W.Frag):R2:=fun x y H Q=>rIxL K x y H Q\/rIxT K x y H Q\/rIxS x y H Q
theorem ix_seq:IxR X (rIx X.K):=abi.or (auv.or anu)
theorem aou (its:List Value) (n j:Nat) (u:Value):Obj.mapSeq (·.setIfInBounds j u) { cls:=.type "list",data:=.seq its.toArray n }={ cls:=.type "list",data:=.seq (its.set j u).toArray n }:=by
 simp[Obj.mapSeq]
theorem Inv.lst {pins:List (Addr×Obj)}{σ:St}{H:Hp}{s:Shared}{p:Addr}{xs:List V}(I:Inv X pins σ H s) (h:H p=some (.lst xs)) :
  ∃ (its:List Value) (n:Nat),Vals xs its/\s.heap.get? p=some { cls:=.type "list",data:=.seq its.toArray n }/\xs.length<=sizeLine:=by
 obtain⟨z,its,n,r,e⟩:=I.hok p _ h;exact⟨its,n,r,e,z⟩
theorem Inv.lstUpd {pins:List (Addr×Obj)}{σ:St}{H:Hp}{s:Shared}{p:Addr}{xs ys:List V}{its its':List Value}{n n':Nat}{f:Obj->Obj}(I:Inv X pins σ H s) (h:H p=some (.lst xs))
  (ho:s.heap.get? p=some { cls:=.type "list",data:=.seq its.toArray n }) (hf:f { cls:=.type "list",data:=.seq its.toArray n }={ cls:=.type "list",data:=.seq its'.toArray n' }) (r:Vals ys its') (hz:ys.length<=sizeLine) (t:Nat) :
  Inv X pins σ (upd H p (.lst ys)) { s with heap:=s.heap.update p f,toks:=t }:=by
 have e:(s.heap.update p f).get? p=some { cls:=.type "list",data:=.seq its'.toArray n' }:=by
  rw[Heap.get?_update_self f ho (by rw[hf]<;>rfl),hf]
 refine I.write (x:=p) (e:=p) (by rw[h];trivial) (.inl rfl) (fun b u hb q=>(Heap.get?_update_other _ _ (Ne.symm hb)).trans q) ⟨_,e⟩ ?_;exact⟨hz,its',n',r,e⟩
def rSetL:V->V->V->Hp->(Hp->Prop)->Prop:=fun o i v H Q=>∃ p xs k j,o = .ref p/\i = .int k/\H p=some (.lst xs)/\ixN xs.length k=some j/\Q (upd H p (.lst (xs.set j v)))
theorem agn:PSet X rSetL:=by
 intro pins s σ H o i v ov iv u Q I ro ri rv h;obtain⟨p,xs,k,j,rfl,rfl,hp,hj,q⟩:=h;cases ro;obtain⟨t,rfl⟩:=ri;obtain⟨its,n,r,ho,hz⟩:=I.lst hp;obtain⟨h1,h2,h3,h4⟩:=apl hj;have hl:=r.length;have hn:=agz;have I':Inv X pins σ (upd H p (.lst (xs.set j v))) { s with heap:=s.heap.update p (Obj.mapSeq (·.setIfInBounds j u)) } :=
  I.lstUpd hp ho (aou its n j u) (r.set rv j) (by rw[List.length_set];exact hz) s.toks
 by_cases h0:0<=k
 ·have hk:k.toNat=j:=by
   rw[seqIndex_of h0 h4] at h1;exact Option.some.inj h1
  exact PySem.W.ki_setAt ho h0 (by omega) (by rw[List.size_toArray,← hl];exact h4) (by rw[hk];exact⟨_,I',q⟩)
 ·have hk:(k+(its.toArray.size:Int)).toNat=j:=by
   rw[seqIndex_neg (by omega) h3] at h1;rw[List.size_toArray,← hl];exact Option.some.inj h1
  exact PySem.W.ki_setBack ho (by omega) (by rw[List.size_toArray,← hl];exact h3) (by omega) (by rw[hk];exact⟨_,I',q⟩)
theorem akb (lo hi:Option Int) (n:Nat):(sliceBounds lo hi none n).1=((HT.sIx n 0 lo:Nat):Int)/\(sliceBounds lo hi none n).2.1=((HT.sIx n n hi:Nat):Int)/\(sliceBounds lo hi none n).2.2=1:=by
 refine⟨?_,?_,rfl⟩
 ·cases lo with
  | none=>simp[sliceBounds,HT.sIx]
  | some i =>
   simp only[sliceBounds,HT.sIx,Option.getD_none,show (1:Int)>0 by decide,if_true];by_cases h:i<0
   ·simp only[h,if_true]<;>omega
   ·simp only[h,if_false]<;>omega
 ·cases hi with
  | none=>simp[sliceBounds,HT.sIx]
  | some i =>
   simp only[sliceBounds,HT.sIx,Option.getD_none,show (1:Int)>0 by decide,if_true];by_cases h:i<0
   ·simp only[h,if_true]<;>omega
   ·simp only[h,if_false]<;>omega
theorem ajp (its:List Value) (lo hi:Option Int):slicePick its.toArray lo hi none=((its.drop (HT.sIx its.length 0 lo)).take (HT.sIx its.length its.length hi-HT.sIx its.length 0 lo)).toArray:=by
 obtain⟨h1,h2,h3⟩:=akb lo hi its.toArray.size;unfold slicePick;rw[h1,h2,h3];simp only[sliceRange_one,pick_run,List.size_toArray]<;>rfl
def rSlL (K:PySem.W.Frag):V->Option Int->Option Int->Hp->VK->Prop:=fun x lo hi H Q=>∃ a xs,x = .ref a/\SqL K H a xs/\∀ p,H p=none->Q (.ref p) (upd H p (.lst (cutV xs lo hi)))
theorem al0:SlR X (rSlL X.K):=by
 intro pins s σ H x v vl vu lo hi sl Q I rx hs pl pu h;obtain⟨a,xs,rfl,hx,q⟩:=h;cases rx;obtain⟨its,r,ht,hz⟩:=I.list hx;have hlen:=r.length;refine⟨"list",_,slot_list_getitem.lookup,ht.isList.typeIs,?_⟩;refine wpAny_getItem_list_slice ht.isList hs pl pu .none (by simp) ?_ (by rw[List.size_toArray]<;>omega);rw[ajp,← hlen];refine⟨.ref s.heap.objs.size,_,I.laid (t':=s.toks) (o:=.lst (cutV xs lo hi)) (fun b ob q=>Heap.get?_push_of_some _ q) (Nat.le_refl _) ?_,rfl,q _ (I.hok.fresh (Nat.le_refl _))⟩;exact⟨Nat.le_trans (ag3 xs lo hi) hz,_,0,(r.drop (HT.sIx xs.length 0 lo)).take (HT.sIx xs.length xs.length hi-HT.sIx xs.length 0 lo),Heap.get?_push_size _ rfl⟩
def adj:V->Bool
 | .non=>true
 | .bl _=>true
 | .int _=>true
 | .str _=>true
 | _=>false
def eqV:V->V->Bool
 | .non,.non=>true
 | .bl a,.bl b=>a == b
 | .bl a,.int b=>(if a then 1 else 0) == b
 | .int a,.bl b=>a == (if b then 1 else 0)
 | .int a,.int b=>a == b
 | .str a,.str b=>a == b
 | _,_=>false
theorem aqb {A:Around}{s:Shared}{y x:V}{u v:Value}(ry:RelV y u) (rx:RelV x v) (fy:adj y=true) (fx:adj x=true):SeqAt.EqAt A s u v (eqV y x):=by
 cases y with
 | non =>
  cases ry;cases x with
  | non=>cases rx;exact SeqAt.EqAt.same _
  | bl b=>cases rx;exact SeqAt.EqAt.none_bool b
  | int b=>obtain⟨t,rfl⟩:=rx;exact SeqAt.EqAt.none_int b t
  | str b=>obtain⟨t,rfl⟩:=rx;exact SeqAt.EqAt.none_str b t
  | _=>exact absurd (show false=true from fx) Bool.false_ne_true
 | bl a =>
  cases ry;cases x with
  | non=>cases rx;exact SeqAt.EqAt.bool_none a
  | bl b=>cases rx;exact SeqAt.EqAt.bool_bool a b
  | int b=>obtain⟨t,rfl⟩:=rx;exact SeqAt.EqAt.bool_int a b t
  | str b=>obtain⟨t,rfl⟩:=rx;exact SeqAt.EqAt.bool_str a b t
  | _=>exact absurd (show false=true from fx) Bool.false_ne_true
 | int a =>
  obtain⟨t',rfl⟩:=ry;cases x with
  | non=>cases rx;exact SeqAt.EqAt.int_none a t'
  | bl b=>cases rx;exact SeqAt.EqAt.int_bool a t' b
  | int b=>obtain⟨t,rfl⟩:=rx;exact SeqAt.EqAt.int_int a t' b t
  | str b=>obtain⟨t,rfl⟩:=rx;exact SeqAt.EqAt.int_str a t' b t
  | _=>exact absurd (show false=true from fx) Bool.false_ne_true
 | str a =>
  obtain⟨t',rfl⟩:=ry;cases x with
  | non=>cases rx;exact SeqAt.EqAt.str_none a t'
  | bl b=>cases rx;exact SeqAt.EqAt.str_bool a t' b
  | int b=>obtain⟨t,rfl⟩:=rx;exact SeqAt.EqAt.str_int a t' b t
  | str b=>obtain⟨t,rfl⟩:=rx;exact SeqAt.EqAt.str_str a t' b t
  | _=>exact absurd (show false=true from fx) Bool.false_ne_true
 | _=>exact absurd (show false=true from fy) Bool.false_ne_true
def eqU (x:V) (u:Value):Bool:=match u with
 | .none=>eqV .non x
 | .bool b=>eqV (.bl b) x
 | .int i _=>eqV (.int i) x
 | .str z _=>eqV (.str z) x
 | _=>false
theorem ap3 {x y:V}{u:Value}(r:RelV y u) (f:adj y=true):eqU x u=eqV y x:=by
 cases y with
 | non=>cases r;rfl
 | bl b=>cases r;rfl
 | int i=>obtain⟨t,rfl⟩:=r;rfl
 | str z=>obtain⟨t,rfl⟩:=r;rfl
 | _=>exact absurd (show false=true from f) Bool.false_ne_true
theorem ag4 {x:V}:∀ {xs:List V}{us:List Value},Vals xs us->xs.all adj=true->us.any (eqU x)=xs.any fun y=>eqV y x
 | _,_,.nil,_=>rfl
 | y::xs,u::us,.cons r t,f=>by
  rw[List.all_cons,Bool.and_eq_true] at f;rw[List.any_cons,List.any_cons,ap3 r f.1,ag4 t f.2]
theorem aeq {A:Around}{s:Shared}{x:V}{v:Value}(rx:RelV x v) (fx:adj x=true):∀ {xs:List V}{us:List Value},Vals xs us->xs.all adj=true->∀ u∈us,SeqAt.EqAt A s u v (eqU x u)
 | _,_,.nil,_=>fun u hu=>by cases hu
 | y::xs,u::us,.cons r t,f=>fun u' hu=>by
  rw[List.all_cons,Bool.and_eq_true] at f;rcases List.mem_cons.mp hu with rfl | hu
  ·rw[ap3 r f.1];exact aqb r rx f.1 fx
  ·exact aeq rx fx t f.2 u' hu
def inV (x:V) (xs:List V):Bool:=xs.any fun y=>eqV y x
def rIn (K:PySem.W.Frag) (neg:Bool):R2:=fun x y H Q=>∃ p xs,y = .ref p/\(SqL K H p xs\/SqT K H p xs)/\adj x=true/\xs.all adj=true/\Q (.bl (if neg then !inV x xs else inV x xs)) H
theorem agt:OpR X (compareOp .In) (rIn X.K false):=by
 intro pins s σ H x y v u Q I rx ry h;obtain⟨p,xs,rfl,hq,fx,fs,q⟩:=h;cases ry;rcases hq with hq | hq
 ·obtain⟨its,r,pl,hz⟩:=I.list hq;refine SeqAt.in_listAt (eqU x) pl.isList (fun w hw=>aeq rx fx r fs w (by simpa using hw)) ⟨.bl _,H,I,rfl,?_⟩;rw[show its.toArray.any (eqU x)=its.any (eqU x) by simp,ag4 r fs];exact q
 ·obtain⟨its,r,pl,hz⟩:=I.tuple hq;refine SeqAt.in_tupleAt (eqU x) pl (fun w hw=>aeq rx fx r fs w (by simpa using hw)) ⟨.bl _,H,I,rfl,?_⟩;rw[show its.toArray.any (eqU x)=its.any (eqU x) by simp,ag4 r fs];exact q
theorem ak2:OpR X (compareOp .NotIn) (rIn X.K true):=by
 intro pins s σ H x y v u Q I rx ry h;obtain⟨p,xs,rfl,hq,fx,fs,q⟩:=h;cases ry;rcases hq with hq | hq
 ·obtain⟨its,r,pl,hz⟩:=I.list hq;refine SeqAt.notIn_listAt (eqU x) pl.isList (fun w hw=>aeq rx fx r fs w (by simpa using hw)) ⟨.bl _,H,I,rfl,?_⟩;rw[show its.toArray.any (eqU x)=its.any (eqU x) by simp,ag4 r fs];exact q
 ·obtain⟨its,r,pl,hz⟩:=I.tuple hq;refine SeqAt.notIn_tupleAt (eqU x) pl (fun w hw=>aeq rx fx r fs w (by simpa using hw)) ⟨.bl _,H,I,rfl,?_⟩;rw[show its.toArray.any (eqU x)=its.any (eqU x) by simp,ag4 r fs];exact q
theorem abm:abr X (.builtin "len") (fun xs H Q=>∃ p ys,xs=[.ref p]/\(SqL X.K H p ys\/SqT X.K H p ys)/\Q (.int ys.length) H):=by
 intro pins s σ H xs us Q I r h;obtain⟨p,ys,rfl,hq,q⟩:=h;obtain⟨u,rfl,rx⟩:=ad8 r;cases rx;have hn:=agz;rcases hq with hq | hq
 ·obtain⟨its,r',pl,hz⟩:=I.list hq;have hlen:=r'.length;exact Calls.call_len_list pl.isList (by simp only[List.size_toArray]<;>omega) ⟨.int ys.length,H,I.tok _,⟨s.toks+1,by rw[List.size_toArray,hlen]⟩,q⟩
 ·obtain⟨its,r',pl,hz⟩:=I.tuple hq;have hlen:=r'.length;exact len_tuple pl (by simp only[List.size_toArray]<;>omega) ⟨.int ys.length,H,I.tok _,⟨s.toks+1,by rw[List.size_toArray,hlen]⟩,q⟩
theorem af2:abr X (.builtin "len") (fun xs H Q=>∃ z,xs=[.str z]/\z.length<=sizeLine/\Q (.int z.length) H):=by
 intro pins s σ H xs us Q I r h;obtain⟨z,rfl,hz,q⟩:=h;obtain⟨u,rfl,t,rfl⟩:=ad8 r;have hn:=agz;exact len_str (by omega) ⟨.int z.length,H,I.tok _,⟨_,rfl⟩,q⟩
theorem abr.or {f:Value}{r r':List V->Hp->VK->Prop}(h:abr X f r) (h':abr X f r'):abr X f (fun xs H Q=>r xs H Q\/r' xs H Q):=by
 intro pins s σ H xs us Q I rs q;rcases q with q | q
 ·exact h pins s σ H xs us Q I rs q
 ·exact h' pins s σ H xs us Q I rs q
theorem af7:abr X (.type "list") (fun xs H Q=>∃ p ys,xs=[.ref p]/\(SqL X.K H p ys\/SqT X.K H p ys)/\∀ l,H l=none->Q (.ref l) (upd H l (.lst ys))):=by
 intro pins s σ H xs us Q I r h;obtain⟨p,ys,rfl,hq,q⟩:=h;obtain⟨u,rfl,rx⟩:=ad8 r;cases rx;have fin:∀ (its:List Value),Vals ys its->ys.length<=sizeLine->∀ (h':Heap) (c':Nat),(∀ b o',s.heap.get? b=some o'->h'.get? b=some o') ->
   h'.get? s.heap.objs.size=some { cls:=.type "list",dict:=none,data:=.seq its.toArray c',slots:=#[] }->EP X pins σ Q (.ref s.heap.objs.size) { s with heap:=h' }:=fun its r' hz h' c' kp e =>
  ⟨.ref s.heap.objs.size,_,I.laid (t':=s.toks) kp (Nat.le_refl _) (show ack X.prog X.w _ h' _ (.lst ys) from ⟨hz,its,c',r',e⟩),rfl,q _ (I.hok.fresh (Nat.le_refl _))⟩
 rcases hq with hq | hq
 ·obtain⟨its,r',pl,hz⟩:=I.list hq;have hlen:=r'.length;obtain⟨o,ho,hc,n,hd⟩:=pl.isList;exact call_list_seq p (.inl rfl) ho hc hd (fun h' c' kp e=>fin its r' hz h' c' kp e) (by simp only[List.size_toArray]<;>omega)
 ·obtain⟨its,r',pl,hz⟩:=I.tuple hq;have hlen:=r'.length;obtain⟨o,ho,hc,n,hd⟩:=pl;exact call_list_seq p (.inr rfl) ho hc hd (fun h' c' kp e=>fin its r' hz h' c' kp e) (by simp only[List.size_toArray]<;>omega)
theorem aax:abr X (.type "tuple") (fun xs H Q=>∃ p ys,xs=[.ref p]/\((SqL X.K H p ys/\∀ l,H l=none->Q (.ref l) (upd H l (.tup ys)))\/(SqT X.K H p ys/\Q (.ref p) H))):=by
 intro pins s σ H xs us Q I r h;obtain⟨p,ys,rfl,h⟩:=h;obtain⟨u,rfl,rx⟩:=ad8 r;cases rx;rcases h with⟨hq,q⟩ | ⟨hq,q⟩
 ·obtain⟨its,r',pl,hz⟩:=I.list hq;have hlen:=r'.length;refine call_tuple_list pl.isList (fun h' kp=>?_) (by simp only[List.size_toArray]<;>omega);have I1:Inv X pins σ H { s with heap:=h' }:=I.kept (t':=s.toks) kp;have I2:Inv X pins σ (upd H h'.objs.size (.tup ys)) { s with heap:=h'.push { cls:=.type "tuple",data:=.seq its.toArray } } :=
   I1.laid (t':=s.toks) (fun b o e=>Heap.get?_push_of_some _ e) (Nat.le_refl _) (show ack X.prog X.w _ _ _ (.tup ys) from ⟨hz,its,r',ah9.new _ _⟩)
  exact⟨.ref h'.objs.size,_,I2,rfl,q _ (I1.hok.fresh (Nat.le_refl _))⟩
 ·obtain⟨its,r',pl,hz⟩:=I.tuple hq;exact call_tuple_same pl ⟨.ref p,H,I,rfl,q⟩
def tyV (K:PySem.W.Frag) (T:String) (x:V) (H:Hp):Prop:=match x with
 | .str _=>T = "str"
 | .int _=>T = "int"
 | .ref p=>(T = "list" /\ ∃ xs,SqL K H p xs)\/(T = "tuple" /\ ∃ o,K.lookup p=some o/\o.cls = .type "tuple" /\ o.dict=none) \/
   (T = "dict" /\ ((∃ kvs,H p=some (.dK kvs))\/∃ kvs,H p=some (.dT kvs)))\/(T = "set" /\ ∃ S n,H p=some (.set S n))
 | _=>False
theorem tyV_is {pins:List (Addr×Obj)}{σ:St}{H:Hp}{s:Shared}{T:String}{x:V}{v:Value}(I:Inv X pins σ H s) (r:RelV x v) (ty:tyV X.K T x H) :
  s.TypeIs v T/\∀ a,v = .ref a->∃ ob,s.heap.get? a=some ob/\ob.dict=none:=by
 cases x with
 | str z =>
  obtain⟨t,rfl⟩:=r;cases (show T = "str" from ty);exact⟨typeIs_str s z t,fun _ e=>nomatch e⟩
 | int i =>
  obtain⟨t,rfl⟩:=r;cases (show T = "int" from ty);exact⟨typeIs_int s i t,fun _ e=>nomatch e⟩
 | ref p =>
  cases r;rcases ty with⟨rfl,xs,hq⟩ | ⟨rfl,o,hk,hc,hd⟩ | ⟨rfl,hk⟩ | ⟨rfl,S,n,hk⟩
  ·obtain⟨its,_,pl,_⟩:=I.list hq;refine⟨pl.isList.typeIs,fun a e=>?_⟩;cases e;obtain⟨o,n,e,c,hd,_⟩:=pl;exact⟨o,e,hd⟩
  ·refine⟨⟨o,I.kIn p o hk,hc⟩,fun a e=>?_⟩;cases e;exact⟨o,I.kIn _ o hk,hd⟩
  ·have z:∃ o,s.heap.get? p=some o/\o.ExactDict:=by
    rcases hk with⟨kvs,hk⟩ | ⟨kvs,hk⟩
    ·obtain⟨_,_,_,_,o,_,_,e,ex,_⟩:=I.hok p _ hk;exact⟨o,e,ex⟩
    ·obtain⟨_,_,_,_,o,_,_,e,ex,_⟩:=I.hok p _ hk;exact⟨o,e,ex⟩
   obtain⟨o,e,ex⟩:=z;refine⟨⟨o,e,ex.1⟩,fun a e2=>?_⟩;cases e2;exact⟨o,e,ex.2.1⟩
  ·obtain⟨o,_,_,_,e,ex,_⟩:=I.hok p _ hk;refine⟨⟨o,e,ex.1⟩,fun a e2=>?_⟩;cases e2;exact⟨o,e,ex.2.1⟩
 | _=>exact False.elim ty
def tBM (K:PySem.W.Frag) (T:String) (r:V->List V->Hp->VK->Prop) (to:TE) (t:TA):TE:=fun σ H Q=>to σ H fun x H1=>tyV K T x H1/\t σ H1 fun xs H2=>r x xs H2 Q
variable {o e:Expr}{es:List Expr}{to:TE}{t:TA}{name:Str}{apos cpos:Pos}{T id:String}{r:V->List V->Hp->VK->Prop}
theorem ams (pa:PlainAttrs T) (slot:Slot T name id) (hty:typeOf (.builtin id)=pure (.type "method_descriptor")) (hm:MtR X id r) (ho:PE X o to) (ha:PA X (e::es) t)
  (hbase:attributeBase o name X.env (eval o X.env)=eval o X.env:=by rfl)
  (hfew:((backTo cpos (starEach (e::es) X.env)).all (fun x=>!x.1)&&(backToKw cpos (keywordEach [] X.env)).all (fun x=>x.1.isSome) && decide ((e::es).length+([]:List Keyword).length+(if ([]:List Keyword).isEmpty then 0 else 1)<30))=true:=by rfl)
  (hline:(apos.endLine == cpos.line)=true:=by rfl) (hs:starEach (e::es) X.env=(false,eval e X.env)::starEach es X.env:=by rfl) (hplain:(backTo cpos (starEach es X.env)).any (·.1)=false:=by rfl) :
  PE X (.Call (.Attribute o name apos) (e::es) [] cpos) (tBM X.K T r to t):=by
 intro pins s σ H Q I h;refine wpAny_Call_method_late hbase hfew hline rfl (thn (ho pins s σ H _ I h) fun v s1 ⟨x,H1,I1,r1,ty,q1⟩=>?_);obtain⟨h1,h2⟩:=tyV_is I1 r1 ty;refine⟨T,id,pa,slot,hty,h1,h2,?_⟩;have hA:=ha cpos pins s1 σ H1 _ I1 q1;rw[hs] at hA ⊢;refine Calls.callWith_builtin (by show (false||(backTo cpos (starEach es X.env)).any (·.1))=false;rw[hplain]<;>rfl) (Calls.evalArgs_plain ?_);exact thn hA fun us s2 ⟨vs,H2,I2,r2,q2⟩=>hm pins s2 σ H2 x vs v us Q I2 r1 r2 q2
/- xs.append(e),list.index on a module's tuple .. are MtR facts of 06m -/
end
def MtM (X:Cx) (id:String) (r:V->List V->Hp->VK->Prop):Prop :=
 ∀ (pins:List (Addr×Obj)) (s:Shared) (σ:St) (H:Hp) (x:V) (xs:List V) (v:Value) (us:List Value) (Q:VK),Inv X pins σ H s->RelV x v->Vals xs us->r x xs H Q ->
  wpAny (model X.prog X.w) X.A (call (.builtin id) (v::us)) (EP X pins σ Q) X.xe s
theorem Vals.one:∀ {x:V}{us:List Value},Vals [x] us->∃ u,us=[u]/\RelV x u
 | _,_,.cons r .nil=>⟨_,rfl,r⟩
theorem Vals.eraseIdx:∀ {xs:List V}{us:List Value}(i:Nat),Vals xs us->Vals (xs.eraseIdx i) (us.eraseIdx i)
 | _,_,_,.nil=>.nil
 | _,_,0,.cons _ t=>t
 | _,_,i+1,.cons r t=>.cons r (Vals.eraseIdx i t)
theorem Vals.rep {xs:List V}{us:List Value}(h:Vals xs us):∀ k:Nat,Vals (List.replicate k xs).flatten (List.replicate k us).flatten
 | 0=>.nil
 | k+1=>by
  rw[List.replicate_succ,List.replicate_succ,List.flatten_cons,List.flatten_cons];exact Vals.append h (Vals.rep h k)
theorem ajx {α:Type}:∀ (l:List α) (i:Nat),(l.eraseIdx i).length<=l.length
 | [],_=>Nat.le_refl _
 | _::_,0=>Nat.le_succ _
 | _::r,i+1=>Nat.succ_le_succ (ajx r i)
theorem akv (its:List Value):∀ (k:Nat) (acc:List Value),
  List.foldl (fun x1 x2=>x1++x2) acc.toArray (List.replicate k its.toArray)=(acc++(List.replicate k its).flatten).toArray
 | 0,acc=>by simp
 | k+1,acc=>by
  have e:acc.toArray++its.toArray=(acc++its).toArray:=by simp
  have e2:(acc++its)++(List.replicate k its).flatten=acc++(List.replicate (k+1) its).flatten:=by
   rw[List.replicate_succ,List.flatten_cons,List.append_assoc]
  rw[← e2,← akv its k (acc++its),← e,List.replicate_succ,List.foldl_cons]
section
variable {X:Cx}{pins:List (Addr×Obj)}{σ:St}{H:Hp}{s:Shared}{l b:Addr}{xs ys zs:List V}
theorem Inv.lset {its its':List Value}{n:Nat}{f:Array Value->Array Value}{t':Nat}(I:Inv X pins σ H s) (hH:H l=some (.lst xs))
  (e:s.heap.get? l=some { cls:=.type "list",data:=.seq its.toArray n }) (hf:f its.toArray=its'.toArray) (hv:Vals ys its') (hz:ys.length<=sizeLine) :
  Inv X pins σ (upd H l (.lst ys)) { s with heap:=s.heap.update l (Obj.mapSeq f),toks:=t' }:=by
 have q:=PySem.IsL.update e f;rw[hf] at q;refine I.write (x:=l) (e:=l) (by rw[hH];exact trivial) (.inl rfl) (fun b' u hb hu=>(Heap.get?_update_other s.heap (Obj.mapSeq f) (Ne.symm hb)).trans hu) ⟨_,q⟩ ?_;exact⟨hz,its',_,hv,q⟩
theorem Inv.lnew {its:List Value}{t':Nat}(I:Inv X pins σ H s) (hv:Vals ys its) (hz:ys.length<=sizeLine) :
  Inv X pins σ (upd H s.heap.objs.size (.lst ys)) { s with heap:=s.heap.push { cls:=.type "list",data:=.seq its.toArray },toks:=t' } :=
 I.laid (fun _ _ q=>Heap.get?_push_of_some _ q) (Nat.le_refl _) ⟨hz,its,0,hv,Heap.get?_push_size _ rfl⟩
theorem Inv.fresh (I:Inv X pins σ H s):H s.heap.objs.size=none:=I.hok.fresh (Nat.le_refl _)
theorem Inv.lstM (I:Inv X pins σ H s) (hH:H l=some (.lst xs)):xs.length<=sizeLine/\∃ (its:List Value) (n:Nat),Vals xs its/\xs.length=its.length/\s.heap.get? l=some { cls:=.type "list",data:=.seq its.toArray n }:=by
 obtain⟨z,its,n,r,e⟩:=I.hok l _ hH;exact⟨z,its,n,r,r.length,e⟩
theorem at8 {n:Nat}(h:n<=sizeLine):Builtin.List.listTooLong n=false:=by
 unfold Builtin.List.listTooLong;exact decide_eq_false (by omega)
end
section
variable {X:Cx}
def al6:V->List V->Hp->VK->Prop:=fun x vs H Q=>∃ l xs y,x = .ref l/\vs=[y]/\H l=some (.lst xs)/\xs.length<sizeLine/\Q .non (upd H l (.lst (xs++[y])))
theorem aaw:MtM X "list.append" al6:=by
 intro pins s σ H x vs v us Q I rx rv h;obtain⟨l,xs,y,rfl,rfl,hH,hz,q⟩:=h;cases rx;obtain⟨u,rfl,ru⟩:=rv.one;obtain⟨z,its,n,r,hl,e⟩:=I.lstM hH;refine call_meets F.slot_list_append ⟨_,e,rfl⟩ F.entry_list_append (F.args_list_append_2 _ _) (PySem.list_append l its.toArray n u (by rw[List.size_toArray];omega)) ⟨e,?_⟩;refine⟨.non,_,I.lset (its':=its++[u]) hH e (by simp) (r.append (.cons ru .nil)) ?_,rfl,q⟩;rw[List.length_append,List.length_singleton];omega
def rExtend:V->List V->Hp->VK->Prop:=fun x vs H Q=>∃ l b xs zs,x = .ref l/\vs=[.ref b]/\H l=some (.lst xs)/\H b=some (.lst zs)/\xs.length+zs.length<=sizeLine/\Q .non (upd H l (.lst (xs++zs)))
def avn:V->List V->Hp->VK->Prop:=fun x vs H Q=>∃ l xs i k y,x = .ref l/\vs=[.int i]/\H l=some (.lst xs)/\-(2 ^ 63)<=i/\i<2 ^ 63/\seqIndex? i xs.length=some k/\xs[k]?=some y/\Q y (upd H l (.lst (xs.eraseIdx k)))
theorem afc:MtM X "list.pop" avn:=by
 intro pins s σ H x vs v us Q I rx rv h;obtain⟨l,xs,i,k,y,rfl,rfl,hH,h1,h2,hk,hy,q⟩:=h;cases rx;obtain⟨u,rfl,ru⟩:=rv.one;obtain⟨t,rfl⟩:=ru;obtain⟨z,its,n,r,hl,e⟩:=I.lstM hH;obtain⟨w,hw,rw'⟩:=r.get hy;refine call_meets F.slot_list_pop ⟨_,e,rfl⟩ F.entry_list_pop (F.args_list_pop_2 _ _)
  (MeetsSeq.list_pop_at l its.toArray n i t k w (fitsIndex_both h1 h2) (by rw[List.size_toArray,← hl];exact hk) (by rw[← Array.getElem?_toList];exact hw) (by rw[List.size_toArray];omega)) ⟨e,?_⟩
 refine⟨y,_,I.lset (its':=its.eraseIdx k) hH e ?_ (r.eraseIdx k) ?_,rw',q⟩
 ·show its.toArray.eraseIdxIfInBounds k=(its.eraseIdx k).toArray;rw[List.eraseIdxIfInBounds_toArray]
 ·have:=ajx xs k;omega
def rCat:R2:=fun x y H Q=>∃ l b xs zs,x = .ref l/\y = .ref b/\H l=some (.lst xs)/\H b=some (.lst zs)/\xs.length+zs.length<=sizeLine/\∀ p,H p=none->Q (.ref p) (upd H p (.lst (xs++zs)))
theorem aj0:OpR X (binaryOp .Add) rCat:=by
 intro pins s σ H x y v u Q I rx ry h;obtain⟨l,b,xs,zs,rfl,rfl,hH,hB,hz,q⟩:=h;cases rx;cases ry;obtain⟨z,its,n,r,hl,e⟩:=I.lstM hH;obtain⟨z2,its2,n2,r2,hl2,e2⟩:=I.lstM hB;refine PySem.P.add_list e e2 ?_ (by rw[List.size_toArray,List.size_toArray];omega);have ea:its.toArray++its2.toArray=(its++its2).toArray:=by simp
 rw[ea];exact⟨.ref _,_,I.lnew (t':=s.toks) (r.append r2) (by rw[List.length_append];omega),rfl,q _ I.fresh⟩
def rRep:R2:=fun x y H Q=>∃ l k xs,x = .ref l/\y = .int k/\H l=some (.lst xs)/\-(2 ^ 63)<=k/\k<2 ^ 63/\xs.length*k.toNat<=sizeLine /\
 ∀ p,H p=none->Q (.ref p) (upd H p (.lst (List.replicate k.toNat xs).flatten))
theorem awk {α:Type}(xs:List α) (k:Nat):(List.replicate k xs).flatten.length=k*xs.length:=by
 induction k with
 | zero=>simp
 | succ k ih=>rw[List.replicate_succ,List.flatten_cons,List.length_append,ih,Nat.succ_mul,Nat.add_comm]
theorem op_rep:OpR X (binaryOp .Mult) rRep:=by
 intro pins s σ H x y v u Q I rx ry h;obtain⟨l,k,xs,rfl,rfl,hH,h1,h2,hz,q⟩:=h;cases rx;obtain⟨t,rfl⟩:=ry;obtain⟨z,its,n,r,hl,e⟩:=I.lstM hH;have hlen:its.toArray.size*k.toNat<=sizeLine:=by rw[List.size_toArray,← hl];exact hz
 have hcap:¬ its.toArray.size*k.toNat>(2 ^ 63-1)/8:=by
  have:(sizeLine:Nat)<=(2 ^ 63-1)/8:=by decide
  omega
 have hfit:¬ (!Builtin.List.listFitsIndex k)=true:=by
  rw[fitsIndex_both h1 h2];exact Bool.false_ne_true
 have hlong:¬ Builtin.List.listTooLong (its.toArray.size*k.toNat)=true:=by
  rw[at8 hlen];exact Bool.false_ne_true
 have hnew:List.foldl (fun x1 x2=>x1++x2) #[] (List.replicate (if its.toArray.isEmpty=true then 0 else k.toNat) its.toArray)=(List.replicate k.toNat its).flatten.toArray:=by
  have f0:∀ m:Nat,List.foldl (fun x1 x2=>x1++x2) #[] (List.replicate m its.toArray)=(List.replicate m its).flatten.toArray:=fun m=>by
   have:=akv its m [];rw[List.nil_append] at this;exact this
  rw[f0];cases its with
  | nil=>simp
  | cons a r'=>rw[if_neg (by simp)]
 refine wpAny_binaryOp_repeat_ref (T := "list") (U := "int") (by decide) ⟨_,e,rfl⟩ (fun s'=>typeIs_int s' k t) noFill_list_mul F.fills_int_mul F.slot_int_rmul repeat_list F.slot_int_index.lookup
  (call_meets F.slot_int_rmul (typeIs_int s k t) F.entry_int_rmul (F.args_int_rmul_2 _ _) (int___rmul___int_list k t l its.toArray n) ⟨e,rfl,⟨_,e,rfl⟩,call_meets F.slot_list_mul ⟨_,e,rfl⟩ F.entry_list_mul (F.args_list_mul_2 _ _) (AutoListH.list___mul___list_int_3 l its.toArray n k t hfit hcap hlong) ⟨e,?_⟩⟩)
 rw[hnew];exact⟨.ref _,_,I.lnew (t':=s.toks) (r.rep k.toNat) (by rw[awk,Nat.mul_comm];exact hz),rfl,q _ I.fresh⟩
end
section
variable {κ:Type} [DecidableEq κ]
def valV (kvs:List (κ×V)) (k:κ):Option V:=(kvs.find? fun kv=>decide (kv.1=k)).map (·.2)
def putK (kvs:List (κ×V)) (k:κ) (v:V):List (κ×V) :=
 if (kvs.any fun kv=>decide (kv.1=k))=true then kvs.map (fun kv=>if kv.1=k then (kv.1,v) else kv) else kvs++[(k,v)]
def akd (kvs:List (κ×V)) (k:κ):List (κ×V):=kvs.filter fun kv=>decide (kv.1≠k)
theorem ad3 {p:κ×V}{r:List (κ×V)}{k:κ}(e:p.1=k):valV (p::r) k=some p.2:=by simp[valV,List.find?_cons,e]
theorem ad0 {p:κ×V}{r:List (κ×V)}{k:κ}(e:¬ p.1=k):valV (p::r) k=valV r k:=by simp[valV,List.find?_cons,e]
theorem anf (k:κ):∀ kvs:List (κ×V),(kvs.any fun kv=>decide (kv.1=k))=(valV kvs k).isSome
 | []=>rfl
 | p::r=>by
  rw[List.any_cons];by_cases e:p.1=k
  ·simp only[ad3 e,decide_eq_true e,Bool.true_or,Option.isSome_some]
  ·rw[ad0 e,decide_eq_false e,Bool.false_or];exact anf k r
theorem ae5 (kvs:List (κ×V)) (k:κ) (v:V):(putK kvs k v).length<=kvs.length+1:=by
 unfold putK;split
 ·rw[List.length_map];omega
 ·rw[List.length_append,List.length_cons,List.length_nil];omega
theorem RelO.isSome_eq {o:Option V}{u:Option Value}(r:RelO o u):o.isSome=u.isSome:=by
 cases o with
 | none=>cases u with
  | none=>rfl
  | some _=>exact (show False from r).elim
 | some _=>cases u with
  | none=>exact (show False from r).elim
  | some _=>rfl
theorem KV.val {kvs:List (κ×V)}{vs:List (κ×Value)}(r:KV kvs vs) (k:κ):RelO (valV kvs k) (valueAt vs k):=by
 unfold KV at r;induction r with
 | nil=>exact True.intro
 | @cons p q ps qs h t ih =>
  obtain⟨h1,h2⟩:=h;by_cases e:p.1=k
  ·have e':q.1=k:=h1.symm.trans e;have b:valueAt (q::qs) k=some q.2:=by simp[valueAt,List.find?_cons,e']
   rw[ad3 e,b];exact h2
  ·have e':¬ q.1=k:=fun z=>e (h1.trans z)
   have b:valueAt (q::qs) k=valueAt qs k:=by simp[valueAt,List.find?_cons,e']
   rw[ad0 e,b];exact ih
theorem KV.any {kvs:List (κ×V)}{vs:List (κ×Value)}(r:KV kvs vs) (k:κ):(kvs.any fun kv=>decide (kv.1=k))=vs.any fun kv=>decide (kv.1=k):=by
 unfold KV at r;induction r with
 | nil=>rfl
 | cons h t ih=>rw[List.any_cons,List.any_cons,ih,h.1]
theorem KV.repl {kvs:List (κ×V)}{vs:List (κ×Value)}(r:KV kvs vs) (k:κ){y:V}{u:Value}(ry:RelV y u) :
  KV (kvs.map fun kv=>if kv.1=k then (kv.1,y) else kv) (vs.map fun kv=>if kv.1=k then (kv.1,u) else kv):=by
 unfold KV at r ⊢;induction r with
 | nil=>exact .nil
 | @cons p q ps qs h t ih =>
  rw[List.map_cons,List.map_cons];refine .cons ?_ ih;obtain⟨h1,h2⟩:=h;by_cases e:p.1=k
  ·rw[if_pos e,if_pos (h1.symm.trans e)];exact⟨h1,ry⟩
  ·rw[if_neg e,if_neg (fun z=>e (h1.trans z))];exact⟨h1,h2⟩
theorem KV.put {kvs:List (κ×V)}{vs:List (κ×Value)}(r:KV kvs vs) (k:κ){y:V}{u:Value}(ry:RelV y u):KV (putK kvs k y) (stored vs k u):=by
 unfold putK stored;rw[r.any k];by_cases e:(vs.any fun kv=>decide (kv.1=k))=true
 ·rw[if_pos e,if_pos e];exact r.repl k ry
 ·rw[if_neg e,if_neg e];exact Paired.snoc r ⟨rfl,ry⟩
theorem KV.drop {kvs:List (κ×V)}{vs:List (κ×Value)}(r:KV kvs vs) (k:κ):KV (akd kvs k) (without vs k):=by
 unfold KV at r ⊢;unfold akd without;induction r with
 | nil=>exact .nil
 | @cons p q ps qs h t ih =>
  obtain⟨h1,h2⟩:=h;rw[List.filter_cons,List.filter_cons];by_cases e:p.1=k
  ·have a:¬ decide (p.1≠k)=true:=by simp[e]
   have b:¬ decide (q.1≠k)=true:=by simp[h1.symm.trans e]
   rw[if_neg a,if_neg b];exact ih
  ·have e':¬ q.1=k:=fun z=>e (h1.trans z)
   have a:decide (p.1≠k)=true:=by simp[e]
   have b:decide (q.1≠k)=true:=by simp[e']
   rw[if_pos a,if_pos b];exact .cons ⟨h1,h2⟩ ih
theorem KV.length {kvs:List (κ×V)}{vs:List (κ×Value)}(r:KV kvs vs):kvs.length=vs.length:=Paired.length r
theorem as1 (kvs:List (κ×V)) (k:κ):(akd kvs k).length<=kvs.length:=List.length_filter_le _ _
end
theorem aht {P:Program}{w:World}{k:Key}{u:Value}(r:RelV (kV k) u):(aa8 P w).is k u=true:=by
 cases k with
 | inl i=>obtain⟨t,e⟩:=(show ∃ t,u=Value.int i t from r);subst e;exact alq P w i t
 | inr x=>obtain⟨t,e⟩:=(show ∃ t,u=Value.str x t from r);subst e;exact amh P w x t
theorem ale {P:Program}{w:World}:∀ {ks:List Key}{us:List Value},Vals (ks.map kV) us->ItemsAre (aa8 P w) ks us
 | [],_,r=>by rw[List.map_nil] at r;cases r;exact .nil
 | k::ks,_,r=>by
  rw[List.map_cons] at r;cases r with
  | cons h t=>exact .cons (aht h) (ale t)
abbrev KT (H:Hp):List (List Key×V)->List (List Key×Addr×Value)->Prop:=Paired fun p q=>p.1=q.1/\H q.2.1=some (.tup (p.1.map kV))/\RelV p.2 q.2.2
theorem KT.val {H:Hp}{kvs:List (List Key×V)}{xs:List (List Key×Addr×Value)}(r:KT H kvs xs) (k:List Key):RelO (valV kvs k) ((atKey xs k).map (·.2)):=by
 induction r with
 | nil=>exact True.intro
 | @cons p q ps qs h t ih =>
  obtain⟨h1,_,h2⟩:=h;by_cases e:p.1=k
  ·have e':q.1=k:=h1.symm.trans e;have b:atKey (q::qs) k=some q.2:=by simp[atKey,List.find?_cons,e']
   rw[ad3 e,b];exact h2
  ·have e':¬ q.1=k:=fun z=>e (h1.trans z)
   have b:atKey (q::qs) k=atKey qs k:=by simp[atKey,List.find?_cons,e']
   rw[ad0 e,b];exact ih
theorem KT.repl {H:Hp}{kvs:List (List Key×V)}{xs:List (List Key×Addr×Value)}(r:KT H kvs xs) (k:List Key){y:V}{u:Value}(ry:RelV y u) :
  KT H (kvs.map fun kv=>if kv.1=k then (kv.1,y) else kv) (xs.map (putAt k u)):=by
 induction r with
 | nil=>exact .nil
 | @cons p q ps qs h t ih =>
  rw[List.map_cons,List.map_cons];refine .cons ?_ ih;obtain⟨h1,h2,h3⟩:=h;unfold putAt;by_cases e:p.1=k
  ·rw[if_pos e,if_pos (h1.symm.trans e)];exact⟨h1,h2,ry⟩
  ·rw[if_neg e,if_neg (fun z=>e (h1.trans z))];exact⟨h1,h2,h3⟩
theorem KT.put {H:Hp}{kvs:List (List Key×V)}{xs:List (List Key×Addr×Value)}(r:KT H kvs xs) (k:List Key){b:Addr}{y:V}{u:Value}(hb:H b=some (.tup (k.map kV))) (ry:RelV y u) :
  KT H (putK kvs k y) (storedH xs k b u):=by
 have e:(kvs.any fun kv=>decide (kv.1=k))=(atKey xs k).isSome:=by
  rw[anf,(r.val k).isSome_eq,Option.isSome_map]
 unfold putK storedH;rw[e];by_cases q:(atKey xs k).isSome=true
 ·rw[if_pos q,if_pos q];exact r.repl k ry
 ·rw[if_neg q,if_neg q];exact Paired.snoc r ⟨rfl,hb,ry⟩
theorem KT.keeps {H H':Hp}{kvs:List (List Key×V)}{xs:List (List Key×Addr×Value)}(r:KT H kvs xs) (ht:∀ b ys,H b=some (.tup ys)->H' b=some (.tup ys)):KT H' kvs xs :=
 Paired.mapP r fun _ _ z=>⟨z.1,ht _ _ z.2.1,z.2.2⟩
section
variable {P:Program}{w:World}{H:Hp}{h:Heap}{a:Addr}
theorem rd_of {u:HO}(ok:HOk P w H h) (e:Rd H a u):ack P w H h a u:=e.ok ok
theorem ak8 {kvs:List (Key×V)}(ok:HOk P w H h) (e:Rd H a (.dK kvs)):kvs.length<=sizeLine/\(a == sysModules)=false/\∃ vs,KV kvs vs/\h.DictOf (aa8 P w) a vs :=
 show ack P w H h a (.dK kvs) from rd_of ok e
theorem agc {kvs:List (Key×V)}(ok:HOk P w H h) (e:H a=some (.dK kvs)):kvs.length<=sizeLine/\(a == sysModules)=false/\∃ vs,KV kvs vs/\h.DictOf (aa8 P w) a vs:=ak8 ok (.inl e)
theorem alm {ks:List Key}(ok:HOk P w H h) (e:H a=some (.tup (ks.map kV))):(tupleKind (aa8 P w)).is h ks a:=by
 obtain⟨_,its,r,⟨o,h1,h2,n,h3⟩,_⟩:=(show ack P w H h a (.tup (ks.map kV)) from ok a _ e);exact⟨o,its.toArray,n,h1,h2,h3,by simpa using ale r⟩
theorem ao7 {kvs:List (List Key×V)}(ok:HOk P w H h) (e:Rd H a (.dT kvs)):kvs.length<=sizeLine/\(a == sysModules)=false /\
  ∃ xs,KT H kvs xs/\h.DictOfH (tupleKind (aa8 P w)) a xs:=by
 obtain⟨z,y,xs,r,o,es,ep,h1,h2,h3,h4,h5⟩:=(show ack P w H h a (.dT kvs) from rd_of ok e);refine⟨z,y,xs,r,o,es,ep,h1,h2,h3,h4,fun x hx=>?_,h5⟩;have all:∀ {l:List (List Key×V)} {m:List (List Key×Addr×Value)},KT H l m->∀ x∈m,(tupleKind (aa8 P w)).is h x.1 x.2.1:=by
  intro l m q;induction q with
  | nil=>intro x hx;exact nomatch hx
  | @cons p q ps qs hq t ih =>
   intro x hx;rcases List.mem_cons.mp hx with e | hx
   ·subst e;exact alm ok (by rw[← hq.1];exact hq.2.1)
   ·exact ih x hx
 exact all r x hx
theorem dt_of {kvs:List (List Key×V)}(ok:HOk P w H h) (e:H a=some (.dT kvs)):kvs.length<=sizeLine/\(a == sysModules)=false /\
  ∃ xs,KT H kvs xs/\h.DictOfH (tupleKind (aa8 P w)) a xs:=ao7 ok (.inl e)
end
def DGet (H:Hp) (a:Addr) (y:V) (r:Option V):Prop :=
 (∃ kvs k,Rd H a (.dK kvs)/\y=kV k/\r=valV kvs k)\/∃ kvs k b,Rd H a (.dT kvs)/\y = .ref b/\H b=some (.tup (k.map kV))/\r=valV kvs k
def DPut (H:Hp) (a:Addr) (y v:V) (H':Hp):Prop :=
 (∃ kvs k,H a=some (.dK kvs)/\y=kV k/\kvs.length<sizeLine/\H'=upd H a (.dK (putK kvs k v))) \/
 ∃ kvs k b,H a=some (.dT kvs)/\y = .ref b/\H b=some (.tup (k.map kV))/\kvs.length<sizeLine/\H'=upd H a (.dT (putK kvs k v))
theorem DGet.k {H:Hp}{a:Addr}{kvs:List (Key×V)}{k:Key}(e:H a=some (.dK kvs)):DGet H a (kV k) (valV kvs k):=.inl ⟨kvs,k,.inl e,rfl,rfl⟩
theorem DPut.k {H:Hp}{a:Addr}{kvs:List (Key×V)}{k:Key}{v:V}(e:H a=some (.dK kvs)) (hl:kvs.length<sizeLine):DPut H a (kV k) v (upd H a (.dK (putK kvs k v))):=.inl ⟨kvs,k,e,rfl,hl,rfl⟩
theorem DPut.t {H:Hp}{a b:Addr}{kvs:List (List Key×V)}{k:List Key}{v:V}(e:H a=some (.dT kvs)) (eb:H b=some (.tup (k.map kV))) (hl:kvs.length<sizeLine) :
  DPut H a (.ref b) v (upd H a (.dT (putK kvs k v))):=.inr ⟨kvs,k,b,e,rfl,eb,hl,rfl⟩
section
variable {X:Cx}{pins:List (Addr×Obj)}{σ:St}{H:Hp}{s:Shared}{a:Addr}{y v:V}{u r:Value}{o:Option V}{A:Around}{E:Value->Shared->Prop}
theorem Inv.big (I:Inv X pins σ H s):sysModules<s.heap.objs.size:=by
 have h:mainGlobals<s.heap.objs.size:=(I.mod.glob.keeps I.bk).lt;exact Nat.lt_trans (by decide) h
theorem aj9 {Q:Value->Shared->Prop}(hu:A.units+1<cLine) (I:Inv X pins σ H s) (g:DGet H a y (some v)) (ry:RelV y u) (h:∀ w' s',Inv X pins σ H s'->RelV v w'->Q w' s') :
  wpAny (model X.prog X.w) A (getItem (.ref a) u) Q E s:=by
 rcases g with⟨kvs,k,e,ey,l⟩ | ⟨kvs,k,b,e,ey,eb,l⟩
 ·subst ey;obtain⟨z,hd,vs,rel,dd⟩:=ak8 I.hok e;obtain⟨w',hw,rw'⟩:=RelO.some_of (v:=v) (o:=valueAt vs k) (by rw[l];exact rel.val k);exact wpAny_getItem_of (aht ry) dd.mapOf hw (h w' _ (I.tok _) rw')
 ·subst ey;cases (show u=Value.ref b from ry);obtain⟨z,hd,xs,rel,dd⟩:=ao7 I.hok e;obtain⟨w',hw,rw'⟩:=RelO.some_of (v:=v) (o:=(atKey xs k).map (·.2)) (by rw[l];exact rel.val k);obtain⟨p,hp,hp2⟩:=Option.map_eq_some_iff.mp hw;refine wpAny_getItem_heap (tupleKind_room_in1 hu) (alm I.hok eb) dd hp ?_;rw[hp2];exact h w' _ (I.tok _) rw'
theorem d_in {Q:Value->Shared->Prop}(hu:A.units+1<cLine) (I:Inv X pins σ H s) (g:DGet H a y o) (ry:RelV y u) (h:∀ s',Inv X pins σ H s'->Q (.bool o.isSome) s') :
  wpAny (model X.prog X.w) A (compareOp .In u (.ref a)) Q E s:=by
 rcases g with⟨kvs,k,e,ey,l⟩ | ⟨kvs,k,b,e,ey,eb,l⟩
 ·subst ey;obtain⟨z,hd,vs,rel,dd⟩:=ak8 I.hok e;refine wpAny_in_of (aht ry) hd dd.mapOf ?_;rw[← (rel.val k).isSome_eq,← l];exact h _ (I.tok _)
 ·subst ey;cases (show u=Value.ref b from ry);obtain⟨z,hd,xs,rel,dd⟩:=ao7 I.hok e;refine wpAny_in_heap (tupleKind_room_in1 hu) (alm I.hok eb) hd dd ?_;have q:=(rel.val k).isSome_eq;rw[Option.isSome_map] at q;rw[← q,← l];exact h _ (I.tok _)
theorem aq9 {Q:Value->Shared->Prop}(hu:A.units+1<cLine) (I:Inv X pins σ H s) (g:DGet H a y o) (ry:RelV y u) (h:∀ s',Inv X pins σ H s'->Q (.bool (!o.isSome)) s') :
  wpAny (model X.prog X.w) A (compareOp .NotIn u (.ref a)) Q E s:=by
 rcases g with⟨kvs,k,e,ey,l⟩ | ⟨kvs,k,b,e,ey,eb,l⟩
 ·subst ey;obtain⟨z,hd,vs,rel,dd⟩:=ak8 I.hok e;refine wpAny_notIn_of (aht ry) hd dd.mapOf ?_;rw[← (rel.val k).isSome_eq,← l];exact h _ (I.tok _)
 ·subst ey;cases (show u=Value.ref b from ry);obtain⟨z,hd,xs,rel,dd⟩:=ao7 I.hok e;refine wpAny_notIn_heap (tupleKind_room_in1 hu) (alm I.hok eb) hd dd ?_;have q:=(rel.val k).isSome_eq;rw[Option.isSome_map] at q;rw[← q,← l];exact h _ (I.tok _)
theorem ajr {h':Heap}{t':Nat}{ob:HO}(I:Inv X pins σ H s) (mu:Mut (H a)) (hs:Heap.SameBut a s.heap h') (he:∃ q,h'.get? a=some q) (new:ack X.prog X.w (upd H a ob) h' a ob) :
  Inv X pins σ (upd H a ob) { s with heap:=h',toks:=t' } :=
 I.write (x:=a) (e:=a) mu (.inl rfl) (fun b q hb z=>(hs.2 b hb).trans z) he new
theorem agx {P:Program}{w:World}{H':Hp}{h':Heap}{kvs:List (Key×V)}{vs:List (Key×Value)}(z:kvs.length<=sizeLine) (hd:(a == sysModules)=false) (rel:KV kvs vs) (dd:h'.DictOf (aa8 P w) a vs) :
  ack P w H' h' a (.dK kvs):=⟨z,hd,vs,rel,dd⟩
theorem alc {H':Hp}{Q:Unit->Shared->Prop}(hu:A.units+1<cLine) (I:Inv X pins σ H s) (g:DPut H a y v H') (ry:RelV y u) (rv:RelV v r) (h:∀ s',Inv X pins σ H' s'->Q () s') :
  wpAny (model X.prog X.w) A (setItem (.ref a) u r) Q E s:=by
 rcases g with⟨kvs,k,e,ey,l,eH⟩ | ⟨kvs,k,b,e,ey,eb,l,eH⟩
 ·subst ey eH;obtain⟨z,hd,vs,rel,dd⟩:=agc I.hok e;have hz:vs.length<=sizeLine:=by rw[← rel.length];exact z
  have hl:(putK kvs k v).length<=sizeLine:=by have:=ae5 kvs k v;omega
  refine wpAny_setItem_pairs (hsz:=hz) (aht ry) dd fun h' dd' hs=>h _ ?_
  have he:∃ q,h'.get? a=some q:=let ⟨q,_,_,hq,_⟩:=dd';⟨q,hq⟩;exact ajr I (by rw[e];exact True.intro) hs he (agx hl hd (rel.put k rv) dd')
 ·subst ey eH;cases (show u=Value.ref b from ry);obtain⟨z,hd,xs,rel,dd⟩:=dt_of I.hok e;have hz:xs.length<=sizeLine:=by rw[← Paired.length rel];exact z
  have hl:(putK kvs k v).length<=sizeLine:=by have:=ae5 kvs k v;omega
  refine wpAny_setItem_heap (hsz:=hz) (tupleKind_room_in1 hu) (alm I.hok eb) dd fun h' dd' hs=>h _ ?_
  obtain⟨q,es,ep,hq,h2,h3,h4,_,h5⟩:=dd';refine ajr I (by rw[e];exact True.intro) hs ⟨q,hq⟩ ⟨hl,hd,_,(rel.put k eb rv).keeps fun c ys ec=>?_,q,es,ep,hq,h2,h3,h4,h5⟩;rw[aad (ne_of ec e (fun z=>nomatch z))];exact ec
end
section
variable {X:Cx}{pins:List (Addr×Obj)}{σ:St}{H:Hp}{s:Shared}{a:Addr}{kvs:List (Key×V)}{k:Key}{u:Value}{A:Around}{E:Value->Shared->Prop}
theorem d_pop {v:V}{more:List Value}{Q:Value->Shared->Prop}(I:Inv X pins σ H s) (e:H a=some (.dK kvs)) (ry:RelV (kV k) u) (l:valV kvs k=some v) (hm:more=[]\/∃ x,more=[x])
  (h:∀ w' s',Inv X pins σ (upd H a (.dK (akd kvs k))) s'->RelV v w'->Q w' s'):wpAny (model X.prog X.w) A (call (.builtin "dict.pop") (.ref a::u::more)) Q E s:=by
 obtain⟨z,hd,vs,rel,dd⟩:=agc I.hok e;obtain⟨w',hw,rw'⟩:=RelO.some_of (v:=v) (o:=valueAt vs k) (by rw[← l];exact rel.val k);have hp:(keyPart u).isSome=true:=by
  cases k with
  | inl i=>obtain⟨t,q⟩:=(show ∃ t,u=Value.int i t from ry);subst q;rfl
  | inr x=>obtain⟨t,q⟩:=(show ∃ t,u=Value.str x t from ry);subst q;rfl
 have ha:argsOk "dict.pop" ⟨.ref a::u::more,[]⟩:=by
  rcases hm with q | ⟨x,q⟩
  ·subst q;exact PySem.F.args_dict_pop_2 _ _
  ·subst q;exact PySem.F.args_dict_pop_3 _ _ _
 refine call_meetsIn PySem.F.slot_dict_pop dd.typeIs PySem.F.entry_dict_pop ha (meets_dict_pop_there (aa8 X.prog X.w) a (aht ry) more hm hp)
  ⟨vs,w',dd,by rw[← rel.length];exact z,hw,fun h' dd' hs=>h w' _ ?_ rw'⟩
 have he:∃ q,h'.get? a=some q:=let ⟨q,_,_,hq,_⟩:=dd';⟨q,hq⟩;exact ajr I (by rw[e];exact True.intro) hs he (agx (Nat.le_trans (as1 kvs k) z) hd (rel.drop k) dd')
theorem d_popD {r:Value}{Q:Value->Shared->Prop}(I:Inv X pins σ H s) (e:H a=some (.dK kvs)) (ry:RelV (kV k) u) (l:valV kvs k=none) (h:∀ s',Inv X pins σ H s'->Q r s') :
  wpAny (model X.prog X.w) A (call (.builtin "dict.pop") [.ref a,u,r]) Q E s:=by
 obtain⟨z,hd,vs,rel,dd⟩:=agc I.hok e;have hn:valueAt vs k=none:=RelO.none_of (by rw[← l];exact rel.val k);have hp:(keyPart u).isSome=true:=by
  cases k with
  | inl i=>obtain⟨t,q⟩:=(show ∃ t,u=Value.int i t from ry);subst q;rfl
  | inr x=>obtain⟨t,q⟩:=(show ∃ t,u=Value.str x t from ry);subst q;rfl
 exact call_meetsIn PySem.F.slot_dict_pop dd.typeIs PySem.F.entry_dict_pop (PySem.F.args_dict_pop_3 _ _ _) (meets_dict_pop_default (aa8 X.prog X.w) a (aht ry) hd hp r) ⟨vs,dd,hn,h _ (I.tok _)⟩
theorem d_len {Q:Value->Shared->Prop}(I:Inv X pins σ H s) (e:Rd H a (.dK kvs)) (h:∀ t s',Inv X pins σ H s'->Q (.int kvs.length t) s'):wpAny (model X.prog X.w) A (call (.builtin "len") [.ref a]) Q E s:=by
 obtain⟨z,hd,vs,rel,dd⟩:=ak8 I.hok e;refine call_len_dict hd dd (by rw[← rel.length];rw[sizeLine_eq] at z;omega) ?_;rw[← rel.length];exact h _ _ (I.tok _)
end
theorem ags {X:Cx}{pins:List (Addr×Obj)}{σ:St}{H:Hp}{s:Shared}{a:Addr}{y:V}{o:Option V}(I:Inv X pins σ H s) (g:DGet H a y o):s.TypeIs (.ref a) "dict" := by
 rcases g with⟨kvs,k,e,_,_⟩ | ⟨kvs,k,b,e,_,_,_⟩
 ·obtain⟨_,_,vs,_,dd⟩:=ak8 I.hok e;exact dd.typeIs
 ·obtain⟨_,_,xs,_,dd⟩:=ao7 I.hok e;exact dd.typeIs
def axj (ty td:TE):TE:=fun σ H Q=>ty σ H fun y H1=>td σ H1 fun x H2=>∃ a o,x = .ref a/\DGet H2 a y o/\Q (.bl (!o.isSome)) H2
def sDAug (td ty tv:TE) (rd:V->V->Hp->VK->Prop):TS:=fun D σ H=>td σ H fun x H1=>ty σ H1 fun y H2=>∃ a v,x = .ref a/\DGet H2 a y (some v) /\
 tv σ H2 fun y2 H3=>rd v y2 H3 fun z H4=>∃ H5,DPut H4 a y z H5/\D.nx σ H5
section
variable {X:Cx}{o i e value:Expr}{pos pos' tpos:Pos}{td ty tv:TE}
theorem akp (hu:X.A.units+1<cLine) (hi:PE X i ty) (ho:PE X o td):PC X .NotIn i o (axj ty td):=by
 intro pins s σ H Q I h;refine thn (hi pins s σ H _ I h) fun iv s1 ⟨y,H1,I1,ry,q1⟩=>thn (ho pins s1 σ H1 _ I1 q1) fun u s2 ⟨x,H2,I2,rx,a,ov,ex,g,q2⟩=>?_
 subst ex;obtain rfl:u=Value.ref a:=rx;exact aq9 hu I2 g ry fun s3 I3=>⟨.bl (!ov.isSome),H2,I3,rfl,q2⟩
theorem avw {op:Operator}{rd:V->V->Hp->VK->Prop}(hu:X.A.units+1<cLine) (ho:PE X o td) (hi:PE X i ty) (hv:PE X value tv) (hop:InOp X op rd)
  (ha:∀ ov iv new,augStore i ov iv new=(do holding [new,ov,iv] (setItem ov iv new);release [new,ov,iv] [];pure .next)):PS X (.AugAssign (.Subscript o i tpos) op value pos) (sDAug td ty tv rd):=by
 intro pins s σ H D I h;refine wpAny_AugAssign_SubscriptAny (thn (ho pins s σ H _ I h) fun u s1 ⟨x,H1,I1,rx,q1⟩=>thn (hi pins s1 σ H1 _ I1 q1) fun iv s2 ⟨y,H2,I2,ry,a,v,ex,g,q2⟩=>?_) ha;subst ex;obtain rfl:u=Value.ref a:=rx;refine aj9 hu I2 g ry fun w' s3 I3 rw'=>thn (hv pins s3 σ H2 _ I3 q2) fun w2 s4 ⟨y2,H3,I4,ry2,q3⟩=>thn (hop pins s4 σ H3 v y2 w' w2 _ I4 rw' ry2 q3) fun w3 s5 ⟨z,H4,I5,rz,H5,g5,q4⟩=>?_
 exact alc hu I5 g5 ry rz fun s6 I6=>⟨σ,H5,I6,q4⟩
end
theorem as0 {P:Program}{w:World}{H:Hp}(h:Heap) (hb:sysModules<h.objs.size):ack P w H (h.push { cls:=.type "dict",data:=.dict #[] }) h.objs.size (.dK []) :=
 ⟨Nat.zero_le _,beq_eq_false_iff_ne.mpr (Ne.symm (Nat.ne_of_lt hb)),[],.nil,Heap.DictOf.new h⟩
def tDNewK:TE:=fun _ H Q=>∀ p,H p=none->Q (.ref p) (upd H p (.dK []))
section
variable {X:Cx}{pos:Pos}
theorem aub:PE X (.Dict [] [] pos) tDNewK:=fun pins s σ H Q I h =>
 wpAny_Dict_empty ⟨.ref s.heap.objs.size,_,I.laid (a:=s.heap.objs.size) (o:=.dK []) (t':=s.toks) (fun _ _ q=>Heap.get?_push_of_some _ q) (Nat.le_refl _) (as0 s.heap I.big),rfl,h _ (I.hok.fresh (Nat.le_refl _))⟩
end
def abz (kvs more:List (Key×V)):List (Key×V):=more.foldl (fun acc kv=>putK acc kv.1 kv.2) kvs
theorem KV.merge:∀ {more:List (Key×V)}{rs:List (Key×Value)}{kvs:List (Key×V)}{vs:List (Key×Value)},KV more rs->KV kvs vs->KV (abz kvs more) (merged vs rs):=by
 intro more rs kvs vs r;unfold KV at r;induction r generalizing kvs vs with
 | nil=>intro q;exact q
 | @cons p q ps qs h t ih =>
  intro r0;have e:KV (putK kvs p.1 p.2) (stored vs q.1 q.2):=by
   have:=r0.put p.1 h.2;rw[← h.1];exact this
  exact ih e
theorem ace:∀ (more kvs:List (Key×V)),(abz kvs more).length<=kvs.length+more.length
 | [],kvs=>by show kvs.length<=kvs.length+0;omega
 | p::r,kvs=>by
  have h1:=ace r (putK kvs p.1 p.2);have h2:=ae5 kvs p.1 p.2;show (abz (putK kvs p.1 p.2) r).length<=_;rw[List.length_cons];omega
structure M2 (X:Cx) (o:Expr) (m:Str) (apos:Pos) (e f:Expr) (cpos:Pos):Prop where
 base:attributeBase o m X.env (eval o X.env)=eval o X.env
 few:((backTo cpos (starEach [e,f] X.env)).all (fun x=>!x.1)&&(backToKw cpos (keywordEach [] X.env)).all (fun x=>x.1.isSome) && decide (([e,f]:List Expr).length+([]:List Keyword).length+(if ([]:List Keyword).isEmpty then 0 else 1)<30))=true
 line:(apos.endLine == cpos.line)=true
 trees:backTo cpos (starEach [e,f] X.env)=[(false,eval e X.env),(false,eval f X.env)]
def IsD (H:Hp) (a:Addr):Prop:=(∃ kvs,Rd H a (.dK kvs))\/∃ kvs,Rd H a (.dT kvs)
theorem isD_at {X:Cx}{pins:List (Addr×Obj)}{σ:St}{H:Hp}{s:Shared}{a:Addr}(I:Inv X pins σ H s) (d:IsD H a) :
  s.TypeIs (.ref a) "dict" /\ (∀ b,Value.ref a = .ref b->∃ ob,s.heap.get? b=some ob/\ob.dict=none)/\(a == sysModules)=false:=by
 rcases d with⟨kvs,e⟩ | ⟨kvs,e⟩
 ·obtain⟨_,hd,vs,_,dd⟩:=ak8 I.hok e;refine⟨dd.typeIs,fun b q=>?_,hd⟩;cases q;obtain⟨ob,_,_,h1,h2,_⟩:=dd;exact⟨ob,h1,h2.2.1⟩
 ·obtain⟨_,hd,xs,_,dd⟩:=ao7 I.hok e;refine⟨dd.typeIs,fun b q=>?_,hd⟩;cases q;obtain⟨ob,_,_,h1,h2,_⟩:=dd;exact⟨ob,h1,h2.2.1⟩
def avj (td ty tx:TE):TE:=fun σ H Q=>td σ H fun x H1=>∃ a,x = .ref a/\IsD H1 a/\ty σ H1 fun y H2=>tx σ H2 fun z H3=>∃ kvs k,H3 a=some (.dK kvs)/\y=kV k /\
 (∀ v,valV kvs k=some v->Q v (upd H3 a (.dK (akd kvs k))))/\(valV kvs k=none->Q z H3)
section
variable {X:Cx}{o e f:Expr}{apos cpos:Pos}{td ty tx:TE}
theorem anr (ho:PE X o td) (he:PE X e ty) (hf:PE X f tx) (m:M2 X o "pop" apos e f cpos):PE X (.Call (.Attribute o "pop" apos) [e,f] [] cpos) (avj td ty tx):=by
 intro pins s σ H Q I h;refine wpAny_Call_method m.base m.few m.line PySem.F.plainAttrs_dict PySem.F.slot_dict_pop PySem.F.type_dict_pop (thn (ho pins s σ H _ I h) fun u s1 ⟨x,H1,I1,rx,a,ex,d,q1⟩=>?_);subst ex;obtain rfl:u=Value.ref a:=rx;obtain⟨t1,t2,_⟩:=isD_at I1 d;refine⟨t1,t2,?_⟩;rw[m.trees];refine Calls.callWith_builtin rfl (Calls.evalArgs_plain (Calls.spliced_cons (thn (he pins s1 σ H1 _ I1 q1) fun iv s2 ⟨y,H2,I2,ry,q2⟩ =>Calls.spliced_cons (thn (hf pins s2 σ H2 _ I2 q2) fun fv s3 ⟨z,H3,I3,rz,kvs,k,ea,ey,q3,q4⟩=>Calls.spliced_nil ?_))));subst ey;cases l:valV kvs k with
 | some v=>exact d_pop I3 ea ry l (.inr ⟨fv,rfl⟩) fun w' s4 I4 rw'=>⟨v,_,I4,rw',q3 v l⟩
 | none=>exact d_popD I3 ea ry l fun s4 I4=>⟨z,H3,I4,rz,q4 l⟩
end
section
variable {X:Cx}{pins:List (Addr×Obj)}{σ:St}{H:Hp}{s:Shared}{a:Addr}{kvs:List (Key×V)}{A:Around}{E:Value->Shared->Prop}
theorem at7 {Q:Value->Shared->Prop}(I:Inv X pins σ H s) (e:Rd H a (.dK kvs)) (h:∀ p s',H p=none->Inv X pins σ (upd H p (.dK kvs)) s'->Q (.ref p) s'):wpAny (model X.prog X.w) A (call (.type "dict") [.ref a]) Q E s:=by
 obtain⟨z,hd,vs,rel,dd⟩:=ak8 I.hok e;refine kt_call_dict hd dd (by rw[← rel.length];exact z) fun h' dd' hs=>?_
 refine h _ _ (I.hok.fresh (Nat.le_refl _)) (I.laid (a:=s.heap.objs.size) (o:=.dK kvs) (t':=s.toks) (fun b q hq=>?_) (Nat.le_refl _) (agx z (beq_eq_false_iff_ne.mpr (Ne.symm (Nat.ne_of_lt I.big))) rel dd'));exact (hs.2 b (Nat.ne_of_lt (Heap.lt_size hq))).trans (Heap.get?_push_of_some _ hq)
end
end L2
namespace Att
open PySem PySem.W PySem.Calls PyProof.Rows
theorem ahe {P:Params}{h:Heap}:∀ (ns:List Int) (vs:List Value),WellAll P h vs (ns.map WData.int)->IntsAre vs ns:=by
 intro ns;induction ns with
 | nil =>
  intro vs w;rw[List.map_nil] at w;cases w;exact .nil
 | cons n ns ih =>
  intro vs w;rw[List.map_cons] at w;cases w with
  | cons a b =>
   cases a;exact .cons _ _ (ih _ b)
theorem ap5 {l:OpenLaw}{n:Nat}(hn:l.most=some n){P:Params}{h:Heap}{args:List WData}{vals:List Value}
  (hpre:l.row.toRowW.claim.pre args=true) (hwl:WellAll P h vals args) :
  ∃ a vs ns,vals=[Value.ref a]/\args=[WData.list (ns.map WData.int)]/\h.get? a=some { cls:=.type "list",data:=.seq vs.toArray }/\IntsAre vs ns/\ns.length<=n:=by
 have hsh:WShape.hasAll [] args [.list .int]=true:=(pre_splitW hpre).1;have hc:l.pre.holds [] { args:=args }=true:=(pre_splitW hpre).2;obtain⟨d,r,rfl,h1,h2⟩:=hasAllW_cons hsh;obtain rfl:=hasAllW_nil h2;obtain⟨xs,rfl,h3⟩:=hasW_list h1;obtain⟨ns,rfl⟩:=items_int h3;have hlen:ns.length<=n:=by
  unfold OpenLaw.pre at hc;have h4:(WTm.not (.lt (.lit (.int (n:Int))) (.len (.arg 0)))).holds [] { args:=[.list (ns.map .int)] }=true:=by
   have h4:=(holds_andW hc).1;rw[hn] at h4;exact h4
  have h5:=condW_of h4 (w_not (w_lt w_lit (w_len_list (w_arg rfl))));rw[List.length_map] at h5;refine Nat.le_of_not_lt fun q=>?_
  have q':(n:Int)<((ns.length:Nat):Int):=by omega
  first
   | (rw[decide_eq_true q'] at h5;exact absurd h5 (by decide))
   | (simp at h5;omega)
 cases hwl with
 | cons w1 w2 =>
  cases w2;cases w1 with
  | list ho hall=>exact⟨_,_,ns,rfl,rfl,ho,ahe ns _ hall,hlen⟩
theorem aq1 (l:OpenLaw) (args:List WData):l.row.toRowW.claim.post args (.bool true) args=true :=
 postW_of (r:=l.row.toRowW) (X:=(true == true))
  (show WShape.has [] (.bool true) .bool=true by first | rfl | decide | simp[WShape.has,WShape.arms,WShape.armsAll])
  (show (WTm.eq .res (.lit (.bool true))).value [] { args:=args,res:=some (.bool true),after:=args }=some (.bool (true == true)) from w_eq_bool (w_res rfl) w_lit) rfl
theorem attach_call {l:OpenLaw}{n:Nat}{q:Program}{loose:List Str}{XP:(Str->Option Value)->Heap->Prop}{YP:World->Heap->Prop}{d:DefRec}
  (hn:l.most=some n) (hdf:d.params.defaults=[])
  (call:∀ (w:World) (s₀ s₁:Shared) (mg mb:Str->Option Value) (fa:Addr) (o:Obj) (pm cd doc:Value) (a:Addr) (vs:List Value) (ns:List Int),Ground q loose [] XP w s₀ mg mb s₁.heap->YP w s₁.heap ->s₁.heap.get? fa=some o->o.data = .func (docDef d.name d.params d.body d.scope pm cd doc)->s₁.heap.CodeRec cd d.name->mg d.name=some (.ref fa) ->s₁.heap.get? a=some { cls:=.type "list",data:=.seq vs.toArray }->IntsAre vs ns->ns.length<=n->s₁.gens=#[] ->
   codeAny (model l.prog w) callerA (.call (.ref fa) ⟨[.ref a],[]⟩) (fun r s'=>r = .ok (.ret (.bool true))/\OldK s₁.heap s'.heap/\s'.os=s₁.os/\AllBare s'.gens) s₁) :
  WalkO q loose XP YP l.row.toRowW d [] (fun f vs=>PySem.call f vs):=by
 intro w s₀ s₁ mg mb G Y fa o pm cd doc dV kV ho hd hcd hD hmg hg args vals as hpre hlay hrd hwl hlo;obtain rfl:dV = .none:=Dflts.none hD hdf;obtain rfl:kV = .none:=Dflts.noKw hD;obtain⟨a,vs,ns,rfl,rfl,hobj,hints,hlen⟩:=ap5 hn hpre hwl;refine enter_call (codeAny_mono (call w s₀ s₁ mg mb fa o pm cd doc a vs ns G Y ho (fd_plain hd) hcd hmg hobj hints hlen hg) fun r s' hq=>?_);obtain⟨rfl,h2,h3,h4⟩:=hq;exact⟨.inl ⟨.bool true,.bool true,[],rfl,fun _=>rfl,.bool true,aq1 l _,fun _=>⟨List.Pairwise.nil,fun _ hm=>(nomatch hm)⟩⟩,h2,h3,h4⟩
end Att
namespace L2
open PySem PySem.Spec PyProof.Rows
theorem ald:∀ {vs:List Value}{ns:List Int},IntsAre vs ns->Vals (ns.map V.int) vs
 | _,_,.nil=>.nil
 | _,_,.cons n t h=>.cons ⟨t,rfl⟩ (ald h)
def Only (H:Hp):Prop:=∀ b,H b=none\/∃ o xs,H b=some (.frz o (.lst xs))
theorem ats {P:Program}{w:World}{K:PySem.W.Frag}{mg mb:Str->Option Value}{CX:CXT}{k:Nat}{fa a:Addr}{fd:FuncData}{x:Str}{sp:Sp}{s₁:Shared}{vs:List Value}{ns:List Int}
  (KX:K.In s₁.heap) (hns:s₁.heap.Ns mainGlobals mg) (hb:s₁.heap.Ns builtinsNs mb) (hbb:∀ x:Str,x ≠ "__name__" -> mb x=bootBuiltins x) (hlim:s₁.heap.NoLimit) (hg:s₁.gens=#[])
  (ha:s₁.heap.get? a=some { cls:=.type "list",data:=.seq vs.toArray }) (hi:IntsAre vs ns) (hl:ns.length<=sizeLine) (hr:Room k callerA)
  (F:∀ base:Heap,K.In base->base.Ns mainGlobals mg->FnOk P w K mg base CX k fa fd [x] sp) (hbind:∀ (s:Shared) (u:Value),BindsTo s fd ⟨[u],[]⟩ [(x,u)])
  (hsp:∀ H:Hp,Only H->SqL K H a (ns.map V.int)->sp [.ref a] H (fun v _=>v = .bl true) fun _ _ _=>False)
  (hCX:∀ H e s',CX [] H s₁ (fun _ _ _=>False) e s'->False) :
  codeAny (model P w) callerA (.call (.ref fa) ⟨[.ref a],[]⟩) (fun r s'=>r = .ok (.ret (.bool true))/\OldK s₁.heap s'.heap/\s'.os=s₁.os/\AllBare s'.gens) s₁:=by
 have rv:=ald hi;have lenV:=hi.length;have core:∀ H:Hp,Only H->SqL K H a (ns.map V.int)->HOk P w H s₁.heap->(∀ b,H b≠none->b=a)->(H a≠none->K.lookup a=none) ->
   codeAny (model P w) callerA (.call (.ref fa) ⟨[.ref a],[]⟩) (fun r s'=>r = .ok (.ret (.bool true))/\OldK s₁.heap s'.heap/\s'.os=s₁.os/\AllBare s'.gens) s₁:=by
  intro H hO hS hok hA hK;have base_of:∀ {b:Addr} {o:Obj},s₁.heap.get? b=some o->H b=none->(hidT s₁.heap H).get? b=some o:=fun e n=>atl e n
  have noA:∀ {b:Addr} {o:Obj} {es:Array DictEntry} {ep:Nat},s₁.heap.get? b=some o->o.data = .dict es ep->H b=none:=fun {b o es ep} e d=>by
   cases q:H b with
   | none=>rfl
   | some u =>
    have e':b=a:=hA b (by rw[q];simp);subst e';rw[ha] at e;cases e;have d':Data.seq vs.toArray _=Data.dict es ep:=d;cases d'
  have nsK:∀ {b:Addr} {m:Str->Option Value},s₁.heap.Ns b m->(hidT s₁.heap H).Ns b m:=fun {b m} ⟨o,es,ep,e,d,r⟩=>⟨o,es,ep,base_of e (noA e d),d,r⟩
  have hKb:K.In (hidT s₁.heap H):=fun b o e=>base_of (KX b o e) (by
   cases q:H b with
   | none=>rfl
   | some u =>
    have e':b=a:=hA b (by rw[q];simp);subst e';rw[hK (by rw[q];simp)] at e;cases e)
  have hM:Mod K mg (hidT s₁.heap H):=⟨hKb,nsK hns,⟨mb,nsK hb,hbb⟩,let ⟨mc,h1,h2⟩:=hlim;⟨mc,nsK h1,h2⟩⟩;have e0:Env0 P w K mg (hidT s₁.heap H) callerA [] s₁ H:=⟨rfl,hM,fun b o e=>awv e,Nat.le_of_eq (aph _ _),trivial,fun b hb=>absurd (show b∈([]:List Addr) from hb) (by simp),hok,.of_eq hg⟩;refine codeAny_mono ((F _ hKb (nsK hns)).run callerA [] s₁ H ⟨[.ref a],[]⟩ [.ref a] [.ref a] _ _ hr e0 (hbind s₁ (.ref a)) (.cons rfl .nil) (hsp H hO hS)) fun r s' h=>?_
  cases r with
  | error e=>exact (hCX H e s' h).elim
  | ok fl =>
   cases fl with
   | next=>exact False.elim h
   | brk=>exact False.elim h
   | cont=>exact False.elim h
   | ret u =>
    obtain⟨v,H',os,bare,un,hok',r',q⟩:=h;have q':v = .bl true:=q;subst q';obtain rfl:u=Value.bool true:=r';refine⟨rfl,OldK.of_keep fun b o e=>?_,os,bare⟩;cases q:H b with
    | none=>exact un.keep b o e q (by intro z;exact absurd (show b∈([]:List Addr) from z) (by simp)) (by simp)
    | some u =>
     rcases hO b with z | ⟨ob,xs,z⟩
     ·rw[q] at z;cases z
     ·have z2:=un.frzs b ob _ z;obtain⟨e1,_⟩:=hok b _ z;obtain⟨e2,_⟩:=hok' b _ z2;rw[e] at e1;cases e1;exact e2
 cases hk:K.lookup a with
 | some o =>
  have e:=KX a o hk;rw[ha] at e;cases e;refine core (fun _=>none) (fun _=>.inl rfl) (.inr ⟨_,vs.toArray,_,hk,rfl,rfl,rfl,by rw[List.size_toArray,lenV];exact hl,by simpa using rv⟩) (fun b u z=>by have z':(none:Option HO)=some u:=z;cases z') (fun b z=>absurd rfl z) fun z=>absurd rfl z
 | none =>
  refine core (fun b=>if b=a then some (.frz { cls:=.type "list",data:=.seq vs.toArray } (.lst (ns.map V.int))) else none) (fun b=>?_) (.inl (.inr ⟨{ cls:=.type "list",data:=.seq vs.toArray },if_pos rfl⟩)) (fun b u z=>?_) (fun b z=>?_) fun _=>hk
  ·by_cases hb:b=a
   ·exact .inr ⟨_,_,if_pos hb⟩
   ·exact .inl (if_neg hb)
  ·by_cases hb:b=a
   ·have z':=(if_pos hb).symm.trans z;cases z';subst hb;exact⟨ha,by rw[List.length_map];exact hl,vs,_,rv,ha⟩
   ·have z':=(if_neg hb).symm.trans z;cases z'
  ·by_cases hb:b=a
   ·exact hb
   ·exact absurd (if_neg hb) z
theorem walk_of {l:PySem.W.OpenLaw}{n k:Nat}{q:Program}{loose:List Str}{XP:(Str->Option Value)->Heap->Prop}{YP:World->Heap->Prop}{d:DefRec}{K:Params->PySem.W.Frag}{CX:World->CXT}{sp:World->Sp}{x:Str}
  (hn:l.most=some n) (hn2:n<=sizeLine) (hdf:d.params.defaults=[]) (hr:Room k callerA)
  (hY:∀ (w:World) (h:Heap),YP w h->(K w.params).In h)
  (F:∀ (w:World) (mg:Str->Option Value) (fa:Addr) (h:Heap),(K w.params).In h->h.Ns mainGlobals mg->mg d.name=some (.ref fa) ->∃ fd:FuncData,(∀ (s:Shared) (u:Value),BindsTo s fd ⟨[u],[]⟩ [(x,u)]) /\ ∀ base:Heap,(K w.params).In base->base.Ns mainGlobals mg->FnOk l.prog w (K w.params) mg base (CX w) k fa fd [x] (sp w))
  (hsp:∀ (w:World) (H:Hp) (a:Addr) (ns:List Int),ns.length<=n->Only H->SqL (K w.params) H a (ns.map V.int)->sp w [.ref a] H (fun v _=>v = .bl true) fun _ _ _=>False)
  (hCX:∀ (w:World) (H:Hp) (s:Shared) (e:Value) (s':Shared),CX w [] H s (fun _ _ _=>False) e s'->False) :
  PySem.W.WalkO q loose XP YP l.row.toRowW d [] (fun f vs=>PySem.call f vs):=by
 refine Att.attach_call hn hdf fun w s₀ s₁ mg mb fa o pm cd doc a vs ns G Y ho hd hcd hmg hobj hints hlen hg=>?_
 have KX:=hY w _ Y;obtain⟨fd,hb,hF⟩:=F w mg fa _ KX G.T.g hmg;exact ats KX G.T.g G.T.b G.T.builtins G.T.nolimit hg hobj hints (Nat.le_trans hlen hn2) hr hF hb (fun H hO hS=>hsp w H a ns hlen hO hS) fun H e s'=>hCX w H s₁ e s'
def ae9 (s:Stmt):Arguments:=match s with
 | .FunctionDef _ a _ _ _ _ _ _ _ _=>a
 | _=>{ posonlyargs:=[],args:=[],vararg:=none,kwonlyargs:=[],kw_defaults:=[],kwarg:=none,defaults:=[] }
def acv (s:Stmt):List Stmt:=match s with
 | .FunctionDef _ _ b _ _ _ _ _ _ _=>b
 | _=>[]
def aaj (s:Stmt):Scope:=match s with
 | .FunctionDef _ _ _ _ _ _ sc _ _ _=>sc
 | _=>{ kind:=.function,names:=[],isGenerator:=false,isCoroutine:=false }
abbrev CX0:CXT:=fun _ _ _ _ _ _=>False
abbrev E0:XK:=fun _ _ _=>False
theorem adg {X:Cx}:akq CX0 X E0:=fun _ _ _ _ _ _ _ h=>h.elim
structure Fun (K:PySem.W.Frag) (x qual:Str) (st:Stmt) (f:Addr) (fd:FuncData):Prop where
 ex:∃ (oc:Value) (od:Option Addr) (kV doc pm:Value) (an:Option Addr) (cdv ct:Value) (osl:Array (Option Value)),
  fd=PySem.W.fnOf x qual (ae9 st) (acv st) (aaj st) .none kV doc pm an cdv ct/\K.lookup f=some ⟨oc,od,.func fd,osl⟩/\PySem.W.codeIn K cdv qual=true
 kp:PySem.W.keepIn K (.ref f)=true
section
variable {P:Program}{w:World}{K:PySem.W.Frag}{mg:Str->Option Value}{base:Heap}
theorem Fun.ok {x qual:Str}{st:Stmt}{f:Addr}{fd:FuncData}{N ps:List Str}{k:Nat}{sp:Sp}(F:Fun K x qual st f fd) (S:FnScope N ps (aaj st)) (len:∀ vs H Q E,sp vs H Q E->vs.length=ps.length)
  (hbody:∀ (cdv:Value) (A:Around) (outer:List Env) (s:Shared) (H:Hp) (vs:List V) (Q:VK) (E:XK),Room k (A.deeper (envOfC qual (aaj st) s.heap.objs.size f cdv))->sp vs H Q E ->∃ t,PSs (cxOf CX0 P w K mg base N qual (aaj st) f cdv A outer s H E).nox (acv st) t/\t { nx:=fun _ H'=>Q .non H',rt:=Q } (afs N vs) H):FnOk P w K mg base CX0 (k+1) f fd ps sp:=by
 obtain⟨oc,od,kV,doc,pm,an,cdv,ct,osl,rfl,lk,hcd⟩:=F.ex;refine fn_of lk hcd S len fun A outer s H vs Q E hr hsp=>?_
 obtain⟨t,h,q⟩:=hbody cdv A outer s H vs Q E hr hsp;exact⟨t,h.nox,q⟩
theorem Fun.binds {x qual:Str}{st:Stmt}{f:Addr}{fd:FuncData}{ps:List Str}(F:Fun K x qual st f fd)
  (h:∀ (kV doc pm:Value) (an:Option Addr) (cdv ct:Value) (us:List Value),us.length=ps.length->bindArgs (PySem.W.fnOf x qual (ae9 st) (acv st) (aaj st) .none kV doc pm an cdv ct) ⟨us,[]⟩=pure (ps.zip us)):ahl K fd ps []:=by
 obtain⟨oc,od,kV,doc,pm,an,cdv,ct,osl,rfl,lk,hcd⟩:=F.ex;exact .all (h kV doc pm an cdv ct)
theorem abo {x qual:Str}{st:Stmt}{f:Addr}{oc:Value}{od an:Option Addr}{osl:Array (Option Value)}{kV doc pm cdv ct:Value}(l:K.lookup f=some ⟨oc,od,.func (PySem.W.fnOf x qual (ae9 st) (acv st) (aaj st) .none kV doc pm an cdv ct),osl⟩)
  (c:PySem.W.codeIn K cdv qual=true) (k:PySem.W.keepIn K (.ref f)=true):Fun K x qual st f (PySem.W.fnOf x qual (ae9 st) (acv st) (aaj st) .none kV doc pm an cdv ct):=⟨⟨oc,od,kV,doc,pm,an,cdv,ct,osl,rfl,l,c⟩,k⟩
end
theorem adt {A:Around}{k:Nat}(hr:Room k A):A.units+1<cLine:=Nat.lt_of_le_of_lt (Nat.add_le_add_left (by decide:1<=64) _) hr.units
section
variable {X:Cx}
theorem pv (i:Nat){x:Str}{pos:Pos}(hN:X.N[i]?=some x:=by rfl) (hv:Vis X.env.scope x:=by first | exact Or.inl rfl | exact Or.inr (Or.inl rfl) | exact Or.inr (Or.inr rfl)) (hd:(x == ("__debug__" : Str))=false:=by decide)
  (hcd:(x == ("__classdict__" : Str))=false:=by decide):PE X (.Name x pos) (tVar i):=avi hN hv hd hcd
theorem ar4:abr X (.builtin "len") (fun xs H Q=>∃ a kvs,xs=[V.ref a]/\H a=some (.dK kvs)/\Q (.int kvs.length) H):=by
 intro pins s σ H xs us Q I r h;obtain⟨a,kvs,rfl,ha,q⟩:=h;obtain⟨u,rfl,ru⟩:=ad8 r;cases ru;exact d_len I (.inl ha) fun t s' I'=>⟨.int kvs.length,H,I',⟨t,rfl⟩,q⟩
end
theorem iteF {A B:Prop}(h:B):if false=true then A else B:=by
 rw[if_neg Bool.false_ne_true];exact h
theorem ite2 {c A B:Prop} [Decidable c] (h1:c->A) (h2:¬ c->B):if c then A else B:=by
 by_cases h:c
 ·rw[if_pos h];exact h1 h
 ·rw[if_neg h];exact h2 h
def Same (H H':Hp):Prop:=∀ b o,H b=some o->H' b=some o
theorem Same.refl (H:Hp):Same H H:=fun _ _ h=>h
theorem Same.trans {H H1 H2:Hp}(a:Same H H1) (b:Same H1 H2):Same H H2:=fun c o h=>b c o (a c o h)
theorem Same.free {H H':Hp}(e:Same H H'){l:Addr}(h:H' l=Option.none):H l=Option.none:=by
 cases q:H l with
 | none=>rfl
 | some o =>
  rw[e l o q] at h;cases h
theorem Same.seq {K:PySem.W.Frag}{H H':Hp}{a:Addr}{xs:List V}(e:Same H H') (h:SqL K H a xs):SqL K H' a xs:=by
 rcases h with (h | ⟨o,h⟩) | h
 ·exact .inl (.inl (e _ _ h))
 ·exact .inl (.inr ⟨o,e _ _ h⟩)
 ·exact .inr h
section
variable {κ:Type} [DecidableEq κ]
theorem arf:∀ {l:List κ}{k:κ},l.Nodup->¬ k∈l->(l++[k]).Nodup
 | [],k,_,_=>by simp
 | a::r,k,h,hk=>by
  obtain⟨h1,h2⟩:=List.nodup_cons.mp h;show (a::(r++[k])).Nodup;refine List.nodup_cons.mpr ⟨fun m=>?_,arf h2 fun m=>hk (List.mem_cons.mpr (Or.inr m))⟩;rcases List.mem_append.mp m with q | q
  ·exact h1 q
  ·exact hk (List.mem_cons.mpr (Or.inl (List.mem_singleton.mp q).symm))
end
end L2
namespace PySem
structure XAt (h:Heap) (e:Addr) (cls:Value) (od:Option Addr) (T:Addr) (fl:Value):Prop where
 ex:∃ oe vs oT ts,h.get? e=some oe/\oe.cls=cls/\oe.dict=od/\oe.data = .fields vs/\vs[1]?=some (.ref T)/\T≠e/\h.get? T=some oT/\oT.data = .fields ts/\ts[3]?=some fl
structure XKeep (fs xs:List Addr) (h h':Heap):Prop where
 keep:∀ b o,h.get? b=some o->b∉xs->b∉fs->h'.get? b=some o
 slot:∀ b o,h.get? b=some o->b∉xs->∃ sl,h'.get? b=some { o with slots:=sl }
 there:∀ b o,h.get? b=some o->∃ o',h'.get? b=some o'
theorem XKeep.trans {fs xs:List Addr}{h h1 h2:Heap}(a:XKeep fs xs h h1) (b:XKeep fs xs h1 h2):XKeep fs xs h h2 where
 keep:=fun c o e n1 n2=>b.keep c o (a.keep c o e n1 n2) n1 n2
 slot:=fun c o e n1=>by
  obtain⟨s1,e1⟩:=a.slot c o e n1;obtain⟨s2,e2⟩:=b.slot c _ e1 n1;exact⟨s2,e2⟩
 there:=fun c o e=>by
  obtain⟨o1,e1⟩:=a.there c o e;exact b.there c o1 e1
theorem XKeep.more {fs xs ys:List Addr}{h h':Heap}(a:XKeep fs xs h h') (hs:∀ b∈xs,b∈ys):XKeep fs ys h h' :=
 ⟨fun c o e n1 n2=>a.keep c o e (fun z=>n1 (hs _ z)) n2,fun c o e n1=>a.slot c o e fun z=>n1 (hs _ z),a.there⟩
section
variable {M:Model}{A:Around}{E:Value->Shared->Prop}{s:Shared}
abbrev frOf (l:List Env):List Addr:=l.filterMap (·.frame)
theorem agd {h base:Heap}{l:List Env}(hl:h.FunFrames base l){e:Addr}{oe:Obj}{vs:Array Value}(he:h.get? e=some oe) (hd:oe.data = .fields vs):e∉frOf l:=fun hm=>by
 obtain⟨_,o,ho,hnf⟩:=hl.mem hm;have:=ho.symm.trans he;cases this;exact hnf vs hd
theorem aq8 {base:Heap}{env:Env}{outer:List Env}{L e:Addr}{oe:Obj}{vs:Array Value}{head:Value}{had:Bool}{Q:Unit->Shared->Prop}
  (hfr:A.frames=some (env::outer)) (hl:s.heap.FunFrames base (env::outer)) (hf:env.frame=some L) (he:s.heap.get? e=some oe) (hd:oe.data = .fields vs) (hsz:1<vs.size)
  (k:∀ h' T,XKeep (frOf (env::outer)) [e] s.heap h'->XAt h' e oe.cls oe.dict T (rawInt L)->s.heap.objs.size<=T->Q () { s with heap:=h' }) :
  wpAny M A (do let a ← frameOf env;let pl ← entryPlaceOf L had;let b ← EntryCells.newEntry head a .none (rawInt L) .none pl;setField (.ref e) 1 b) Q E s:=by
 have hne:=agd hl he hd;refine wpAny_bind (wpAny_frameOf_fun hfr hl hf fun g so=>wpAny_bind (wpAny_entryPlaceOf fun pl hpl=>?_));unfold EntryCells.newEntry newFields;have ge:g.get? e=some oe:=by rw[so.2.1 e hne];exact he
 have hTe:g.objs.size≠e:=fun z=>absurd (Heap.lt_size ge) (by rw[z];exact Nat.lt_irrefl _)
 refine wpAny_bind (wpAny_newObj_type ?_ (hpl.sizeOk5 _ _ _ _ _));generalize hob:({ cls:=.type "traceback",dict:=none,data:=.fields _ }:Obj)=ob;refine wpAny_setField (Heap.get?_push_of_some ob ge) hd hsz (k _ g.objs.size ?_ ?_ ?_)
 ·have st:∀ b o,g.get? b=some o->b≠e->((g.push ob).update e (Obj.mapFields (·.setIfInBounds 1 (Value.ref g.objs.size)))).get? b=some o:=fun b o hb n=>by
   rw[Heap.get?_update_other _ _ (Ne.symm n)];exact Heap.get?_push_of_some _ hb
  refine⟨fun b o hb n1 n2=>st b o (by rw[so.2.1 b n2];exact hb) (by simpa using n1),fun b o hb n1=>?_,fun b o hb=>?_⟩
  ·obtain⟨sl,q⟩:=so.2.2 b o hb;exact⟨sl,st b _ q (by simpa using n1)⟩
  ·obtain⟨sl,q⟩:=so.2.2 b o hb;by_cases n:b=e
   ·subst n;exact⟨_,Heap.get?_update_self _ (Heap.get?_push_of_some ob ge) (Obj.isFreed_of_fields (Obj.data_mapFields hd _))⟩
   ·exact⟨_,st b _ q n⟩
 ·refine⟨_,_,ob,_,Heap.get?_update_self _ (Heap.get?_push_of_some ob ge) (Obj.isFreed_of_fields (Obj.data_mapFields hd _)),Obj.cls_mapFields _ _,?_,Obj.data_mapFields hd _,by simp[hsz],hTe,?_,by rw[← hob],?_⟩
  ·obtain⟨c,dc,dt,sl⟩:=oe;simp only at hd;subst hd;rfl
  ·rw[Heap.get?_update_other _ _ (Ne.symm hTe)];exact Heap.get?_push_size g (by rw[← hob];rfl)
  ·rcases hpl with rfl | ⟨_,_,_,_,_,_,_,rfl⟩<;>simp
 ·rw[so.1];exact Nat.le_refl _
theorem agi {e T:Addr}{cls fl:Value}{od:Option Addr}{Q:Unit->Shared->Prop}(x:XAt s.heap e cls od T fl)
  (k:∀ h',XKeep [] [T] s.heap h'->XAt h' e cls od T .none->Q () { s with heap:=h' }):wpAny M A (setFlight (.ref e) none) Q E s:=by
 obtain⟨oe,vs,oT,ts,he,hc,hdi,hd,h1,hTe,hT,hdT,h3⟩:=x.ex;have z3:3<ts.size:=(Array.getElem?_eq_some_iff.mp h3).1;unfold setFlight;refine wpAny_bind (wpAny_field he hd h1 ?_);rw[if_pos (by simp)];refine wpAny_setField hT hdT z3 (k _ ?_ ?_)
 ·have ot:∀ b o,s.heap.get? b=some o->b≠T->(s.heap.update T (Obj.mapFields (·.setIfInBounds 3 ((none:Option Addr).elim Value.none fun f=>rawInt f)))).get? b=some o:=fun b o hb n=>by
   rw[Heap.get?_update_other _ _ (Ne.symm n)];exact hb
  refine⟨fun b o hb n1 _=>ot b o hb (by simpa using n1),fun b o hb n1=>⟨o.slots,ot b o hb (by simpa using n1)⟩,fun b o hb=>?_⟩;by_cases n:b=T
  ·subst n;exact⟨_,Heap.get?_update_self _ hT (Obj.isFreed_of_fields (Obj.data_mapFields hdT _))⟩
  ·exact⟨o,ot b o hb n⟩
 ·exact⟨oe,vs,_,_,by rw[Heap.get?_update_other _ _ hTe];exact he,hc,hdi,hd,h1,hTe,Heap.get?_update_self _ hT (Obj.isFreed_of_fields (Obj.data_mapFields hdT _)),Obj.data_mapFields hdT _,by simp[z3]⟩
theorem awx {base:Heap}{env:Env}{outer:List Env}{L e:Addr}{oe:Obj}{vs:Array Value}{Q:Unit->Shared->Prop}
  (hfr:A.frames=some (env::outer)) (hl:s.heap.FunFrames base (env::outer)) (hf:env.frame=some L) (he:s.heap.get? e=some oe) (hd:oe.data = .fields vs) (h1:vs[1]?=some .none)
  (k:∀ h' T,XKeep (frOf (env::outer)) [e] s.heap h'->XAt h' e oe.cls oe.dict T (rawInt L)->s.heap.objs.size<=T->Q () { s with heap:=h' }):wpAny M A (noteFrame (.ref e) env) Q E s:=by
 unfold noteFrame;simp only[hf];refine wpAny_bind (wpAny_field he hd h1 ?_);rw[if_neg (by decide)];exact aq8 hfr hl hf he hd (Array.getElem?_eq_some_iff.mp h1).1 k
theorem arl {base:Heap}{env:Env}{outer:List Env}{L e T:Addr}{cls:Value}{od:Option Addr}{Q:Unit->Shared->Prop}
  (hfr:A.frames=some (env::outer)) (hl:s.heap.FunFrames base (env::outer)) (hf:env.frame=some L) (x:XAt s.heap e cls od T .none)
  (k:∀ h' T',XKeep (frOf (env::outer)) [e,T] s.heap h'->XAt h' e cls od T' (rawInt L)->s.heap.objs.size<=T'->Q () { s with heap:=h' }):wpAny M A (noteFrame (.ref e) env) Q E s:=by
 obtain⟨oe,vs,oT,ts,he,hc,hdi,hd,h1,hTe,hT,hdT,h3⟩:=x.ex;subst hc hdi;unfold noteFrame;simp only[hf];refine wpAny_bind (wpAny_field he hd h1 ?_);rw[if_pos (by simp)];refine wpAny_bind (wpAny_field hT hdT h3 ?_);rw[if_neg (by simp[rawInt])];refine wpAny_bind (wpAny_setField hT hdT (Array.getElem?_eq_some_iff.mp h3).1 ?_);have ot:∀ b o,s.heap.get? b=some o->b≠T->(s.heap.update T (Obj.mapFields (·.setIfInBounds 3 Value.none))).get? b=some o:=fun b o hb n=>by
  rw[Heap.get?_update_other _ _ (Ne.symm n)];exact hb
 have kp:XKeep (frOf (env::outer)) [e,T] s.heap (s.heap.update T (Obj.mapFields (·.setIfInBounds 3 Value.none))):=by
  refine⟨fun b o hb n1 _=>ot b o hb (fun z=>n1 (by simp[z])),fun b o hb n1=>⟨o.slots,ot b o hb (fun z=>n1 (by simp[z]))⟩,fun b o hb=>?_⟩;by_cases n:b=T
  ·subst n;exact⟨_,Heap.get?_update_self _ hT (Obj.isFreed_of_fields (Obj.data_mapFields hdT _))⟩
  ·exact⟨o,ot b o hb n⟩
 refine aq8 hfr (hl.of_keeps fun b o hb nf=>⟨o,ot b o hb fun z=>?_,rfl⟩) hf (ot e oe he (Ne.symm hTe)) hd (Array.getElem?_eq_some_iff.mp h1).1 fun h' T' kp' x' n'=>k h' T' (kp.trans (kp'.more fun b z=>by simp at z;simp[z])) x' ?_
 ·subst z;have:=hb.symm.trans hT;cases this;exact nf ts hdT
 ·rw[Heap.size_update] at n';exact n'
theorem atz {base:Heap}{env:Env}{outer:List Env}{L e:Addr}{oe:Obj}{vs:Array Value}{Q:Unit->Shared->Prop}
  (hfr:A.frames=some (env::outer)) (hl:s.heap.FunFrames base (env::outer)) (hf:env.frame=some L) (he:s.heap.get? e=some oe) (hd:oe.data = .fields vs) (h1:vs[1]?=some .none)
  (k:∀ h' T,XKeep (frOf (env::outer)) [e] s.heap h'->XAt h' e oe.cls oe.dict T .none->s.heap.objs.size<=T->Q () { s with heap:=h' }):wpAny M A (leaving env (.ref e)) Q E s:=by
 unfold leaving;refine wpAny_bind (awx hfr hl hf he hd h1 fun h1' T kp x nT'=>have nT:=Heap.get?_none_of_le nT';agi x fun h2 kp2 x2=>k h2 T ⟨fun b o e1 n1 n2=>?_,fun b o e1 n1=>?_,fun b o e1=>?_⟩ x2 nT')
 ·exact kp2.keep b o (kp.keep b o e1 n1 n2) (fun z=>by simp at z;subst z;rw[nT] at e1;cases e1) (by simp)
 ·obtain⟨s1,q1⟩:=kp.slot b o e1 n1;exact⟨s1,kp2.keep b _ q1 (fun z=>by simp at z;subst z;rw[nT] at e1;cases e1) (by simp)⟩
 ·obtain⟨o1,q1⟩:=kp.there b o e1;exact kp2.there b o1 q1
theorem asy {base:Heap}{env:Env}{outer:List Env}{L e T:Addr}{cls:Value}{od:Option Addr}{Q:Unit->Shared->Prop}
  (hfr:A.frames=some (env::outer)) (hl:s.heap.FunFrames base (env::outer)) (hf:env.frame=some L) (x:XAt s.heap e cls od T .none)
  (k:∀ h' T',XKeep (frOf (env::outer)) [e,T] s.heap h'->XAt h' e cls od T' .none->s.heap.objs.size<=T'->Q () { s with heap:=h' }):wpAny M A (leaving env (.ref e)) Q E s:=by
 unfold leaving;refine wpAny_bind (arl hfr hl hf x fun h1' T' kp x' nT'=>have nT:=Heap.get?_none_of_le nT';agi x' fun h2 kp2 x2=>k h2 T' ⟨fun b o e1 n1 n2=>?_,fun b o e1 n1=>?_,fun b o e1=>?_⟩ x2 nT')
 ·exact kp2.keep b o (kp.keep b o e1 n1 n2) (fun z=>by simp at z;subst z;rw[nT] at e1;cases e1) (by simp)
 ·obtain⟨s1,q1⟩:=kp.slot b o e1 n1;exact⟨s1,kp2.keep b _ q1 (fun z=>by simp at z;subst z;rw[nT] at e1;cases e1) (by simp)⟩
 ·obtain⟨o1,q1⟩:=kp.there b o e1;exact kp2.there b o1 q1
end
section
variable {prog:Program}{w:World}{A:Around}{E:Value->Shared->Prop}{h:Heap}{g:Array GenState}{d:Drawn}{t:Nat}{os:OsState}
variable {nm q:Str}{C N:Addr}{bs bm bmB:List Value}{hdct:Bool}{sn:List Str}{sub:List Value}{ab:Bool}{col:Option Bool}{dd:Option Addr}{k0 k1 k2 k3 k5:Option Value}{B Bn newId nid initId inN:String}{bmN:List Value}
abbrev xTup (args:List Value):Obj:={ cls:=.type "tuple",data:=.seq args.toArray }
abbrev xNew (C t:Addr):Obj:={ cls:=.ref C,data:=.fields #[.ref t,.none,.none,.none,.bool false,.none] }
theorem x_made (Fn:ExcBaseFacts Bn newId inN bmN) (hBn:bmB.contains (.type Bn)=true) (F:ExcBaseFacts B nid initId bmB) (T:OwnTail h bmB bm){mN:Str->Option Value}{args:List Value}{fI:Addr}{oI:Obj}{Q:Fin->Shared->Prop}
  (cC:h.get? C=some (excClassObj nm q C N bs bm hdct sn sub ab col dd k0 k1 k2 k3 k5 newId)) (cN:h.Ns N mN) (ci:mN "__init__" = some (.ref fI)) (cf:h.get? fI=some oI) (ct:oI.cls = .type "function") (hz:args.length<=sizeLine)
  (k:∀ h' e,h.objs.size<=e->Heap.MadeExcOf h h' e (.ref C) args->wpAny (model prog w) A (call (.ref fI) (.ref e::args)) (fun r s'=>r = .none/\Q (.done (.ret (.ref e))) s') E ⟨h',g,d,t,os⟩) :
  wpAny (model prog w) A (Builtin.«type.__call__» ⟨.ref C::args,[]⟩) Q E ⟨h,g,d,t,os⟩:=by
 repeat (first | with_reducible refine wpAny_loadPart_at cC ?_ | with_reducible refine wpAny_madeBy_exc cC ?_ | wp_step)
 refine codeAny_call_builtin_code (Code.quiet_builtin _ Fn.quiet) (wpAny_check_new_subU Fn hBn T cC (codeAny_exc_new_subU Fn hBn F T cC ?_ hz));show wpAny _ _ _ _ _ _;have up:∀ b o,h.get? b=some o->((h.push (xTup args)).push (xNew C h.objs.size)).get? b=some o:=fun b o z=>Heap.get?_push_of_some _ (Heap.get?_push_of_some _ z)
 have ge:((h.push (xTup args)).push (xNew C h.objs.size)).get? (h.objs.size+1)=some (xNew C h.objs.size):=Heap.get?_push_at (by rw[Heap.size_push]) rfl;have gt:((h.push (xTup args)).push (xNew C h.objs.size)).get? h.objs.size=some (xTup args):=Heap.get?_push_of_some _ (Heap.get?_push_at rfl rfl);have cC1:=up C _ cC;have cN1:((h.push (xTup args)).push (xNew C h.objs.size)).Ns N mN:=let ⟨o,es,ep,e,r⟩:=cN;⟨o,es,ep,up _ _ e,r⟩;have own:(Value.ref C::bm).contains (.ref C)=true:=by simp
 unfold isInstance
 repeat (first | with_reducible refine wpAny_loadPart_at ge ?_ | (with_reducible refine wpAny_isSubtype_exc cC1 ?_;rw[own]) | wp_step)
 show wpAny _ _ (typeLookup (.ref C) _) _ _ _;refine wpAny_typeLookup_tail cC1 cN1 (T.keeps up) F.mroIs F.init.lookup ?_;rw[ci];refine wpAny_holding (wpAny_bind ?_);unfold bindSpecial;refine wpAny_bind (wpAny_typeOf (T := "function") ⟨_,up _ _ cf,ct⟩ ?_);rw[if_pos (by decide)];refine wpAny_pure (wpAny_bind (wpAny_mono (k _ (h.objs.size+1) (Nat.le_succ _) ⟨up,Heap.get?_none_of_le (Nat.le_succ _),h.objs.size,ge,Heap.get?_none_of_le (Nat.le_refl _),gt⟩) (fun r s' hr=>?_) fun _ _ z=>z));obtain⟨rfl,hQ⟩:=hr
 wp_walk
 exact hQ
theorem x_call (Fn:ExcBaseFacts Bn newId inN bmN) (hBn:bmB.contains (.type Bn)=true) (F:ExcBaseFacts B nid initId bmB) (T:OwnTail h bmB bm){mN:Str->Option Value}{args:List Value}{fI:Addr}{oI:Obj}{Q:Value->Shared->Prop}
  (cC:h.get? C=some (excClassObj nm q C N bs bm hdct sn sub ab col dd k0 k1 k2 k3 k5 newId)) (cN:h.Ns N mN) (ci:mN "__init__" = some (.ref fI)) (cf:h.get? fI=some oI) (ct:oI.cls = .type "function") (hz:args.length<=sizeLine)
  (k:∀ h' e,h.objs.size<=e->Heap.MadeExcOf h h' e (.ref C) args->wpAny (model prog w) (A.under (.builtin "type.__call__" ⟨.ref C::args,[]⟩)) (call (.ref fI) (.ref e::args)) (fun r s'=>r = .none/\Q (.ref e) s') E ⟨h',g,d,t,os⟩) :
  wpAny (model prog w) A (call (.ref C) args) Q E ⟨h,g,d,t,os⟩:=by
 have l1:=tc_lookup;have l2:=tc_bind (.ref C);have l3:(⟨h,g,d,t,os⟩:Shared).TypeIs (.ref C) "type" := ⟨_,cC,rfl⟩;refine wpAny_call (codeAny_of_tree ?_);show wpAny _ _ (callAny (.ref C) _) _ _ _
 repeat (any_goals (first | assumption | with_reducible refine wpAny_loadPart_at cC ?_ | wp_step))
 refine⟨rfl,codeAny_call_builtin_at (Code.quiet_builtin _ (by decide +kernel)) entry_typeCall (wpAny_check_type_call_sub cC (x_made Fn hBn F T cC cN ci cf ct hz fun h' e hl hm=>k h' e hl hm))⟩
theorem axd {env:Env}{s:Shared}{x:Sem Value}{Q:Flow->Shared->Prop}(hh:A.handled=none)
  (k:wpAny (model prog w) A x (fun v s1=>∃ (e:Addr) (oe:Obj) (vs:Array Value) (C N:Addr) (bm:List Value) (nm q:Str) (bs:List Value) (hdct:Bool) (sn:List Str) (sub:List Value) (ab:Bool) (col:Option Bool) (dd:Option Addr) (k0 k1 k2 k3 k5:Option Value) (newId:String),v = .ref e /\ s1.heap.get? C=some (excClassObj nm q C N bs bm hdct sn sub ab col dd k0 k1 k2 k3 k5 newId)/\bm.contains (.type "BaseException")=true/\s1.heap.get? e=some oe/\oe.cls = .ref C/\oe.data = .fields vs/\vs[1]?=some .none/\E (.ref e) s1) E s) :
  wpAny (model prog w) A (raiseStmt env (some x) none) Q E s:=by
 unfold raiseStmt;refine wpAny_bind (wpAny_mono k (fun v s1 z=>?_) fun _ _ z=>z);obtain⟨e,oe,vs,C,N,bm,nm,q,bs,hdct,sn,sub,ab,col,dd,k0,k1,k2,k3,k5,newId,rfl,cC,hB,he,hc,hd,h1,hE⟩:=z;have isB:(Value.ref C::bm).contains (.type "BaseException")=true:=by rw[List.contains_cons,hB,Bool.or_true]
 obtain⟨hp,g1,d1,tk,os1⟩:=s1;obtain⟨oc,od,odt,osl⟩:=oe;simp only at hc hd;subst hc hd
 repeat (first | with_reducible refine wpAny_loadPart_at he ?_ | with_reducible refine wpAny_loadPart_at cC ?_ | (with_reducible refine wpAny_isSubtype_exc cC ?_;rw[isB]) | wp_step)
 rw[h1];refine wpAny_pure ?_;rw[if_neg (by decide)];exact wpAny_pure (wpAny_raiseNew_none hh hE)
end
end PySem
namespace L2
open PySem PySem.Spec PyProof.Rows
def ExC (e:Addr) (C:Value) (od:Option Addr):HO:=.ext fun h=>∃ oe vs,h.get? e=some oe/\oe.cls=C/\oe.dict=od/\oe.data = .fields vs
def AnyO (a:Addr):HO:=.ext fun h=>∃ o,h.get? a=some o
theorem avc {P:Program}{w:World}{H:Hp}{h:Heap}{e:Addr}{C:Value}{od:Option Addr}{oe:Obj}{vs:Array Value}(he:h.get? e=some oe) (h1:oe.cls=C) (h2:oe.dict=od) (h3:oe.data = .fields vs):ack P w H h e (ExC e C od) :=
 ⟨⟨oe,vs,he,h1,h2,h3⟩,⟨_,he⟩,fun _ _ ⟨oe,vs,z,r⟩ k=>⟨oe,vs,k _ z,r⟩⟩
theorem alp {P:Program}{w:World}{H:Hp}{h:Heap}{a:Addr}{o:Obj}(he:h.get? a=some o):ack P w H h a (AnyO a):=⟨⟨o,he⟩,⟨_,he⟩,fun _ _ ⟨o,z⟩ k=>⟨o,k _ z⟩⟩
theorem xat_ok {P:Program}{w:World}{H:Hp}{h:Heap}{e T:Addr}{C fl:Value}{od:Option Addr}(x:XAt h e C od T fl):ack P w H h e (ExC e C od):=by
 obtain⟨oe,vs,oT,ts,he,hc,hdi,hd,_⟩:=x.ex;exact avc he hc hdi hd
theorem aw0 {P:Program}{w:World}{H:Hp}{h:Heap}{e T:Addr}{C fl:Value}{od:Option Addr}(x:XAt h e C od T fl):ack P w H h T (AnyO T):=by
 obtain⟨oe,vs,oT,ts,_,_,_,_,_,_,hT,_⟩:=x.ex;exact alp hT
theorem ajo {P:Program}{w:World}{H:Hp}{h h':Heap}{fs xs:List Addr}{e T:Addr}{C fl:Value}{od:Option Addr}(hok:HOk P w H h) (k:XKeep fs xs h h') (hf:∀ b∈fs,H b=none) (he:H e=some (ExC e C od)) (hx:∀ b∈xs,b=e\/H b=some (AnyO b)) (x:XAt h' e C od T fl) (hT:H T=none) :
  HOk P w (upd H T (AnyO T)) h':=fun a o q=>by
 by_cases n:a=T
 ·subst n;rw[aaa] at q;cases q;exact aw0 x
 rw[aad n] at q;by_cases ne:a=e
 ·subst ne;rw[he] at q;cases q;exact xat_ok x
 by_cases nx:a∈xs
 ·rcases hx a nx with z | z
  ·exact absurd z ne
  ·rw[z] at q;cases q;obtain⟨⟨o,ho⟩,_⟩:=hok a _ z;obtain⟨o',ho'⟩:=k.there a o ho;exact alp ho'
 refine (hok a o q).stay (fun b u hb r=>k.keep b u r (fun z=>?_) fun z=>?_) (fun b r=>?_) fun b ys r=>?_
 ·rcases hb with rfl | hb
  ·exact nx z
  ·rcases hx b z with y | y
   ·rw[y,he] at hb;cases hb
   ·rw[y] at hb;cases hb
 ·have:=hf b z;rcases hb with rfl | hb
  ·rw[q] at this;cases this
  ·rw[hb] at this;cases this
 ·rw[aad (fun z=>by rw[z,hT] at r;cases r)];exact r
 ·rw[aad (fun z=>by rw[z,hT] at r;cases r)];exact r
theorem amp {fs fs' xs:List Addr}{H0 H:Hp}{h0 h h':Heap}{T:Addr}{o:HO}(u:Un fs [] H0 H h0 h) (k:XKeep fs' xs h h') (hf:∀ b o,h0.get? b=some o->b∈fs'->b∈fs) (hx:∀ b∈xs,H b≠none) (hT:H T=none) (lT:h.objs.size<=T):Un fs [] H0 (upd H T o) h0 h' where
 keep:=fun b v q n nf nx=>k.keep b v (u.keep b v q n nf nx) (fun z=>hx b z (u.free b v q n nx)) fun z=>nf (hf b v q z)
 slot:=fun b v q n hb nx=>by
  obtain⟨sl,e⟩:=u.slot b v q n hb nx;obtain⟨sl2,e2⟩:=k.slot b _ e fun z=>hx b z (u.free b v q n nx)
  exact⟨sl2,e2⟩
 free:=fun b v q n nx=>by
  obtain⟨o',e⟩:=u.there b v q nx;rw[aad (fun z=>absurd (Heap.lt_size e) (by rw[z];exact Nat.not_lt.mpr lT))];exact u.free b v q n nx
 there:=fun b v q nx=>let ⟨o',e⟩:=u.there b v q nx;k.there b o' e
 tups:=fun b ys q=>by
  have:=u.tups b ys q;rw[aad (fun z=>by rw[z,hT] at this;cases this)];exact this
 frzs:=fun b v x q=>by
  have:=u.frzs b v x q;rw[aad (fun z=>by rw[z,hT] at this;cases this)];exact this
 tbls:=fun b ps q=>by
  obtain⟨m,e⟩:=u.tbls b ps q;rw[aad (fun z=>by rw[z,hT] at e;cases e)];exact⟨m,e⟩
def CXe (P:Program) (w:World):CXT:=fun outer H s E ev s'=>∃ (e T:Addr) (C:Value) (od:Option Addr) (H':Hp),ev = .ref e/\s'.os=s.os/\AllBare s'.gens/\Un (frs outer) [] H H' s.heap s'.heap/\HOk P w H' s'.heap /\
 XAt s'.heap e C od T .none/\H' e=some (ExC e C od)/\H' T=some (AnyO T)/\E C od H'
section
variable {P:Program}{w:World}{K:PySem.W.Frag}{mg:Str->Option Value}{base:Heap}{N:List Str}{qual:Str}{scope:Scope}{f:Addr}{cd:Value}{A:Around}{outer:List Env}{s0:Shared}{H0:Hp}{E E1:XK}
theorem avb {b:Addr}{o:Obj}(q:s0.heap.get? b=some o) (hb:b∈frOf (envOfC qual scope s0.heap.objs.size f cd::outer)):b∈frs outer:=by
 unfold frOf at hb;rw[List.filterMap_cons] at hb;rcases List.mem_cons.mp hb with z | z
 ·have:=Heap.lt_size q;rw[z] at this;exact absurd this (Nat.lt_irrefl _)
 ·exact z
theorem passX (hE:∀ C od H e T',E1 C od H->H e=some (ExC e C od)->H T'=none->E C od (upd H T' (AnyO T'))):akq (CXe P w) (cxOf (CXe P w) P w K mg base N qual scope f cd A outer s0 H0 E) E1:=by
 intro pins σ H s ev s' I h;obtain⟨e,T,C,od,H',rfl,hos,hb,un,hok,xa,te,tT,h1⟩:=h;have I':Inv (cxOf (CXe P w) P w K mg base N qual scope f cd A outer s0 H0 E) pins σ H' s':=I.call' (ch:=[]) hos un hok hb (fun b z=>absurd z (by simp));refine asy (base:=base) (env:=envOfC qual scope s0.heap.objs.size f cd) (outer:=outer) (L:=s0.heap.objs.size) I'.ok.frames I'.stack rfl xa fun h' T' kp x' nT'=>?_
 have hT':H' T'=none:=hok.fresh nT';have ne:T'≠e:=fun z=>by rw[z,te] at hT';cases hT'
 have hx:∀ b∈[e,T],b=e\/H' b=some (AnyO b):=fun b z=>by
  rcases List.mem_cons.mp z with z | z
  ·exact .inl z
  ·rw[List.mem_singleton.mp z];exact .inr tT
 refine⟨e,T',C,od,upd H' T' (AnyO T'),rfl,I'.os,I'.bare,amp I'.base kp (fun b o q z=>avb q z) (fun b z=>?_) hT' nT',ajo hok kp I'.stkFree te hx x' hT',x',by rw[aad ne.symm];exact te,aaa,hE C od H' e T' h1 te hT'⟩;rcases hx b z with y | y
 ·rw[y,te];simp
 ·rw[y];simp
end
end L2
namespace PySem.W
open PySem PySem.Calls PyProof.Rows Builtin Builtin.ObjectAttr
section
variable {prog:Program}{w:World}{A:Around}{E:Value->Shared->Prop}{s:Shared}{K:Frag}{x C:Addr}{ox:Obj}{od:Option Obj}{name:Str}{expr:Bool}{Q:Value->Shared->Prop}
theorem anz:builtinKind "BaseException.__getattribute__" = some .slot:=by decide +kernel
theorem ajy:splitId "BaseException.__getattribute__" = some ("BaseException","__getattribute__"):=by decide +kernel
theorem aqf (x v:Value):slotArgs "__getattribute__" 1 ⟨[x,v],[]⟩=pure (x,[v]):=by kernel_rfl
theorem x_attr {v:Value}(X:K.In s.heap) (I:InstAt s.heap x ox C od) (hga:findIn K (.ref C) "__getattribute__" = some (some (.builtin "BaseException.__getattribute__"))) (hk:findIn K (.ref C) "__getattr__" = some none)
  (hB:mroIn K C (.type "BaseException")=some true) (hf:findObj K C od name=some (.value v)) (hh:handedIn v=true) (h:Q v { s with toks:=s.toks+1 }):wpAny (model prog w) A (getAttr (.ref x) name expr) Q E s:=by
 obtain⟨hp,g,d,t,os⟩:=s;have L0:=I.type (M:=model prog w);have L1:=looks_findIn (M:=model prog w) X hga;have L2:Looks (model prog w) hp (hookBefore (.ref C)) none:=looks_hook X hk;have L3:=looks_find (M:=model prog w) X I hf;have L4:Looks (model prog w) hp (isInstance (.ref x) (.type "BaseException")) true:=L0.andThen (looks_mroIn X hB);have nb:(onTheHeap (Value.ref C)&&Value.builtin "BaseException.__getattribute__" == Value.builtin "object.__getattribute__")=false:=by
  rw[show (Value.builtin "BaseException.__getattribute__" == Value.builtin "object.__getattribute__")=false by decide +kernel];rfl
 have ne:(expr&&onTheHeap (Value.builtin "BaseException.__getattribute__"))=false:=by cases expr<;>rfl
 unfold getAttr getAttrBy;refine wpAny_bind (wpAny_mkText (wpAny_holding (wpAny_bind (L0.at (wpAny_bind (L1.at ?_))))));simp only[nb,Bool.false_eq_true,if_false];unfold getAttrByItsOwn;refine wpAny_bind (L2.at (wpAny_bind (wpAny_attempt (wpAny_holding ?_))));unfold callGetattribute;simp only[ne,Bool.false_eq_true,if_false];unfold boundAndCalled;rw[PySem.F.excAttr_ValueError.ga.bind];refine wpAny_bind (wpAny_pure ?_);show wpAny _ _ (call (Value.builtin "BaseException.__getattribute__") [Value.ref x,Value.str name t]) _ _ _;refine wpAny_call (codeAny_call_builtin PySem.F.excAttr_ValueError.ga.plain PySem.F.entry_bexc_ga (@check_slot (model prog w) _ _ ⟨hp,g,d,t+1,os⟩ "BaseException.__getattribute__" "BaseException" "__getattribute__" (.ref x) [.str name t] [] _ anz ajy L4 (PySem.F.args_bexc_ga (.ref x) (.str name t)) ?_));unfold Builtin.«object.__getattribute__»;rw[aqf];refine wpAny_bind (wpAny_pure ?_);show wpAny _ _ (attrName (Value.str name t) >>= _) _ _ _;rw[show attrName (Value.str name t)=pure name from rfl];refine wpAny_bind (wpAny_pure (wpAny_bind (L0.at (wpAny_bind (L3.at (wpAny_pure ?_))))));show wpAny _ _ (handedOut v) _ _ _;rw[handedOut_of hh];exact wpAny_pure h
end
section
variable {prog:Program}{w:World}{A:Around}{E:Value->Shared->Prop}{s:Shared}{K:Frag}{x C:Addr}{ox:Obj}{name:Str}
theorem x_set {cd:ClassData}{v:Value}{vs:Array Value}{Q:Unit->Shared->Prop}(X:K.In s.heap) (hx:s.heap.get? x=some ox) (hc:ox.cls = .ref C) (hd:ox.dict=none) (hda:ox.data = .fields vs)
  (hsa:findIn K (.ref C) "__setattr__" = some (some (.builtin "object.__setattr__"))) (hcl:clsIn K C=some cd) (hh:cd.hasDict=true) (hO:mroIn K C (.type "object")=some true) (hp:refuseLoop (.ref x) "__setattr__" cd.mro=pure ()) (hn:findIn K (.ref C) name=some none)
  (k:∀ h' tk',h'.get? x=some { ox with dict:=some s.heap.objs.size }->h'.Ns1 s.heap.objs.size (fun y=>if y=name then some v else none)->(∀ b o,b≠x->s.heap.get? b=some o->h'.get? b=some o)->Q () { s with heap:=h',toks:=tk' }) :
  wpAny (model prog w) A (setAttr (.ref x) name v) Q E s:=by
 obtain⟨h0,g,d,t,os⟩:=s;have SF:=PySem.F.store_ValueError;have I:InstAt h0 x ox C none:=⟨hx,hc,by unfold notCls;rw[hda],by rw[hd];trivial⟩;have L0:=I.type (M:=model prog w);have L1:=looks_findIn (M:=model prog w) X hsa;have L2:Looks (model prog w) h0 (isInstance (.ref x) (.type "object")) true:=L0.andThen (looks_mroIn X hO);have L3:Looks (model prog w) h0 (mroOf (.ref C)) cd.mro:=(looks_clsIn X hcl).andThen .now;have L4:=looks_findIn (M:=model prog w) X hn;unfold setAttr;refine wpAny_bind (wpAny_mkText ?_);refine wpAny_bind (wpAny_bind (wpAny_bind (L0.at (L1.at (wpAny_holding (wpAny_bind ?_))))));rw[SF.slot.bind];refine wpAny_pure (wpAny_bind ?_);show wpAny _ _ (call (Value.builtin "object.__setattr__") [Value.ref x,Value.str name t,v]) _ _ _;refine wpAny_call (codeAny_call_builtin SF.slot.plain SF.entry (@check_slot (model prog w) _ _ ⟨h0,g,d,t+1,os⟩ "object.__setattr__" "object" "__setattr__" (.ref x) [.str name t,v] [] _ SF.kind SF.split L2 (SF.args (.ref x) (.str name t) v) ?_));rw[osa_eq,refuse_eq];refine wpAny_bind (wpAny_bind (L0.at (wpAny_bind (L3.at ?_))));rw[hp];refine wpAny_pure (wpAny_bind (L0.at (wpAny_bind (L4.at (wpAny_bind (wpAny_pure ?_))))));show wpAny _ _ (storeInOwnDict (.ref x) (.ref C) (.str name t) name v _) _ _ _;obtain⟨oc,odi,oda,osl⟩:=ox;simp only at hc hd hda;subst hc hd hda;have hne:x≠h0.objs.size:=Nat.ne_of_lt (Heap.lt_size hx);unfold storeInOwnDict;refine wpAny_bind (wpAny_pure ?_);show wpAny _ _ (ownDictForStores (.ref x) >>= _) _ _ _;refine wpAny_bind ?_;unfold ownDictForStores instanceDict;refine wpAny_bind (wpAny_loadPart hx ?_);dsimp only;refine wpAny_bind ((looks_clsIn X hcl).at ?_);rw[hh];refine wpAny_bind (wpAny_alloc' ?_);have hx1:(h0.push { cls:=.type "dict",data:=.dict #[] }).get? x=some { cls:=.ref C,dict:=none,data:=.fields vs,slots:=osl }:=Heap.get?_push_of_some _ hx;refine wpAny_bind (wpAny_update' hx1 ?_);refine wpAny_pure ?_;have gx:((h0.push { cls:=.type "dict",data:=.dict #[] }).update x fun o=>{ o with dict:=some h0.objs.size }).get? x=some { cls:=.ref C,dict:=some h0.objs.size,data:=.fields vs,slots:=osl }:=Heap.get?_update_self _ hx1 rfl;have gd:((h0.push { cls:=.type "dict",data:=.dict #[] }).update x fun o=>{ o with dict:=some h0.objs.size }).get? h0.objs.size=some { cls:=.type "dict",data:=.dict #[] }:=(Heap.get?_update_ne _ _ _ _ hne.symm).trans (Heap.get?_push_at rfl rfl);have nd:((h0.push { cls:=.type "dict",data:=.dict #[] }).update x fun o=>{ o with dict:=some h0.objs.size }).Ns h0.objs.size (fun _=>none):=⟨_,#[],_,gd,rfl,fun e he=>absurd he (by simp),fun _=>rfl⟩;show wpAny _ _ (storeInDict h0.objs.size (.str name t) name v) _ _ _;unfold storeInDict newKeyGuard;refine wpAny_bind (wpAny_pure (wpAny_bind (wpAny_nsSet1 (Heap.Ns1.of_empty nd) fun h' hn' hs=>?_)));obtain⟨oD,eD,pD,h1,h2,h3⟩:=hn'.count (Within.cons name v Within.nil);refine wpAny_bind (wpAny_lookBehind h1 (by rw[h2];exact pastItsLine_dict (Nat.le_trans h3 (by rw[List.length_cons,List.length_nil,sizeLine_eq];omega))) ?_);refine wpAny_pure ?_;refine wpAny_pure (wpAny_pure (k h' _ ((hs.2 x hne).trans gx) ?_ fun b o nb hb=>?_))
 ·obtain⟨o',es,ep,e1,e2,e3,eu,e4⟩:=hn';exact⟨o',es,ep,e1,e2,e3,eu,fun y=>by rw[e4 y]⟩
 ·exact (hs.2 b (Nat.ne_of_lt (Heap.lt_size hb))).trans ((Heap.get?_update_ne _ _ _ _ nb).trans (Heap.get?_push_of_some _ hb))
end
end PySem.W
namespace PySem
section
variable {prog:Program}{w:World}{A:Around}{E:Value->Shared->Prop}{h:Heap}{g:Array GenState}{d:Drawn}{t:Nat}{os:OsState}
variable {nm q:Str}{C N:Addr}{bs bm bmB:List Value}{hdct:Bool}{sn:List Str}{sub:List Value}{ab:Bool}{col:Option Bool}{dd:Option Addr}{k0 k1 k2 k3 k5:Option Value}{B Bn newId nid initId inN:String}{bmN:List Value}
theorem x_init (F:ExcBaseFacts B nid initId bmB) (T:OwnTail h bmB bm){e t0:Addr}{args:List Value}{Q:Value->Shared->Prop}(hz:args.length<=sizeLine)
  (cC:h.get? C=some (excClassObj nm q C N bs bm hdct sn sub ab col dd k0 k1 k2 k3 k5 newId)) (he:h.get? e=some (xNew C t0))
  (k:∀ h' t',h'.get? e=some (xNew C t')->(∀ b o,b≠e->h.get? b=some o->h'.get? b=some o)->Q .none ⟨h',g,d,t,os⟩) :
  wpAny (model prog w) A (call (.builtin initId) (.ref e::args)) Q E ⟨h,g,d,t,os⟩:=by
 refine wpAny_call (codeAny_call_builtin F.init.plain F.initEntry (wpAny_check_init_subU F T cC he rfl ?_));have hes:=Heap.lt_size he
 wp_walk
 refine k _ h.objs.size ?_ fun b o nb hb=>?_
 ·rw[Heap.get?_update_self _ (Heap.get?_push_of_some _ he) rfl];rfl
 ·rw[Heap.get?_update_other _ _ (Ne.symm nb)];exact Heap.get?_push_of_some _ hb
end
end PySem
namespace L2
open PySem PySem.Spec PyProof.Rows
section
variable {X:Cx}
theorem aet {K:PySem.W.Frag}:∀ {ns:List Int}{its:List Value},Vals (ns.map V.int) its->∃ xs:Array (Int×Tok),its.toArray=intItems xs/\ns=xs.toList.map (·.1)
 | [],_,.nil=>⟨#[],by simp[intItems],rfl⟩
 | n::ns,_,.cons r rr=>by
  obtain⟨t,rfl⟩:=r;obtain⟨xs,e1,e2⟩:=aet (K:=K) rr;refine⟨(⟨(n,t)::xs.toList⟩:Array (Int×Tok)),?_,by rw[e2];rfl⟩;have:(intItems xs).toList=_:=(congrArg Array.toList e1).symm;unfold intItems at this ⊢;refine Array.toList_inj.mp ?_;simp only[Array.toList_map] at this ⊢;rw[List.map_cons,this]
theorem ane {ys:Array (Int×Tok)}{ns:List Int}(en:ns=ys.toList.map (·.1)){j:Nat}(hj:j<ys.size):∃ h:j<ns.length,numAt ys j=ns[j]:=by
 subst en;refine⟨by simpa using hj,?_⟩;simp[numAt,hj]
theorem ajq (hc:X.calm=true):abr X (.builtin "sum") (fun xs H Q=>∃ (p:Addr) (ns:List Int),xs=[.ref p]/\SqL X.K H p (ns.map V.int)/\Q (.int ns.sum) H):=by
 intro pins s σ H xs us Q I r h;obtain⟨p,ns,rfl,hq,q⟩:=h;obtain⟨u,rfl,rx⟩:=ad8 r;cases rx;obtain⟨its,r',pl,hz⟩:=I.list hq;obtain⟨ys,e,en⟩:=aet (K:=X.K) r';refine sum_intListG (xs:=ys) (I.ok.hd hc) (e▸pl.isList) fun h' tk t' hk=>⟨.int ns.sum,H,I.kept hk,⟨t',?_⟩,q⟩
 rw[preSum_eq,List.take_of_length_le (by simp),en]
theorem aql (hc:X.calm=true):abr X (.builtin "min") (fun xs H Q=>∃ (p:Addr) (ns:List Int),xs=[.ref p]/\SqL X.K H p (ns.map V.int)/\ns≠[]/\∀ m:Int,m∈ns->(∀ a∈ns,m<=a)->Q (.int m) H):=by
 intro pins s σ H xs us Q I r h;obtain⟨p,ns,rfl,hq,hne,q⟩:=h;obtain⟨u,rfl,rx⟩:=ad8 r;cases rx;obtain⟨its,r',pl,hz⟩:=I.list hq;obtain⟨ys,e,en⟩:=aet (K:=X.K) r';have hsz:0<ys.size:=by
  rcases Nat.eq_zero_or_pos ys.size with z | z
  ·exfalso;apply hne;rw[en];simp[Array.size_eq_zero_iff.mp z]
  ·exact z
 refine min_intList (xs:=ys) (I.ok.hd hc) (e▸pl.isList) hsz fun v h' tk hv hk=>?_
 obtain⟨t,rfl⟩:=intItems_at (xs:=ys) hv;have best:=argBest_lt (numAt ys) (ys.size-1);obtain⟨p1,e1⟩:=ane en (Nat.lt_of_le_of_lt best.1 (show ys.size-1<ys.size by omega));refine⟨.int _,H,I.kept hk,⟨t,rfl⟩,q _ (e1▸List.getElem_mem p1) fun a ha=>?_⟩;obtain⟨j,p2,rfl⟩:=List.getElem_of_mem ha;have lj:j<ys.size:=by rw[en] at p2;simpa using p2
 obtain⟨p3,e3⟩:=ane en lj;exact e3▸best.2 j (by omega)
theorem aq4 (hc:X.calm=true):abr X (.builtin "max") (fun xs H Q=>∃ (p:Addr) (ns:List Int),xs=[.ref p]/\SqL X.K H p (ns.map V.int)/\ns≠[]/\∀ m:Int,m∈ns->(∀ a∈ns,a<=m)->Q (.int m) H):=by
 intro pins s σ H xs us Q I r h;obtain⟨p,ns,rfl,hq,hne,q⟩:=h;obtain⟨u,rfl,rx⟩:=ad8 r;cases rx;obtain⟨its,r',pl,hz⟩:=I.list hq;obtain⟨ys,e,en⟩:=aet (K:=X.K) r';have hsz:0<ys.size:=by
  rcases Nat.eq_zero_or_pos ys.size with z | z
  ·exfalso;apply hne;rw[en];simp[Array.size_eq_zero_iff.mp z]
  ·exact z
 refine max_intList (xs:=ys) (I.ok.hd hc) (e▸pl.isList) hsz fun v h' tk hv hk=>?_
 obtain⟨t,rfl⟩:=intItems_at (xs:=ys) hv;have best:=argBest_gt (numAt ys) (ys.size-1);obtain⟨p1,e1⟩:=ane en (Nat.lt_of_le_of_lt best.1 (show ys.size-1<ys.size by omega));refine⟨.int _,H,I.kept hk,⟨t,rfl⟩,q _ (e1▸List.getElem_mem p1) fun a ha=>?_⟩;obtain⟨j,p2,rfl⟩:=List.getElem_of_mem ha;have lj:j<ys.size:=by rw[en] at p2;simpa using p2
 obtain⟨p3,e3⟩:=ane en lj;exact e3▸best.2 j (by omega)
def rIndex (K:PySem.W.Frag):V->List V->Hp->VK->Prop:=fun x vs H Q=>∃ (l:Addr) (xs:List V) (y:V) (j:Nat),x = .ref l/\vs=[y]/\SqL K H l xs/\xs.all adj=true/\adj y=true/\j<xs.length /\
 (∀ z,xs[j]?=some z->eqV z y=true)/\(∀ (m:Nat) z,m<j->xs[m]?=some z->eqV z y=false)/\Q (.int j) H
theorem at3:MtR X "list.index" (rIndex X.K):=by
 intro pins s σ H x vs v us Q I rx rv h;obtain⟨l,xs,y,j,rfl,rfl,hq,fx,fy,hj,h1,h2,q⟩:=h;cases rx;obtain⟨u,rfl,ru⟩:=rv.one;obtain⟨its,r,pl,hz⟩:=I.list hq;have hlen:=r.length;obtain⟨⟨cls,dd,data,sl⟩,ho,hc,n,hd⟩:=pl.isList;simp only at hc hd;subst hc hd;have hu:∀ (i:Nat) (hi:i<its.toArray.size),∃ z,xs[i]?=some z/\eqU y its.toArray[i]=eqV z y:=fun i hi=>by
  have hi':i<its.length:=by simpa using hi
  have hx:xs[i]?=some (xs[i]'(by omega)):=List.getElem?_eq_getElem (by omega);obtain⟨w',hw,rw'⟩:=r.get hx;have e:its.toArray[i]=w':=by
   rw[List.getElem?_eq_getElem hi'] at hw
   simpa using Option.some.inj hw
  refine⟨_,hx,?_⟩;rw[e];exact ap3 rw' (List.all_eq_true.mp fx _ (List.mem_of_getElem? hx))
 have hjs:j<its.toArray.size:=by rw[List.size_toArray];omega
 have hline:sizeLine<2 ^ 63-1:=by decide
 refine call_meets PySem.F.slot_list_index ⟨_,ho,rfl⟩ PySem.F.entry_list_index (PySem.F.args_list_index_2 _ _)
  (SeqAt.list_indexAt l its.toArray n dd sl u (eqU y) j hjs (by omega) ?_ ?_) ⟨ho,fun w' hw=>aeq ru fy r fx w' (by simpa using hw),⟨.int j,H,I.tok _,⟨_,rfl⟩,q⟩⟩
 ·obtain⟨z,hz',ez⟩:=hu j hjs;show eqU y its.toArray[j]=true;rw[ez];exact h1 z hz'
 ·intro m hm hlt;obtain⟨z,hz',ez⟩:=hu m hm;show eqU y its.toArray[m]=false;rw[ez];exact h2 m z hlt hz'
theorem aiz:∀ {ys:List Str}{its:List Value},Vals (ys.map V.str) its->StrsAre its ys:=by
 intro ys;induction ys with
 | nil=>intro its r;cases r;exact .nil
 | cons y r ih =>
  intro its h;cases h with
  | cons a b =>
   obtain⟨t,rfl⟩:=a;exact .cons _ _ (ih b)
def rJoin (K:PySem.W.Frag):V->List V->Hp->VK->Prop:=fun x vs H Q=>∃ (z:Str) (l:Addr) (ys:List Str),x = .str z/\vs=[.ref l]/\(SqL K H l (ys.map V.str)\/SqT K H l (ys.map V.str)) /\
 (ys.map (·.length)).sum+ys.length*z.length<=16777216/\Q (.str (Txt.join z ys)) H
theorem awl:MtR X "str.join" (rJoin X.K):=by
 intro pins s σ H x vs v us Q I rx rv h;obtain⟨z,l,ys,rfl,rfl,hq,hz,q⟩:=h;obtain⟨t,rfl⟩:=rx;obtain⟨u,rfl,ru⟩:=rv.one;cases ru;rcases hq with hq | hq
 ·obtain⟨its,r,pl,_⟩:=I.list hq;exact join_list pl.isList (by simpa using aiz r) hz fun t' k=>⟨.str _,H,I.tok _,⟨_,rfl⟩,q⟩
 ·obtain⟨its,r,pl,_⟩:=I.tuple hq;exact join_tuple pl (by simpa using aiz r) hz fun t' k=>⟨.str _,H,I.tok _,⟨_,rfl⟩,q⟩
end
mutual
inductive DatV (K:PySem.W.Frag) (H:Hp):V->PyData->Prop where
 | non:DatV K H .non .none
 | bl (b:Bool):DatV K H (.bl b) (.bool b)
 | int (i:Int):DatV K H (.int i) (.int i)
 | str (x:Str):DatV K H (.str x) (.str x)
 | lst {a:Addr} {xs:List V} {ds:List PyData}:SqL K H a xs->DatVs K H xs ds->DatV K H (.ref a) (.list ds)
 | tup {a:Addr} {xs:List V} {ds:List PyData}:SqT K H a xs->DatVs K H xs ds->DatV K H (.ref a) (.tuple ds)
inductive DatVs (K:PySem.W.Frag) (H:Hp):List V->List PyData->Prop where
 | nil:DatVs K H [] []
 | cons {x:V} {d:PyData} {xs:List V} {ds:List PyData}:DatV K H x d->DatVs K H xs ds->DatVs K H (x::xs) (d::ds)
end
section
variable {X:Cx}{pins:List (Addr×Obj)}{σ:St}{H:Hp}{s:Shared}
mutual
theorem DatV.reads (I:Inv X pins σ H s):∀ {x:V}{d:PyData}{u:Value},DatV X.K H x d->RelV x u->∃ as,Reads s.heap u d as
 | _,_,_,.non,r=>by cases r;exact⟨_,.none⟩
 | _,_,_,.bl b,r=>by cases r;exact⟨_,.bool b⟩
 | _,_,_,.int i,r=>by obtain⟨t,rfl⟩:=r;exact⟨_,.int i t⟩
 | _,_,_,.str x,r=>by obtain⟨t,rfl⟩:=r;exact⟨_,.str x t⟩
 | _,_,_,.lst hq hs,r=>by
  cases r;obtain⟨its,rv,⟨o,n,e,c,_,d⟩,_⟩:=I.list hq;obtain⟨as,h⟩:=DatVs.reads I hs rv;exact⟨_,.list e c d (by simpa using h)⟩
 | _,_,_,.tup hq hs,r=>by
  cases r;obtain⟨its,rv,⟨o,e,c,n,d⟩,_⟩:=I.tuple hq;obtain⟨as,h⟩:=DatVs.reads I hs rv;exact⟨_,.tuple e c d (by simpa using h)⟩
theorem DatVs.reads (I:Inv X pins σ H s):∀ {xs:List V}{ds:List PyData}{us:List Value},DatVs X.K H xs ds->Vals xs us->∃ as,ReadsAll s.heap us ds as
 | _,_,_,.nil,.nil=>⟨_,.nil⟩
 | _,_,_,.cons h hs,.cons r rs=>by
  obtain⟨as,h1⟩:=DatV.reads I h r;obtain⟨bs,h2⟩:=DatVs.reads I hs rs;exact⟨_,.cons h1 h2⟩
end
end
section
variable {X:Cx}
def rEqD (K:PySem.W.Frag) (neg:Bool):R2:=fun x y H Q=>∃ da db,DatV K H x da/\DatV K H y db/\da.canLay0=true/\db.canLay0=true/\min da.depth db.depth<=60/\Q (.bl (if neg then !PyData.eqv da db else PyData.eqv da db)) H
theorem op_eqD (hu:X.A.units+64<cLine):OpR X (compareOp .Eq) (rEqD X.K false):=by
 intro pins s σ H x y v u Q I rx ry h;obtain⟨da,db,h1,h2,l1,l2,dp,q⟩:=h;obtain⟨as,r1⟩:=h1.reads I rx;obtain⟨bs,r2⟩:=h2.reads I ry;exact SeqAt.compareEq_reads r1 r2 l1 l2 (by omega) ⟨.bl _,H,I,rfl,q⟩
theorem op_neD (hu:X.A.units+64<cLine):OpR X (compareOp .NotEq) (rEqD X.K true):=by
 intro pins s σ H x y v u Q I rx ry h;obtain⟨da,db,h1,h2,l1,l2,dp,q⟩:=h;obtain⟨as,r1⟩:=h1.reads I rx;obtain⟨bs,r2⟩:=h2.reads I ry;exact SeqAt.compareNe_reads r1 r2 l1 l2 (by omega) ⟨.bl _,H,I,rfl,q⟩
def am3 (K:PySem.W.Frag) (neg:Bool):R2:=fun x y H Q=>∃ (a b:Addr) (xs:List V),x = .ref a/\y = .ref b/\SqL K H a xs/\SqL K H b []/\Q (.bl (if neg then !xs.isEmpty else xs.isEmpty)) H
theorem agk (hu:X.A.units+64<cLine):OpR X (compareOp .Eq) (am3 X.K false):=by
 intro pins s σ H x y v u Q I rx ry h;obtain⟨a,b,xs,rfl,rfl,h1,h2,q⟩:=h;cases rx;cases ry;obtain⟨its,r1,p1,_⟩:=I.list h1;obtain⟨its2,r2,p2,_⟩:=I.list h2;cases r2;have q':∀ b',b'=xs.isEmpty->EP X pins σ Q (.bool b') s:=fun b' e=>⟨.bl b',H,I,rfl,by subst e;exact q⟩
 cases r1 with
 | nil=>exact SeqAt.RcAt.lists (e:=fun _=>true) p1.isList p2.isList rfl (by omega) (fun i h1 _=>by simp at h1) X.prog X.w _ _ (q' _ (by simp))
 | cons r rr=>exact SeqAt.RcAt.lists_lengths p1.isList p2.isList (by simp) (by omega) X.prog X.w _ _ (q' _ rfl)
end
end L2
namespace L2
open PySem PySem.Spec PyProof.Rows
section
variable {X:Cx}
def cutS (z:Str) (lo hi:Option Int):Str:=⟨((z.cps.toList.drop (HT.sIx z.length 0 lo)).take (HT.sIx z.length z.length hi-HT.sIx z.length 0 lo)).toArray⟩
theorem al5 (lo hi:Option Int) (n:Nat):Builtin.Str.strSliceIndices lo hi 1 n=(List.range (HT.sIx n n hi-HT.sIx n 0 lo)).map (HT.sIx n 0 lo+·):=by
 unfold Builtin.Str.strSliceIndices;rw[← sliceRange_one];have h1:∀ (v:Option Int) (d:Nat),d<=n->(match v with | none=>((d:Nat):Int) | some i=>if (1:Int)>0 then max 0 (min (if i<0 then i+(n:Int) else i) (n:Int)) else max (-1) (min (if i<0 then i+(n:Int) else i) ((n:Int)-1)))=((HT.sIx n d v:Nat):Int):=by
  intro v d hd;cases v with
  | none=>rfl
  | some i =>
   simp only[HT.sIx,show (1:Int)>0 by decide,if_true];by_cases h:i<0
   ·simp only[h,if_true]<;>omega
   ·simp only[h,if_false]<;>omega
 have e1:=h1 lo 0 (Nat.zero_le _);have e2:=h1 hi n (Nat.le_refl _);simp only[show (1:Int)>0 by decide,if_true] at e1 e2 ⊢;rw[← e1,← e2];cases lo<;>cases hi<;>rfl
def rSlS:V->Option Int->Option Int->Hp->VK->Prop:=fun x lo hi H Q=>∃ z:Str,x = .str z/\z.length<=sizeLine/\Q (.str (cutS z lo hi)) H
theorem ako {v:Value}{o:Option Int}(p:IsPart v o):∃ l:Option (Int×Tok),v=partValue l/\o=l.map (·.1):=by
 cases p with
 | none=>exact⟨none,rfl,rfl⟩
 | int i t=>exact⟨some (i,t),rfl,rfl⟩
theorem abn (z:Str):z.cps.toList.length=z.length:=by
 rw[Array.length_toList];rfl
theorem av1 {a b:Str}(h:a.cps.toList=b.cps.toList):a=b:=by
 obtain⟨a⟩:=a;obtain⟨b⟩:=b
 congr
 exact Array.toList_inj.mp h
theorem apx:SlR X rSlS:=by
 intro pins s σ H x v vl vu lo hi sl Q I rx hs pl pu h;obtain⟨z,rfl,hz,q⟩:=h;obtain⟨t,rfl⟩:=rx;obtain⟨l,rfl,rfl⟩:=ako pl;obtain⟨u,rfl,rfl⟩:=ako pu;refine⟨"str",_,PySem.F.slot_str_getitem.lookup,typeIs_str _ z t,?_⟩;refine wpAny_getItem_str_slice (l:=l) (u:=u) (st:=none) hs rfl ?_;have e:slicePicked z l u none=(List.range (HT.sIx z.length z.length (u.map (·.1))-HT.sIx z.length 0 (l.map (·.1)))).map (HT.sIx z.length 0 (l.map (·.1))+·):=al5 _ _ _;have e2:(⟨((slicePicked z l u none).filterMap (z.cps[·]?)).toArray⟩:Str)=cutS z (l.map (·.1)) (u.map (·.1)):=by
  rw[e,pick_run];rfl
 have hle:=HT.sIx_le z.length z.length (Nat.le_refl _) (u.map (·.1));have hle0:=HT.sIx_le z.length 0 (Nat.zero_le _) (l.map (·.1));unfold sliceMade;split
 ·rename_i hc
  have hc':(slicePicked z l u none).length=z.length:=by
   have:=(Bool.and_eq_true _ _).mp hc;exact eq_of_beq this.2
  have e3:cutS z (l.map (·.1)) (u.map (·.1))=z:=by
   rw[e,List.length_map,List.length_range] at hc';apply av1;show ((z.cps.toList.drop _).take _)=z.cps.toList;have h0:HT.sIx z.length 0 (l.map (·.1))=0:=by omega
   rw[h0] at hc' ⊢;rw[List.drop_zero,List.take_of_length_le];rw[abn];omega
  rw[e3] at q;exact⟨.str z,H,I,⟨t,rfl⟩,q⟩
 ·rw[e2];refine⟨?_,.str _,H,I.tok _,⟨_,rfl⟩,q⟩;have:(cutS z (l.map (·.1)) (u.map (·.1))).length<=z.length:=by
   show ((z.cps.toList.drop _).take _).toArray.size<=_;rw[List.size_toArray,List.length_take,List.length_drop,abn];omega
  omega
theorem ama:abr X (.type "dict") (fun xs H Q=>∃ (a:Addr) (kvs:List (Key×V)),xs=[.ref a]/\H a=some (.dK kvs)/\∀ p,H p=none->Q (.ref p) (upd H p (.dK kvs))):=by
 intro pins s σ H xs us Q I r h;obtain⟨a,kvs,rfl,ha,q⟩:=h;obtain⟨u,rfl,ru⟩:=ad8 r;cases ru;exact at7 I (.inl ha) fun p s' hp I'=>⟨.ref p,_,I',rfl,q p hp⟩
theorem arv {A:Around}{s:Shared}{kvs:List (Key×V)}{kb:List (Key×Value)}(rb:KV kvs kb) (hn:(kvs.map (·.1)).Nodup) :
  ∀ (r:List (Key×V)) (ka:List (Key×Value)),KV r ka->(∀ p∈r,p∈kvs)->(∀ p∈r,adj p.2=true/\eqV p.2 p.2=true)->PySem.W.KeqHits A s kb ka true:=by
 intro r;induction r with
 | nil=>intro ka h _ _;cases h;exact .nil
 | cons p r ih =>
  intro ka h hm hf;cases h with
  | cons h1 h2 =>
   rename_i q ka'
   obtain⟨k,v⟩:=p;obtain⟨k',v'⟩:=q;obtain⟨e,rv⟩:=h1;have e:k=k':=e;subst e;have hv:valV kvs k=some v:=by
    have hp:=hm (k,v) List.mem_cons_self;have:∀ (l:List (Key×V)),(l.map (·.1)).Nodup->(k,v)∈l->valV l k=some v:=by
     intro l;induction l with
     | nil=>intro _ h;cases h
     | cons a l il =>
      intro hn hm;have hn:(a.1::l.map (·.1)).Nodup:=hn;obtain⟨n1,n2⟩:=List.nodup_cons.mp hn;rcases List.mem_cons.mp hm with z | z
      ·subst z;exact ad3 rfl
      ·rw[ad0 (fun e=>n1 (by rw[e];exact List.mem_map.mpr ⟨_,z,rfl⟩))];exact il n2 z
    exact this kvs hn hp
   have hr:=rb.val k;rw[hv] at hr;obtain⟨y,ey,ry⟩:=hr.some_of;obtain⟨f1,f2⟩:=hf (k,v) List.mem_cons_self;have hE:SeqAt.EqAt A s v' y (eqV v v):=aqb rv ry f1 f1;rw[f2] at hE;have:=PySem.W.KeqHits.hit ey hE (ih ka' h2 (fun p hp=>hm p (List.mem_cons_of_mem _ hp)) fun p hp=>hf p (List.mem_cons_of_mem _ hp))
   simpa using this
end
def Its (z:Str):It:=⟨fun i _=>i<z.length,fun i H x H'=>H'=H/\∃ c,z.cps[i]?=some c/\x = .str ⟨#[c]⟩,fun i _=>z.length<=i⟩
theorem ang {P:Program}{w:World}{K:PySem.W.Frag}{tg:Expr}(z:Str) (t:Tok) (it:Addr):Turn P w K tg (Its z) [it] it (fun i h=>h.IsStrIter it "str_ascii_iterator" z t i) where
 mem:=by simp
 obj:=fun i h st b hb=>by
  have e:b=it:=by simpa using hb
  subst e;obtain⟨o,e,c,d⟩:=st;exact⟨o,e,fun v z=>by rw[d] at z;cases z⟩
 keep:=fun i h h' st k=>by
  obtain⟨o,e,r⟩:=st;exact⟨o,k it (by simp) o e,r⟩
 item:=by
  intro X hP hw hK hc i pins s σ H E I hf st hg;subst hP hw hK;have hg:i<z.length:=hg;obtain⟨f0,f1,f2,f3,f4,f5⟩:=hf it (by simp);have hz:z.cps[i]?=some (z.cps[i]'hg):=Array.getElem?_eq_getElem hg;refine wpAny_pyNext_ascii_item st hz fun h' st' sb=>?_
  have I1:Inv X pins σ H { s with heap:=h',toks:=s.toks+1 }:=I.turned (t':=s.toks+1) (fun b o hb e=>(sb.2 b hb).trans e) f0 f1 f3 f4 f5;obtain⟨o,e,c,d⟩:=id st';exact⟨_,rfl,ary (s:={ s with heap:=h',toks:=s.toks+1 }) e c d (by decide) ⟨.str ⟨#[z.cps[i]'hg]⟩,H,I1,⟨_,rfl⟩,⟨rfl,_,hz,rfl⟩,st',fun b hb=>(hf b hb).1⟩⟩
 done:=by
  intro X hP hw hK hc i pins s σ H E I hf st hg;subst hP hw hK;have hg:z.length<=i:=hg;obtain⟨f0,f1,f2,f3,f4,f5⟩:=hf it (by simp);exact wpAny_pyNext_ascii_end (I.ok.hd hc) st (Array.getElem?_eq_none (by exact hg)) fun h' eb=>⟨rfl,I.turned (t':=s.toks) (fun b o hb e=>eb b o hb e) f0 f1 f3 f4 f5⟩
 self:=fun _ _ _ _ _ st h=>wpAny_pyIter_striter_ascii st h
section
variable {X:Cx}{tg:Expr}
def iStr (tl:TE):TI:=fun σ H R=>tl σ H fun x H1=>∃ z:Str,x = .str z/\z.cps.all (·<128)=true/\R (Its z) H1
theorem pi_str {l:Expr}{tl:TE}(hl:PE X l tl):PI X tg l (iStr tl):=by
 intro pins s σ H R I h;refine thn (hl pins s σ H _ I h) fun v s1 ⟨x,H1,I1,r1,z,e1,ha,q⟩=>?_
 subst e1;obtain⟨t,rfl⟩:=r1;refine wpAny_pyIter_ascii ha ?_;have I2:Inv X pins σ H1 { s1 with heap:=s1.heap.push { cls:=.type "str_ascii_iterator",data:=.fields #[.str z t,.int 0 0] } }:=I1.kept (t':=s1.toks) fun b ob q=>Heap.get?_push_of_some _ q
 refine⟨s1.heap.objs.size,[s1.heap.objs.size],_,Its z,H1,rfl,I2,ang z t _,⟨_,Heap.get?_push_size _ rfl,rfl,rfl⟩,fun b hb=>?_,q⟩;have e:b=s1.heap.objs.size:=by simpa using hb
 subst e;exact I1.fpOk (Nat.le_refl _) (I1.hok.fresh (Nat.le_refl _))
end
def dedS (acc:List Str) (x:Str):List Str:=if x∈acc then acc else acc++[x]
def ddS (l:List Str):List Str:=l.foldl dedS []
theorem ajm (l:List Str) (x:Str):ddS (l++[x])=dedS (ddS l) x:=by unfold ddS;rw[List.foldl_append];rfl
theorem atq (acc:List Str) (x y:Str):y∈dedS acc x↔y∈acc\/y=x:=by
 unfold dedS;split
 ·rename_i h
  constructor
  ·exact .inl
  ·rintro (q | q)
   ·exact q
   ·rw[q];exact h
 ·simp[List.mem_append]
theorem agj (acc:List Str) (x:Str):(dedS acc x).length=if x∈acc then acc.length else acc.length+1:=by
 unfold dedS;split<;>simp
theorem ddS_le (l:List Str):∀ k,(ddS (l.take k)).length<=k:=by
 intro k;induction k with
 | zero=>simp[ddS]
 | succ k ih =>
  rw[List.take_add_one];cases e:l[k]? with
  | none=>simp;omega
  | some x =>
   simp only[Option.toList_some];rw[ajm,agj];split<;>omega
theorem aq6 (r:List Str):∀ acc,acc.length<=(r.foldl dedS acc).length/\(r.foldl dedS acc).length<=acc.length+r.length:=by
 induction r with
 | nil=>intro acc;simp
 | cons x r ih =>
  intro acc;have h:=ih (dedS acc x);rw[agj] at h;simp only[List.foldl_cons,List.length_cons];split at h<;>omega
theorem aoh:∀ (r acc:List Str),acc.Nodup->(r.foldl dedS acc).length=acc.length+r.length->(acc++r).Nodup:=by
 intro r;induction r with
 | nil=>intro acc h _;simpa using h
 | cons x r ih =>
  intro acc h e;simp only[List.foldl_cons,List.length_cons] at e;have hb:=aq6 r (dedS acc x);rw[agj] at hb;by_cases hx:x∈acc
  ·rw[if_pos hx] at hb;omega
  ·have e1:dedS acc x=acc++[x]:=by unfold dedS;rw[if_neg hx]
   rw[e1] at e;have:=ih (acc++[x]) (arf h hx) (by rw[e];simp;omega)
   simpa using this
theorem aq2 {l:List Str}(h:(ddS l).length=l.length):l.Nodup:=by
 have:=aoh l [] List.nodup_nil (by simpa [ddS] using h)
 simpa using this
theorem af6 {P:Program}{w:World}{h:Heap}{a:Addr}{S S':Str->Bool}{n n':Nat}(z:h.SetOf (PySem.strKind P w) a S n) (e:∀ k,S k=S' k) (en:n=n'):h.SetOf (PySem.strKind P w) a S' n':=by
 have:S=S':=funext e;subst this en;exact z
section
variable {prog:Program}{w:World}{A:Around}{R:Result->Shared->Prop}{J:Addr}{fp wr:List Addr}{G:Array GenState->Array GenState->Prop}{n:Nat}{P:Nat->Value->Prop}{St:Nat->Shared->Prop}
theorem aqy (W:WalksS prog w A.in1 J fp wr G n P St) (a:Addr) (haf:a∉fp) (ys:List Str) (hys:ys.length=n) (hp:∀ i v,P i v->∃ x t,ys[i]?=some x/\v = .str x t) (hb:n+1<scanBound) :
  ∀ (k i:Nat) (s:Shared),n-i=k->i<=n->St i s->s.heap.SetOf (PySem.strKind prog w) a (fun x=>decide (x∈ddS (ys.take i))) (ddS (ys.take i)).length ->
   (∀ s',Moved (a::wr) G s s'->s'.heap.SetOf (PySem.strKind prog w) a (fun x=>decide (x∈ddS ys)) (ddS ys).length->R (.ok (.ret .none)) s') ->
   codeAny (model prog w) A (.builtin "set.update.loop" ⟨[.ref a,.ref J],[]⟩) R s:=by
 have haw:a∉wr:=fun z=>haf (W.sub _ z)
 have hsub:∀ b∈wr,b∈a::wr:=fun b z=>List.mem_cons_of_mem _ z
 intro k;induction k with
 | zero =>
  intro i s hk hi st hS hR;have ei:i=n:=by omega
  subst ei;rw[List.take_of_length_le (by omega)] at hS;refine codeAny_builtin PyProof.Rows.F.entry_set_update_loop ?_;rw[Around.under_plainId PyProof.Rows.F.plain_set_update_loop _];show wpAny _ A.in1 (pyNext (.ref J) >>= _) _ _ s;refine wpAny_bind (W.done s _ _ st fun s' mv=>?_);show wpAny _ A.in1 (ret Value.none) _ _ s';obtain⟨o,es,ep,t,ho,rest⟩:=hS;exact wpAny_pure (hR s' (mv.mono hsub) ⟨o,es,ep,t,mv.heap a _ haw ho,rest⟩)
 | succ k ih =>
  intro i s hk hi st hS hR;have hlt:i<n:=by omega
  refine codeAny_builtin PyProof.Rows.F.entry_set_update_loop ?_;rw[Around.under_plainId PyProof.Rows.F.plain_set_update_loop _];show wpAny _ A.in1 (pyNext (.ref J) >>= _) _ _ s;refine wpAny_bind (W.item i s _ _ hlt st fun v s' hv st' mv=>?_);obtain⟨x,t,hx,rfl⟩:=hp i v hv;have hS1:s'.heap.SetOf (PySem.strKind prog w) a (fun x=>decide (x∈ddS (ys.take i))) (ddS (ys.take i)).length:=by
   obtain⟨o,es,ep,tb,ho,rest⟩:=hS;exact⟨o,es,ep,tb,mv.heap a _ haw ho,rest⟩
  show wpAny _ A.in1 (holding [Value.str x t] (setAdd a (.str x t)) >>= _) _ _ s';refine wpAny_bind (wpAny_holding ?_);unfold setAdd;refine wpAny_holding ?_;have hk':(PySem.strKind prog w).is x (.str x t)=true:=by simp[PySem.strKind,Value.isStrOf]
  refine wpAny_bind ((PySem.strKind prog w).pyHash (k:=x) hk' ?_);have hroom:(ddS (ys.take i)).length+1<scanBound:=by have:=ddS_le ys i;omega
  refine wpAny_setAddHashed_of (knd:=strKind prog w) (s:={ s' with toks:=s'.toks+1 }) hk' rfl hS1 hroom fun h' sb hS2=>?_
  have et:ys.take (i+1)=ys.take i++[x]:=by rw[List.take_add_one,hx];rfl
  have hS3:h'.SetOf (PySem.strKind prog w) a (fun x=>decide (x∈ddS (ys.take (i+1)))) (ddS (ys.take (i+1))).length:=by
   refine af6 hS2 (fun y=>?_) ?_
   ·rw[et,ajm];have:=atq (ddS (ys.take i)) x y;by_cases h1:y∈ddS (ys.take i)<;>by_cases h2:y=x<;>simp only[h1,h2,true_or,or_true,or_false,false_or] at this<;>simp[this,h1,h2]
    all_goals (subst h2;simp[this])
   ·rw[et,ajm,agj];by_cases h1:x∈ddS (ys.take i)<;>simp[h1]
  refine wpAny_pure ⟨plainId_quiet PyProof.Rows.F.plain_set_update_loop _,ih (i+1) _ (by omega) hlt (W.frame _ s' _ _ st' (Nat.le_succ _) fun b hb o e=>?_) hS3 fun s'' mv'' hS''=>?_⟩
  ·rw[sb.2 b (fun z:b=a=>haf (by rw[← z];exact hb))];exact e
  ·refine hR s'' (Moved.trans W.gtrans ((mv.mono hsub).then_heap (Nat.le_succ _) fun b o hb e=>?_) mv'') hS'';rw[sb.2 b (fun z:b=a=>hb (by rw[z];exact List.mem_cons_self))];exact e
end
end L2
namespace PySem
open PyProof.Rows L2
section
variable {prog:Program}{w:World}{A:Around}
theorem aua {E:Value->Shared->Prop}{s:Shared}{x:Value}{Q:Value->Shared->Prop}
  (fill:∀ g,wpAny (model prog w) A.in1.in1 (Builtin.«set.__init__» ⟨[.ref s.heap.objs.size,x],[]⟩) (fun f s1=>f = .done (.ret .none)/\Q (.ref s.heap.objs.size) s1) E { s with heap:=s.heap.push { cls:=.type "set",dict:=none,data:=.set #[] 0 (.fresh 0 0 g) } }) :
  wpAny (model prog w) A (call (.type "set") [x]) Q E s:=by
 obtain⟨c,r,mro⟩:=F.called_set.mro;refine wpAny_call (codeAny_of_tree (wpAny_pure ⟨Code.quiet_builtin _ (by decide +kernel),codeAny_builtin F.entry_type_call ?_⟩));have it:=F.called_set;have body:wpAny (model prog w) A.in1 (Builtin.«type.__call__» ⟨[.type "set",x],[]⟩) (fun f s1=>match f with | .done f=>wants Q E (.ok f) s1 | .again c'=>c'.quiet=true/\codeAny (model prog w) A c' (wants Q E) s1) (fun e s1=>wants Q E (.error e) s1) s:=by
  unfold Builtin.«type.__call__»;dsimp only;rw[it.notType];simp only[Bool.false_eq_true,if_false,it.canCreate];refine wpAny_bind (wpAny_of_eq (F.typeCall_set_1 x) (wpAny_bind (wpAny_of_eq mro ?_)));rw[if_neg (show ¬ (c::r).isEmpty=true from Bool.false_ne_true)];refine wpAny_bind (wpAny_of_eq it.made (wpAny_bind (wpAny_pure (wpAny_bind (wpAny_holding (wpAny_call (code_set_new_1 x fun g=>?_)))))));have isSet:Shared.TypeIs { s with heap:=s.heap.push { cls:=.type "set",dict:=none,data:=.set #[] 0 (.fresh 0 0 g) } } (.ref s.heap.objs.size) "set" := ⟨_,Heap.get?_push_size _ rfl,rfl⟩;refine wpAny_bind (wpAny_isInstance isSet it.sub ?_);rw[if_neg (show ¬ (!true)=true from Bool.false_ne_true)];refine wpAny_bind (wpAny_holding (wpAny_callSpecial?_slot isSet it.init (wpAny_call (codeAny_call_builtin it.init.plain F.entry_set_init (check_set_init_1 isSet ?_)))));refine wpAny_mono (fill g) (fun f s1 q=>?_) fun _ _ q=>q
  obtain⟨rfl,q⟩:=q;exact wpAny_pure q
 exact body
theorem arr {E:Value->Shared->Prop}{s:Shared}{S l:Addr}{its:Array Value}{Q:Unit->Shared->Prop}(hl:s.heap.IsList l its)
  (loop:codeAny (model prog w) A (.builtin "set.update.loop" ⟨[.ref S,.ref s.heap.objs.size],[]⟩) (fun r s1=>match r with | .ok (.ret _)=>Q () s1 | .ok _=>False | .error e=>E e s1) { s with heap:=s.heap.push { cls:=.type "list_iterator",data:=.fields #[.ref l,.int 0 0] } }) :
  wpAny (model prog w) A (Builtin.Frozenset.updateFrom "set.__init__" S (.ref l)) Q E s:=by
 have noset:wpAny (model prog w) A (Builtin.Frozenset.isAnySet (.ref l)) (fun b s1=>b=false/\s1=s) E s :=
  wpAny_bind (wpAny_isInstance hl.typeIs F.sub_list_set (wpAny_isInstance hl.typeIs F.sub_list_frozenset ⟨rfl,rfl⟩))
 refine wpAny_bind (wpAny_mono noset (fun b s1 q=>?_) fun _ _ q=>q);obtain⟨rfl,rfl⟩:=q;refine wpAny_bind (wpAny_typeOf hl.typeIs (wpAny_bind (wpAny_pyIter_list hl (wpAny_bind (wpAny_runValue ?_)))));exact codeAny_mono loop fun r s1 q=>by
  match r,q with
  | .ok (.ret v),q=>exact wpAny_pure q
  | .error e,q=>exact q
abbrev agu (g:Bool):Obj:={ cls:=.type "set",dict:=none,data:=.set #[] 0 (.fresh 0 0 g) }
theorem ar7 {E:Value->Shared->Prop}{s:Shared}{S:Addr}{g:Bool}{x:Value}{Q:Fin->Shared->Prop}(hS:s.heap.get? S=some (agu g))
  (fill:wpAny (model prog w) A (Builtin.Frozenset.updateFrom "set.__init__" S x) (fun _ s1=>Q (.done (.ret .none)) s1) E s) :
  wpAny (model prog w) A (Builtin.«set.__init__» ⟨[.ref S,x],[]⟩) Q E s:=by
 unfold Builtin.«set.__init__»;generalize Builtin.Frozenset.updateFrom=up at fill ⊢
 wp_walk
 exact wpAny_mono fill (fun _ _ q=>wpAny_pure q) fun _ _ q=>q
theorem auk {us:List Value}{zs:List Str}(z:StrsAre us zs):zs.length=us.length:=by
 induction z with
 | nil=>rfl
 | cons _ _ _ ih=>rw[List.length_cons,List.length_cons,ih]
theorem auh {us:List Value}{zs:List Str}(z:StrsAre us zs):∀ {i:Nat}{v:Value},us[i]?=some v->∃ x t,zs[i]?=some x/\v = .str x t:=by
 induction z with
 | nil=>intro i v e;cases e
 | cons x t _ ih =>
  intro i v e
  match i,e with
  | 0,e=>exact⟨x,t,rfl,(Option.some.inj e).symm⟩
  | i+1,e=>exact ih (i:=i) e
theorem ans {s s':Shared}(a:s'.gens=s.gens) (b:s'.drawn=s.drawn) (c:s'.os=s.os):s'={ s with heap:=s'.heap,toks:=s'.toks }:=by
 cases s;cases s';cases a;cases b;cases c;rfl
set_option maxHeartbeats 800000 in
theorem ai0 {E:Value->Shared->Prop}{s:Shared}{l:Addr}{items:Array Value}{ys:List Str}{Q:Value->Shared->Prop}(hh:A.handled=none) (hl:s.heap.IsList l items) (hi:StrsAre items.toList ys) (hb:items.size+1<scanBound)
  (h:∀ (h':Heap) (tk:Nat),h'.SetOf (PySem.strKind prog w) s.heap.objs.size (fun x=>decide (x∈ddS ys)) (ddS ys).length->(∀ b o,b<s.heap.objs.size->s.heap.get? b=some o->h'.get? b=some o) ->Q (.ref s.heap.objs.size) { s with heap:=h',toks:=tk }):wpAny (model prog w) A (call (.type "set") [.ref l]) Q E s:=by
 refine aua fun g=>ar7 (Heap.get?_push_size _ rfl) (arr (hl.push _) ?_)
 have two:(s.heap.push (agu g)).objs.size=s.heap.objs.size+1:=Heap.size_push ..;have lt:l<s.heap.objs.size:=by
  obtain⟨o,e,_⟩:=hl;exact Heap.lt_size e
 have ne1:l≠(s.heap.push (agu g)).objs.size:=by
  rw[two];exact Nat.ne_of_lt (Nat.lt_succ_of_lt lt)
 have ne2:s.heap.objs.size∉[(s.heap.push (agu g)).objs.size,l]:=fun z=>by
  rw[two] at z;rcases List.mem_cons.mp z with q | q
  ·exact Nat.ne_of_lt (Nat.lt_succ_self _) q
  ·exact Nat.ne_of_gt lt (List.mem_singleton.mp q)
 have len:ys.length=items.size:=by rw[auk hi,Array.length_toList]
 have item:∀ (i:Nat) (v:Value),items[i]?=some v->∃ x t,ys[i]?=some x/\v = .str x t:=fun i v e=>auh hi (by rw[Array.getElem?_toList];exact e)
 have empty:((s.heap.push (agu g)).push { cls:=.type "list_iterator",data:=.fields #[.ref l,.int 0 0] }).SetOf (PySem.strKind prog w) s.heap.objs.size (fun x=>decide (x∈ddS (ys.take 0))) (ddS (ys.take 0)).length :=
  af6 ((setObjOf_fresh (knd:=PySem.strKind prog w) g).setOf (Heap.get?_push_of_some _ (Heap.get?_push_size _ rfl)) (by unfold scanBound;omega)) (fun _=>by simp[ddS]) (by simp[ddS])
 refine aqy ((Walks.list (by simp[hh]) _ l ne1 items).toS) s.heap.objs.size ne2 ys len item hb items.size 0 _ (by omega) (Nat.zero_le _) ⟨⟨_,Heap.get?_push_size _ rfl,rfl,rfl⟩,(hl.push _).push _⟩ empty fun s' mv fin=>?_
 have res:=h s'.heap s'.toks fin fun b o lb e=>mv.heap b o (fun z=>?_) (Heap.get?_push_of_some _ (Heap.get?_push_of_some _ e))
 ·rw[show s'={ s with heap:=s'.heap,toks:=s'.toks } from ans mv.gens mv.drawn mv.os];exact⟨rfl,res⟩
 ·rcases List.mem_cons.mp z with q | q
  ·exact Nat.ne_of_lt lb q
  ·have q:=List.mem_singleton.mp q;rw[two] at q;exact Nat.ne_of_lt (Nat.lt_succ_of_lt lb) q
end
end PySem
namespace L2
open PySem PySem.Spec PyProof.Rows
section
variable {X:Cx}
def SetN (P:Program) (w:World) (a:Addr) (n:Nat):HO:=.ext fun h=>∃ S,h.SetOf (PySem.strKind P w) a S n
theorem asb (hc:X.calm=true):abr X (.type "set") (fun xs H Q=>∃ (p:Addr) (ys:List Str),xs=[.ref p]/\SqL X.K H p (ys.map V.str)/\ys.length<=4000/\∀ a,H a=none->Q (.ref a) (upd H a (SetN X.prog X.w a (ddS ys).length))):=by
 intro pins s σ H xs us Q I r h;obtain⟨p,ys,rfl,hq,hz,q⟩:=h;obtain⟨u,rfl,ru⟩:=ad8 r;cases ru;obtain⟨its,r',pl,_⟩:=I.list hq;have hlen:=r'.length;rw[List.length_map] at hlen;refine ai0 (I.ok.hd hc) pl.isList (by simpa using aiz r') (by rw[List.size_toArray];unfold scanBound;omega) fun h' tk hS hk=>?_
 have hex:∃ o,h'.get? s.heap.objs.size=some o:=by obtain⟨o,_,_,_,e,_⟩:=hS;exact⟨o,e⟩
 refine⟨.ref s.heap.objs.size,_,I.laid (a:=s.heap.objs.size) (o:=SetN X.prog X.w s.heap.objs.size (ddS ys).length) (t':=tk) (fun b o e=>hk b o (Heap.lt_size e) e) (Nat.le_refl _) ?_,rfl,q _ I.fresh⟩;refine⟨⟨_,hS⟩,hex,fun h1 h2 ⟨S,z⟩ k=>⟨S,?_⟩⟩;obtain⟨o,es,ep,t,e,rest⟩:=z;exact⟨o,es,ep,t,k o e,rest⟩
theorem ap4:abr X (.builtin "len") (fun xs H Q=>∃ (a:Addr) (n:Nat),xs=[.ref a]/\H a=some (SetN X.prog X.w a n)/\Q (.int n) H):=by
 intro pins s σ H xs us Q I r h;obtain⟨a,n,rfl,ha,q⟩:=h;obtain⟨u,rfl,ru⟩:=ad8 r;cases ru;obtain⟨⟨S,o,es,ep,t,e,ex,hd,_,_,hb,hf,rfl⟩,_⟩:=I.hok a _ ha;refine call_len_set e ex hd hf ?_ ⟨.int es.size,H,I.tok _,⟨_,rfl⟩,q⟩;have:scanBound=4096:=rfl;omega
end
end L2
namespace PySem
open PyProof.Rows L2
theorem aat:entryFor table "dict.update.loop" = some Builtin.«dict.update.loop»:=entryFor_of_tree (by kernel_rfl)
theorem aah:plainId "dict.update.loop" = true:=by decide +kernel
theorem avt:typeLookup (.type "list") "keys" = pure none:=am_miss_of_fast (by decide +kernel)
section
variable {prog:Program}{w:World}{A:Around}
theorem aoc {E:Value->Shared->Prop}{s:Shared}{a:Addr}{its:Array Value}{n:Nat}{sl:Array (Option Value)}{u:Tok}{Q:Value->Shared->Prop}
  (l:s.heap.get? a=some { cls:=.type "list",dict:=none,data:=.seq its n,slots:=sl }) (calm:A.handled=none) (out:∀ h' tk e,Heap.NewAttrErr s.heap h' e (.ref a) "keys" -> E (.ref e) { s with heap:=h',toks:=tk }) :
  wpAny (model prog w) A (boundAndCalled (.builtin "list.__getattribute__") (.ref a) (.str "keys" u)) Q E s:=by
 have ask:wpAny (model prog w) A (call (.builtin "list.__getattribute__") [.ref a,.str "keys" u]) Q E s :=
  call_meets F.slot_list_getattribute ⟨_,l,rfl⟩ am_entry_list_getattribute (F.args_list_getattribute_2 _ _) (meets_getattribute_miss_list a its n sl "keys" u avt (by decide +kernel)) ⟨l,calm,out⟩
 unfold boundAndCalled;rw[F.slot_list_getattribute.bind (.ref a)];exact wpAny_bind (wpAny_pure ask)
theorem axc {E:Value->Shared->Prop}{s:Shared}{o name:Value}{e:Addr}{Q:Value->Shared->Prop}(t:s.TypeIs (.ref e) "AttributeError") (out:E (.ref e) s) :
  wpAny (model prog w) A (getattributeRaised o name (.type "list") (.ref e) none false false) Q E s:=by
 have last:wpAny (model prog w) A (hookOrError o name (.ref e) false false none) Q E s:=wpAny_bind (wpAny_throw out);have none':hookBehind (.type "list") none=pure none:=am_list_getattr_none;unfold getattributeRaised;refine wpAny_bind (wpAny_isInstance t sub_AttributeError ?_);rw[if_pos rfl,none'];exact wpAny_bind (wpAny_pure last)
theorem amm {E:Value->Shared->Prop}{s:Shared}{a:Addr}{its:Array Value}{n:Nat}{sl:Array (Option Value)}{Q:Option Value->Shared->Prop}
  (l:s.heap.get? a=some { cls:=.type "list",dict:=none,data:=.seq its n,slots:=sl }) (calm:A.handled=none) (out:∀ h' tk e,Heap.NewExcOf s.heap h' e "AttributeError" -> Q none { s with heap:=h',toks:=tk }) :
  wpAny (model prog w) A (getAttr? (.ref a) "keys") Q E s:=by
 have ends:∀ h' tk e,Heap.NewAttrErr s.heap h' e (.ref a) "keys" -> (∃ o,h'.get? e=some o/\o.cls = .type "AttributeError")/\Q none { s with heap:=h',toks:=tk }:=fun h' tk e x=>by
  obtain⟨_,_,y⟩:=x.there;exact⟨⟨_,y,rfl⟩,out h' tk e x.of⟩
 let s1:Shared:={ s with toks:=s.toks+1 };let got:Except Value Value->Shared->Prop:=fun r s2=>wpAny (model prog w) A (match r with | .ok v=>pure (some v) | .error e=>do if ← isInstance e (.type "AttributeError") then pure none else throw e) Q E s2
 have look:wpAny (model prog w) A (getAttrBy (.ref a) (.str "keys" s.toks) false) (fun v=>got (.ok v)) (fun e=>got (.error e)) s1:=by
  refine wpAny_holding (wpAny_bind (wpAny_typeOf (T := "list") ⟨_,l,rfl⟩ (wpAny_bind (wpAny_of_eq F.slot_list_getattribute.lookup ?_))));have own:wpAny (model prog w) A (getAttrByItsOwn (.ref a) (.str "keys" s.toks) (.type "list") (.builtin "list.__getattribute__") false false) (fun v=>got (.ok v)) (fun e=>got (.error e)) s1:=by
   refine wpAny_bind (wpAny_pure (wpAny_bind (wpAny_attempt (wpAny_holding (aoc (s:=s1) l calm fun h' tk e x=>?_)))));obtain⟨⟨o,y1,y2⟩,q⟩:=ends h' tk e x;exact axc ⟨o,y1,y2⟩ (wpAny_bind (wpAny_isInstance (T := "AttributeError") ⟨o,y1,y2⟩ sub_AttributeError (wpAny_pure q)))
  exact own
 exact wpAny_bind (wpAny_mkText (wpAny_bind (wpAny_attempt look)))
end
section
variable {prog:Program}{w:World}{K:Type} [DecidableEq K] {knd:KeyKind prog w K}{A:Around}{E:Value->Shared->Prop}{R:Result->Shared->Prop}{J:Addr}{fp wr:List Addr}{G:Array GenState->Array GenState->Prop}{n:Nat}{P:Nat->Value->Prop}{St:Nat->Shared->Prop}
theorem aox (W:WalksS prog w A.in1 J fp wr G n P St) (d:Addr) (hdf:d∉fp) (h0:Heap) (more:List (K×Value)) (hn:more.length=n)
  (hT:∀ i v,P i v->∃ (t:Addr) (o:Obj) (m:Nat) (k:K) (kv x:Value),v = .ref t/\t∉d::wr/\h0.get? t=some o/\o.cls = .type "tuple" /\ o.data = .seq #[kv,x] m/\knd.is k kv=true/\more[i]?=some (k,x)) (hb:n<=sizeLine) :
  ∀ (k i:Nat) (s:Shared),n-i=k->i<=n->St i s->(∀ b o,b∉d::wr->h0.get? b=some o->s.heap.get? b=some o)->s.heap.DictOf knd d (merged [] (more.take i)) ->
   (∀ s',Moved (d::wr) G s s'->s'.heap.DictOf knd d (merged [] more)->R (.ok (.ret .none)) s') ->
   codeAny (model prog w) A (.builtin "dict.update.loop" ⟨[.ref d,.ref J,.int (i:Int) 0,.none],[]⟩) R s:=by
 have hdw:d∉wr:=fun z=>hdf (W.sub _ z)
 have hsub:∀ b∈wr,b∈d::wr:=fun b z=>List.mem_cons_of_mem _ z
 intro k;induction k with
 | zero =>
  intro i s hk hi st hkeep hS hR;have ei:i=n:=by omega
  subst ei;rw[List.take_of_length_le (by omega)] at hS;refine codeAny_builtin aat ?_;rw[Around.under_plainId aah _];show wpAny _ A.in1 (pyNext (.ref J) >>= _) _ _ s;refine wpAny_bind (W.done s _ _ st fun s' mv=>?_);show wpAny _ A.in1 (Builtin.Dict.addKeywords d [] >>= _) _ _ s';refine wpAny_bind (wpAny_pure ?_);obtain⟨o,es,ep,ho,rest⟩:=hS;exact wpAny_pure (hR s' (mv.mono hsub) ⟨o,es,ep,mv.heap d _ hdw ho,rest⟩)
 | succ k ih =>
  intro i s hk hi st hkeep hS hR;have hlt:i<n:=by omega
  refine codeAny_builtin aat ?_;rw[Around.under_plainId aah _];show wpAny _ A.in1 (pyNext (.ref J) >>= _) _ _ s;refine wpAny_bind (W.item i s _ _ hlt st fun v s' hv st' mv=>?_);obtain⟨t,o,m,ky,kv,x,rfl,ht,hto,htc,htd,hkey,hmore⟩:=hT i v hv;have hS1:s'.heap.DictOf knd d (merged [] (more.take i)):=by
   obtain⟨o,es,ep,ho,rest⟩:=hS;exact⟨o,es,ep,mv.heap d _ hdw ho,rest⟩
  have hto':s'.heap.get? t=some o:=mv.heap t o (fun z=>ht (hsub _ z)) (hkeep t o ht hto);show wpAny _ A.in1 (holding [Value.ref t] _ >>= _) _ _ s';refine wpAny_bind (wpAny_holding ?_);refine wpAny_bind (wpAny_tryCatch ?_);unfold Builtin.Dict.pairItems;refine wpAny_bind (wpAny_typeOf (T := "tuple") ⟨o,hto',htc⟩ ?_);rw[if_pos (by decide)];refine wpAny_bind (wpAny_seqItems hto' htd ?_);refine wpAny_pure ?_;show wpAny _ A.in1 (holding [kv,x] (dictSet d kv x)) _ _ s';refine wpAny_holding ?_;have hroom:(merged [] (more.take i)).length<=sizeLine:=by
   have e1:=merged_length_le ([]:List (K×Value)) (more.take i);rw[List.length_nil,List.length_take] at e1;omega
  refine wpAny_dictSet_pairs (hsz:=hroom) hkey hS1 fun h' hS2 sb=>?_
  rw[← merged_take_succ [] more i (ky,x) hmore] at hS2;refine wpAny_pure ⟨plainId_quiet aah _,?_⟩;have e1:(rawInt ((i:Int)+1))=Value.int ((i+1:Nat):Int) 0:=by rfl
  rw[e1];refine ih (i+1) _ (by omega) hlt (W.frame _ s' _ _ st' (Nat.le_succ _) fun b hb o e=>?_) (fun b o hb e=>?_) hS2 fun s'' mv'' hS''=>?_
  ·rw[sb.2 b (fun z:b=d=>hdf (by rw[← z];exact hb))];exact e
  ·rw[sb.2 b (fun z:b=d=>hb (by rw[z];exact List.mem_cons_self))];exact mv.heap b o (fun z=>hb (hsub _ z)) (hkeep b o hb e)
  ·refine hR s'' (Moved.trans W.gtrans ((mv.mono hsub).then_heap (Nat.le_succ _) fun b o hb e=>?_) mv'') hS'';rw[sb.2 b (fun z:b=d=>hb (by rw[z];exact List.mem_cons_self))];exact e
end
section
variable {prog:Program}{w:World}{K:Type} [DecidableEq K] {knd:KeyKind prog w K}{A:Around}
abbrev aqh (l:Addr):Obj:={ cls:=.type "list_iterator",data:=.fields #[.ref l,.int 0 0] }
abbrev ap6 (its:Array Value) (n:Nat) (sl:Array (Option Value)):Obj:={ cls:=.type "list",dict:=none,data:=.seq its n,slots:=sl }
theorem awq {E:Value->Shared->Prop}{s:Shared}{d l:Addr}{its:Array Value}{n:Nat}{sl:Array (Option Value)}{Q:Fin->Shared->Prop}(t:s.TypeIs (.ref d) "dict") (hl:s.heap.get? l=some (ap6 its n sl)) (calm:A.handled=none)
  (on:∀ h2 tk e,Heap.NewExcOf s.heap h2 e "AttributeError" -> Q (.again (.builtin "dict.update.loop" ⟨[.ref d,.ref h2.objs.size,.int 0 0,.none],[]⟩)) { s with heap:=h2.push (aqh l),toks:=tk }) :
  wpAny (model prog w) A (Builtin.«dict.__init__» ⟨[.ref d,.ref l],[]⟩) Q E s:=by
 have first:wpAny (model prog w) A (Builtin.Dict.selfAndRest "__init__" ⟨[.ref d,.ref l],[]⟩) (fun p s1=>p=(d,[Value.ref l])/\s1=s) E s:=wpAny_bind (wpAny_notOrdered_dict t (wpAny_pure ⟨rfl,rfl⟩))
 have pairs:wpAny (model prog w) A (Builtin.Dict.updateFrom "dict.__init__" d (.ref l) [] .none) Q E s:=by
  refine wpAny_bind (wpAny_typeOf (T := "list") ⟨_,hl,rfl⟩ ?_);rw[if_pos (by decide)];refine wpAny_bind (amm hl calm fun h2 tk e x=>?_);exact wpAny_bind (wpAny_rule (wpAny_bind (wpAny_pyIter_list ⟨_,x.keeps _ _ hl,rfl,n,rfl⟩ (wpAny_pure (on h2 tk e x)))))
 exact wpAny_bind (wpAny_mono first (fun p s1 q=>by obtain⟨rfl,rfl⟩:=q;exact pairs) fun _ _ q=>q)
def ac1 (s:Shared):Shared:={ s with heap:=s.heap.push { cls:=.type "dict",data:=.dict #[] } }
set_option maxHeartbeats 800000 in
theorem ag8 {E:Value->Shared->Prop}{s:Shared}{l:Addr}{o:Obj}{items:Array Value}{nl:Nat}{more:List (K×Value)}{Q:Value->Shared->Prop}(hh:A.handled=none) (hl:s.heap.get? l=some o) (hc:o.cls = .type "list") (hd:o.dict=none) (hda:o.data = .seq items nl)
  (hn:more.length=items.size)
  (hT:∀ (i:Nat) v,items[i]?=some v->∃ (t:Addr) (o:Obj) (m:Nat) (k:K) (kv x:Value),v = .ref t/\s.heap.get? t=some o/\o.cls = .type "tuple" /\ o.data = .seq #[kv,x] m/\knd.is k kv=true/\more[i]?=some (k,x)) (hb:items.size<=sizeLine)
  (h:∀ (h':Heap) (tk:Nat),h'.DictOf knd s.heap.objs.size (merged [] more)->(∀ b o,s.heap.get? b=some o->h'.get? b=some o)->Q (.ref s.heap.objs.size) { s with heap:=h',toks:=tk }) :
  wpAny (model prog w) A (call (.type "dict") [.ref l]) Q E s:=by
 obtain⟨oc,od,oda,osl⟩:=o;cases hc;cases hd;cases hda;let D:=s.heap.objs.size;have made:(ac1 s).heap.DictOf knd D []:=Heap.DictOf.new s.heap;have old:∀ b o,s.heap.get? b=some o->(ac1 s).heap.get? b=some o:=fun b o e=>Heap.get?_push_of_some _ e
 refine callType_codes F.kt_called_dict (F.kt_typeCall_dict_1 _) F.entry_dict_init (kt_code_dict_new _ (Q₁:=fun v s1=>v = .ref D/\s1=ac1 s) ⟨rfl,rfl⟩) fun v s1 q=>?_
 obtain⟨rfl,rfl⟩:=q;refine⟨made.typeIs,F.args_dict_init_2 _ _,awq made.typeIs (old _ _ hl) (by simp[hh]) fun h2 tk e x=>⟨plainId_quiet aah _,?_⟩⟩;have at2:h2.DictOf knd D []:=by
  obtain⟨o,es,ep,p,r⟩:=made;exact⟨o,es,ep,x.keeps _ _ p,r⟩
 have ltD:D<h2.objs.size:=by
  obtain⟨o,es,ep,p,r⟩:=at2;exact Heap.lt_size p
 have ltL:l<D:=Heap.lt_size hl;have keeps:∀ b o,s.heap.get? b=some o->(h2.push (aqh l)).get? b=some o:=fun b o e=>Heap.get?_push_of_some _ (x.keeps _ _ (old b o e))
 have apart:∀ {b:Addr},b<D->b∉[D,h2.objs.size]:=fun {b} hb' z=>by
  rcases List.mem_cons.mp z with q | q
  ·exact Nat.ne_of_lt hb' q
  ·exact Nat.ne_of_lt (Nat.lt_trans hb' ltD) (List.mem_singleton.mp q)
 have notIn:D∉[h2.objs.size,l]:=fun z=>by
  rcases List.mem_cons.mp z with q | q
  ·exact Nat.ne_of_lt ltD q
  ·exact Nat.ne_of_gt ltL (List.mem_singleton.mp q)
 have list2:(h2.push (aqh l)).IsList l items:=⟨_,keeps _ _ hl,rfl,nl,rfl⟩;refine aox (knd:=knd) ((Walks.list (by simp[hh]) h2.objs.size l (Nat.ne_of_lt (Nat.lt_trans ltL ltD)) items).toS) D notIn s.heap more hn (fun i v hv=>?_) hb items.size 0 _ (by omega) (Nat.zero_le _) ⟨⟨_,Heap.get?_push_size _ rfl,rfl,rfl⟩,list2⟩ (fun b o _ e=>keeps b o e) ?_ fun s' mv fin=>?_
 ·obtain⟨t,ot,m,k,kv,y,rfl,ht,r⟩:=hT i v hv;exact⟨t,ot,m,k,kv,y,rfl,apart (Heap.lt_size ht),ht,r⟩
 ·simpa [merged] using at2.push _
 ·have res:=h s'.heap s'.toks fin fun b o e=>mv.heap b o (apart (Heap.lt_size e)) (keeps b o e)
  rw[show s'={ s with heap:=s'.heap,toks:=s'.toks } from ans mv.gens mv.drawn mv.os];exact⟨rfl,res⟩
end
end PySem
namespace L2
open PySem PySem.Spec PyProof.Rows
section
variable {X:Cx}
def ahn (H:Hp) (ts:List Addr) (kvs:List (Key×V)):Prop:=Paired (fun t (kv:Key×V)=>H t=some (.tup [kV kv.1,kv.2])) ts kvs
theorem aof {P:Program}{w:World}{H:Hp}{h:Heap}(hok:HOk P w H h):∀ {ts:List Addr}{kvs:List (Key×V)},ahn H ts kvs->∃ more:List (Key×Value),KV kvs more /\
  ∀ (i:Nat) t,ts[i]?=some t->∃ (o:Obj) (m:Nat) (k:Key) (kv x:Value),h.get? t=some o/\o.cls = .type "tuple" /\ o.data = .seq #[kv,x] m/\(aa8 P w).is k kv=true/\more[i]?=some (k,x):=by
 intro ts kvs r;unfold ahn at r;induction r with
 | nil=>exact⟨[],.nil,fun i t e=>by simp at e⟩
 | @cons t kv ts kvs h1 h2 ih =>
  obtain⟨more,rk,hm⟩:=ih;obtain⟨z,its,rv,⟨o,ho,hc,n,hdt⟩,_⟩:=hok t _ h1;cases rv with
  | @cons _ u1 _ us r1 rv =>
   cases rv with
   | @cons _ u2 _ us2 r2 rv =>
    cases rv;refine⟨(kv.1,u2)::more,.cons ⟨rfl,r2⟩ rk,fun i t' e=>?_⟩;cases i with
    | zero =>
     simp at e;subst e;exact⟨o,n,kv.1,u1,u2,ho,hc,hdt,aht r1,rfl⟩
    | succ i=>simpa using hm i t' (by simpa using e)
theorem ahu (hcalm:X.calm=true):abr X (.type "dict") (fun xs H Q=>∃ (p:Addr) (ts:List Addr) (kvs:List (Key×V)),xs=[.ref p]/\SqL X.K H p (ts.map V.ref)/\ahn H ts kvs/\kvs.length<=1000/\∀ d,H d=none->Q (.ref d) (upd H d (.dK (abz [] kvs)))):=by
 intro pins s σ H xs us Q I r h;obtain⟨p,ts,kvs,rfl,hq,hp,hz,q⟩:=h;obtain⟨u,rfl,ru⟩:=ad8 r;cases ru;obtain⟨its,r',⟨o,n,e,e1,e2,e3⟩,_⟩:=I.list hq;have hlen:=r'.length;rw[List.length_map] at hlen;have hkl:ts.length=kvs.length:=hp.length;obtain⟨more,rk,hm⟩:=aof I.hok hp;have hml:=rk.length;have hrefs:∀ (i:Nat) v,its[i]?=some v->∃ t,ts[i]?=some t/\v = .ref t:=by
  intro i v hv;have hi:i<its.length:=(List.getElem?_eq_some_iff.mp hv).1;have:i<ts.length:=by omega
  obtain⟨u,hu,ru⟩:=r'.get (i:=i) (x:=V.ref ts[i]) (by simp[this]);rw[hu] at hv;cases hv;cases ru;exact⟨ts[i],by simp[this],rfl⟩
 refine ag8 (knd:=aa8 X.prog X.w) (more:=more) (I.ok.hd hcalm) e e1 e2 e3 (by rw[List.size_toArray];omega) ?_ (by rw[List.size_toArray];exact Nat.le_of_lt (Nat.lt_of_le_of_lt (show its.length<=1000 by omega) (by decide))) fun h' tk hD hk=>?_
 ·intro i v hv;obtain⟨t,ht,rfl⟩:=hrefs i v (by simpa using hv);obtain⟨o,m,k,kv,x,h1,h2,h3,h4,h5⟩:=hm i t ht;exact⟨t,o,m,k,kv,x,rfl,h1,h2,h3,h4,h5⟩
 ·have hz2:(abz [] kvs).length<=sizeLine:=by
   have h1:=ace kvs [];rw[List.length_nil] at h1;exact Nat.le_of_lt (Nat.lt_of_le_of_lt (show (abz [] kvs).length<=1000 by omega) (by decide))
  refine⟨.ref s.heap.objs.size,_,I.laid (a:=s.heap.objs.size) (o:=.dK (abz [] kvs)) (t':=tk) hk (Nat.le_refl _) ?_,rfl,q _ I.fresh⟩;exact agx hz2 (beq_eq_false_iff_ne.mpr (Ne.symm (Nat.ne_of_lt I.big))) (rk.merge .nil) hD
end
def vMro:List Value:=[.type "ValueError",.type "Exception",.type "BaseException",.type "object"]
theorem av2 {K:PySem.W.Frag}{h:Heap}{N:Addr}{mg:Str->Option Value}{n:Str}{v:Value}(X:K.In h) (G:h.Ns N mg) (e:PySem.W.nsIn K N n=some (some v)):mg n=some v:=by
 obtain⟨o,es,ep,ho,hd,_,hf⟩:=G;unfold PySem.W.nsIn at e;cases q:List.lookup N K with
 | none=>rw[q] at e;cases e
 | some o' =>
  rw[q] at e;have z:=X _ _ q;rw[ho] at z;cases z;obtain⟨c,d,da,sl⟩:=o;cases (show da = .dict es ep from hd);cases he:es.toList.find? (fun x=>x.key.isStr n) with
  | some en =>
   have e:=(show (match es.toList.find? (fun x=>x.key.isStr n) with | some e=>some (some e.val) | none=>if (es.toList.any fun x=>x.refKey)=true then none else some none)=some (some v) from e);rw[he] at e;cases e;rw[← hf];unfold nsFind findBy;rw[← Array.find?_toList,he];rfl
  | none =>
   have e:=(show (match es.toList.find? (fun x=>x.key.isStr n) with | some e=>some (some e.val) | none=>if (es.toList.any fun x=>x.refKey)=true then none else some none)=some (some v) from e);rw[he] at e;by_cases w:(es.toList.any fun x=>x.refKey)=true
   ·rw[show (match (none:Option DictEntry) with | some e=>some (some e.val) | none=>if (es.toList.any fun x=>x.refKey)=true then none else some none)=none from if_pos w] at e;cases e
   ·rw[show (match (none:Option DictEntry) with | some e=>some (some e.val) | none=>if (es.toList.any fun x=>x.refKey)=true then none else some none)=some none from if_neg w] at e;cases e
def xcIn (K:PySem.W.Frag) (C N:Addr) (bm:List Value) (init:Option Value):Bool:=match K.lookup C with
 | some o=>o.cls == .type "type" && (match o.data with
  | .cls cd=>cd.mro == .ref C::bm&&(o.slots.toList.length == 6&&(o.slots.toList[4]? == some (some (.builtin "ValueError.__new__"))&&(!cd.hasDel&&(cd.hasDict&&(cd.ns == N&&(PySem.W.tailIn K vMro bm&&(PySem.W.nsOkIn K N&&PySem.W.nsIn K N "__init__" == some init)))))))
  | _=>false)
 | none=>false
theorem xc_is {K:PySem.W.Frag}{C N:Addr}{bm:List Value}{init:Option Value}(q:xcIn K C N bm init=true):∃ dd cd sl,K.lookup C=some ⟨.type "type",dd,.cls cd,sl⟩/\cd.mro = .ref C::bm/\sl.toList.length=6/\sl.toList[4]?=some (some (.builtin "ValueError.__new__"))/\cd.hasDel=false/\cd.hasDict=true/\cd.ns=N /\
  PySem.W.tailIn K vMro bm=true/\PySem.W.nsOkIn K N=true/\PySem.W.nsIn K N "__init__" = some init:=by
 unfold xcIn at q;cases ho:K.lookup C with
 | none=>rw[ho] at q;cases q
 | some o =>
  rw[ho] at q;obtain⟨c,dd,da,sl⟩:=o;obtain⟨q1,q2⟩:=Bool.and_eq_true_iff.mp q;clear q;obtain rfl:c = .type "type" := beq_iff_eq.mp q1;cases da<;>first | (cases q2;done) | skip
  rename_i cd
  simp only[Bool.and_eq_true,beq_iff_eq,Bool.not_eq_true'] at q2;exact⟨dd,cd,sl,rfl,q2⟩
theorem len6 {α:Type}:∀ {l:List α}{x:α},l.length=6->l[4]?=some x->∃ a b c d f,l=[a,b,c,d,x,f]
 | [a,b,c,d,_,f],_,_,h=>⟨a,b,c,d,f,by cases h;rfl⟩
structure XCls (h:Heap) (C N:Addr) (bm:List Value) (init:Option Value):Prop where
 ex:∃ nm q bs sn sub ab col dd k0 k1 k2 k3 k5 mN,h.get? C=some (excClassObj nm q C N bs bm true sn sub ab col dd k0 k1 k2 k3 k5 "ValueError.__new__")/\h.Ns N mN/\mN "__init__" = init
 tail:OwnTail h vMro bm
theorem aw5 {K:PySem.W.Frag}{h:Heap}{C N:Addr}{bm:List Value}{init:Option Value}(X:K.In h) (q:xcIn K C N bm init=true):XCls h C N bm init:=by
 obtain⟨dd,cd,sl,ho,hm,h6,h4,hdel,hdic,rfl,ht,hok,hni⟩:=xc_is q;obtain⟨k0,k1,k2,k3,k5,hs⟩:=len6 h6 h4
 ··obtain⟨nm,bs,mro,ns,qn,hd,sn,sub,ab,col,del⟩:=cd;dsimp only at hm hdel hok hni hdic ht;subst hm hdel hdic;obtain⟨l⟩:=sl;obtain rfl:l=_:=hs;refine (⟨⟨nm,qn,bs,sn,sub,ab,col,dd,k0,k1,k2,k3,k5,h.nsMap ns,X _ _ ho,.of_isNs (PySem.W.isNs_of_in X hok),?_⟩,PySem.W.tail_of_in X ht⟩:XCls h _ _ _ _);cases init with
   | none=>exact PySem.W.nsMap_none_of_in X hok hni
   | some v=>exact av2 X (.of_isNs (PySem.W.isNs_of_in X hok)) hni
def ExN (e C:Addr):HO:=.ext fun h=>∃ t,h.get? e=some (xNew C t)
def ExD (e C dd:Addr):HO:=.ext fun h=>∃ t,h.get? e=some { xNew C t with dict:=some dd }
theorem auu {H:Hp}{a:Addr}{o:HO}(h:H a=some o):upd H a o=H:=by
 funext b
 unfold upd;split
 ·rename_i z;rw[z];exact h.symm
 ·rfl
section
variable {X:Cx}
def tFstr (a b:Str) (te:TE):TE:=fun σ H Q=>te σ H fun y H1=>∃ x:Str,y = .str x/\(∀ c∈x.cps.toList,c<16 ^ 8)/\x.length<=1000/\∀ z:Str,Q (.str z) H1
theorem axv {a b:Str}{e:Expr}{te:TE}{i j:Nat}{p1 p2 p3 pos:Pos}(he:PE X e te) (ha:a.length<=1000:=by decide +kernel) (hb:b.length<=1000:=by decide +kernel):PE X (.JoinedStr [.Constant (.str a) i p1,.FormattedValue e 114 none p2,.Constant (.str b) j p3] pos) (tFstr a b te):=by
 intro pins s σ H Q I h;have big:20000<=sizeLine:=by decide
 have e0:(Str.empty++a).length=a.length:=by rw[strLen_append];simp[Str.empty,Str.length]
 refine wpAny_JoinedStr ?_;refine Calls.Constant_str ⟨a,_,rfl,by omega,?_⟩;refine wpAny_FormattedValue_repr (thn (he pins _ σ H _ (I.tok _) h) fun u s1 ⟨y,H1,I1,ry,x,ey,hc,hx,q⟩=>?_);subst ey;obtain⟨t,rfl⟩:=ry;have hl:=StrLaws.reprText_len x hc;have e1:(Str.empty++a++reprText x).length=a.length+(reprText x).length:=by rw[strLen_append,e0]
 have e2:(Str.empty++a++reprText x++b).length=a.length+(reprText x).length+b.length:=by rw[strLen_append,e1]
 refine wpAny_pyReprObj_str (hsz:=by omega) (wpAny_formatField_str (hx:=by omega) ?_ ?_)
 ·refine⟨_,_,rfl,by omega,Calls.Constant_str ⟨b,_,rfl,by omega,⟨by omega,.str _,H1,?_,⟨_,rfl⟩,q _⟩⟩⟩;exact ((I1.tok _).tok _).tok _
 ·refine⟨_,_,rfl,by omega,Calls.Constant_str ⟨b,_,rfl,by omega,⟨by omega,.str _,H1,?_,⟨_,rfl⟩,q _⟩⟩⟩;exact (((I1.tok _).tok _).tok _).tok _
end
theorem ave {P:Program}{w:World}{H:Hp}{h:Heap}{e C t:Addr}(he:h.get? e=some (xNew C t)):ack P w H h e (ExN e C):=⟨⟨t,he⟩,⟨_,he⟩,fun _ _ ⟨t,z⟩ k=>⟨t,k _ z⟩⟩
theorem exD_ok {P:Program}{w:World}{H:Hp}{h:Heap}{e C t dd:Addr}(he:h.get? e=some { xNew C t with dict:=some dd }):ack P w H h e (ExD e C dd):=⟨⟨t,he⟩,⟨_,he⟩,fun _ _ ⟨t,z⟩ k=>⟨t,k _ z⟩⟩
section
variable {X:Cx}
def axe (K:PySem.W.Frag) (ts tf:TE):TE:=fun σ H Q=>ts σ H fun x H1=>tf σ H1 fun y H2=>∃ (e C N:Addr) (bm:List Value) (i:Option Value) (z:Str),x = .ref e/\y = .str z/\H2 e=some (ExN e C)/\xcIn K C N bm i=true/\Q .non H2
theorem arj {x:Str}{np apos pos:Pos}{es ef:Expr}{ts tf:TE}{CE:Addr}(hg:Gl X x) (hm:X.mg x=some (.ref CE)) (hgm:PySem.W.specialIn X.K (.ref CE) "__getattribute__" = some (some (.builtin "type.__getattribute__")))
  (hrd:PySem.W.readsIn X.K CE (.type "type")=true) (hfc:PySem.W.findCls X.K (.ref CE) (.type "type") "__init__" = some (.val (.builtin "ValueError.__init__"))) (hs:PE X es ts) (hf:PE X ef tf) (m:M2 X (.Name x np) "__init__" apos es ef pos)
  (hdb:(x == ("__debug__" : Str))=false:=by decide):PE X (.Call (.Attribute (.Name x np) "__init__" apos) [es,ef] [] pos) (axe X.K ts tf):=by
 intro pins s σ H Q I h;rw[arm_eval_Call,m.base];refine wpAny_bind (ae4 I hg hm ?_ hdb);refine wpAny_bind (wpAny_standAt ?_);have form:methodCallForm (([es,ef]:List Expr).length+([]:List Keyword).length) (backTo pos (starEach [es,ef] X.env)) (backToKw pos (keywordEach [] X.env))=true:=m.few;have hpos:methodCallPos true (.Name x np) X.env apos pos=pure pos:=by unfold methodCallPos;simp[m.line]
 unfold methodCall;rw[form];refine wpAny_bind (wpAny_holding ?_);refine PySem.W.method_cls I.kIn hgm (PySem.W.cls_value I.kIn hrd hfc rfl ?_);refine wpAny_bind (wpAny_of_eq hpos ?_);rw[m.trees];refine Calls.callWith_builtin rfl (Calls.evalArgs_plain (Calls.spliced_cons (thn (hs pins _ σ H _ (I.tok _) h) fun u s2 ⟨y,H2,I2,ry,q2⟩ =>Calls.spliced_cons (thn (hf pins s2 σ H2 _ I2 q2) fun fv s3 ⟨z,H3,I3,rz,e,C,N,bm,i,zz,ey,ez,he,xc,q3⟩=>Calls.spliced_nil ?_))));subst ey ez;obtain rfl:u=Value.ref e:=ry;obtain⟨⟨t0,het⟩,_,_⟩:=I3.hok e _ he;have xk:=aw5 I3.kIn xc;obtain⟨nm,q,bs,sn,sub,ab,col,dd,k0,k1,k2,k3,k5,mN,cC,cN,ci⟩:=xk.ex;obtain⟨h3,g3,d3,t3,os3⟩:=s3;refine x_init PySem.F.excBase_ValueError xk.tail (show ([fv]:List Value).length<=sizeLine by show 1<=sizeLine;decide) cC het fun h' t' he' keep=>?_
 have I4:=I3.write (x:=e) (e:=e) (o:=ExN e C) (t':=t3) (by rw[he];exact True.intro) (.inl rfl) keep ⟨_,he'⟩ (ave he');rw[auu he] at I4;exact⟨.non,H3,I4,rfl,q3⟩
def sXset (K:PySem.W.Frag) (to tv:TE) (f:Str):TS:=fun D σ H=>tv σ H fun y H1=>to σ H1 fun x H2=>∃ (e C N:Addr) (bm:List Value) (i:Option Value),x = .ref e/\H2 e=some (ExN e C)/\xcIn K C N bm i=true /\
 PySem.W.findIn K (.ref C) "__setattr__" = some (some (.builtin "object.__setattr__"))/\PySem.W.findIn K (.ref C) f=some none/\(∀ a,refuseLoop (.ref a) "__setattr__" (.ref C::bm)=pure ())/\bm.contains (.type "object")=true /\
 ∀ dd,H2 dd=none->D.nx σ (upd (upd H2 dd (.xd [(f,y)])) e (ExD e C dd))
theorem ah4 {K:PySem.W.Frag}{C N:Addr}{bm:List Value}{i:Option Value}(q:xcIn K C N bm i=true):∃ cd,PySem.W.clsIn K C=some cd/\cd.hasDict=true/\cd.mro = .ref C::bm:=by
 obtain⟨dd,cd,sl,ho,hm,h6,h4,hdel,hdic,_⟩:=xc_is q;refine⟨cd,?_,hdic,hm⟩;unfold PySem.W.clsIn;rw[ho]
theorem awe {o value:Expr}{f:Str}{to tv:TE}{pos' pos:Pos}(ho:PE X o to) (hv:PE X value tv) (hs:swapsWith value (some (.Attribute o f pos')) pos.line X.env=pure false):PS X (.Assign [.Attribute o f pos'] value pos) (sXset X.K to tv f):=by
 intro pins s σ H D I h;refine plainObj_wpAny_Assign_Attribute (thn (hv pins s σ H _ I h) fun u s1 ⟨y,H1,I1,ry,q⟩=>thn (ho pins s1 σ H1 _ I1 q) fun ov s2 hz=>?_) hs;obtain⟨x,H2,I2,rx,e,C,N,bm,i,ex,he,xc,fs,fn,rf,hob,q2⟩:=hz;subst ex;obtain rfl:ov=Value.ref e:=rx;obtain⟨⟨t0,het⟩,_,_⟩:=I2.hok e _ he;obtain⟨cd,hcl,hdi,hmr⟩:=ah4 xc;have hO:PySem.W.mroIn X.K C (.type "object")=some true:=by
  unfold PySem.W.mroIn;rw[hcl,Option.bind_some,hmr,if_neg (by simp),List.contains_cons,hob,Bool.or_true]
 refine PySem.W.x_set I2.kIn het rfl rfl rfl fs hcl hdi hO (by rw[hmr];exact rf e) fn fun h' tk' g1 g2 g3=>?_
 have ne:s2.heap.objs.size≠e:=fun z=>absurd (Heap.lt_size het) (by rw[← z];exact Nat.lt_irrefl _)
 have u1:(h'.update e fun _=>xNew C t0).get? e=some (xNew C t0):=Heap.get?_update_self _ g1 rfl;have u2:∀ b,b≠e->(h'.update e fun _=>xNew C t0).get? b=h'.get? b:=fun b n=>Heap.get?_update_other _ _ (Ne.symm n)
 have hnd:=I2.hok.fresh (Nat.le_refl s2.heap.objs.size);have I3:=I2.laid (a:=s2.heap.objs.size) (o:=.xd [(f,y)]) (h':=h'.update e fun _=>xNew C t0) (t':=tk') (fun b v q=>?_) (Nat.le_refl _) ?_
 rotate_left
 ·by_cases n:b=e
  ·subst n;rw[het] at q;cases q;exact u1
  ·rw[u2 b n];exact g3 b v n q
 ·obtain⟨o',es,ep,e1,e2⟩:=g2;refine⟨_,⟨o',es,ep,by rw[u2 _ ne];exact e1,e2⟩,fun f'=>?_⟩;by_cases n:f'=f
  ·subst n;simp only[List.lookup_cons,beq_self_eq_true,if_true];exact ry
  ·have:(f' == f)=false:=beq_eq_false_iff_ne.mpr n;simp only[List.lookup_cons,this,if_neg n,List.lookup_nil]
   trivial
 have I4:=I3.write (x:=e) (e:=e) (o:=ExD e C s2.heap.objs.size) (h':=h') (t':=tk') (by rw[aad ne.symm,he];exact True.intro) (.inl rfl) (fun b v n q=>by rw[← u2 b n];exact q) ⟨_,g1⟩ (exD_ok g1);exact⟨σ,_,I4,q2 _ hnd⟩
end
section
variable {X:Cx}{k:Nat}{f C N:Addr}{bm:List Value}{fd:FuncData}{ps:List Str}{sp:Sp}{x:Str}{p pos:Pos}{e:Expr}{es:List Expr}{t:TA}
def tXmake (C:Addr) (sp:Sp) (t:TA):TE:=fun σ H Q=>t σ H fun vs H1=>vs.length<=10/\∀ a,H1 a=none->sp (.ref a::vs) (upd H1 a (ExN a C)) (fun v H2=>v = .non/\Q (.ref a) H2) E0
theorem aun (xc:xcIn X.K C N bm (some (.ref f))=true) (hkC:PySem.W.keepIn X.K (.ref C)=true){oI:Obj}(hf:X.K.lookup f=some oI) (hfc:oI.cls = .type "function") (F:FnOk X.prog X.w X.K X.mg X.base CX0 k f fd ps sp) (hr:Room (k+1) X.A) (hg:Gl X x) (hm:X.mg x=some (.ref C)) (hb:ahl X.K fd ps [])
  (ha:PA X (e::es) t) (hdb:(x == ("__debug__" : Str))=false:=by decide) (he:starEach (e::es) X.env=(false,eval e X.env)::starEach es X.env:=by rfl) (hpl:(backTo pos (starEach es X.env)).any (·.1)=false:=by rfl) :
  PE X (.Call (.Name x p) (e::es) [] pos) (tXmake C sp t):=by
 intro pins s σ H Q I h;refine wpAny_Call_Name_kw (ae4 I hg hm ?_ hdb);refine PySem.W.callWith_K (h₀:=X.base) I.ok.mod.kin hkC (thn (ha pos pins s σ H _ I h) fun us s1 ⟨vs,H1,I1,r,hl,q⟩=>⟨I1.kIn,?_⟩) he hpl;have xk:=aw5 I1.kIn xc;obtain⟨nm,qn,bs,sn,sub,ab,col,dd,k0,k1,k2,k3,k5,mN,cC,cN,ci⟩:=xk.ex;have hz:us.length<=sizeLine:=by rw[← r.length];exact Nat.le_trans hl (by decide)
 obtain⟨h1,g1,d1,t1,os1⟩:=s1;refine x_call PySem.F.excBase_ValueError PySem.F.excBase_ValueError.hasB PySem.F.excBase_ValueError xk.tail cC cN ci (I1.kIn _ _ hf) hfc hz fun h' a la mk=>?_
 obtain⟨ta,ea,nta,eta⟩:=mk.there;have na:H1 a=none:=I1.hok.fresh la;have q1:=q a na;have I2:Inv X pins σ (upd H1 a (ExN a C)) ⟨h',g1,d1,t1,os1⟩:=I1.laid (a:=a) (o:=ExN a C) (t':=t1) mk.keeps la (ave ea);have r2:Vals (V.ref a::vs) (Value.ref a::us):=.cons rfl r;have hlen:(Value.ref a::us++[]).length=ps.length:=by
  rw[List.append_nil,← r2.length];exact F.len _ _ _ _ q1
 have bb:=hb _ (Value.ref a::us) I2.kIn hlen;rw[List.append_nil] at bb;refine wpAny_call (codeAny_mono (F.run _ X.stack _ _ ⟨Value.ref a::us,[]⟩ (Value.ref a::us) _ _ E0 (hr.make C us []) (I2.env0.make C us []) bb r2 q1) fun rr s' hq'=>?_);cases rr with
 | error ev=>exact hq'.elim
 | ok fl =>
  cases fl with
  | ret u =>
   obtain⟨v,H',I3,rv,ev,q3⟩:=I2.after hq';subst ev;exact⟨rv,⟨V.ref a,H',I3,rfl,q3⟩⟩
  | next=>exact False.elim hq'
  | brk=>exact False.elim hq'
  | cont=>exact False.elim hq'
end
section
variable {P:Program}{w:World}{K:PySem.W.Frag}{mg:Str->Option Value}{base:Heap}{Nm:List Str}{qual:Str}{scope:Scope}{f:Addr}{cd:Value}{A:Around}{outer:List Env}{s0:Shared}{H0:Hp}{E:XK}
def tRaise (K:PySem.W.Frag) (E:XK) (t:TE):TS:=fun _ σ H=>t σ H fun v H1=>∃ (e C N dd:Addr) (bm:List Value) (i:Option Value),v = .ref e/\H1 e=some (ExD e C dd)/\xcIn K C N bm i=true/\bm.contains (.type "BaseException")=true /\
 ∀ T,H1 T=none->E (.ref C) (some dd) (upd (upd H1 e (ExC e (.ref C) (some dd))) T (AnyO T))
theorem arx {ec:Expr}{pos:Pos}{t:TE}(he:PE (cxOf (CXe P w) P w K mg base Nm qual scope f cd A outer s0 H0 E) ec t):PS (cxOf (CXe P w) P w K mg base Nm qual scope f cd A outer s0 H0 E) (.Raise (some ec) none pos) (tRaise K E t):=by
 intro pins s σ H D I h;rw[arm_exec_Raise];refine wpAny_bind (wpAny_standAt ?_);refine axd (I.ok.hd rfl) (wpAny_bind (thn (he pins s σ H _ I h) fun u s1 z=>wpAny_bind (wpAny_standAt (wpAny_pure ?_))));obtain⟨v,H1,I1,rv,e,C,N,dd,bm,i,ev,hx,xc,hB,hE⟩:=z;subst ev;obtain rfl:u=Value.ref e:=rv;have xk:=aw5 I1.kIn xc;obtain⟨nm,qn,bs,sn,sub,ab,col,ddc,k0,k1,k2,k3,k5,mN,cC,cN,ci⟩:=xk.ex;obtain⟨⟨t0,het⟩,_,_⟩:=I1.hok e _ hx;refine⟨e,_,_,C,N,bm,nm,qn,bs,true,sn,sub,ab,col,ddc,k0,k1,k2,k3,k5,_,rfl,cC,hB,het,rfl,rfl,rfl,?_⟩;have I2:=I1.write (x:=e) (e:=e) (o:=ExC e (.ref C) (some dd)) (h':=s1.heap) (t':=s1.toks) (by rw[hx];exact True.intro) (.inl rfl) (fun _ _ _ q=>q) ⟨_,het⟩ (avc het rfl rfl rfl);refine atz (base:=base) (env:=envOfC qual scope s0.heap.objs.size f cd) (outer:=outer) (L:=s0.heap.objs.size) I1.ok.frames I1.stack rfl het rfl rfl fun h' T kp xa nT=>?_
 have te:(upd H1 e (ExC e (.ref C) (some dd))) e=some (ExC e (.ref C) (some dd)):=aaa;have hT:(upd H1 e (ExC e (.ref C) (some dd))) T=none:=I2.hok.fresh nT;have hT1:H1 T=none:=I1.hok.fresh nT;have ne:T≠e:=fun z=>by rw[z,te] at hT;cases hT
 exact⟨e,T,.ref C,some dd,_,rfl,I2.os,I2.bare,amp I2.base kp (fun b o q z=>avb q z) (fun b z=>by rw[List.mem_singleton.mp z,te];simp) hT nT,ajo I2.hok kp I2.stkFree te (fun b z=>.inl (List.mem_singleton.mp z)) xa hT,xa,by rw[aad ne.symm];exact te,aaa,hE T hT1⟩
end
theorem aqm {K:PySem.W.Frag}{M:Model}{A:Around}{E:Value->Shared->Prop}{s:Shared}{e:Addr}{oe:Obj}{cls c:Value}{b:Bool}{Q:Bool->Shared->Prop}(X:K.In s.heap) (he:s.heap.get? e=some oe) (hc:oe.cls=cls) (h:PySem.W.exmOne K cls c=some b) (q:Q b s) :
  wpAny M A (excMatches (.ref e) c) Q E s:=by
 obtain⟨L1,L2⟩:=PySem.W.exm_cls (M:=M) X h;have L3:=PySem.W.exm_ty (M:=M) X h;have L4:PySem.W.Looks M s.heap (typeOf (.ref e)) cls:=hc▸(PySem.W.Looks.ld he).andThen .now;unfold excMatches;refine wpAny_bind (L3.here ?_);simp only[Bool.false_eq_true,if_false];refine wpAny_bind (wpAny_pure ?_);simp only[List.forIn_cons,List.forIn_nil];refine wpAny_bind (wpAny_bind (wpAny_bind (L1.here ?_)));simp only[Bool.not_true,Bool.false_eq_true,if_false];refine wpAny_pure (wpAny_pure (wpAny_bind (L4.here (wpAny_bind (wpAny_bind (wpAny_bind (L2.here ?_)))))));cases b
 ·simp only[Bool.false_eq_true,if_false];exact wpAny_pure (wpAny_pure (wpAny_pure q))
 ·simp only[if_true];exact wpAny_pure (wpAny_pure (wpAny_pure q))
section
variable {X:Cx}{pins:List (Addr×Obj)}{σ:St}{H:Hp}{s:Shared}
theorem aw1 {M:Model}{A:Around}{E:Value->Shared->Prop}{j:Nat}{n:Str}{pos:Pos}{Q:Unit->Shared->Prop}(I:Inv X pins σ H s) (hN:X.N.Nodup) (hj:X.N[j]?=some n) (hl:X.env.scope.names.lookup n=some .local)
  (h:∀ s',Inv X pins (σ.set j none) H s'->Q () s'):wpAny M A (do bindName X.env n .none;unbindBehindTheSuite X.env n pos) Q E s:=by
 obtain⟨m,hn,hv⟩:=id I.loc;refine wpAny_nameGoes_keeps hl hn (by rw[I.ok.kind];rfl) fun h' v hn' sb=>h _ ?_
 have keep:∀ b o,b≠X.env.locals->s.heap.get? b=some o->h'.get? b=some o:=fun b o nb q=>(sb.2 b nb).trans q
 refine⟨I.ok,I.os,I.bare,?_,⟨_,hn',fun i x w hi hσ hvis=>?_⟩,fun x c hc=>?_,I.free,I.freeC,fun p hp=>?_,fun a o e=>?_,by rw[List.length_set];exact I.len⟩
 ·have neL:∀ b o,X.s₀.heap.get? b=some o->b≠X.env.locals:=fun b o e=>Nat.ne_of_lt (Nat.lt_of_lt_of_le (Heap.lt_size e) I.ok.above)
  refine⟨fun b o q z nf nx=>keep b o (neL b o q) (I.base.keep b o q z nf nx),fun b o q z hb nx=>?_,I.base.free,fun b o q nx=>?_,I.base.tups,I.base.frzs,I.base.tbls⟩
  ·obtain⟨sl,r⟩:=I.base.slot b o q z hb nx;exact⟨sl,keep b _ (neL b o q) r⟩
  ·obtain⟨o',r⟩:=I.base.there b o q nx;exact⟨o',keep b _ (neL b o q) r⟩
 ·by_cases ij:j=i
  ·subst ij;by_cases hlt:j<σ.length
   ·rw[List.getElem?_set_self hlt] at hσ;cases hσ
   ·rw[List.getElem?_eq_none (by rw[List.length_set];omega)] at hσ;cases hσ
  rw[List.getElem?_set_ne ij] at hσ;have xn:x≠n:=fun z=>by
   subst z;have l1:=(List.getElem?_eq_some_iff.mp hi);have l2:=(List.getElem?_eq_some_iff.mp hj);exact ij ((List.getElem_inj (hN)).mp (l2.2.trans l1.2.symm))
  obtain⟨u,ru,lk⟩:=hv i x w hi hσ hvis;refine⟨u,ru,?_⟩;rcases lk with⟨k1,k2⟩ | ⟨k1,c,k2,o,k3,k4⟩
  ·exact .inl ⟨k1,by show (if x=n then v else m x)=some u;rw[if_neg xn];exact k2⟩
  ·exact .inr ⟨k1,c,k2,o,keep c o (I.cne x c k2) k3,k4⟩
 ·obtain⟨v',o,k3,k4⟩:=I.cell x c hc;exact⟨v',o,keep c o (I.cne x c hc) k3,k4⟩
 ·obtain⟨a1,a2,a3,a4⟩:=I.pin p hp;exact⟨keep _ _ a3 a1,a2,a3,a4⟩
 ·refine (I.hok a o e).stay (fun b u hb q=>keep b u (fun z=>?_) q) (fun _ q=>q) fun _ _ q=>q
  have:=I.free;rcases hb with rfl | hb
  ·rw[z,this] at e;cases e
  ·rw[z,this] at hb;cases hb
abbrev Cx.marked (X:Cx) (e:Addr) (E:Value->Shared->Prop):Cx:={ X with A:=X.A.mark (some (.ref e)),calm:=false,xe:=E }
theorem Inv.marked (I:Inv X pins σ H s) (e:Addr) (E:Value->Shared->Prop):Inv (X.marked e E) pins σ H s:=by
 obtain⟨ok,a1,a2,a3,a4,a5,a6,a7,a8,a9,a10⟩:=I;obtain⟨b1,b2,b3,b4,b5,b6,b7,b8,b9,b10,b11,b12,b13,b14,b15,b16,b17,b18⟩:=ok;exact⟨⟨b1,b2,b3,b4,b5,b6,b7,b8,(fun z=>by cases z),b10,b11,b12,b13,b14,b15,b16,b17,b18⟩,a1,a2,a3,a4,a5,a6,a7,a8,a9,a10⟩
theorem Inv.unmarked {e:Addr}{E:Value->Shared->Prop}(ok:X.Ok) (I:Inv (X.marked e E) pins σ H s):Inv X pins σ H s:=by
 obtain⟨_,a1,a2,a3,a4,a5,a6,a7,a8,a9,a10⟩:=I;exact⟨ok,a1,a2,a3,a4,a5,a6,a7,a8,a9,a10⟩
end
theorem at4 {X:Cx}{pins:List (Addr×Obj)}{σ:St}{H:Hp}{s:Shared}{h':Heap}{xs:List Addr}{e T:Addr}{C fl:Value}{od:Option Addr}(I:Inv X pins σ H s) (k:XKeep (frOf X.stack) xs s.heap h') (te:H e=some (ExC e C od)) (hx:∀ b∈xs,b=e\/H b=some (AnyO b)) (x:XAt h' e C od T fl) (hT:s.heap.objs.size<=T) :
  Inv X pins σ (upd H T (AnyO T)) { s with heap:=h' }:=by
 have nT:=I.hok.fresh hT;refine I.call (g':=s.gens) (d':=s.drawn) (t':=s.toks) (ch:=[]) (amp Un.refl k (fun b o _ z=>z) (fun b z=>?_) nT hT) (ajo I.hok k I.stkFree te hx x nT) I.bare (fun b z=>absurd z (by simp));rcases hx b z with y | y
 ·rw[y,te];simp
 ·rw[y];simp
theorem ao6 {X:Cx}{pins:List (Addr×Obj)}{σ:St}{H:Hp}{s:Shared}{h':Heap}{T:Addr}(I:Inv X pins σ H s) (k:XKeep [] [T] s.heap h') (tT:H T=some (AnyO T)):Inv X pins σ H { s with heap:=h' }:=by
 obtain⟨⟨o,ho⟩,_⟩:=I.hok T _ tT;obtain⟨o',ho'⟩:=k.there T o ho;have J:=I.write (x:=T) (e:=T) (o:=AnyO T) (t':=s.toks) (by rw[tT];exact True.intro) (.inl rfl) (fun b u n q=>k.keep b u q (by simpa using n) (by simp)) ⟨_,ho'⟩ (alp ho');rw[auu tT] at J;exact J
end L2
namespace PySem.W
open PySem PySem.Calls PyProof.Rows Builtin Builtin.ObjectAttr
structure XFacts (K:Frag) (C:Addr):Prop where
 ga:findIn K (.ref C) "__getattribute__" = some (some (.builtin "BaseException.__getattribute__"))
 gh:findIn K (.ref C) "__getattr__" = some none
 mb:mroIn K C (.type "BaseException")=some true
 mo:mroIn K C (.type "object")=some true
 cl:findIn K (.ref C) "__class__" = some (some (.builtin "object.__class__"))
 cg:specialIn K (.builtin "object.__class__") "__get__" = some (some (.builtin "getset_descriptor.__get__"))
 ct:takesIn K (.builtin "object.__class__")=some true
section
variable {prog:Program}{w:World}{A:Around}{E:Value->Shared->Prop}{s:Shared}{K:Frag}{x C:Addr}{ox:Obj}{od:Option Obj}
theorem XFacts.cls (F:XFacts K C):∃ cd,clsIn K C=some cd:=by
 have:=F.mb;unfold mroIn at this;cases h:clsIn K C with
 | none=>rw[h] at this;cases this
 | some cd=>exact⟨cd,rfl⟩
theorem axf {Q:Option Value->Shared->Prop}(F:XFacts K C) (X:K.In s.heap) (I:InstAt s.heap x ox C od) (h:Q (some (.ref C)) { s with toks:=s.toks+1 }):wpAny (model prog w) A (getAttr? (.ref x) "__class__") Q E s:=by
 obtain⟨hp,g,d,t,os⟩:=s;obtain⟨cd,hcd⟩:=F.cls;have hf:findObj K C od "__class__" = some (.bind (.builtin "getset_descriptor.__get__") (.builtin "object.__class__")):=by
  unfold findObj;rw[hcd,F.cl];simp only[Option.bind_some,F.cg,F.ct]
 have L0:=I.type (M:=model prog w);have L1:=looks_findIn (M:=model prog w) X F.ga;have L2:Looks (model prog w) hp (hookBefore (.ref C)) none:=looks_hook X F.gh;have L3:=looks_find (M:=model prog w) X I hf;have L4:Looks (model prog w) hp (isInstance (.ref x) (.type "BaseException")) true:=L0.andThen (looks_mroIn X F.mb);have nb:(onTheHeap (Value.ref C)&&Value.builtin "BaseException.__getattribute__" == Value.builtin "object.__getattribute__")=false:=by
  rw[show (Value.builtin "BaseException.__getattribute__" == Value.builtin "object.__getattribute__")=false by decide +kernel];rfl
 unfold getAttr? getAttrBy? getAttrBy;refine wpAny_bind (wpAny_mkText (wpAny_bind (wpAny_attempt (wpAny_holding (wpAny_bind (L0.at (wpAny_bind (L1.at ?_))))))));simp only[nb,Bool.false_eq_true,if_false];unfold getAttrByItsOwn;refine wpAny_bind (L2.at (wpAny_bind (wpAny_attempt (wpAny_holding ?_))));unfold callGetattribute;simp only[Bool.false_and,Bool.false_eq_true,if_false];unfold boundAndCalled;rw[PySem.F.excAttr_ValueError.ga.bind];refine wpAny_bind (wpAny_pure ?_);show wpAny _ _ (call (Value.builtin "BaseException.__getattribute__") [Value.ref x,Value.str "__class__" t]) _ _ _;refine wpAny_call (codeAny_call_builtin PySem.F.excAttr_ValueError.ga.plain PySem.F.entry_bexc_ga (@check_slot (model prog w) _ _ ⟨hp,g,d,t+1,os⟩ "BaseException.__getattribute__" "BaseException" "__getattribute__" (.ref x) [.str "__class__" t] [] _ anz ajy L4 (PySem.F.args_bexc_ga (.ref x) (.str "__class__" t)) ?_));unfold Builtin.«object.__getattribute__»;rw[aqf];refine wpAny_bind (wpAny_pure ?_);show wpAny _ _ (attrName (Value.str "__class__" t) >>= _) _ _ _;rw[show attrName (Value.str "__class__" t)=pure "__class__" from rfl];refine wpAny_bind (wpAny_pure (wpAny_bind (L0.at (wpAny_bind (L3.at ?_)))));show wpAny _ _ (bindTo (.builtin "getset_descriptor.__get__") (.builtin "object.__class__") (.ref x) (.ref C)) _ _ _;unfold bindTo;refine wpAny_bind (wpAny_holding (wpAny_call (class_get X I F.mo ?_)));refine wpAny_pure ?_;show wpAny _ _ (handedOut (.ref C)) _ _ _;exact wpAny_pure (wpAny_pure h)
theorem aih {K:Frag}{C:Addr}{cd:ClassData}(h:clsIn K C=some cd):∃ c dd sl,K.lookup C=some ⟨c,dd,.cls cd,sl⟩:=by
 unfold clsIn at h;cases ho:List.lookup C K with
 | none=>rw[ho] at h;cases h
 | some o =>
  rw[ho] at h;obtain⟨c,dd,da,sl⟩:=o;cases da<;>first | (cases h;done) | skip
  cases h;exact⟨c,dd,sl,rfl⟩
theorem kitx_exc (F:XFacts K C):KitX K (.ref x) (.ref C) (fun h=>∃ ox od,InstAt h x ox C od) where
 ty:=fun _ _ _ ⟨_,_,I⟩=>I.type
 it:=fun _ _ X _=>by
  obtain⟨cd,hc⟩:=F.cls;obtain⟨_,_,_,ho⟩:=aih hc;intro A' Q' E' s' k q;unfold isType loadHead;exact wpAny_bind (wpAny_loadPart (k _ _ (X _ _ ho)) (wpAny_pure q))
 ne:=fun h tp dd its n sl X htp=>by
  obtain⟨cd,hc⟩:=F.cls;refine Bool.eq_false_iff.mpr fun q=>?_
  obtain rfl:C=tp:=Value.ref.inj (beq_iff_eq.mp q);obtain⟨_,_,_,ho⟩:=aih hc;have z:=(X _ _ ho).symm.trans htp;cases z
 ca:=fun X ⟨_,_,I⟩ k=>axf F X I k
end
end PySem.W
namespace L2
open PySem PySem.Spec PyProof.Rows
section
variable {X:Cx}
theorem ana {P:Program}{w:World}{H:Hp}{h:Heap}{e C:Addr}{od:Option Addr}(hok:HOk P w H h) (he:H e=some (ExC e (.ref C) od)) (hd:∀ dd,od=some dd->∃ fs,H dd=some (.xd fs)):∃ ox odo,PySem.W.InstAt h e ox C odo:=by
 obtain⟨⟨oe,vs,h1,h2,h3,h4⟩,_⟩:=hok e _ he;cases od with
 | none=>exact⟨oe,none,h1,h2,by unfold PySem.W.notCls;rw[h4],by rw[h3];trivial⟩
 | some dd =>
  obtain⟨fs,hx⟩:=hd dd rfl;obtain⟨mA,⟨o,es,ep,e1,_⟩,_⟩:=hok dd _ hx;exact⟨oe,some o,h1,h2,by unfold PySem.W.notCls;rw[h4],by rw[h3];exact e1⟩
def rIsx (K:PySem.W.Frag):List V->Hp->VK->Prop:=fun xs H Q=>∃ (e C:Addr) (od:Option Addr) (c:V) (cv:Value) (b:Bool),xs=[.ref e,c]/\((∃ a,c = .ref a/\cv = .ref a)\/∃ n,c = .ty n/\cv = .type n)/\H e=some (ExC e (.ref C) od)/\(∀ dd,od=some dd->∃ fs,H dd=some (.xd fs))/\PySem.W.XFacts K C/\PySem.W.kitOne K (.ref C) cv=some b/\Q (.bl b) H
theorem auf:abr X (.builtin "isinstance") (rIsx X.K):=by
 intro pins s σ H xs us Q I r h;obtain⟨e,C,od,c,cv,b,rfl,rc,he,hd,F,hk,q⟩:=h;obtain⟨u,w',rfl,r1,r2⟩:=al9 r;cases r1;obtain rfl:w'=cv:=by
  rcases rc with⟨a,rfl,rfl⟩ | ⟨n,rfl,rfl⟩
  ·exact r2
  ·exact r2
 exact PySem.W.kia_one (PySem.W.kitx_exc F) I.kIn (ana I.hok he hd) hk (fun z=>nomatch z) fun tk=>⟨.bl b,H,I.tok _,rfl,q⟩
theorem alh:∀ {as:List Addr}{us:List Value},Vals (as.map V.ref) us->us=as.map Value.ref
 | [],_,r=>by cases r;rfl
 | a::as,_,r=>by
  cases r with
  | cons r1 r2 =>
   cases r1;rw[alh r2];rfl
def rIsxT (K:PySem.W.Frag):List V->Hp->VK->Prop:=fun xs H Q=>∃ (e C tp:Addr) (od:Option Addr) (as:List Addr) (b:Bool),xs=[.ref e,.ref tp]/\H tp=some (.tup (as.map V.ref))/\H e=some (ExC e (.ref C) od)/\(∀ dd,od=some dd->∃ fs,H dd=some (.xd fs))/\PySem.W.XFacts K C/\PySem.W.kitAny K (.ref C) (as.map Value.ref)=some b/\Q (.bl b) H
theorem apd:abr X (.builtin "isinstance") (rIsxT X.K):=by
 intro pins s σ H xs us Q I r h;obtain⟨e,C,tp,od,as,b,rfl,ht,he,hd,F,hk,q⟩:=h;obtain⟨u,w',rfl,r1,r2⟩:=al9 r;cases r1;cases r2;obtain⟨_,its,rv,⟨o,e1,e2,n,e3⟩,_⟩:=I.hok tp _ ht;obtain⟨oc,od',odt,osl⟩:=o;simp only at e2 e3;subst e2 e3;rw[alh rv] at e1;exact PySem.W.kia_tup (PySem.W.kitx_exc F) I.kIn (ana I.hok he hd) e1 hk (fun z=>nomatch z) fun tk=>⟨.bl b,H,I.tok _,rfl,q⟩
theorem aos {h:Heap}{a:Addr}{mA:Str->Option Value}{o:Obj}{name:Str}{u:Value}(hn:h.Ns1 a mA) (ho:h.get? a=some o) (hu:mA name=some u):PySem.W.lookIn name o=some (some u):=by
 obtain⟨o',es,ep,e1,e2,e3,e4,e5⟩:=hn;rw[ho] at e1;cases e1;have z:=e5 name;rw[hu] at z;unfold nsFind findBy at z;rw[← Array.find?_toList] at z;unfold PySem.W.lookIn;rw[e2];cases hf:es.toList.find? (fun e=>e.key.isStr name) with
 | none=>rw[hf] at z;cases z
 | some en=>rw[hf] at z;simp only[Option.map_some,Option.some.injEq] at z;simp only[hf,z]
theorem ao2 {v:V}{u:Value}(r:RelV v u):PySem.W.handedIn u=true:=by
 cases v with
 | non=>cases r;rfl
 | bl _=>cases r;rfl
 | int _=>obtain⟨t,rfl⟩:=r;rfl
 | str _=>obtain⟨t,rfl⟩:=r;rfl
 | byt _=>obtain⟨t,rfl⟩:=r;rfl
 | flt _=>obtain⟨t,rfl⟩:=r;rfl
 | ref _=>cases r;rfl
 | ty _=>cases r;rfl
def aus (K:PySem.W.Frag) (te:TE) (f:Str):TE:=fun σ H Q=>te σ H fun x H1=>∃ (e C N dd:Addr) (bm:List Value) (i:Option Value) (fs:List (Str×V)) (v:V),x = .ref e/\H1 e=some (ExC e (.ref C) (some dd))/\H1 dd=some (.xd fs)/\fs.lookup f=some v/\PySem.W.XFacts K C/\xcIn K C N bm i=true/\PySem.W.findIn K (.ref C) f=some none/\Q v H1
theorem atk {e:Expr}{te:TE}{f:Str}{pos:Pos}(he:PE X e te) (hb:attributeBase e f X.env (eval e X.env)=eval e X.env):PE X (.Attribute e f pos) (aus X.K te f):=by
 intro pins s σ H Q I h;refine Attribute_any_ (thn (he pins s σ H _ I h) fun u s1 hz=>?_) (by rw[arm_eval_Attribute,hb]);obtain⟨x,H1,I1,rx,ea,C,N,dd,bm,i,fs,v,ex,h1,h2,h3,F,xc,fn,q⟩:=hz;subst ex;obtain rfl:u=Value.ref ea:=rx;obtain⟨⟨oe,vs,g1,g2,g3,g4⟩,_⟩:=I1.hok ea _ h1;obtain⟨mA,hns,hrel⟩:=I1.hok dd _ h2;have hr:=hrel f;rw[h3] at hr;obtain⟨y,ey,ry⟩:=hr.some_of;obtain⟨o,es,ep,e1,erest⟩:=id hns;have lk:=aos hns e1 ey;obtain⟨cd,hcl,hdi,hmr⟩:=ah4 xc;have inst:PySem.W.InstAt s1.heap ea oe C (some o):=⟨g1,g2,by unfold PySem.W.notCls;rw[g4],by rw[g3];exact e1⟩;have hf:PySem.W.findObj X.K C (some o) f=some (.value y):=by
  unfold PySem.W.findObj PySem.W.ownOf;rw[hcl,fn];simp only[Option.bind_some,hdi,if_true,lk]
 exact PySem.W.x_attr I1.kIn inst F.ga F.gh F.mb hf (ao2 ry) ⟨v,H1,I1.tok _,ry,q⟩
end
def lcOk (N:List Str) (kind:Str->Option NameKind) (scope:Scope) (T capN:List Str) (caps:List Nat):Bool :=
 scope.names.all (fun p=>p.2 != .cell)&&scope.names.all (fun p=>p.2 != .free||kind p.1 == some .cell) &&
 scope.names.all (fun p=>p.2 != .local||scope.names.lookup p.1 == some .local) &&
 (capN.zip caps).all (fun p=>decide (N[p.2]?=some p.1)&&scope.names.lookup p.1 == some .free)&&capN.length == caps.length
def lcs (T:List Str) (caps:List Nat) (σ:St):St:=T.map (fun _=>none)++caps.map (fun i=>(σ[i]?).join)
def lcx (X:Cx) (N':List Str) (scope:Scope) (cl:List (Str×Addr)) (C:Addr) (s₀:Shared) (H₀:Hp) (fp:List Addr):Cx :=
 { prog:=X.prog,w:=X.w,K:=X.K,mg:=X.mg,base:=X.base,A:=X.A,N:=N',s₀:=s₀,H₀:=H₀,env:=compEnvC scope cl C X.env,outer:=X.stack,stack:=X.stack,ex:=fp, fn:=fun x=>(cl.lookup x).isNone,calm:=X.calm,pn:=[],xe:=fun _ _=>False }
def PIfs (X:Cx) (ifs:List Expr) (t:TT):Prop :=
 ∀ (pins:List (Addr×Obj)) (s:Shared) (σ:St) (H:Hp) (Q:Bool->Hp->Prop),Inv X pins σ H s->t σ H Q ->
  wpAny (model X.prog X.w) X.A (forIn ifs true fun c r=>if r=true then do let ok ← isTrue c X.env (eval c X.env);pure (ForInStep.yield ok) else pure (ForInStep.yield r)) (TP X pins σ Q) X.xe s
def tYes:TT:=fun _ H Q=>Q true H
theorem agl {X:Cx}:PIfs X [] tYes:=fun pins s σ H Q I h=>wpAny_tests_nil ⟨H,I,h⟩
theorem anp {X:Cx}{c:Expr}{t:TT}(h:PT X c t):PIfs X [c] t:=fun pins s σ H Q I hw=>wpAny_tests_one (h pins s σ H Q I hw)
def LCW (T:List Str) (caps:List Nat) (J:It) (g:TG) (tt:TT) (te:TE) (σ:St) (H1:Hp) (Q:VK) (D:Addr):Prop :=
 ∃ W:Nat->Nat->List V->St->Hp->Prop,(∃ m,W 0 m [] (lcs T caps σ) (upd H1 D (.lst [])))/\∀ i m ys σ' H',W i m ys σ' H' ->
  (J.stop i H'/\Q (.ref D) H')\/(J.go i H'/\∃ (N:St->V->Hp->Prop) (F:St->Hp->Prop),(∀ σ2 v H5,N σ2 v H5->H5 D=some (.lst ys)/\ys.length<sizeLine/\∃ m',m'<m/\W (i+1) m' (ys++[v]) σ2 (upd H5 D (.lst (ys++[v]))))/\(∀ σ2 H4,F σ2 H4->∃ m',m'<m/\W (i+1) m' ys σ2 H4) /\ ∀ x H2,J.yld i H' x H2->g x σ' H2 fun σ2 H3=>tt σ2 H3 fun b H4=>if b=true then te σ2 H4 (N σ2) else F σ2 H4)
def tLC (T:List Str) (caps:List Nat) (wi:TI) (g:TG) (tt:TT) (te:TE):TE:=fun σ H Q=>wi σ H fun J H1=>∀ D,H1 D=none->LCW T caps J g tt te σ H1 Q D
theorem afz {env:Env}:∀ (names:List (Str×NameKind)) (acc:List (Str×Addr)),(∀ p∈names,p.2 = .free->∃ c,env.cells.lookup p.1=some c) ->
  (∀ x c,acc.lookup x=some c->env.cells.lookup x=some c) ->
  ∃ cl,(forIn names acc fun x r=>if (x.2 == NameKind.free)=true then (cellOf env x.1 >>= fun a=>pure (ForInStep.yield ((x.1,a)::r))) else pure (ForInStep.yield r):Sem (List (Str×Addr)))=pure cl /\
   (∀ x c,cl.lookup x=some c->env.cells.lookup x=some c)/\(∀ x,(x,NameKind.free)∈names->(cl.lookup x).isSome=true)/\(∀ x,(acc.lookup x).isSome=true->(cl.lookup x).isSome=true)
 | [],acc,_,ha=>⟨acc,rfl,ha,fun x h=>by simp at h,fun _ h=>h⟩
 | (n,k)::r,acc,hf,ha=>by
  by_cases hk:k = .free
  ·subst hk;obtain⟨c,hc⟩:=hf (n,.free) List.mem_cons_self rfl;have ha':∀ x c',((n,c)::acc).lookup x=some c'->env.cells.lookup x=some c':=by
    intro x c' h;rw[List.lookup_cons] at h;cases e:x == n with
    | true=>rw[e] at h;have:=beq_iff_eq.mp e;subst this;cases h;exact hc
    | false=>rw[e] at h;exact ha x c' h
   obtain⟨cl,e1,h1,h2,h3⟩:=afz r ((n,c)::acc) (fun p hp=>hf p (List.mem_cons_of_mem _ hp)) ha';have hn:(((n,c)::acc).lookup n).isSome=true:=by rw[List.lookup_cons];simp
   refine⟨cl,?_,h1,fun x hx=>?_,fun x hx=>h3 x ?_⟩
   ·rw[List.forIn_cons];simp only[beq_self_eq_true,if_true];have:cellOf env n=pure c:=by unfold cellOf;rw[hc]
    rw[this];exact e1
   ·rcases List.mem_cons.mp hx with q | q
    ·cases q;exact h3 _ hn
    ·exact h2 x q
   ·rw[List.lookup_cons];cases e:x == n with
    | true=>rfl
    | false=>exact hx
  ·obtain⟨cl,e1,h1,h2,h3⟩:=afz r acc (fun p hp=>hf p (List.mem_cons_of_mem _ hp)) ha;refine⟨cl,?_,h1,fun x hx=>?_,h3⟩
   ·rw[List.forIn_cons];have:(k == NameKind.free)=false:=by simpa using hk
    simp only[this,Bool.false_eq_true,if_false];exact e1
   ·rcases List.mem_cons.mp hx with q | q
    ·cases q;exact absurd rfl hk
    ·exact h2 x q
theorem afm {scope:Scope}{env:Env}(hf:∀ p∈scope.names,p.2 = .free->∃ c,env.cells.lookup p.1=some c) :
  ∃ cl,closureFor scope env=pure cl/\(∀ x c,cl.lookup x=some c->env.cells.lookup x=some c)/\(∀ x,(x,NameKind.free)∈scope.names->(cl.lookup x).isSome=true):=by
 obtain⟨cl,e,h1,h2,_⟩:=afz (env:=env) scope.names [] hf (fun x c h=>by simp at h);refine⟨cl,?_,h1,h2⟩;simp only[closureFor];have e':(forIn scope.names [] fun x r=>if (x.2 == NameKind.free)=true then (cellOf env x.1 >>= fun a=>pure (ForInStep.yield ((x.1,a)::r))) else pure (ForInStep.yield r):Sem (List (Str×Addr)))=pure cl:=e
 first
  | exact e'
  | (simp only[bind_pure];exact e')
theorem adn {scope:Scope}{env:Env}{x:Str}{k:NameKind}(h:scope.names.lookup x=some k):∃ k',(relabel scope env).names.lookup x=some k'/\(k'=k\/(k = .free/\k' = .cell)):=by
 have:∀ names:List (Str×NameKind),names.lookup x=some k->∃ k',(names.map fun (p:Str×NameKind)=>match p with | (n,k)=>if (k == NameKind.free&&env.scope.kind == .function&&env.kindOf n == some .cell) then (n,NameKind.cell) else (n,k)).lookup x=some k'/\(k'=k\/(k = .free/\k' = .cell)):=by
  intro names;induction names with
  | nil=>intro h;simp at h
  | cons p r ih =>
   obtain⟨n,k0⟩:=p;intro h;rw[List.map_cons];by_cases hc:(k0 == NameKind.free&&env.scope.kind == .function&&env.kindOf n == some .cell)=true
   ·simp only[hc,if_true];rw[List.lookup_cons] at h ⊢;cases e:x == n with
    | true =>
     rw[e] at h;cases h;have:k=NameKind.free:=by
      have:=(Bool.and_eq_true _ _).mp ((Bool.and_eq_true _ _).mp hc).1;exact beq_iff_eq.mp this.1
     exact⟨_,rfl,.inr ⟨this,rfl⟩⟩
    | false=>rw[e] at h;exact ih h
   ·simp only[hc,if_false];rw[if_neg (by simp)];rw[List.lookup_cons] at h ⊢;cases e:x == n with
    | true=>rw[e] at h;cases h;exact⟨_,rfl,.inl rfl⟩
    | false=>rw[e] at h;exact ih h
 exact this scope.names h
theorem ad2 {scope:Scope}{env:Env}{x:Str}{k:NameKind}(h:(relabel scope env).names.lookup x=some k) (hk:k = .cell\/k = .free) (hc:∀ p∈scope.names,p.2 ≠ .cell):scope.names.lookup x=some .free:=by
 cases e:scope.names.lookup x with
 | none =>
  exfalso;have:∀ names:List (Str×NameKind),names.lookup x=none->(names.map fun (p:Str×NameKind)=>match p with | (n,k)=>if (k == NameKind.free&&env.scope.kind == .function&&env.kindOf n == some .cell) then (n,NameKind.cell) else (n,k)).lookup x=none:=by
   intro names;induction names with
   | nil=>intro _;rfl
   | cons p r ih =>
    obtain⟨n,k0⟩:=p;intro h;rw[List.map_cons];have h2:(x == n)=false/\r.lookup x=none:=by
     rw[List.lookup_cons] at h;cases e:x == n with
     | true=>rw[e] at h;cases h
     | false=>rw[e] at h;exact⟨rfl,h⟩
    dsimp only;split<;>(rw[List.lookup_cons,h2.1];exact ih h2.2)
  have q:=this scope.names e;have h':(relabel scope env).names.lookup x=none:=q;rw[h'] at h;cases h
 | some k0 =>
  obtain⟨k',e1,e2⟩:=adn (env:=env) e;rw[h] at e1;cases e1;have hm:=PySem.mem_of_lookup e;rcases e2 with q | ⟨q,_⟩
  ·subst q;rcases hk with z | z
   ·subst z;exact absurd rfl (hc _ hm)
   ·rw[z]
  ·rw[q]
theorem ac7 {prog:Program}{w:World}{A:Around}{R:Result->Shared->Prop}{s:Shared}{elt target iter:Expr}{ifs:List Expr}{scope:Scope}{pos:Pos}{it acc:Value}{env:Env}(I:Nat->Shared->Prop)
  (turn:∀ n s,I n s->wpAny (model prog w) A (pyNext it) (fun r s₁=>match r with
   | none=>R (.ok .next) s₁
   | some v=>wpAny (model prog w) A (letOwnedTupleGo target it v) (fun _ s₁'=>wpAny (model prog w) A (assign target env v) (fun _ s₂ =>
     wpAny (model prog w) A (forIn ifs true fun c r=>if r=true then do let ok ← isTrue c env (eval c env);pure (ForInStep.yield ok) else pure (ForInStep.yield r)) (fun ok s₃ =>if ok=true then wpAny (model prog w) A (eval elt env) (fun x s₄ =>wpAny (model prog w) A (call (.builtin "list.append") [acc,x]) (fun _ s₅=>∃ m,m<n/\I m s₅) (fun _ _=>False) s₄) (fun _ _=>False) s₃ else ∃ m,m<n/\I m s₃) (fun _ _=>False) s₂) (fun _ _=>False) s₁') (fun _ _=>False) s₁) (fun _ _=>False) s)
  (n:Nat) (h:I n s) :
  codeAny (model prog w) A (.compLoop (.ListComp elt [⟨target,iter,ifs,0⟩] scope pos) 0 it acc env) R s:=by
 refine codeAny_loop rfl I (fun n s hI=>?_) n h;show wpAny _ A ((compTurn (.ListComp elt [⟨target,iter,ifs,0⟩] scope pos) 0 it acc env).onRaise (fun x=>do noteFrame x env;theTreesLotGoes x)) _ _ s;refine wpAny_noted ?_;rw[compTurn_list];refine wpAny_bind (wpAny_standAt (wpAny_bind (wpAny_mono (turn n s hI) (fun r s₁ h₁=>?_) fun _ _ h'=>h'.elim)));cases r with
 | none=>exact wpAny_pure h₁
 | some v =>
  refine wpAny_bind (wpAny_mono h₁ (fun _ s₁' h₁'=>?_) fun _ _ h'=>h'.elim);refine wpAny_bind (wpAny_mono h₁' (fun _ s₂ h₂=>wpAny_bind (wpAny_mono h₂ (fun ok s₃ h₃=>?_) fun _ _ h'=>h'.elim)) fun _ _ h'=>h'.elim);cases ok with
  | false=>exact wpAny_pure ⟨rfl,h₃⟩
  | true =>
   exact wpAny_bind (wpAny_bind (wpAny_mono h₃ (fun x s₄ h₄=>wpAny_bind (wpAny_mono h₄ (fun _ s₅ h₅=>wpAny_pure (wpAny_pure ⟨rfl,h₅⟩)) fun _ _ h'=>h'.elim)) fun _ _ h'=>h'.elim))
structure LcOk (N:List Str) (kind:Str->Option NameKind) (scope:Scope) (capN:List Str) (caps:List Nat):Prop where
 nocell:∀ p∈scope.names,p.2 ≠ .cell
 free:∀ p∈scope.names,p.2 = .free->kind p.1=some .cell
 loc:∀ p∈scope.names,p.2 = .local->scope.names.lookup p.1=some .local
 cap:∀ (j:Nat) (x:Str),capN[j]?=some x->∃ i:Nat,caps[j]?=some i/\N[i]?=some x/\scope.names.lookup x=some .free
 len:capN.length=caps.length
theorem art {N:List Str}{kind:Str->Option NameKind}{scope:Scope}{T capN:List Str}{caps:List Nat}(h:lcOk N kind scope T capN caps=true):LcOk N kind scope capN caps:=by
 unfold lcOk at h;simp only[Bool.and_eq_true] at h;obtain⟨⟨⟨⟨h1,h2⟩,h3⟩,h4⟩,h5⟩:=h;have hl:capN.length=caps.length:=beq_iff_eq.mp h5;refine⟨fun p hp=>?_,fun p hp e=>?_,fun p hp e=>?_,fun j x e=>?_,hl⟩
 ·simpa using List.all_eq_true.mp h1 p hp
 ·have:=List.all_eq_true.mp h2 p hp;rw[e] at this
  simpa using this
 ·have:=List.all_eq_true.mp h3 p hp;rw[e] at this
  simpa using this
 ·have hj:j<capN.length:=(List.getElem?_eq_some_iff.mp e).1;have e2:caps[j]?=some (caps[j]'(by omega)):=List.getElem?_eq_getElem (by omega);have hm:(x,caps[j]'(by omega))∈capN.zip caps:=by
   refine List.mem_of_getElem? (i:=j) ?_;rw[List.getElem?_zip_eq_some];exact⟨e,e2⟩
  have:=List.all_eq_true.mp h4 _ hm;simp only[Bool.and_eq_true,decide_eq_true_eq,beq_iff_eq] at this;exact⟨_,e2,this.1,this.2⟩
section
variable {X:Cx}
set_option maxHeartbeats 1000000 in
theorem ars {elt tg iter:Expr}{ifs:List Expr}{scope:Scope}{pos:Pos}{wi:TI}{g:TG}{tt:TT}{te:TE}(T capN:List Str) (caps:List Nat) (hc:X.calm=true) (hi:PI X tg iter wi)
  (hk:scope.kind = .function) (ho:lcOk X.N X.env.kindOf scope T capN caps=true)
  (hg:∀ s₀ H₀ C cl fp,PG (lcx X (T++capN) scope cl C s₀ H₀ fp) tg g)
  (ht:∀ s₀ H₀ C cl fp,PIfs (lcx X (T++capN) scope cl C s₀ H₀ fp) ifs tt)
  (he:∀ s₀ H₀ C cl fp,PE (lcx X (T++capN) scope cl C s₀ H₀ fp) elt te)
  (hs:∀ x,foldedSetIterable iter X.env x=pure x:=by intro _;rfl) :
  PE X (.ListComp elt [⟨tg,iter,ifs,0⟩] scope pos) (tLC T caps wi g tt te):=by
 intro pins s σ H Q I h;have O:=art ho;have hfree:∀ p∈scope.names,p.2 = .free->∃ c,X.env.cells.lookup p.1=some c:=fun p hp e=>I.ok.has p.1 (.inl (O.free p hp e))
 obtain⟨cl,hclos,cl1,cl2⟩:=afm hfree;rw[eval_ListComp];refine wpAny_comprehension_free (use:=none) rfl hs hclos hk O.loc (thn (hi pins s σ H _ I h) fun v s1 h1=>thn h1 fun itv s2 h2=>?_);obtain⟨it,fp,tn,J,H2,rfl,I2,TT',st2,f2,hD⟩:=h2;refine wpAny_newObj_type ?_;have I3:Inv X pins σ (upd H2 s2.heap.objs.size (.lst [])) { s2 with heap:=s2.heap.push { cls:=.type "list",data:=.seq ([]:List Value).toArray } }:=I2.lnew (t':=s2.toks) (its:=[]) (ys:=[]) .nil (Nat.zero_le _);have fD:H2 s2.heap.objs.size=none:=I2.fresh;obtain⟨W,⟨m0,w0⟩,turn⟩:=hD s2.heap.objs.size fD;generalize hDd:s2.heap.objs.size=D at I3 fD w0 turn ⊢;have st3:tn 0 (s2.heap.push { cls:=.type "list",data:=.seq ([]:List Value).toArray }):=TT'.keep _ _ _ st2 fun b _ o e=>Heap.get?_push_of_some _ e
 have hfpD:∀ b∈fp,b<D:=fun b hb=>by
  obtain⟨o,e,_⟩:=TT'.obj _ _ st2 b hb;rw[← hDd];exact Heap.lt_size e
 generalize hs3:({ s2 with heap:=s2.heap.push { cls:=.type "list",data:=.seq ([]:List Value).toArray } }:Shared)=s3 at I3 ⊢;have st3':tn 0 s3.heap:=by rw[← hs3];exact st3
 generalize hH3:upd H2 D (.lst [])=H3 at I3 w0;have f3:∀ b∈fp,FpOk X pins H3 b:=fun b hb=>by
  obtain⟨z0,z⟩:=f2 b hb;exact⟨by rw[← hH3,aad (Nat.ne_of_lt (hfpD b hb))];exact z0,z⟩
 refine wpAny_newFunctionEnv O.nocell (by intro y hy;simp at hy) (fun h₁ hns₁ hsb₁=>?_) hk;have hCn:H3 s3.heap.objs.size=none:=I3.fresh;have old:∀ b o,s3.heap.get? b=some o->h₁.get? b=some o:=fun b o e=>hsb₁.extBut b o (Nat.ne_of_lt (Heap.lt_size e)) (Heap.get?_push_of_some _ e)
 generalize hC:s3.heap.objs.size=C at hns₁ hsb₁ hCn ⊢;have hltC:∀ b o,s3.heap.get? b=some o->b≠C:=fun b o e=>by rw[← hC];exact Nat.ne_of_lt (Heap.lt_size e)
 have fpC:∀ b∈fp,b≠C:=fun b hb=>by
  obtain⟨o,e,_⟩:=TT'.obj _ _ st3' b hb;exact hltC b o e
 have fpS:∀ b∈fp,b∉frs X.stack:=fun b hb z=>by
  rcases List.mem_cons.mp (I3.stkSub b z) with q | q
  ·exact (f3 b hb).2.1 q
  ·exact (f3 b hb).2.2.1 q
 have fpCl:∀ b∈fp,∀ x c,cl.lookup x=some c->c≠b:=fun b hb x c e=>(f3 b hb).2.2.2.2.1 x c (cl1 x c e)
 have hXok:(lcx X (T++capN) scope cl C s3 H3 fp).Ok:=by
  refine⟨I3.ok.mod,hk,I3.ok.glob,I3.ok.blt,Nat.le_of_eq hC,fun x y c e1 e2=>I3.ok.inj x y c (cl1 x c e1) (cl1 y c e2),fun x hx=>?_,fun x c e1 e2=>?_,I3.ok.hd,I3.ok.frames,.inl rfl,fun b hb=>⟨fpC b hb,fun x c e=>fpCl b hb x c e⟩,fun b o e=>I3.bs b o e,?_,fun b o e z=>?_,fun b hb=>fpS b hb,I3.stack,I3.stkFree⟩
  ·have hx':(relabel scope X.env).names.lookup x=some .cell\/(relabel scope X.env).names.lookup x=some .free:=hx;have hf:scope.names.lookup x=some .free:=by
    rcases hx' with q | q
    ·exact ad2 q (.inl rfl) O.nocell
    ·exact ad2 q (.inr rfl) O.nocell
   exact Option.isSome_iff_exists.mp (cl2 x (PySem.mem_of_lookup hf))
  ·have e1:(cl.lookup x).isNone=true:=e1;have e2:cl.lookup x=some c:=e2;rw[e2] at e1;cases e1
  ·exact Nat.le_trans I3.ok.bsz I3.sz
  ·obtain⟨z0,z1,z2,z3,_⟩:=f3 b z;rcases z3 with q | q
   ·exact I3.ok.noex b o e q
   ·exact absurd (Nat.lt_of_lt_of_le (Heap.lt_size e) (Nat.le_trans I3.ok.bsz q)) (Nat.lt_irrefl _)
 have I4:Inv (lcx X (T++capN) scope cl C s3 H3 fp) [] (lcs T caps σ) H3 { s3 with heap:=h₁,toks:=s3.toks+([]:List (Str×Value)).length }:=by
  refine⟨hXok,rfl,I3.bare,Un.kept old,⟨_,hns₁,fun i x v e1 e2 e3=>?_⟩,fun x c e=>?_,hCn,fun x c e=>I3.freeC x c (cl1 x c e),fun p hp=>absurd (show p∈([]:List (Addr×Obj)) from hp) (by simp),I3.hok.kept old,?_⟩
  ·have e1:(T++capN)[i]?=some x:=e1;unfold lcs at e2;by_cases hi:i<T.length
   ·rw[List.getElem?_append_left (by simpa using hi),List.getElem?_map] at e2;cases q:T[i]? with
    | none=>rw[q] at e2;cases e2
    | some z=>rw[q] at e2;cases e2
   ·rw[List.getElem?_append_right (by omega)] at e1;rw[List.getElem?_append_right (by simpa using hi),List.getElem?_map,List.length_map] at e2;obtain⟨k,k1,k2,k3⟩:=O.cap _ x e1;rw[k1] at e2;have e2:(σ[k]?).join=some v:=Option.some.inj e2;have e2':σ[k]?=some (some v):=by
     cases q:σ[k]? with
     | none=>rw[q] at e2;cases e2
     | some z=>rw[q] at e2;exact congrArg some e2
    have hcell:X.env.kindOf x=some .cell:=O.free (x,.free) (PySem.mem_of_lookup k3) rfl;obtain⟨m,hn,hl⟩:=I3.loc;obtain⟨u,r,l⟩:=hl k x v k2 e2' (.inr (.inl hcell));refine⟨u,r,.inr ⟨?_,?_⟩⟩
    ·obtain⟨k',e5,e6⟩:=adn (env:=X.env) k3;rcases e6 with z | ⟨_,z⟩
     ·subst z;exact .inr e5
     ·subst z;exact .inl e5
    ·rcases l with⟨l1,_⟩ | ⟨_,c,e7,o,ho1,ho2⟩
     ·rw[hcell] at l1;cases l1
     ·obtain⟨c',e8⟩:=Option.isSome_iff_exists.mp (cl2 x (PySem.mem_of_lookup k3));have:=cl1 x c' e8;rw[e7] at this;cases this;exact⟨c,e8,o,old c o ho1,ho2⟩
  ·obtain⟨v,o,ho1,ho2⟩:=I3.cell x c (cl1 x c e);exact⟨v,o,old c o ho1,ho2⟩
  ·show (lcs T caps σ).length=(T++capN).length;unfold lcs;rw[List.length_append,List.length_append,List.length_map,List.length_map,O.len]
 have fpX:∀ {H':Hp},(∀ b∈fp,H' b=none)->∀ b∈fp,FpOk (lcx X (T++capN) scope cl C s3 H3 fp) [] H' b:=fun hn b hb =>
  ⟨hn b hb,fpC b hb,fpS b hb,.inl hb,fun x c e=>fpCl b hb x c e,fun p hp=>absurd (show p∈([]:List (Addr×Obj)) from hp) (by simp)⟩
 have st4:tn 0 h₁:=TT'.keep _ _ _ st3' fun b _ o e=>old b o e
 have w0':W 0 m0 [] (lcs T caps σ) H3:=w0;have loop:codeAny (model X.prog X.w) X.A (.compLoop (.ListComp elt [⟨tg,iter,ifs,0⟩] scope pos) 0 (.ref it) (.ref D) (compEnvC scope cl C X.env))
   (compPost (model X.prog X.w) X.A X.xe none (EP X pins σ Q) (.ref D) C) { s3 with heap:=h₁,toks:=s3.toks+([]:List (Str×Value)).length }:=by
  refine ac7 (fun n s'=>∃ i ys σ' H',Inv (lcx X (T++capN) scope cl C s3 H3 fp) [] σ' H' s'/\tn i s'.heap/\(∀ b∈fp,H' b=none)/\W i n ys σ' H') ?_ m0 ⟨0,[],lcs T caps σ,H3,I4,st4,fun b hb=>(f3 b hb).1,w0'⟩;rintro n s5 ⟨i,ys,σ5,H5,I5,st5,fr5,w5⟩;rcases turn i n ys σ5 H5 w5 with⟨stop,qn⟩ | ⟨go,N,F,hN,hF,step⟩
  ·refine thn (TT'.done (lcx X (T++capN) scope cl C s3 H3 fp) rfl rfl rfl hc i [] s5 σ5 H5 _ I5 (fpX fr5) st5 stop) fun r s6 ⟨hr,I6⟩=>?_
   subst hr;obtain⟨m6,hn6,_⟩:=I6.loc;refine⟨m6,hn6,fun h' hsb=>?_⟩;have hfC:H5 C=none:=I6.free;have hok':HOk X.prog X.w H5 h':=fun b u e=>by
    have neb:∀ c u',H5 c=some u'->c≠C:=fun c u' e' z=>by subst z;rw[hfC] at e';cases e'
    refine (I6.hok b u e).stay (fun c v hc' q=>hsb.extBut c v ?_ q) (fun _ q=>q) fun _ _ q=>q
    rcases hc' with z | z
    ·rw[z];exact neb b u e
    ·exact neb c _ z
   have ub:=I6.base;refine⟨.ref D,H5,Inv.call' (s':={ s6 with heap:=h' }) (ch:=fp) I3 I6.os ?_ hok' I6.bare (fun b hb=>⟨(f3 b hb).2.2.2.1,(f3 b hb).2.1,(f3 b hb).2.2.2.2.1,(f3 b hb).2.2.2.2.2⟩),rfl,qn⟩;exact⟨fun b o q n hb hx=>hsb.extBut b o (hltC b o q) (ub.keep b o q n hb hx),fun b o q n hb hx=>let ⟨sl,e⟩:=ub.slot b o q n hb hx;⟨sl,hsb.extBut b _ (hltC b o q) e⟩,ub.free,fun b o q hx=>let ⟨o',e⟩:=ub.there b o q hx;⟨o',hsb.extBut b _ (hltC b o q) e⟩,ub.tups,ub.frzs,ub.tbls⟩
  ·refine thn (TT'.item (lcx X (T++capN) scope cl C s3 H3 fp) rfl rfl rfl hc i [] s5 σ5 H5 _ I5 (fpX fr5) st5 go) fun r s6 ⟨u,hr,h6⟩=>?_
   subst hr;refine thn h6 fun _ s7 ⟨x,H7,I7,r7,y7,st7,fr7⟩=>?_
   have I7':=I7.pinned (fpX fr7) (TT'.obj _ _ st7);have keepT:∀ {σ8:St} {H8:Hp} {s8:Shared},Inv (lcx X (T++capN) scope cl C s3 H3 fp) ([]++aii fp s7.heap) σ8 H8 s8->tn (i+1) s8.heap/\(∀ b∈fp,H8 b=none):=fun {σ8 H8 s8} I8=>by
    refine⟨TT'.keep _ _ _ st7 fun b hb o e=>(I8.pin (b,o) (List.mem_append_right _ (List.mem_append_right _ (ac4 hb e)))).1,fun b hb=>?_⟩;obtain⟨o,e,d⟩:=TT'.obj _ _ st7 b hb;exact (I8.pin (b,o) (List.mem_append_right _ (List.mem_append_right _ (ac4 hb e)))).2.1
   refine thn (hg s3 H3 C cl fp _ s7 σ5 H7 x u _ I7' r7 (step x H7 y7)) fun _ s8 ⟨σ8,H8,I8,q8⟩=>?_
   refine thn (ht s3 H3 C cl fp _ s8 σ8 H8 _ I8 q8) fun ok s9 ⟨H9,I9,q9⟩=>?_
   cases ok with
   | false =>
    rw[if_neg (by simp)] at q9;rw[if_neg (by simp)];obtain⟨m',hm,w9⟩:=hF _ _ q9;exact⟨m',hm,i+1,ys,σ8,H9,I9.unpinned,(keepT I9).1,(keepT I9).2,w9⟩
   | true =>
    rw[if_pos rfl] at q9;rw[if_pos rfl];refine thn (he s3 H3 C cl fp _ s9 σ8 H9 _ I9 q9) fun vv s10 ⟨v,H10,I10,r10,n10⟩=>?_
    obtain⟨a10,z10,m',hm,w10⟩:=hN _ _ _ n10;refine thn (aaw (X:=lcx X (T++capN) scope cl C s3 H3 fp) _ s10 σ8 H10 (.ref D) [v] (.ref D) [vv] (fun _ H11=>W (i+1) m' (ys++[v]) σ8 H11) I10 rfl (.cons r10 .nil) ⟨D,ys,v,rfl,rfl,a10,z10,w10⟩) fun _ s11 ⟨_,H11,I11,_,w11⟩=>?_
    exact⟨m',hm,i+1,ys++[v],σ8,H11,I11.unpinned,(keepT I11).1,(keepT I11).2,w11⟩
 exact codeAny_compStart_list loop (TT'.self _ 0 _ _ _ st4 loop)
end
structure Yields (J:It) (xs:List V) (R:Hp->Prop):Prop where
 go:∀ i H,i<xs.length->R H->J.go i H
 yld:∀ i H x H',i<xs.length->R H->J.yld i H x H'->H'=H/\xs[i]?=some x
 stop:∀ i H,i=xs.length->R H->J.stop i H
theorem aml {K:PySem.W.Frag}{a:Addr}{xs:List V}:Yields (Itl K a) xs (fun H=>SqL K H a xs) :=
 ⟨fun i H hi r=>⟨xs,xs[i],r,List.getElem?_eq_getElem hi⟩,fun i H x H' hi r y=>⟨y.1,y.2 xs r⟩,fun i H e r=>⟨xs,r,by omega⟩⟩
theorem af8 {lo:Int}{n:Nat}:Yields (Itr lo n) ((List.range n).map fun (i:Nat)=>V.int (lo+(i:Int))) (fun _=>True) :=
 ⟨fun i H hi _=>by simpa [Itr] using hi,fun i H x H' hi _ y=>⟨y.1,by rw[y.2];simp at hi;simp[hi]⟩,fun i H e _=>by simp[Itr,e]⟩
def aho (z:Str):List V:=z.cps.toList.map fun c=>V.str ⟨#[c]⟩
theorem aom {z:Str}:Yields (Its z) (aho z) (fun _=>True) :=
 ⟨fun i H hi _=>by simpa [Its,aho,Str.length] using hi,
  fun i H x H' hi _ y=>by
   obtain⟨e,c,hc,rfl⟩:=y;refine⟨e,?_⟩;unfold aho;rw[List.getElem?_map,Array.getElem?_toList,hc];rfl,
  fun i H e _=>by simp[Its,e,aho,Str.length]⟩
def LcN (cs:St) (D:Addr) (Pv:Nat->List V->Hp->Prop) (i:Nat) (ys:List V) (σ2:St):VK:=fun v H5=>(∃ t,σ2=t::cs)/\H5 D=some (.lst ys)/\ys.length<sizeLine/\Pv (i+1) (ys++[v]) (upd H5 D (.lst (ys++[v])))
def LcF (cs:St) (Pv:Nat->List V->Hp->Prop) (i:Nat) (ys:List V) (σ2:St) (H4:Hp):Prop:=(∃ t,σ2=t::cs)/\Pv (i+1) ys H4
theorem lc1 {J:It}{xs:List V}{R:Hp->Prop}{nm:Str}{caps:List Nat}{tt:TT}{te:TE}{σ:St}{H1:Hp}{Q:VK}{D:Addr}(Y:Yields J xs R) (Pv:Nat->List V->Hp->Prop)
  (h0:Pv 0 [] (upd H1 D (.lst []))) (hR:∀ i ys H,i<=xs.length->Pv i ys H->R H)
  (hs:∀ i x ys H,xs[i]?=some x->Pv i ys H->tt (some x::caps.map (fun i=>(σ[i]?).join)) H fun b H4 =>if b=true then te (some x::caps.map (fun i=>(σ[i]?).join)) H4 (LcN (caps.map (fun i=>(σ[i]?).join)) D Pv i ys (some x::caps.map (fun i=>(σ[i]?).join))) else LcF (caps.map (fun i=>(σ[i]?).join)) Pv i ys (some x::caps.map (fun i=>(σ[i]?).join)) H4)
  (hd:∀ ys H,Pv xs.length ys H->Q (.ref D) H):LCW [nm] caps J (ak9 0) tt te σ H1 Q D:=by
 refine⟨fun i m ys σ' H=>m=xs.length-i/\i<=xs.length/\(∃ t,σ'=t::caps.map (fun i=>(σ[i]?).join))/\Pv i ys H,⟨xs.length,by simp,Nat.zero_le _,⟨none,rfl⟩,h0⟩,?_⟩;rintro i m ys σ' H' ⟨rfl,hi,⟨t,rfl⟩,p⟩;by_cases hlt:i<xs.length
 ·refine .inr ⟨Y.go i H' hlt (hR i ys H' hi p),LcN (caps.map (fun i=>(σ[i]?).join)) D Pv i ys,LcF (caps.map (fun i=>(σ[i]?).join)) Pv i ys,?_,?_,fun x H2 y=>?_⟩
  ·rintro σ2 v H5 ⟨ht,a1,a2,a3⟩;exact⟨a1,a2,xs.length-(i+1),by omega,rfl,hlt,ht,a3⟩
  ·rintro σ2 H4 ⟨ht,a3⟩;exact⟨xs.length-(i+1),by omega,rfl,hlt,ht,a3⟩
  ·obtain⟨rfl,hx⟩:=Y.yld i H' x H2 hlt (hR i ys H' hi p) y;exact hs i x ys H2 hx p
 ·have e:i=xs.length:=by omega
  subst e;exact .inl ⟨Y.stop _ _ rfl (hR _ ys H' hi p),hd ys H' p⟩
def af1:Expr->Bool
 | .Starred _ _=>false
 | _=>true
theorem ajw {env:Env}{e:Expr}{es:List Expr}(h:af1 e=true):starEach (e::es) env=(false,eval e env)::starEach es env:=by
 cases e<;>first | rfl | (cases h;done)
section
variable {X:Cx}{e:Expr}{es:List Expr}{te:TE}{t:TA}
theorem pa_c (ha:PE X e te) (hr:PA X es t) (h:af1 e=true:=by rfl):PA X (e::es) (aqz te t):=ad1 ha hr (ajw h)
def tStrs (xs:List Str):TA:=fun _ H Q=>Q (xs.map V.str) H
theorem aec:∀ (l:List (Str×Nat×Pos)),PA X (l.map fun p=>.Constant (.str p.1) p.2.1 p.2.2) (tStrs (l.map (·.1)))
 | []=>aak
 | a::r=>fun pos pins s σ H Q I h=>pa_c (aeh (x:=a.1) (j:=a.2.1) (pos:=a.2.2)) (aec r) (by rfl) pos pins s σ H Q I h
end
theorem lc1y {J:It}{xs:List V}{R:Hp->Prop}{nm:Str}{caps:List Nat}{te:TE}{σ:St}{H1:Hp}{Q:VK}{D:Addr}(Y:Yields J xs R) (Pv:Nat->List V->Hp->Prop)
  (h0:Pv 0 [] (upd H1 D (.lst []))) (hR:∀ i ys H,i<=xs.length->Pv i ys H->R H)
  (hs:∀ i x ys H,xs[i]?=some x->Pv i ys H->te (some x::caps.map (fun i=>(σ[i]?).join)) H (LcN (caps.map (fun i=>(σ[i]?).join)) D Pv i ys (some x::caps.map (fun i=>(σ[i]?).join))))
  (hd:∀ ys H,Pv xs.length ys H->Q (.ref D) H):LCW [nm] caps J (ak9 0) tYes te σ H1 Q D:=by
 refine lc1 Y Pv h0 hR (fun i x ys H hx p=>?_) hd;unfold tYes;dsimp only;rw[if_pos rfl];exact hs i x ys H hx p
theorem lcMap {J:It}{xs:List V}{R:Hp->Prop}{nm:Str}{caps:List Nat}{te:TE}{σ:St}{H1:Hp}{Q:VK}{D:Addr}(Y:Yields J xs R) (f:V->V) (nD:H1 D=none) (hR:∀ H,Same H1 H->R H) (hl:xs.length<=1000)
  (hs:∀ (i:Nat) x H (k:VK),xs[i]?=some x->Same H1 H->k (f x) H->te (some x::caps.map (fun i=>(σ[i]?).join)) H k)
  (hd:Q (.ref D) (upd H1 D (.lst (xs.map f)))):LCW [nm] caps J (ak9 0) tYes te σ H1 Q D:=by
 have sm:∀ o,Same H1 (upd H1 D o):=fun o b u e=>by rw[aad (aab e nD)];exact e
 refine lc1y Y (fun i ys H=>i<=xs.length/\ys=(xs.take i).map f/\H=upd H1 D (.lst ys)) ⟨Nat.zero_le _,by simp,rfl⟩ (fun i ys H _ p=>hR H (by rw[p.2.2];exact sm _)) ?_ ?_
 ·rintro i x ys H hx ⟨hi,rfl,rfl⟩;have hlt:=(List.getElem?_eq_some_iff.mp hx).1;have et:xs.take (i+1)=xs.take i++[x]:=by rw[List.take_add_one,hx];rfl
  refine hs i x _ _ hx (sm _) ⟨⟨_,rfl⟩,aaa,?_,hlt,?_,?_⟩
  ·rw[List.length_map,List.length_take];exact Nat.lt_of_le_of_lt (show min i xs.length<=1000 by omega) (by decide)
  ·rw[et,List.map_append];rfl
  ·rw[axl]
 ·rintro ys H ⟨_,rfl,rfl⟩;rw[List.take_of_length_le (Nat.le_refl _)];exact hd
theorem acx {X:Cx}{st:Stmt}{rest:List Stmt}{D:Ends}{σ:St}{H:Hp}(I:St->Hp->Prop) (g:∀ u:TS,(∀ σ' H',I σ' H'->u D σ' H')->∃ t,PS X st t/\t { D with nx:=u D } σ H)
  (h:∀ σ' H',I σ' H'->∃ u,PSs X rest u/\u D σ' H'):∃ t,PSs X (st::rest) t/\t D σ H:=by
 let u:TS:=fun D' σ' H'=>∃ u0,PSs X rest u0/\u0 D' σ' H'
 have pu:PSs X rest u:=fun pins s σ' H' D' I' ⟨u0,p0,h0⟩=>p0 pins s σ' H' D' I' h0
 obtain⟨t,pt,ht⟩:=g u h;exact⟨tSeq t u,aas pt pu,ht⟩
theorem ajf {X:Cx}{st:Stmt}{rest:List Stmt}{D:Ends}{σ:St}{H:Hp}(t:TS) (p:PS X st t) (h:t { D with nx:=fun σ' H'=>∃ u,PSs X rest u/\u D σ' H' } σ H):∃ t,PSs X (st::rest) t/\t D σ H:=by
 let u:TS:=fun D' σ' H'=>∃ u0,PSs X rest u0/\u0 D' σ' H'
 have pu:PSs X rest u:=fun pins s σ' H' D' I' ⟨u0,p0,h0⟩=>p0 pins s σ' H' D' I' h0
 exact⟨tSeq t u,aas p pu,h⟩
section
variable {X:Cx}{o e:Expr}{es:List Expr}{to:TE}{t:TA}{name:Str}{apos cpos:Pos}{T id:String}{r:V->List V->Hp->VK->Prop}
def rLenK (K:PySem.W.Frag):List V->Hp->VK->Prop:=fun xs H Q=>∃ p ys,xs=[.ref p]/\(SqL K H p ys\/SqT K H p ys)/\Q (.int ys.length) H
theorem ash (K:PySem.W.Frag) (hK:X.K=K:=by rfl):abr X (.builtin "len") (rLenK K):=by subst hK;exact abm
theorem pe_bmK (K:PySem.W.Frag) (pa:PlainAttrs T) (slot:Slot T name id) (hty:typeOf (.builtin id)=pure (.type "method_descriptor")) (hm:MtR X id r) (ho:PE X o to) (ha:PA X (e::es) t) (hK:X.K=K:=by rfl)
  (hbase:attributeBase o name X.env (eval o X.env)=eval o X.env:=by rfl)
  (hfew:((backTo cpos (starEach (e::es) X.env)).all (fun x=>!x.1)&&(backToKw cpos (keywordEach [] X.env)).all (fun x=>x.1.isSome) && decide ((e::es).length+([]:List Keyword).length+(if ([]:List Keyword).isEmpty then 0 else 1)<30))=true:=by rfl)
  (hline:(apos.endLine == cpos.line)=true:=by rfl) (hs:starEach (e::es) X.env=(false,eval e X.env)::starEach es X.env:=by rfl) (hplain:(backTo cpos (starEach es X.env)).any (·.1)=false:=by rfl) :
  PE X (.Call (.Attribute o name apos) (e::es) [] cpos) (tBM K T r to t):=by
 subst hK;exact ams pa slot hty hm ho ha hbase hfew hline hs hplain
end
section
variable {X:Cx}
def tInts (xs:List Int):TA:=fun _ H Q=>Q (xs.map V.int) H
theorem ai2:∀ (l:List (Int×Nat×Pos)),PA X (l.map fun p=>.Constant (.int p.1) p.2.1 p.2.2) (tInts (l.map (·.1)))
 | []=>aak
 | a::r=>fun pos pins s σ H Q I h=>pa_c (aap (i:=a.1) (j:=a.2.1) (pos:=a.2.2)) (ai2 r) (by rfl) pos pins s σ H Q I h
end
section
variable {X:Cx}
theorem ati (hu:X.A.units+64<cLine):OpR X (compareOp .NotEq) (am3 X.K true):=by
 intro pins s σ H x y v u Q I rx ry h;obtain⟨a,b,xs,rfl,rfl,h1,h2,q⟩:=h;cases rx;cases ry;obtain⟨its,r1,p1,_⟩:=I.list h1;obtain⟨its2,r2,p2,_⟩:=I.list h2;cases r2;have q':∀ b',b' = !xs.isEmpty->EP X pins σ Q (.bool b') s:=fun b' e=>⟨.bl b',H,I,rfl,by subst e;exact q⟩
 cases r1 with
 | nil=>exact SeqAt.RcNeAt.lists (e:=fun _=>true) p1.isList p2.isList rfl (by omega) (fun i h1 _=>by simp at h1) X.prog X.w _ _ (q' _ (by simp))
 | cons r rr=>exact SeqAt.RcNeAt.lists_lengths p1.isList p2.isList (by simp) (by omega) X.prog X.w _ _ (q' _ rfl)
end
section
variable {X:Cx}
def au7:V->List V->Hp->VK->Prop:=fun x vs H Q=>∃ (z y:Str),x = .str z/\vs=[.str y]/\y.length≠0/\z.length<=1000000/\∀ p,H p=none->Q (.ref p) (upd H p (.lst ((Txt.split z y).map V.str)))
theorem ak6:∀ (l:List (Str×Tok)),Vals ((l.map (·.1)).map V.str) (strValues l)
 | []=>.nil
 | a::r=>.cons ⟨a.2,rfl⟩ (ak6 r)
theorem as6:MtR X "str.split" au7:=by
 intro pins s σ H x vs v us Q I rx rv h;obtain⟨z,y,rfl,rfl,hy,hz,q⟩:=h;obtain⟨t,rfl⟩:=rx;obtain⟨u,rfl,t',rfl⟩:=rv.one;have hy0:(y.length == 0)=false:=by simpa using hy
 have fin:∀ (l:List (Str×Tok)) (tk:Nat),l.map (·.1)=Txt.split z y->l.length<=sizeLine->EP X pins σ Q (.ref s.heap.objs.size) { s with heap:=s.heap.push { cls:=.type "list",data:=.seq (strValues l).toArray },toks:=tk }:=by
  intro l tk e hl;refine⟨.ref _,_,I.lnew (its:=strValues l) (ys:=(Txt.split z y).map V.str) (t':=tk) (by rw[← e];exact ak6 l) ?_,rfl,q _ I.fresh⟩;rw[List.length_map,← e,List.length_map];exact hl
 have hn:(Builtin.Str.partsBetween z (Builtin.Str.occurrences z y 0 z.length (z.length+1)) y.length).length<=sizeLine:=by
  have e1:=StrLaws.occ_length_le z y 0 z.length (z.length+1);rw[length_partsBetween,sizeLine_eq];omega
 cases g1:(decide (z.length<y.length)||decide (Builtin.Str.strKind z<Builtin.Str.strKind y)) with
 | false =>
  cases g2:(Builtin.Str.occurrences z y 0 z.length (z.length+1)).isEmpty with
  | false =>
   refine call_meets PySem.F.slot_str_split (typeIs_str _ _ _) PySem.F.entry_str_split (PySem.F.args_str_split_2 _ _) (meets_str_split_sep z y t t' g1 hy0 g2 (by rw[sizeLine_eq];omega) hn) ?_;show wants _ _ _ { s with toks:=_,heap:=s.heap.push { cls:=.type "list",data:=.seq (strsFrom s.toks (Builtin.Str.partsBetween z (Builtin.Str.occurrences z y 0 z.length (z.length+1)) y.length)).toArray } };rw[strsFrom_eq];have e9:(numbered s.toks (Builtin.Str.partsBetween z (Builtin.Str.occurrences z y 0 z.length (z.length+1)) y.length)).map (·.1)=Txt.split z y:=(numbered_texts _ _).trans ((if_neg (ne_true_of_eq_false g1)).trans (if_neg (ne_true_of_eq_false g2))).symm;refine fin _ _ e9 ?_;have:=congrArg List.length (numbered_texts s.toks (Builtin.Str.partsBetween z (Builtin.Str.occurrences z y 0 z.length (z.length+1)) y.length));rw[List.length_map] at this;rw[this];exact hn
  | true =>
   exact call_meets PySem.F.slot_str_split (typeIs_str _ _ _) PySem.F.entry_str_split (PySem.F.args_str_split_2 _ _) (meets_str_split_not_found z y t t' g1 hy0 g2)
    (fin [(z,t)] s.toks ((if_neg (ne_true_of_eq_false g1)).trans (if_pos g2)).symm (by show 1<=sizeLine;decide))
 | true =>
  exact call_meets PySem.F.slot_str_split (typeIs_str _ _ _) PySem.F.entry_str_split (PySem.F.args_str_split_2 _ _) (meets_str_split_cannot_occur z y t t' g1)
   (fin [(z,t)] s.toks (if_pos g1).symm (by show 1<=sizeLine;decide))
end
section
variable {X:Cx}{pins:List (Addr×Obj)}{σ:St}{H:Hp}{s:Shared}{h':Heap}
theorem Inv.moved {t':Nat}{fp:List Addr}(I:Inv X pins σ H s) (hf:∀ b∈fp,FpOk X pins H b) (k:∀ b o,b∉fp->s.heap.get? b=some o->h'.get? b=some o):Inv X pins σ H { s with heap:=h',toks:=t' }:=by
 have nit:∀ b u,H b=some u->b∉fp:=fun b u e z=>by rw[(hf b z).1] at e;cases e
 refine I.step (g':=s.gens) (d':=s.drawn) (ch:=fp) (fun b hb=>⟨(hf b hb).2.2.2.1,(hf b hb).2.1,(hf b hb).2.2.2.2.1,(hf b hb).2.2.2.2.2⟩) (fun b o _ _ hc e _=>k b o hc e) (fun b o _ _ hc e _=>⟨o.slots,k b o hc e⟩) (fun _ _ _ _ n=>n)
  (fun b o hc e=>⟨o,k b o hc e⟩) (fun _ _ e=>e) (fun _ _ _ e=>e) (fun b ps e=>⟨#[],by rw[e];simp⟩) (fun m hm=>?_) (fun b u e=>?_) I.bare
 ·obtain⟨o,es,ep,ho,r⟩:=hm;exact⟨o,es,ep,k _ o (fun z=>(hf _ z).2.1 rfl) ho,r⟩
 ·refine (I.hok b u e).stay (fun c v hc q=>k c v ?_ q) (fun _ q=>q) fun _ _ q=>q
  rcases hc with z | z
  ·rw[z];exact nit b u e
  ·exact nit c _ z
end
section
variable {X:Cx}
set_option maxHeartbeats 1000000 in
theorem axu {elt tg iter:Expr}{ifs:List Expr}{scope:Scope}{pos:Pos}{wi:TI}{g:TG}{tt:TT}{te:TE}(T capN:List Str) (caps:List Nat) (hc:X.calm=true) (hi:PI X tg iter wi)
  (hk:scope.kind = .function) (ho:lcOk X.N X.env.kindOf scope T capN caps=true)
  (hg:∀ s₀ H₀ C cl fp,PG (lcx X (T++capN) scope cl C s₀ H₀ fp) tg g)
  (ht:∀ s₀ H₀ C cl fp,PIfs (lcx X (T++capN) scope cl C s₀ H₀ fp) ifs tt)
  (he:∀ s₀ H₀ C cl fp,PE (lcx X (T++capN) scope cl C s₀ H₀ fp) elt te)
  (hs:∀ x,foldedSetIterable iter X.env x=pure x:=by intro _;rfl)
  {use:Option (Value->Sem Unit)}{Qs:Value->Shared->Prop}{pins:List (Addr×Obj)}{s:Shared}{σ:St}{H:Hp}{Q:VK}(I:Inv X pins σ H s) (h:tLC T caps wi g tt te σ H Q)
  (fin:∀ (C D:Addr) (s6:Shared) (H5:Hp),Inv X pins σ H5 s6->Q (.ref D) H5->FpOk X pins H5 C->(∃ m,s6.heap.Ns C m)->compPost (model X.prog X.w) X.A X.xe use Qs (.ref D) C (.ok .next) s6) :
  wpAny (model X.prog X.w) X.A (comprehension (.ListComp elt [⟨tg,iter,ifs,0⟩] scope pos) scope X.env (firstIterPos [⟨tg,iter,ifs,0⟩] pos) (newList []) (firstAsync [⟨tg,iter,ifs,0⟩]) (firstIter [⟨tg,iter,ifs,0⟩] X.env) use) Qs X.xe s:=by
 have O:=art ho;have hfree:∀ p∈scope.names,p.2 = .free->∃ c,X.env.cells.lookup p.1=some c:=fun p hp e=>I.ok.has p.1 (.inl (O.free p hp e))
 obtain⟨cl,hclos,cl1,cl2⟩:=afm hfree;refine wpAny_comprehension_free (use:=use) rfl hs hclos hk O.loc (thn (hi pins s σ H _ I h) fun v s1 h1=>thn h1 fun itv s2 h2=>?_);obtain⟨it,fp,tn,J,H2,rfl,I2,TT',st2,f2,hD⟩:=h2;refine wpAny_newObj_type ?_;have I3:Inv X pins σ (upd H2 s2.heap.objs.size (.lst [])) { s2 with heap:=s2.heap.push { cls:=.type "list",data:=.seq ([]:List Value).toArray } }:=I2.lnew (t':=s2.toks) (its:=[]) (ys:=[]) .nil (Nat.zero_le _);have fD:H2 s2.heap.objs.size=none:=I2.fresh;obtain⟨W,⟨m0,w0⟩,turn⟩:=hD s2.heap.objs.size fD;generalize hDd:s2.heap.objs.size=D at I3 fD w0 turn ⊢;have st3:tn 0 (s2.heap.push { cls:=.type "list",data:=.seq ([]:List Value).toArray }):=TT'.keep _ _ _ st2 fun b _ o e=>Heap.get?_push_of_some _ e
 have hfpD:∀ b∈fp,b<D:=fun b hb=>by
  obtain⟨o,e,_⟩:=TT'.obj _ _ st2 b hb;rw[← hDd];exact Heap.lt_size e
 generalize hs3:({ s2 with heap:=s2.heap.push { cls:=.type "list",data:=.seq ([]:List Value).toArray } }:Shared)=s3 at I3 ⊢;have st3':tn 0 s3.heap:=by rw[← hs3];exact st3
 generalize hH3:upd H2 D (.lst [])=H3 at I3 w0;have f3:∀ b∈fp,FpOk X pins H3 b:=fun b hb=>by
  obtain⟨z0,z⟩:=f2 b hb;exact⟨by rw[← hH3,aad (Nat.ne_of_lt (hfpD b hb))];exact z0,z⟩
 refine wpAny_newFunctionEnv O.nocell (by intro y hy;simp at hy) (fun h₁ hns₁ hsb₁=>?_) hk;have hCn:H3 s3.heap.objs.size=none:=I3.fresh;have old:∀ b o,s3.heap.get? b=some o->h₁.get? b=some o:=fun b o e=>hsb₁.extBut b o (Nat.ne_of_lt (Heap.lt_size e)) (Heap.get?_push_of_some _ e)
 generalize hC:s3.heap.objs.size=C at hns₁ hsb₁ hCn ⊢;have hltC:∀ b o,s3.heap.get? b=some o->b≠C:=fun b o e=>by rw[← hC];exact Nat.ne_of_lt (Heap.lt_size e)
 have fpC:∀ b∈fp,b≠C:=fun b hb=>by
  obtain⟨o,e,_⟩:=TT'.obj _ _ st3' b hb;exact hltC b o e
 have fpS:∀ b∈fp,b∉frs X.stack:=fun b hb z=>by
  rcases List.mem_cons.mp (I3.stkSub b z) with q | q
  ·exact (f3 b hb).2.1 q
  ·exact (f3 b hb).2.2.1 q
 have fpCl:∀ b∈fp,∀ x c,cl.lookup x=some c->c≠b:=fun b hb x c e=>(f3 b hb).2.2.2.2.1 x c (cl1 x c e)
 have hXok:(lcx X (T++capN) scope cl C s3 H3 fp).Ok:=by
  refine⟨I3.ok.mod,hk,I3.ok.glob,I3.ok.blt,Nat.le_of_eq hC,fun x y c e1 e2=>I3.ok.inj x y c (cl1 x c e1) (cl1 y c e2),fun x hx=>?_,fun x c e1 e2=>?_,I3.ok.hd,I3.ok.frames,.inl rfl,fun b hb=>⟨fpC b hb,fun x c e=>fpCl b hb x c e⟩,fun b o e=>I3.bs b o e,?_,fun b o e z=>?_,fun b hb=>fpS b hb,I3.stack,I3.stkFree⟩
  ·have hx':(relabel scope X.env).names.lookup x=some .cell\/(relabel scope X.env).names.lookup x=some .free:=hx;have hf:scope.names.lookup x=some .free:=by
    rcases hx' with q | q
    ·exact ad2 q (.inl rfl) O.nocell
    ·exact ad2 q (.inr rfl) O.nocell
   exact Option.isSome_iff_exists.mp (cl2 x (PySem.mem_of_lookup hf))
  ·have e1:(cl.lookup x).isNone=true:=e1;have e2:cl.lookup x=some c:=e2;rw[e2] at e1;cases e1
  ·exact Nat.le_trans I3.ok.bsz I3.sz
  ·obtain⟨z0,z1,z2,z3,_⟩:=f3 b z;rcases z3 with q | q
   ·exact I3.ok.noex b o e q
   ·exact absurd (Nat.lt_of_lt_of_le (Heap.lt_size e) (Nat.le_trans I3.ok.bsz q)) (Nat.lt_irrefl _)
 have I4:Inv (lcx X (T++capN) scope cl C s3 H3 fp) [] (lcs T caps σ) H3 { s3 with heap:=h₁,toks:=s3.toks+([]:List (Str×Value)).length }:=by
  refine⟨hXok,rfl,I3.bare,Un.kept old,⟨_,hns₁,fun i x v e1 e2 e3=>?_⟩,fun x c e=>?_,hCn,fun x c e=>I3.freeC x c (cl1 x c e),fun p hp=>absurd (show p∈([]:List (Addr×Obj)) from hp) (by simp),I3.hok.kept old,?_⟩
  ·have e1:(T++capN)[i]?=some x:=e1;unfold lcs at e2;by_cases hi:i<T.length
   ·rw[List.getElem?_append_left (by simpa using hi),List.getElem?_map] at e2;cases q:T[i]? with
    | none=>rw[q] at e2;cases e2
    | some z=>rw[q] at e2;cases e2
   ·rw[List.getElem?_append_right (by omega)] at e1;rw[List.getElem?_append_right (by simpa using hi),List.getElem?_map,List.length_map] at e2;obtain⟨k,k1,k2,k3⟩:=O.cap _ x e1;rw[k1] at e2;have e2:(σ[k]?).join=some v:=Option.some.inj e2;have e2':σ[k]?=some (some v):=by
     cases q:σ[k]? with
     | none=>rw[q] at e2;cases e2
     | some z=>rw[q] at e2;exact congrArg some e2
    have hcell:X.env.kindOf x=some .cell:=O.free (x,.free) (PySem.mem_of_lookup k3) rfl;obtain⟨m,hn,hl⟩:=I3.loc;obtain⟨u,r,l⟩:=hl k x v k2 e2' (.inr (.inl hcell));refine⟨u,r,.inr ⟨?_,?_⟩⟩
    ·obtain⟨k',e5,e6⟩:=adn (env:=X.env) k3;rcases e6 with z | ⟨_,z⟩
     ·subst z;exact .inr e5
     ·subst z;exact .inl e5
    ·rcases l with⟨l1,_⟩ | ⟨_,c,e7,o,ho1,ho2⟩
     ·rw[hcell] at l1;cases l1
     ·obtain⟨c',e8⟩:=Option.isSome_iff_exists.mp (cl2 x (PySem.mem_of_lookup k3));have:=cl1 x c' e8;rw[e7] at this;cases this;exact⟨c,e8,o,old c o ho1,ho2⟩
  ·obtain⟨v,o,ho1,ho2⟩:=I3.cell x c (cl1 x c e);exact⟨v,o,old c o ho1,ho2⟩
  ·show (lcs T caps σ).length=(T++capN).length;unfold lcs;rw[List.length_append,List.length_append,List.length_map,List.length_map,O.len]
 have fpX:∀ {H':Hp},(∀ b∈fp,H' b=none)->∀ b∈fp,FpOk (lcx X (T++capN) scope cl C s3 H3 fp) [] H' b:=fun hn b hb =>
  ⟨hn b hb,fpC b hb,fpS b hb,.inl hb,fun x c e=>fpCl b hb x c e,fun p hp=>absurd (show p∈([]:List (Addr×Obj)) from hp) (by simp)⟩
 have st4:tn 0 h₁:=TT'.keep _ _ _ st3' fun b _ o e=>old b o e
 have w0':W 0 m0 [] (lcs T caps σ) H3:=w0;have loop:codeAny (model X.prog X.w) X.A (.compLoop (.ListComp elt [⟨tg,iter,ifs,0⟩] scope pos) 0 (.ref it) (.ref D) (compEnvC scope cl C X.env))
   (compPost (model X.prog X.w) X.A X.xe use Qs (.ref D) C) { s3 with heap:=h₁,toks:=s3.toks+([]:List (Str×Value)).length }:=by
  refine ac7 (fun n s'=>∃ i ys σ' H',Inv (lcx X (T++capN) scope cl C s3 H3 fp) [] σ' H' s'/\tn i s'.heap/\(∀ b∈fp,H' b=none)/\W i n ys σ' H') ?_ m0 ⟨0,[],lcs T caps σ,H3,I4,st4,fun b hb=>(f3 b hb).1,w0'⟩;rintro n s5 ⟨i,ys,σ5,H5,I5,st5,fr5,w5⟩;rcases turn i n ys σ5 H5 w5 with⟨stop,qn⟩ | ⟨go,N,F,hN,hF,step⟩
  ·refine thn (TT'.done (lcx X (T++capN) scope cl C s3 H3 fp) rfl rfl rfl hc i [] s5 σ5 H5 _ I5 (fpX fr5) st5 stop) fun r s6 ⟨hr,I6⟩=>?_
   subst hr;obtain⟨m6,hn6,_⟩:=I6.loc;have hfC:H5 C=none:=I6.free;have ub:=I6.base;have hstat:=I3.fpOk (Nat.le_of_eq hC) hCn;refine fin C D s6 H5 (Inv.call' (s':=s6) (ch:=fp) I3 I6.os ?_ I6.hok I6.bare (fun b hb=>⟨(f3 b hb).2.2.2.1,(f3 b hb).2.1,(f3 b hb).2.2.2.2.1,(f3 b hb).2.2.2.2.2⟩)) qn ⟨hfC,hstat.2⟩ ⟨m6,hn6⟩;exact⟨fun b o q n hb hx=>ub.keep b o q n hb hx,fun b o q n hb hx=>ub.slot b o q n hb hx,ub.free,fun b o q hx=>ub.there b o q hx,ub.tups,ub.frzs,ub.tbls⟩
  ·refine thn (TT'.item (lcx X (T++capN) scope cl C s3 H3 fp) rfl rfl rfl hc i [] s5 σ5 H5 _ I5 (fpX fr5) st5 go) fun r s6 ⟨u,hr,h6⟩=>?_
   subst hr;refine thn h6 fun _ s7 ⟨x,H7,I7,r7,y7,st7,fr7⟩=>?_
   have I7':=I7.pinned (fpX fr7) (TT'.obj _ _ st7);have keepT:∀ {σ8:St} {H8:Hp} {s8:Shared},Inv (lcx X (T++capN) scope cl C s3 H3 fp) ([]++aii fp s7.heap) σ8 H8 s8->tn (i+1) s8.heap/\(∀ b∈fp,H8 b=none):=fun {σ8 H8 s8} I8=>by
    refine⟨TT'.keep _ _ _ st7 fun b hb o e=>(I8.pin (b,o) (List.mem_append_right _ (List.mem_append_right _ (ac4 hb e)))).1,fun b hb=>?_⟩;obtain⟨o,e,d⟩:=TT'.obj _ _ st7 b hb;exact (I8.pin (b,o) (List.mem_append_right _ (List.mem_append_right _ (ac4 hb e)))).2.1
   refine thn (hg s3 H3 C cl fp _ s7 σ5 H7 x u _ I7' r7 (step x H7 y7)) fun _ s8 ⟨σ8,H8,I8,q8⟩=>?_
   refine thn (ht s3 H3 C cl fp _ s8 σ8 H8 _ I8 q8) fun ok s9 ⟨H9,I9,q9⟩=>?_
   cases ok with
   | false =>
    rw[if_neg (by simp)] at q9;rw[if_neg (by simp)];obtain⟨m',hm,w9⟩:=hF _ _ q9;exact⟨m',hm,i+1,ys,σ8,H9,I9.unpinned,(keepT I9).1,(keepT I9).2,w9⟩
   | true =>
    rw[if_pos rfl] at q9;rw[if_pos rfl];refine thn (he s3 H3 C cl fp _ s9 σ8 H9 _ I9 q9) fun vv s10 ⟨v,H10,I10,r10,n10⟩=>?_
    obtain⟨a10,z10,m',hm,w10⟩:=hN _ _ _ n10;refine thn (aaw (X:=lcx X (T++capN) scope cl C s3 H3 fp) _ s10 σ8 H10 (.ref D) [v] (.ref D) [vv] (fun _ H11=>W (i+1) m' (ys++[v]) σ8 H11) I10 rfl (.cons r10 .nil) ⟨D,ys,v,rfl,rfl,a10,z10,w10⟩) fun _ s11 ⟨_,H11,I11,_,w11⟩=>?_
    exact⟨m',hm,i+1,ys++[v],σ8,H11,I11.unpinned,(keepT I11).1,(keepT I11).2,w11⟩
 exact codeAny_compStart_list loop (TT'.self _ 0 _ _ _ st4 loop)
theorem at1 {i:Nat}{x:Str}{pos' spos:Pos}{elt tg iter:Expr}{ifs:List Expr}{scope:Scope}{pos:Pos}{wi:TI}{g:TG}{tt:TT}{te:TE}(T capN:List Str) (caps:List Nat) (hN:X.N.Nodup) (hi':X.N[i]?=some x) (hx:Loc X.env.scope x)
  (hc:X.calm=true) (hi:PI X tg iter wi) (hk:scope.kind = .function) (ho:lcOk X.N X.env.kindOf scope T capN caps=true)
  (hg:∀ s₀ H₀ C cl fp,PG (lcx X (T++capN) scope cl C s₀ H₀ fp) tg g)
  (ht:∀ s₀ H₀ C cl fp,PIfs (lcx X (T++capN) scope cl C s₀ H₀ fp) ifs tt)
  (he:∀ s₀ H₀ C cl fp,PE (lcx X (T++capN) scope cl C s₀ H₀ fp) elt te)
  (hsw:swapsWith (.ListComp elt [⟨tg,iter,ifs,0⟩] scope pos) (some (.Name x pos')) spos.line X.env=pure true:=by rfl)
  (hs:∀ x,foldedSetIterable iter X.env x=pure x:=by intro _;rfl)
  (hf:X.fn x=true\/X.env.scope.names.lookup x=some .local:=by first | exact .inl rfl | exact .inr rfl | assumption) :
  PS X (.Assign [.Name x pos'] (.ListComp elt [⟨tg,iter,ifs,0⟩] scope pos) spos) (tAsg (tLC T caps wi g tt te) (ak9 i)):=by
 intro pins s σ H D I h;rw[exec_Assign_Name_used _ _ _ _ hsw];refine wpAny_bind (wpAny_standAt (wpAny_bind ?_));show wpAny _ _ (comprehension _ _ _ _ _ _ _ _ >>= fun _=>pure ()) _ _ _;refine wpAny_bind (axu T capN caps hc hi hk ho hg ht he hs I h fun C D0 s6 H5 I6 q fp ⟨m,hn⟩=>?_);show wpAny _ _ (assign (.Name x pos') X.env (.ref D0)) _ _ _;refine wpAny_assign_Name (alf I6 hN hi' hx (v:=.ref D0) rfl (fun s' I' hsb=>?_) hf);obtain⟨a,sb,ha⟩:=hsb;have hCa:C≠a:=by
  rcases ha with z | z
  ·rw[z];exact fp.2.1
  ·exact (fp.2.2.2.2.1 x a z).symm
 refine⟨m,hn.sameBut sb hCa,fun h' sb'=>wpAny_pure (wpAny_pure ⟨_,H5,I'.moved (t':=s'.toks) (fp:=[C]) (fun b hb=>?_) (fun b o hb e=>?_),q⟩)⟩
 ·rw[List.mem_singleton.mp hb];exact fp
 ·exact sb'.extBut b o (fun z=>hb (List.mem_singleton.mpr z)) e
end
inductive D where
 | non | bl (b:Bool) | int (i:Int) | str (x:Str) | raw (v:V)
 | tup (xs:List D) | lst (xs:List D)
 | dK (kvs:List (Key×D)) | dT (kvs:List (List Key×D))
 | scr (xs:List D)
 | con (xs:List D)
def SqC (K:PySem.W.Frag) (a:Addr) (xs:List V):Prop:=∃ (o:Obj) (its:Array Value) (n:Nat),K.lookup a=some o/\o.cls = .type "tuple" /\ o.data = .seq its n/\its.size<=sizeLine/\Vals xs its.toList
theorem SqC.sqT {K:PySem.W.Frag}{H:Hp}{a:Addr}{xs:List V}(h:SqC K a xs):SqT K H a xs:=.inr h
def SqF (K:PySem.W.Frag) (H:Hp) (a:Addr) (xs:List V):Prop:=(∃ o,H a=some (.frz o (.lst xs))) \/
 ∃ (o:Obj) (its:Array Value) (n:Nat),K.lookup a=some o/\o.cls = .type "list" /\ o.dict=none/\o.data = .seq its n/\its.size<=sizeLine/\Vals xs its.toList
theorem SqF.sqL {K:PySem.W.Frag}{H:Hp}{a:Addr}{xs:List V}(h:SqF K H a xs):SqL K H a xs:=h.elim (fun h=>.inl (.inr h)) .inr
mutual
inductive Rep (K:PySem.W.Frag) (A:Addr->Prop) (H:Hp):D->V->Prop where
 | non:Rep K A H .non .non
 | bl (b:Bool):Rep K A H (.bl b) (.bl b)
 | int (i:Int):Rep K A H (.int i) (.int i)
 | str (x:Str):Rep K A H (.str x) (.str x)
 | raw (v:V):Rep K A H (.raw v) v
 | tup {a:Addr} {vs:List V} {ds:List D}:H a=some (.tup vs)->Reps K A H ds vs->Rep K A H (.tup ds) (.ref a)
 | con {a:Addr} {vs:List V} {ds:List D}:SqC K a vs->Reps K A H ds vs->Rep K A H (.con ds) (.ref a)
 | lst {a:Addr} {vs:List V} {ds:List D}:A a->H a=some (.lst vs)->Reps K A H ds vs->Rep K A H (.lst ds) (.ref a)
 | scr {a:Addr} {vs:List V} {ds:List D}:SqF K H a vs->Reps K A H ds vs->Rep K A H (.scr ds) (.ref a)
 | dK {a:Addr} {kvs:List (Key×V)} {ds:List (Key×D)}:A a->H a=some (.dK kvs)->ds.map (·.1)=kvs.map (·.1)->Reps K A H (ds.map (·.2)) (kvs.map (·.2))->Rep K A H (.dK ds) (.ref a)
 | dT {a:Addr} {kvs:List (List Key×V)} {ds:List (List Key×D)}:A a->Rd H a (.dT kvs)->ds.map (·.1)=kvs.map (·.1)->Reps K A H (ds.map (·.2)) (kvs.map (·.2))->Rep K A H (.dT ds) (.ref a)
inductive Reps (K:PySem.W.Frag) (A:Addr->Prop) (H:Hp):List D->List V->Prop where
 | nil:Reps K A H [] []
 | cons {d:D} {v:V} {ds:List D} {vs:List V}:Rep K A H d v->Reps K A H ds vs->Reps K A H (d::ds) (v::vs)
end
def tupO:HO->Bool
 | .tup _=>true
 | .frz _ _=>true
 | _=>false
def Kp (A A':Addr->Prop) (H H':Hp):Prop:=(∀ a o,A a->H a=some o->A' a/\H' a=some o)/\∀ a o,tupO o=true->H a=some o->H' a=some o
section
variable {K:PySem.W.Frag}{A A':Addr->Prop}{H H':Hp}
theorem Kp.sqF (k:Kp A A' H H'){a:Addr}{vs:List V}(h:SqF K H a vs):SqF K H' a vs:=by
 rcases h with⟨o,h⟩ | h
 ·exact .inl ⟨o,k.2 _ _ rfl h⟩
 ·exact .inr h
theorem Kp.rd (k:Kp A A' H H'){a:Addr}{u:HO}(ha:A a) (h:Rd H a u):A' a/\Rd H' a u:=by
 rcases h with h | ⟨o,h⟩
 ·exact⟨(k.1 _ _ ha h).1,.inl (k.1 _ _ ha h).2⟩
 ·exact⟨(k.1 _ _ ha h).1,.inr ⟨o,(k.1 _ _ ha h).2⟩⟩
theorem Rep.mono (k:Kp A A' H H'){d:D}{v:V}(h:Rep K A H d v):Rep K A' H' d v :=
 Rep.rec (motive_1:=fun d v _=>Rep K A' H' d v) (motive_2:=fun ds vs _=>Reps K A' H' ds vs) .non .bl .int .str .raw (fun h _ r=>.tup (k.2 _ _ rfl h) r) (fun h _ r=>.con h r)
  (fun ha h _ r=>.lst (k.1 _ _ ha h).1 (k.1 _ _ ha h).2 r) (fun h _ r=>.scr (k.sqF h) r) (fun ha h e _ r=>.dK (k.1 _ _ ha h).1 (k.1 _ _ ha h).2 e r) (fun ha h e _ r=>.dT (k.rd ha h).1 (k.rd ha h).2 e r) .nil (fun _ _ h r=>.cons h r) h
theorem Reps.mono (k:Kp A A' H H'){ds:List D}{vs:List V}(h:Reps K A H ds vs):Reps K A' H' ds vs:=by
 induction ds generalizing vs with
 | nil=>cases h;exact .nil
 | cons d ds ih=>cases h with | cons g r=>exact .cons (g.mono k) (ih r)
theorem Kp.all (h:∀ a,A a->A' a):Kp A A' H H:=⟨fun a o ha e=>⟨h a ha,e⟩,fun _ _ _ e=>e⟩
theorem Kp.trans {A'':Addr->Prop}{H'':Hp}(a:Kp A A' H H') (b:Kp A' A'' H' H''):Kp A A'' H H'':=⟨fun x o hx e=>let ⟨p,q⟩:=a.1 x o hx e;b.1 x o p q,fun x o t e=>b.2 x o t (a.2 x o t e)⟩
theorem Kp.laid {p:Addr}{o:HO}(hp:H p=none) (h:∀ a,A a->a≠p->A' a):Kp A A' H (upd H p o) :=
 ⟨fun a u ha e=>⟨h a ha (aab e hp),by rw[aad (aab e hp)];exact e⟩,fun a u _ e=>by rw[aad (aab e hp)];exact e⟩
theorem Kp.same (s:Same H H') (h:∀ a,A a->A' a):Kp A A' H H':=⟨fun a o ha e=>⟨h a ha,s a o e⟩,fun a o _ e=>s a o e⟩
theorem Kp.write {p:Addr}{o u:HO}(hp:H p=some u) (hu:tupO u=false) (hn:¬ A p):Kp A A H (upd H p o):=by
 refine⟨fun a w ha e=>⟨ha,?_⟩,fun a w t e=>?_⟩
 ·rw[aad (fun z:a=p=>hn (by rw[← z];exact ha))];exact e
 ·rw[aad (fun z=>?_)]
  ·exact e
  ·subst z;rw[hp] at e;cases e;rw[t] at hu;cases hu
theorem Reps.length {ds:List D}{vs:List V}(h:Reps K A H ds vs):ds.length=vs.length:=by
 induction ds generalizing vs with
 | nil=>cases h;rfl
 | cons d ds ih=>cases h with | cons g r=>exact congrArg (·+1) (ih r)
theorem Reps.get {ds:List D}{vs:List V}{i:Nat}{d:D}(h:Reps K A H ds vs) (e:ds[i]?=some d):∃ v,vs[i]?=some v/\Rep K A H d v:=by
 induction ds generalizing vs i with
 | nil=>cases e
 | cons c ds ih =>
  cases h with
  | cons g r =>
   cases i with
   | zero=>cases e;exact⟨_,rfl,g⟩
   | succ i=>exact ih r (i:=i) e
theorem Reps.getV {ds:List D}{vs:List V}{i:Nat}{v:V}(h:Reps K A H ds vs) (e:vs[i]?=some v):∃ d,ds[i]?=some d/\Rep K A H d v:=by
 induction ds generalizing vs i with
 | nil=>cases h;cases e
 | cons c ds ih =>
  cases h with
  | cons g r =>
   cases i with
   | zero=>cases e;exact⟨_,rfl,g⟩
   | succ i=>exact ih r (i:=i) e
theorem Reps.append {ds es:List D}{vs us:List V}(h:Reps K A H ds vs) (s:Reps K A H es us):Reps K A H (ds++es) (vs++us):=by
 induction ds generalizing vs with
 | nil=>cases h;exact s
 | cons d ds ih=>cases h with | cons g r=>exact .cons g (ih r)
theorem Reps.take:∀ {ds:List D}{vs:List V}(n:Nat),Reps K A H ds vs->Reps K A H (ds.take n) (vs.take n)
 | _,_,0,_=>by rw[List.take_zero,List.take_zero];exact .nil
 | _,_,n+1,.nil=>.nil
 | _,_,n+1,.cons h r=>.cons h (Reps.take n r)
theorem Reps.drop:∀ {ds:List D}{vs:List V}(n:Nat),Reps K A H ds vs->Reps K A H (ds.drop n) (vs.drop n)
 | _,_,0,h=>h
 | _,_,n+1,.nil=>.nil
 | _,_,n+1,.cons h r=>Reps.drop n r
theorem Reps.set {d:D}{v:V}(h:Rep K A H d v):∀ {ds:List D}{vs:List V}(i:Nat),Reps K A H ds vs->Reps K A H (ds.set i d) (vs.set i v)
 | _,_,_,.nil=>.nil
 | _,_,0,.cons _ r=>.cons h r
 | _,_,i+1,.cons g r=>.cons g (Reps.set h i r)
theorem Reps.erase:∀ {ds:List D}{vs:List V}(i:Nat),Reps K A H ds vs->Reps K A H (ds.eraseIdx i) (vs.eraseIdx i)
 | _,_,_,.nil=>.nil
 | _,_,0,.cons _ r=>r
 | _,_,i+1,.cons g r=>.cons g (Reps.erase i r)
theorem Reps.nil_iff {ds:List D}{vs:List V}(h:Reps K A H ds vs):vs=[]↔ds=[]:=by
 cases h<;>simp
theorem Rep.int_inv {i:Int}{v:V}(h:Rep K A H (.int i) v):v = .int i:=by cases h;rfl
theorem Rep.str_inv {i:Str}{v:V}(h:Rep K A H (.str i) v):v = .str i:=by cases h;rfl
theorem Rep.bl_inv {i:Bool}{v:V}(h:Rep K A H (.bl i) v):v = .bl i:=by cases h;rfl
theorem Rep.non_inv {v:V}(h:Rep K A H .non v):v = .non:=by cases h;rfl
theorem Rep.raw_inv {u v:V}(h:Rep K A H (.raw u) v):v=u:=by cases h;rfl
theorem Rep.tup_inv {ds:List D}{v:V}(h:Rep K A H (.tup ds) v):∃ a vs,v = .ref a/\H a=some (.tup vs)/\Reps K A H ds vs:=by
 cases h with | tup h r=>exact⟨_,_,rfl,h,r⟩
theorem Rep.lst_inv {ds:List D}{v:V}(h:Rep K A H (.lst ds) v):∃ a vs,v = .ref a/\A a/\H a=some (.lst vs)/\Reps K A H ds vs:=by
 cases h with | lst ha h r=>exact⟨_,_,rfl,ha,h,r⟩
theorem Rep.con_inv {ds:List D}{v:V}(h:Rep K A H (.con ds) v):∃ a vs,v = .ref a/\SqC K a vs/\Reps K A H ds vs:=by
 cases h with | con h r=>exact⟨_,_,rfl,h,r⟩
theorem Rep.scr_inv {ds:List D}{v:V}(h:Rep K A H (.scr ds) v):∃ a vs,v = .ref a/\SqF K H a vs/\Reps K A H ds vs:=by
 cases h with | scr h r=>exact⟨_,_,rfl,h,r⟩
theorem Rep.dK_inv {ds:List (Key×D)}{v:V}(h:Rep K A H (.dK ds) v):∃ a kvs,v = .ref a/\A a/\H a=some (.dK kvs)/\ds.map (·.1)=kvs.map (·.1)/\Reps K A H (ds.map (·.2)) (kvs.map (·.2)):=by
 cases h with | dK ha h e r=>exact⟨_,_,rfl,ha,h,e,r⟩
end
mutual
def imm:D->Bool
 | .tup xs=>immL xs
 | .scr xs=>immL xs
 | .con xs=>immL xs
 | .lst _=>false
 | .dK _=>false
 | .dT _=>false
 | _=>true
def immL:List D->Bool
 | []=>true
 | d::ds=>imm d&&immL ds
end
section
variable {K:PySem.W.Frag}{A A':Addr->Prop}{H:Hp}
theorem Rep.imm {d:D}{v:V}(h:Rep K A H d v):imm d=true->Rep K A' H d v :=
 Rep.rec (motive_1:=fun d v _=>L2.imm d=true->Rep K A' H d v) (motive_2:=fun ds vs _=>immL ds=true->Reps K A' H ds vs) (fun _=>.non) (fun b _=>.bl b) (fun i _=>.int i) (fun x _=>.str x) (fun v _=>.raw v) (fun h _ r e=>.tup h (r e)) (fun h _ r e=>.con h (r e))
  (fun _ _ _ _ e=>Bool.noConfusion (show false=true from e)) (fun h _ r e=>.scr h (r e)) (fun _ _ _ _ _ e=>Bool.noConfusion (show false=true from e)) (fun _ _ _ _ _ e=>Bool.noConfusion (show false=true from e)) (fun _=>.nil) (fun _ _ h r e=>.cons (h (Bool.and_eq_true_iff.mp e).1) (r (Bool.and_eq_true_iff.mp e).2)) h
theorem Reps.imm {ds:List D}{vs:List V}(h:Reps K A H ds vs) (e:immL ds=true):Reps K A' H ds vs:=by
 induction ds generalizing vs with
 | nil=>cases h;exact .nil
 | cons d ds ih=>cases h with | cons g r=>exact .cons (g.imm (Bool.and_eq_true_iff.mp e).1) (ih r (Bool.and_eq_true_iff.mp e).2)
theorem anm:∀ {ds:List D},(∀ d∈ds,L2.imm d=true)->immL ds=true
 | [],_=>rfl
 | d::ds,h=>Bool.and_eq_true_iff.mpr ⟨h d List.mem_cons_self,anm fun e he=>h e (List.mem_cons_of_mem _ he)⟩
theorem ais {α:Type}{f:α->D}(h:∀ x,L2.imm (f x)=true) (xs:List α):immL (xs.map f)=true:=anm fun d hd=>by
 obtain⟨x,_,rfl⟩:=List.mem_map.mp hd;exact h x
end
end L2
namespace Lw
open PySem L2
structure DeckAt (H:Hp) (d c:Addr):Prop where
 ex:∃ (ns:List Int) (p:Int),H d=some (.lst [.ref c,.int p])/\H c=some (.lst (ns.map V.int))/\0<ns.length/\ns.length<=100
def Keep (d c:Addr) (H H':Hp):Prop:=∀ b o,H b=some o->b≠d->b≠c->H' b=some o
theorem Keep.trans {d c:Addr}{H H1 H2:Hp}(a:Keep d c H H1) (b:Keep d c H1 H2):Keep d c H H2:=fun x o e h1 h2=>b x o (a x o e h1 h2) h1 h2
theorem Keep.new {d c p:Addr}{H:Hp}{o:HO}(h:H p=none):Keep d c H (upd H p o):=fun b u e _ _=>by rw[aad (aab e h)];exact e
theorem DeckAt.ne {H:Hp}{d c:Addr}(D:DeckAt H d c):d≠c:=by
 obtain⟨ns,p,h1,h2,h3,_⟩:=D.ex;intro e;subst e;rw[h1] at h2;injection h2 with h2;injection h2 with h2;cases ns with
 | nil=>simp at h3
 | cons a r=>simp at h2
theorem DeckAt.upd_other {H:Hp}{d c p:Addr}{o:HO}(D:DeckAt H d c) (hd:p≠d) (hc:p≠c):DeckAt (upd H p o) d c:=by
 obtain⟨ns,q,h1,h2,h3,h4⟩:=D.ex;exact⟨ns,q,by rw[aad hd.symm];exact h1,by rw[aad hc.symm];exact h2,h3,h4⟩
theorem DeckAt.ned {H:Hp}{d c p:Addr}(D:DeckAt H d c) (h:H p=none):p≠d/\p≠c:=by
 obtain⟨ns,q,h1,h2,_⟩:=D.ex;exact⟨(aab h1 h).symm,(aab h2 h).symm⟩
theorem DeckAt.new {H:Hp}{d c p:Addr}{o:HO}(D:DeckAt H d c) (h:H p=none):DeckAt (upd H p o) d c:=D.upd_other (D.ned h).1 (D.ned h).2
end Lw
namespace L2
open PySem PySem.Spec PyProof.Rows Lw
inductive Sl where
 | no | val (d:D) | own (d:D)
abbrev Ents:=List (Sl×Option V)
def Dk (dk:List Addr) (H:Hp):Prop:=dk=[]\/∃ d c,dk=[d,c]/\DeckAt H d c
theorem Dk.some {dk:List Addr}{H:Hp}(h:Dk dk H){a:Addr}(ha:a∈dk):∃ xs,H a=some (.lst xs):=by
 rcases h with rfl | ⟨d,c,rfl,h⟩
 ·cases ha
 ·obtain⟨ns,p,h1,h2,_⟩:=h.ex;rcases List.mem_cons.mp ha with rfl | ha
  ·exact⟨_,h1⟩
  ·rcases List.mem_cons.mp ha with rfl | ha
   ·exact⟨_,h2⟩
   ·cases ha
theorem Dk.keep {dk:List Addr}{H H':Hp}(h:Dk dk H) (k:∀ a∈dk,H' a=H a):Dk dk H':=by
 rcases h with rfl | ⟨d,c,rfl,h⟩
 ·exact .inl rfl
 ·refine .inr ⟨d,c,rfl,?_⟩;obtain⟨ns,p,h1,h2,h3⟩:=h.ex;exact⟨ns,p,by rw[k d (by simp)];exact h1,by rw[k c (by simp)];exact h2,h3⟩
theorem Dk.upd {dk:List Addr}{H:Hp}(h:Dk dk H){p:Addr}{o:HO}(hp:p∉dk):Dk dk (upd H p o):=h.keep fun a ha=>aad fun z=>hp (z▸ha)
def aon:Sl×Option V->Option Addr
 | (.own _,some (.ref a))=>some a
 | _=>none
def aaf (L:Ents):List Addr:=L.filterMap aon
structure Bs where
 dk:List Addr
 A0:Addr->Prop
 H0:Hp
def Al (B:Bs) (R:List Addr) (a:Addr):Prop:=a∉B.dk/\a∉R/\(B.A0 a\/B.H0 a=none)
def Root (K:PySem.W.Frag) (A:Addr->Prop) (H:Hp) (a:Addr):D->Prop
 | .lst ds=>∃ vs,H a=some (.lst vs)/\Reps K A H ds vs
 | .dK ds=>∃ kvs,H a=some (.dK kvs)/\ds.map (·.1)=kvs.map (·.1)/\Reps K A H (ds.map (·.2)) (kvs.map (·.2))
 | .dT ds=>∃ kvs,H a=some (.dT kvs)/\ds.map (·.1)=kvs.map (·.1)/\Reps K A H (ds.map (·.2)) (kvs.map (·.2))
 | _=>False
def SlOk (K:PySem.W.Frag) (A:Addr->Prop) (H:Hp):Sl->Option V->Prop
 | .no,_=>True
 | .val d,x=>∃ v,x=some v/\Rep K A H d v
 | .own d,x=>∃ a,x=some (.ref a)/\Root K A H a d
structure DS (K:PySem.W.Frag) (B:Bs) (L:Ents) (H:Hp):Prop where
 fr:∀ b o,B.H0 b=some o->b∉B.dk->H b=some o
 dk:Dk B.dk H
 nd:(aaf L).Nodup
 new:∀ a∈aaf L,B.H0 a=none/\a∉B.dk
 ok:∀ p∈L,SlOk K (Al B (aaf L)) H p.1 p.2
section
variable {K:PySem.W.Frag}{A A':Addr->Prop}{B:Bs}{H H':Hp}{L L1 L2:Ents}{x:Sl×Option V}{d:D}{v:V}{a:Addr}
theorem Root.mono (k:Kp A A' H H') (ha:∀ o,H a=some o->H' a=some o):∀ {d:D},Root K A H a d->Root K A' H' a d
 | .lst _,⟨vs,h,r⟩=>⟨vs,ha _ h,r.mono k⟩
 | .dK _,⟨vs,h,e,r⟩=>⟨vs,ha _ h,e,r.mono k⟩
 | .dT _,⟨vs,h,e,r⟩=>⟨vs,ha _ h,e,r.mono k⟩
theorem Root.some:∀ {d:D},Root K A H a d->∃ o,H a=some o/\tupO o=false
 | .lst _,⟨vs,h,r⟩=>⟨_,h,rfl⟩
 | .dK _,⟨vs,h,e,r⟩=>⟨_,h,rfl⟩
 | .dT _,⟨vs,h,e,r⟩=>⟨_,h,rfl⟩
theorem Root.rep (hA:∀ b,A b->A' b) (ha:A' a):∀ {d:D},Root K A H a d->Rep K A' H d (.ref a)
 | .lst _,⟨vs,h,r⟩=>.lst ha h (r.mono (.all hA))
 | .dK _,⟨vs,h,e,r⟩=>.dK ha h e (r.mono (.all hA))
 | .dT _,⟨vs,h,e,r⟩=>.dT ha (.inl h) e (r.mono (.all hA))
theorem SlOk.mono (k:Kp A A' H H'){s:Sl}{y:Option V}(h:SlOk K A H s y) (hr:∀ a,aon (s,y)=some a->∀ o,H a=some o->H' a=some o):SlOk K A' H' s y:=by
 cases s with
 | no=>trivial
 | val d=>obtain⟨v,e,r⟩:=h;exact⟨v,e,r.mono k⟩
 | own d=>obtain⟨a,rfl,r⟩:=h;exact⟨a,rfl,r.mono k (hr a rfl)⟩
theorem aaz:aaf (L1++L2)=aaf L1++aaf L2:=List.filterMap_append
theorem abw:a∈aaf L↔∃ p∈L,aon p=some a:=List.mem_filterMap
theorem abk:aaf (L1++x::L2)=aaf L1++((aon x).toList++aaf L2):=by
 unfold aaf;rw[List.filterMap_append,List.filterMap_cons];cases aon x<;>rfl
theorem DS.live (h:DS K B L H) (ha:a∈aaf L):∃ o,H a=some o/\tupO o=false:=by
 obtain⟨p,hp,e⟩:=abw.mp ha;have:=h.ok p hp;obtain⟨s,y⟩:=p;cases s with
 | no=>cases e
 | val d=>cases e
 | own d =>
  obtain⟨b,rfl,r⟩:=this;cases e;exact r.some
theorem DS.drop (h:DS K B (L1++x::L2) H):DS K B (L1++L2) H:=by
 have e:=abk (L1:=L1) (x:=x) (L2:=L2);have hm:∀ a,a∈aaf (L1++L2)->a∈aaf (L1++x::L2):=fun a ha=>by
  rw[aaz] at ha;rw[e];simp only[List.mem_append] at ha ⊢;rcases ha with q | q
  ·exact .inl q
  ·exact .inr (.inr q)
 refine⟨h.fr,h.dk,?_,fun a ha=>h.new a (hm a ha),fun p hp=>?_⟩
 ·have n:=h.nd;rw[e] at n;rw[aaz];obtain⟨n1,n2,n3⟩:=List.nodup_append.mp n;exact List.nodup_append.mpr ⟨n1,(List.nodup_append.mp n2).2.1,fun a ha b hb=>n3 a ha b (List.mem_append_right _ hb)⟩
 ·refine (h.ok p (by simp only[List.mem_append,List.mem_cons] at hp ⊢;rcases hp with q | q;exact .inl q;exact .inr (.inr q))).mono (.all fun a z=>⟨z.1,fun q=>z.2.1 (hm a q),z.2.2⟩) (fun _ _ _ q=>q)
theorem DS.at (h:DS K B (L1++x::L2) H):SlOk K (Al B (aaf (L1++x::L2))) H x.1 x.2:=h.ok x (List.mem_append_right _ List.mem_cons_self)
theorem DS.valAt (h:DS K B (L1++(.val d,some v)::L2) H):Rep K (Al B (aaf (L1++L2))) H d v:=by
 obtain⟨u,e,r⟩:=h.at;cases e;have:aaf (L1++(Sl.val d,some v)::L2)=aaf (L1++L2):=by rw[abk,aaz];rfl
 rw[this] at r;exact r
theorem DS.push (h:DS K B (L1++L2) H) (r:Rep K (Al B (aaf (L1++L2))) H d v):DS K B (L1++(.val d,some v)::L2) H:=by
 have e:aaf (L1++(Sl.val d,some v)::L2)=aaf (L1++L2):=by rw[abk,aaz];rfl
 refine⟨h.fr,h.dk,by rw[e];exact h.nd,by rw[e];exact h.new,fun p hp=>?_⟩;rw[e];simp only[List.mem_append,List.mem_cons] at hp;rcases hp with q | q | q
 ·exact h.ok p (List.mem_append_left _ q)
 ·subst q;exact⟨v,rfl,r⟩
 ·exact h.ok p (List.mem_append_right _ q)
theorem DS.pushN (h:DS K B (L1++L2) H) (y:Option V):DS K B (L1++(.no,y)::L2) H:=by
 have e:aaf (L1++(Sl.no,y)::L2)=aaf (L1++L2):=by rw[abk,aaz];rfl
 refine⟨h.fr,h.dk,by rw[e];exact h.nd,by rw[e];exact h.new,fun p hp=>?_⟩;rw[e];simp only[List.mem_append,List.mem_cons] at hp;rcases hp with q | q | q
 ·exact h.ok p (List.mem_append_left _ q)
 ·subst q;trivial
 ·exact h.ok p (List.mem_append_right _ q)
theorem DS.grow (h:DS K B L H) (s:Same H H') (dk:Dk B.dk H'):DS K B L H' :=
 ⟨fun b o e n=>s b o (h.fr b o e n),dk,h.nd,h.new,fun p hp=>(h.ok p hp).mono (.same s fun _ z=>z) (fun _ _ o q=>s _ o q)⟩
theorem DS.free (h:DS K B L H) (hp:H a=none):B.H0 a=none/\a∉B.dk/\a∉aaf L:=by
 have n:a∉B.dk:=fun z=>by obtain⟨xs,e⟩:=h.dk.some z;rw[e] at hp;cases hp
 refine⟨?_,n,fun z=>by obtain⟨o,e,_⟩:=h.live z;rw[e] at hp;cases hp⟩;cases e:B.H0 a with
 | none=>rfl
 | some o=>rw[h.fr a o e n] at hp;cases hp
theorem DS.laid (h:DS K B L H){o:HO}(hp:H a=none):DS K B L (upd H a o) :=
 h.grow (fun b u e=>by rw[aad (aab e hp)];exact e) (h.dk.upd (h.free hp).2.1)
theorem DS.tup (h:DS K B (L1++L2) H){ds:List D}{vs:List V}(hp:H a=none) (r:Reps K (Al B (aaf (L1++L2))) H ds vs):DS K B (L1++(.val (.tup ds),some (.ref a))::L2) (upd H a (.tup vs)) :=
 (h.laid hp).push (.tup aaa (r.mono (.laid hp fun _ z _=>z)))
theorem DS.make (h:DS K B (L1++L2) H){o:HO}(hp:H a=none) (r:∀ A',Kp (Al B (aaf (L1++L2))) A' H (upd H a o)->Root K A' (upd H a o) a d):DS K B (L1++(.own d,some (.ref a))::L2) (upd H a o):=by
 obtain⟨f1,f2,f3⟩:=h.free hp;have e:aaf (L1++(Sl.own d,some (.ref a))::L2)=aaf L1++a::aaf L2:=abk;have hm:∀ b,b∈aaf L1++a::aaf L2↔b=a\/b∈aaf (L1++L2):=fun b=>by
  rw[aaz];simp only[List.mem_append,List.mem_cons];constructor
  ·rintro (q | q | q)
   ·exact .inr (.inl q)
   ·exact .inl q
   ·exact .inr (.inr q)
  ·rintro (q | q | q)
   ·exact .inr (.inl q)
   ·exact .inl q
   ·exact .inr (.inr q)
 have kp:Kp (Al B (aaf (L1++L2))) (Al B (aaf L1++a::aaf L2)) H (upd H a o):=.laid hp fun b z n=>⟨z.1,fun q=>(hm b).mp q |>.elim n z.2.1,z.2.2⟩
 refine⟨fun b u q n=>by rw[aad (aab (h.fr b u q n) hp)];exact h.fr b u q n,h.dk.upd f2,?_,fun b hb=>?_,fun p hp'=>?_⟩
 ·rw[e];have n:=h.nd;rw[aaz] at n f3;obtain⟨n1,n2,n3⟩:=List.nodup_append.mp n;refine List.nodup_append.mpr ⟨n1,List.nodup_cons.mpr ⟨fun z=>f3 (List.mem_append_right _ z),n2⟩,fun b hb c hc=>?_⟩;rcases List.mem_cons.mp hc with q | q
  ·intro z;subst z;subst q;exact f3 (List.mem_append_left _ hb)
  ·exact n3 b hb c q
 ·rw[e] at hb;rcases (hm b).mp hb with q | q
  ·subst q;exact⟨f1,f2⟩
  ·exact h.new b q
 ·rw[e];simp only[List.mem_append,List.mem_cons] at hp';have old:∀ p∈L1++L2,SlOk K (Al B (aaf L1++a::aaf L2)) (upd H a o) p.1 p.2:=fun p hp'=>(h.ok p hp').mono kp fun b hb w q=>by rw[aad (aab q hp)];exact q
  rcases hp' with q | q | q
  ·exact old p (List.mem_append_left _ q)
  ·subst q;exact⟨a,rfl,r _ kp⟩
  ·exact old p (List.mem_append_right _ q)
theorem DS.freeze (h:DS K B (L1++(.own d,some v)::L2) H):DS K B (L1++(.val d,some v)::L2) H:=by
 obtain⟨a,e,r⟩:=h.at;cases e;have e1:aaf (L1++(Sl.own d,some (V.ref a))::L2)=aaf L1++a::aaf L2:=abk;have hd:=h.drop;have nw:=h.new a (by rw[e1];simp);refine hd.push (r.rep (fun b z=>⟨z.1,fun q=>z.2.1 ?_,z.2.2⟩) ⟨nw.2,fun q=>?_,.inr nw.1⟩)
 ·rw[e1];rw[aaz] at q;simp only[List.mem_append,List.mem_cons] at q ⊢;rcases q with q | q
  ·exact .inl q
  ·exact .inr (.inr q)
 ·have n:=h.nd;rw[e1] at n;rw[aaz] at q;obtain⟨n1,n2,n3⟩:=List.nodup_append.mp n;rcases List.mem_append.mp q with q | q
  ·exact n3 a q a List.mem_cons_self rfl
  ·exact (List.nodup_cons.mp n2).1 q
theorem DS.write (h:DS K B (L1++(.own d,some (.ref a))::L2) H){o:HO}{d':D}(r:∀ A',Kp (Al B (aaf L1++a::aaf L2)) A' H (upd H a o)->Root K A' (upd H a o) a d'):DS K B (L1++(.own d',some (.ref a))::L2) (upd H a o):=by
 have e1:∀ d,aaf (L1++(Sl.own d,some (V.ref a))::L2)=aaf L1++a::aaf L2:=fun d=>abk
 have nw:=h.new a (by rw[e1];simp);obtain⟨u,hu,tu⟩:=h.live (a:=a) (by rw[e1];simp);have kp:Kp (Al B (aaf L1++a::aaf L2)) (Al B (aaf L1++a::aaf L2)) H (upd H a o):=.write hu tu fun z=>z.2.1 (by simp)
 have n:=h.nd;rw[e1] at n;have na:∀ b,b∈aaf L1\/b∈aaf L2->b≠a:=fun b hb z=>by
  subst z;obtain⟨n1,n2,n3⟩:=List.nodup_append.mp n;rcases hb with hb | hb
  ·exact n3 b hb b List.mem_cons_self rfl
  ·exact (List.nodup_cons.mp n2).1 hb
 refine⟨fun b w q m=>?_,h.dk.upd nw.2,by rw[e1];exact n,fun b hb=>h.new b (by rw[e1] at hb ⊢;exact hb),fun p hp'=>?_⟩
 ·have:b≠a:=fun z=>by subst z;rw[nw.1] at q;cases q
  rw[aad this];exact h.fr b w q m
 ·rw[e1];have old:∀ p,p∈L1\/p∈L2->SlOk K (Al B (aaf L1++a::aaf L2)) (upd H a o) p.1 p.2:=fun p hp=>by
   have:=h.ok p (by simp only[List.mem_append,List.mem_cons];rcases hp with q | q;exact .inl q;exact .inr (.inr q));rw[e1] at this;refine this.mono kp fun b hb w q=>?_
   rw[aad (na b ?_)]
   ·exact q
   ·rcases hp with z | z
    ·exact .inl (abw.mpr ⟨p,z,hb⟩)
    ·exact .inr (abw.mpr ⟨p,z,hb⟩)
  simp only[List.mem_append,List.mem_cons] at hp';rcases hp' with q | q | q
  ·exact old p (.inl q)
  ·subst q;exact⟨a,rfl,r _ kp⟩
  ·exact old p (.inr q)
theorem DS.ownAt (h:DS K B (L1++(.own d,some v)::L2) H):∃ a,v = .ref a/\Root K (Al B (aaf L1++a::aaf L2)) H a d:=by
 obtain⟨a,e,r⟩:=h.at;cases e;rw[show aaf (L1++(Sl.own d,some (V.ref a))::L2)=aaf L1++a::aaf L2 from abk] at r;exact⟨a,rfl,r⟩
theorem DS.perm (h:DS K B L H){M:Ents}(p:L.Perm M):DS K B M H:=by
 have e:(aaf L).Perm (aaf M):=p.filterMap aon;refine⟨h.fr,h.dk,e.nodup_iff.mp h.nd,fun a ha=>h.new a (e.mem_iff.mpr ha),fun q hq=>(h.ok q (p.mem_iff.mpr hq)).mono (.all fun a z=>⟨z.1,fun w=>z.2.1 (e.mem_iff.mpr w),z.2.2⟩) fun _ _ _ w=>w⟩
end
section
theorem aey {ρ:List Sl}{σ:St}(hl:ρ.length=σ.length){i:Nat}{s:Sl}(h:ρ[i]?=some s):∃ l1 y l2,σ[i]?=some y/\l1.length=i/\ρ.zip σ=l1++(s,y)::l2/\∀ s' y',(ρ.set i s').zip (σ.set i y')=l1++(s',y')::l2:=by
 induction ρ generalizing σ i with
 | nil=>simp at h
 | cons r ρ ih =>
  cases σ with
  | nil=>simp at hl
  | cons z σ =>
   cases i with
   | zero=>simp at h;subst h;exact⟨[],z,ρ.zip σ,rfl,rfl,rfl,fun _ _=>rfl⟩
   | succ i =>
    obtain⟨l1,y,l2,h1,h2,h3,h4⟩:=ih (σ:=σ) (by simpa using hl) (i:=i) (by simpa using h);exact⟨(r,z)::l1,y,l2,by simpa using h1,by simp[h2],by simp[h3],fun s' y'=>by simp[h4]⟩
theorem afg {σ:St}{i:Nat}{y:Option V}(h:σ[i]?=some y):σ.set i y=σ:=by
 obtain⟨hi,rfl⟩:=List.getElem?_eq_some_iff.mp h;exact List.set_getElem_self hi
end
abbrev TEd:=List Addr->List Sl->(Sl->List Sl->Prop)->Prop
abbrev TTd:=List Addr->List Sl->(Bool->List Sl->Prop)->Prop
def dE (K:PySem.W.Frag) (τ:TEd):TE:=fun σ H Q=>∃ (B:Bs) (ρ:List Sl) (T:Ents) (Φ:Sl->List Sl->Prop),ρ.length=σ.length/\DS K B (ρ.zip σ++T) H/\τ B.dk ρ Φ /\
 ∀ r ρ' v H',ρ'.length=σ.length->DS K B (ρ'.zip σ++(r,some v)::T) H'->Φ r ρ'->Q v H'
def dTt (K:PySem.W.Frag) (τ:TTd):TT:=fun σ H Q=>∃ (B:Bs) (ρ:List Sl) (T:Ents) (Φ:Bool->List Sl->Prop),ρ.length=σ.length/\DS K B (ρ.zip σ++T) H/\τ B.dk ρ Φ /\
 ∀ b ρ' H',ρ'.length=σ.length->DS K B (ρ'.zip σ++T) H'->Φ b ρ'->Q b H'
theorem dE.elim {K:PySem.W.Frag}{τ:TEd}{σ:St}{H:Hp}{Q:VK}{P:Prop}(h:dE K τ σ H Q) (f:∀ (B:Bs) (ρ:List Sl) (T:Ents) (Φ:Sl->List Sl->Prop),ρ.length=σ.length->DS K B (ρ.zip σ++T) H->τ B.dk ρ Φ ->(∀ r ρ' v H',ρ'.length=σ.length->DS K B (ρ'.zip σ++(r,some v)::T) H'->Φ r ρ'->Q v H')->P):P:=by
 obtain⟨B,ρ,T,Φ,hl,hd,ht,k⟩:=h;exact f B ρ T Φ hl hd ht k
theorem dTt.elim {K:PySem.W.Frag}{τ:TTd}{σ:St}{H:Hp}{Q:Bool->Hp->Prop}{P:Prop}(h:dTt K τ σ H Q) (f:∀ (B:Bs) (ρ:List Sl) (T:Ents) (Φ:Bool->List Sl->Prop),ρ.length=σ.length->DS K B (ρ.zip σ++T) H->τ B.dk ρ Φ ->(∀ b ρ' H',ρ'.length=σ.length->DS K B (ρ'.zip σ++T) H'->Φ b ρ'->Q b H')->P):P:=by
 obtain⟨B,ρ,T,Φ,hl,hd,ht,k⟩:=h;exact f B ρ T Φ hl hd ht k
abbrev PD (X:Cx) (e:Expr) (τ:TEd):Prop:=PE X e (dE X.K τ)
abbrev PDt (X:Cx) (e:Expr) (τ:TTd):Prop:=PT X e (dTt X.K τ)
abbrev PDw (X:Cx) (e:Expr) (τ:TTd):Prop:=PW X e (dTt X.K τ)
theorem PE.mono {X:Cx}{e:Expr}{t t':TE}(h:PE X e t) (k:∀ σ H Q,t' σ H Q->t σ H Q):PE X e t':=fun pins s σ H Q I q=>h pins s σ H Q I (k σ H Q q)
theorem PT.mono {X:Cx}{e:Expr}{t t':TT}(h:PT X e t) (k:∀ σ H Q,t' σ H Q->t σ H Q):PT X e t':=fun pins s σ H Q I q=>h pins s σ H Q I (k σ H Q q)
theorem PW.mono {X:Cx}{e:Expr}{t t':TT}(h:PW X e t) (k:∀ σ H Q,t' σ H Q->t σ H Q):PW X e t':=fun wh pins s σ H Q I q=>h wh pins s σ H Q I (k σ H Q q)
def sd:Sl->Option D
 | .val d=>some d
 | .own d=>some d
 | .no=>none
section
variable {K:PySem.W.Frag}{B:Bs}{H:Hp}{L L1 L2 T:Ents}{x:Sl×Option V}{d e:D}{r r':Sl}{v u:V}
theorem ahi {y:Option V}:aaf (L1++(Sl.val d,y)::L2)=aaf (L1++L2):=by rw[abk,aaz];rfl
theorem DS.thaw (h:DS K B (L1++(r,some v)::L2) H) (e:sd r=some d):DS K B (L1++(.val d,some v)::L2) H:=by
 cases r with
 | no=>cases e
 | val c=>cases e;exact h
 | own c=>cases e;exact h.freeze
theorem DS.one (h:DS K B (L++(r,some v)::T) H) (e:sd r=some d):DS K B (L++T) H/\Rep K (Al B (aaf (L++T))) H d v:=by
 have h':=h.thaw e;exact⟨h'.drop,h'.valAt⟩
theorem DS.two (h:DS K B (L++(r',some u)::(r,some v)::T) H) (e1:sd r=some d) (e2:sd r'=some e):DS K B (L++T) H/\Rep K (Al B (aaf (L++T))) H d v/\Rep K (Al B (aaf (L++T))) H e u:=by
 have h1:=h.thaw e2;have h2:DS K B ((L++[(Sl.val e,some u)])++(r,some v)::T) H:=by simpa using h1
 have h3:=h2.thaw e1;have h4:DS K B (L++(Sl.val e,some u)::(.val d,some v)::T) H:=by simpa using h3
 have q1:=h4.valAt;have q2:=h3.valAt;have e3:aaf (L++(Sl.val d,some v)::T)=aaf (L++T):=by rw[abk,aaz];rfl
 have e4:aaf ((L++[(Sl.val e,some u)])++T)=aaf (L++T):=by
  rw[List.append_assoc];show aaf (L++(Sl.val e,some u)::T)=_;rw[abk,aaz];rfl
 rw[e3] at q1;rw[e4] at q2;exact⟨h4.drop.drop,q2,q1⟩
theorem DS.mid (h:DS K B (x::(L++T)) H):DS K B (L++x::T) H:=h.perm List.perm_middle.symm
theorem DS.front (h:DS K B (L++x::T) H):DS K B (x::(L++T)) H:=h.perm List.perm_middle
theorem DS.pushF (h:DS K B L H) (r:Rep K (Al B (aaf L)) H d v):DS K B ((.val d,some v)::L) H:=DS.push (L1:=[]) h r
theorem DS.tupF (h:DS K B L H){a:Addr}{ds:List D}{vs:List V}(hp:H a=none) (r:Reps K (Al B (aaf L)) H ds vs):DS K B ((.val (.tup ds),some (.ref a))::L) (upd H a (.tup vs)):=DS.tup (L1:=[]) h hp r
theorem DS.lstF (h:DS K B L H){a:Addr}{ds:List D}{vs:List V}(hp:H a=none) (r:Reps K (Al B (aaf L)) H ds vs):DS K B ((.own (.lst ds),some (.ref a))::L) (upd H a (.lst vs)) :=
 DS.make (L1:=[]) h hp fun A' k=>⟨vs,aaa,r.mono k⟩
theorem DS.dKF (h:DS K B L H){a:Addr}{ds:List (Key×D)}{kvs:List (Key×V)}(hp:H a=none) (e:ds.map (·.1)=kvs.map (·.1)) (r:Reps K (Al B (aaf L)) H (ds.map (·.2)) (kvs.map (·.2))):DS K B ((.own (.dK ds),some (.ref a))::L) (upd H a (.dK kvs)) :=
 DS.make (L1:=[]) h hp fun A' k=>⟨kvs,aaa,e,r.mono k⟩
end
def Peek (K:PySem.W.Frag) (A:Addr->Prop) (H:Hp):D->V->Prop
 | .lst ds,v=>∃ a vs,v = .ref a/\H a=some (.lst vs)/\Reps K A H ds vs
 | .dK ds,v=>∃ a kvs,v = .ref a/\H a=some (.dK kvs)/\ds.map (·.1)=kvs.map (·.1)/\Reps K A H (ds.map (·.2)) (kvs.map (·.2))
 | .dT ds,v=>∃ a kvs,v = .ref a/\Rd H a (.dT kvs)/\ds.map (·.1)=kvs.map (·.1)/\Reps K A H (ds.map (·.2)) (kvs.map (·.2))
 | .non,v=>Rep K A H .non v
 | .bl b,v=>Rep K A H (.bl b) v
 | .int b,v=>Rep K A H (.int b) v
 | .str b,v=>Rep K A H (.str b) v
 | .raw b,v=>Rep K A H (.raw b) v
 | .tup b,v=>Rep K A H (.tup b) v
 | .con b,v=>Rep K A H (.con b) v
 | .scr b,v=>Rep K A H (.scr b) v
section
variable {K:PySem.W.Frag}{A A':Addr->Prop}{B:Bs}{H:Hp}
theorem Rep.peek {d:D}{v:V}(h:Rep K A H d v):Peek K A H d v:=by
 cases h with
 | lst _ h r=>exact⟨_,_,rfl,h,r⟩
 | dK _ h e r=>exact⟨_,_,rfl,h,e,r⟩
 | dT _ h e r=>exact⟨_,_,rfl,h,e,r⟩
 | non=>exact .non
 | bl=>exact .bl _
 | int=>exact .int _
 | str=>exact .str _
 | raw=>exact .raw _
 | tup h r=>exact .tup h r
 | con h r=>exact .con h r
 | scr h r=>exact .scr h r
theorem Root.peek {a:Addr}:∀ {d:D},Root K A H a d->Peek K A H d (.ref a)
 | .lst _,⟨vs,h,r⟩=>⟨_,vs,rfl,h,r⟩
 | .dK _,⟨vs,h,e,r⟩=>⟨_,vs,rfl,h,e,r⟩
 | .dT _,⟨vs,h,e,r⟩=>⟨_,vs,rfl,.inl h,e,r⟩
theorem Peek.lst_inv {ds:List D}{v:V}(h:Peek K A H (.lst ds) v):∃ a vs,v = .ref a/\H a=some (.lst vs)/\Reps K A H ds vs:=h
theorem Peek.dK_inv {ds:List (Key×D)}{v:V}(h:Peek K A H (.dK ds) v):∃ a kvs,v = .ref a/\H a=some (.dK kvs)/\ds.map (·.1)=kvs.map (·.1)/\Reps K A H (ds.map (·.2)) (kvs.map (·.2)):=h
theorem Peek.dT_inv {ds:List (List Key×D)}{v:V}(h:Peek K A H (.dT ds) v):∃ a kvs,v = .ref a/\Rd H a (.dT kvs)/\ds.map (·.1)=kvs.map (·.1)/\Reps K A H (ds.map (·.2)) (kvs.map (·.2)):=h
theorem Peek.tup_inv {ds:List D}{v:V}(h:Peek K A H (.tup ds) v):∃ a vs,v = .ref a/\H a=some (.tup vs)/\Reps K A H ds vs:=Rep.tup_inv h
theorem Peek.con_inv {ds:List D}{v:V}(h:Peek K A H (.con ds) v):∃ a vs,v = .ref a/\SqC K a vs/\Reps K A H ds vs:=Rep.con_inv h
theorem Peek.scr_inv {ds:List D}{v:V}(h:Peek K A H (.scr ds) v):∃ a vs,v = .ref a/\SqF K H a vs/\Reps K A H ds vs:=Rep.scr_inv h
theorem Peek.int_inv {i:Int}{v:V}(h:Peek K A H (.int i) v):v = .int i:=Rep.int_inv h
theorem Peek.str_inv {i:Str}{v:V}(h:Peek K A H (.str i) v):v = .str i:=Rep.str_inv h
theorem Peek.bl_inv {i:Bool}{v:V}(h:Peek K A H (.bl i) v):v = .bl i:=Rep.bl_inv h
theorem Peek.non_inv {v:V}(h:Peek K A H .non v):v = .non:=Rep.non_inv h
def at? (ρ:List Sl) (i:Nat):Option D:=(ρ[i]?).bind sd
theorem DS.peek {ρ:List Sl}{σ:St}{T:Ents}(hl:ρ.length=σ.length) (h:DS K B (ρ.zip σ++T) H){i:Nat}{d:D}(e:at? ρ i=some d):∃ v,σ[i]?=some (some v)/\Peek K (Al B (aaf (ρ.zip σ++T))) H d v:=by
 unfold at? at e;cases e1:ρ[i]? with
 | none=>rw[e1] at e;cases e
 | some s =>
  rw[e1] at e;obtain⟨l1,y,l2,hy,_,hz,_⟩:=aey hl e1;have hd':=h;rw[hz] at hd';have:=hd'.ok (s,y) (by simp);rw[← hz] at this;cases s with
  | no=>cases e
  | val c=>cases e;obtain⟨v,rfl,r⟩:=this;exact⟨v,hy,r.peek⟩
  | own c=>cases e;obtain⟨a,rfl,r⟩:=this;exact⟨_,hy,r.peek⟩
end
def vd (i:Nat):TEd:=fun _ ρ Φ=>match ρ[i]? with
 | some (.val d)=>Φ (.val d) ρ
 | some (.own d)=>Φ (.val d) (ρ.set i (.val d))
 | _=>False
def cd (d:D):TEd:=fun _ ρ Φ=>Φ (.val d) ρ
section
variable {X:Cx}{a b c:Expr}{ta tb tc:TEd}{pos:Pos}
theorem pd_v (i:Nat){x:Str}(h:PE X (.Name x pos) (tVar i)):PD X (.Name x pos) (vd i):=h.mono fun σ H Q hq0=>hq0.elim fun B ρ T Φ hl hd ht k=>by
 unfold vd at ht;cases e:ρ[i]? with
 | none=>rw[e] at ht;exact ht.elim
 | some s =>
  rw[e] at ht;obtain⟨l1,y,l2,hy,_,hz,hset⟩:=aey hl e;have hd':DS X.K B (l1++(s,y)::(l2++T)) H:=by rw[hz] at hd;simpa using hd
  cases s with
  | no=>exact ht.elim
  | val d =>
   obtain⟨v,rfl,_⟩:=hd'.at;refine⟨v,hy,k _ _ v H hl ?_ ht⟩;refine hd.push ?_;have:=hd'.valAt;rw[hz];have e3:aaf ((l1++(Sl.val d,some v)::l2)++T)=aaf (l1++(l2++T)):=by
    rw[List.append_assoc,List.cons_append,ahi]
   rw[e3];exact this
  | own d =>
   obtain⟨a,rfl,_⟩:=hd'.at;have hf:=hd'.freeze;have hs:(ρ.set i (.val d)).zip σ=l1++(.val d,some (.ref a))::l2:=by
    have:=hset (.val d) (some (.ref a));rw[afg hy] at this;exact this
   have hd2:DS X.K B ((ρ.set i (.val d)).zip σ++T) H:=by rw[hs];simpa using hf
   refine⟨.ref a,hy,k _ _ _ H (by rw[List.length_set];exact hl) ?_ ht⟩;refine hd2.push ?_;have:=hf.valAt;rw[hs];have e3:aaf ((l1++(Sl.val d,some (V.ref a))::l2)++T)=aaf (l1++(l2++T)):=by
    rw[List.append_assoc,List.cons_append,ahi]
   rw[e3];exact this
theorem pd_c {d:D}{v:V}{e:Expr}(h:PE X e (tC v)) (r:∀ K A H,Rep K A H d v):PD X e (cd d):=h.mono fun σ H Q hq0=>hq0.elim fun B ρ T Φ hl hd ht k=>k _ ρ v H hl (hd.push (r _ _ _)) ht
theorem aae {i:Int}{j:Nat}:PD X (.Constant (.int i) j pos) (cd (.int i)):=pd_c aap fun _ _ _=>.int i
theorem aai {x:Str}{j:Nat}:PD X (.Constant (.str x) j pos) (cd (.str x)):=pd_c aeh fun _ _ _=>.str x
theorem pd_bl {x:Bool}{j:Nat}:PD X (.Constant (.bool x) j pos) (cd (.bl x)):=pd_c auj fun _ _ _=>.bl x
theorem pd_non {j:Nat}:PD X (.Constant .none j pos) (cd .non):=pd_c avp fun _ _ _=>.non
abbrev O2:=D->D->(Sl->Prop)->Prop
def OpD (K:PySem.W.Frag) (r:R2) (f:O2):Prop:=∀ (B:Bs) (L:Ents) (H:Hp) (d e:D) (x y:V) (Φ:Sl->Prop) (Q:VK),DS K B L H->Peek K (Al B (aaf L)) H d x->Peek K (Al B (aaf L)) H e y->f d e Φ ->
 (∀ s v H',Φ s->DS K B ((s,some v)::L) H'->Q v H')->r x y H Q
def d2 (f:O2) (ta tb:TEd):TEd:=fun dk ρ Φ=>ta dk ρ fun ra ρ1=>tb dk ρ1 fun rb ρ2=>match sd ra,sd rb with
 | some d,some e=>f d e fun r=>Φ r ρ2
 | _,_=>False
theorem ajc {f:O2}{r:R2}(hf:OpD X.K r f){σ:St}{H:Hp}{Q:VK}(h:dE X.K (d2 f ta tb) σ H Q):dE X.K ta σ H fun x H1=>dE X.K tb σ H1 fun y H2=>r x y H2 Q:=by
 obtain⟨B,ρ,T,Φ,hl,hd,ht,k⟩:=h;refine⟨B,ρ,T,_,hl,hd,ht,fun ra ρ1 x H1 l1 d1 h1=>⟨B,ρ1,(ra,some x)::T,_,l1,d1,h1,fun rb ρ2 y H2 l2 d2 h2=>?_⟩⟩;cases e1:sd ra with
 | none=>rw[e1] at h2;exact h2.elim
 | some d =>
  cases e2:sd rb with
  | none=>rw[e1,e2] at h2;exact h2.elim
  | some e =>
   rw[e1,e2] at h2;obtain⟨q1,q2,q3⟩:=d2.two e1 e2;exact hf B _ H2 d e x y _ Q q1 q2.peek q3.peek h2 fun s v H' hs hd'=>k s ρ2 v H' l2 hd'.mid hs
def d2s (f:O2) (i:Nat) (tb:TEd):TEd:=fun dk ρ Φ=>(at? ρ i).isSome=true/\tb dk ρ fun rb ρ2=>match at? ρ2 i,sd rb with
 | some d,some e=>f d e fun r=>Φ r ρ2
 | _,_=>False
def d2t (f:O2) (ta:TEd) (i:Nat):TEd:=fun dk ρ Φ=>ta dk ρ fun ra ρ1=>match sd ra,at? ρ1 i with
 | some d,some e=>f d e fun r=>Φ r ρ1
 | _,_=>False
theorem ai5 {f:O2}{r:R2}(hf:OpD X.K r f){i:Nat}{σ:St}{H:Hp}{Q:VK}(h:dE X.K (d2s f i tb) σ H Q):tVar i σ H fun x H1=>dE X.K tb σ H1 fun y H2=>r x y H2 Q:=by
 obtain⟨B,ρ,T,Φ,hl,hd,⟨hi,ht⟩,k⟩:=h;obtain⟨d0,h0⟩:=Option.isSome_iff_exists.mp hi;obtain⟨x,hx,_⟩:=hd.peek hl h0;refine⟨x,hx,B,ρ,T,_,hl,hd,ht,fun rb ρ2 y H2 l2 d2 h2=>?_⟩;cases e1:at? ρ2 i with
 | none=>rw[e1] at h2;exact h2.elim
 | some d =>
  cases e2:sd rb with
  | none=>rw[e1,e2] at h2;exact h2.elim
  | some e =>
   rw[e1,e2] at h2;obtain⟨q1,q3⟩:=d2.one e2;obtain⟨x',hx',px⟩:=q1.peek l2 e1;rw[hx] at hx';cases hx';exact hf B _ H2 d e x y _ Q q1 px q3.peek h2 fun s v H' hs hd'=>k s ρ2 v H' l2 hd'.mid hs
theorem as7 {f:O2}{r:R2}(hf:OpD X.K r f){i:Nat}{σ:St}{H:Hp}{Q:VK}(h:dE X.K (d2t f ta i) σ H Q):dE X.K ta σ H fun x H1=>tVar i σ H1 fun y H2=>r x y H2 Q:=by
 obtain⟨B,ρ,T,Φ,hl,hd,ht,k⟩:=h;refine⟨B,ρ,T,_,hl,hd,ht,fun ra ρ1 x H1 l1 d1 h1=>?_⟩;cases e1:sd ra with
 | none=>rw[e1] at h1;exact h1.elim
 | some d =>
  cases e2:at? ρ1 i with
  | none=>rw[e1,e2] at h1;exact h1.elim
  | some e =>
   rw[e1,e2] at h1;obtain⟨q1,q3⟩:=d1.one e1;obtain⟨y,hy,py⟩:=q1.peek l1 e2;exact⟨y,hy,hf B _ H1 d e x y _ Q q1 q3.peek py h1 fun s v H' hs hd'=>k s ρ1 v H' l1 hd'.mid hs⟩
theorem adp {op:Operator}{f:O2}{r:R2}{i:Nat}(ho:OpR X (binaryOp op) r) (hf:OpD X.K r f) (ha:PE X a (tVar i)) (hb:PD X b tb):PD X (.BinOp a op b pos) (d2s f i tb):=(aa6 ho ha hb).mono fun _ _ _ h=>ai5 hf h
theorem afp {op:Operator}{f:O2}{r:R2}(ho:OpR X (binaryOp op) r) (hf:OpD X.K r f) (ha:PD X a ta) (hb:PD X b tb):PD X (.BinOp a op b pos) (d2 f ta tb):=(aa6 ho ha hb).mono fun _ _ _ h=>ajc hf h
theorem pd_cmp {op:CmpOp}{f:O2}{r:R2}(ho:OpR X (compareOp op) r) (hf:OpD X.K r f) (ha:PD X a ta) (hb:PD X b tb) (hm:behindInMarks op b=false:=by first | exact ad4 _ | (with_unfolding_all rfl)):PD X (.Compare a [op] [b] pos) (d2 f ta tb) :=
 (awa ho ha hb hm).mono fun _ _ _ h=>ajc hf h
def tstB (t:TEd):TTd:=fun dk ρ Φ=>t dk ρ fun r ρ'=>match r with
 | .val (.bl b)=>Φ b ρ'
 | _=>False
theorem ag7 {t:TEd}{σ:St}{H:Hp}{Q:Bool->Hp->Prop}(h:dTt X.K (tstB t) σ H Q):dE X.K t σ H fun x H'=>∃ k,x = .bl k/\Q k H':=by
 obtain⟨B,ρ,T,Φ,hl,hd,ht,k⟩:=h;refine⟨B,ρ,T,_,hl,hd,ht,fun r ρ' v H' l1 d1 h1=>?_⟩;cases r with
 | no=>exact h1.elim
 | own d=>exact h1.elim
 | val d =>
  cases d with
  | bl b=>exact⟨b,d1.valAt.bl_inv,k b ρ' H' l1 d1.drop h1⟩
  | _=>exact h1.elim
theorem acg {op:CmpOp}{f:O2}{r:R2}{i:Nat}(ho:OpR X (compareOp op) r) (hf:OpD X.K r f) (ha:PE X a (tVar i)) (hb:PD X b tb) (hm:behindInMarks op b=false:=by first | exact ad4 _ | (with_unfolding_all rfl)):PDt X (.Compare a [op] [b] pos) (tstB (d2s f i tb)) :=
 (acj ho ha hb hm).mono fun σ H Q h=>ai5 hf (ag7 h)
theorem aen {op:CmpOp}{f:O2}{r:R2}{i:Nat}(ho:OpR X (compareOp op) r) (hf:OpD X.K r f) (ha:PD X a ta) (hb:PE X b (tVar i)) (hm:behindInMarks op b=false:=by first | exact ad4 _ | (with_unfolding_all rfl)):PDt X (.Compare a [op] [b] pos) (tstB (d2t f ta i)) :=
 (acj ho ha hb hm).mono fun σ H Q h=>as7 hf (ag7 h)
theorem aim {op:CmpOp}{f:O2}{r:R2}(ho:OpR X (compareOp op) r) (hf:OpD X.K r f) (ha:PD X a ta) (hb:PD X b tb) (hm:behindInMarks op b=false:=by first | exact ad4 _ | (with_unfolding_all rfl)):PDt X (.Compare a [op] [b] pos) (tstB (d2 f ta tb)) :=
 (acj ho ha hb hm).mono fun σ H Q h=>by
  have:=ag7 h;exact ajc hf this
end
section
variable {κ:Type} [DecidableEq κ]
def valD (kvs:List (κ×D)) (k:κ):Option D:=(kvs.find? fun kv=>decide (kv.1=k)).map (·.2)
def putD (kvs:List (κ×D)) (k:κ) (d:D):List (κ×D):=if kvs.any (fun kv=>decide (kv.1=k)) then kvs.map (fun kv=>if kv.1=k then (kv.1,d) else kv) else kvs++[(k,d)]
theorem ajj {k:κ}:valD ([]:List (κ×D)) k=none:=rfl
theorem aby {k j:κ}{d:D}{r:List (κ×D)}:valD ((j,d)::r) k=if j=k then some d else valD r k:=by
 unfold valD;rw[List.find?_cons];by_cases h:j=k<;>simp[h]
theorem agp (k:κ):∀ kvs:List (κ×D),(kvs.any fun kv=>decide (kv.1=k))=(valD kvs k).isSome
 | []=>rfl
 | (j,d)::r=>by
  rw[aby,List.any_cons,agp k r];by_cases h:j=k<;>simp[h]
theorem at0 (kvs:List (κ×D)) (k j:κ) (d:D):valD (putD kvs k d) j=if k=j then some d else valD kvs j:=by
 unfold putD;rw[agp];have hmap:∀ r:List (κ×D),valD (r.map fun kv=>if kv.1=k then (kv.1,d) else kv) j=if k=j then (valD r j).map (fun _=>d) else valD r j:=by
  intro r;induction r with
  | nil=>simp[ajj]
  | cons p r ih =>
   obtain⟨i,e⟩:=p;rw[List.map_cons];by_cases h:i=k
   ·subst h;simp only[if_true,aby,ih];by_cases z:i=j<;>simp[z]
   ·simp only[h,if_false,aby,ih];by_cases z:i=j
    ·subst z;simp[Ne.symm h]
    ·simp[z]
 have hsn:∀ r:List (κ×D),valD r k=none->valD (r++[(k,d)]) j=if k=j then some d else valD r j:=by
  intro r;induction r with
  | nil=>intro _;rw[List.nil_append,aby,ajj]
  | cons p r ih =>
   obtain⟨i,e⟩:=p;rw[aby];by_cases h:i=k
   ·simp[h]
   ·rw[if_neg h];intro hn;rw[List.cons_append,aby,ih hn,aby];by_cases z:i=j
    ·subst z;simp[Ne.symm h]
    ·simp[z]
 cases e:valD kvs k with
 | none=>simp only[Option.isSome_none,Bool.false_eq_true,if_false];exact hsn kvs e
 | some w =>
  simp only[Option.isSome_some,if_true,hmap];by_cases z:k=j
  ·subst z;simp[e]
  ·simp[z]
theorem amu (kvs:List (κ×D)) (k:κ) (d:D):(putD kvs k d).length<=kvs.length+1:=by
 unfold putD;split<;>simp
end
section
variable {κ:Type} [DecidableEq κ] {K:PySem.W.Frag}{A:Addr->Prop}{H:Hp}
theorem afh:∀ {ds:List (κ×D)}{kvs:List (κ×V)},ds.map (·.1)=kvs.map (·.1)->Reps K A H (ds.map (·.2)) (kvs.map (·.2))->∀ k,(∀ d,valD ds k=some d->∃ v,valV kvs k=some v/\Rep K A H d v)/\(valD ds k=none->valV kvs k=none)
 | [],[],_,_,k=>⟨fun d h=>by simp[ajj] at h,fun _=>rfl⟩
 | [],_::_,e,_,_=>by simp at e
 | _::_,[],e,_,_=>by simp at e
 | (i,d)::ds,(j,v)::kvs,e,r,k=>by
  simp only[List.map_cons,List.cons.injEq] at e;obtain⟨e1,e2⟩:=e;subst e1;cases r with
  | cons h r =>
   have ih:=afh e2 r k;rw[aby];by_cases z:i=k
   ·rw[if_pos z,ad3 z];exact⟨fun d' q=>by cases q;exact⟨v,rfl,h⟩,fun q=>by cases q⟩
   ·rw[if_neg z,ad0 z];exact ih
theorem ajb {ds:List (κ×D)}{kvs:List (κ×V)}(e:ds.map (·.1)=kvs.map (·.1)) (r:Reps K A H (ds.map (·.2)) (kvs.map (·.2))){k:κ}{d:D}{v:V}(h:Rep K A H d v) :
  (putD ds k d).map (·.1)=(putK kvs k v).map (·.1)/\Reps K A H ((putD ds k d).map (·.2)) ((putK kvs k v).map (·.2)):=by
 have ha:∀ (ds:List (κ×D)) (kvs:List (κ×V)),ds.map (·.1)=kvs.map (·.1)->(ds.any fun kv=>decide (kv.1=k))=kvs.any fun kv=>decide (kv.1=k):=by
  intro ds;induction ds with
  | nil=>intro kvs e;cases kvs with
   | nil=>rfl
   | cons _ _=>simp at e
  | cons p ds ih=>intro kvs e;cases kvs with
   | nil=>simp at e
   | cons q kvs =>
    simp only[List.map_cons,List.cons.injEq] at e;rw[List.any_cons,List.any_cons,ih kvs e.2,e.1]
 have hm:∀ (ds:List (κ×D)) (kvs:List (κ×V)),ds.map (·.1)=kvs.map (·.1)->Reps K A H (ds.map (·.2)) (kvs.map (·.2)) ->
   (ds.map fun kv=>if kv.1=k then (kv.1,d) else kv).map (·.1)=(kvs.map fun kv=>if kv.1=k then (kv.1,v) else kv).map (·.1) /\
   Reps K A H ((ds.map fun kv=>if kv.1=k then (kv.1,d) else kv).map (·.2)) ((kvs.map fun kv=>if kv.1=k then (kv.1,v) else kv).map (·.2)):=by
  intro ds;induction ds with
  | nil=>intro kvs e r;cases kvs with
   | nil=>exact⟨rfl,.nil⟩
   | cons _ _=>simp at e
  | cons p ds ih=>intro kvs e r;cases kvs with
   | nil=>simp at e
   | cons q kvs =>
    simp only[List.map_cons,List.cons.injEq] at e;cases r with
    | cons g r =>
     obtain⟨i1,i2⟩:=ih kvs e.2 r;obtain⟨i,d0⟩:=p;obtain⟨j,v0⟩:=q;obtain⟨rfl,e2⟩:=e;by_cases z:i=k
     ·simp only[List.map_cons,z,if_true];exact⟨by rw[i1],.cons h i2⟩
     ·simp only[List.map_cons,z,if_false];exact⟨by rw[i1],.cons g i2⟩
 unfold putD putK;rw[ha ds kvs e];by_cases z:(kvs.any fun kv=>decide (kv.1=k))=true
 ·rw[if_pos z,if_pos z];exact hm ds kvs e r
 ·rw[if_neg z,if_neg z];simp only[List.map_append,List.map_cons,List.map_nil];exact⟨by rw[e],r.append (.cons h .nil)⟩
end
section
variable {X:Cx}{K:PySem.W.Frag}
def auz (K:PySem.W.Frag):R2:=fun x y H Q=>∃ a b ys,x = .ref a/\y = .ref b/\SqT K H a []/\SqT K H b ys/\Q (.ref b) H
theorem ass:OpR X (binaryOp .Add) (auz X.K):=by
 intro pins s σ H x y v u Q I rx ry h;obtain⟨a,b,ys,rfl,rfl,ha,hb,q⟩:=h;cases rx;cases ry;obtain⟨its,r1,p1,_⟩:=I.tuple ha;obtain⟨its2,r2,p2,_⟩:=I.tuple hb;cases r1;obtain⟨⟨c1,dd,da,sl⟩,ho,hc,n,hd⟩:=id p1;obtain⟨⟨c2,dd2,da2,sl2⟩,ho2,hc2,n2,hd2⟩:=id p2;simp only at hc hd hc2 hd2;subst hc hd hc2 hd2;exact concat_meets ⟨_,ho,rfl⟩ ⟨_,ho2,rfl⟩ noFill_tuple_add seq_tuple_add PySem.F.slot_tuple_add PySem.F.entry_tuple_add (PySem.F.args_tuple_add_2 _ _)
  (tuple_addW0 a b _ _ n n2 dd dd2 sl sl2 (by simp)) ⟨ho,ho2,⟨.ref b,H,I,rfl,q⟩⟩
def rPlus (K:PySem.W.Frag):R2:=fun x y H Q=>(rI0 fun i j=>.int (i+j)) x y H Q\/(∃ i j,x = .str i/\y = .str j/\i.length+j.length<=sizeLine/\Q (.str (i++j)) H)\/rCat x y H Q\/rCatT K x y H Q\/auz K x y H Q
theorem abl:OpR X (binaryOp .Add) (rPlus X.K):=afk.or (ab4.or (aj0.or (avu.or ass)))
theorem ag9 {n:Nat}(h:n<=100000):n<=sizeLine:=Nat.le_trans h (by decide)
def fAdd:O2
 | .int i,.int j,Φ=>Φ (.val (.int (i+j)))
 | .str i,.str j,Φ=>i.length+j.length<=100000/\Φ (.val (.str (i++j)))
 | .lst xs,.lst ys,Φ=>xs.length+ys.length<=100000/\Φ (.own (.lst (xs++ys)))
 | .tup xs,.tup ys,Φ=>xs.length+ys.length<=100000/\Φ (.val (.tup (xs++ys)))
 | _,_,_=>False
theorem ab8:OpD K (rPlus K) fAdd:=by
 intro B L H d e x y Φ Q hd rx ry hf k;cases d<;>first | exact False.elim hf | skip<;>cases e<;>first | exact False.elim hf | skip
 ·cases rx;cases ry;exact .inl ⟨_,_,rfl,rfl,k _ _ H hf (hd.pushF (.int _))⟩
 ·cases rx;cases ry;exact .inr (.inl ⟨_,_,rfl,rfl,ag9 hf.1,k _ _ H hf.2 (hd.pushF (.str _))⟩)
 ·obtain⟨a,vs,rfl,h1,r1⟩:=rx.tup_inv;obtain⟨b,us,rfl,h2,r2⟩:=ry.tup_inv;have hl:vs.length+us.length<=100000:=by rw[← r1.length,← r2.length];exact hf.1
  by_cases z:vs=[]
  ·subst z;have:=r1.nil_iff.mp rfl;subst this;exact .inr (.inr (.inr (.inr ⟨a,b,us,rfl,rfl,SqT.of h1,SqT.of h2,k _ _ H hf.2 (hd.pushF ry)⟩)))
  ·refine .inr (.inr (.inr (.inl ⟨a,b,vs,us,rfl,rfl,SqT.of h1,SqT.of h2,z,ag9 hl,fun q=>?_,fun _ p hp=>k _ _ _ hf.2 (hd.tupF hp (r1.append r2))⟩)));subst q;have:=r2.nil_iff.mp rfl;subst this;exact k _ _ H hf.2 (by rw[List.append_nil];exact hd.pushF rx)
 ·obtain⟨a,vs,rfl,h1,r1⟩:=rx.lst_inv;obtain⟨b,us,rfl,h2,r2⟩:=ry.lst_inv;have hl:vs.length+us.length<=100000:=by rw[← r1.length,← r2.length];exact hf.1
  exact .inr (.inr (.inl ⟨a,b,vs,us,rfl,rfl,h1,h2,ag9 hl,fun p hp=>k _ _ _ hf.2 (hd.lstF hp (r1.append r2))⟩))
def fI (C:Int->Int->Prop) (g:Int->Int->D):O2
 | .int i,.int j,Φ=>C i j/\Φ (.val (g i j))
 | _,_,_=>False
theorem au3 {C C':Int->Int->Prop}{g:Int->Int->D}{g':Int->Int->V}(hC:∀ i j,C i j->C' i j) (hg:∀ A H i j,Rep K A H (g i j) (g' i j)):OpD K (rI C' g') (fI C g):=by
 intro B L H d e x y Φ Q hd rx ry hf k;cases d<;>first | exact False.elim hf | skip<;>cases e<;>first | exact False.elim hf | skip
 cases rx;cases ry;exact⟨_,_,rfl,rfl,hC _ _ hf.1,k _ _ H hf.2 (hd.pushF (hg _ _ _ _))⟩
def fI0 (g:Int->Int->D):O2
 | .int i,.int j,Φ=>Φ (.val (g i j))
 | _,_,_=>False
theorem al8 {g:Int->Int->D}{g':Int->Int->V}(hg:∀ A H i j,Rep K A H (g i j) (g' i j)):OpD K (rI0 g') (fI0 g):=by
 intro B L H d e x y Φ Q hd rx ry hf k;cases d<;>first | exact False.elim hf | skip<;>cases e<;>first | exact False.elim hf | skip
 cases rx;cases ry;exact⟨_,_,rfl,rfl,k _ _ H hf (hd.pushF (hg _ _ _ _))⟩
abbrev fSub:O2:=fI0 fun i j=>.int (i-j)
theorem od_sub:OpD K (rI0 fun i j=>.int (i-j)) fSub:=al8 fun _ _ _ _=>.int _
def au2:R2:=fun x y H Q=>(rI CMul fun i j=>.int (i*j)) x y H Q\/rRep x y H Q
theorem ajv:OpR X (binaryOp .Mult) au2:=afa.or op_rep
def fMul:O2
 | .int i,.int j,Φ=>((-(2 ^ 64)<i/\i<2 ^ 64)\/(-(2 ^ 64)<j/\j<2 ^ 64))/\Φ (.val (.int (i*j)))
 | .lst xs,.int k,Φ=>0<=k/\k<=1000/\xs.length<=100/\Φ (.own (.lst (List.replicate k.toNat xs).flatten))
 | _,_,_=>False
theorem anc {A:Addr->Prop}{H:Hp}{ds:List D}{vs:List V}(r:Reps K A H ds vs):∀ k:Nat,Reps K A H (List.replicate k ds).flatten (List.replicate k vs).flatten
 | 0=>.nil
 | k+1=>by rw[List.replicate_succ,List.replicate_succ,List.flatten_cons,List.flatten_cons];exact r.append (anc r k)
theorem apz:OpD K au2 fMul:=by
 intro B L H d e x y Φ Q hd rx ry hf k;cases d<;>first | exact False.elim hf | skip<;>cases e<;>first | exact False.elim hf | skip
 ·cases rx;cases ry;exact .inl ⟨_,_,rfl,rfl,hf.1,k _ _ H hf.2 (hd.pushF (.int _))⟩
 ·cases ry
  rename_i n
  obtain⟨a,vs,rfl,h1,r1⟩:=rx.lst_inv;obtain⟨k0,k1,hl,hf⟩:=hf;have hl':vs.length<=100:=by rw[← r1.length];exact hl
  refine .inr ⟨a,n,vs,rfl,rfl,h1,by omega,by omega,Nat.le_trans (Nat.mul_le_mul hl' (show n.toNat<=1000 by omega)) (by decide),fun p hp=>?_⟩;exact k _ _ _ hf (hd.lstF hp (anc r1 _))
theorem aw6 {j:Int}(h0:0<j) (h:j<2 ^ 64):j.natAbs.log2<9000:=by
 have:j.natAbs<2 ^ 64:=by omega
 exact Nat.lt_of_lt_of_le ((Nat.log2_lt (by omega)).mpr this) (by decide)
theorem as5:OpR X (binaryOp .FloorDiv) (rI (fun _ j=>0<j/\j<2 ^ 64) fun i j=>.int (i/j)):=opI fun i j _ _ _ _ _ hc q=>by
 refine floordiv_int (by omega) ?_ (.inl (PyProof.noPylong_of_log2 (aw6 hc.1 hc.2)));rw[Int.fdiv_eq_ediv_of_nonneg _ (by omega)];exact q
abbrev fDiv:O2:=fI (fun _ j=>0<j/\j<2 ^ 64) fun i j=>.int (i/j)
theorem od_div:OpD K (rI (fun _ j=>0<j/\j<2 ^ 64) fun i j=>.int (i/j)) fDiv:=au3 (fun _ _ h=>h) fun _ _ _ _=>.int _
abbrev fMod:O2:=fI (fun _ j=>0<j) fun i j=>.int (i%j)
theorem avm:OpD K (rI (fun _ j=>0<j) fun i j=>.int (i%j)) fMod:=au3 (fun _ _ h=>h) fun _ _ _ _=>.int _
abbrev fGt:O2:=fI0 fun i j=>.bl (decide (j<i))
theorem od_gt:OpD K (rI0 fun i j=>.bl (decide (j<i))) fGt:=al8 fun _ _ _ _=>.bl _
abbrev fGe:O2:=fI0 fun i j=>.bl (decide (j<=i))
theorem od_ge:OpD K (rI0 fun i j=>.bl (decide (j<=i))) fGe:=al8 fun _ _ _ _=>.bl _
end
def ae1:D->Option Key
 | .int i=>some (.inl i)
 | .str x=>some (.inr x)
 | _=>none
def keysOf:List D->Option (List Key)
 | []=>some []
 | d::ds=>match ae1 d,keysOf ds with
  | some k,some ks=>some (k::ks)
  | _,_=>none
def nb (neg b:Bool):Bool:=if neg then !b else b
section
variable {X:Cx}{K:PySem.W.Frag}{A:Addr->Prop}{H:Hp}
theorem aeg {d:D}{k:Key}{v:V}(h:ae1 d=some k) (r:Peek K A H d v):v=kV k:=by
 cases d<;>cases h
 ·exact r.int_inv
 ·exact r.str_inv
theorem ah3 {ds:List D}{ks:List Key}{vs:List V}(h:keysOf ds=some ks) (rs:Reps K A H ds vs):vs=ks.map kV:=by
 induction ds generalizing ks vs with
 | nil=>cases rs;cases h;rfl
 | cons d ds ih =>
  cases rs with
  | cons r rs =>
  have h:=(show (match ae1 d,keysOf ds with | some k,some ks=>some (k::ks) | _,_=>none)=some ks from h);cases e1:ae1 d with
  | none=>rw[e1] at h;cases h
  | some k =>
   cases e2:keysOf ds with
   | none=>rw[e1,e2] at h;cases h
   | some ks' =>
    rw[e1,e2] at h;cases h;rw[aeg e1 r.peek,ih e2 rs];rfl
def ao3:D->D->Option (Option D)
 | .dK kvs,d=>(ae1 d).map (valD kvs)
 | .dT kvs,.tup xs=>(keysOf xs).map (valD kvs)
 | _,_=>none
theorem aj3 {d e:D}{o:Option D}{x y:V}(h:ao3 d e=some o) (rx:Peek K A H d x) (ry:Peek K A H e y):∃ a w,x = .ref a/\DGet H a y w/\(∀ c,o=some c->∃ v,w=some v/\Rep K A H c v)/\(o=none->w=none):=by
 cases d with
 | dK kvs =>
  obtain⟨a,vs,rfl,h1,e1,r1⟩:=rx.dK_inv;obtain⟨k,hk,rfl⟩:=Option.map_eq_some_iff.mp h;rw[aeg hk ry];obtain⟨q1,q2⟩:=afh e1 r1 k;exact⟨a,_,rfl,DGet.k h1,fun c hc=>q1 c hc,q2⟩
 | dT kvs =>
  obtain⟨a,vs,rfl,h1,e1,r1⟩:=rx.dT_inv;cases e with
  | tup xs =>
   obtain⟨b,us,rfl,h2,r2⟩:=ry.tup_inv;obtain⟨k,hk,rfl⟩:=Option.map_eq_some_iff.mp h;rw[ah3 hk r2] at h2;obtain⟨q1,q2⟩:=afh e1 r1 k;exact⟨a,_,rfl,.inr ⟨vs,k,b,h1,rfl,h2,rfl⟩,fun c hc=>q1 c hc,q2⟩
  | _=>cases h
 | _=>cases h
def rGetD:R2:=fun x y H Q=>∃ a v,x = .ref a/\DGet H a y (some v)/\Q v H
theorem aw7 (hu:X.A.units+1<cLine):IxR X rGetD:=by
 intro value slice pins s σ H x y v u Q I rx ry h hs;obtain⟨a,w,rfl,g,q⟩:=h;cases rx;unfold subscriptTail;refine wpAny_bind ?_;rw[getitemInPython_of_ne (ags I g).not_modules];refine wpAny_bind (wpAny_specialOf (ags I g) PySem.F.slot_dict_getitem.lookup ?_);have fin:wpAny (model X.prog X.w) X.A (subscripted slice false (.ref a) u) (fun r s₃=>wpAny (model X.prog X.w) X.A (letTemporaryGo value (.ref a) r >>= fun _=>pure r) (EP X pins σ Q) X.xe s₃) X.xe s:=by
  rw[hs];exact wpAny_operating (aj9 hu I g ry fun w' s3 I3 rw'=>wpAny_bind (wpAny_letTemporaryGo (wpAny_pure ⟨w,H,I3,rw',q⟩)))
 first
  | exact wpAny_pure (wpAny_bind fin)
  | exact wpAny_bind (wpAny_pure (wpAny_bind fin))
  | exact wpAny_bind fin
def rIxA (K:PySem.W.Frag):R2:=fun x y H Q=>rIx K x y H Q\/rGetD x y H Q
theorem au8 (hu:X.A.units+1<cLine):IxR X (rIxA X.K):=ix_seq.or (aw7 hu)
def fIx:O2:=fun d e Φ=>match d,e with
 | .lst xs,.int i=>∃ c,atI xs i=some c/\Φ (.val c)
 | .tup xs,.int i=>∃ c,atI xs i=some c/\Φ (.val c)
 | .con xs,.int i=>∃ c,atI xs i=some c/\Φ (.val c)
 | .scr xs,.int i=>∃ c,atI xs i=some c/\Φ (.val c)
 | .str z,.int i=>z.length<=100000/\∃ c,atI z.cps.toList i=some c/\Φ (.val (.str ⟨#[c]⟩))
 | d,e=>∃ c,ao3 d e=some (some c)/\Φ (.val c)
theorem ajt {ds:List D}{vs:List V}{i:Int}{c:D}(r:Reps K A H ds vs) (h:atI ds i=some c):∃ v,atI vs i=some v/\Rep K A H c v:=by
 unfold atI at h ⊢;rw[← r.length];cases e:ixN ds.length i with
 | none=>rw[e] at h;cases h
 | some j =>
  rw[e] at h;obtain⟨v,h1,h2⟩:=r.get (i:=j) h;exact⟨v,h1,h2⟩
theorem od_ix:OpD K (rIxA K) fIx:=by
 intro B L H d e x y Φ Q hd rx ry hf k;have dct:(∃ c,ao3 d e=some (some c)/\Φ (.val c))->rIxA K x y H Q:=fun ⟨c,hc,hf⟩=>by
  obtain⟨a,w,rfl,g,h1,_⟩:=aj3 hc rx ry;obtain⟨v,rfl,rv⟩:=h1 c rfl;exact .inr ⟨a,v,rfl,g,k _ _ H hf (hd.pushF rv)⟩
 cases d<;>first | exact dct hf | skip
 ·cases e<;>first | exact dct hf | skip
  cases ry;cases rx;obtain⟨hz,c,hc,hf⟩:=hf;exact .inl (.inr (.inr ⟨_,_,c,rfl,rfl,ag9 hz,hc,k _ _ H hf (hd.pushF (.str _))⟩))
 ·obtain⟨a,vs,rfl,h1,r1⟩:=rx.tup_inv;cases e<;>first | exact dct hf | skip
  cases ry;obtain⟨c,hc,hf⟩:=hf;obtain⟨v,hv,rv⟩:=ajt r1 hc;exact .inl (.inr (.inl ⟨a,vs,_,v,rfl,rfl,SqT.of h1,hv,k _ _ H hf (hd.pushF rv)⟩))
 ·obtain⟨a,vs,rfl,h1,r1⟩:=rx.lst_inv;cases e<;>first | exact dct hf | skip
  cases ry;obtain⟨c,hc,hf⟩:=hf;obtain⟨v,hv,rv⟩:=ajt r1 hc;exact .inl (.inl ⟨a,vs,_,v,rfl,rfl,SqL.of h1,hv,k _ _ H hf (hd.pushF rv)⟩)
 ·obtain⟨a,vs,rfl,h1,r1⟩:=rx.scr_inv;cases e<;>first | exact dct hf | skip
  cases ry;obtain⟨c,hc,hf⟩:=hf;obtain⟨v,hv,rv⟩:=ajt r1 hc;exact .inl (.inl ⟨a,vs,_,v,rfl,rfl,h1.sqL,hv,k _ _ H hf (hd.pushF rv)⟩)
 ·obtain⟨a,vs,rfl,h1,r1⟩:=rx.con_inv;cases e<;>first | exact dct hf | skip
  cases ry;obtain⟨c,hc,hf⟩:=hf;obtain⟨v,hv,rv⟩:=ajt r1 hc;exact .inl (.inr (.inl ⟨a,vs,_,v,rfl,rfl,h1.sqT,hv,k _ _ H hf (hd.pushF rv)⟩))
theorem ag1 {a b:Expr}{ta tb:TEd}{pos:Pos}(hu:X.A.units+1<cLine) (ha:PD X a ta) (hb:PD X b tb) (hs:ame b:=by exact fun _ _=>rfl):PD X (.Subscript a b pos) (d2 fIx ta tb) :=
 (acq (au8 hu) ha hb hs).mono fun _ _ _ h=>ajc od_ix h
def rInD (neg:Bool):R2:=fun y x H Q=>∃ a o,x = .ref a/\DGet H a y o/\Q (.bl (nb neg o.isSome)) H
theorem op_inD (hu:X.A.units+1<cLine):OpR X (compareOp .In) (rInD false):=by
 intro pins s σ H x y v u Q I rx ry h;obtain⟨a,o,rfl,g,q⟩:=h;cases ry;exact d_in hu I g rx fun s3 I3=>⟨.bl o.isSome,H,I3,rfl,q⟩
theorem ase (hu:X.A.units+1<cLine):OpR X (compareOp .NotIn) (rInD true):=by
 intro pins s σ H x y v u Q I rx ry h;obtain⟨a,o,rfl,g,q⟩:=h;cases ry;exact aq9 hu I g rx fun s3 I3=>⟨.bl (!o.isSome),H,I3,rfl,q⟩
def rInS (neg:Bool):R2:=fun x y H Q=>∃ i j,x = .str i/\y = .str j/\Q (.bl (nb neg (!(Builtin.Str.occurrences j i 0 j.length 1).isEmpty))) H
def rInA (K:PySem.W.Frag) (neg:Bool):R2:=fun x y H Q=>rIn K neg x y H Q\/rInS neg x y H Q\/rInD neg x y H Q
theorem avk (hu:X.A.units+1<cLine):OpR X (compareOp .In) (rInA X.K false):=agt.or ((show OpR X (compareOp .In) (rInS false) from arn).or (op_inD hu))
theorem adv (hu:X.A.units+1<cLine):OpR X (compareOp .NotIn) (rInA X.K true):=ak2.or ((show OpR X (compareOp .NotIn) (rInS true) from aln).or (ase hu))
def ai4:D->Option V
 | .non=>some .non
 | .bl b=>some (.bl b)
 | .int i=>some (.int i)
 | .str x=>some (.str x)
 | _=>none
def af4:List D->Option (List V)
 | []=>some []
 | d::ds=>match ai4 d,af4 ds with
  | some v,some vs=>some (v::vs)
  | _,_=>none
theorem aia {α:Type}{f:α->D}{g:α->V}(h:∀ x,ai4 (f x)=some (g x)):∀ xs:List α,af4 (xs.map f)=some (xs.map g)
 | []=>rfl
 | x::xs=>by
  show (match ai4 (f x),af4 (xs.map f) with | some v,some vs=>some (v::vs) | _,_=>none)=_;rw[h x,aia h xs];rfl
theorem afq {d:D}{u v:V}(h:ai4 d=some u) (r:Peek K A H d v):v=u/\adj u=true:=by
 cases d<;>cases h<;>cases r<;>exact⟨rfl,rfl⟩
theorem aog {ds:List D}{us vs:List V}(h:af4 ds=some us) (rs:Reps K A H ds vs):vs=us/\us.all adj=true:=by
 induction ds generalizing us vs with
 | nil=>cases rs;cases h;exact⟨rfl,rfl⟩
 | cons d ds ih =>
  cases rs with
  | cons r rs =>
  have h:=(show (match ai4 d,af4 ds with | some v,some vs=>some (v::vs) | _,_=>none)=some us from h);cases e1:ai4 d with
  | none=>rw[e1] at h;cases h
  | some k =>
   cases e2:af4 ds with
   | none=>rw[e1,e2] at h;cases h
   | some ks' =>
    rw[e1,e2] at h;cases h;obtain⟨h1,h2⟩:=afq e1 r.peek;obtain⟨h3,h4⟩:=ih e2 rs;exact⟨by rw[h1,h3],by rw[List.all_cons,h2,h4];rfl⟩
def fInL (neg:Bool) (d:D) (xs:List D) (Φ:Sl->Prop):Prop:=∃ v vs,ai4 d=some v/\af4 xs=some vs/\Φ (.val (.bl (nb neg (inV v vs))))
def fIn (neg:Bool):O2:=fun d e Φ=>match e with
 | .lst xs=>fInL neg d xs Φ
 | .tup xs=>fInL neg d xs Φ
 | .con xs=>fInL neg d xs Φ
 | .str j=>∃ i,d = .str i/\Φ (.val (.bl (nb neg (!(Builtin.Str.occurrences j i 0 j.length 1).isEmpty))))
 | e=>∃ o,ao3 e d=some o/\Φ (.val (.bl (nb neg o.isSome)))
theorem alg (neg:Bool):OpD K (rInA K neg) (fIn neg):=by
 intro B L H d e x y Φ Q hd rx ry hf k;have seq:∀ (a:Addr) (xs:List D) (us:List V),fInL neg d xs Φ->y = .ref a->(SqL K H a us\/SqT K H a us)->Reps K (Al B (aaf L)) H xs us->rInA K neg x y H Q:=by
  rintro a xs us ⟨v,vs,h1,h2,h3⟩ rfl hs r;obtain⟨q1,q2⟩:=afq h1 rx;obtain⟨q3,q4⟩:=aog h2 r;subst q1 q3;exact .inl ⟨a,us,rfl,hs,q2,q4,k _ _ H h3 (hd.pushF (.bl _))⟩
 have dct:(∃ o,ao3 e d=some o/\Φ (.val (.bl (nb neg o.isSome))))->rInA K neg x y H Q:=fun ⟨o,ho,hf⟩=>by
  obtain⟨a,w,rfl,g,h1,h2⟩:=aj3 ho ry rx;have e:o.isSome=w.isSome:=by
   cases o with
   | none=>rw[h2 rfl];rfl
   | some c=>obtain⟨v,rfl,_⟩:=h1 c rfl;rfl
  exact .inr (.inr ⟨a,w,rfl,g,by rw[← e];exact k _ _ H hf (hd.pushF (.bl _))⟩)
 cases e<;>first | exact dct hf | skip
 ·obtain⟨i,rfl,hf⟩:=hf;cases rx;cases ry;exact .inr (.inl ⟨_,_,rfl,rfl,k _ _ H hf (hd.pushF (.bl _))⟩)
 ·obtain⟨a,vs,e1,h1,r1⟩:=ry.tup_inv;exact seq a _ vs hf e1 (.inr (SqT.of h1)) r1
 ·obtain⟨a,vs,e1,h1,r1⟩:=ry.lst_inv;exact seq a _ vs hf e1 (.inl (SqL.of h1)) r1
 ·obtain⟨a,vs,e1,h1,r1⟩:=ry.con_inv;exact seq a _ vs hf e1 (.inr h1.sqT) r1
end
mutual
def py:D->PyData
 | .non=>.none
 | .bl b=>.bool b
 | .int i=>.int i
 | .str x=>.str x
 | .tup xs=>.tuple (pyL xs)
 | .lst xs=>.list (pyL xs)
 | .con xs=>.tuple (pyL xs)
 | .scr xs=>.list (pyL xs)
 | _=>.none
def pyL:List D->List PyData
 | []=>[]
 | d::ds=>py d::pyL ds
end
mutual
def layD:D->Bool
 | .non=>true
 | .bl _=>true
 | .int _=>true
 | .str x=>PyData.strOk x
 | .tup xs=>layL xs
 | .lst xs=>layL xs
 | .con xs=>layL xs
 | .scr xs=>layL xs
 | _=>false
def layL:List D->Bool
 | []=>true
 | d::ds=>layD d&&layL ds
end
section
variable {X:Cx}{K:PySem.W.Frag}{A:Addr->Prop}{H:Hp}
mutual
theorem aqt:∀ {d:D}{v:V},Rep K A H d v->layD d=true->DatV K H v (py d)
 | _,_,.non,_=>.non
 | _,_,.bl b,_=>.bl b
 | _,_,.int i,_=>.int i
 | _,_,.str x,_=>.str x
 | _,_,.raw v,e=>by simp[layD] at e
 | _,_,.tup h r,e=>.tup (SqT.of h) (aeo r (by simpa [layD] using e))
 | _,_,.con h r,e=>.tup h.sqT (aeo r (by simpa [layD] using e))
 | _,_,.lst _ h r,e=>.lst (SqL.of h) (aeo r (by simpa [layD] using e))
 | _,_,.scr h r,e=>.lst h.sqL (aeo r (by simpa [layD] using e))
 | _,_,.dK _ _ _ _,e=>by simp[layD] at e
 | _,_,.dT _ _ _ _,e=>by simp[layD] at e
theorem aeo:∀ {ds:List D}{vs:List V},Reps K A H ds vs->layL ds=true->DatVs K H vs (pyL ds)
 | _,_,.nil,_=>.nil
 | _,_,.cons h r,e=>by
  rw[layL,Bool.and_eq_true] at e;exact .cons (aqt h e.1) (aeo r e.2)
end
theorem ano {d:D}{v:V}(h:Peek K A H d v) (e:layD d=true):DatV K H v (py d):=by
 cases d with
 | lst _=>obtain⟨a,vs,rfl,h,r⟩:=h.lst_inv;exact .lst (SqL.of h) (aeo r (by simpa [layD] using e))
 | dK _=>simp[layD] at e
 | dT _=>simp[layD] at e
 | _=>exact aqt h e
mutual
theorem amn:∀ {d:D},layD d=true->(py d).canLay0=true
 | .non,_=>rfl
 | .bl _,_=>rfl
 | .int _,_=>rfl
 | .str x,e=>by simpa [py,PyData.canLay0,layD] using e
 | .tup xs,e=>by simp only[py,PyData.canLay0];exact aff (by simpa [layD] using e)
 | .con xs,e=>by simp only[py,PyData.canLay0];exact aff (by simpa [layD] using e)
 | .lst xs,e=>by simp only[py,PyData.canLay0];exact aff (by simpa [layD] using e)
 | .scr xs,e=>by simp only[py,PyData.canLay0];exact aff (by simpa [layD] using e)
 | .raw _,e=>by simp[layD] at e
 | .dK _,e=>by simp[layD] at e
 | .dT _,e=>by simp[layD] at e
theorem aff:∀ {ds:List D},layL ds=true->PyData.canLayAll0 (pyL ds)=true
 | [],_=>rfl
 | d::ds,e=>by
  rw[layL,Bool.and_eq_true] at e;simp only[pyL,PyData.canLayAll0,amn e.1,aff e.2,Bool.and_self]
end
def axa (v:Bool):R2:=fun x y H Q=>∃ (a b:Addr) (kvs kws:List (Key×V)),x = .ref a/\y = .ref b/\H a=some (.dK kvs)/\H b=some (.dK kws)/\kvs.length=kws.length /\
 (∀ p∈kvs,∃ w,valV kws p.1=some w/\adj p.2=true/\adj w=true/\eqV p.2 w=true)/\Q (.bl v) H
theorem aiq {A:Around}{s:Shared}{kws:List (Key×V)}{kb:List (Key×Value)}(rb:KV kws kb):∀ (r:List (Key×V)) (ka:List (Key×Value)),KV r ka ->
  (∀ p∈r,∃ w,valV kws p.1=some w/\adj p.2=true/\adj w=true/\eqV p.2 w=true)->PySem.W.KeqHits A s kb ka true
 | [],_,.nil,_=>.nil
 | (k,v)::r,(k',v')::ka,.cons ⟨e,rv⟩ h2,hf=>by
  have e:k=k':=e;subst e;obtain⟨w,hw,f1,f2,f3⟩:=hf (k,v) List.mem_cons_self;have hr:=rb.val k;rw[hw] at hr;obtain⟨y,ey,ry⟩:=hr.some_of;have hE:SeqAt.EqAt A s v' y (eqV v w):=aqb rv ry f1 f2;rw[f3] at hE;have:=PySem.W.KeqHits.hit ey hE (aiq rb r ka h2 fun p hp=>hf p (List.mem_cons_of_mem _ hp));rw[Bool.true_and] at this;exact this
theorem axt (hu:X.A.units<cLine):OpR X (compareOp .Eq) (axa true):=by
 intro pins s σ H x y v u Q I rx ry h;obtain⟨a,b,kvs,kws,rfl,rfl,h1,h2,hl,hf,q⟩:=h;cases rx;cases ry;obtain⟨z1,d1,va,ra,da⟩:=agc I.hok h1;obtain⟨z2,d2,vb,rb,db⟩:=agc I.hok h2;have hl:va.length=vb.length:=by rw[← ra.length,← rb.length];exact hl
 refine PySem.W.keq_eq d1 d2 da db hu (fun _=>aiq rb kvs va ra hf) ⟨.bl _,H,I,rfl,?_⟩;rw[hl];simpa using q
theorem aw9 (hu:X.A.units<cLine):OpR X (compareOp .NotEq) (axa false):=by
 intro pins s σ H x y v u Q I rx ry h;obtain⟨a,b,kvs,kws,rfl,rfl,h1,h2,hl,hf,q⟩:=h;cases rx;cases ry;obtain⟨z1,d1,va,ra,da⟩:=agc I.hok h1;obtain⟨z2,d2,vb,rb,db⟩:=agc I.hok h2;have hl:va.length=vb.length:=by rw[← ra.length,← rb.length];exact hl
 refine PySem.W.keq_ne d1 d2 da db hu (fun _=>aiq rb kvs va ra hf) ⟨.bl _,H,I,rfl,?_⟩;rw[hl];simpa using q
def asg (neg:Bool):R2:=fun x y H Q=>scal x y=true/\Q (.bl (nb neg (decide (x=y)))) H
def rEqA (K:PySem.W.Frag) (neg:Bool):R2:=fun x y H Q=>asg neg x y H Q\/am3 K neg x y H Q\/axa (!neg) x y H Q\/rEqD K neg x y H Q
theorem aqn (hu:X.A.units+64<cLine):OpR X (compareOp .Eq) (rEqA X.K false):=(show OpR X (compareOp .Eq) (asg false) from ap8).or ((agk hu).or ((axt (by omega)).or (op_eqD hu)))
theorem aut (hu:X.A.units+64<cLine):OpR X (compareOp .NotEq) (rEqA X.K true):=(show OpR X (compareOp .NotEq) (asg true) from axr).or ((ati hu).or ((aw9 (by omega)).or (op_neD hu)))
def SameK (xs ys:List (Key×D)):Prop:=xs.length=ys.length/\∀ p∈xs,∃ e v w,valD ys p.1=some e/\ai4 p.2=some v/\ai4 e=some w/\eqV v w=true
def fEq (neg:Bool):O2:=fun d e Φ=>match d,e with
 | .int i,.int j=>Φ (.val (.bl (nb neg (decide (i=j)))))
 | .str i,.str j=>Φ (.val (.bl (nb neg (decide (i=j)))))
 | .bl i,.bl j=>Φ (.val (.bl (nb neg (decide (i=j)))))
 | .lst xs,.lst []=>Φ (.val (.bl (nb neg xs.isEmpty)))
 | .dK xs,.dK ys=>SameK xs ys/\Φ (.val (.bl (!neg)))
 | d,e=>layD d=true/\layD e=true/\min (py d).depth (py e).depth<=60/\Φ (.val (.bl (nb neg (PyData.eqv (py d) (py e)))))
theorem aru {xs ys:List (Key×D)}{kvs kws:List (Key×V)}(h:SameK xs ys) (e1:xs.map (·.1)=kvs.map (·.1)) (r1:Reps K A H (xs.map (·.2)) (kvs.map (·.2))) (e2:ys.map (·.1)=kws.map (·.1)) (r2:Reps K A H (ys.map (·.2)) (kws.map (·.2))) :
  kvs.length=kws.length/\∀ p∈kvs,∃ w,valV kws p.1=some w/\adj p.2=true/\adj w=true/\eqV p.2 w=true:=by
 refine⟨by have a:=congrArg List.length e1;have b:=congrArg List.length e2;have c:=h.1;simp only[List.length_map] at a b;omega,fun p hp=>?_⟩;have:∀ (xs:List (Key×D)) (kvs:List (Key×V)),xs.map (·.1)=kvs.map (·.1)->Reps K A H (xs.map (·.2)) (kvs.map (·.2))->p∈kvs->∃ q∈xs,q.1=p.1/\Rep K A H q.2 p.2:=by
  intro xs;induction xs with
  | nil=>intro kvs e _ hp;cases kvs with
   | nil=>cases hp
   | cons _ _=>simp at e
  | cons q xs ih=>intro kvs e r hp;cases kvs with
   | nil=>cases hp
   | cons k kvs =>
    simp only[List.map_cons,List.cons.injEq] at e;cases r with
    | cons g r =>
     rcases List.mem_cons.mp hp with z | z
     ·subst z;exact⟨q,List.mem_cons_self,e.1,g⟩
     ·obtain⟨q',h1,h2⟩:=ih kvs e.2 r z;exact⟨q',List.mem_cons_of_mem _ h1,h2⟩
 obtain⟨q,hq,eq1,rq⟩:=this xs kvs e1 r1 hp;obtain⟨e,v,w,h1,h2,h3,h4⟩:=h.2 q hq;rw[eq1] at h1;obtain⟨w',hw,rw'⟩:=(afh e2 r2 p.1).1 e h1;obtain⟨z1,z2⟩:=afq h2 rq.peek;obtain⟨z3,z4⟩:=afq h3 rw'.peek;subst z1 z3;exact⟨w',hw,z2,z4,h4⟩
theorem ar6 (neg:Bool):OpD K (rEqA K neg) (fEq neg):=by
 intro B L H d e x y Φ Q hd rx ry hf k;unfold fEq at hf;split at hf
 ·cases rx;cases ry
  rename_i i j
  have e1:decide (V.int i=V.int j)=decide (i=j):=by simp
  exact .inl ⟨rfl,by rw[e1];exact k _ _ H hf (hd.pushF (.bl _))⟩
 ·cases rx;cases ry
  rename_i i j
  have e1:decide (V.str i=V.str j)=decide (i=j):=by simp
  exact .inl ⟨rfl,by rw[e1];exact k _ _ H hf (hd.pushF (.bl _))⟩
 ·cases rx;cases ry
  rename_i i j
  have e1:decide (V.bl i=V.bl j)=decide (i=j):=by simp
  exact .inl ⟨rfl,by rw[e1];exact k _ _ H hf (hd.pushF (.bl _))⟩
 ·rename_i xs
  obtain⟨a,vs,rfl,h1,r1⟩:=rx.lst_inv;obtain⟨b,us,rfl,h2,r2⟩:=ry.lst_inv;cases r2;have e1:xs.isEmpty=vs.isEmpty:=by cases r1<;>rfl
  refine .inr (.inl ⟨a,b,vs,rfl,rfl,SqL.of h1,SqL.of h2,?_⟩);rw[← e1];exact k _ _ H hf (hd.pushF (.bl _))
 ·obtain⟨a,kvs,rfl,h1,e1,r1⟩:=rx.dK_inv;obtain⟨b,kws,rfl,h2,e2,r2⟩:=ry.dK_inv;obtain⟨q1,q2⟩:=aru hf.1 e1 r1 e2 r2;exact .inr (.inr (.inl ⟨a,b,kvs,kws,rfl,rfl,h1,h2,q1,q2,k _ _ H hf.2 (hd.pushF (.bl _))⟩))
 ·obtain⟨l1,l2,dp,hf⟩:=hf;exact .inr (.inr (.inr ⟨_,_,ano rx l1,ano ry l2,amn l1,amn l2,dp,k _ _ H hf (hd.pushF (.bl _))⟩))
end
end L2
namespace L2
open PySem PySem.Spec PyProof.Rows Lw
def cutD (xs:List D) (lo hi:Option Int):List D:=(xs.drop (HT.sIx xs.length 0 lo)).take (HT.sIx xs.length xs.length hi-HT.sIx xs.length 0 lo)
def pt (o:Option TEd):List Addr->List Sl->(Option Int->List Sl->Prop)->Prop:=fun dk ρ k=>match o with
 | none=>k none ρ
 | some t=>t dk ρ fun r ρ'=>match r with
  | .val (.int i)=>k (some i) ρ'
  | _=>False
def asn (K:PySem.W.Frag):Option TEd->TO
 | none=>aq5
 | some t=>tPart (dE K t)
abbrev O3:=D->Option Int->Option Int->(Sl->Prop)->Prop
def dSlS (f:O3) (i:Nat) (lo hi:Option TEd):TEd:=fun dk ρ Φ=>(at? ρ i).isSome=true/\pt lo dk ρ fun l ρ2=>pt hi dk ρ2 fun u ρ3=>match at? ρ3 i with
 | some d=>f d l u fun r=>Φ r ρ3
 | none=>False
abbrev R3:=V->Option Int->Option Int->Hp->VK->Prop
def SlD (K:PySem.W.Frag) (r:R3) (f:O3):Prop:=∀ (B:Bs) (L:Ents) (H:Hp) (d:D) (lo hi:Option Int) (x:V) (Φ:Sl->Prop) (Q:VK),DS K B L H->Peek K (Al B (aaf L)) H d x->f d lo hi Φ ->
 (∀ s v H',Φ s->DS K B ((s,some v)::L) H'->Q v H')->r x lo hi H Q
section
variable {X:Cx}{K:PySem.W.Frag}{a b c:Expr}{ta tb tc:TEd}{pos p2:Pos}{lo hi:Option Expr}
theorem arm {o:Option TEd}{B:Bs}{ρ:List Sl}{σ:St}{T:Ents}{H:Hp}{k:Option Int->List Sl->Prop}{Q:Option Int->Hp->Prop}(hl:ρ.length=σ.length) (hd:DS K B (ρ.zip σ++T) H) (h:pt o B.dk ρ k)
  (hk:∀ i ρ' H',ρ'.length=σ.length->DS K B (ρ'.zip σ++T) H'->k i ρ'->Q i H'):asn K o σ H Q:=by
 cases o with
 | none=>exact hk none ρ H hl hd h
 | some t =>
  refine⟨B,ρ,T,_,hl,hd,h,fun r ρ' v H' l1 d1 h1=>?_⟩;cases r with
  | no=>exact h1.elim
  | own d=>exact h1.elim
  | val d =>
   cases d with
   | int i=>exact⟨i,d1.valAt.int_inv,hk (some i) ρ' H' l1 d1.drop h1⟩
   | _=>exact h1.elim
theorem po_n:PO X none (asn X.K none):=ahg
theorem po_s {e:Expr}{t:TEd}(h:PD X e t):PO X (some e) (asn X.K (some t)):=ahf h
theorem af3 {f:O3}{r:R3}{ol oh:Option TEd}{i:Nat}(hr:SlR X r) (hf:SlD X.K r f) (ha:PE X a (tVar i)) (h1:PO X lo (asn X.K ol)) (h2:PO X hi (asn X.K oh)):PD X (.Subscript a (.Slice lo hi none p2) pos) (dSlS f i ol oh) :=
 (afd hr ha h1 h2).mono fun σ H Q hq0=>hq0.elim fun B ρ T Φ hl hd ⟨hi',ht⟩ k=>by
  obtain⟨d0,h0⟩:=Option.isSome_iff_exists.mp hi';obtain⟨x,hx,_⟩:=hd.peek hl h0;refine⟨x,hx,arm hl hd ht fun l ρ2 H2 l2 d2 q2=>arm l2 d2 q2 fun u ρ3 H3 l3 d3 q3=>?_⟩;cases e1:at? ρ3 i with
  | none=>rw[e1] at q3;exact q3.elim
  | some d =>
   rw[e1] at q3;obtain⟨x',hx',px⟩:=d3.peek l3 e1;rw[hx] at hx';cases hx';exact hf B _ H3 d l u x _ Q d3 px q3 fun s v H' hs hd'=>k s ρ3 v H' l3 hd'.mid hs
def rSlA (K:PySem.W.Frag):R3:=fun x lo hi H Q=>rSlL K x lo hi H Q\/rSlT K x lo hi H Q\/rSlS x lo hi H Q
theorem aga:SlR X (rSlA X.K):=al0.or (sl_tup.or apx)
def fSl:O3
 | .lst xs,lo,hi,Φ=>Φ (.own (.lst (cutD xs lo hi)))
 | .scr xs,lo,hi,Φ=>Φ (.own (.lst (cutD xs lo hi)))
 | .tup xs,lo,hi,Φ=>¬ (HT.sIx xs.length 0 lo=0/\HT.sIx xs.length xs.length hi=xs.length)/\Φ (.val (.tup (cutD xs lo hi)))
 | .str z,lo,hi,Φ=>z.length<=100000/\Φ (.val (.str (cutS z lo hi)))
 | _,_,_,_=>False
theorem ajg {A:Addr->Prop}{H:Hp}{ds:List D}{vs:List V}(r:Reps K A H ds vs) (lo hi:Option Int):Reps K A H (cutD ds lo hi) (cutV vs lo hi):=by
 unfold cutD cutV;rw[r.length];exact (r.drop _).take _
theorem aki:SlD K (rSlA K) fSl:=by
 intro B L H d lo hi x Φ Q hd rx hf k;cases d<;>first | exact False.elim hf | skip
 ·cases rx;exact .inr (.inr ⟨_,rfl,ag9 hf.1,k _ _ _ hf.2 (hd.pushF (.str _))⟩)
 ·obtain⟨a,vs,rfl,h1,r1⟩:=rx.tup_inv;exact .inr (.inl ⟨a,vs,rfl,SqT.of h1,by rw[← r1.length];exact hf.1,fun p hp=>k _ _ _ hf.2 (hd.tupF hp (ajg r1 lo hi))⟩)
 ·obtain⟨a,vs,rfl,h1,r1⟩:=rx.lst_inv;exact .inl ⟨a,vs,rfl,SqL.of h1,fun p hp=>k _ _ _ hf (hd.lstF hp (ajg r1 lo hi))⟩
 ·obtain⟨a,vs,rfl,h1,r1⟩:=rx.scr_inv;exact .inl ⟨a,vs,rfl,h1.sqL,fun p hp=>k _ _ _ hf (hd.lstF hp (ajg r1 lo hi))⟩
abbrev O1:=D->(Sl->Prop)->Prop
abbrev R1:=V->Hp->VK->Prop
def UnD (K:PySem.W.Frag) (r:R1) (f:O1):Prop:=∀ (B:Bs) (L:Ents) (H:Hp) (d:D) (x:V) (Φ:Sl->Prop) (Q:VK),DS K B L H->Peek K (Al B (aaf L)) H d x->f d Φ->(∀ s v H',Φ s->DS K B ((s,some v)::L) H'->Q v H')->r x H Q
def d1 (f:O1) (ta:TEd):TEd:=fun dk ρ Φ=>ta dk ρ fun ra ρ1=>match sd ra with
 | some d=>f d fun r=>Φ r ρ1
 | none=>False
theorem awr {f:O1}{r:R1}(hf:UnD X.K r f){σ:St}{H:Hp}{Q:VK}(h:dE X.K (d1 f ta) σ H Q):dE X.K ta σ H fun x H1=>r x H1 Q:=by
 obtain⟨B,ρ,T,Φ,hl,hd,ht,k⟩:=h;refine⟨B,ρ,T,_,hl,hd,ht,fun ra ρ1 x H1 l1 d1 h1=>?_⟩;cases e1:sd ra with
 | none=>rw[e1] at h1;exact h1.elim
 | some d =>
  rw[e1] at h1;obtain⟨q1,q2⟩:=d1.one e1;exact hf B _ H1 d x _ Q q1 q2.peek h1 fun s v H' hs hd'=>k s ρ1 v H' l1 hd'.mid hs
def fNeg:O1
 | .int i,Φ=>Φ (.val (.int (-i)))
 | _,_=>False
theorem pd_neg (ha:PD X a ta):PD X (.UnaryOp .USub a pos) (d1 fNeg ta):=(pe_un un_neg ha).mono fun _ _ _ h=>awr (f:=fNeg) (fun B L H d x Φ Q hd rx hf k=>by
 cases d<;>first | exact False.elim hf | skip
 cases rx;exact⟨_,rfl,k _ _ H hf (hd.pushF (.int _))⟩) h
def truD:D->Option Bool
 | .non=>some false
 | .bl b=>some b
 | .int i=>some (i != 0)
 | .str x=>some ((x.length:Int) != 0)
 | .lst xs=>some (!xs.isEmpty)
 | .tup xs=>some (!xs.isEmpty)
 | .dK xs=>some (!xs.isEmpty)
 | _=>none
def strS:D->Bool
 | .str x=>decide (x.length<=100000)
 | _=>true
theorem atm {A:Addr->Prop}{H:Hp}{d:D}{x:V}{k:Bool}(h:Peek K A H d x) (e:truD d=some k) (hs:strS d=true):TruV K x H k:=by
 cases d<;>simp only[truD,reduceCtorEq,Option.some.injEq] at e<;>subst e
 ·have:=h.non_inv;subst this;rfl
 ·have:=h.bl_inv;subst this;rfl
 ·have:=h.int_inv;subst this;rfl
 ·have:=h.str_inv;subst this;exact⟨ag9 (of_decide_eq_true hs),rfl⟩
 ·obtain⟨a,vs,rfl,h,r⟩:=h.tup_inv;exact .inr (.inl ⟨vs,SqT.of h,by cases r<;>rfl⟩)
 ·obtain⟨a,vs,rfl,h,r⟩:=h.lst_inv;exact .inl ⟨vs,SqL.of h,by cases r<;>rfl⟩
 ·rename_i kvs
  obtain⟨a,vs,rfl,h,e,r⟩:=h.dK_inv;refine .inr (.inr ⟨vs,h,?_⟩);cases kvs<;>cases vs<;>simp at e ⊢
def tst (t:TEd):TTd:=fun dk ρ Φ=>t dk ρ fun r ρ'=>match sd r with
 | some d=>strS d=true/\∃ b,truD d=some b/\Φ b ρ'
 | none=>False
theorem pdt_v (ha:PD X a ta) (he:∀ whole,isTrue a X.env whole=(do let v ← whole;standAt a.pos;holding [v] (truthy v)):=by intro _;rfl):PDt X a (tst ta) :=
 (atc ha he).mono fun σ H Q hq0=>hq0.elim fun B ρ T Φ hl hd ht k=>⟨B,ρ,T,_,hl,hd,ht,fun r ρ' v H' l1 d1 h1=>by
  cases e1:sd r with
  | none=>rw[e1] at h1;exact h1.elim
  | some d =>
   rw[e1] at h1;obtain⟨hs,b,hb,h1⟩:=h1;obtain⟨q1,q2⟩:=d1.one e1;exact⟨b,atm q2.peek hb hs,k b ρ' H' l1 q1 h1⟩⟩
def tAndD (t u:TTd):TTd:=fun dk ρ Φ=>t dk ρ fun c ρ1=>if c=true then u dk ρ1 Φ else Φ false ρ1
def tNotD (t:TTd):TTd:=fun dk ρ Φ=>t dk ρ fun c ρ1=>Φ (!c) ρ1
variable {tA tB':TTd}{rest:List Expr}
theorem aiy (h:PDt X a tA):PDw X (.BoolOp .And [a] pos) tA:=alr h
theorem amt (ha:PDt X a tA) (hb:PDw X (.BoolOp .And (b::rest) pos) tB'):PDw X (.BoolOp .And (a::b::rest) pos) (tAndD tA tB') :=
 (aq7 ha hb).mono fun σ H Q hq0=>hq0.elim fun B ρ T Φ hl hd ht k=>⟨B,ρ,T,_,hl,hd,ht,fun c ρ1 H1 l1 d1 h1=>by
  cases c with
  | true=>exact (if_pos rfl).mpr ⟨B,ρ1,T,Φ,l1,d1,(if_pos rfl).mp h1,k⟩
  | false=>exact iteF (k false ρ1 H1 l1 d1 ((if_neg (by decide)).mp h1))⟩
theorem awy (h:PDw X a tA):PDt X a tA:=PW.pt h
theorem avr (h:PDt X a tA):PDt X (.UnaryOp .Not a pos) (tNotD tA):=(am6 h).mono fun σ H Q hq0=>hq0.elim fun B ρ T Φ hl hd ht k=>⟨B,ρ,T,_,hl,hd,ht,fun c ρ1 H1 l1 d1 h1=>k _ ρ1 H1 l1 d1 h1⟩
def tIfD (t:TTd) (u w:TEd):TEd:=fun dk ρ Φ=>t dk ρ fun c ρ1=>if c=true then u dk ρ1 Φ else w dk ρ1 Φ
theorem pd_if (hc:PDt X c tA) (ha:PD X a ta) (hb:PD X b tb):PD X (.IfExp c a b pos) (tIfD tA ta tb) :=
 (asv hc ha hb).mono fun σ H Q hq0=>hq0.elim fun B ρ T Φ hl hd ht k=>⟨B,ρ,T,_,hl,hd,ht,fun c ρ1 H1 l1 d1 h1=>by
  cases c with
  | true=>exact (if_pos rfl).mpr ⟨B,ρ1,T,Φ,l1,d1,(if_pos rfl).mp h1,k⟩
  | false=>exact iteF ⟨B,ρ1,T,Φ,l1,d1,(if_neg (by decide)).mp h1,k⟩⟩
end
inductive Ar where
 | t (d:D) | al (i:Nat)
abbrev TAd:=List Addr->List Sl->(List Ar->List Sl->Prop)->Prop
def ads:List Ar->List V->Ents
 | .t d::as,v::vs=>(.val d,some v)::ads as vs
 | .al _::as,_::vs=>ads as vs
 | _,_=>[]
inductive ArOk (σ:St):List Ar->List V->Prop where
 | nil:ArOk σ [] []
 | t {d:D} {v:V} {as:List Ar} {vs:List V}:ArOk σ as vs->ArOk σ (.t d::as) (v::vs)
 | al {i:Nat} {v:V} {as:List Ar} {vs:List V}:σ[i]?=some (some v)->ArOk σ as vs->ArOk σ (.al i::as) (v::vs)
def arDs (ρ:List Sl):List Ar->Option (List D)
 | []=>some []
 | .t d::as=>(arDs ρ as).map (d::·)
 | .al i::as=>match at? ρ i,arDs ρ as with
  | some d,some ds=>some (d::ds)
  | _,_=>none
def arTs:List Ar->Option (List D)
 | []=>some []
 | .t d::as=>(arTs as).map (d::·)
 | .al _::_=>none
def noAl:List Ar->Bool
 | []=>true
 | .t _::as=>noAl as
 | .al _::_=>false
def dA (K:PySem.W.Frag) (τ:TAd):TA:=fun σ H Q=>∃ (B:Bs) (ρ:List Sl) (T:Ents) (Φ:List Ar->List Sl->Prop),ρ.length=σ.length/\DS K B (ρ.zip σ++T) H/\τ B.dk ρ Φ /\
 ∀ as ρ' vs H',ρ'.length=σ.length->ArOk σ as vs->DS K B (ρ'.zip σ++(ads as vs++T)) H'->Φ as ρ'->Q vs H'
theorem dA.elim {K:PySem.W.Frag}{τ:TAd}{σ:St}{H:Hp}{Q:List V->Hp->Prop}{P:Prop}(h:dA K τ σ H Q) (f:∀ (B:Bs) (ρ:List Sl) (T:Ents) (Φ:List Ar->List Sl->Prop),ρ.length=σ.length->DS K B (ρ.zip σ++T) H->τ B.dk ρ Φ ->(∀ as ρ' vs H',ρ'.length=σ.length->ArOk σ as vs->DS K B (ρ'.zip σ++(ads as vs++T)) H'->Φ as ρ'->Q vs H')->P):P:=by
 obtain⟨B,ρ,T,Φ,hl,hd,ht,k⟩:=h;exact f B ρ T Φ hl hd ht k
abbrev PAd (X:Cx) (es:List Expr) (τ:TAd):Prop:=PA X es (dA X.K τ)
def aNil:TAd:=fun _ ρ Φ=>Φ [] ρ
def aC (te:TEd) (tr:TAd):TAd:=fun dk ρ Φ=>te dk ρ fun r ρ1=>tr dk ρ1 fun as ρ2=>match sd r with
 | some d=>Φ (.t d::as) ρ2
 | none=>False
def aS (i:Nat) (tr:TAd):TAd:=fun dk ρ Φ=>(at? ρ i).isSome=true/\tr dk ρ fun as ρ2=>Φ (.al i::as) ρ2
theorem PA.mono {X:Cx}{es:List Expr}{t t':TA}(h:PA X es t) (k:∀ σ H Q,t' σ H Q->t σ H Q):PA X es t':=fun p pins s σ H Q I q=>h p pins s σ H Q I (k σ H Q q)
def Am (B:Bs) (a:Addr):Prop:=a∉B.dk/\(B.A0 a\/B.H0 a=none)
inductive Peeks (K:PySem.W.Frag) (A:Addr->Prop) (H:Hp):List D->List V->Prop where
 | nil:Peeks K A H [] []
 | cons {d:D} {v:V} {ds:List D} {vs:List V}:Peek K A H d v->Peeks K A H ds vs->Peeks K A H (d::ds) (v::vs)
section
variable {X:Cx}{K:PySem.W.Frag}{B:Bs}{H H':Hp}{L T:Ents}{ρ:List Sl}{σ:St}{e:Expr}{es:List Expr}{te:TEd}{ta:TAd}{pos:Pos}
theorem pa_n:PAd X [] aNil:=aak.mono fun σ H Q hq0=>hq0.elim fun B ρ T Φ hl hd ht k=>k [] ρ [] H hl .nil hd ht
theorem pa_k (ha:PD X e te) (hr:PAd X es ta) (h:af1 e=true:=by rfl):PAd X (e::es) (aC te ta):=(pa_c ha hr h).mono fun σ H Q hq0=>hq0.elim fun B ρ T Φ hl hd ht k =>
 ⟨B,ρ,T,_,hl,hd,ht,fun r ρ1 x H1 l1 d1 h1=>⟨B,ρ1,(r,some x)::T,_,l1,d1,h1,fun as ρ2 vs H2 l2 ok d2 h2=>by
  cases e1:sd r with
  | none=>rw[e1] at h2;exact h2.elim
  | some d =>
   rw[e1] at h2;refine k (.t d::as) ρ2 (x::vs) H2 l2 (.t ok) ?_ h2;have d3:DS X.K B ((ρ2.zip σ++ads as vs)++(r,some x)::T) H2:=by simpa using d2
   have d4:=(d3.thaw e1).front;exact DS.mid (by simpa using d4)⟩⟩
theorem pa_s {i:Nat}(ha:PE X e (tVar i)) (hr:PAd X es ta) (h:af1 e=true:=by rfl):PAd X (e::es) (aS i ta):=(pa_c ha hr h).mono fun σ H Q hq0=>hq0.elim fun B ρ T Φ hl hd ⟨hi,ht⟩ k=>by
 obtain⟨d0,h0⟩:=Option.isSome_iff_exists.mp hi;obtain⟨x,hx,_⟩:=hd.peek hl h0;exact⟨x,hx,B,ρ,T,_,hl,hd,ht,fun as ρ2 vs H2 l2 ok d2 h2=>k (.al i::as) ρ2 (x::vs) H2 l2 (.al hx ok) d2 h2⟩
theorem DS.rmArgs:∀ {as:List Ar}{vs:List V},DS K B (L++(ads as vs++T)) H->DS K B (L++T) H
 | [],_,h=>h
 | .t d::as,[],h=>h
 | .al _::as,[],h=>h
 | .t d::as,v::vs,h=>DS.rmArgs (as:=as) (vs:=vs) (DS.drop (L1:=L) (L2:=ads as vs++T) h)
 | .al _::as,v::vs,h=>DS.rmArgs (as:=as) (vs:=vs) h
theorem aem:∀ {as:List Ar}{vs:List V},aaf (L++(ads as vs++T))=aaf (L++T)
 | [],_=>rfl
 | .t d::as,[]=>rfl
 | .al _::as,[]=>rfl
 | .t d::as,v::vs=>(show aaf (L++(Sl.val d,some v)::(ads as vs++T))=_ from ahi).trans (aem (as:=as) (vs:=vs))
 | .al _::as,v::vs=>aem (as:=as) (vs:=vs)
theorem DS.temps {as:List Ar}{vs:List V}(h:DS K B (L++(ads as vs++T)) H) (ok:ArOk σ as vs):∀ ds,arTs as=some ds->Reps K (Al B (aaf (L++T))) H ds vs:=by
 have key:∀ p∈ads as vs,SlOk K (Al B (aaf (L++T))) H p.1 p.2:=fun p hp=>by
  have:=h.ok p (by simp[hp]);rw[aem] at this;exact this
 clear h;induction ok with
 | nil=>intro ds e;cases e;exact .nil
 | @t d v as vs ok ih =>
  intro ds e;obtain⟨ds',e1,rfl⟩:=Option.map_eq_some_iff.mp e;obtain⟨u,e2,r⟩:=key (.val d,some v) List.mem_cons_self;cases e2;exact .cons r (ih (fun p hp=>key p (List.mem_cons_of_mem _ hp)) ds' e1)
 | al _ _ _=>intro ds e;cases e
theorem DS.argsP {as:List Ar}{vs:List V}(hl:ρ.length=σ.length) (h:DS K B (ρ.zip σ++(ads as vs++T)) H) (ok:ArOk σ as vs):∀ ds,arDs ρ as=some ds ->
  Peeks K (Al B (aaf (ρ.zip σ++T))) H ds vs/\Reps K (Am B) H ds vs/\(noAl as=true->Reps K (Al B (aaf (ρ.zip σ++T))) H ds vs):=by
 have key:∀ p∈ads as vs,SlOk K (Al B (aaf (ρ.zip σ++T))) H p.1 p.2:=fun p hp=>by
  have:=h.ok p (by simp[hp]);rw[aem] at this;exact this
 have h0:=h.rmArgs;have am:∀ a,Al B (aaf (ρ.zip σ++T)) a->Am B a:=fun a z=>⟨z.1,z.2.2⟩
 clear h;induction ok with
 | nil=>intro ds e;cases e;exact⟨.nil,.nil,fun _=>.nil⟩
 | @t d v as vs ok ih =>
  intro ds e;obtain⟨ds',e1,rfl⟩:=Option.map_eq_some_iff.mp e;obtain⟨u,e2,r⟩:=key (.val d,some v) List.mem_cons_self;cases e2;obtain⟨p1,p2,p3⟩:=ih (fun p hp=>key p (List.mem_cons_of_mem _ hp)) ds' e1;exact⟨.cons r.peek p1,.cons (r.mono (.all am)) p2,fun n=>.cons r (p3 n)⟩
 | @al i v as vs hi ok ih =>
  intro ds e;have e:=(show (match at? ρ i,arDs ρ as with | some d,some ds=>some (d::ds) | _,_=>none)=some ds from e);cases e1:at? ρ i with
  | none=>rw[e1] at e;cases e
  | some d =>
   cases e2:arDs ρ as with
   | none=>rw[e1,e2] at e;cases e
   | some ds' =>
    rw[e1,e2] at e;cases e;obtain⟨p1,p2,p3⟩:=ih (fun p hp=>key p hp) ds' e2;obtain⟨v',hv',pv⟩:=h0.peek hl e1;rw[hi] at hv';cases hv';have rv:Rep K (Am B) H d v:=by
     unfold at? at e1;cases e3:ρ[i]? with
     | none=>rw[e3] at e1;cases e1
     | some s =>
      rw[e3] at e1;obtain⟨l1,y,l2,hy,_,hz,_⟩:=aey hl e3;rw[hi] at hy;cases hy;have hm:(s,some v)∈ρ.zip σ++T:=by rw[hz];simp
      have:=h0.ok _ hm;cases s with
      | no=>cases e1
      | val c=>cases e1;obtain⟨u,e4,r⟩:=this;cases e4;exact r.mono (.all am)
      | own c =>
       cases e1;obtain⟨a,e4,r⟩:=this;cases e4;have nw:=h0.new a (abw.mpr ⟨_,hm,rfl⟩);exact r.rep am ⟨nw.2,.inr nw.1⟩
    exact⟨.cons pv p1,.cons rv p2,fun n=>by simp[noAl] at n⟩
def dTup (ta:TAd):TEd:=fun dk ρ Φ=>ta dk ρ fun as ρ'=>match arTs as with
 | some ds=>ds.length<=1000/\Φ (.val (.tup ds)) ρ'
 | none=>False
def dLst (ta:TAd):TEd:=fun dk ρ Φ=>ta dk ρ fun as ρ'=>match arTs as with
 | some ds=>ds.length<=1000/\Φ (.own (.lst ds)) ρ'
 | none=>False
theorem aqp {n:Nat}(h:n<=1000):n<=sizeLine:=Nat.le_trans h (by decide)
theorem abj {x1:Nat}(h:PAd X es ta):PD X (.Tuple es x1 pos) (dTup ta):=(aj1 h).mono fun σ H Q hq0=>hq0.elim fun B ρ T Φ hl hd ht k=>⟨B,ρ,T,_,hl,hd,ht,fun as ρ1 vs H1 l1 ok d1 h1=>by
 cases e1:arTs as with
 | none=>rw[e1] at h1;exact h1.elim
 | some ds =>
  rw[e1] at h1;have r:=d1.temps ok ds e1;exact⟨aqp (by rw[← r.length];exact h1.1),fun p hp=>k _ ρ1 _ _ l1 (d1.rmArgs.tup hp r) h1.2⟩⟩
theorem aa7 (h:PAd X es ta):PD X (.List es pos) (dLst ta):=(ab1 h).mono fun σ H Q hq0=>hq0.elim fun B ρ T Φ hl hd ht k=>⟨B,ρ,T,_,hl,hd,ht,fun as ρ1 vs H1 l1 ok d1 h1=>by
 cases e1:arTs as with
 | none=>rw[e1] at h1;exact h1.elim
 | some ds =>
  rw[e1] at h1;have r:=d1.temps ok ds e1;exact⟨aqp (by rw[← r.length];exact h1.1),fun p hp=>k _ ρ1 _ _ l1 (d1.rmArgs.lstF hp r).mid h1.2⟩⟩
def dNew:TEd:=fun _ ρ Φ=>Φ (.own (.dK [])) ρ
theorem pd_new:PD X (.Dict [] [] pos) dNew:=aub.mono fun σ H Q hq0=>hq0.elim fun B ρ T Φ hl hd ht k p hp=>k _ ρ _ _ hl (hd.dKF (ds:=[]) (kvs:=[]) hp rfl .nil).mid ht
abbrev OC:=List D->(Sl->Prop)->Prop
def ael (K:PySem.W.Frag) (r:List V->Hp->VK->Prop) (f:OC):Prop:=∀ (B:Bs) (L:Ents) (H:Hp) (ds:List D) (xs:List V) (Φ:Sl->Prop) (Q:VK),DS K B L H->Peeks K (Al B (aaf L)) H ds xs->f ds Φ ->
 (∀ s v H',Φ s->DS K B ((s,some v)::L) H'->Q v H')->r xs H Q
def dC (f:OC) (ta:TAd):TEd:=fun dk ρ Φ=>ta dk ρ fun as ρ'=>match arDs ρ' as with
 | some ds=>f ds fun r=>Φ r ρ'
 | none=>False
theorem aje {f:OC}{r:List V->Hp->VK->Prop}(hf:ael X.K r f){σ:St}{H:Hp}{Q:VK}(h:dE X.K (dC f ta) σ H Q):dA X.K ta σ H fun vs H1=>r vs H1 Q:=by
 obtain⟨B,ρ,T,Φ,hl,hd,ht,k⟩:=h;refine⟨B,ρ,T,_,hl,hd,ht,fun as ρ1 vs H1 l1 ok d1 h1=>?_⟩;cases e1:arDs ρ1 as with
 | none=>rw[e1] at h1;exact h1.elim
 | some ds =>
  rw[e1] at h1;exact hf B _ H1 ds vs _ Q d1.rmArgs (d1.argsP l1 ok ds e1).1 h1 fun s v H' hs hd'=>k s ρ1 v H' l1 hd'.mid hs
variable {x:Str}{p:Pos}{id:String}{f:OC}{r:List V->Hp->VK->Prop}
theorem aa3 (hc:abr X (.builtin id) r) (hf:ael X.K r f) (hg:Gl X x) (hm:X.mg x=none) (hv:bootBuiltins x=some (.builtin id)) (ha:PAd X (e::es) ta) (hn:x ≠ "__name__" := by decide) (hdb:(x == ("__debug__" : Str))=false:=by decide)
  (he:starEach (e::es) X.env=(false,eval e X.env)::starEach es X.env:=by rfl) (hpl:(backTo pos (starEach es X.env)).any (·.1)=false:=by rfl):PD X (.Call (.Name x p) (e::es) [] pos) (dC f ta) :=
 (abq hc hg hm hv ha hn hdb he hpl).mono fun _ _ _ h=>aje hf h
theorem aam (hc:abr X (.type id) r) (hf:ael X.K r f) (hg:Gl X x) (hm:X.mg x=none) (hv:bootBuiltins x=some (.type id)) (ha:PAd X (e::es) ta) (hn:x ≠ "__name__" := by decide) (hdb:(x == ("__debug__" : Str))=false:=by decide)
  (he:starEach (e::es) X.env=(false,eval e X.env)::starEach es X.env:=by rfl) (hpl:(backTo pos (starEach es X.env)).any (·.1)=false:=by rfl):PD X (.Call (.Name x p) (e::es) [] pos) (dC f ta) :=
 (ahm hc hg hm hv ha hn hdb he hpl).mono fun _ _ _ h=>aje hf h
end
def immS:Sl->Bool
 | .val d=>imm d
 | .own (.lst xs)=>immL xs
 | .own (.dK kvs)=>immL (kvs.map (·.2))
 | .own (.dT kvs)=>immL (kvs.map (·.2))
 | _=>false
def RV (K:PySem.W.Frag) (dk:List Addr) (A:Addr->Prop) (H:Hp) (s:Sl) (v:V) (H':Hp):Prop:=match s with
 | .no=>True
 | .val d=>Rep K (fun a=>a∉dk/\(A a\/H a=none)) H' d v
 | .own d=>∃ a,v = .ref a/\H a=none/\a∉dk/\Root K (fun b=>b∉dk/\b≠a/\(A b\/H b=none)) H' a d
def Frm (dk:List Addr) (H H':Hp):Prop:=∀ b o,H b=some o->b∉dk->H' b=some o
abbrev RD:=List Addr->List D->(Sl->Prop)->Prop
def spD (K:PySem.W.Frag) (R:RD):Sp:=fun vs H Q _=>∃ (dk:List Addr) (A:Addr->Prop) (ds:List D) (Φ:Sl->Prop),Dk dk H/\(∀ a,A a->a∉dk)/\Reps K A H ds vs/\R dk ds Φ /\
 ∀ s v H',Φ s->Frm dk H H'->Dk dk H'->RV K dk A H s v H'->Q v H'
section
variable {K:PySem.W.Frag}{A A':Addr->Prop}{B:Bs}{H H':Hp}{L:Ents}{d:D}{a:Addr}
theorem Root.immR:∀ {d:D},Root K A H a d->immS (.own d)=true->Root K A' H a d
 | .lst _,⟨vs,h,r⟩,e=>⟨vs,h,r.imm e⟩
 | .dK _,⟨vs,h,k,r⟩,e=>⟨vs,h,k,r.imm e⟩
 | .dT _,⟨vs,h,k,r⟩,e=>⟨vs,h,k,r.imm e⟩
theorem Kp.frm {dk:List Addr}(f:Frm dk H H') (hk:Dk dk H) (h:∀ a,A a->a∉dk/\A' a):Kp A A' H H':=by
 refine⟨fun a o ha e=>⟨(h a ha).2,f a o e (h a ha).1⟩,fun a o t e=>f a o e fun z=>?_⟩;obtain⟨xs,q⟩:=hk.some z;rw[e] at q;cases q;cases t
theorem DS.call (h:DS K B L H) (f:Frm B.dk H H') (hk:Dk B.dk H'):DS K B L H' :=
 ⟨fun b o e n=>f b o (h.fr b o e n) n,hk,h.nd,h.new,fun p hp=>(h.ok p hp).mono (.frm f h.dk fun a z=>⟨z.1,z⟩) fun b hb o q=>f b o q (h.new b (abw.mpr ⟨p,hp,hb⟩)).2⟩
theorem DS.adopt (h:DS K B L H) (f:Frm B.dk H H') (hk:Dk B.dk H') (hn:H a=none) (r:Root K (Al B (a::aaf L)) H' a d):DS K B ((.own d,some (.ref a))::L) H':=by
 obtain⟨f1,f2,f3⟩:=h.free hn;have kp:Kp (Al B (aaf L)) (Al B (a::aaf L)) H H':=by
  refine⟨fun b o hb e=>⟨⟨hb.1,fun z=>?_,hb.2.2⟩,f b o e hb.1⟩,fun b o t e=>f b o e fun z=>?_⟩
  ·rcases List.mem_cons.mp z with q | q
   ·subst q;rw[hn] at e;cases e
   ·exact hb.2.1 q
  ·obtain⟨xs,q⟩:=h.dk.some z;rw[e] at q;cases q;cases t
 have e1:aaf ((Sl.own d,some (V.ref a))::L)=a::aaf L:=rfl;refine⟨fun b o e n=>f b o (h.fr b o e n) n,hk,by rw[e1];exact List.nodup_cons.mpr ⟨f3,h.nd⟩,fun b hb=>?_,fun p hp=>?_⟩
 ·rw[e1] at hb;rcases List.mem_cons.mp hb with q | q
  ·subst q;exact⟨f1,f2⟩
  ·exact h.new b q
 ·rw[e1];rcases List.mem_cons.mp hp with q | q
  ·subst q;exact⟨a,rfl,r⟩
  ·exact (h.ok p q).mono kp fun b hb o w=>f b o w (h.new b (abw.mpr ⟨p,q,hb⟩)).2
theorem DS.result {s:Sl}{v:V}{A1:Addr->Prop}(h:DS K B L H) (f:Frm B.dk H H') (hk:Dk B.dk H') (r:RV K B.dk A1 H s v H') (hA:(∀ a,A1 a->Al B (aaf L) a)\/immS s=true):DS K B ((s,some v)::L) H':=by
 have fresh:∀ b,b∉B.dk->H b=none->Al B (aaf L) b:=fun b n e=>⟨n,(h.free e).2.2,.inr (h.free e).1⟩
 cases s with
 | no=>exact (h.call f hk).pushN (L1:=[]) _
 | val d =>
  refine (h.call f hk).pushF ?_;rcases hA with hA | hA
  ·exact (show Rep K _ H' d v from r).mono (.all fun b z=>z.2.elim (hA b) (fresh b z.1))
  ·exact (show Rep K _ H' d v from r).imm hA
 | own d =>
  obtain⟨a,rfl,hn,hd,r⟩:=r;refine h.adopt f hk hn ?_;rcases hA with hA | hA
  ·refine r.mono (.all fun b z=>?_) fun _ q=>q
   have:=z.2.2.elim (hA b) (fresh b z.1);exact⟨this.1,fun q=>(List.mem_cons.mp q).elim z.2.1 this.2.1,this.2.2⟩
  ·exact r.immR hA
end
def avx (R:RD) (ta:TAd):TEd:=fun dk ρ Φ=>ta dk ρ fun as ρ'=>match arDs ρ' as with
 | some ds=>R dk ds fun s=>(noAl as=true\/immS s=true)/\Φ s ρ'
 | none=>False
section
variable {X:Cx}{k:Nat}{f:Addr}{fd:FuncData}{ps:List Str}{R:RD}{x:Str}{p pos:Pos}{e:Expr}{es:List Expr}{ta:TAd}
theorem aob {σ:St}{H:Hp}{Q:VK}(h:dE X.K (avx R ta) σ H Q):dA X.K ta σ H fun vs H1=>spD X.K R (vs++[]) H1 Q E0:=by
 obtain⟨B,ρ,T,Φ,hl,hd,ht,k⟩:=h;refine⟨B,ρ,T,_,hl,hd,ht,fun as ρ1 vs H1 l1 ok d1 h1=>?_⟩;cases e1:arDs ρ1 as with
 | none=>rw[e1] at h1;exact h1.elim
 | some ds =>
  rw[e1] at h1;obtain⟨_,q2,q3⟩:=d1.argsP l1 ok ds e1;have d2:=d1.rmArgs;rw[List.append_nil];by_cases na:noAl as=true
  ·exact⟨B.dk,_,ds,_,d2.dk,fun a z=>z.1,q3 na,h1,fun s v H' hs f hk r=>k s ρ1 v H' l1 (d2.result f hk r (.inl fun a z=>z)).mid hs.2⟩
  ·exact⟨B.dk,_,ds,_,d2.dk,fun a z=>z.1,q2,h1,fun s v H' hs f hk r=>k s ρ1 v H' l1 (d2.result f hk r (.inr (hs.1.resolve_left na))).mid hs.2⟩
theorem aal (F:FnOk X.prog X.w X.K X.mg X.base CX0 k f fd ps (spD X.K R)) (hr:Room k X.A) (hg:Gl X x) (hm:X.mg x=some (.ref f)) (hk:PySem.W.keepIn X.K (.ref f)=true) (hb:ahl X.K fd ps [])
  (ha:PAd X (e::es) ta) (hdb:(x == ("__debug__" : Str))=false:=by decide) (he:starEach (e::es) X.env=(false,eval e X.env)::starEach es X.env:=by rfl) (hpl:(backTo pos (starEach es X.env)).any (·.1)=false:=by rfl) :
  PD X (.Call (.Name x p) (e::es) [] pos) (avx R ta):=(aba F hr hg hm hk hb .nil adg ha hdb he hpl).mono fun _ _ _ h=>aob h
end
structure DEnds where
 nx:List Sl->Prop
 rt:Sl->Prop
 bk:List Sl->Prop:=fun _=>False
 ct:List Sl->Prop:=fun _=>False
abbrev TSd:=List Addr->DEnds->List Sl->Prop
def Lnk (K:PySem.W.Frag) (B:Bs) (T:Ents) (n:Nat) (De:DEnds) (Dn:Ends):Prop :=
 (∀ ρ' σ' H',ρ'.length=σ'.length->σ'.length=n->DS K B (ρ'.zip σ'++T) H'->(De.nx ρ'->Dn.nx σ' H')/\(De.bk ρ'->Dn.bk σ' H')/\(De.ct ρ'->Dn.ct σ' H')) /\
 ∀ (r:Sl) (v:V) (ρ':List Sl) (σ':St) (H':Hp),ρ'.length=σ'.length->DS K B (ρ'.zip σ'++(r,some v)::T) H'->De.rt r->Dn.rt v H'
def dS (K:PySem.W.Frag) (τ:TSd):TS:=fun Dn σ H=>∃ (B:Bs) (ρ:List Sl) (T:Ents) (De:DEnds),ρ.length=σ.length/\DS K B (ρ.zip σ++T) H/\τ B.dk De ρ/\Lnk K B T σ.length De Dn
theorem dS.elim {K:PySem.W.Frag}{τ:TSd}{Dn:Ends}{σ:St}{H:Hp}{P:Prop}(h:dS K τ Dn σ H) (f:∀ (B:Bs) (ρ:List Sl) (T:Ents) (De:DEnds),ρ.length=σ.length->DS K B (ρ.zip σ++T) H->τ B.dk De ρ->Lnk K B T σ.length De Dn->P):P:=by
 obtain⟨B,ρ,T,Φ,hl,hd,ht,k⟩:=h;exact f B ρ T Φ hl hd ht k
abbrev PSd (X:Cx) (st:Stmt) (τ:TSd):Prop:=PS X st (dS X.K τ)
abbrev PSsd (X:Cx) (st:List Stmt) (τ:TSd):Prop:=PSs X st (dS X.K τ)
theorem PS.mono {X:Cx}{st:Stmt}{t t':TS}(h:PS X st t) (k:∀ D σ H,t' D σ H->t D σ H):PS X st t':=fun pins s σ H D I q=>h pins s σ H D I (k D σ H q)
theorem PSs.mono {X:Cx}{st:List Stmt}{t t':TS}(h:PSs X st t) (k:∀ D σ H,t' D σ H->t D σ H):PSs X st t':=fun pins s σ H D I q=>h pins s σ H D I (k D σ H q)
def sNil:TSd:=fun _ De ρ=>De.nx ρ
def sSeq (t u:TSd):TSd:=fun dk De ρ=>t dk { De with nx:=u dk De } ρ
def sRet (te:TEd):TSd:=fun dk De ρ=>te dk ρ fun r _=>De.rt r
def sExpr (te:TEd):TSd:=fun dk De ρ=>te dk ρ fun _ ρ'=>De.nx ρ'
def sIf (c:TTd) (t u:TSd):TSd:=fun dk De ρ=>c dk ρ fun b ρ'=>if b=true then t dk De ρ' else u dk De ρ'
def sSet (i:Nat) (te:TEd):TSd:=fun dk De ρ=>te dk ρ fun r ρ'=>De.nx (ρ'.set i r)
section
variable {X:Cx}{K:PySem.W.Frag}{B:Bs}{H:Hp}{st:Stmt}{rest a b:List Stmt}{t u:TSd}{pos:Pos}{e c:Expr}{te:TEd}{tc:TTd}{T:Ents}{n:Nat}{De:DEnds}{Dn:Ends}
theorem Lnk.seq (h:Lnk K B T n De Dn){P:List Sl->Prop}{N:St->Hp->Prop}(k:∀ ρ' σ' H',ρ'.length=σ'.length->σ'.length=n->DS K B (ρ'.zip σ'++T) H'->P ρ'->N σ' H'):Lnk K B T n { De with nx:=P } { Dn with nx:=N } :=
 ⟨fun ρ' σ' H' l1 l2 d=>⟨k ρ' σ' H' l1 l2 d,(h.1 ρ' σ' H' l1 l2 d).2⟩,h.2⟩
theorem aex:PSsd X [] sNil:=adl.mono fun Dn σ H hq0=>hq0.elim fun B ρ T De hl hd ht lk=>(lk.1 ρ σ H hl rfl hd).1 ht
theorem aac (h1:PSd X st t) (h2:PSsd X rest u):PSsd X (st::rest) (sSeq t u):=(aas h1 h2).mono fun Dn σ H hq0=>hq0.elim fun B ρ T De hl hd ht lk =>
 ⟨B,ρ,T,_,hl,hd,ht,lk.seq fun ρ' σ' H' l1 l2 d q=>⟨B,ρ',T,De,l1,d,q,by rw[l2];exact lk⟩⟩
theorem aau (h:PSd X st t):PSsd X [st] t:=aav h
theorem adc (h:PD X e te):PSd X (.Return (some e) pos) (sRet te):=(ac6 h).mono fun Dn σ H hq0=>hq0.elim fun B ρ T De hl hd ht lk=>⟨B,ρ,T,_,hl,hd,ht,fun r ρ' v H' l1 d1 h1=>lk.2 r v ρ' σ H' l1 d1 h1⟩
theorem acu (h:PD X e te) (hs:swapsWith e none pos.line X.env=pure false:=by rfl):PSd X (.Expr e pos) (sExpr te):=(aeb h hs).mono fun Dn σ H hq0=>hq0.elim fun B ρ T De hl hd ht lk=>⟨B,ρ,T,_,hl,hd,ht,fun r ρ' v H' l1 d1 h1=>(lk.1 ρ' σ H' l1 rfl d1.drop).1 h1⟩
theorem s_if (hc:PDt X c tc) (ha:PSsd X a t) (hb:PSsd X b u):PSd X (.If c a b pos) (sIf tc t u):=(ahc hc ha hb).mono fun Dn σ H hq0=>hq0.elim fun B ρ T De hl hd ht lk=>⟨B,ρ,T,_,hl,hd,ht,fun c ρ' H' l1 d1 h1=>by
 cases c with
 | true=>exact (if_pos rfl).mpr ⟨B,ρ',T,De,l1,d1,(if_pos rfl).mp h1,lk⟩
 | false=>exact iteF ⟨B,ρ',T,De,l1,d1,(if_neg (by decide)).mp h1,lk⟩⟩
theorem DS.assign {ρ:List Sl}{σ:St}{r:Sl}{v:V}(hl:ρ.length=σ.length) (h:DS K B (ρ.zip σ++(r,some v)::T) H) (i:Nat):DS K B ((ρ.set i r).zip (σ.set i (some v))++T) H:=by
 by_cases hi:i<ρ.length
 ·obtain⟨l1,y,l2,_,_,hz,hset⟩:=aey hl (List.getElem?_eq_getElem hi);rw[hset r (some v)];rw[hz] at h;have h2:DS K B (l1++(l2++(r,some v)::T)) H:=DS.drop (L1:=l1) (x:=(ρ[i],y)) (by simpa using h);have h3:DS K B ((l1++l2)++(r,some v)::T) H:=by simpa using h2
  have h4:=h3.front;have h5:DS K B ((r,some v)::(l1++(l2++T))) H:=by simpa using h4
  simpa using h5.mid
 ·rw[List.set_eq_of_length_le (by omega),List.set_eq_of_length_le (by omega)];exact h.drop
theorem aa2 {i:Nat}{x:Str}{pos':Pos}(hN:X.N.Nodup) (hi:X.N[i]?=some x) (hx:Loc X.env.scope x) (he:PD X e te) (hs:swapsWith e (some (.Name x pos')) pos.line X.env=pure false:=by rfl)
  (hf:X.fn x=true\/X.env.scope.names.lookup x=some .local:=by first | exact .inl rfl | exact .inr rfl | assumption):PSd X (.Assign [.Name x pos'] e pos) (sSet i te) :=
 (aa5 hN hi hx he hs hf).mono fun Dn σ H hq0=>hq0.elim fun B ρ T De hl hd ht lk=>⟨B,ρ,T,_,hl,hd,ht,fun r ρ' v H' l1 d1 h1=>(lk.1 _ _ H' (by rw[List.length_set,List.length_set];exact l1) (List.length_set ..) (d1.assign l1 i)).1 h1⟩
end
def ini (N:List Str) (ds:List D):List Sl:=ds.map .val++List.replicate (N.length-ds.length) .no
section
variable {P:Program}{w:World}{K:PySem.W.Frag}{mg:Str->Option Value}{base:Heap}
theorem aps:∀ {ds:List D}{vs:List V}(n:Nat),ds.length=vs.length->(ds.map Sl.val++List.replicate n Sl.no).zip (vs.map some++List.replicate n none)=(ds.zip vs).map (fun p=>(Sl.val p.1,some p.2))++List.replicate n (Sl.no,none)
 | [],[],n,_=>by simp
 | [],_::_,_,e=>by simp at e
 | _::_,[],_,e=>by simp at e
 | d::ds,v::vs,n,e=>by
  simp only[List.map_cons,List.cons_append,List.zip_cons_cons,List.cons.injEq,true_and];exact aps n (by simpa using e)
theorem ast {A:Addr->Prop}{H:Hp}{ds:List D}{vs:List V}(rs:Reps K A H ds vs):∀ p∈ds.zip vs,Rep K A H p.1 p.2:=by
 induction ds generalizing vs with
 | nil=>intro p hp;cases hp
 | cons d ds ih =>
  cases rs with
  | cons h r =>
  intro p hp;rw[List.zip_cons_cons] at hp;rcases List.mem_cons.mp hp with rfl | q
  ·exact h
  ·exact ih r p q
theorem Fun.okD {x qual:Str}{st:Stmt}{f:Addr}{fd:FuncData}{N ps:List Str}{k:Nat}{R:RD}(F:Fun K x qual st f fd) (S:FnScope N ps (aaj st)) (hlen:∀ dk ds Φ,R dk ds Φ->ds.length=ps.length) (hps:ps.length<=N.length)
  (hbody:∀ (cdv:Value) (A:Around) (outer:List Env) (s:Shared) (H:Hp) (E:XK) (dk:List Addr) (ds:List D) (Φ:Sl->Prop),Room k (A.deeper (envOfC qual (aaj st) s.heap.objs.size f cdv))->R dk ds Φ ->∃ t,PSsd (cxOf CX0 P w K mg base N qual (aaj st) f cdv A outer s H E).nox (acv st) t/\t dk { nx:=fun _=>Φ (.val .non),rt:=Φ } (ini N ds)):FnOk P w K mg base CX0 (k+1) f fd ps (spD K R):=by
 refine F.ok S (fun vs H Q E ⟨dk,A,ds,Φ,_,_,r,hR,_⟩=>by rw[← r.length];exact hlen _ _ _ hR) fun cdv A outer s H vs Q E hr ⟨dk,A1,ds,Φ,hdk,hA,r,hR,hq⟩=>?_
 obtain⟨t,ht,hb⟩:=hbody cdv A outer s H E dk ds Φ hr hR;have el:ds.length=vs.length:=r.length;have dl:ds.length=ps.length:=hlen _ _ _ hR;refine⟨_,ht,⟨dk,A1,H⟩,ini N ds,[],_,?_,?_,hb,?_,?_⟩
 ·unfold ini afs;rw[List.length_append,List.length_append,List.length_map,List.length_map,List.length_replicate,List.length_replicate,el]
 ·have e0:(ini N ds).zip (afs N vs)=(ds.zip vs).map (fun p=>(Sl.val p.1,some p.2))++List.replicate (N.length-ds.length) (Sl.no,none):=by
   unfold ini afs;rw[← el];exact aps _ el
  have e1:aaf ((ini N ds).zip (afs N vs))=[]:=by
   rw[e0];refine List.eq_nil_iff_forall_not_mem.mpr fun a ha=>?_
   obtain⟨q,hq',e⟩:=abw.mp ha;rcases List.mem_append.mp hq' with z | z
   ·obtain⟨p,_,rfl⟩:=List.mem_map.mp z;cases e
   ·rw[(List.mem_replicate.mp z).2] at e;cases e
  rw[List.append_nil];refine⟨fun b o e _=>e,hdk,by rw[e1];exact List.nodup_nil,(fun a ha=>by rw[e1] at ha;exact absurd ha List.not_mem_nil),fun q hq'=>?_⟩;rw[e1];rw[e0] at hq';rcases List.mem_append.mp hq' with z | z
  ·obtain⟨p,hp,rfl⟩:=List.mem_map.mp z;exact⟨p.2,rfl,(ast r p hp).mono (.all fun a ha=>⟨hA a ha,List.not_mem_nil,.inl ha⟩)⟩
  ·rw[(List.mem_replicate.mp z).2];trivial
 ·intro ρ' σ' H' l1 l2 d1;refine⟨fun h=>hq _ _ H' h d1.fr d1.dk .non,fun h=>h.elim,fun h=>h.elim⟩
 ·intro s' v ρ' σ' H' l1 d1 h;refine hq s' v H' h d1.fr d1.dk ?_;cases s' with
  | no=>trivial
  | val d=>exact d1.valAt.mono (.all fun a z=>⟨z.1,z.2.2⟩)
  | own d =>
   obtain⟨a,rfl,r'⟩:=d1.ownAt;have nw:=d1.new a (by rw[abk];exact List.mem_append_right _ List.mem_cons_self);exact⟨a,rfl,nw.1,nw.2,r'.mono (.all fun b z=>⟨z.1,fun q=>z.2.1 (by simp[q]),z.2.2⟩) fun _ q=>q⟩
end
abbrev TGd:=D->List Sl->(List Sl->Prop)->Prop
abbrev TGsd:=List D->List Sl->(List Sl->Prop)->Prop
def acn (ds:List D) (vs:List V):Ents:=(ds.zip vs).map fun p=>(Sl.val p.1,some p.2)
def dG (K:PySem.W.Frag) (n:Nat) (γ:TGd):TG:=fun v σ H Q=>∃ (B:Bs) (ρ:List Sl) (T:Ents) (d:D) (Φ:List Sl->Prop),ρ.length=σ.length/\DS K B (ρ.zip σ++(.val d,some v)::T) H/\γ d ρ Φ /\
 ∀ (ρ':List Sl) (σ':St) (H':Hp),ρ'.length=σ'.length->σ'.length=σ.length->(∀ j,n<=j->σ'[j]?=σ[j]?)->DS K B (ρ'.zip σ'++T) H'->Φ ρ'->Q σ' H'
def dGs (K:PySem.W.Frag) (n:Nat) (γ:TGsd):TGs:=fun vs σ H Q=>∃ (B:Bs) (ρ:List Sl) (T:Ents) (ds:List D) (Φ:List Sl->Prop),ρ.length=σ.length/\ds.length=vs.length/\DS K B (ρ.zip σ++(acn ds vs++T)) H/\γ ds ρ Φ /\
 ∀ (ρ':List Sl) (σ':St) (H':Hp),ρ'.length=σ'.length->σ'.length=σ.length->(∀ j,n<=j->σ'[j]?=σ[j]?)->DS K B (ρ'.zip σ'++T) H'->Φ ρ'->Q σ' H'
theorem dG.elim {K:PySem.W.Frag}{n:Nat}{γ:TGd}{v:V}{σ:St}{H:Hp}{Q:St->Hp->Prop}{P:Prop}(h:dG K n γ v σ H Q) (f:∀ (B:Bs) (ρ:List Sl) (T:Ents) (d:D) (Φ:List Sl->Prop),ρ.length=σ.length->DS K B (ρ.zip σ++(.val d,some v)::T) H->γ d ρ Φ ->(∀ (ρ':List Sl) (σ':St) (H':Hp),ρ'.length=σ'.length->σ'.length=σ.length->(∀ j,n<=j->σ'[j]?=σ[j]?)->DS K B (ρ'.zip σ'++T) H'->Φ ρ'->Q σ' H')->P):P:=by
 obtain⟨B,ρ,T,d,Φ,hl,hd,ht,k⟩:=h;exact f B ρ T d Φ hl hd ht k
theorem dGs.elim {K:PySem.W.Frag}{n:Nat}{γ:TGsd}{vs:List V}{σ:St}{H:Hp}{Q:St->Hp->Prop}{P:Prop}(h:dGs K n γ vs σ H Q) (f:∀ (B:Bs) (ρ:List Sl) (T:Ents) (ds:List D) (Φ:List Sl->Prop),ρ.length=σ.length->ds.length=vs.length->DS K B (ρ.zip σ++(acn ds vs++T)) H->γ ds ρ Φ ->(∀ (ρ':List Sl) (σ':St) (H':Hp),ρ'.length=σ'.length->σ'.length=σ.length->(∀ j,n<=j->σ'[j]?=σ[j]?)->DS K B (ρ'.zip σ'++T) H'->Φ ρ'->Q σ' H')->P):P:=by
 obtain⟨B,ρ,T,ds,Φ,hl,hv,hd,ht,k⟩:=h;exact f B ρ T ds Φ hl hv hd ht k
abbrev PGd (X:Cx) (n:Nat) (e:Expr) (γ:TGd):Prop:=PG X e (dG X.K n γ)
abbrev PGsd (X:Cx) (n:Nat) (es:List Expr) (γ:TGsd):Prop:=PGs X es (dGs X.K n γ)
theorem PG.mono {X:Cx}{e:Expr}{t t':TG}(h:PG X e t) (k:∀ v σ H Q,t' v σ H Q->t v σ H Q):PG X e t':=fun pins s σ H v u Q I r q=>h pins s σ H v u Q I r (k v σ H Q q)
theorem PGs.mono {X:Cx}{es:List Expr}{t t':TGs}(h:PGs X es t) (k:∀ v σ H Q,t' v σ H Q->t v σ H Q):PGs X es t':=fun pins s σ H v u Q I r q=>h pins s σ H v u Q I r (k v σ H Q q)
def gN (i:Nat):TGd:=fun d ρ Φ=>Φ (ρ.set i (.val d))
def gsN:TGsd:=fun ds ρ Φ=>ds=[]/\Φ ρ
def gsC (g:TGd) (gs:TGsd):TGsd:=fun ds ρ Φ=>match ds with
 | d::ds=>g d ρ fun ρ'=>gs ds ρ' Φ
 | []=>False
def gTp (n:Nat) (gs:TGsd):TGd:=fun d ρ Φ=>match d with
 | .tup ds=>ds.length=n/\gs ds ρ Φ
 | _=>False
section
variable {X:Cx}{K:PySem.W.Frag}{B:Bs}{H:Hp}{L T:Ents}{pos:Pos}{e:Expr}{es:List Expr}{g:TGd}{gs:TGsd}{m:Nat}
theorem DS.pushs {A:Addr->Prop}:∀ {ds:List D}{vs:List V},DS K B (L++T) H->Reps K (Al B (aaf (L++T))) H ds vs->DS K B (L++(acn ds vs++T)) H
 | _,_,h,.nil=>h
 | _,_,h,.cons (ds:=ds) (vs:=vs) r rs=>by
  have h1:=DS.pushs (A:=A) h rs;have e1:aaf (L++(acn ds vs++T))=aaf (L++T):=by
   have:∀ (ds:List D) (vs:List V),aaf (acn ds vs)=[]:=fun ds vs=>by
    refine List.eq_nil_iff_forall_not_mem.mpr fun a ha=>?_
    obtain⟨q,hq,e⟩:=abw.mp ha;obtain⟨p,_,rfl⟩:=List.mem_map.mp hq;cases e
   rw[aaz,aaz,aaz,this,List.nil_append]
  exact h1.push (by rw[e1];exact r)
theorem g_n {i:Nat}{x:Str}(hN:X.N.Nodup) (hi:X.N[i]?=some x) (hx:Loc X.env.scope x) (hm:i<m:=by decide) (hf:X.fn x=true\/X.env.scope.names.lookup x=some .local:=by first | exact .inl rfl | exact .inr rfl | assumption):PGd X m (.Name x pos) (gN i) :=
 (ado hN hi hx hf).mono fun v σ H Q hq0=>hq0.elim fun B ρ T d Φ hl hd ht k=>k _ _ H (by rw[List.length_set,List.length_set];exact hl) (List.length_set ..) (fun j hj=>List.getElem?_set_ne (by omega)) (hd.assign hl i) ht
theorem gs_n:PGsd X m [] gsN:=axs.mono fun vs σ H Q hq0=>hq0.elim fun B ρ T ds Φ hl hv hd ⟨ht0,ht⟩ k=>by
 subst ht0;cases vs with
 | nil=>exact⟨rfl,k ρ σ H hl rfl (fun _ _=>rfl) hd ht⟩
 | cons _ _=>simp at hv
theorem gs_c (h1:PGd X m e g) (h2:PGsd X m es gs) (hs:(assignEach (e::es) X.env).map (·.2)=assign e X.env::(assignEach es X.env).map (·.2):=by rfl):PGsd X m (e::es) (gsC g gs) :=
 (atr h1 h2 hs).mono fun vs σ H Q hq0=>hq0.elim fun B ρ T ds Φ hl hv hd ht k=>by
  cases ds with
  | nil=>exact ht.elim
  | cons d ds =>
   cases vs with
   | nil=>simp at hv
   | cons v vs =>
    refine⟨v,vs,rfl,B,ρ,acn ds vs++T,d,_,hl,hd,ht,fun ρ' σ' H' l1 l2 f1 d1 q=>⟨B,ρ',T,ds,Φ,l1,by simpa using hv,d1,q,fun ρ2 σ2 H2 m1 m2 f2 d2 q2=>k ρ2 σ2 H2 m1 (m2.trans l2) (fun j hj=>(f2 j hj).trans (f1 j hj)) d2 q2⟩⟩
theorem g_t {k:Nat}{n:Nat}(hc:X.calm=true) (h:PGsd X m es gs) (hn:(assignEach es X.env).length=n:=by rfl) (hst:(assignEach es X.env).findIdx? (·.1)=none:=by rfl):PGd X m (.Tuple es k pos) (gTp n gs) :=
 (pg_tup hc h hn hst).mono fun v σ H Q hq0=>hq0.elim fun B ρ T d Φ hl hd ht k=>by
  cases d with
  | tup ds =>
   obtain⟨a,vs,rfl,h1,r1⟩:=hd.valAt.tup_inv;exact⟨a,vs,rfl,SqT.of h1,by rw[← r1.length];exact ht.1,B,ρ,T,ds,Φ,hl,r1.length,hd.drop.pushs (A:=fun _=>True) r1,ht.2,k⟩
  | _=>exact ht.elim
end
def setD:D->D->D->Option D
 | .lst xs,.int i,d=>(ixN xs.length i).map fun j=>.lst (xs.set j d)
 | .dK kvs,k,d=>if kvs.length<100000 then (ae1 k).map fun k=>.dK (putD kvs k d) else none
 | .dT kvs,.tup ks,d=>if kvs.length<100000 then (keysOf ks).map fun k=>.dT (putD kvs k d) else none
 | _,_,_=>none
def sSub (i:Nat) (ti tv:TEd):TSd:=fun dk De ρ=>tv dk ρ fun rv ρ1=>(at? ρ1 i).isSome=true/\ti dk ρ1 fun rk ρ2=>match sd rv,sd rk,ρ2[i]? with
 | some d,some k,some (.own c)=>∃ c',setD c k d=some c'/\De.nx (ρ2.set i (.own c'))
 | _,_,_=>False
section
variable {X:Cx}{K:PySem.W.Frag}{B:Bs}{H:Hp}{L T:Ents}{pos pos':Pos}{e o i:Expr}{te tv ti:TEd}{g:TGd}
def rSetA:TSet:=fun o i v H Q=>rSetL o i v H Q\/∃ a H',o = .ref a/\DPut H a i v H'/\Q H'
theorem av5 (hu:X.A.units+1<cLine):PSet X rSetA:=by
 intro pins s σ H o i v ov iv u Q I ro ri rv h;rcases h with h | ⟨a,H',rfl,g,q⟩
 ·exact agn pins s σ H o i v ov iv u Q I ro ri rv h
 ·cases ro;exact alc hu I g ri rv fun s' I'=>⟨H',I',q⟩
theorem DS.slotW {ρ:List Sl}{σ:St}(hl:ρ.length=σ.length) (h:DS K B (ρ.zip σ++T) H){i:Nat}{c:D}(e:ρ[i]?=some (.own c)):∃ a,σ[i]?=some (some (.ref a))/\Root K (Al B (aaf (ρ.zip σ++T))) H a c /\
  ∀ (o:HO) (c':D),(∀ A',Kp (Al B (aaf (ρ.zip σ++T))) A' H (upd H a o)->Root K A' (upd H a o) a c')->DS K B ((ρ.set i (.own c')).zip σ++T) (upd H a o):=by
 obtain⟨l1,y,l2,hy,_,hz,hset⟩:=aey hl e;have h':DS K B (l1++(.own c,y)::(l2++T)) H:=by rw[hz] at h;simpa using h
 obtain⟨a,rfl,_⟩:=h'.at;have er:aaf (ρ.zip σ++T)=aaf l1++a::aaf (l2++T):=by rw[hz,List.append_assoc,List.cons_append,abk];rfl
 obtain⟨a',e',r⟩:=h'.ownAt;cases e';refine⟨a,hy,by rw[er];exact r,fun o c' hr=>?_⟩;rw[er] at hr;have h2:=h'.write (o:=o) (d':=c') hr;have:=hset (.own c') (some (.ref a));rw[afg hy] at this;rw[this]
 simpa using h2
theorem avz {c k d c':D}{a:Addr}{y v:V}{A:Addr->Prop}{Q:Hp->Prop}(h:setD c k d=some c') (r:Root K A H a c) (ry:Peek K A H k y) (rv:Rep K A H d v)
  (hq:∀ o,(∀ A',Kp A A' H (upd H a o)->Root K A' (upd H a o) a c')->Q (upd H a o)):rSetA (.ref a) y v H Q:=by
 cases c with
 | lst xs =>
  cases k with
  | int i =>
   obtain⟨vs,h1,r1⟩:=r;obtain⟨j,hj,rfl⟩:=Option.map_eq_some_iff.mp h;have:=ry.int_inv;subst this;exact .inl ⟨a,vs,i,j,rfl,rfl,h1,by rw[← r1.length];exact hj,hq _ fun A' kp=>⟨_,aaa,(r1.set rv j).mono kp⟩⟩
  | _=>cases h
 | dK kvs =>
  obtain⟨vs,h1,e1,r1⟩:=r;have h:=(show (if kvs.length<100000 then (ae1 k).map fun j=>D.dK (putD kvs j d) else none)=some c' from h);by_cases hlt:kvs.length<100000
  ·rw[if_pos hlt] at h;obtain⟨j,hj,rfl⟩:=Option.map_eq_some_iff.mp h;rw[aeg hj ry];obtain⟨q1,q2⟩:=ajb e1 r1 (k:=j) rv;have hl:vs.length<sizeLine:=by
    have:=congrArg List.length e1;simp only[List.length_map] at this;exact Nat.lt_of_lt_of_le (show vs.length<100000 by omega) (by decide)
   exact .inr ⟨a,_,rfl,DPut.k h1 hl,hq _ fun A' kp=>⟨_,aaa,q1,q2.mono kp⟩⟩
  ·rw[if_neg hlt] at h;cases h
 | dT kvs =>
  cases k with
  | tup ks =>
   obtain⟨vs,h1,e1,r1⟩:=r;have h:=(show (if kvs.length<100000 then (keysOf ks).map fun j=>D.dT (putD kvs j d) else none)=some c' from h);by_cases hlt:kvs.length<100000
   ·rw[if_pos hlt] at h;obtain⟨j,hj,rfl⟩:=Option.map_eq_some_iff.mp h;obtain⟨b,us,rfl,h2,r2⟩:=ry.tup_inv;rw[ah3 hj r2] at h2;obtain⟨q1,q2⟩:=ajb e1 r1 (k:=j) rv;have hl:vs.length<sizeLine:=by
     have:=congrArg List.length e1;simp only[List.length_map] at this;exact Nat.lt_of_lt_of_le (show vs.length<100000 by omega) (by decide)
    exact .inr ⟨a,_,rfl,DPut.t h1 h2 hl,hq _ fun A' kp=>⟨_,aaa,q1,q2.mono kp⟩⟩
   ·rw[if_neg hlt] at h;cases h
  | _=>cases h
 | _=>cases h
theorem ar9 {n:Nat}(hu:X.A.units+1<cLine) (hv:PD X e tv) (ho:PE X o (tVar n)) (hi:PD X i ti)
  (ha:∀ v,assign (.Subscript o i pos') X.env v=(do
   let ov ← holding [v] (eval o X.env);let iv ← holding [v,ov] (eval i X.env)
   standAt pos'
   holding [v,ov,iv] (setItem ov iv v)
   release [v,ov,iv] []):=by intro _;rfl)
  (hs:swapsWithSole [.Subscript o i pos'] e pos.line X.env=pure false:=by rfl) (hw:swappedStores [.Subscript o i pos'] e X.env=pure none:=by rfl)
  (h1:(assignEach [.Subscript o i pos'] X.env).map (·.2)=[assign (.Subscript o i pos') X.env]:=by rfl):PSd X (.Assign [.Subscript o i pos'] e pos) (sSub n ti tv) :=
 (anv hv (amx ho hi (av5 hu) ha) hs hw h1).mono fun Dn σ H hq0=>hq0.elim fun B ρ T De hl hd ht lk=>⟨B,ρ,T,_,hl,hd,ht,fun rv ρ1 v H1 l1 d1 ⟨hi,h1⟩=>by
  obtain⟨d0,h0⟩:=Option.isSome_iff_exists.mp hi;obtain⟨x,hx,_⟩:=d1.peek l1 h0;refine⟨x,hx,B,ρ1,(rv,some v)::T,_,l1,d1,h1,fun rk ρ2 y H2 l2 d2 h2=>?_⟩;cases e1:sd rv with
  | none=>rw[e1] at h2;exact h2.elim
  | some d =>
   cases e2:sd rk with
   | none=>rw[e1,e2] at h2;exact h2.elim
   | some k =>
    cases e3:ρ2[n]? with
    | none=>rw[e1,e2,e3] at h2;exact h2.elim
    | some s =>
     cases s with
     | no=>rw[e1,e2,e3] at h2;exact h2.elim
     | val c=>rw[e1,e2,e3] at h2;exact h2.elim
     | own c =>
      rw[e1,e2,e3] at h2;obtain⟨c',hc,h2⟩:=h2;obtain⟨q1,q2,q3⟩:=d2.two e1 e2;obtain⟨a,ha,ra,wr⟩:=q1.slotW l2 e3;rw[hx] at ha;cases ha;exact avz hc ra q3.peek q2 fun o hr=>(lk.1 _ _ _ (by rw[List.length_set];exact l2) rfl (wr o c' hr)).1 h2⟩
end
section
variable {X:Cx}{tg:Expr}
def WalkV (K:PySem.W.Frag) (R:It->Hp->Prop) (x:V) (H:Hp):Prop:=(∃ a,x = .ref a/\(∃ xs,SqL K H a xs)/\R (Itl K a) H)\/(∃ a,x = .ref a/\(∃ xs,SqT K H a xs)/\R (Itt K a) H)\/∃ z:Str,x = .str z/\z.cps.all (·<128)=true/\R (Its z) H
def iAny (K:PySem.W.Frag) (tl:TE):TI:=fun σ H R=>tl σ H fun x H1=>WalkV K R x H1
theorem asd {l:Expr}{tl:TE}(hl:PE X l tl):PI X tg l (iAny X.K tl):=by
 intro pins s σ H R I h;refine thn (hl pins s σ H _ I h) fun v s1 ⟨x,H1,I1,r1,q1⟩=>?_
 have fp:∀ b∈[s1.heap.objs.size],FpOk X pins H1 b:=fun b hb=>by
  have e:b=s1.heap.objs.size:=by simpa using hb
  subst e;exact I1.fpOk (Nat.le_refl _) (I1.hok.fresh (Nat.le_refl _))
 rcases q1 with⟨a,rfl,⟨xs,hq⟩,q⟩ | ⟨a,rfl,⟨xs,hq⟩,q⟩ | ⟨z,rfl,ha,q⟩
 ·cases r1;obtain⟨its,rv,p,hz⟩:=I1.list hq;exact wpAny_pyIter_list p.isList ⟨s1.heap.objs.size,[s1.heap.objs.size],_,_,H1,rfl,I1.kept (t':=s1.toks) fun b o e=>Heap.get?_push_of_some _ e,aj8 a _,⟨_,Heap.get?_push_size _ rfl,rfl,rfl⟩,fp,q⟩
 ·cases r1;obtain⟨its,rv,p,hz⟩:=I1.tuple hq;exact wpAny_pyIter_tuple (show s1.heap.IsTuple a its.toArray from p) ⟨s1.heap.objs.size,[s1.heap.objs.size],_,_,H1,rfl,I1.kept (t':=s1.toks) fun b o e=>Heap.get?_push_of_some _ e,aoe a _,⟨_,Heap.get?_push_size _ rfl,rfl,rfl⟩,fp,q⟩
 ·obtain⟨t,rfl⟩:=r1;exact wpAny_pyIter_ascii ha ⟨s1.heap.objs.size,[s1.heap.objs.size],_,Its z,H1,rfl,I1.kept (t':=s1.toks) fun b ob q=>Heap.get?_push_of_some _ q,ang z t _,⟨_,Heap.get?_push_size _ rfl,rfl,rfl⟩,fp,q⟩
end
def EOk (K:PySem.W.Frag) (A:Addr->Prop) (H:Hp) (E:Ents):Prop:=∀ p∈E,SlOk K A H p.1 p.2
structure YD (K:PySem.W.Frag) (J:It) (ds:List D) (E:Ents):Prop where
 vals:aaf E=[]
 go:∀ i H A,i<ds.length->EOk K A H E->J.go i H
 yld:∀ i H A x H',i<ds.length->EOk K A H E->J.yld i H x H'->∃ d,ds[i]?=some d/\((H'=H/\Rep K A H d x)\/∃ p es vs,H p=none/\x = .ref p/\H'=upd H p (.tup vs)/\d = .tup es/\Reps K A H es vs)
 stop:∀ i H A,i=ds.length->EOk K A H E->J.stop i H
abbrev TId:=List Addr->List Sl->(List D->List Sl->Prop)->Prop
def dI (K:PySem.W.Frag) (ι:TId):TI:=fun σ H R=>∃ (B:Bs) (ρ:List Sl) (T:Ents) (Ψ:List D->List Sl->Prop),ρ.length=σ.length/\DS K B (ρ.zip σ++T) H/\ι B.dk ρ Ψ /\
 ∀ (J:It) (ds:List D) (ρ':List Sl) (E:Ents) (H':Hp),ρ'.length=σ.length->DS K B (ρ'.zip σ++(E++T)) H'->YD K J ds E->Ψ ds ρ'->R J H'
theorem dI.elim {K:PySem.W.Frag}{ι:TId}{σ:St}{H:Hp}{R:It->Hp->Prop}{P:Prop}(h:dI K ι σ H R) (f:∀ (B:Bs) (ρ:List Sl) (T:Ents) (Ψ:List D->List Sl->Prop),ρ.length=σ.length->DS K B (ρ.zip σ++T) H->ι B.dk ρ Ψ ->(∀ (J:It) (ds:List D) (ρ':List Sl) (E:Ents) (H':Hp),ρ'.length=σ.length->DS K B (ρ'.zip σ++(E++T)) H'->YD K J ds E->Ψ ds ρ'->R J H')->P):P:=by
 obtain⟨B,ρ,T,Ψ,hl,hd,ht,k⟩:=h;exact f B ρ T Ψ hl hd ht k
abbrev PId (X:Cx) (tg iter:Expr) (ι:TId):Prop:=PI X tg iter (dI X.K ι)
theorem PI.mono {X:Cx}{tg iter:Expr}{w w':TI}(h:PI X tg iter w) (k:∀ σ H R,w' σ H R->w σ H R):PI X tg iter w':=fun pins s σ H R I q=>h pins s σ H R I (k σ H R q)
def aig (z:Str):List D:=z.cps.toList.map fun c=>D.str ⟨#[c]⟩
def walkD:D->Option (List D)
 | .lst xs=>some xs
 | .tup xs=>some xs
 | .con xs=>some xs
 | .scr xs=>some xs
 | .str z=>if z.cps.all (·<128) then some (aig z) else none
 | _=>none
def iV (te:TEd):TId:=fun dk ρ Ψ=>te dk ρ fun r ρ'=>match (sd r).bind walkD with
 | some ds=>Ψ ds ρ'
 | none=>False
def afi (lo:Int) (n:Nat):List D:=(List.range n).map fun (i:Nat)=>D.int (lo+i)
def iR1 (te:TEd):TId:=fun dk ρ Ψ=>te dk ρ fun r ρ'=>match r with
 | .val (.int j)=>-(2 ^ 62)<=j/\j<2 ^ 62/\Ψ (afi 0 j.toNat) ρ'
 | _=>False
section
variable {X:Cx}{K:PySem.W.Frag}{tg e a b:Expr}{te ta tb:TEd}{pos p:Pos}
theorem awp {a:Addr}{ds:List D}:YD K (Itl K a) ds [(.val (.lst ds),some (.ref a))] where
 vals:=rfl
 go:=fun i H A hi ok=>by
  obtain⟨v,e,r⟩:=ok _ List.mem_cons_self;cases e;obtain⟨a',vs,e,_,h1,r1⟩:=r.lst_inv;cases e;exact⟨vs,vs[i]'(by rw[← r1.length];exact hi),SqL.of h1,List.getElem?_eq_getElem _⟩
 yld:=fun i H A x H' hi ok y=>by
  obtain⟨v,e,r⟩:=ok _ List.mem_cons_self;cases e;obtain⟨a',vs,e,_,h1,r1⟩:=r.lst_inv;cases e;obtain⟨d,hd,rd⟩:=r1.getV (y.2 vs (SqL.of h1));exact⟨d,hd,.inl ⟨y.1,rd⟩⟩
 stop:=fun i H A hi ok=>by
  obtain⟨v,e,r⟩:=ok _ List.mem_cons_self;cases e;obtain⟨a',vs,e,_,h1,r1⟩:=r.lst_inv;cases e;exact⟨vs,SqL.of h1,by rw[← r1.length];omega⟩
theorem yd_scr {a:Addr}{ds:List D}:YD K (Itl K a) ds [(.val (.scr ds),some (.ref a))] where
 vals:=rfl
 go:=fun i H A hi ok=>by
  obtain⟨v,e,r⟩:=ok _ List.mem_cons_self;cases e;obtain⟨a',vs,e,h1,r1⟩:=r.scr_inv;cases e;exact⟨vs,vs[i]'(by rw[← r1.length];exact hi),h1.sqL,List.getElem?_eq_getElem _⟩
 yld:=fun i H A x H' hi ok y=>by
  obtain⟨v,e,r⟩:=ok _ List.mem_cons_self;cases e;obtain⟨a',vs,e,h1,r1⟩:=r.scr_inv;cases e;obtain⟨d,hd,rd⟩:=r1.getV (y.2 vs h1.sqL);exact⟨d,hd,.inl ⟨y.1,rd⟩⟩
 stop:=fun i H A hi ok=>by
  obtain⟨v,e,r⟩:=ok _ List.mem_cons_self;cases e;obtain⟨a',vs,e,h1,r1⟩:=r.scr_inv;cases e;exact⟨vs,h1.sqL,by rw[← r1.length];omega⟩
theorem auq {a:Addr}{d:D}{ds:List D}(hd:d = .tup ds\/d = .con ds):YD K (Itt K a) ds [(.val d,some (.ref a))]:=by
 have key:∀ A H,EOk K A H [(.val d,some (.ref a))]->∃ vs,SqT K H a vs/\Reps K A H ds vs:=fun A H ok=>by
  obtain⟨v,e,r⟩:=ok _ List.mem_cons_self;cases e;rcases hd with rfl | rfl
  ·obtain⟨a',vs,e,h1,r1⟩:=r.tup_inv;cases e;exact⟨vs,SqT.of h1,r1⟩
  ·obtain⟨a',vs,e,h1,r1⟩:=r.con_inv;cases e;exact⟨vs,h1.sqT,r1⟩
 refine⟨rfl,fun i H A hi ok=>?_,fun i H A x H' hi ok y=>?_,fun i H A hi ok=>?_⟩
 ·obtain⟨vs,h1,r1⟩:=key A H ok;exact⟨vs,vs[i]'(by rw[← r1.length];exact hi),h1,List.getElem?_eq_getElem _⟩
 ·obtain⟨vs,h1,r1⟩:=key A H ok;obtain⟨d,hd,rd⟩:=r1.getV (y.2 vs h1);exact⟨d,hd,.inl ⟨y.1,rd⟩⟩
 ·obtain⟨vs,h1,r1⟩:=key A H ok;exact⟨vs,h1,by rw[← r1.length];omega⟩
theorem yd_str {z:Str}:YD K (Its z) (aig z) [] where
 vals:=rfl
 go:=fun i H A hi _=>by simpa [Its,aig,Str.length] using hi
 yld:=fun i H A x H' hi _ y=>by
  obtain⟨e,c,hc,rfl⟩:=y;refine⟨.str ⟨#[c]⟩,?_,.inl ⟨e,.str _⟩⟩;unfold aig;rw[List.getElem?_map,Array.getElem?_toList,hc];rfl
 stop:=fun i H A hi _=>by simp[Its,hi,aig,Str.length]
theorem at6 {lo:Int}{n:Nat}:YD K (Itr lo n) (afi lo n) [] where
 vals:=rfl
 go:=fun i H A hi _=>by simpa [Itr,afi] using hi
 yld:=fun i H A x H' hi _ y=>by
  have hi':i<n:=by simpa [afi] using hi
  refine⟨.int (lo+i),by simp[afi,hi'],.inl ⟨y.1,?_⟩⟩;rw[y.2];exact .int _
 stop:=fun i H A hi _=>by simp[Itr,afi,hi]
theorem i_v (he:PD X e te):PId X tg e (iV te):=(asd he).mono fun σ H R hq0=>hq0.elim fun B ρ T Ψ hl hd ht k=>⟨B,ρ,T,_,hl,hd,ht,fun r ρ' v H' l1 d1 h1=>by
 cases e1:sd r with
 | none=>rw[e1] at h1;exact h1.elim
 | some d =>
  rw[e1] at h1;have d2:=d1.thaw e1;have rv:=d2.valAt;cases d with
  | lst xs=>obtain⟨a,vs,rfl,_,h2,r2⟩:=rv.lst_inv;exact .inl ⟨a,rfl,⟨vs,SqL.of h2⟩,k _ xs ρ' [_] H' l1 d2 awp h1⟩
  | scr xs=>obtain⟨a,vs,rfl,h2,r2⟩:=rv.scr_inv;exact .inl ⟨a,rfl,⟨vs,h2.sqL⟩,k _ xs ρ' [_] H' l1 d2 yd_scr h1⟩
  | tup xs=>obtain⟨a,vs,rfl,h2,r2⟩:=rv.tup_inv;exact .inr (.inl ⟨a,rfl,⟨vs,SqT.of h2⟩,k _ xs ρ' [_] H' l1 d2 (auq (.inl rfl)) h1⟩)
  | con xs=>obtain⟨a,vs,rfl,h2,r2⟩:=rv.con_inv;exact .inr (.inl ⟨a,rfl,⟨vs,h2.sqT⟩,k _ xs ρ' [_] H' l1 d2 (auq (.inr rfl)) h1⟩)
  | str z =>
   have:=rv.str_inv;subst this;have h1:=(show (match (if z.cps.all (·<128)=true then some (aig z) else none:Option (List D)) with | some ds=>Ψ ds ρ' | none=>False) from h1);by_cases hz:z.cps.all (·<128)=true
   ·rw[if_pos hz] at h1;exact .inr (.inr ⟨z,rfl,hz,k _ _ ρ' [] H' l1 d2.drop yd_str h1⟩)
   ·rw[if_neg hz] at h1;exact h1.elim
  | _=>exact h1.elim⟩
theorem i_r1 (hg:Gl X "range") (hm:X.mg "range" = none) (ha:PD X a te) (hs:starEach [a] X.env=[(false,eval a X.env)]:=by rfl) (hn:af1 a=true:=by rfl):PId X tg (.Call (.Name "range" p) [a] [] pos) (iR1 te) :=
 (adu hg hm (pa_c ha aak hn) hs).mono fun σ H R hq0=>hq0.elim fun B ρ T Ψ hl hd ht k=>⟨B,ρ,T,_,hl,hd,ht,fun r ρ' v H' l1 d1 h1=>by
  cases r<;>first | exact False.elim h1 | skip
  rename_i d
  cases d<;>first | exact False.elim h1 | skip
  have:=d1.valAt.int_inv;subst this;exact⟨_,rfl,h1.1,h1.2.1,k _ _ ρ' [] H' l1 d1.drop at6 h1.2.2⟩⟩
def sFor (ι:TId) (g:TGd) (tb:TSd):TSd:=fun dk De ρ=>ι dk ρ fun ds ρ1=>∃ Pv:Nat->List Sl->Prop,Pv 0 ρ1 /\
 (∀ i d ρ',ds[i]?=some d->Pv i ρ'->g d ρ' fun ρ2=>tb dk { nx:=Pv (i+1),ct:=Pv (i+1),bk:=De.nx,rt:=De.rt } ρ2)/\∀ ρ',Pv ds.length ρ'->De.nx ρ'
theorem DS.rmE {B:Bs}{H:Hp}{L T:Ents}:∀ {E:Ents},DS K B (L++(E++T)) H->DS K B (L++T) H
 | [],h=>h
 | x::E,h=>DS.rmE (E:=E) (DS.drop (L1:=L) (x:=x) (by simpa using h))
theorem afj {iter:Expr}{m:Nat}{body:List Stmt}{ι:TId}{g:TGd}{tb:TSd}(hp:PassesOwn (model X.prog X.w) X.A X.env X.xe) (hc:X.calm=true) (hi:PId X tg iter ι) (hg:PGd X m tg g) (hb:PSsd X body tb)
  (hs:∀ x,foldedSetIterable iter X.env x=pure x:=by intro _;rfl):PSd X (.For tg iter body [] pos) (sFor ι g tb) :=
 (ahz hp hc hi hg hb hs).mono fun Dn σ H hq0=>hq0.elim fun B ρ T De hl hd ht lk=>⟨B,ρ,T,_,hl,hd,ht,fun J ds ρ1 E H1 l1 d1 Y ⟨Pv,p0,step,fin⟩=>by
  refine⟨fun i m σ' H'=>m=ds.length-i/\i<=ds.length/\∃ ρ',ρ'.length=σ'.length/\σ'.length=σ.length/\DS X.K B (ρ'.zip σ'++(E++T)) H'/\Pv i ρ',⟨_,rfl,Nat.zero_le _,ρ1,l1,rfl,d1,p0⟩,?_⟩;rintro i m σ' H' ⟨rfl,hi',ρ',m1,m2,d',pv⟩;have eok:EOk X.K (Al B (aaf (ρ'.zip σ'++(E++T)))) H' E:=fun q hq=>d'.ok q (by simp[hq])
  by_cases hlt:i<ds.length
  ·refine .inr ⟨Y.go i H' _ hlt eok,fun σ2 H2=>∃ ρ2,ρ2.length=σ2.length/\σ2.length=σ.length/\DS X.K B (ρ2.zip σ2++(E++T)) H2/\Pv (i+1) ρ2,fun σ2 H2 ⟨ρ2,q1,q2,q3,q4⟩=>⟨_,(by omega:ds.length-(i+1)<_),rfl,hlt,ρ2,q1,q2,q3,q4⟩,fun x H2 y=>?_⟩;obtain⟨d,hdi,alt⟩:=Y.yld i H' _ x H2 hlt eok y;have d2:DS X.K B (ρ'.zip σ'++(.val d,some x)::(E++T)) H2:=by
    rcases alt with⟨rfl,rx⟩ | ⟨p,es,vs,hp',rfl,rfl,rfl,rr⟩
    ·exact d'.push rx
    ·exact d'.tup hp' rr
   refine⟨B,ρ',E++T,d,_,m1,d2,step i d ρ' hdi pv,fun ρ2 σ2 H3 n1 n2 _ d3 q3=>⟨B,ρ2,E++T,_,n1,d3,q3,?_,?_⟩⟩
   ·intro ρ4 σ4 H4 a1 a2 a3;refine⟨fun z=>⟨ρ4,a1,by omega,a3,z⟩,fun z=>?_,fun z=>⟨ρ4,a1,by omega,a3,z⟩⟩;exact (lk.1 ρ4 σ4 H4 a1 (by omega) a3.rmE).1 z
   ·intro r v ρ4 σ4 H4 a1 a3 z;refine lk.2 r v ρ4 σ4 H4 a1 ?_ z;have:DS X.K B ((ρ4.zip σ4++[(r,some v)])++(E++T)) H4:=by simpa using a3
    simpa using this.rmE
  ·have ei:i=ds.length:=by omega
   subst ei;exact .inl ⟨Y.stop _ H' _ rfl eok,(lk.1 ρ' σ' H' m1 m2 d'.rmE).1 (fin ρ' pv)⟩⟩
def sWhile (c:TTd) (tb:TSd):TSd:=fun dk De ρ=>∃ (Pv:List Sl->Prop) (μ:List Sl->Nat),Pv ρ/\∀ ρ,Pv ρ->c dk ρ fun b ρ1 =>
 if b=true then tb dk { nx:=fun ρ'=>Pv ρ'/\μ ρ'<μ ρ,ct:=fun ρ'=>Pv ρ'/\μ ρ'<μ ρ,bk:=De.nx,rt:=De.rt } ρ1 else De.nx ρ1
theorem axk {c:Expr}{body:List Stmt}{tc:TTd}{tb:TSd}(hp:PassesOwn (model X.prog X.w) X.A X.env X.xe) (hc:PDt X c tc) (hb:PSsd X body tb):PSd X (.While c body [] pos) (sWhile tc tb) :=
 (aud hp hc hb).mono fun Dn σ H hq0=>hq0.elim fun B ρ T De hl hd ⟨Pv,μ,p0,step⟩ lk=>by
  refine⟨fun m σ' H'=>∃ ρ',m=μ ρ'/\ρ'.length=σ'.length/\σ'.length=σ.length/\DS X.K B (ρ'.zip σ'++T) H'/\Pv ρ',⟨_,ρ,rfl,hl,rfl,hd,p0⟩,?_⟩;rintro m σ' H' ⟨ρ',rfl,m1,m2,d',pv⟩;refine⟨B,ρ',T,_,m1,d',step ρ' pv,fun b ρ1 H1 l1 d1 h1=>?_⟩;cases b with
  | true =>
   refine (if_pos rfl).mpr ⟨fun σ2 H2=>∃ ρ2,ρ2.length=σ2.length/\σ2.length=σ.length/\DS X.K B (ρ2.zip σ2++T) H2/\Pv ρ2/\μ ρ2<μ ρ',fun σ2 H2 ⟨ρ2,q1,q2,q3,q4,q5⟩=>⟨_,q5,ρ2,rfl,q1,q2,q3,q4⟩,B,ρ1,T,_,l1,d1,(if_pos rfl).mp h1,?_,?_⟩
   ·intro ρ4 σ4 H4 a1 a2 a3;exact⟨fun z=>⟨ρ4,a1,by omega,a3,z⟩,fun z=>(lk.1 ρ4 σ4 H4 a1 (by omega) a3).1 z,fun z=>⟨ρ4,a1,by omega,a3,z⟩⟩
   ·exact fun r v ρ4 σ4 H4 a1 a3 z=>lk.2 r v ρ4 σ4 H4 a1 a3 z
  | false=>exact iteF ((lk.1 ρ1 σ' H1 l1 m2 d1).1 ((if_neg (by decide)).mp h1))
end
def pinB (B:Bs) (D:Addr) (ys:List V):Bs:=⟨B.dk,fun a=>(B.A0 a\/B.H0 a=none)/\a≠D,fun a=>if a=D then some (.lst ys) else B.H0 a⟩
section
variable {K:PySem.W.Frag}{B:Bs}{H:Hp}{L R:Ents}{D:Addr}{ys ys':List V}
theorem ag6 {R:List Addr}{a:Addr}:Al (pinB B D ys) R a↔Al B R a/\a≠D:=by
 unfold Al pinB;constructor
 ·rintro ⟨h1,h2,h3 | h3⟩
  ·exact⟨⟨h1,h2,h3.1⟩,h3.2⟩
  ·dsimp only at h3;by_cases z:a=D
   ·rw[if_pos z] at h3;cases h3
   ·rw[if_neg z] at h3;exact⟨⟨h1,h2,.inr h3⟩,z⟩
 ·rintro ⟨⟨h1,h2,h3⟩,h4⟩;exact⟨h1,h2,.inl ⟨h3,h4⟩⟩
theorem DS.pin (h:DS K B L H) (hD:H D=none):DS K (pinB B D []) L (upd H D (.lst [])):=by
 obtain⟨f1,f2,f3⟩:=h.free hD;refine⟨fun b o e n=>?_,h.dk.upd f2,h.nd,fun a ha=>?_,fun p hp=>(h.ok p hp).mono (.laid hD fun a z n=>ag6.mpr ⟨z,n⟩) fun b hb o q=>by rw[aad (aab q hD)];exact q⟩
 ·by_cases z:b=D
  ·subst z;simp only[pinB,if_true] at e;cases e;exact aaa
  ·simp only[pinB,if_neg z] at e;rw[aad z];exact h.fr b o e n
 ·have:=h.new a ha;have z:a≠D:=fun q=>f3 (q▸ha)
  exact⟨by simp only[pinB,if_neg z];exact this.1,this.2⟩
theorem DS.pinAt (h:DS K (pinB B D ys) L H) (hn:D∉B.dk):H D=some (.lst ys):=h.fr D _ (by simp[pinB]) hn
theorem DS.pinW (h:DS K (pinB B D ys) L H) (hn:D∉B.dk):DS K (pinB B D ys') L (upd H D (.lst ys')):=by
 have hD:=h.pinAt hn;have kp:Kp (Al (pinB B D ys) (aaf L)) (Al (pinB B D ys') (aaf L)) H (upd H D (.lst ys')) :=
  (Kp.write (A:=Al (pinB B D ys) (aaf L)) hD rfl fun z=>(ag6.mp z).2 rfl).trans (.all fun a z=>ag6.mpr (ag6.mp z))
 refine⟨fun b o e n=>?_,h.dk.upd hn,h.nd,fun a ha=>?_,fun p hp=>(h.ok p hp).mono kp fun b hb o q=>?_⟩
 ·by_cases z:b=D
  ·subst z;simp only[pinB,if_true] at e;cases e;exact aaa
  ·simp only[pinB,if_neg z] at e;rw[aad z];exact h.fr b o (by simp only[pinB,if_neg z];exact e) n
 ·have:=h.new a ha;have z:a≠D:=fun q=>by subst q;simp[pinB] at this
  simp only[pinB,if_neg z] at this ⊢;exact this
 ·have:=(h.new b (abw.mpr ⟨p,hp,hb⟩)).1;have z:b≠D:=fun w=>by subst w;simp[pinB] at this
  rw[aad z];exact q
theorem DS.unpin {yd:List L2.D}(h:DS K (pinB B D ys) L H) (r:Reps K (Al (pinB B D ys) (aaf L)) H yd ys) (h0:B.H0 D=none) (hn:D∉B.dk):DS K B ((.own (.lst yd),some (.ref D))::L) H:=by
 have hD:=h.pinAt hn;have nr:D∉aaf L:=fun z=>by have:=(h.new D z).1;simp[pinB] at this
 have e1:aaf ((Sl.own (.lst yd),some (V.ref D))::L)=D::aaf L:=rfl;have al:∀ a,Al (pinB B D ys) (aaf L) a->Al B (D::aaf L) a:=fun a z=>by
  obtain⟨z1,z2⟩:=ag6.mp z;exact⟨z1.1,fun q=>(List.mem_cons.mp q).elim z2 z1.2.1,z1.2.2⟩
 refine⟨fun b o e n=>?_,h.dk,by rw[e1];exact List.nodup_cons.mpr ⟨nr,h.nd⟩,fun a ha=>?_,fun p hp=>?_⟩
 ·have z:b≠D:=fun q=>by subst q;rw[h0] at e;cases e
  exact h.fr b o (by simp only[pinB,if_neg z];exact e) n
 ·rw[e1] at ha;rcases List.mem_cons.mp ha with q | q
  ·subst q;exact⟨h0,hn⟩
  ·have:=h.new a q;have z:a≠D:=fun w=>nr (w▸q)
   simp only[pinB,if_neg z] at this;exact this
 ·rw[e1];rcases List.mem_cons.mp hp with q | q
  ·subst q;exact⟨D,rfl,ys,hD,r.mono (.all al)⟩
  ·exact (h.ok p q).mono (.all al) fun _ _ _ w=>w
theorem DS.lend1 {ρ:List Sl}{σ:St}(hl:ρ.length=σ.length) (h:DS K B (ρ.zip σ++R) H) (i:Nat):DS K B ((ρ.set i .no).zip σ++((ρ[i]?).getD .no,(σ[i]?).join)::R) H:=by
 by_cases hi:i<ρ.length
 ·obtain⟨l1,y,l2,hy,_,hz,hset⟩:=aey hl (List.getElem?_eq_getElem hi);rw[hz] at h;have h1:DS K B (l1++(ρ[i],y)::(l2++R)) H:=by simpa using h
  have h2:=h1.front;have h3:DS K B (((ρ[i],y)::l1)++(.no,y)::(l2++R)) H:=DS.pushN (L1:=(ρ[i],y)::l1) (by simpa using h2) y;have e:=hset .no y;rw[afg hy] at e;rw[e,List.getElem?_eq_getElem hi,hy];have h4:DS K B ((ρ[i],y)::((l1++(Sl.no,y)::l2)++R)) H:=by simpa using h3
  exact h4.mid
 ·rw[List.set_eq_of_length_le (by omega),List.getElem?_eq_none (by omega),List.getElem?_eq_none (by omega)];exact h.pushN _
theorem DS.back1 {ρ:List Sl}{σ:St}{s:Sl}{y:Option V}(hl:ρ.length=σ.length) (h:DS K B (ρ.zip σ++(s,y)::R) H){i:Nat}(hy:(σ[i]?).join=y):DS K B ((ρ.set i s).zip σ++R) H:=by
 by_cases hi:i<ρ.length
 ·obtain⟨l1,y',l2,hy',_,hz,hset⟩:=aey hl (List.getElem?_eq_getElem hi);rw[hy'] at hy;have hy:y'=y:=hy;subst hy;have e:=hset s y';rw[afg hy'] at e;rw[e];rw[hz] at h;have h2:DS K B (l1++(l2++(s,y')::R)) H:=DS.drop (L1:=l1) (x:=(ρ[i],y')) (by simpa using h);have h3:DS K B ((l1++l2)++(s,y')::R) H:=by simpa using h2
  have h4:DS K B ((s,y')::(l1++(l2++R))) H:=by simpa using h3.front
  simpa using h4.mid
 ·rw[List.set_eq_of_length_le (by omega)];exact h.drop
def capS (caps:List Nat) (ρ:List Sl):List Sl:=caps.map fun i=>(ρ[i]?).getD .no
def capV (caps:List Nat) (σ:St):St:=caps.map fun i=>(σ[i]?).join
def lent (caps:List Nat) (ρ:List Sl):List Sl:=caps.foldl (fun ρ i=>ρ.set i .no) ρ
def adi:List Nat->List Sl->List Sl->List Sl
 | i::caps,s::cs,ρ=>adi caps cs (ρ.set i s)
 | _,_,ρ=>ρ
theorem aja:∀ (caps:List Nat) (ρ:List Sl),(lent caps ρ).length=ρ.length
 | [],_=>rfl
 | i::caps,ρ=>by show (lent caps (ρ.set i .no)).length=_;rw[aja caps,List.length_set]
theorem anw:∀ (caps:List Nat) (cs:List Sl) (ρ:List Sl),(adi caps cs ρ).length=ρ.length
 | [],_,_=>rfl
 | _::_,[],_=>rfl
 | i::caps,s::cs,ρ=>(anw caps cs (ρ.set i s)).trans (List.length_set ..)
theorem DS.lend {σ:St}:∀ {caps:List Nat}{ρ:List Sl}{R:Ents},caps.Nodup->ρ.length=σ.length->DS K B (ρ.zip σ++R) H->DS K B ((lent caps ρ).zip σ++((capS caps ρ).zip (capV caps σ)++R)) H
 | [],ρ,R,_,hl,h=>h
 | i::caps,ρ,R,hn,hl,h=>by
  obtain⟨n1,n2⟩:=List.nodup_cons.mp hn;have h1:=DS.lend (caps:=caps) (R:=((ρ[i]?).getD .no,(σ[i]?).join)::R) n2 (by rw[List.length_set];exact hl) (h.lend1 hl i);have e:capS caps (ρ.set i .no)=capS caps ρ:=List.map_congr_left fun j hj=>by rw[List.getElem?_set_ne (fun z:i=j=>n1 (by rw[z];exact hj))]
  rw[e] at h1;show DS K B ((lent caps (ρ.set i .no)).zip σ++((((ρ[i]?).getD .no,(σ[i]?).join)::(capS caps ρ).zip (capV caps σ))++R)) H;refine h1.perm (List.Perm.append_left _ ?_);rw[List.cons_append];exact List.perm_middle
theorem DS.back {σ:St}:∀ {caps:List Nat}{cs:List Sl}{ρ:List Sl}{R:Ents},cs.length=caps.length->ρ.length=σ.length->DS K B (ρ.zip σ++(cs.zip (capV caps σ)++R)) H->DS K B ((adi caps cs ρ).zip σ++R) H
 | [],[],ρ,R,_,hl,h=>h
 | [],_::_,_,_,e,_,_=>by simp at e
 | _::_,[],_,_,e,_,_=>by simp at e
 | i::caps,s::cs,ρ,R,e,hl,h=>by
  have h1:DS K B (ρ.zip σ++(s,(σ[i]?).join)::(cs.zip (capV caps σ)++R)) H:=h;exact DS.back (caps:=caps) (cs:=cs) (by simpa using e) (by rw[List.length_set];exact hl) (h1.back1 hl rfl)
theorem ar5 (caps:List Nat):∀ (cs:List Sl) (ρ:List Sl),cs.length=caps.length->caps.Nodup->adi caps cs (lent caps ρ)=adi caps cs ρ:=by
 have ext:∀ (caps:List Nat) (cs:List Sl) (ρ ρ':List Sl),cs.length=caps.length->ρ.length=ρ'.length->(∀ j,j∉caps->ρ[j]?=ρ'[j]?)->adi caps cs ρ=adi caps cs ρ':=by
  intro caps;induction caps with
  | nil=>intro cs ρ ρ' _ _ h;cases cs<;>exact List.ext_getElem? fun j=>h j List.not_mem_nil
  | cons i caps ih =>
   intro cs ρ ρ' e hl h;cases cs with
   | nil=>simp at e
   | cons s cs =>
    show adi caps cs (ρ.set i s)=adi caps cs (ρ'.set i s);refine ih cs _ _ (by simpa using e) (by simp[hl]) fun j hj=>?_
    by_cases z:j=i
    ·subst z;rw[List.getElem?_set,List.getElem?_set,hl,if_pos rfl,if_pos rfl]
    ·rw[List.getElem?_set_ne (Ne.symm z),List.getElem?_set_ne (Ne.symm z)];exact h j fun q=>(List.mem_cons.mp q).elim z hj
 intro cs ρ e _;refine ext caps cs _ _ e (aja caps ρ) fun j hj=>?_
 have:∀ (caps:List Nat) (ρ:List Sl),j∉caps->(lent caps ρ)[j]?=ρ[j]?:=by
  intro caps;induction caps with
  | nil=>intro ρ _;rfl
  | cons i caps ih =>
   intro ρ hj;show (lent caps (ρ.set i .no))[j]?=_;rw[ih _ (fun z=>hj (List.mem_cons_of_mem _ z)),List.getElem?_set_ne (fun z=>hj (by simp[z]))]
 exact this caps ρ hj
theorem agb {A:Addr->Prop}:∀ {yd:List L2.D}{ys:List V},yd.length=ys.length->(∀ p∈acn yd ys,SlOk K A H p.1 p.2)->Reps K A H yd ys
 | [],[],_,_=>.nil
 | [],_::_,e,_=>by simp at e
 | _::_,[],e,_=>by simp at e
 | c::yd,y::ys,e,key=>by
  obtain⟨u,e1,r⟩:=key (.val c,some y) (by simp[acn]);cases e1;exact .cons r (agb (by simpa using e) fun p hp=>key p (by simp only[acn,List.zip_cons_cons,List.map_cons,List.mem_cons] at hp ⊢;exact .inr hp))
theorem DS.forget {ρ:List Sl}{σ:St}(n:Nat) (hl:ρ.length=σ.length) (hn:n<=ρ.length) (h:DS K B (ρ.zip σ++R) H):DS K B ((List.replicate n Sl.no++ρ.drop n).zip σ++R) H:=by
 induction n generalizing ρ σ R with
 | zero=>simpa using h
 | succ n ih =>
  cases ρ with
  | nil=>simp at hn
  | cons r ρ =>
   cases σ with
   | nil=>simp at hl
   | cons y σ =>
    have h1:DS K B (ρ.zip σ++R) H:=DS.drop (L1:=[]) (x:=(r,y)) h;have h2:=ih (ρ:=ρ) (σ:=σ) (R:=R) (by simpa using hl) (by simpa using hn) h1;rw[List.replicate_succ,List.cons_append,List.drop_succ_cons,List.zip_cons_cons];exact DS.pushN (L1:=[]) h2 y
end
def yesD:TTd:=fun _ ρ Φ=>Φ true ρ
def eLC (n:Nat) (caps:List Nat) (ι:TId) (g:TGd) (tt:TTd) (te:TEd):TEd:=fun dk ρ Φ=>ι dk ρ fun ds ρ1=>∃ Pv:Nat->List D->List Sl->Prop,Pv 0 [] (capS caps ρ1) /\
 (∀ i d ys cs,ds[i]?=some d->cs.length=caps.length->Pv i ys cs->g d (List.replicate n Sl.no++cs) fun ρ2=>tt dk ρ2 fun b ρ3=>if b=true then te dk ρ3 fun r ρ4=>match sd r with
  | some c=>ys.length<100000/\Pv (i+1) (ys++[c]) (ρ4.drop n)
  | none=>False
  else Pv (i+1) ys (ρ3.drop n)) /\
 ∀ ys cs,cs.length=caps.length->Pv ds.length ys cs->Φ (.own (.lst ys)) (adi caps cs ρ1)
section
variable {X:Cx}
theorem adh:PIfs X [] (dTt X.K yesD):=fun pins s σ H Q I hq0=>hq0.elim fun B ρ T Φ hl hd ht k=>agl pins s σ H Q I (k true ρ H hl hd ht)
theorem aqi {c:Expr}{t:TTd}(h:PDt X c t):PIfs X [c] (dTt X.K t):=anp h
theorem apt {T:List Str}{caps:List Nat}{ι:TId}{g:TGd}{tt:TTd}{te:TEd}{K:PySem.W.Frag}(hcap:caps.Nodup){σ:St}{H:Hp}{Q:VK}(h:dE K (eLC T.length caps ι g tt te) σ H Q) :
  tLC T caps (dI K ι) (dG K T.length g) (dTt K tt) (dE K te) σ H Q:=by
 obtain⟨B,ρ,Tm,Φ,hl,hd,ht,k⟩:=h;refine⟨B,ρ,Tm,_,hl,hd,ht,fun J ds ρ1 E H1 l1 d1 Y ⟨Pv,p0,step,fin⟩ D hD=>?_⟩;obtain⟨f1,f2,f3⟩:=d1.free hD;refine⟨fun i m ys σ' H'=>m=ds.length-i/\i<=ds.length/\σ'.length=T.length+caps.length/\(∀ j,T.length<=j->σ'[j]?=(lcs T caps σ)[j]?)/\∃ (yd:List L2.D) (cs:List Sl),cs.length=caps.length/\yd.length=ys.length /\ DS K (pinB B D ys) ((List.replicate T.length Sl.no++cs).zip σ'++((lent caps ρ1).zip σ++(acn yd ys++(E++Tm)))) H'/\Pv i yd cs,?_,?_⟩
 ·refine⟨_,rfl,Nat.zero_le _,by simp[lcs],fun _ _=>rfl,[],capS caps ρ1,by simp[capS],rfl,?_,p0⟩;have h2:=(d1.lend hcap l1).pin hD;have e:(List.replicate T.length Sl.no++capS caps ρ1).zip (lcs T caps σ)=List.replicate T.length (Sl.no,none)++(capS caps ρ1).zip (capV caps σ):=by
   have:∀ n,(List.replicate n Sl.no++capS caps ρ1).zip (List.replicate n none++capV caps σ)=List.replicate n (Sl.no,none)++(capS caps ρ1).zip (capV caps σ):=by
    intro n;induction n with
    | zero=>rfl
    | succ n ih=>simp only[List.replicate_succ,List.cons_append,List.zip_cons_cons,ih]
   have e2:lcs T caps σ=List.replicate T.length none++capV caps σ:=by unfold lcs capV;rw[List.map_const']
   rw[e2];exact this _
  rw[e];have h3:DS K (pinB B D []) ((capS caps ρ1).zip (capV caps σ)++((lent caps ρ1).zip σ++(E++Tm))) (upd H1 D (.lst [])):=h2.perm (by
   rw[← List.append_assoc,← List.append_assoc (as:=(capS caps ρ1).zip (capV caps σ))];exact List.perm_append_comm.append_right _)
  have:∀ n,DS K (pinB B D []) (List.replicate n (Sl.no,none)++((capS caps ρ1).zip (capV caps σ)++((lent caps ρ1).zip σ++(E++Tm)))) (upd H1 D (.lst [])):=by
   intro n;induction n with
   | zero=>exact h3
   | succ n ih=>rw[List.replicate_succ];exact DS.pushN (L1:=[]) ih none
  have e3:acn ([]:List L2.D) ([]:List V)=[]:=rfl;rw[e3]
  simpa using this T.length
 ·rintro i m ys σ' H' ⟨rfl,hi,ls,fs,yd,cs,lc,ly,d',pv⟩;have eok:EOk K (Al (pinB B D ys) (aaf ((List.replicate T.length Sl.no++cs).zip σ'++((lent caps ρ1).zip σ++(acn yd ys++(E++Tm)))))) H' E:=fun q hq=>d'.ok q (by simp[hq])
  by_cases hlt:i<ds.length
  ·refine .inr ⟨Y.go i H' _ hlt eok,fun σ2 v H5=>σ2.length=T.length+caps.length/\(∀ j,T.length<=j->σ2[j]?=(lcs T caps σ)[j]?)/\ys.length<100000/\∃ (c:L2.D) (ρ4:List Sl),ρ4.length=σ2.length/\DS K (pinB B D ys) (ρ4.zip σ2++(.val c,some v)::((lent caps ρ1).zip σ++(acn yd ys++(E++Tm)))) H5/\Pv (i+1) (yd++[c]) (ρ4.drop T.length),fun σ2 H4=>σ2.length=T.length+caps.length/\(∀ j,T.length<=j->σ2[j]?=(lcs T caps σ)[j]?)/\∃ ρ4:List Sl,ρ4.length=σ2.length/\DS K (pinB B D ys) (ρ4.zip σ2++((lent caps ρ1).zip σ++(acn yd ys++(E++Tm)))) H4/\Pv (i+1) yd (ρ4.drop T.length),?_,?_,fun x H2 y=>?_⟩
   ·rintro σ2 v H5 ⟨q1,q2,q3,c,ρ4,q4,q5,q6⟩;refine⟨q5.pinAt f2,Nat.lt_of_lt_of_le q3 (by decide),ds.length-(i+1),by omega,rfl,hlt,q1,q2,yd++[c],ρ4.drop T.length,by rw[List.length_drop];omega,by simp[ly],?_,q6⟩;have w1:=(q5.pinW (ys':=ys++[v]) f2).forget T.length q4 (by omega);refine w1.perm (List.Perm.append_left _ ?_);have ev:acn (yd++[c]) (ys++[v])=acn yd ys++[(.val c,some v)]:=by unfold acn;rw[List.zip_append ly,List.map_append];rfl
    rw[ev];have p1:((Sl.val c,some v)::((lent caps ρ1).zip σ++(acn yd ys++(E++Tm)))).Perm ((lent caps ρ1).zip σ++(acn yd ys++((Sl.val c,some v)::(E++Tm)))):=by
     rw[← List.append_assoc,← List.append_assoc (as:=(lent caps ρ1).zip σ)];exact List.perm_middle.symm
    simpa using p1
   ·rintro σ2 H4 ⟨q1,q2,ρ4,q4,q5,q6⟩;exact⟨ds.length-(i+1),by omega,rfl,hlt,q1,q2,yd,ρ4.drop T.length,by rw[List.length_drop];omega,ly,q5.forget T.length q4 (by omega),q6⟩
   ·obtain⟨d,hdi,alt⟩:=Y.yld i H' _ x H2 hlt eok y;have d2:DS K (pinB B D ys) ((List.replicate T.length Sl.no++cs).zip σ'++(.val d,some x)::((lent caps ρ1).zip σ++(acn yd ys++(E++Tm)))) H2:=by
     rcases alt with⟨rfl,rx⟩ | ⟨p,es,vs,hp',rfl,rfl,rfl,rr⟩
     ·exact d'.push rx
     ·exact d'.tup hp' rr
    refine⟨pinB B D ys,_,_,d,_,by simp[lc,ls],d2,step i d yd cs hdi lc pv,fun ρ2 σ2 H3 n1 n2 fr d3 q3=>⟨pinB B D ys,ρ2,_,_,n1,d3,q3,fun b ρ3 H4 m1 d4 q4=>?_⟩⟩;have fr2:∀ j,T.length<=j->σ2[j]?=(lcs T caps σ)[j]?:=fun j hj=>(fr j hj).trans (fs j hj)
    cases b with
    | false=>exact iteF ⟨by omega,fr2,ρ3,m1,d4,(if_neg (by decide)).mp q4⟩
    | true =>
     refine (if_pos rfl).mpr ⟨pinB B D ys,ρ3,_,_,m1,d4,(if_pos rfl).mp q4,fun r ρ4 v H5 m4 d5 q5=>?_⟩;cases e1:sd r with
     | none=>rw[e1] at q5;exact q5.elim
     | some c =>
      rw[e1] at q5;exact⟨by omega,fr2,by rw[← ly];exact q5.1,c,ρ4,m4,d5.thaw e1,q5.2⟩
  ·have ei:i=ds.length:=by omega
   subst ei;refine .inl ⟨Y.stop _ H' _ rfl eok,?_⟩;have es:σ'=σ'.take T.length++capV caps σ:=by
    apply List.ext_getElem?;intro j;by_cases hj:j<T.length
    ·rw[List.getElem?_append_left (by rw[List.length_take];omega),List.getElem?_take_of_lt hj]
    ·rw[List.getElem?_append_right (by rw[List.length_take];omega),List.length_take,fs j (by omega)];have e2:lcs T caps σ=List.replicate T.length none++capV caps σ:=by unfold lcs capV;rw[List.map_const']
     rw[e2,List.getElem?_append_right (by rw[List.length_replicate];omega),List.length_replicate]
     congr 1
     omega
   have ez:(List.replicate T.length Sl.no++cs).zip σ'=(List.replicate T.length Sl.no).zip (σ'.take T.length)++cs.zip (capV caps σ):=by
    conv=>lhs;rw[es]
    exact List.zip_append (by rw[List.length_replicate,List.length_take];omega)
   have rr:Reps K (Al (pinB B D ys) (aaf ((adi caps cs (lent caps ρ1)).zip σ++Tm))) H' yd ys/\DS K (pinB B D ys) ((adi caps cs (lent caps ρ1)).zip σ++Tm) H':=by
    have g1:DS K (pinB B D ys) (cs.zip (capV caps σ)++((lent caps ρ1).zip σ++(acn yd ys++(E++Tm)))) H':=by
     rw[ez,List.append_assoc] at d';exact DS.rmE (L:=[]) (E:=(List.replicate T.length Sl.no).zip (σ'.take T.length)) d'
    have g2:DS K (pinB B D ys) ((lent caps ρ1).zip σ++(cs.zip (capV caps σ)++(acn yd ys++(E++Tm)))) H':=g1.perm (by
     rw[← List.append_assoc,← List.append_assoc (as:=(lent caps ρ1).zip σ)];exact List.perm_append_comm.append_right _)
    have g3:=g2.back lc (by rw[aja];exact l1);have g4:DS K (pinB B D ys) ((adi caps cs (lent caps ρ1)).zip σ++(acn yd ys++Tm)) H':=by
     have:DS K (pinB B D ys) (((adi caps cs (lent caps ρ1)).zip σ++acn yd ys)++(E++Tm)) H':=by simpa using g3
     simpa using this.rmE
    refine⟨?_,g4.rmE⟩;have er:aaf ((adi caps cs (lent caps ρ1)).zip σ++(acn yd ys++Tm))=aaf ((adi caps cs (lent caps ρ1)).zip σ++Tm):=by
     have:aaf (acn yd ys)=[]:=by
      refine List.eq_nil_iff_forall_not_mem.mpr fun a ha=>?_
      obtain⟨q,hq,e⟩:=abw.mp ha;obtain⟨p,_,rfl⟩:=List.mem_map.mp hq;cases e
     rw[aaz,aaz,aaz,this,List.nil_append]
    have key:∀ p∈acn yd ys,SlOk K (Al (pinB B D ys) (aaf ((adi caps cs (lent caps ρ1)).zip σ++Tm))) H' p.1 p.2:=fun p hp=>by
     have:=g4.ok p (by simp[hp]);rw[er] at this;exact this
    clear g1 g2 g3 g4 er d' eok ez es;revert key ly;generalize Al (pinB B D ys) (aaf ((adi caps cs (lent caps ρ1)).zip σ++Tm))=AA;intro ly key;exact agb ly key
   have u:=DS.unpin rr.2 rr.1 f1 f2;rw[ar5 caps cs ρ1 lc hcap] at u;exact k _ _ _ H' (by rw[anw];exact l1) u.mid (fin yd cs lc pv)
theorem adf {elt tg iter:Expr}{ifs:List Expr}{scope:Scope}{pos:Pos}{ι:TId}{g:TGd}{tt:TTd}{te:TEd}(T capN:List Str) (caps:List Nat) (hc:X.calm=true) (hi:PId X tg iter ι)
  (hk:scope.kind = .function) (ho:lcOk X.N X.env.kindOf scope T capN caps=true)
  (hg:∀ s₀ H₀ C cl fp,PGd (lcx X (T++capN) scope cl C s₀ H₀ fp) T.length tg g)
  (ht:∀ s₀ H₀ C cl fp,PIfs (lcx X (T++capN) scope cl C s₀ H₀ fp) ifs (dTt X.K tt))
  (he:∀ s₀ H₀ C cl fp,PD (lcx X (T++capN) scope cl C s₀ H₀ fp) elt te)
  (hcap:caps.Nodup:=by decide) (hs:∀ x,foldedSetIterable iter X.env x=pure x:=by intro _;rfl):PD X (.ListComp elt [⟨tg,iter,ifs,0⟩] scope pos) (eLC T.length caps ι g tt te) :=
 (ars T capN caps hc hi hk ho hg ht he hs).mono fun _ _ _ h=>apt hcap h
theorem aha {i:Nat}{x:Str}{pos' spos:Pos}{elt tg iter:Expr}{ifs:List Expr}{scope:Scope}{pos:Pos}{ι:TId}{g:TGd}{tt:TTd}{te:TEd}(T capN:List Str) (caps:List Nat) (hN:X.N.Nodup) (hi':X.N[i]?=some x) (hx:Loc X.env.scope x)
  (hc:X.calm=true) (hi:PId X tg iter ι) (hk:scope.kind = .function) (ho:lcOk X.N X.env.kindOf scope T capN caps=true)
  (hg:∀ s₀ H₀ C cl fp,PGd (lcx X (T++capN) scope cl C s₀ H₀ fp) T.length tg g)
  (ht:∀ s₀ H₀ C cl fp,PIfs (lcx X (T++capN) scope cl C s₀ H₀ fp) ifs (dTt X.K tt))
  (he:∀ s₀ H₀ C cl fp,PD (lcx X (T++capN) scope cl C s₀ H₀ fp) elt te)
  (hcap:caps.Nodup:=by decide)
  (hsw:swapsWith (.ListComp elt [⟨tg,iter,ifs,0⟩] scope pos) (some (.Name x pos')) spos.line X.env=pure true:=by rfl)
  (hs:∀ x,foldedSetIterable iter X.env x=pure x:=by intro _;rfl)
  (hf:X.fn x=true\/X.env.scope.names.lookup x=some .local:=by first | exact .inl rfl | exact .inr rfl | assumption) :
  PSd X (.Assign [.Name x pos'] (.ListComp elt [⟨tg,iter,ifs,0⟩] scope pos) spos) (sSet i (eLC T.length caps ι g tt te)) :=
 (at1 T capN caps hN hi' hx hc hi hk ho hg ht he hsw hs hf).mono fun Dn σ H hq0=>hq0.elim fun B ρ Tm De hl hd ht lk=>apt hcap ⟨B,ρ,Tm,_,hl,hd,ht,fun r ρ' v H' l1 d1 h1=>(lk.1 _ _ H' (by rw[List.length_set,List.length_set];exact l1) (List.length_set ..) (d1.assign l1 i)).1 h1⟩
end
section
variable {X:Cx}{K:PySem.W.Frag}
theorem ac9 {A:Addr->Prop}{H:Hp}{d:D}{xs:List V}(h:Peeks K A H [d] xs):∃ x,xs=[x]/\Peek K A H d x:=by
 cases h with | cons h r=>cases r;exact⟨_,rfl,h⟩
theorem aks {A:Addr->Prop}{H:Hp}{d e:D}{xs:List V}(h:Peeks K A H [d,e] xs):∃ x y,xs=[x,y]/\Peek K A H d x/\Peek K A H e y:=by
 cases h with | cons h r=>cases r with | cons g r=>cases r;exact⟨_,_,rfl,h,g⟩
def lenD:D->Option Nat
 | .lst xs=>some xs.length
 | .tup xs=>some xs.length
 | .con xs=>some xs.length
 | .scr xs=>some xs.length
 | .str z=>some z.length
 | .dK kvs=>some kvs.length
 | _=>none
def fLen:OC:=fun ds Φ=>match ds with
 | [d]=>strS d=true/\∃ n,lenD d=some n/\Φ (.val (.int n))
 | _=>False
def rLenA (K:PySem.W.Frag):List V->Hp->VK->Prop:=fun xs H Q=>(∃ p ys,xs=[.ref p]/\(SqL K H p ys\/SqT K H p ys)/\Q (.int ys.length) H)\/(∃ z,xs=[.str z]/\z.length<=sizeLine/\Q (.int z.length) H)\/∃ a kvs,xs=[V.ref a]/\H a=some (.dK kvs)/\Q (.int kvs.length) H
theorem abx:abr X (.builtin "len") (rLenA X.K):=abm.or (af2.or ar4)
theorem aef:ael K (rLenA K) fLen:=by
 intro B L H ds xs Φ Q hd hp hf k;cases ds with
 | nil=>exact False.elim hf
 | cons d ds =>
 cases ds with
 | cons _ _=>exact False.elim hf
 | nil =>
 obtain⟨x,rfl,px⟩:=ac9 hp;obtain⟨hs,n,hn,hf⟩:=hf;have fin:Q (.int n) H:=k _ _ H hf (hd.pushF (.int _));cases d<;>first | (cases hn;done) | skip
 ·cases hn;have:=px.str_inv;subst this;exact .inr (.inl ⟨_,rfl,ag9 (of_decide_eq_true hs),fin⟩)
 ·cases hn;obtain⟨a,vs,rfl,h,r⟩:=px.tup_inv;exact .inl ⟨a,vs,rfl,.inr (SqT.of h),by rw[← r.length];exact fin⟩
 ·cases hn;obtain⟨a,vs,rfl,h,r⟩:=px.lst_inv;exact .inl ⟨a,vs,rfl,.inl (SqL.of h),by rw[← r.length];exact fin⟩
 ·cases hn;obtain⟨a,vs,rfl,h,e,r⟩:=px.dK_inv;refine .inr (.inr ⟨a,vs,rfl,h,?_⟩);have:=congrArg List.length e;rw[List.length_map,List.length_map] at this;rw[← this];exact fin
 ·cases hn;obtain⟨a,vs,rfl,h,r⟩:=px.scr_inv;exact .inl ⟨a,vs,rfl,.inl h.sqL,by rw[← r.length];exact fin⟩
 ·cases hn;obtain⟨a,vs,rfl,h,r⟩:=px.con_inv;exact .inl ⟨a,vs,rfl,.inr h.sqT,by rw[← r.length];exact fin⟩
def ahj:List D->Option (List Int)
 | []=>some []
 | .int i::ds=>(ahj ds).map (i::·)
 | _=>none
theorem aic:∀ (ns:List Int),ahj (ns.map D.int)=some ns
 | []=>rfl
 | n::ns=>by
  show (ahj (ns.map D.int)).map (n::·)=_;rw[aic ns];rfl
theorem afy {A:Addr->Prop}{H:Hp}{ds:List D}{ns:List Int}{vs:List V}(h:ahj ds=some ns) (rs:Reps K A H ds vs):vs=ns.map V.int:=by
 induction ds generalizing ns vs with
 | nil=>cases rs;cases h;rfl
 | cons d ds ih =>
  cases rs with
  | cons r rs =>
  cases d with
  | int i =>
   obtain⟨ms,h1,rfl⟩:=Option.map_eq_some_iff.mp h;rw[r.int_inv,ih h1 rs];rfl
  | _=>cases h
def fSum:OC:=fun ds Φ=>match ds with
 | [.lst xs]=>∃ ns,ahj xs=some ns/\Φ (.val (.int ns.sum))
 | _=>False
theorem au1:ael K (fun xs H Q=>∃ (p:Addr) (ns:List Int),xs=[.ref p]/\SqL K H p (ns.map V.int)/\Q (.int ns.sum) H) fSum:=by
 intro B L H ds xs Φ Q hd hp hf k;cases ds with
 | nil=>exact False.elim hf
 | cons d ds =>
 cases d<;>first | exact False.elim hf | skip
 cases ds with
 | cons _ _=>exact False.elim hf
 | nil =>
 obtain⟨x,rfl,px⟩:=ac9 hp;obtain⟨ns,hn,hf⟩:=hf;obtain⟨a,vs,rfl,h,r⟩:=px.lst_inv;rw[afy hn r] at h;exact⟨a,ns,rfl,SqL.of h,k _ _ H hf (hd.pushF (.int _))⟩
def fMin:OC:=fun ds Φ=>match ds with
 | [.lst xs]=>∃ ns,ahj xs=some ns/\ns≠[]/\∀ m:Int,m∈ns->(∀ a∈ns,m<=a)->Φ (.val (.int m))
 | [.int i,.int j]=>∀ m:Int,(m=i\/m=j)->m<=i->m<=j->Φ (.val (.int m))
 | _=>False
def fMax:OC:=fun ds Φ=>match ds with
 | [.lst xs]=>∃ ns,ahj xs=some ns/\ns≠[]/\∀ m:Int,m∈ns->(∀ a∈ns,a<=m)->Φ (.val (.int m))
 | [.int i,.int j]=>∀ m:Int,(m=i\/m=j)->i<=m->j<=m->Φ (.val (.int m))
 | _=>False
def ax1 (K:PySem.W.Frag):List V->Hp->VK->Prop:=fun xs H Q=>(∃ (p:Addr) (ns:List Int),xs=[.ref p]/\SqL K H p (ns.map V.int)/\ns≠[]/\∀ m:Int,m∈ns->(∀ a∈ns,m<=a)->Q (.int m) H)\/∃ i j,xs=[.int i,.int j]/\Q (.int (if j<i then j else i)) H
def rMaxA (K:PySem.W.Frag):List V->Hp->VK->Prop:=fun xs H Q=>(∃ (p:Addr) (ns:List Int),xs=[.ref p]/\SqL K H p (ns.map V.int)/\ns≠[]/\∀ m:Int,m∈ns->(∀ a∈ns,a<=m)->Q (.int m) H)\/∃ i j,xs=[.int i,.int j]/\Q (.int (if j>i then j else i)) H
theorem arb (hc:X.calm=true):abr X (.builtin "min") (ax1 X.K):=(aql hc).or (ak0 hc)
theorem asj (hc:X.calm=true):abr X (.builtin "max") (rMaxA X.K):=(aq4 hc).or (ar1 hc)
theorem cd_min:ael K (ax1 K) fMin:=by
 intro B L H ds xs Φ Q hd hp hf k;cases ds with
 | nil=>exact False.elim hf
 | cons d ds =>
 cases d<;>first | exact False.elim hf | skip
 ·cases ds with
  | nil=>exact False.elim hf
  | cons e ds =>
  cases e<;>first | exact False.elim hf | skip
  cases ds with
  | cons _ _=>exact False.elim hf
  | nil =>
  obtain⟨x,y,rfl,px,py⟩:=aks hp;have:=px.int_inv;have:=py.int_inv;subst_vars
  rename_i i j
  refine .inr ⟨_,_,rfl,?_⟩;by_cases z:j<i
  ·rw[if_pos z];exact k _ _ H (hf _ (.inr rfl) (by omega) (by omega)) (hd.pushF (.int _))
  ·rw[if_neg z];exact k _ _ H (hf _ (.inl rfl) (by omega) (by omega)) (hd.pushF (.int _))
 ·cases ds with
  | cons _ _=>exact False.elim hf
  | nil =>
  obtain⟨x,rfl,px⟩:=ac9 hp;obtain⟨ns,hn,h0,hf⟩:=hf;obtain⟨a,vs,rfl,h,r⟩:=px.lst_inv;rw[afy hn r] at h;exact .inl ⟨a,ns,rfl,SqL.of h,h0,fun m h1 h2=>k _ _ H (hf m h1 h2) (hd.pushF (.int _))⟩
theorem cd_max:ael K (rMaxA K) fMax:=by
 intro B L H ds xs Φ Q hd hp hf k;cases ds with
 | nil=>exact False.elim hf
 | cons d ds =>
 cases d<;>first | exact False.elim hf | skip
 ·cases ds with
  | nil=>exact False.elim hf
  | cons e ds =>
  cases e<;>first | exact False.elim hf | skip
  cases ds with
  | cons _ _=>exact False.elim hf
  | nil =>
  obtain⟨x,y,rfl,px,py⟩:=aks hp;have:=px.int_inv;have:=py.int_inv;subst_vars
  rename_i i j
  refine .inr ⟨_,_,rfl,?_⟩;by_cases z:j>i
  ·rw[if_pos z];exact k _ _ H (hf _ (.inr rfl) (by omega) (by omega)) (hd.pushF (.int _))
  ·rw[if_neg z];exact k _ _ H (hf _ (.inl rfl) (by omega) (by omega)) (hd.pushF (.int _))
 ·cases ds with
  | cons _ _=>exact False.elim hf
  | nil =>
  obtain⟨x,rfl,px⟩:=ac9 hp;obtain⟨ns,hn,h0,hf⟩:=hf;obtain⟨a,vs,rfl,h,r⟩:=px.lst_inv;rw[afy hn r] at h;exact .inl ⟨a,ns,rfl,SqL.of h,h0,fun m h1 h2=>k _ _ H (hf m h1 h2) (hd.pushF (.int _))⟩
def seqD:D->Option (List D)
 | .lst xs=>some xs
 | .tup xs=>some xs
 | .con xs=>some xs
 | .scr xs=>some xs
 | _=>none
theorem ato {A:Addr->Prop}{H:Hp}{d:D}{xs:List D}{x:V}(h:seqD d=some xs) (p:Peek K A H d x):∃ a vs,x = .ref a/\(SqL K H a vs\/SqT K H a vs)/\Reps K A H xs vs:=by
 cases d<;>cases h
 ·obtain⟨a,vs,rfl,h,r⟩:=p.tup_inv;exact⟨a,vs,rfl,.inr (SqT.of h),r⟩
 ·obtain⟨a,vs,rfl,h,r⟩:=p.lst_inv;exact⟨a,vs,rfl,.inl (SqL.of h),r⟩
 ·obtain⟨a,vs,rfl,h,r⟩:=p.scr_inv;exact⟨a,vs,rfl,.inl h.sqL,r⟩
 ·obtain⟨a,vs,rfl,h,r⟩:=p.con_inv;exact⟨a,vs,rfl,.inr h.sqT,r⟩
def fList:OC:=fun ds Φ=>match ds with
 | [d]=>∃ xs,seqD d=some xs/\Φ (.own (.lst xs))
 | _=>False
theorem aqo:ael K (fun xs H Q=>∃ p ys,xs=[.ref p]/\(SqL K H p ys\/SqT K H p ys)/\∀ l,H l=none->Q (.ref l) (upd H l (.lst ys))) fList:=by
 intro B L H ds xs Φ Q hd hp hf k;cases ds with
 | nil=>exact False.elim hf
 | cons d ds =>
 cases ds with
 | cons _ _=>exact False.elim hf
 | nil =>
 obtain⟨x,rfl,px⟩:=ac9 hp;obtain⟨xs,hx,hf⟩:=hf;obtain⟨a,vs,rfl,hs,r⟩:=ato hx px;exact⟨a,vs,rfl,hs,fun l hl=>k _ _ _ hf (hd.lstF hl r)⟩
def fTup:OC:=fun ds Φ=>match ds with
 | [.lst xs]=>Φ (.val (.tup xs))
 | [.tup xs]=>Φ (.val (.tup xs))
 | _=>False
theorem aew:ael K (fun xs H Q=>∃ p ys,xs=[.ref p]/\((SqL K H p ys/\∀ l,H l=none->Q (.ref l) (upd H l (.tup ys)))\/(SqT K H p ys/\Q (.ref p) H))) fTup:=by
 intro B L H ds xs Φ Q hd hp hf k;cases ds with
 | nil=>exact False.elim hf
 | cons d ds =>
 cases d<;>first | exact False.elim hf | skip<;>cases ds<;>first | exact False.elim hf | skip
 ·obtain⟨x,rfl,px⟩:=ac9 hp;have px':=px;obtain⟨a,vs,rfl,h,r⟩:=px.tup_inv;exact⟨a,vs,rfl,.inr ⟨SqT.of h,k _ _ _ hf (hd.pushF px')⟩⟩
 ·obtain⟨x,rfl,px⟩:=ac9 hp;obtain⟨a,vs,rfl,h,r⟩:=px.lst_inv;exact⟨a,vs,rfl,.inl ⟨SqL.of h,fun l hl=>k _ _ _ hf (hd.tupF hl r)⟩⟩
def ae2:List D->Option (List (Key×D))
 | []=>some []
 | .tup [k,d]::ds=>match ae1 k,ae2 ds with
  | some k,some r=>some ((k,d)::r)
  | _,_=>none
 | _=>none
theorem ab9 {α:Type}{f:α->D}{g:α->Key×D}(h:∀ x,∃ k,f x = .tup [k,(g x).2]/\ae1 k=some (g x).1):∀ xs:List α,ae2 (xs.map f)=some (xs.map g)
 | []=>rfl
 | x::xs=>by
  obtain⟨k,e1,e2⟩:=h x;rw[List.map_cons,e1];show (match ae1 k,ae2 (xs.map f) with | some k,some r=>some ((k,(g x).2)::r) | _,_=>none)=_;rw[e2,ab9 h xs];rfl
def acz (kvs more:List (Key×D)):List (Key×D):=more.foldl (fun acc kv=>putD acc kv.1 kv.2) kvs
theorem ari {A:Addr->Prop}{H:Hp}{ds:List D}{kvs:List (Key×D)}{vs:List V}(h:ae2 ds=some kvs) (rs:Reps K A H ds vs):∃ (ts:List Addr) (kws:List (Key×V)),vs=ts.map V.ref/\ahn H ts kws/\kvs.map (·.1)=kws.map (·.1)/\Reps K A H (kvs.map (·.2)) (kws.map (·.2)):=by
 induction ds generalizing kvs vs with
 | nil=>cases rs;cases h;exact⟨[],[],rfl,.nil,rfl,.nil⟩
 | cons d ds ih =>
  cases rs with
  | cons r rs =>
  cases d<;>first | (cases h;done) | skip
  rename_i xs
  rcases xs with _ | ⟨k,_ | ⟨e,_ | ⟨_,_⟩⟩⟩<;>first | (cases h;done) | skip
  ·have h:=(show (match ae1 k,ae2 ds with | some k,some r=>some ((k,e)::r) | _,_=>none)=some kvs from h);cases e1:ae1 k with
   | none=>rw[e1] at h;cases h
   | some kk =>
    cases e2:ae2 ds with
    | none=>rw[e1,e2] at h;cases h
    | some rr =>
     rw[e1,e2] at h;cases h;obtain⟨a,us,rfl,ha,ru⟩:=r.tup_inv;obtain⟨ts,kws,h1,h2,h3,h4⟩:=ih e2 rs;cases ru with
     | cons r1 ru =>
      cases ru with
      | cons r2 ru =>
       cases ru;have:=aeg e1 r1.peek;subst this;exact⟨a::ts,(kk,_)::kws,by rw[h1];rfl,.cons ha h2,by rw[List.map_cons,List.map_cons,h3],.cons r2 h4⟩
theorem aea {A:Addr->Prop}{H:Hp}:∀ {more:List (Key×D)}{mv:List (Key×V)}{kvs:List (Key×D)}{vs:List (Key×V)},more.map (·.1)=mv.map (·.1)->Reps K A H (more.map (·.2)) (mv.map (·.2))->kvs.map (·.1)=vs.map (·.1)->Reps K A H (kvs.map (·.2)) (vs.map (·.2)) ->
  (acz kvs more).map (·.1)=(abz vs mv).map (·.1)/\Reps K A H ((acz kvs more).map (·.2)) ((abz vs mv).map (·.2))
 | [],[],_,_,_,_,e,r=>⟨e,r⟩
 | [],_::_,_,_,e,_,_,_=>by simp at e
 | _::_,[],_,_,e,_,_,_=>by simp at e
 | (k,d)::more,(j,v)::mv,kvs,vs,e1,r1,e,r=>by
  simp only[List.map_cons,List.cons.injEq] at e1;obtain⟨rfl,e1⟩:=e1;cases r1 with
  | cons h r1 =>
   obtain⟨q1,q2⟩:=ajb e r (k:=k) h;exact aea (more:=more) (mv:=mv) e1 r1 q1 q2
def fDict:OC:=fun ds Φ=>match ds with
 | [.dK kvs]=>Φ (.own (.dK kvs))
 | [.lst xs]=>∃ kvs,ae2 xs=some kvs/\kvs.length<=1000/\Φ (.own (.dK (acz [] kvs)))
 | _=>False
def avo (K:PySem.W.Frag):List V->Hp->VK->Prop:=fun xs H Q=>(∃ (a:Addr) (kvs:List (Key×V)),xs=[.ref a]/\H a=some (.dK kvs)/\∀ p,H p=none->Q (.ref p) (upd H p (.dK kvs))) \/
 ∃ (p:Addr) (ts:List Addr) (kvs:List (Key×V)),xs=[.ref p]/\SqL K H p (ts.map V.ref)/\ahn H ts kvs/\kvs.length<=1000/\∀ d,H d=none->Q (.ref d) (upd H d (.dK (abz [] kvs)))
theorem abb (hc:X.calm=true):abr X (.type "dict") (avo X.K):=ama.or (ahu hc)
theorem acw:ael K (avo K) fDict:=by
 intro B L H ds xs Φ Q hd hp hf k;cases ds with
 | nil=>exact False.elim hf
 | cons d ds =>
 cases d<;>first | exact False.elim hf | skip<;>cases ds<;>first | exact False.elim hf | skip
 ·obtain⟨x,rfl,px⟩:=ac9 hp;obtain⟨kvs,hk,hl,hf⟩:=hf;obtain⟨a,vs,rfl,h,r⟩:=px.lst_inv;obtain⟨ts,kws,rfl,h2,h3,h4⟩:=ari hk r;obtain⟨q1,q2⟩:=aea (kvs:=[]) (vs:=[]) h3 h4 rfl .nil;have hl':kws.length<=1000:=by
   have:=congrArg List.length h3;simp only[List.length_map] at this;omega
  exact .inr ⟨a,ts,kws,rfl,SqL.of h,h2,hl',fun p hp=>k _ _ _ hf (hd.dKF hp q1 q2)⟩
 ·obtain⟨x,rfl,px⟩:=ac9 hp;obtain⟨a,vs,rfl,h,e,r⟩:=px.dK_inv;exact .inl ⟨a,vs,rfl,h,fun p hp=>k _ _ _ hf (hd.dKF hp e r)⟩
def fInt:OC:=fun ds Φ=>match ds with
 | [.int i]=>Φ (.val (.int i))
 | [.bl b]=>Φ (.val (.int (if b then 1 else 0)))
 | _=>False
theorem cd_int:ael K (fun xs H Q=>(∃ i,xs=[.int i]/\Q (.int i) H)\/∃ k,xs=[.bl k]/\Q (.int (if k then 1 else 0)) H) fInt:=by
 intro B L H ds xs Φ Q hd hp hf k;cases ds with
 | nil=>exact False.elim hf
 | cons d ds =>
 cases d<;>first | exact False.elim hf | skip<;>cases ds<;>first | exact False.elim hf | skip
 ·obtain⟨x,rfl,px⟩:=ac9 hp;have:=px.bl_inv;subst this;exact .inr ⟨_,rfl,k _ _ H hf (hd.pushF (.int _))⟩
 ·obtain⟨x,rfl,px⟩:=ac9 hp;have:=px.int_inv;subst this;exact .inl ⟨_,rfl,k _ _ H hf (hd.pushF (.int _))⟩
def fStr:OC:=fun ds Φ=>match ds with
 | [.int i]=>i.natAbs.log2<1920/\Φ (.val (.str (toString i)))
 | _=>False
theorem cd_str:ael K (fun xs H Q=>∃ i,xs=[.int i]/\i.natAbs.log2<1920/\Q (.str (toString i)) H) fStr:=by
 intro B L H ds xs Φ Q hd hp hf k;cases ds with
 | nil=>exact False.elim hf
 | cons d ds =>
 cases d<;>first | exact False.elim hf | skip<;>cases ds<;>first | exact False.elim hf | skip
 obtain⟨x,rfl,px⟩:=ac9 hp;have:=px.int_inv;subst this;exact⟨_,rfl,hf.1,k _ _ H hf.2 (hd.pushF (.str _))⟩
end
def tyD (T:String):D->Bool
 | .str _=>T == "str"
 | .lst _=>T == "list"
 | .scr _=>T == "list"
 | .dK _=>T == "dict"
 | _=>false
section
variable {X:Cx}{K:PySem.W.Frag}{A:Addr->Prop}{H:Hp}
theorem anx {T:String}{d:D}{x:V}(h:tyD T d=true) (p:Peek K A H d x):tyV K T x H:=by
 cases d<;>first | (cases h;done) | skip
 all_goals (have h:=eq_of_beq h;subst h)
 ·have:=p.str_inv;subst this;rfl
 ·obtain⟨a,vs,rfl,h,r⟩:=p.lst_inv;exact .inl ⟨rfl,vs,SqL.of h⟩
 ·obtain⟨a,vs,rfl,h,e,r⟩:=p.dK_inv;exact .inr (.inr (.inl ⟨rfl,.inl ⟨vs,h⟩⟩))
 ·obtain⟨a,vs,rfl,h,r⟩:=p.scr_inv;exact .inl ⟨rfl,vs,h.sqL⟩
abbrev OM:=D->List D->(Sl->Prop)->Prop
abbrev RM:=V->List V->Hp->VK->Prop
def MtD (K:PySem.W.Frag) (r:RM) (f:OM):Prop:=∀ (B:Bs) (L:Ents) (H:Hp) (d:D) (ds:List D) (x:V) (xs:List V) (Φ:Sl->Prop) (Q:VK),DS K B L H->Peek K (Al B (aaf L)) H d x->Peeks K (Al B (aaf L)) H ds xs->f d ds Φ ->
 (∀ s v H',Φ s->DS K B ((s,some v)::L) H'->Q v H')->r x xs H Q
def dMs (T:String) (f:OM) (i:Nat) (ta:TAd):TEd:=fun dk ρ Φ=>(match at? ρ i with | some d=>tyD T d=true | none=>False)/\ta dk ρ fun as ρ2=>match at? ρ2 i,arDs ρ2 as with
 | some d,some ds=>f d ds fun s=>Φ s ρ2
 | _,_=>False
variable {o e:Expr}{es:List Expr}{to:TEd}{ta:TAd}{name:Str}{apos cpos:Pos}{T id:String}{r:RM}{f:OM}{i:Nat}
theorem pd_ms (pa:PlainAttrs T) (slot:Slot T name id) (hty:typeOf (.builtin id)=pure (.type "method_descriptor")) (hm:MtR X id r) (hf:MtD X.K r f) (ho:PE X o (tVar i)) (ha:PAd X (e::es) ta)
  (hbase:attributeBase o name X.env (eval o X.env)=eval o X.env:=by rfl)
  (hfew:((backTo cpos (starEach (e::es) X.env)).all (fun x=>!x.1)&&(backToKw cpos (keywordEach [] X.env)).all (fun x=>x.1.isSome) && decide ((e::es).length+([]:List Keyword).length+(if ([]:List Keyword).isEmpty then 0 else 1)<30))=true:=by rfl)
  (hline:(apos.endLine == cpos.line)=true:=by rfl) (hs:starEach (e::es) X.env=(false,eval e X.env)::starEach es X.env:=by rfl) (hplain:(backTo cpos (starEach es X.env)).any (·.1)=false:=by rfl) :
  PD X (.Call (.Attribute o name apos) (e::es) [] cpos) (dMs T f i ta) :=
 (ams pa slot hty hm ho ha hbase hfew hline hs hplain).mono fun σ H Q hq0=>hq0.elim fun B ρ Tm Φ hl hd ⟨hi,ht⟩ k=>by
  cases e1:at? ρ i with
  | none=>rw[e1] at hi;exact hi.elim
  | some d0 =>
   rw[e1] at hi;obtain⟨x,hx,px⟩:=hd.peek hl e1;refine⟨x,hx,anx hi px,B,ρ,Tm,_,hl,hd,ht,fun as ρ2 vs H2 l2 ok d2 h2=>?_⟩;cases e2:at? ρ2 i with
   | none=>rw[e2] at h2;exact h2.elim
   | some d =>
    cases e3:arDs ρ2 as with
    | none=>rw[e2,e3] at h2;exact h2.elim
    | some ds =>
     rw[e2,e3] at h2;have d3:=d2.rmArgs;obtain⟨x',hx',px'⟩:=d3.peek l2 e2;rw[hx] at hx';cases hx';exact hf B _ H2 d ds x vs _ Q d3 px' (d2.argsP l2 ok ds e3).1 h2 fun s v H' hs hd'=>k s ρ2 v H' l2 hd'.mid hs
abbrev OW:=D->List D->(D->D->Prop)->Prop
def MtW (K:PySem.W.Frag) (r:RM) (f:OW):Prop:=∀ (A:Addr->Prop) (H:Hp) (a:Addr) (c:D) (ds:List D) (vs:List V) (Φ:D->D->Prop) (Q:VK),¬ A a->Root K A H a c->Reps K A H ds vs->f c ds Φ ->
 (∀ d v o c',Φ d c'->Rep K A H d v->(∀ A',Kp A A' H (upd H a o)->Root K A' (upd H a o) a c')->Q v (upd H a o))->r (.ref a) vs H Q
def dW (T:String) (f:OW) (i:Nat) (ta:TAd):TEd:=fun dk ρ Φ=>(match at? ρ i with | some d=>tyD T d=true | none=>False)/\ta dk ρ fun as ρ2=>match ρ2[i]?,arTs as with
 | some (.own c),some ds=>f c ds fun d c'=>Φ (.val d) (ρ2.set i (.own c'))
 | _,_=>False
theorem aws {f:OW}(hf:MtW X.K r f){σ:St}{H:Hp}{Q:VK}(h:dE X.K (dW T f i ta) σ H Q):tVar i σ H fun x H1=>tyV X.K T x H1/\dA X.K ta σ H1 fun xs H2=>r x xs H2 Q:=by
 obtain⟨B,ρ,Tm,Φ,hl,hd,⟨hi,ht⟩,k⟩:=h;cases e1:at? ρ i with
 | none=>rw[e1] at hi;exact hi.elim
 | some d0 =>
  rw[e1] at hi;obtain⟨x,hx,px⟩:=hd.peek hl e1;refine⟨x,hx,anx hi px,B,ρ,Tm,_,hl,hd,ht,fun as ρ2 vs H2 l2 ok d2 h2=>?_⟩;cases e2:ρ2[i]? with
  | none=>rw[e2] at h2;exact h2.elim
  | some s =>
   cases s with
   | no=>rw[e2] at h2;exact h2.elim
   | val c=>rw[e2] at h2;exact h2.elim
   | own c =>
    cases e3:arTs as with
    | none=>rw[e2,e3] at h2;exact h2.elim
    | some ds =>
     rw[e2,e3] at h2;have rds:=d2.temps ok ds e3;have d3:=d2.rmArgs;obtain⟨a,ha,ra,wr⟩:=d3.slotW l2 e2;rw[hx] at ha;cases ha;obtain⟨u,hu,tu⟩:=ra.some;have na:¬ Al B (aaf (ρ2.zip σ++Tm)) a:=fun z=>z.2.1 (by
      obtain⟨l1,y,l2',hy,_,hz,_⟩:=aey l2 e2;rw[hx] at hy;cases hy;rw[hz,List.append_assoc,List.cons_append,abk];exact List.mem_append_right _ List.mem_cons_self)
     refine hf _ H2 a c ds vs _ Q na ra rds h2 fun d v o c' hΦ rd hr=>k _ _ v _ (by rw[List.length_set];exact l2) ?_ hΦ
     refine (wr o c' hr).push ?_;have er:aaf ((ρ2.set i (.own c')).zip σ++Tm)=aaf (ρ2.zip σ++Tm):=by
      obtain⟨l1,y,l2',hy,_,hz,hset⟩:=aey l2 e2;rw[hx] at hy;cases hy;have:=hset (.own c') (some (.ref a));rw[afg hx] at this;rw[this,hz,List.append_assoc,List.append_assoc,List.cons_append,List.cons_append,abk,abk];rfl
     rw[er];exact rd.mono (.write hu tu na)
theorem pd_w {f:OW}(pa:PlainAttrs T) (slot:Slot T name id) (hty:typeOf (.builtin id)=pure (.type "method_descriptor")) (hm:MtR X id r) (hf:MtW X.K r f) (ho:PE X o (tVar i)) (ha:PAd X (e::es) ta)
  (hbase:attributeBase o name X.env (eval o X.env)=eval o X.env:=by rfl)
  (hfew:((backTo cpos (starEach (e::es) X.env)).all (fun x=>!x.1)&&(backToKw cpos (keywordEach [] X.env)).all (fun x=>x.1.isSome) && decide ((e::es).length+([]:List Keyword).length+(if ([]:List Keyword).isEmpty then 0 else 1)<30))=true:=by rfl)
  (hline:(apos.endLine == cpos.line)=true:=by rfl) (hs:starEach (e::es) X.env=(false,eval e X.env)::starEach es X.env:=by rfl) (hplain:(backTo cpos (starEach es X.env)).any (·.1)=false:=by rfl) :
  PD X (.Call (.Attribute o name apos) (e::es) [] cpos) (dW T f i ta):=(ams pa slot hty hm ho ha hbase hfew hline hs hplain).mono fun _ _ _ h=>aws hf h
def mApp:OW:=fun c ds Φ=>match c,ds with
 | .lst xs,[d]=>xs.length<100000/\Φ .non (.lst (xs++[d]))
 | _,_=>False
theorem ac8:MtW K al6 mApp:=by
 intro A H a c ds vs Φ Q _ ra rd hf k;cases c<;>first | exact False.elim hf | skip
 cases rd with
 | nil=>exact False.elim hf
 | cons r1 rd =>
 cases rd with
 | cons _ _=>exact False.elim hf
 | nil =>
 ·obtain⟨us,h,r⟩:=ra
  ·refine⟨a,us,_,rfl,rfl,h,Nat.lt_of_lt_of_le (by rw[← r.length];exact hf.1) (by decide),k _ _ _ _ hf.2 .non fun A' kp=>⟨_,aaa,(r.append (.cons r1 .nil)).mono kp⟩⟩
def mPop:OW:=fun c ds Φ=>match c,ds with
 | .lst xs,[.int i]=>∃ k y,-(2 ^ 63)<=i/\i<2 ^ 63/\seqIndex? i xs.length=some k/\xs[k]?=some y/\Φ y (.lst (xs.eraseIdx k))
 | _,_=>False
theorem am8:MtW K avn mPop:=by
 intro A H a c ds vs Φ Q _ ra rd hf k;cases c<;>first | exact False.elim hf | skip
 cases rd with
 | nil=>exact False.elim hf
 | cons r1 rd =>
 rename_i d _ _ _
 cases d<;>first | exact False.elim hf | skip
 cases rd with
 | cons _ _=>exact False.elim hf
 | nil =>
 ·obtain⟨us,h,r⟩:=ra
  ·have:=r1.int_inv;subst this;obtain⟨j,y,h1,h2,h3,h4,hf⟩:=hf;obtain⟨v,hv,rv⟩:=r.get h4;exact⟨a,us,_,j,v,rfl,rfl,h,h1,h2,by rw[← r.length];exact h3,hv,k _ _ _ _ hf rv fun A' kp=>⟨_,aaa,(r.erase j).mono kp⟩⟩
def anh:List D->Option (List Str)
 | []=>some []
 | .str b::ds=>(anh ds).map (b::·)
 | _=>none
theorem aep:∀ (ns:List Str),anh (ns.map D.str)=some ns
 | []=>rfl
 | n::ns=>by
  show (anh (ns.map D.str)).map (n::·)=_;rw[aep ns];rfl
theorem afu {ds:List D}{ns:List Str}{vs:List V}(h:anh ds=some ns) (rs:Reps K A H ds vs):vs=ns.map V.str:=by
 induction ds generalizing ns vs with
 | nil=>cases rs;cases h;rfl
 | cons d ds ih =>
  cases rs with
  | cons r rs =>
  cases d with
  | str i =>
   obtain⟨ms,h1,rfl⟩:=Option.map_eq_some_iff.mp h;rw[r.str_inv,ih h1 rs];rfl
  | _=>cases h
def au0:OM:=fun d ds Φ=>match d,ds with
 | .str z,[.str y]=>y.length≠0/\z.length<=1000000/\Φ (.own (.lst ((Txt.split z y).map D.str)))
 | _,_=>False
theorem reps_strs:∀ (ys:List Str),Reps K A H (ys.map D.str) (ys.map V.str)
 | []=>.nil
 | y::ys=>.cons (.str y) (reps_strs ys)
theorem aum:MtD K au7 au0:=by
 intro B L H d ds x xs Φ Q hd px ps hf k;unfold au0 at hf;split at hf
 ·obtain⟨y,rfl,py⟩:=ac9 ps;have:=px.str_inv;have:=py.str_inv;subst_vars;exact⟨_,_,rfl,rfl,hf.1,hf.2.1,fun p hp=>k _ _ _ hf.2.2 (hd.lstF hp (reps_strs _))⟩
 ·exact hf.elim
end
section
variable {X:Cx}{a b:Expr}{tb:TEd}{pos:Pos}{i:Nat}
theorem aao (hu:X.A.units+1<cLine) (ha:PE X a (tVar i)) (hb:PD X b tb) (hs:ame b:=by exact fun _ _=>rfl):PD X (.Subscript a b pos) (d2s fIx i tb) :=
 (acq (au8 hu) ha hb hs).mono fun _ _ _ h=>ai5 od_ix h
end
section
variable {X:Cx}{K:PySem.W.Frag}
theorem apm (hc:X.calm=true):abr X (.builtin "min") (fun xs H Q=>∃ i j k,xs=[.int i,.int j,.int k]/\∀ m:Int,(m=i\/m=j\/m=k)->m<=i->m<=j->m<=k->Q (.int m) H):=by
 intro pins s σ H xs us Q I r h;obtain⟨i,j,k,rfl,q⟩:=h;cases r with
 | cons r1 r =>
  obtain⟨v,u,rfl,⟨t2,rfl⟩,⟨t3,rfl⟩⟩:=al9 r;obtain⟨t1,rfl⟩:=r1;refine min_three_ints (I.ok.hd hc) fun h' tk kk=>?_
  have fin:∀ (m:Int) (t:Tok),(m=i\/m=j\/m=k)->m<=i->m<=j->m<=k->EP X pins σ Q (.int m t) { s with heap:=h',toks:=tk }:=fun m t a b c d=>⟨.int m,H,I.kept kk,⟨t,rfl⟩,q m a b c d⟩
  by_cases h1:j<i
  ·rw[if_pos h1];by_cases h2:k<j
   ·rw[if_pos h2];exact fin _ _ (.inr (.inr rfl)) (by omega) (by omega) (by omega)
   ·rw[if_neg h2];exact fin _ _ (.inr (.inl rfl)) (by omega) (by omega) (by omega)
  ·rw[if_neg h1];by_cases h2:k<i
   ·rw[if_pos h2];exact fin _ _ (.inr (.inr rfl)) (by omega) (by omega) (by omega)
   ·rw[if_neg h2];exact fin _ _ (.inl rfl) (by omega) (by omega) (by omega)
def awh (K:PySem.W.Frag):List V->Hp->VK->Prop:=fun xs H Q=>ax1 K xs H Q\/∃ i j k,xs=[.int i,.int j,.int k]/\∀ m:Int,(m=i\/m=j\/m=k)->m<=i->m<=j->m<=k->Q (.int m) H
theorem ag0 (hc:X.calm=true):abr X (.builtin "min") (awh X.K):=(arb hc).or (apm hc)
def fMinB:OC:=fun ds Φ=>match ds with
 | [.int i,.int j,.int k]=>∀ m:Int,(m=i\/m=j\/m=k)->m<=i->m<=j->m<=k->Φ (.val (.int m))
 | ds=>fMin ds Φ
theorem amd:ael K (awh K) fMinB:=by
 intro B L H ds xs Φ Q hd hp hf k;have two:fMin ds Φ->awh K xs H Q:=fun hf=>.inl (cd_min B L H _ xs Φ Q hd hp hf k)
 rcases ds with _ | ⟨d,_ | ⟨e,_ | ⟨g,_ | ⟨_,_⟩⟩⟩⟩
 ·exact two hf
 ·cases d<;>exact two hf
 ·cases d<;>first | exact two hf | (cases e<;>exact two hf)
 ·cases d<;>first | exact two hf | skip
  cases e<;>first | exact two hf | skip
  cases g<;>first | exact two hf | skip
  cases hp with
  | cons p1 hp =>
   obtain⟨x,y,rfl,px,py⟩:=aks hp;have:=p1.int_inv;have:=px.int_inv;have:=py.int_inv;subst_vars;exact .inr ⟨_,_,_,rfl,fun m a b c d=>k _ _ H (hf m a b c d) (hd.pushF (.int _))⟩
 ·cases d<;>first | exact two hf | (cases e<;>first | exact two hf | (cases g<;>exact two hf))
end
end L2
namespace PySem
open PyProof.Rows L2
abbrev ZipO (h:Heap) (z TI TO T:Addr) (f:Bool):Prop:=h.get? z=some { cls:=.type "zip",dict:=none,data:=.fields #[rawInt T,.bool f,.bool false,.ref TI,.ref TO],slots:=#[] }
section
variable {prog:Program}{w:World}{A:Around}{E:Value->Shared->Prop}{s:Shared}
theorem ao9 {a:Addr}{o:Obj}{Q:Option Obj->Shared->Prop}(ho:s.heap.get? a=some o) (h:Q (some o) s):wpAny (model prog w) A (loadIfAlive a) Q E s:=fun _ _ _=>by
 show Q (s.heap.get? a) s;rw[ho];exact h
theorem apv {z TI TO T:Addr}{f:Bool}{oT:Obj}{Q:Bool->Shared->Prop}(hz:ZipO s.heap z TI TO T f) (hT:s.heap.get? T=some oT) (hQ:∀ h',ZipO h' z TI TO T true->Heap.SameBut z s.heap h'->Q false { s with heap:=h' }) :
  wpAny (model prog w) A (Builtin.SmallTypes.ownedTupleIsFree (.ref z)) Q E s:=by
 unfold Builtin.SmallTypes.ownedTupleIsFree;refine wpAny_bind (wpAny_field hz rfl (x:=rawInt T) rfl ?_);show wpAny _ _ (loadIfAlive ((T:Int).toNat) >>= _) _ _ _;rw[Int.toNat_natCast];refine wpAny_bind (ao9 hT ?_);simp only[Option.isNone_some,Bool.false_eq_true,if_false];refine wpAny_bind (wpAny_field hz rfl (x:=.bool f) rfl ?_);cases f with
 | true =>
  rw[if_neg (show ¬ ((Value.bool true != Value.bool true)=true) from Bool.false_ne_true)];exact wpAny_pure (hQ _ hz (Heap.SameBut.refl _ _))
 | false =>
  rw[if_pos (show (Value.bool false != Value.bool true)=true from rfl)];exact wpAny_bind (wpAny_setField_rec hz (by simp) fun h3 z3 s3=>wpAny_pure (hQ _ z3 s3))
def alb (prog:Program) (w:World) (A:Around) (a b:Value) (Q:Fin->Shared->Prop) (E:Value->Shared->Prop) (s:Shared):Prop :=
 wpAny (model prog w) A (Builtin.SmallTypes.nextOf a) (fun x s1=>wpAny (model prog w) A (Builtin.SmallTypes.nextOf b) (fun y s2=>wpAny (model prog w) A (newTuple [x,y]) (fun t s3=>Q (.done (.ret t)) s3) E s2) E s1) E s
theorem ago {z TI TO T:Addr}{f:Bool}{oT:Obj}{a b:Value}{Q:Fin->Shared->Prop}(hz:ZipO s.heap z TI TO T f) (hT:s.heap.get? T=some oT) (hTI:IsPair s.heap TI a b)
  (go:∀ h',ZipO h' z TI TO T true->Heap.SameBut z s.heap h'->alb prog w A a b Q E { s with heap:=h' }) :
  wpAny (model prog w) A (Builtin.«zip.__next__» ⟨[.ref z],[]⟩) Q E s:=by
 have busy:wpAny (model prog w) A (Builtin.SmallTypes.ownedTupleIsFree (.ref z)) (fun x s'=>x=false/\alb prog w A a b Q E s') E s :=
  apv hz hT fun h' z' k=>⟨rfl,go h' z' k⟩
 unfold Builtin.«zip.__next__»;refine wpAny_bind (wpAny_pure (wpAny_bind (wpAny_field hz rfl (x:=.bool false) rfl (wpAny_bind (wpAny_field hz rfl (x:=.ref TI) rfl (wpAny_bind (wpAny_seqItems hTI rfl ?_)))))));refine wpAny_bind (thn busy ?_);rintro _ s' ⟨rfl,g⟩;simp only[if_neg Bool.false_ne_true,← Array.forIn_toList,List.forIn_cons,List.forIn_nil,bind_assoc];refine wpAny_bind (wpAny_holding (wpAny_bind (thn g fun x s1 g1=>wpAny_pure (wpAny_bind (wpAny_pure ?_)))));refine wpAny_bind (wpAny_bind (wpAny_holding (wpAny_bind (thn g1 fun y s2 g2=>wpAny_pure (wpAny_bind (wpAny_pure (wpAny_pure ?_)))))));exact wpAny_bind (thn g2 fun t s3 g3=>wpAny_pure g3)
theorem aw4 {z TI TO T i1 i2 l1 l2:Addr}{k1 k2:Nat}{f:Bool}{oT:Obj}{xs ys:Array Value}{x y:Value}{Q:Value->Shared->Prop}(D:ZipApart z TI TO i1 i2 l1 l2)
  (hz:ZipO s.heap z TI TO T f) (hT:s.heap.get? T=some oT) (hTI:IsPair s.heap TI (.ref i1) (.ref i2))
  (h1:s.heap.IsListIter i1 l1 k1) (h2:s.heap.IsListIter i2 l2 k2) (hl1:s.heap.IsList l1 xs) (hl2:s.heap.IsList l2 ys) (hx:xs[k1]?=some x) (hy:ys[k2]?=some y)
  (hQ:∀ h',ZipO h' z TI TO T true->h'.IsListIter i1 l1 (k1+1)->h'.IsListIter i2 l2 (k2+1)->IsPair h' s.heap.objs.size x y->h'.objs.size=s.heap.objs.size+1 ->(∀ c o,c≠z->c≠i1->c≠i2->s.heap.get? c=some o->h'.get? c=some o)->Q (.ref s.heap.objs.size) { s with heap:=h' }) :
  wpAny (model prog w) A (Builtin.«zip.__next__» ⟨[.ref z],[]⟩) (fun fin s'=>∃ v,fin = .done (.ret v)/\Q v s') E s:=by
 refine ago hz hT hTI fun h3 z3 k3=>?_
 have up1:∀ c o,c≠z->s.heap.get? c=some o->h3.get? c=some o:=fun c o n e=>k3.extBut _ _ n e
 have there:h3.IsListIter i1 l1 k1/\h3.IsListIter i2 l2 k2/\h3.IsList l1 xs/\h3.IsList l2 ys:=⟨h1.at fun o e=>up1 _ o D.i1z e,h2.at fun o e=>up1 _ o D.i2z e,hl1.at fun o e=>up1 _ o D.l1z e,hl2.at fun o e=>up1 _ o D.l2z e⟩;refine wpAny_nextOf_list_item there.1 there.2.2.1 hx fun h4 j1 k4=>?_
 have up2:∀ c o,c≠i1->h3.get? c=some o->h4.get? c=some o:=fun c o n e=>k4.extBut _ _ n e
 refine wpAny_nextOf_list_item (there.2.1.at fun o e=>up2 _ o D.i12.symm e) (there.2.2.2.at fun o e=>up2 _ o D.l2i1 e) hy fun h5 j2 k5=>?_
 have up3:∀ c o,c≠i2->h4.get? c=some o->h5.get? c=some o:=fun c o n e=>k5.extBut _ _ n e
 have n5:h5.objs.size=s.heap.objs.size:=k5.1.trans (k4.1.trans k3.1);have more:∀ {c:Addr} {o p:Obj},h5.get? c=some o->(h5.push p).get? c=some o:=fun e=>Heap.get?_push_of_some _ e
 refine wpAny_newTuple ⟨_,rfl,?_⟩ (hsz:=(show 2<=sizeLine by decide));have last:=hQ (h5.push (seqObj "tuple" #[x,y] 0)) (more (up3 _ _ D.i2z.symm (up2 _ _ D.i1z.symm z3))) (j1.at fun o e=>more (up3 _ o D.i12 e)) (j2.at fun o e=>more e) (n5▸Heap.get?_push_size _ rfl) ((Heap.size_push ..).trans (by rw[n5]))
  fun c o c1 c2 c3 e=>more (up3 _ _ c3 (up2 _ _ c2 (up1 _ _ c1 e)))
 rw[← n5] at last;exact last
theorem alz {z TI TO T i1 i2 l1 l2:Addr}{k1 k2:Nat}{f:Bool}{oT:Obj}{xs ys:Array Value}{Q:Fin->Shared->Prop}(hh:A.handled=none) (D:ZipApart z TI TO i1 i2 l1 l2)
  (hz:ZipO s.heap z TI TO T f) (hT:s.heap.get? T=some oT) (hTI:IsPair s.heap TI (.ref i1) (.ref i2))
  (h1:s.heap.IsListIter i1 l1 k1) (h2:s.heap.IsListIter i2 l2 k2) (hl1:s.heap.IsList l1 xs) (hl2:s.heap.IsList l2 ys) (hend:xs[k1]?=none\/ys[k2]?=none)
  (hE:∀ h' e,(∀ c o,c≠z->c≠i1->c≠i2->s.heap.get? c=some o->h'.get? c=some o)->(∃ o,h'.get? e=some o/\o.cls = .type "StopIteration")->E (.ref e) { s with heap:=h' }) :
  wpAny (model prog w) A (Builtin.«zip.__next__» ⟨[.ref z],[]⟩) Q E s:=by
 refine ago hz hT hTI fun h3 z3 k3=>?_
 have up1:∀ c o,c≠z->s.heap.get? c=some o->h3.get? c=some o:=fun c o n e=>k3.extBut _ _ n e
 have there:h3.IsListIter i1 l1 k1/\h3.IsList l1 xs:=⟨h1.at fun o e=>up1 _ o D.i1z e,hl1.at fun o e=>up1 _ o D.l1z e⟩;rcases Option.eq_none_or_eq_some xs[k1]? with e1 | ⟨x,e1⟩
 ·exact wpAny_nextOf_list_end hh there.1 there.2 e1 fun h4 e b4 x4=>hE h4 e (fun c o c1 c2 _ q=>b4 c o c2 (up1 c o c1 q)) x4
 ·refine wpAny_nextOf_list_item there.1 there.2 e1 fun h4 j1 k4=>?_
  have up2:∀ c o,c≠z->c≠i1->s.heap.get? c=some o->h4.get? c=some o:=fun c o n m e=>k4.extBut _ _ m (up1 c o n e)
  have e2:ys[k2]?=none:=hend.elim (fun n=>by rw[n] at e1;cases e1) id;exact wpAny_nextOf_list_end hh (h2.at fun o e=>up2 _ o D.i2z D.i12.symm e) (hl2.at fun o e=>up2 _ o D.l2z D.l2i1 e) e2 fun h5 e b5 x5=>hE h5 e (fun c o c1 c2 c3 q=>b5 c o c3 (up2 c o c1 c2 q)) x5
def ahv (h:Heap) (z TI TO i1 i2:Addr):Prop:=IsPair h TI (.ref i1) (.ref i2)/\(∃ a b,IsPair h TO a b)/\(IsZip h z TI TO .none\/∃ T f o,ZipO h z TI TO T f/\h.get? T=some o/\T≠z/\T≠TO/\T≠i1/\T≠i2)
theorem atp {z TI TO i1 i2 l1 l2:Addr}{k:Nat}{xs ys:Array Value}{x y:Value}{Q:Option Value->Shared->Prop}(D:ZipApart z TI TO i1 i2 l1 l2)
  (hz:ahv s.heap z TI TO i1 i2) (h1:s.heap.IsListIter i1 l1 k) (h2:s.heap.IsListIter i2 l2 k) (hl1:s.heap.IsList l1 xs) (hl2:s.heap.IsList l2 ys) (hx:xs[k]?=some x) (hy:ys[k]?=some y)
  (hQ:∀ h',ahv h' z TI TO i1 i2->h'.IsListIter i1 l1 (k+1)->h'.IsListIter i2 l2 (k+1)->IsPair h' s.heap.objs.size x y->h'.objs.size=s.heap.objs.size+1 ->(∀ c o,c≠z->c≠TO->c≠i1->c≠i2->s.heap.get? c=some o->h'.get? c=some o)->Q (some (.ref s.heap.objs.size)) { s with heap:=h' }) :
  wpAny (model prog w) A (pyNext (.ref z)) Q E s:=by
 obtain⟨hTI,⟨a,b,hTO⟩,hz⟩:=hz;obtain⟨o1,p1,_⟩:=id h1;obtain⟨o2,p2,_⟩:=id h2;have fr:∀ {c o},s.heap.get? c=some o->s.heap.objs.size≠c:=fun e=>(Nat.ne_of_lt (Heap.lt_size e)).symm
 rcases hz with hz | ⟨T,f,o,hz,hT,t1,t2,t3,t4⟩
 ·refine wpAny_pyNext_zip_item D hz hTI hTO h1 h2 hl1 hl2 hx hy fun h' a1 a2 a3 a4 a5 a6 a7=>?_
  exact hQ h' ⟨a7 _ _ D.TIz D.TITO D.TIi1 D.TIi2 hTI,⟨_,_,a2⟩,.inr ⟨_,false,_,a1,a5,fr hz,fr hTO,fr p1,fr p2⟩⟩ a3 a4 a5 a6 a7
 ·have hTy:s.TypeIs (.ref z) "zip" := ⟨_,hz,rfl⟩;unfold pyNext;refine wpAny_bind (wpAny_attempt (wpAny_callSpecial?_slot (name:=Str.ofString "__next__") hTy F.slot_zip_next (wpAny_call_entry F.slot_zip_next hTy F.entry_zip_next (aw4 D hz hT hTI h1 h2 hl1 hl2 hx hy fun h' a1 a3 a4 a5 a6 a7=>wpAny_pure ?_) (F.args_zip_next_1 _))));exact hQ h' ⟨a7 _ _ D.TIz D.TIi1 D.TIi2 hTI,⟨_,_,a7 _ _ D.TOz D.TOi1 D.TOi2 hTO⟩,.inr ⟨T,true,_,a1,a7 _ _ t1 t3 t4 hT,t1,t2,t3,t4⟩⟩ a3 a4 a5 a6 fun c o c1 _ c3 c4 e=>a7 c o c1 c3 c4 e
theorem att {z TI TO i1 i2 l1 l2:Addr}{k:Nat}{xs ys:Array Value}{Q:Option Value->Shared->Prop}(hh:A.handled=none) (D:ZipApart z TI TO i1 i2 l1 l2)
  (hz:ahv s.heap z TI TO i1 i2) (h1:s.heap.IsListIter i1 l1 k) (h2:s.heap.IsListIter i2 l2 k) (hl1:s.heap.IsList l1 xs) (hl2:s.heap.IsList l2 ys) (hend:xs[k]?=none\/ys[k]?=none)
  (hQ:∀ h',(∀ c o,c≠z->c≠TO->c≠i1->c≠i2->s.heap.get? c=some o->h'.get? c=some o)->Q none { s with heap:=h' }):wpAny (model prog w) A (pyNext (.ref z)) Q E s:=by
 obtain⟨hTI,⟨a,b,hTO⟩,hz⟩:=hz;rcases hz with hz | ⟨T,f,o,hz,hT,t1,t2,t3,t4⟩
 ·exact wpAny_pyNext_zip_end hh D hz hTI hTO h1 h2 hl1 hl2 hend hQ
 ·have hTy:s.TypeIs (.ref z) "zip" := ⟨_,hz,rfl⟩;unfold pyNext;refine wpAny_bind (wpAny_attempt (wpAny_callSpecial?_slot (name:=Str.ofString "__next__") hTy F.slot_zip_next (wpAny_call_entry F.slot_zip_next hTy F.entry_zip_next (alz hh D hz hT hTI h1 h2 hl1 hl2 hend fun h' e hk he=>?_) (F.args_zip_next_1 _))));obtain⟨o,ho,hc⟩:=he;refine wpAny_bind (wpAny_isInstance (T := "StopIteration") (b:=true) ⟨o,ho,hc⟩ isSubtype_stop ?_);exact wpAny_pure (hQ _ fun c o c1 _ c3 c4 e=>hk c o c1 c3 c4 e)
end
theorem amc:typeLookup (.type "zip") "keys" = pure none:=am_miss_of_fast (by decide +kernel)
theorem ai1:entryFor table "zip.__getattribute__" = some Builtin.«object.__getattribute__»:=entryFor_alias (id' := "object.__getattribute__") (by kernel_rfl) (by decide +kernel) (by decide +kernel) (by kernel_rfl)
theorem ahx:typeLookup (.type "zip") "__getattr__" = pure none:=am_miss_of_fast (by decide +kernel)
theorem aqu {prog:Program}{w:World}{A:Around}{E:Value->Shared->Prop}{s:Shared}{a:Addr}{fs:Array Value}{sl:Array (Option Value)}{Q:Builtin.ObjectAttr.Found->Shared->Prop}
  (l:s.heap.get? a=some { cls:=.type "zip",dict:=none,data:=.fields fs,slots:=sl }) (q:Q .missing s):wpAny (model prog w) A (Builtin.ObjectAttr.find (.ref a) (.type "zip") "keys") Q E s:=by
 have own:wpAny (model prog w) A (Builtin.ObjectAttr.inOwnDict "keys" (.ref a)) (fun r s'=>r=none/\s'=s) E s :=
  wpAny_bind (wpAny_bind (wpAny_loadPart l (wpAny_bind (wpAny_loadPart l (wpAny_pure (wpAny_pure ⟨rfl,rfl⟩))))))
 have guard:wpAny (model prog w) A (Builtin.ObjectAttr.copiedAttributeGuard "keys" (.ref a)) (fun _ s'=>s'=s) E s:=by
  have no:¬ (([Str.ofString "__module__",Str.ofString "__name__",Str.ofString "__qualname__",Str.ofString "__doc__",Str.ofString "__annotations__"]:List Str).contains (Str.ofString "keys")=true):=by decide +kernel
  simp only[Builtin.ObjectAttr.copiedAttributeGuard,if_neg no];exact wpAny_pure rfl
 unfold Builtin.ObjectAttr.find;rw[amc];refine wpAny_bind (wpAny_pure (wpAny_bind (wpAny_pure (wpAny_bind (wpAny_pure (wpAny_bind (thn own ?_)))))));rintro _ _ ⟨rfl,rfl⟩;refine wpAny_bind (thn guard ?_);rintro _ _ rfl;exact wpAny_bind (wpAny_rule (wpAny_pure q))
theorem atn (a:Addr) (fs:Array Value) (sl:Array (Option Value)) (u:Tok):Meets (Builtin.«object.__getattribute__» ⟨[.ref a,.str "keys" u],[]⟩) (fun A R s=>s.heap.get? a=some { cls:=.type "zip",dict:=none,data:=.fields fs,slots:=sl }/\raisesAttr (.ref a) "keys" A R s) :=
 Meets.of_wp fun prog w A R s hs=>by
  obtain⟨l,calm,out⟩:=hs;have tp:s.TypeIs (.ref a) "zip" := ⟨_,l,rfl⟩;unfold Builtin.«object.__getattribute__»;refine wpAny_bind (wpAny_pure (wpAny_bind (wpAny_pure (wpAny_bind (wpAny_typeOf tp (wpAny_bind (aqu l ?_)))))));have named:wpAny (model prog w) A.in1 (typeNameOfCut 100 (.ref a)) (fun n s'=>n = "zip" /\ s'=s) (fun e s'=>R (.error e) s') s :=
   wpAny_bind (wpAny_bind (wpAny_typeOf tp (wpAny_pure (wpAny_pure ⟨by decide +kernel,rfl⟩))))
  show wpAny _ _ (Builtin.ObjectAttr.noSuchAttribute (.ref a) "keys") _ _ _;unfold Builtin.ObjectAttr.noSuchAttribute;refine wpAny_bind (thn named ?_);rintro _ _ ⟨rfl,rfl⟩;exact wpAny_raiseAttrError calm out (by decide +kernel)
section
variable {prog:Program}{w:World}{A:Around}
theorem axb {E:Value->Shared->Prop}{s:Shared}{a:Addr}{fs:Array Value}{sl:Array (Option Value)}{u:Tok}{Q:Value->Shared->Prop}
  (l:s.heap.get? a=some { cls:=.type "zip",dict:=none,data:=.fields fs,slots:=sl }) (calm:A.handled=none) (out:∀ h' tk e,Heap.NewAttrErr s.heap h' e (.ref a) "keys" -> E (.ref e) { s with heap:=h',toks:=tk }) :
  wpAny (model prog w) A (boundAndCalled (.builtin "zip.__getattribute__") (.ref a) (.str "keys" u)) Q E s:=by
 have ask:wpAny (model prog w) A (call (.builtin "zip.__getattribute__") [.ref a,.str "keys" u]) Q E s :=
  call_meets F.slot_zip_getattribute ⟨_,l,rfl⟩ ai1 (F.args_zip_getattribute_2 _ _) (atn a fs sl u) ⟨l,calm,out⟩
 unfold boundAndCalled;rw[F.slot_zip_getattribute.bind (.ref a)];exact wpAny_bind (wpAny_pure ask)
theorem zip_on {E:Value->Shared->Prop}{s:Shared}{o name:Value}{e:Addr}{Q:Value->Shared->Prop}(t:s.TypeIs (.ref e) "AttributeError") (out:E (.ref e) s) :
  wpAny (model prog w) A (getattributeRaised o name (.type "zip") (.ref e) none false false) Q E s:=by
 have last:wpAny (model prog w) A (hookOrError o name (.ref e) false false none) Q E s:=wpAny_bind (wpAny_throw out);have none':hookBehind (.type "zip") none=pure none:=ahx;unfold getattributeRaised;refine wpAny_bind (wpAny_isInstance t sub_AttributeError ?_);rw[if_pos rfl,none'];exact wpAny_bind (wpAny_pure last)
theorem atw {E:Value->Shared->Prop}{s:Shared}{a:Addr}{fs:Array Value}{sl:Array (Option Value)}{Q:Option Value->Shared->Prop}
  (l:s.heap.get? a=some { cls:=.type "zip",dict:=none,data:=.fields fs,slots:=sl }) (calm:A.handled=none) (out:∀ h' tk e,Heap.NewExcOf s.heap h' e "AttributeError" -> Q none { s with heap:=h',toks:=tk }) :
  wpAny (model prog w) A (getAttr? (.ref a) "keys") Q E s:=by
 have ends:∀ h' tk e,Heap.NewAttrErr s.heap h' e (.ref a) "keys" -> (∃ o,h'.get? e=some o/\o.cls = .type "AttributeError")/\Q none { s with heap:=h',toks:=tk }:=fun h' tk e x=>by
  obtain⟨_,_,y⟩:=x.there;exact⟨⟨_,y,rfl⟩,out h' tk e x.of⟩
 let s1:Shared:={ s with toks:=s.toks+1 };let got:Except Value Value->Shared->Prop:=fun r s2=>wpAny (model prog w) A (match r with | .ok v=>pure (some v) | .error e=>do if ← isInstance e (.type "AttributeError") then pure none else throw e) Q E s2
 have look:wpAny (model prog w) A (getAttrBy (.ref a) (.str "keys" s.toks) false) (fun v=>got (.ok v)) (fun e=>got (.error e)) s1:=by
  refine wpAny_holding (wpAny_bind (wpAny_typeOf (T := "zip") ⟨_,l,rfl⟩ (wpAny_bind (wpAny_of_eq F.slot_zip_getattribute.lookup ?_))));have own:wpAny (model prog w) A (getAttrByItsOwn (.ref a) (.str "keys" s.toks) (.type "zip") (.builtin "zip.__getattribute__") false false) (fun v=>got (.ok v)) (fun e=>got (.error e)) s1:=by
   refine wpAny_bind (wpAny_pure (wpAny_bind (wpAny_attempt (wpAny_holding (axb (s:=s1) l calm fun h' tk e x=>?_)))));obtain⟨⟨o,y1,y2⟩,q⟩:=ends h' tk e x;exact zip_on ⟨o,y1,y2⟩ (wpAny_bind (wpAny_isInstance (T := "AttributeError") ⟨o,y1,y2⟩ sub_AttributeError (wpAny_pure q)))
  exact own
 exact wpAny_bind (wpAny_mkText (wpAny_bind (wpAny_attempt look)))
end
section
variable {prog:Program}{w:World}{K:Type} [DecidableEq K] {knd:KeyKind prog w K}{A:Around}{R:Result->Shared->Prop}
theorem arq {z TI TO i1 i2 l1 l2 d:Addr}(hh:A.handled=none) (D:ZipApart z TI TO i1 i2 l1 l2) (hd:d∉[z,TI,TO,i1,i2,l1,l2]){xs ys:Array Value}(more:List (K×Value)) (hn:more.length=min xs.size ys.size) (hb:more.length<=sizeLine)
  (hT:∀ (i:Nat) x y,xs[i]?=some x->ys[i]?=some y->∃ k,knd.is k x=true/\more[i]?=some (k,y)) (h0:Heap) :
  ∀ (m i:Nat) (s:Shared),more.length-i=m->i<=more.length->ahv s.heap z TI TO i1 i2->s.heap.IsListIter i1 l1 i->s.heap.IsListIter i2 l2 i->s.heap.IsList l1 xs->s.heap.IsList l2 ys->(∀ b o,b∉[z,TO,i1,i2,d]->h0.get? b=some o->s.heap.get? b=some o)->s.heap.DictOf knd d (merged [] (more.take i)) ->
   (∀ h' tk,(∀ b o,b∉[z,TO,i1,i2,d]->h0.get? b=some o->h'.get? b=some o)->h'.DictOf knd d (merged [] more)->R (.ok (.ret .none)) { s with heap:=h',toks:=tk }) ->
   codeAny (model prog w) A (.builtin "dict.update.loop" ⟨[.ref d,.ref z,.int (i:Int) 0,.none],[]⟩) R s:=by
 simp only[List.mem_cons,List.not_mem_nil,or_false,not_or] at hd;obtain⟨d1,d2,d3,d4,d5,d6,d7⟩:=hd;have na:∀ {b:Addr},b∉[z,TO,i1,i2,d]->b≠z/\b≠TO/\b≠i1/\b≠i2/\b≠d:=fun hb=>by
  simpa only [List.mem_cons,List.not_mem_nil,or_false,not_or] using hb
 intro m;induction m with
 | zero =>
  intro i s hm hi hz h1 h2 hl1 hl2 kp hS hR;have ei:i=more.length:=by omega
  subst ei;rw[List.take_of_length_le (Nat.le_refl _)] at hS;refine codeAny_builtin aat ?_;rw[Around.under_plainId aah _];show wpAny _ A.in1 (pyNext (.ref z) >>= _) _ _ s;refine wpAny_bind (att (by simpa using hh) D hz h1 h2 hl1 hl2 ?_ fun h' kk=>?_)
  ·rcases Nat.le_total xs.size ys.size with q | q
   ·exact .inl (Array.getElem?_eq_none (by omega))
   ·exact .inr (Array.getElem?_eq_none (by omega))
  ·show wpAny _ A.in1 (Builtin.Dict.addKeywords d [] >>= _) _ _ _;refine wpAny_bind (wpAny_pure ?_);obtain⟨o,es,ep,ho,rest⟩:=hS;exact wpAny_pure (hR h' _ (fun b o hb e=>let ⟨b1,b2,b3,b4,b5⟩:=na hb;kk b o b1 b2 b3 b4 (kp b o hb e)) ⟨o,es,ep,kk d _ d1 d3 d4 d5 ho,rest⟩)
 | succ m ih =>
  intro i s hm hi hz h1 h2 hl1 hl2 kp hS hR;have hlt:i<more.length:=by omega
  obtain⟨x,hx⟩:∃ x,xs[i]?=some x:=⟨_,Array.getElem?_eq_getElem (by omega)⟩;obtain⟨y,hy⟩:∃ y,ys[i]?=some y:=⟨_,Array.getElem?_eq_getElem (by omega)⟩;obtain⟨ky,hkey,hmore⟩:=hT i x y hx hy;refine codeAny_builtin aat ?_;rw[Around.under_plainId aah _];show wpAny _ A.in1 (pyNext (.ref z) >>= _) _ _ s;refine wpAny_bind (atp D hz h1 h2 hl1 hl2 hx hy fun h' z' i1' i2' pr sz kk=>?_);have hS1:h'.DictOf knd d (merged [] (more.take i)):=by
   obtain⟨o,es,ep,ho,rest⟩:=hS;exact⟨o,es,ep,kk d _ d1 d3 d4 d5 ho,rest⟩
  have kl1:h'.IsList l1 xs:=hl1.at fun o e=>kk l1 o D.l1z D.l1TO D.l1i1 D.l1i2 e
  have kl2:h'.IsList l2 ys:=hl2.at fun o e=>kk l2 o D.l2z D.l2TO D.l2i1 D.l2i2 e
  have pd:s.heap.objs.size≠d:=by
   obtain⟨o,es,ep,ho,rest⟩:=hS;exact (Nat.ne_of_lt (Heap.lt_size ho)).symm
  show wpAny _ A.in1 (holding [Value.ref s.heap.objs.size] _ >>= _) _ _ _;refine wpAny_bind (wpAny_holding ?_);refine wpAny_bind (wpAny_tryCatch ?_);unfold Builtin.Dict.pairItems;refine wpAny_bind (wpAny_typeOf (T := "tuple") ⟨_,pr,rfl⟩ ?_);rw[if_pos (by decide)];refine wpAny_bind (wpAny_seqItems pr rfl ?_);refine wpAny_pure ?_;show wpAny _ A.in1 (holding [x,y] (dictSet d x y)) _ _ _;refine wpAny_holding ?_;have hroom:(merged [] (more.take i)).length<=sizeLine:=by
   have e1:=merged_length_le ([]:List (K×Value)) (more.take i);rw[List.length_nil,List.length_take] at e1;omega
  refine wpAny_dictSet_pairs (hsz:=hroom) hkey hS1 fun h2' hS2 sb=>?_
  rw[← merged_take_succ [] more i (ky,y) hmore] at hS2;refine wpAny_pure ⟨plainId_quiet aah _,?_⟩;have e1:(rawInt ((i:Int)+1))=Value.int ((i+1:Nat):Int) 0:=by rfl
  rw[e1];have up:∀ b o,b≠d->h'.get? b=some o->h2'.get? b=some o:=fun b o hb e=>by rw[sb.2 b hb];exact e
  have zz:ahv h2' z TI TO i1 i2:=by
   obtain⟨p1,⟨a,b,p2⟩,p3⟩:=z';refine⟨up _ _ (Ne.symm d2) p1,⟨a,b,up _ _ (Ne.symm d3) p2⟩,?_⟩;rcases p3 with p3 | ⟨T,f,o,q1,q2,q3,q4,q5,q6⟩
   ·exact .inl (up _ _ (Ne.symm d1) p3)
   ·by_cases hTd:T=d
    ·subst hTd;obtain⟨o',es,ep,ho,rest⟩:=hS2;exact .inr ⟨T,f,_,up _ _ (Ne.symm d1) q1,ho,q3,q4,q5,q6⟩
    ·exact .inr ⟨T,f,o,up _ _ (Ne.symm d1) q1,up _ _ hTd q2,q3,q4,q5,q6⟩
  refine ih (i+1) _ (by omega) hlt zz (i1'.at fun o e=>up _ o (Ne.symm d4) e) (i2'.at fun o e=>up _ o (Ne.symm d5) e) (kl1.at fun o e=>up _ o (Ne.symm d6) e) (kl2.at fun o e=>up _ o (Ne.symm d7) e) (fun b o hb e=>?_) hS2 fun h'' tk kk'' hS''=>hR h'' tk kk'' hS''
  obtain⟨b1,b2,b3,b4,b5⟩:=na hb;exact up b o b5 (kk b o b1 b2 b3 b4 (kp b o hb e))
theorem aoa {E:Value->Shared->Prop}{s:Shared}{d z TI TO:Addr}{Q:Fin->Shared->Prop}(t:s.TypeIs (.ref d) "dict") (hz:IsZip s.heap z TI TO .none) (calm:A.handled=none)
  (on:∀ h2 tk e,Heap.NewExcOf s.heap h2 e "AttributeError" -> Q (.again (.builtin "dict.update.loop" ⟨[.ref d,.ref z,.int 0 0,.none],[]⟩)) { s with heap:=h2,toks:=tk }) :
  wpAny (model prog w) A (Builtin.«dict.__init__» ⟨[.ref d,.ref z],[]⟩) Q E s:=by
 have first:wpAny (model prog w) A (Builtin.Dict.selfAndRest "__init__" ⟨[.ref d,.ref z],[]⟩) (fun p s1=>p=(d,[Value.ref z])/\s1=s) E s:=wpAny_bind (wpAny_notOrdered_dict t (wpAny_pure ⟨rfl,rfl⟩))
 have pairs:wpAny (model prog w) A (Builtin.Dict.updateFrom "dict.__init__" d (.ref z) [] .none) Q E s:=by
  refine wpAny_bind (wpAny_typeOf (T := "zip") ⟨_,hz,rfl⟩ ?_);rw[if_pos (by decide)];refine wpAny_bind (atw hz calm fun h2 tk e x=>?_);have hz2:IsZip h2 z TI TO .none:=x.keeps _ _ hz;exact wpAny_bind (wpAny_rule (wpAny_bind (wpAny_pyIter_zip hz2 (wpAny_pure (on h2 tk e x)))))
 exact wpAny_bind (wpAny_mono first (fun p s1 q=>by obtain⟨rfl,rfl⟩:=q;exact pairs) fun _ _ q=>q)
set_option maxHeartbeats 800000 in
theorem ajs {E:Value->Shared->Prop}{s:Shared}{z TI TO i1 i2 l1 l2:Addr}{xs ys:Array Value}{more:List (K×Value)}{Q:Value->Shared->Prop}(hh:A.handled=none) (D:ZipApart z TI TO i1 i2 l1 l2)
  (hz:IsZip s.heap z TI TO .none) (hTI:IsPair s.heap TI (.ref i1) (.ref i2)) (hTO:IsPair s.heap TO .none .none) (h1:s.heap.IsListIter i1 l1 0) (h2:s.heap.IsListIter i2 l2 0) (hl1:s.heap.IsList l1 xs) (hl2:s.heap.IsList l2 ys)
  (hn:more.length=min xs.size ys.size) (hb:more.length<=sizeLine) (hT:∀ (i:Nat) x y,xs[i]?=some x->ys[i]?=some y->∃ k,knd.is k x=true/\more[i]?=some (k,y))
  (h:∀ (h':Heap) (tk:Nat),h'.DictOf knd s.heap.objs.size (merged [] more)->(∀ b o,b∉[z,TO,i1,i2]->s.heap.get? b=some o->h'.get? b=some o)->Q (.ref s.heap.objs.size) { s with heap:=h',toks:=tk }) :
  wpAny (model prog w) A (call (.type "dict") [.ref z]) Q E s:=by
 let d:=s.heap.objs.size;have made:(ac1 s).heap.DictOf knd d []:=Heap.DictOf.new s.heap;have old:∀ b o,s.heap.get? b=some o->(ac1 s).heap.get? b=some o:=fun b o e=>Heap.get?_push_of_some _ e
 refine callType_codes F.kt_called_dict (F.kt_typeCall_dict_1 _) F.entry_dict_init (kt_code_dict_new _ (Q₁:=fun v s1=>v = .ref d/\s1=ac1 s) ⟨rfl,rfl⟩) fun v s1 q=>?_
 obtain⟨rfl,rfl⟩:=q;refine⟨made.typeIs,F.args_dict_init_2 _ _,aoa made.typeIs (old _ _ hz) (by simp[hh]) fun h2' tk e x=>⟨plainId_quiet aah _,?_⟩⟩;have keeps:∀ b o,s.heap.get? b=some o->h2'.get? b=some o:=fun b o e=>x.keeps _ _ (old b o e)
 obtain⟨o1,p1,_⟩:=id h1;obtain⟨o2,p2,_⟩:=id h2;obtain⟨o3,p3,_⟩:=id hl1;obtain⟨o4,p4,_⟩:=id hl2;have nd:∀ {b o},s.heap.get? b=some o->d≠b:=fun e=>(Nat.ne_of_lt (Heap.lt_size e)).symm
 have at2:h2'.DictOf knd d []:=by
  obtain⟨o,es,ep,p,r⟩:=made;exact⟨o,es,ep,x.keeps _ _ p,r⟩
 refine arq (knd:=knd) (by simp[hh]) D ?_ more hn hb hT s.heap more.length 0 _ rfl (Nat.zero_le _) ⟨keeps _ _ hTI,⟨_,_,keeps _ _ hTO⟩,.inl (keeps _ _ hz)⟩ (h1.at fun o e=>keeps _ o e) (h2.at fun o e=>keeps _ o e) (hl1.at fun o e=>keeps _ o e) (hl2.at fun o e=>keeps _ o e) (fun b o _ e=>keeps b o e) (by simpa [merged] using at2) fun h' tk' kk fin=>?_
 ·simp only[List.mem_cons,List.not_mem_nil,or_false,not_or];exact⟨nd hz,nd hTI,nd hTO,nd p1,nd p2,nd p3,nd p4⟩
 ·refine⟨rfl,h h' tk' fin fun b o hb e=>kk b o (fun q=>?_) e⟩;simp only[List.mem_cons,List.not_mem_nil,or_false,not_or] at hb q;rcases q with q | q | q | q | q
  ·exact hb.1 q
  ·exact hb.2.1 q
  ·exact hb.2.2.1 q
  ·exact hb.2.2.2 q
  ·exact nd e q.symm
end
end PySem
namespace L2
open PySem PySem.Spec PyProof.Rows Lw
section
variable {X:Cx}{a b:Expr}{ta:TA}{p p' pos pos':Pos}
def tDZ (K:PySem.W.Frag) (ta:TA):TE:=fun σ H Q=>ta σ H fun xs H1=>∃ (l m:Addr) (ks:List Key) (vs:List V),xs=[.ref l,.ref m]/\SqL K H1 l (ks.map kV)/\SqL K H1 m vs/\ks.length<=1000/\∀ d,H1 d=none->Q (.ref d) (upd H1 d (.dK (abz [] (ks.zip vs))))
theorem arp:∀ (ks:List Key){vs:List V}{ws:List Value},Vals vs ws->KV (ks.zip vs) (ks.zip ws)
 | [],_,_,_=>.nil
 | k::ks,_,_,.nil=>.nil
 | k::ks,_,_,.cons h r=>.cons ⟨rfl,h⟩ (arp ks r)
theorem axq (hcalm:X.calm=true) (hg:Gl X "dict") (hm:X.mg "dict" = none) (hg':Gl X "zip") (hm':X.mg "zip" = none) (ha:PA X [a,b] ta)
  (hs:starEach [a,b] X.env=(false,eval a X.env)::starEach [b] X.env:=by rfl) (hs2:(backTo pos' (starEach [b] X.env)).any (·.1)=false:=by rfl) :
  PE X (.Call (.Name "dict" p) [.Call (.Name "zip" p') [a,b] [] pos'] [] pos) (tDZ X.K ta):=by
 intro pins s σ H Q I h;refine wpAny_Call_Name_kw (afo I hg hm boot_dict ?_ (by decide) (by decide));refine PyProof.Rows.callWith_type1 ?_ rfl rfl;show wpAny _ _ (spliced ((false,eval (.Call (.Name "zip" p') [a,b] [] pos') X.env)::backTo pos (starEach [] X.env))) _ _ s;refine Calls.spliced_cons ?_;refine wpAny_Call_Name_kw (afo I hg' hm' boot_zip ?_ (by decide) (by decide));refine PyProof.Rows.callWith_type1 (thn (ha pos' pins s σ H _ I h) fun us s1 ⟨xs,H1,I1,r1,q1⟩=>?_) hs hs2;obtain⟨l,m,ks,vs,rfl,hl,hv,hn,q⟩:=q1;obtain⟨u1,u2,rfl,ru1,ru2⟩:∃ u1 u2,us=[u1,u2]/\RelV (.ref l) u1/\RelV (.ref m) u2:=by
  cases r1 with | cons r1 r2=>cases r2 with | cons r2 r3=>cases r3;exact⟨_,_,rfl,r1,r2⟩
 cases ru1;cases ru2;obtain⟨its,r',pl,_⟩:=I1.list hl;obtain⟨jts,r2',pl2,_⟩:=I1.list hv;refine call_zip_2 pl.isList pl2.isList fun h' z1 z2 z3 z4 z5 z6 z7=>?_
 refine Calls.spliced_nil ?_;have L1:=r'.length;have L2:=r2'.length;rw[List.length_map] at L1;have hkv:=arp ks r2';have lt1:l<s1.heap.objs.size:=by obtain⟨_,e,_⟩:=pl.isList;exact Heap.lt_size e
 have lt2:m<s1.heap.objs.size:=by obtain⟨_,e,_⟩:=pl2.isList;exact Heap.lt_size e
 refine ajs (knd:=aa8 X.prog X.w) (more:=ks.zip jts) (s:={ s1 with heap:=h' }) (I1.ok.hd hcalm) (zipApart_new lt1 lt2) z1 z2 z3 z4 z5 (pl.isList.at fun o e=>z7 _ o e) (pl2.isList.at fun o e=>z7 _ o e) ?_ ?_ ?_ fun h2 tk hD hk=>?_
 ·rw[List.length_zip,List.size_toArray,List.size_toArray];omega
 ·rw[List.length_zip];exact Nat.le_of_lt (Nat.lt_of_le_of_lt (show min ks.length jts.length<=1000 by omega) (by decide))
 ·intro i x y hx hy;have hx:its[i]?=some x:=by simpa using hx
  have hy:jts[i]?=some y:=by simpa using hy
  obtain⟨hi,_⟩:=List.getElem?_eq_some_iff.mp hx;obtain⟨u,hu,ru⟩:=r'.get (i:=i) (x:=kV (ks[i]'(by omega))) (by simp[show i<ks.length by omega]);rw[hu] at hx;cases hx;refine⟨ks[i]'(by omega),aht ru,?_⟩;rw[List.getElem?_zip_eq_some];exact⟨List.getElem?_eq_getElem _,hy⟩
 ·have hz2:(abz [] (ks.zip vs)).length<=sizeLine:=by
   have h1:=ace (ks.zip vs) [];rw[List.length_nil,List.length_zip] at h1;exact Nat.le_of_lt (Nat.lt_of_le_of_lt (show (abz [] (ks.zip vs)).length<=1000 by omega) (by decide))
  have hsz:s1.heap.objs.size<=h'.objs.size:=by omega
  have kp:∀ b o,s1.heap.get? b=some o->h2.get? b=some o:=fun b o e=>hk b o (fun q=>by
   have:=Heap.lt_size e;simp only[List.mem_cons,List.not_mem_nil,or_false] at q;rcases q with q | q | q | q<;>rw[q] at this<;>first | exact absurd this (Nat.lt_irrefl _) | exact absurd this (Nat.not_lt.mpr (Nat.le_add_right _ _))) (z7 b o e)
  refine⟨.ref h'.objs.size,_,I1.laid (a:=h'.objs.size) (o:=.dK (abz [] (ks.zip vs))) (t':=tk) kp hsz ?_,rfl,q _ (I1.hok.fresh hsz)⟩;exact agx hz2 (beq_eq_false_iff_ne.mpr (Ne.symm (Nat.ne_of_lt (Nat.lt_of_lt_of_le I1.big hsz)))) (hkv.merge .nil) hD
end
def ali:List D->Option (List Key)
 | []=>some []
 | d::ds=>match ae1 d,ali ds with
  | some k,some ks=>some (k::ks)
  | _,_=>none
section
variable {X:Cx}{K:PySem.W.Frag}
theorem akn {A:Addr->Prop}{H:Hp}{ds:List D}{ks:List Key}{vs:List V}(h:ali ds=some ks) (rs:Reps K A H ds vs):vs=ks.map kV:=by
 induction ds generalizing ks vs with
 | nil=>cases rs;cases h;rfl
 | cons d ds ih =>
  cases rs with
  | cons r rs =>
  have h:=(show (match ae1 d,ali ds with | some k,some ks=>some (k::ks) | _,_=>none)=some ks from h);cases e1:ae1 d with
  | none=>rw[e1] at h;cases h
  | some k =>
   cases e2:ali ds with
   | none=>rw[e1,e2] at h;cases h
   | some ms =>
    rw[e1,e2] at h;cases h;rw[ih e2 rs,aeg e1 r.peek];rfl
theorem afx:∀ (xs:List Str),ali (xs.map D.str)=some (xs.map Sum.inr)
 | []=>rfl
 | x::xs=>by
  show (match some (Sum.inr x:Key),ali (xs.map D.str) with | some k,some ks=>some (k::ks) | _,_=>none)=_;rw[afx xs];rfl
def fDZ:OC:=fun ds Φ=>match ds with
 | [.lst xs,.lst ys]=>∃ ks,ali xs=some ks/\ks.length<=1000/\Φ (.own (.dK (acz [] (ks.zip ys))))
 | _=>False
theorem ae8:∀ (ks:List Key){ds:List D}{vs:List V}{A:Addr->Prop}{H:Hp},Reps K A H ds vs->(ks.zip ds).map (·.1)=(ks.zip vs).map (·.1)/\Reps K A H ((ks.zip ds).map (·.2)) ((ks.zip vs).map (·.2))
 | [],_,_,_,_,_=>⟨rfl,.nil⟩
 | k::ks,_,_,_,_,.nil=>⟨rfl,.nil⟩
 | k::ks,_,_,_,_,.cons h r=>by
  obtain⟨q1,q2⟩:=ae8 ks r;exact⟨by simp[q1],.cons h q2⟩
theorem cd_dz:ael K (fun xs H Q=>∃ (l m:Addr) (ks:List Key) (vs:List V),xs=[.ref l,.ref m]/\SqL K H l (ks.map kV)/\SqL K H m vs/\ks.length<=1000/\∀ d,H d=none->Q (.ref d) (upd H d (.dK (abz [] (ks.zip vs))))) fDZ:=by
 intro B L H ds xs Φ Q hd hp hf k;unfold fDZ at hf;split at hf
 ·obtain⟨x,y,rfl,px,py⟩:=aks hp;obtain⟨ks,hk,hl,hf⟩:=hf;obtain⟨a,us,rfl,ha,ra⟩:=px.lst_inv;obtain⟨b,vs,rfl,hb,rb⟩:=py.lst_inv;have e:=akn hk ra;subst e;obtain⟨z1,z2⟩:=ae8 ks rb;obtain⟨q1,q2⟩:=aea (kvs:=[]) (vs:=[]) z1 z2 rfl .nil;exact⟨a,b,ks,vs,rfl,SqL.of ha,SqL.of hb,hl,fun p hp=>k _ _ _ hf (hd.dKF hp q1 q2)⟩
 ·exact hf.elim
variable {a b:Expr}{ta:TAd}{p p' pos pos':Pos}
theorem awj (hcalm:X.calm=true) (hg:Gl X "dict") (hm:X.mg "dict" = none) (hg':Gl X "zip") (hm':X.mg "zip" = none) (ha:PAd X [a,b] ta)
  (hs:starEach [a,b] X.env=(false,eval a X.env)::starEach [b] X.env:=by rfl) (hs2:(backTo pos' (starEach [b] X.env)).any (·.1)=false:=by rfl) :
  PD X (.Call (.Name "dict" p) [.Call (.Name "zip" p') [a,b] [] pos'] [] pos) (dC fDZ ta):=(axq hcalm hg hm hg' hm' ha hs hs2).mono fun _ _ _ h=>aje cd_dz h
end
def ItrS (lo c:Int) (n:Nat):It:=⟨fun i _=>i<n,fun i H x H'=>H'=H/\x = .int (lo+i*c),fun i _=>n<=i⟩
theorem alw {P:Program}{w:World}{K:PySem.W.Frag}{tg:Expr}(it:Addr) (lo c:Int) (n:Nat):Turn P w K tg (ItrS lo c n) [it] it (fun i h=>IsRangeIter h it (lo+(i:Nat)*c) ((n:Int)-(i:Nat)) c) where
 mem:=by simp
 obj:=fun i h st b hb=>by
  have e:b=it:=by simpa using hb
  subst e;exact⟨_,st,fun v z=>by
   have z':Data.fields _=Data.cell v:=z;cases z'⟩
 keep:=fun i h h' st k=>k it (by simp) _ st
 item:=by
  intro X hP hw hK hc i pins s σ H E I hf st hg;subst hP hw hK;obtain⟨f0,f1,f2,f3,f4,f5⟩:=hf it (by simp);have W:=Walks.range (prog:=X.prog) (w:=X.w) (I.ok.hd hc) it lo c n;refine W.item i s _ _ hg st fun v h' tk hv st' kk=>?_
  obtain⟨t,rfl⟩:=hv;have I1:Inv X pins σ H { s with heap:=h',toks:=tk }:=I.turned (fun b o hb e=>kk b o (by simpa using hb) e) f0 f1 f3 f4 f5;exact⟨_,rfl,ary (s:={ s with heap:=h',toks:=tk }) (n := "range_iterator") st' rfl rfl (by decide) ⟨.int (lo+i*c),H,I1,⟨t,rfl⟩,⟨rfl,rfl⟩,st',fun b hb=>(hf b hb).1⟩⟩
 done:=by
  intro X hP hw hK hc i pins s σ H E I hf st hg;subst hP hw hK;obtain⟨f0,f1,f2,f3,f4,f5⟩:=hf it (by simp);exact wpAny_pyNext_range_end (I.ok.hd hc) st (by have:n<=i:=hg;omega) fun h' eb=>⟨rfl,I.turned (t':=s.toks) (fun b o hb e=>eb b o hb e) f0 f1 f3 f4 f5⟩
 self:=fun _ _ _ _ _ st h=>wpAny_pyIter_rangeiter st h
section
variable {X:Cx}{tg:Expr}
def ahw (lo hi c:Int):Nat:=if lo<hi then ((hi-lo-1)/c+1).toNat else 0
def iRng3 (ta:TA):TI:=fun σ H R=>ta σ H fun vs H1=>∃ i j c:Int,vs=[.int i,.int j,.int c]/\(0<=i/\i<=100000/\0<=j/\j<=100000/\0<c/\c<=100000)/\R (ItrS i c (ahw i j c)) H1
theorem ar3 {a b c:Expr}{ta:TA}{p pos:Pos}(hg:Gl X "range") (hm:X.mg "range" = none) (ha:PA X [a,b,c] ta) (hs:starEach [a,b,c] X.env=(false,eval a X.env)::starEach [b,c] X.env:=by rfl) (hs2:(backTo pos (starEach [b,c] X.env)).any (·.1)=false:=by rfl) :
  PI X tg (.Call (.Name "range" p) [a,b,c] [] pos) (iRng3 ta):=by
 intro pins s σ H R I h;refine Call_ (afo I hg hm boot_range (PyProof.Rows.callWith_type1 (thn (ha pos pins s σ H _ I h) fun us s1 ⟨vs,H1,I1,r1,q1⟩=>?_) hs hs2));obtain⟨lo,hi,c,rfl,⟨b1,b2,b3,b4,b5,b6⟩,q⟩:=q1;cases r1 with
 | cons ra rr =>
  cases rr with
  | cons rb rr =>
   cases rr with
   | cons rc rr =>
    cases rr;obtain⟨t,rfl⟩:=ra;obtain⟨u,rfl⟩:=rb;obtain⟨v,rfl⟩:=rc;refine call_range_3 (by omega) ?_ (.inl (PyProof.noPylong_small (by omega)));refine wpAny_pyIter_range (IsRange.new ..) ?_ ?_
    ·have n0:0<=Builtin.Range.rangeSize lo hi c/\Builtin.Range.rangeSize lo hi c<=100001:=by
      unfold Builtin.Range.rangeSize;rw[if_pos (show c>0 from b5)];split
      ·have z1:=Int.ediv_nonneg (show 0<=hi-lo-1 by omega) (show 0<=c by omega);have z2:=Int.ediv_le_self c (show 0<=hi-lo-1 by omega);omega
      ·omega
     unfold Builtin.Range.small;simp only[Builtin.Range.rangeFitsLong,Bool.and_eq_true,Bool.or_eq_true,decide_eq_true_eq,beq_iff_eq,if_pos (show c>0 from b5)];omega
    ·have I2:Inv X pins σ H1 { s1 with heap:=s1.heap.push { cls:=.type "range",data:=.fields #[.int lo t,.int hi u,.int c v] },toks:=s1.toks }:=I1.kept fun b o e=>Heap.get?_push_of_some _ e
     refine⟨(s1.heap.push { cls:=.type "range",data:=.fields #[.int lo t,.int hi u,.int c v] }).objs.size,[(s1.heap.push { cls:=.type "range",data:=.fields #[.int lo t,.int hi u,.int c v] }).objs.size],_,_,H1,rfl,
      I2.kept (t':=s1.toks) fun b o e=>Heap.get?_push_of_some _ e,alw _ lo c (ahw lo hi c),?_,fun b hb=>?_,q⟩
     ·have e1:lo+((0:Nat):Int)*c=lo:=by simp
      have e2:((ahw lo hi c:Nat):Int)-((0:Nat):Int)=Builtin.Range.rangeSize lo hi c:=by
       unfold ahw Builtin.Range.rangeSize;rw[if_pos (show c>0 from b5)];split
       ·have:=Int.ediv_nonneg (show 0<=hi-lo-1 by omega) (show 0<=c by omega);omega
       ·rfl
      show IsRangeIter _ _ (lo+((0:Nat):Int)*c) (((ahw lo hi c:Nat):Int)-((0:Nat):Int)) c;rw[e1,e2];exact Heap.get?_push_size _ rfl
     ·have e:b=(s1.heap.push { cls:=.type "range",data:=.fields #[.int lo t,.int hi u,.int c v] }).objs.size:=by simpa using hb
      subst e;exact I2.fpOk (Nat.le_refl _) (I2.hok.fresh (Nat.le_refl _))
end
section
variable {X:Cx}{K:PySem.W.Frag}{tg a b c:Expr}{ta tb tc:TEd}{pos p:Pos}
def amq (lo c:Int) (n:Nat):List D:=(List.range n).map fun (i:Nat)=>D.int (lo+i*c)
theorem ap9 {lo c:Int}{n:Nat}:YD K (ItrS lo c n) (amq lo c n) [] where
 vals:=rfl
 go:=fun i H A hi _=>by simpa [ItrS,amq] using hi
 yld:=fun i H A x H' hi _ y=>by
  have hi':i<n:=by simpa [amq] using hi
  refine⟨.int (lo+i*c),by simp[amq,hi'],.inl ⟨y.1,?_⟩⟩;rw[y.2];exact .int _
 stop:=fun i H A hi _=>by simp[ItrS,amq,hi]
def iR3 (ta tb tc:TEd):TId:=fun dk ρ Ψ=>ta dk ρ fun r ρ1=>tb dk ρ1 fun r' ρ2=>tc dk ρ2 fun r'' ρ3=>match r,r',r'' with
 | .val (.int i),.val (.int j),.val (.int c)=>(0<=i/\i<=100000/\0<=j/\j<=100000/\0<c/\c<=100000)/\Ψ (amq i c (ahw i j c)) ρ3
 | _,_,_=>False
theorem i_r3 (hg:Gl X "range") (hm:X.mg "range" = none) (ha:PD X a ta) (hb:PD X b tb) (hc:PD X c tc) (hs:starEach [a,b,c] X.env=(false,eval a X.env)::starEach [b,c] X.env:=by rfl) (hs2:(backTo pos (starEach [b,c] X.env)).any (·.1)=false:=by rfl)
  (hn:af1 a=true:=by rfl) (hn2:af1 b=true:=by rfl) (hn3:af1 c=true:=by rfl):PId X tg (.Call (.Name "range" p) [a,b,c] [] pos) (iR3 ta tb tc) :=
 (ar3 hg hm (pa_c ha (pa_c hb (pa_c hc aak hn3) hn2) hn) hs hs2).mono fun σ H R hq0=>hq0.elim fun B ρ T Ψ hl hd ht k=>⟨B,ρ,T,_,hl,hd,ht,fun r ρ1 v H1 l1 d1 h1=>⟨B,ρ1,(r,some v)::T,_,l1,d1,h1,fun r' ρ2 u H2 l2 d2 h2=>⟨B,ρ2,(r',some u)::(r,some v)::T,_,l2,d2,h2,fun r'' ρ3 w H3 l3 d3 h3=>by
  split at h3
  ·have q0:=d3.valAt;have d4:=d3.drop;obtain⟨q1,q2,q3⟩:=d4.two rfl rfl;have e0:=q0.int_inv;have e1:=q2.int_inv;have e2:=q3.int_inv;subst e0 e1 e2;exact⟨_,_,_,rfl,h3.1,k _ _ ρ3 [] H3 l3 q1 ap9 h3.2⟩
  ·exact h3.elim⟩⟩⟩
end
end L2
namespace Lw
open PySem L2
abbrev Tab:=List (Str×Int)
abbrev Gts:=List (Str×Str×List Str)
def encT (t:Tab):List (Key×D):=t.map fun p=>(Sum.inr p.1,D.int p.2)
def look (t:Tab) (x:Str):Int:=match t.find? (fun p=>decide (p.1=x)) with
 | some p=>p.2
 | none=>0
theorem aci {p:Str×Int}{t:Tab}{x:Str}:look (p::t) x=if p.1=x then p.2 else look t x:=by
 unfold look;rw[List.find?_cons];by_cases h:p.1=x<;>simp[h]
theorem valT:∀ (t:Tab) (x:Str),(x∈t.map (·.1)->valD (encT t) (Sum.inr x)=some (.int (look t x)))/\(x∉t.map (·.1)->valD (encT t) (Sum.inr x)=none/\look t x=0)
 | [],x=>⟨fun h=>by simp at h,fun _=>⟨rfl,rfl⟩⟩
 | p::t,x=>by
  have ih:=valT t x;have e:encT (p::t)=(Sum.inr p.1,D.int p.2)::encT t:=rfl;rw[e,aby,aci];by_cases h:p.1=x
  ·subst h;exact⟨fun _=>by rw[if_pos rfl,if_pos rfl],fun n=>absurd (by simp) n⟩
  ·have h':(Sum.inr p.1:Key)≠Sum.inr x:=fun q=>h (Sum.inr.inj q)
   rw[if_neg h',if_neg h];refine⟨fun m=>ih.1 ?_,fun m=>ih.2 fun q=>m (by simp only[List.map_cons,List.mem_cons];exact .inr q)⟩;simp only[List.map_cons,List.mem_cons] at m;exact m.resolve_left fun q=>h q.symm
theorem aw8 {t:Tab}{x:Str}{n:Int}(h:x∉t.map (·.1)):putD (encT t) (Sum.inr x) (.int n)=encT (t++[(x,n)]):=by
 unfold putD;rw[agp,((valT t x).2 h).1];simp[encT]
theorem ajh:∀ (u t:Tab),((t++u).map (·.1)).Nodup->acz (encT t) (encT u)=encT (t++u)
 | [],t,_=>by simp[acz,encT]
 | p::u,t,h=>by
  have hn:p.1∉t.map (·.1):=fun q=>by
   rw[List.map_append] at h;exact (List.nodup_append.mp h).2.2 p.1 q p.1 (by simp) rfl
  have e:acz (encT t) (encT (p::u))=acz (putD (encT t) (Sum.inr p.1) (.int p.2)) (encT u):=rfl;rw[e,aw8 hn,ajh u (t++[p]) (by simpa using h)];simp
theorem ach {t:Tab}(h:(t.map (·.1)).Nodup):acz [] (encT t)=encT t:=by
 have:=ajh t [] (by simpa using h)
 simpa [encT] using this
end Lw
namespace L2
open PySem PySem.Spec PyProof.Rows Lw
section
variable {X:Cx}{K:PySem.W.Frag}
theorem aqk:abr X (.type "int") (fun xs H Q=>∃ (x:Str) (n:Int),xs=[.str x]/\intText? x=some n/\x.length<=640/\Q (.int n) H):=by
 intro pins s σ H xs us Q I r h;obtain⟨x,n,rfl,h1,h2,q⟩:=h;obtain⟨u,rfl,ru⟩:=ad8 r;obtain⟨t,rfl⟩:=ru;exact PySem.W.KIN.call_text h1 h2 ⟨.int n,H,I.kept (t':=s.toks+1) fun b o e=>e,⟨_,rfl⟩,q⟩
def fIntT:OC:=fun ds Φ=>match ds with
 | [.str x]=>∃ n,intText? x=some n/\x.length<=640/\Φ (.val (.int n))
 | ds=>fInt ds Φ
def av7:List V->Hp->VK->Prop:=fun xs H Q=>((∃ i,xs=[.int i]/\Q (.int i) H)\/∃ k,xs=[.bl k]/\Q (.int (if k then 1 else 0)) H)\/∃ (x:Str) (n:Int),xs=[.str x]/\intText? x=some n/\x.length<=640/\Q (.int n) H
theorem aj2:abr X (.type "int") av7:=aqw.or aqk
theorem apf:ael K av7 fIntT:=by
 intro B L H ds xs Φ Q hd hp hf k;have two:fInt ds Φ->av7 xs H Q:=fun hf=>.inl (cd_int B L H ds xs Φ Q hd hp hf k)
 cases ds with
 | nil=>exact two hf
 | cons d ds =>
 cases d<;>first | exact two hf | skip
 cases ds with
 | cons _ _=>exact two hf
 | nil =>
 obtain⟨x,rfl,px⟩:=ac9 hp;have:=px.str_inv;subst this;obtain⟨n,h1,h2,hf⟩:=hf;exact .inr ⟨_,n,rfl,h1,h2,k _ _ H hf (hd.pushF (.int _))⟩
end
section
variable {n:Nat}{caps:List Nat}{ι:TId}{g:TGd}{te:TEd}{tt:TTd}{dk:List Addr}{ρ:List Sl}{Φ:Sl->List Sl->Prop}{α:Type}
theorem ao4 (xs:List α) (enc out:α->D) (p:α->Bool) (ρ1:List Sl) (hι:∀ Ψ:List D->List Sl->Prop,Ψ (xs.map enc) ρ1->ι dk ρ Ψ) (hl:xs.length<=100000)
  (hs:∀ (i:Nat) x (ys:List D) (Nx:List D->List Sl->Prop),xs[i]?=some x->ys.length<100000->(p x=true->Nx (ys++[out x]) (capS caps ρ1))->(p x=false->Nx ys (capS caps ρ1))->g (enc x) (List.replicate n Sl.no++capS caps ρ1) fun ρ2=>tt dk ρ2 fun b ρ3=>if b=true then te dk ρ3 fun r ρ4=>match sd r with
   | some c=>ys.length<100000/\Nx (ys++[c]) (ρ4.drop n)
   | none=>False
   else Nx ys (ρ3.drop n))
  (hΦ:Φ (.own (.lst ((xs.filter p).map out))) (adi caps (capS caps ρ1) ρ1)):eLC n caps ι g tt te dk ρ Φ:=by
 refine hι _ ⟨fun i ys cs=>ys=((xs.take i).filter p).map out/\cs=capS caps ρ1,⟨by simp,rfl⟩,?_,?_⟩
 ·rintro i d ys cs hd _ ⟨e1,e2⟩;rw[List.getElem?_map] at hd;cases e:xs[i]? with
  | none=>rw[e] at hd;cases hd
  | some x =>
   rw[e] at hd;cases hd;obtain⟨hi,_⟩:=List.getElem?_eq_some_iff.mp e;have tk:(xs.take (i+1)).filter p=(xs.take i).filter p++(if p x=true then [x] else []):=by
    rw[List.take_add_one,e,List.filter_append];by_cases q:p x=true<;>simp[q]
   have len:ys.length<100000:=by
    rw[e1,List.length_map];have h1:=List.length_filter_le p (xs.take i);rw[List.length_take] at h1;omega
   rw[e2];refine hs i x ys (fun ys cs=>ys=((xs.take (i+1)).filter p).map out/\cs=capS caps ρ1) e len (fun q=>⟨?_,rfl⟩) fun q=>⟨?_,rfl⟩
   ·rw[tk,if_pos q,e1,List.map_append];rfl
   ·rw[tk,if_neg (by rw[q];decide),List.append_nil];exact e1
 ·rintro ys cs _ ⟨e1,e2⟩;rw[e1,e2,List.length_map,List.take_length];exact hΦ
theorem acs (xs:List α) (enc out:α->D) (ρ1:List Sl) (hι:∀ Ψ:List D->List Sl->Prop,Ψ (xs.map enc) ρ1->ι dk ρ Ψ) (hl:xs.length<=100000)
  (hs:∀ (i:Nat) x (ys:List D) (Nx:List D->List Sl->Prop),xs[i]?=some x->ys.length<100000->Nx (ys++[out x]) (capS caps ρ1)->g (enc x) (List.replicate n Sl.no++capS caps ρ1) fun ρ2=>te dk ρ2 fun r ρ4=>match sd r with
   | some c=>ys.length<100000/\Nx (ys++[c]) (ρ4.drop n)
   | none=>False)
  (hΦ:Φ (.own (.lst (xs.map out))) (adi caps (capS caps ρ1) ρ1)):eLC n caps ι g yesD te dk ρ Φ:=by
 refine ao4 xs enc out (fun _=>true) ρ1 hι hl (fun i x ys Nx e h1 h2 _=>hs i x ys Nx e h1 (h2 rfl)) ?_;have:xs.filter (fun _=>true)=xs:=List.filter_eq_self.mpr fun _ _=>rfl
 rw[this];exact hΦ
end
end L2
namespace Lw
open PySem L2
abbrev TabS:=List (Str×Str)
def encS (t:TabS):List (Key×D):=t.map fun p=>(Sum.inr p.1,D.str p.2)
def nmOf (t:TabS) (x:Str):Str:=match t.find? (fun p=>decide (p.1=x)) with
 | some p=>p.2
 | none => ""
theorem aiv {p:Str×Str}{t:TabS}{x:Str}:nmOf (p::t) x=if p.1=x then p.2 else nmOf t x:=by
 unfold nmOf;rw[List.find?_cons];by_cases h:p.1=x<;>simp[h]
theorem valS:∀ (t:TabS) (x:Str),(x∈t.map (·.1)->valD (encS t) (Sum.inr x)=some (.str (nmOf t x)))/\(x∉t.map (·.1)->valD (encS t) (Sum.inr x)=none)
 | [],x=>⟨fun h=>by simp at h,fun _=>rfl⟩
 | p::t,x=>by
  have ih:=valS t x;have e:encS (p::t)=(Sum.inr p.1,D.str p.2)::encS t:=rfl;rw[e,aby,aiv];by_cases h:p.1=x
  ·subst h;exact⟨fun _=>by rw[if_pos rfl,if_pos rfl],fun n=>absurd (by simp) n⟩
  ·have h':(Sum.inr p.1:Key)≠Sum.inr x:=fun q=>h (Sum.inr.inj q)
   rw[if_neg h',if_neg h];refine⟨fun m=>ih.1 ?_,fun m=>ih.2 fun q=>m (by simp only[List.map_cons,List.mem_cons];exact .inr q)⟩;simp only[List.map_cons,List.mem_cons] at m;exact m.resolve_left fun q=>h q.symm
theorem putS {t:TabS}{x n:Str}(h:x∉t.map (·.1)):putD (encS t) (Sum.inr x) (.str n)=encS (t++[(x,n)]):=by
 unfold putD;rw[agp,(valS t x).2 h];simp[encS]
theorem akl:∀ (u t:TabS),((t++u).map (·.1)).Nodup->acz (encS t) (encS u)=encS (t++u)
 | [],t,_=>by simp[acz,encS]
 | p::u,t,h=>by
  have hn:p.1∉t.map (·.1):=fun q=>by
   rw[List.map_append] at h;exact (List.nodup_append.mp h).2.2 p.1 q p.1 (by simp) rfl
  have e:acz (encS t) (encS (p::u))=acz (putD (encS t) (Sum.inr p.1) (.str p.2)) (encS u):=rfl;rw[e,putS hn,akl u (t++[p]) (by simpa using h)];simp
theorem mergeS {t:TabS}(h:(t.map (·.1)).Nodup):acz [] (encS t)=encS t:=by
 have:=akl t [] (by simpa using h)
 simpa [encS] using this
theorem zipS:∀ (own xs:List Str),(own.map fun o=>(Sum.inr o:Key)).zip (xs.map D.str)=encS (own.zip xs)
 | [],_=>rfl
 | _::_,[]=>rfl
 | o::own,x::xs=>by simp only[List.map_cons,List.zip_cons_cons,zipS own xs];rfl
theorem ami:∀ (own xs:List Str),own.length=xs.length->(own.zip xs).map (·.1)=own
 | [],_,_=>rfl
 | _::_,[],h=>by simp at h
 | o::own,x::xs,h=>by simp only[List.zip_cons_cons,List.map_cons,ami own xs (by simpa using h)]
theorem anl:∀ {own xs:List Str}{o:Str},own.length=xs.length->o∈own->nmOf (own.zip xs) o∈xs
 | [],_,_,_,h=>by cases h
 | _::_,[],_,h,_=>by simp at h
 | a::own,x::xs,o,h,m=>by
  rw[List.zip_cons_cons,aiv];split
  ·exact List.mem_cons_self
  ·rename_i e
   exact List.mem_cons_of_mem _ (anl (by simpa using h) ((List.mem_cons.mp m).resolve_left fun q=>e q.symm))
theorem au6:∀ {own xs:List Str}{o o':Str},own.length=xs.length->xs.Nodup->o∈own->o'∈own->nmOf (own.zip xs) o=nmOf (own.zip xs) o'->o=o'
 | [],_,_,_,_,_,h,_,_=>by cases h
 | _::_,[],_,_,h,_,_,_,_=>by simp at h
 | a::own,x::xs,o,o',h,nd,m,m',e=>by
  rw[List.zip_cons_cons,aiv,aiv] at e;obtain⟨n1,n2⟩:=List.nodup_cons.mp nd;have hl:own.length=xs.length:=by simpa using h
  by_cases q:a=o
  ·by_cases q':a=o'
   ·rw[← q,← q']
   ·rw[if_pos q,if_neg q'] at e;have:=anl hl ((List.mem_cons.mp m').resolve_left fun z=>q' z.symm);dsimp only at e;rw[← e] at this;exact absurd this n1
  ·by_cases q':a=o'
   ·rw[if_neg q,if_pos q'] at e;have:=anl hl ((List.mem_cons.mp m).resolve_left fun z=>q z.symm);dsimp only at e;rw[e] at this;exact absurd this n1
   ·rw[if_neg q,if_neg q'] at e;exact au6 hl n2 ((List.mem_cons.mp m).resolve_left fun z=>q z.symm) ((List.mem_cons.mp m').resolve_left fun z=>q' z.symm) e
theorem aer {α β:Type}{f:α->β}:∀ {l:List α},l.Nodup->(∀ x∈l,∀ y∈l,f x=f y->x=y)->(l.map f).Nodup
 | [],_,_=>.nil
 | a::l,nd,h=>by
  obtain⟨n1,n2⟩:=List.nodup_cons.mp nd;refine List.nodup_cons.mpr ⟨fun m=>?_,aer n2 fun x hx y hy=>h x (List.mem_cons_of_mem _ hx) y (List.mem_cons_of_mem _ hy)⟩;obtain⟨y,hy,e⟩:=List.mem_map.mp m;have:=h a List.mem_cons_self y (List.mem_cons_of_mem _ hy) e.symm;subst this;exact n1 hy
def aa1:List Str->List (Str×Str)
 | a::b::r=>(a,b)::aa1 r
 | _=>[]
theorem ajl:∀ {ws:List Str}{i:Nat}{p:Str×Str},(aa1 ws)[i]?=some p->ws[2*i]?=some p.1/\ws[2*i+1]?=some p.2
 | [],i,p,h=>by simp[aa1] at h
 | [a],i,p,h=>by simp[aa1] at h
 | a::b::r,0,p,h=>by simp[aa1] at h;subst h;exact⟨rfl,rfl⟩
 | a::b::r,i+1,p,h=>by
  have:=ajl (ws:=r) (i:=i) (p:=p) (by simpa [aa1] using h);rw[show 2*(i+1)=(2*i)+1+1 by omega]
  simpa using this
theorem agy:∀ (ws:List Str),ws.length%2=0->2*(aa1 ws).length=ws.length
 | [],_=>rfl
 | [a],h=>by simp at h
 | a::b::r,h=>by
  have:=agy r (by simp only[List.length_cons] at h;omega);simp only[aa1,List.length_cons];omega
theorem amz (n:Nat):ahw 0 ((2*n:Nat):Int) 2=n:=by
 unfold ahw;split
 ·omega
 ·omega
def top (i:Nat):Stmt:=PySem.Challenge.pw_laidcells_k11_rows_that_lack_names.main.body.getD i (.Pass ⟨0,0,0,0⟩)
abbrev abd:Stmt:=top 7
abbrev add:Stmt:=top 9
abbrev ac3:Stmt:=top 10
abbrev abe:Stmt:=top 11
abbrev aay:Stmt:=top 13
abbrev ab5:Stmt:=top 14
abbrev abg:Stmt:=top 15
abbrev afn:Stmt:=top 17
abbrev ao8:Stmt:=top 19
abbrev afe:Stmt:=top 20
abbrev aly:Stmt:=top 21
abbrev ao1:Stmt:=top 22
abbrev ahh:Stmt:=top 23
abbrev aok:Stmt:=top 24
abbrev adw:Stmt:=top 25
abbrev abh:Stmt:=top 26
abbrev adr:Stmt:=top 27
abbrev abu:Stmt:=top 28
abbrev acl:Stmt:=top 29
abbrev ac5:Stmt:=top 30
abbrev ab3:Stmt:=top 32
abbrev acm:Stmt:=top 33
abbrev ab7:Stmt:=top 34
abbrev abp:Stmt:=top 35
abbrev s_law:Stmt:=top 36
abbrev sLaw:Stmt:=top 36
def ax0:Stmt->List Stmt
 | .ClassDef _ _ _ b ..=>b
 | _=>[]
abbrev aoz:Stmt:=(ax0 (top 5)).getD 0 (.Pass ⟨0,0,0,0⟩)
structure Txt (mg:Str->Option Value):Prop where
 len:mg "len" = none
 range:mg "range" = none
 sum:mg "sum" = none
 min:mg "min" = none
 max:mg "max" = none
 tuple:mg "tuple" = none
 list:mg "list" = none
 set:mg "set" = none
 dict:mg "dict" = none
 int:mg "int" = none
 str:mg "str" = none
 zip:mg "zip" = none
 enumerate:mg "enumerate" = none
 all:mg "all" = none
 any:mg "any" = none
 isinstance:mg "isinstance" = none
 sorted:mg "sorted" = none
 abs:mg "abs" = none
 reversed:mg "reversed" = none
 bool:mg "bool" = none
structure Gd (K:PySem.W.Frag) (mg:Str->Option Value) (x:Str) (st:Stmt) (ps:List Str) (f:Addr) (fd:FuncData):Prop where
 F:Fun K x x st f fd
 m:mg x=some (.ref f)
 k:PySem.W.keepIn K (.ref f)=true
 b:ahl K fd ps []
def aku:Sp:=fun vs H Q _=>∃ (d c:Addr) (m:Int),vs=[.ref d,.int m]/\DeckAt H d c/\0<m/\m<1000000/\∀ (r:Int) (H':Hp),0<=r->r<m->DeckAt H' d c->Keep d c H H'->Q (.int r) H'
section
variable {P:Program}{w:World}{K:PySem.W.Frag}{mg:Str->Option Value}{base:Heap}
theorem ap0:FnScope ["deck","many","at","cell"] ["deck","many"] (aaj afe):=⟨rfl,rfl,rfl,by decide +kernel,rfl,by decide +kernel,by decide +kernel⟩
set_option maxHeartbeats 1000000 in
theorem ajd {f:Addr}{fd:FuncData}(F:Fun K "_law_take" "_law_take" afe f fd) (T:Txt mg):FnOk P w K mg base CX0 1 f fd ["deck","many"] aku:=by
 refine F.ok ap0 (fun vs H Q E h=>?_) (fun cdv A outer s H vs Q E hr h=>?_)
 ·obtain⟨d,c,m,rfl,_⟩:=h;rfl
 ·obtain⟨d,c,m,rfl,D,hm0,hm,k⟩:=h;obtain⟨ns,p,h1,h2,h3,h4⟩:=id D.ex;have hdc:=D.ne;refine⟨_,aas (aa5 (i:=2) ap0.nd rfl (Or.inl rfl) (aa6 acy (acq abi (pv 0) aap (fun _ _=>rfl)) (abq abm (by rfl) T.len PySem.boot_len (ad1 (acq abi (pv 0) aap (fun _ _=>rfl)) aak)))) (aas (anv (aa6 afk (acq abi (pv 0) aap (fun _ _=>rfl)) aap) (amx (pv 0) aap agn)) (aas (aa5 (i:=3) ap0.nd rfl (Or.inl rfl) (acq abi (acq abi (pv 0) aap (fun _ _=>rfl)) (pv 2) (fun _ _=>rfl))) (aas (anv (aa6 apo (pv 3) (pv 1)) (amx (acq abi (pv 0) aap (fun _ _=>rfl)) (pv 2) agn)) (aav (ac6 (aa6 acy (pv 3) (pv 1))))))),?_⟩;refine⟨_,rfl,d,_,_,_,rfl,rfl,SqL.of h1,rfl,_,rfl,d,_,_,_,rfl,rfl,SqL.of h1,rfl,c,_,rfl,.inl (SqL.of h2),_,_,rfl,rfl,?_,?_⟩
  ·rw[List.length_map];omega
  ·rw[List.length_map];have b0:=Int.emod_nonneg p (show (ns.length:Int)≠0 by omega);have b1:=Int.emod_lt_of_pos p (show (0:Int)<ns.length by omega);obtain⟨j,hj⟩:=Int.eq_ofNat_of_zero_le b0;have hjl:j<ns.length:=by omega
   have hat:(ns.map V.int)[j]?=some (V.int ns[j]):=by simp[hjl]
   refine⟨_,rfl,d,_,_,_,rfl,rfl,SqL.of h1,rfl,_,_,rfl,rfl,_,rfl,d,_,_,1,rfl,rfl,h1,rfl,?_⟩;have g1:upd H d (.lst ([V.ref c,V.int p].set 1 (V.int (p+1)))) d=some (.lst [.ref c,.int (p+1)]):=aaa;have g2:upd H d (.lst ([V.ref c,V.int p].set 1 (V.int (p+1)))) c=some (.lst (ns.map V.int)):=by rw[aad hdc.symm];exact h2
   refine⟨_,rfl,d,_,_,_,rfl,rfl,SqL.of g1,rfl,_,rfl,c,_,_,V.int ns[j],rfl,rfl,SqL.of g2,(by rw[hj];exact aa9 hat),?_⟩
   ·refine⟨_,rfl,_,rfl,_,_,rfl,rfl,⟨hm0,by omega⟩,_,rfl,d,_,_,_,rfl,rfl,SqL.of g1,rfl,_,rfl,c,_,_,j,rfl,rfl,g2,?_,?_⟩
    ·rw[hj,List.length_map];unfold ixN;rw[if_pos (by omega),if_pos (by omega)];simp
    ·refine⟨_,rfl,_,rfl,_,_,rfl,rfl,hm0,?_⟩;refine k _ _ (Int.emod_nonneg _ (by omega)) (Int.emod_lt_of_pos _ hm0) ⟨ns.set j (ns[j]/m),p+1,?_,?_,by rw[List.length_set];exact h3,by rw[List.length_set];exact h4⟩ ?_
     ·rw[aad hdc];exact g1
     ·rw[aaa,List.map_set]
     ·intro b o e n1 n2;rw[aad n2,aad n1];exact e
end
theorem Same.new {p:Addr}{H:Hp}{o:HO}(h:H p=none):Same H (upd H p o):=fun b u e=>by rw[aad (aab e h)];exact e
theorem aqs (ns:List Int) (lo hi:Option Int):∃ ms:List Int,cutV (ns.map V.int) lo hi=ms.map V.int/\ms.length<=ns.length:=by
 refine⟨(ns.drop (HT.sIx ns.length 0 lo)).take (HT.sIx ns.length ns.length hi-HT.sIx ns.length 0 lo),?_,?_⟩
 ·unfold cutV;rw[List.length_map,List.map_take,List.map_drop]
 ·rw[List.length_take,List.length_drop];omega
def avl (K:PySem.W.Frag):Sp:=fun vs H Q _=>∃ (a:Addr) (ns:List Int),vs=[.ref a]/\SqL K H a (ns.map V.int)/\ns.length<=63/\∀ (d c:Addr) (H':Hp),DeckAt H' d c->H d=none->H c=none->Same H H'->Q (.ref d) H'
section
variable {P:Program}{w:World}{K:PySem.W.Frag}{mg:Str->Option Value}{base:Heap}
theorem aj7:FnScope ["script","cells","k","mixed"] ["script"] (aaj ao8):=⟨rfl,rfl,rfl,by decide +kernel,rfl,by decide +kernel,by decide +kernel⟩
set_option maxHeartbeats 2000000 in
theorem awu {f:Addr}{fd:FuncData}(F:Fun K "_law_deck" "_law_deck" ao8 f fd) (T:Txt mg):FnOk P w K mg base CX0 1 f fd ["script"] (avl K):=by
 refine F.ok aj7 (fun vs H Q E h=>?_) (fun cdv A outer s H vs Q E hr h=>?_)
 ·obtain⟨a,ns,rfl,_⟩:=h;rfl
 ·obtain⟨a,ns,rfl,hS,hlen,k⟩:=h;refine⟨_,aas (aa5 (i:=1) aj7.nd rfl (Or.inl rfl) (aa6 aj0 (afd al0 (pv 0) ahg (ahf aap)) (ab1 (ad1 (abq abm (by rfl) T.len PySem.boot_len (ad1 (pv 0) aak)) aak)))) (aas (ahc (acj ap8 (aa6 acy (abq (ajq rfl) (by rfl) T.sum PyProof.Rows.boot_sum (ad1 (afd al0 (pv 0) ahg (ahf aap)) aak)) aap) aap (ad4 _)) (aav (ahz PassesOwn.never rfl (adu rfl T.range (ad1 (abq abm (by rfl) T.len PySem.boot_len (ad1 (pv 1) aak)) aak)) (ado (i:=2) aj7.nd rfl (Or.inl rfl)) (aas (aa5 (i:=3) aj7.nd rfl (Or.inl rfl) (aa6 acy (aa6 afa (aa6 afk (aa6 afk (aa6 acy (acq abi (pv 1) (pv 2) (fun _ _=>rfl)) aap) (aa6 afa aap (pv 2))) aap) aap) aap)) (aas (aa5 (i:=3) aj7.nd rfl (Or.inl rfl) (aa6 acy (aa6 afa (aa6 acy (aa6 afk (aa6 afa (pv 3) (pv 3)) (aa6 afa aap (pv 2))) aap) aap) aap)) (aav (anv (aa6 afk (aa6 afa (aa6 afa (pv 3) (pv 3)) aap) (aa6 acy (aa6 afa (pv 3) aap) aap)) (amx (pv 1) (pv 2) agn))))))) adl) (aav (ac6 (ab1 (ad1 (pv 1) (ad1 aap aak)))))),?_⟩;obtain⟨ms,em,hms⟩:=aqs ns none (some 63);refine⟨_,rfl,_,rfl,a,_,rfl,hS,fun p1 n1=>?_⟩;have s1:Same H (upd H p1 (.lst (cutV (ns.map V.int) none (some 63)))):=Same.new n1;rw[em] at s1 ⊢;refine⟨_,rfl,a,_,rfl,.inl (s1.seq hS),(by show 1<=sizeLine;decide),fun p2 n2=>?_⟩;have s2:=s1.trans (Same.new (o:=.lst [V.int ((ns.map V.int).length:Nat)]) n2);have q1:upd (upd H p1 (.lst (ms.map V.int))) p2 (.lst [V.int ((ns.map V.int).length:Nat)]) p1=some (.lst (ms.map V.int)):=by rw[aad (aab aaa n2)];exact aaa
  refine⟨p1,p2,_,_,rfl,rfl,q1,aaa,?_,fun c nc=>?_⟩
  ·rw[List.length_map];exact Nat.le_trans (show ms.length+1<=64 by omega) (by decide)
  have s3:=s2.trans (Same.new (o:=.lst (ms.map V.int++[V.int ((ns.map V.int).length:Nat)])) nc);have ec:ms.map V.int++[V.int ((ns.map V.int).length:Nat)]=(ms++[((ns.map V.int).length:Int)]).map V.int:=by simp
  rw[ec] at s3 ⊢;generalize hcs:ms++[((ns.map V.int).length:Int)]=cs at s3;have hcl:0<cs.length/\cs.length<=64:=by rw[← hcs,List.length_append,List.length_singleton];omega
  have hc0:H c=none:=s2.free nc;generalize hH3:upd (upd (upd H p1 (.lst (ms.map V.int))) p2 (.lst [V.int ((ns.map V.int).length:Nat)])) c (.lst (cs.map V.int))=H3 at s3;have c3:H3 c=some (.lst (cs.map V.int)):=by rw[← hH3];exact aaa
  have fin:∀ (cs':List Int) (v2 v3:Option V) (H4:Hp),Same H H4->H4 c=some (.lst (cs'.map V.int))->0<cs'.length->cs'.length<=64 ->
    (tRet (tLst (aqz (tVar 1) (aqz (tC (.int 0)) tNil)))) { nx:=fun _ H'=>Q .non H',rt:=Q } [some (.ref a),some (.ref c),v2,v3] H4:=by
   intro cs' v2 v3 H4 s4 c4 l1 l2;refine⟨_,rfl,(by show 2<=sizeLine;decide),fun d nd=>?_⟩;refine k d c _ ⟨cs',0,aaa,by rw[aad (aab c4 nd)];exact c4,l1,by omega⟩ (s4.free nd) hc0 (s4.trans (Same.new nd))
  refine⟨_,rfl,_,rfl,a,_,rfl,s3.seq hS,fun p4 n4=>?_⟩;rw[em];have s4:=s3.trans (Same.new (o:=.lst (ms.map V.int)) n4);have c4:upd H3 p4 (.lst (ms.map V.int)) c=some (.lst (cs.map V.int)):=by rw[aad (aab c3 n4)];exact c3
  refine⟨p4,ms,rfl,SqL.of aaa,_,_,rfl,rfl,(by show (0:Int)<2;decide),rfl,_,rfl,?_⟩;refine ite2 (fun _=>?_) (fun _=>?_)
  ·refine⟨_,rfl,c,_,rfl,.inl (SqL.of c4),_,rfl,by omega,by rw[List.length_map];omega,?_⟩;rw[List.length_map,Int.toNat_natCast];refine agv (lo:=0) (n:=cs.length) (fun i σ H5=>∃ (cs':List Int) (v2 v3:Option V),σ=[some (.ref a),some (.ref c),v2,v3]/\Same H H5/\H5 c=some (.lst (cs'.map V.int))/\cs'.length=cs.length)
    ⟨cs,none,none,rfl,s4,c4,rfl⟩ ?_ ?_
   ·rintro i σ H5 hi ⟨cs',v2,v3,rfl,s5,c5,hl⟩;have hat:(cs'.map V.int)[i]?=some (V.int (cs'[i]'(by omega))):=by simp[hl,hi]
    refine⟨_,rfl,_,rfl,c,_,_,V.int (cs'[i]'(by omega)),rfl,rfl,SqL.of c5,(by rw[Int.zero_add];exact aa9 hat),_,_,rfl,rfl,(by show (0:Int)<2147483587;decide),_,rfl,_,_,rfl,rfl,.inl (by decide),_,_,rfl,rfl,_,_,rfl,rfl,_,_,rfl,rfl,.inr (by decide),_,_,rfl,rfl,(by show (0:Int)<2147483629;decide),?_⟩;refine⟨_,rfl,_,rfl,_,_,rfl,rfl,.inl ?_,_,rfl,_,_,rfl,rfl,.inl (by decide),_,_,rfl,rfl,_,_,rfl,rfl,(by show (0:Int)<2147483563;decide),_,_,rfl,rfl,.inr (by decide),_,_,rfl,rfl,(by show (0:Int)<2147483549;decide),?_⟩
    ·have b0:=Int.emod_nonneg ((cs'[i]'(by omega)%2147483587+853*(0+(i:Int))+11)*69621) (show (2147483629:Int)≠0 by decide);have b1:=Int.emod_lt_of_pos ((cs'[i]'(by omega)%2147483587+853*(0+(i:Int))+11)*69621) (show (0:Int)<2147483629 by decide);exact⟨by omega,by omega⟩
    generalize hM:((cs'[i]'(by omega)%2147483587+853*(0+(i:Int))+11)*69621%2147483629)=M;have b0:=Int.emod_nonneg ((M*M+31*(0+(i:Int)))%2147483563*16807) (show (2147483549:Int)≠0 by decide);have b1:=Int.emod_lt_of_pos ((M*M+31*(0+(i:Int)))%2147483563*16807) (show (0:Int)<2147483549 by decide);refine⟨_,rfl,_,rfl,_,_,rfl,rfl,.inl ?_,_,_,rfl,rfl,.inr (by decide),_,rfl,_,_,rfl,rfl,.inl ?_,_,_,rfl,rfl,(by show (0:Int)<2147483579;decide),_,_,rfl,rfl,_,rfl,_,rfl,c,_,_,i,rfl,rfl,c5,?_,?_⟩
    ·exact⟨by omega,by omega⟩
    ·exact⟨by omega,by omega⟩
    ·rw[List.length_map];unfold ixN;rw[if_pos (by omega),if_pos (by omega)]
     congr 1
     omega
    ·refine⟨cs'.set i _,_,_,rfl,?_,by rw[aaa,List.map_set],by rw[List.length_set];exact hl⟩;intro b o e;rw[aad (aab e hc0)];exact s5 b o e
   ·rintro σ H5 ⟨cs',v2,v3,rfl,s5,c5,hl⟩;exact fin cs' v2 v3 H5 s5 c5 (by omega) (by omega)
  ·exact fin cs none none _ s4 c4 hcl.1 hcl.2
end
structure LS (n m:Nat) (x:Str):Prop where
 az:∀ c∈x.cps.toList,97<=c/\c<=122
 lo:n<=x.length
 hi:x.length<=m
theorem ath (x y:Str):(x++y).cps.toList=x.cps.toList++y.cps.toList:=by
 show (x.cps++y.cps).toList=_;simp
theorem apn (x y:Str):(x++y).length=x.length+y.length:=by
 show (x.cps++y.cps).size=_;simp[Str.length]
theorem LS.app {a b c d:Nat}{x y:Str}(h:LS a b x) (g:LS c d y):LS (a+c) (b+d) (x++y) :=
 ⟨fun z hz=>by rw[ath] at hz;exact (List.mem_append.mp hz).elim (h.az z) (g.az z),by rw[apn];have:=h.lo;have:=g.lo;omega,by rw[apn];have:=h.hi;have:=g.hi;omega⟩
theorem LS.weak {a b c d:Nat}{x:Str}(h:LS a b x) (h1:c<=a) (h2:b<=d):LS c d x:=⟨h.az,Nat.le_trans h1 h.lo,Nat.le_trans h.hi h2⟩
def lsB (n m:Nat) (x:Str):Bool:=x.cps.toList.all (fun c=>decide (97<=c)&&decide (c<=122))&&decide (n<=x.length)&&decide (x.length<=m)
theorem LS.of {n m:Nat}{x:Str}(h:lsB n m x=true):LS n m x:=by
 unfold lsB at h;simp only[Bool.and_eq_true,List.all_eq_true,decide_eq_true_eq] at h;exact⟨h.1.1,h.1.2,h.2⟩
theorem LS.cutL {n:Nat}{z:Str}(h:LS n n z){k:Nat}(hk:k<=n):LS k k (cutS z none (some (k:Int))):=by
 have e:z.length=n:=Nat.le_antisymm h.hi h.lo;have e1:HT.sIx z.length z.length (some (k:Int))=k:=by rw[HT.sIx_nat];omega
 have e2:(cutS z none (some (k:Int))).cps.toList=z.cps.toList.take k:=by
  show ((z.cps.toList.drop (HT.sIx z.length 0 none)).take _).toArray.toList=_;rw[e1,HT.sIx_none];simp
 have el:(cutS z none (some (k:Int))).length=k:=by
  rw[← abn,e2,List.length_take,abn];omega
 exact⟨fun c hc=>by rw[e2] at hc;exact h.az c (List.mem_of_mem_take hc),by omega,by omega⟩
theorem LS.cutR {n:Nat}{z:Str}(h:LS n n z){k:Nat}(hk:k<=n):LS (n-k) (n-k) (cutS z (some (k:Int)) none):=by
 have e:z.length=n:=Nat.le_antisymm h.hi h.lo;have e1:HT.sIx z.length 0 (some (k:Int))=k:=by rw[HT.sIx_nat];omega
 have e2:(cutS z (some (k:Int)) none).cps.toList=z.cps.toList.drop k:=by
  show ((z.cps.toList.drop (HT.sIx z.length 0 (some (k:Int)))).take _).toArray.toList=_;rw[e1,HT.sIx_none];simp only[List.toList_toArray];rw[List.take_of_length_le];rw[List.length_drop,abn];omega
 have el:(cutS z (some (k:Int)) none).length=n-k:=by
  rw[← abn,e2,List.length_drop,abn];omega
 exact⟨fun c hc=>by rw[e2] at hc;exact h.az c (List.mem_of_mem_drop hc),by omega,by omega⟩
theorem LS.sign {c:Nat}(h:97<=c/\c<=122):LS 1 1 ⟨#[c]⟩:=⟨fun d hd=>by simp at hd;subst hd;exact h,Nat.le_refl _,Nat.le_refl _⟩
theorem ah8:∀ (ys:List Str),(∀ y∈ys,LS 1 1 y)->LS ys.length ys.length (Str.join "" ys)
 | [],_=>⟨fun c hc=>(nomatch hc),Nat.le_refl _,Nat.le_refl _⟩
 | [x],h=>h x List.mem_cons_self
 | x::y::r,h=>by
  have h1:=h x List.mem_cons_self;have h2:=ah8 (y::r) fun z hz=>h z (List.mem_cons_of_mem _ hz)
  have e0:LS 0 0 (Str.ofString ""):=LS.of (by decide +kernel);have:=(h1.app e0).app h2;show LS _ _ (x++(Str.ofString "")++Str.join "" (y::r));exact this.weak (by simp;omega) (by simp;omega)
theorem at_in {α:Type}{xs:List α}{i:Int}(h0:0<=i) (h1:i<xs.length):∃ v,atI xs i=some v/\v∈xs:=by
 obtain⟨j,rfl⟩:=Int.eq_ofNat_of_zero_le h0;have hj:j<xs.length:=by omega
 exact⟨xs[j],aa9 (List.getElem?_eq_getElem hj),List.getElem_mem hj⟩
theorem ani {xs:List Str}{i:Int}(h0:0<=i) (h1:i<xs.length):∃ x,atI (xs.map V.str) i=some (V.str x)/\x∈xs:=by
 obtain⟨j,rfl⟩:=Int.eq_ofNat_of_zero_le h0;have hj:j<xs.length:=by omega
 exact⟨xs[j],aa9 (by simp[hj]),List.getElem_mem hj⟩
def aan:Str := "abcdefghijklmnopqrstuvwxyz"
theorem ae7:aan.length=26:=by decide +kernel
theorem afv {i:Int}(h0:0<=i) (h1:i<26):∃ c,atI aan.cps.toList i=some c/\97<=c/\c<=122:=by
 obtain⟨c,e,m⟩:=at_in (xs:=aan.cps.toList) h0 (by rw[abn,ae7];exact h1);have h:LS 26 26 aan:=LS.of (by decide +kernel);exact⟨c,e,h.az c m⟩
def ad9:List Str:=["and","or","odd","most","not","one","nil","in","out"]
theorem av6 {x:Str}(h:x∈ad9):LS 2 4 x:=by
 have:ad9.all (lsB 2 4)=true:=by decide +kernel
 exact LS.of (List.all_eq_true.mp this x h)
structure GoodName (x:Str):Prop where
 ls:LS 1 8 x
 nk:x∉ad9
def asm:Sp:=fun vs H Q _=>vs=[]/\∀ l,H l=none->Q (.ref l) (upd H l (.lst (ad9.map V.str)))
def avg:Sp:=fun vs H Q _=>∃ (d c:Addr) (m:Nat),vs=[.ref d,.int m]/\DeckAt H d c/\m<=40/\∀ (l:Addr) (xs:List Str) (H':Hp),H l=none->H' l=some (.lst (xs.map V.str))->xs.length=m->(∀ x∈xs,LS 1 8 x) ->
 DeckAt H' d c->Keep d c H H'->Q (.ref l) H'
theorem Keep.free {d c l:Addr}{H H':Hp}(k:Keep d c H H') (h1:l≠d) (h2:l≠c) (h:H' l=none):H l=none:=by
 cases e:H l with
 | none=>rfl
 | some o=>rw[k l o e h1 h2] at h;cases h
theorem aoi {ys:List Str}{n m:Nat}(h:∀ y∈ys,y.length<=m) (hn:ys.length<=n):(ys.map (·.length)).sum<=n*m:=by
 have:∀ ys:List Str,(∀ y∈ys,y.length<=m)->(ys.map (·.length)).sum<=ys.length*m:=by
  intro ys;induction ys with
  | nil=>intro _;simp
  | cons a r ih =>
   intro h;have h1:=h a List.mem_cons_self;have h2:=ih fun y hy=>h y (List.mem_cons_of_mem _ hy)
   simp only[List.map_cons,List.sum_cons,List.length_cons,Nat.add_mul,Nat.one_mul];omega
 exact Nat.le_trans (this ys h) (Nat.mul_le_mul_right m hn)
theorem aft {n:Nat}(h:n<=1000):n<=sizeLine:=Nat.le_trans h (by decide)
section
variable {P:Program}{w:World}{K:PySem.W.Frag}{mg:Str->Option Value}{base:Heap}
theorem scKept:FnScope [] [] (aaj aly):=⟨rfl,rfl,rfl,by decide +kernel,rfl,by decide +kernel,by decide +kernel⟩
theorem asi {f:Addr}{fd:FuncData}(F:Fun K "_law_kept" "_law_kept" aly f fd):FnOk P w K mg base CX0 1 f fd [] asm:=by
 refine F.ok scKept (fun vs H Q E h=>?_) (fun cdv A outer s H vs Q E hr h=>?_)
 ·obtain⟨rfl,_⟩:=h;rfl
 ·obtain⟨rfl,k⟩:=h;refine⟨_,@aav _ _ _ (@ac6 _ _ _ _ (@ab1 _ _ _ _ (@aec _ [("and",_,_),("or",_,_),("odd",_,_),("most",_,_),("not",_,_),("one",_,_),("nil",_,_),("in",_,_),("out",_,_)]))),?_⟩;have hz:9<=sizeLine:=by decide
  refine⟨hz,?_⟩;exact k
theorem aej:FnScope ["deck","many","letters","base","at","shift","way","names","k","sign","word","name"] ["deck","many"] (aaj ao1):=⟨rfl,rfl,rfl,by decide +kernel,rfl,by decide +kernel,by decide +kernel⟩
theorem ndMade:(["k","letters","deck"]:List Str).Nodup:=by decide +kernel
theorem q01 {i:Int}(h0:0<=i) (h1:i<2) (q:Str) (hq:LS 0 1 q):∃ x,atI [V.str "",V.str q] i=some (V.str x)/\LS 0 1 x:=by
 have:i=0\/i=1:=by omega
 rcases this with rfl | rfl
 ·exact⟨"",rfl,LS.of (by decide +kernel)⟩
 ·exact⟨q,rfl,hq⟩
set_option maxHeartbeats 4000000 in
theorem axo {f fT fK:Addr}{fd fdT fdK:FuncData}(F:Fun K "_law_made_names" "_law_made_names" ao1 f fd) (T:Txt mg) (gT:Gd K mg "_law_take" afe ["deck","many"] fT fdT) (gK:Gd K mg "_law_kept" aly [] fK fdK) :
  FnOk P w K mg base CX0 2 f fd ["deck","many"] avg:=by
 have GT:FnOk P w K mg base CX0 1 fT fdT ["deck","many"] aku:=ajd gT.F T;have GK:FnOk P w K mg base CX0 1 fK fdK [] asm:=asi gK.F;refine F.ok aej (fun vs H Q E h=>?_) (fun cdv A outer s H vs Q E hr h=>?_)
 ·obtain⟨d,c,m,rfl,_⟩:=h;rfl
 ·obtain⟨d,c,m,rfl,D,hm,k⟩:=h;refine⟨_,aas (aa5 (i:=2) aej.nd rfl (Or.inr rfl) aeh) (aas (aa5 (i:=3) aej.nd rfl (Or.inl rfl) (ams PySem.F.plainAttrs_str PySem.F.slot_str_join PySem.F.type_str_join awl aeh (pa_c (ars ["k"] ["letters","deck"] [2,0] rfl (adu rfl T.range (pa_c (aba GT hr rfl gT.m gT.k gT.b .nil adg (pa_c (pv 0) (pa_c aap aak))) aak)) rfl rfl (fun s₀ H₀ C cl fp=>ado (i:=0) ndMade rfl (Or.inl rfl)) (fun s₀ H₀ C cl fp=>agl) (fun s₀ H₀ C cl fp=>acq anu (pv 1) (aba GT hr rfl gT.m gT.k gT.b .nil adg (pa_c (pv 2) (pa_c aap aak))) (fun _ _=>rfl))) aak))) (aas (aa5 (i:=4) aej.nd rfl (Or.inl rfl) (aba GT hr rfl gT.m gT.k gT.b .nil adg (pa_c (pv 0) (pa_c (aa6 afk (abq af2 (by rfl) T.len PySem.boot_len (pa_c (pv 3) aak)) aap) aak)))) (aas (aa5 (i:=5) aej.nd rfl (Or.inl rfl) (aba GT hr rfl gT.m gT.k gT.b .nil adg (pa_c (pv 0) (pa_c aap aak)))) (aas (aa5 (i:=6) aej.nd rfl (Or.inl rfl) (aba GT hr rfl gT.m gT.k gT.b .nil adg (pa_c (pv 0) (pa_c aap aak)))) (aas (aa5 (i:=7) aej.nd rfl (Or.inl rfl) (ab1 aak)) (aas (ahz PassesOwn.never rfl (adu rfl T.range (pa_c (pv 1) aak)) (ado (i:=8) aej.nd rfl (Or.inl rfl)) (aas (aa5 (i:=9) aej.nd rfl (Or.inl rfl) (acq anu (pv 2) (aa6 acy (aa6 afk (pv 5) (pv 8)) aap) (fun _ _=>rfl))) (aas (aa5 (i:=10) aej.nd rfl (Or.inl rfl) (acq abi (ant GK hr rfl gK.m gK.k gK.b .nil adg) (aa6 acy (aa6 afk (pv 5) (pv 8)) aap) (fun _ _=>rfl))) (aas (aa5 (i:=11) aej.nd rfl (Or.inl rfl) (aa6 ab4 (aa6 ab4 (aa6 ab4 (aa6 ab4 (afd apx (pv 3) ahg (ahf (pv 4))) (pv 9)) (acq abi (ab1 (pa_c aeh (pa_c aeh aak))) (aa6 acy (pv 8) aap) (fun _ _=>rfl))) (afd apx (pv 3) (ahf (pv 4)) ahg)) (acq abi (ab1 (pa_c aeh (pa_c aeh aak))) (aa6 apo (pv 8) aap) (fun _ _=>rfl)))) (aav (aeb (ams PySem.F.plainAttrs_list PySem.F.slot_list_append PySem.F.type_list_append aaw (pv 7) (pa_c (acq abi (ab1 (pa_c (pv 11) (pa_c (aa6 ab4 (pv 9) (pv 10)) (pa_c (aa6 ab4 (pv 10) (pv 9)) (pa_c (aa6 ab4 (aa6 ab4 (pv 9) (pv 10)) (acq anu (pv 2) (aa6 acy (pv 8) aap) (fun _ _=>rfl))) aak))))) (pv 6) (fun _ _=>rfl)) aak)))))))) (aav (ac6 (pv 7))))))))),?_⟩;refine⟨rfl,_,rfl,d,c,6,rfl,D,by decide,by decide,fun r1 H1 a0 a1 D1 k1=>⟨_,rfl,by omega,by omega,fun D0 nD0=>?_⟩⟩;have nd0:=D1.ned nD0;have hHD:H D0=none:=k1.free nd0.1 nd0.2 nD0;refine lc1y af8 (fun i ys H2=>∃ zs:List Str,ys=zs.map V.str/\zs.length=i/\(∀ z∈zs,LS 1 1 z)/\DeckAt H2 d c/\Keep d c H H2/\H2 D0=some (.lst ys))
   ⟨[],rfl,rfl,(fun z hz=>nomatch hz),D1.new nD0,k1.trans (Keep.new nD0),aaa⟩ (fun _ _ _ _ _=>True.intro) ?_ ?_
  ·rintro i x ys H2 hx ⟨zs,rfl,hl,hzs,D2,k2,hD⟩;have hi:i<6:=by
    have:=(List.getElem?_eq_some_iff.mp hx).1;simp at this;omega
   refine⟨_,rfl,_,rfl,d,c,26,rfl,D2,by decide,by decide,fun r H3 b0 b1 D3 k3=>?_⟩;obtain⟨cc,hat,hcc⟩:=afv b0 b1;have hD3:=k3 D0 _ hD nd0.1 nd0.2;refine⟨aan,_,cc,rfl,rfl,(by rw[ae7];decide),hat,⟨_,rfl⟩,hD3,(by rw[List.length_map];exact Nat.lt_of_lt_of_le (show zs.length<1000 by omega) (by decide)),zs++[⟨#[cc]⟩],by simp,by simp[hl],fun z hz=>?_,D3.upd_other nd0.1 nd0.2,?_,aaa⟩
   ·rcases List.mem_append.mp hz with q | q
    ·exact hzs z q
    ·rw[List.mem_singleton.mp q];exact LS.sign hcc
   ·exact fun b o e h1 h2=>by rw[aad (aab e hHD)];exact k3 b o (k2 b o e h1 h2) h1 h2
  ·rintro ys H2 ⟨zs,rfl,hl,hz,D2,k2,hD⟩;rw[List.length_map,List.length_range] at hl;have hB:=ah8 zs hz;have hBl:zs.length<=5:=by omega
   refine⟨"",D0,zs,rfl,rfl,.inl (SqL.of hD),?_,?_⟩
   ·have h1:=aoi (m:=1) (fun y hy=>(hz y hy).hi) hBl;have h2:(Str.ofString "").length=0:=by decide +kernel
    rw[h2];omega
   have ej:Txt.join (Str.ofString "") zs=Str.join (Str.ofString "") zs:=StrLaws.glued_eq_join _ _;rw[ej];generalize Str.join (Str.ofString "") zs=B at hB;have eB:B.length=zs.length:=Nat.le_antisymm hB.hi hB.lo;refine⟨_,rfl,_,rfl,B,rfl,aft (by omega),_,_,rfl,rfl,d,c,_,rfl,D2,by omega,by omega,fun r2 H3 b0 b1 D3 k3=>?_⟩;refine⟨_,rfl,d,c,26,rfl,D3,by decide,by decide,fun r3 H4 c0 c1 D4 k4=>?_⟩;refine⟨_,rfl,d,c,4,rfl,D4,by decide,by decide,fun r4 H5 d0 d1 D5 k5=>?_⟩;refine⟨(by show 0<=sizeLine;decide),fun l nl=>?_⟩;have kk:Keep d c H H5:=((k2.trans k3).trans k4).trans k5;have nl2:=D5.ned nl;have hHl:H l=none:=kk.free nl2.1 nl2.2 nl;obtain⟨at',rfl⟩:=Int.eq_ofNat_of_zero_le b0;refine⟨_,rfl,_,rfl,by omega,by omega,?_⟩;rw[Int.toNat_natCast];refine agv (lo:=0) (n:=m) (fun i σ H6=>∃ (xs:List Str) (v8 v9 v10 v11:Option V),σ=[some (.ref d),some (.int m),some (.str aan),some (.str B),some (.int at'),some (.int r3),some (.int r4),some (.ref l),v8,v9,v10,v11] /\ xs.length=i/\(∀ x∈xs,LS 1 8 x)/\H6 l=some (.lst (xs.map V.str))/\DeckAt H6 d c/\Keep d c H H6)
    ⟨[],none,none,none,none,rfl,rfl,(fun z hz=>nomatch hz),aaa,D5.new nl,kk.trans (Keep.new nl)⟩ ?_ ?_
   ·rintro i σ H6 hi ⟨xs,v8,v9,v10,v11,rfl,hl6,hx6,h6,D6,k6⟩;have e26:∀ z:Int,0<=z%26/\z%26<26:=fun z=>⟨Int.emod_nonneg z (by decide),Int.emod_lt_of_pos z (by decide)⟩
    have e9:∀ z:Int,0<=z%9/\z%9<9:=fun z=>⟨Int.emod_nonneg z (by decide),Int.emod_lt_of_pos z (by decide)⟩
    have e2:∀ z:Int,0<=z%2/\z%2<2:=fun z=>⟨Int.emod_nonneg z (by decide),Int.emod_lt_of_pos z (by decide)⟩
    obtain⟨cc,hat1,hcc⟩:=afv (e26 (r3+(0+(i:Int)))).1 (e26 _).2;obtain⟨wd,hat2,hwd⟩:=ani (xs:=ad9) (e9 (r3+(0+(i:Int)))).1 (by exact (e9 _).2);obtain⟨x1,hat3,hx1⟩:=q01 (e2 (0+(i:Int))).1 (e2 _).2 "q" (LS.of (by decide +kernel));obtain⟨x2,hat4,hx2⟩:=q01 (i:=(0+(i:Int))/26) (by omega) (by omega) "w" (LS.of (by decide +kernel));obtain⟨c5,hat5,hc5⟩:=afv (e26 (0+(i:Int))).1 (e26 _).2;have hS:=LS.sign hcc;have hW:=av6 hwd;have hatn:at'<=zs.length:=by omega
    have hP:=hB.cutL hatn;have hR:=hB.cutR hatn;have n1:=hP.app hS;have n2:=n1.app hx1;have n3:=n2.app hR;have n4:=n3.app hx2;have w1:=hS.app hW;have w2:=hW.app hS;have w3:=w1.app (LS.sign hc5);have sz:∀ {a b c' d':Nat} {x y:Str},LS a b x->LS c' d' y->b+d'<=100->x.length+y.length<=sizeLine:=fun g1 g2 hb=>aft (by have:=g1.hi;have:=g2.hi;omega)
    have lsz:aan.length<=sizeLine:=by rw[ae7];decide
    have bsz:B.length<=sizeLine:=aft (by omega);refine⟨_,rfl,_,rfl,_,rfl,_,_,rfl,rfl,_,_,rfl,rfl,(by show (0:Int)<26;decide),aan,_,cc,rfl,rfl,lsz,hat1,?_⟩;refine⟨rfl,fun p np=>?_⟩;have D7:DeckAt (upd H6 p (.lst (ad9.map V.str))) d c:=D6.new np;refine⟨_,rfl,_,rfl,_,_,rfl,rfl,_,_,rfl,rfl,(by show (0:Int)<9;decide),p,_,_,.str wd,rfl,rfl,SqL.of aaa,hat2,?_⟩;have k7:Keep d c H (upd H6 p (.lst (ad9.map V.str))):=k6.trans (Keep.new np);have h7:upd H6 p (.lst (ad9.map V.str)) l=some (.lst (xs.map V.str)):=by rw[aad (aab h6 np)];exact h6
    generalize upd H6 p (.lst (ad9.map V.str))=H7 at D7 k7 h7 ⊢;refine⟨_,rfl,_,rfl,_,rfl,B,rfl,bsz,_,rfl,_,_,rfl,rfl,sz hP hS (by omega),(by show 2<=sizeLine;decide),fun p2 np2=>?_⟩;have D8:=D7.new (o:=.lst [V.str (Str.ofString ""),V.str (Str.ofString "q")]) np2;have k8:=k7.trans (Keep.new (d:=d) (c:=c) (o:=.lst [V.str (Str.ofString ""),V.str (Str.ofString "q")]) np2);have h8:upd H7 p2 (.lst [V.str (Str.ofString ""),V.str (Str.ofString "q")]) l=some (.lst (xs.map V.str)):=by rw[aad (aab h7 np2)];exact h7
    refine⟨_,rfl,_,_,rfl,rfl,(by show (0:Int)<2;decide),p2,_,_,.str x1,rfl,rfl,SqL.of aaa,hat3,_,_,rfl,rfl,sz n1 hx1 (by omega),_,rfl,_,rfl,_,rfl,B,rfl,bsz,_,_,rfl,rfl,sz n2 hR (by omega),(by show 2<=sizeLine;decide),fun p3 np3=>?_⟩;generalize upd H7 p2 (.lst [V.str (Str.ofString ""),V.str (Str.ofString "q")])=H8 at D8 k8 h8 np3 ⊢;have D9:=D8.new (o:=.lst [V.str (Str.ofString ""),V.str (Str.ofString "w")]) np3;have k9:=k8.trans (Keep.new (d:=d) (c:=c) (o:=.lst [V.str (Str.ofString ""),V.str (Str.ofString "w")]) np3);have h9:upd H8 p3 (.lst [V.str (Str.ofString ""),V.str (Str.ofString "w")]) l=some (.lst (xs.map V.str)):=by rw[aad (aab h8 np3)];exact h8
    refine⟨_,rfl,_,_,rfl,rfl,⟨by decide,by decide⟩,p3,_,_,.str x2,rfl,rfl,SqL.of aaa,hat4,_,_,rfl,rfl,sz n3 hx2 (by omega),?_⟩;generalize upd H8 p3 (.lst [V.str (Str.ofString ""),V.str (Str.ofString "w")])=H9 at D9 k9 h9 ⊢;generalize hNm:(cutS B none (some (at':Int))++(⟨#[cc]⟩:Str)++x1++cutS B (some (at':Int)) none++x2)=nm at n4;refine⟨_,rfl,.inl ⟨rfl,_,SqL.of h9⟩,_,rfl,_,rfl,_,rfl,_,_,rfl,rfl,sz hS hW (by omega),_,rfl,_,rfl,_,_,rfl,rfl,sz hW hS (by omega),_,rfl,_,rfl,_,_,rfl,rfl,sz hS hW (by omega),_,rfl,_,rfl,_,_,rfl,rfl,(by show (0:Int)<26;decide),aan,_,c5,rfl,rfl,lsz,hat5,_,_,rfl,rfl,sz w1 (LS.sign hc5) (by omega),(by show 4<=sizeLine;decide),fun p4 np4=>?_⟩;obtain⟨z,hat6,hz6⟩:=ani (xs:=[nm,(⟨#[cc]⟩:Str)++wd,wd++(⟨#[cc]⟩:Str),(⟨#[cc]⟩:Str)++wd++(⟨#[c5]⟩:Str)]) d0 (by exact d1);have hzl:LS 1 8 z:=by
     simp only[List.mem_cons,List.not_mem_nil,or_false] at hz6;rcases hz6 with rfl | rfl | rfl | rfl
     ·exact n4.weak (by omega) (by omega)
     ·exact w1.weak (by omega) (by omega)
     ·exact w2.weak (by omega) (by omega)
     ·exact w3.weak (by omega) (by omega)
    have h10:∀ o4,upd H9 p4 o4 l=some (.lst (xs.map V.str)):=fun o4=>by rw[aad (aab h9 np4)];exact h9
    refine⟨_,rfl,p4,_,_,.str z,rfl,rfl,SqL.of aaa,hat6,l,xs.map V.str,.str z,rfl,rfl,?_,?_,xs++[z],_,_,_,_,rfl,by simp[hl6],?_,?_,?_,?_⟩
    ·exact h10 _
    ·rw[List.length_map];exact Nat.lt_of_lt_of_le (show xs.length<1000 by omega) (by decide)
    ·intro y hy;rcases List.mem_append.mp hy with q | q
     ·exact hx6 y q
     ·rw[List.mem_singleton.mp q];exact hzl
    ·rw[aaa];simp
    ·exact (D9.new np4).upd_other nl2.1 nl2.2
    ·exact fun b o e g1 g2=>by rw[aad (aab e hHl)];exact (k9.trans (Keep.new np4)) b o e g1 g2
   ·rintro σ H6 ⟨xs,v8,v9,v10,v11,rfl,hl6,hx6,h6,D6,k6⟩;exact⟨_,rfl,k l xs H6 hHl h6 hl6 hx6 D6 k6⟩
end
def ad5:List Str:=["cell","along","lay","judge","late","gates","ways","show"]
def af9:List Str:=["andx","orb","oddly","mosts","nots","ones","nila","inn","outer","aa","ab","ba"]
def amy:List Str:=["abcdefgh","abcdefgi","zzzzzzzz","names","judged","rowsofx"]
def ac0 (z:Str):List Str:=z.cps.toList.map fun c=>(⟨#[c]⟩:Str)
def ag2:List Str:=ac0 aan++ad5++af9++amy
theorem amb:ag2.Nodup:=by decide +kernel
theorem apg:ag2.length=52:=by decide +kernel
theorem aop:∀ x∈ag2,GoodName x:=by
 have h:ag2.all (fun x=>lsB 1 8 x && !ad9.contains x)=true:=by decide +kernel
 intro x hx;have:=List.all_eq_true.mp h x hx;rw[Bool.and_eq_true] at this;refine⟨LS.of this.1,fun m=>?_⟩;have h2:=this.2;rw[List.contains_iff_mem.mpr m] at h2;cases h2
def aqd:Sp:=fun vs H Q _=>∃ (d c:Addr) (m:Nat),vs=[.ref d,.int m]/\DeckAt H d c/\m<=40/\∀ (l:Addr) (xs:List Str) (H':Hp),H l=none->H' l=some (.lst (xs.map V.str))->xs.length=m->xs.Nodup->(∀ x∈xs,GoodName x) ->
 DeckAt H' d c->Keep d c H H'->Q (.ref l) H'
theorem am0:∀ {sp:List Str}{k:Nat}{y:Str},sp[k]?=some y->(y::sp.eraseIdx k).Perm sp
 | [],k,y,h=>by simp at h
 | a::r,0,y,h=>by
  simp at h;subst h;exact List.Perm.refl _
 | a::r,k+1,y,h=>by
  have h':r[k]?=some y:=by simpa using h
  show (y::a::r.eraseIdx k).Perm (a::r);exact (List.Perm.swap a y _).trans ((am0 h').cons a)
theorem ak5 {α β:Type}(f:α->β):∀ (l:List α) (k:Nat),(l.map f).eraseIdx k=(l.eraseIdx k).map f
 | [],_=>rfl
 | _::_,0=>rfl
 | a::r,k+1=>by simp[ak5 f r k]
theorem ar2 (x:Str) (ys:List Str):inV (.str x) (ys.map V.str)=decide (x∈ys):=by
 unfold inV;induction ys with
 | nil=>rfl
 | cons y r ih =>
  rw[List.map_cons,List.any_cons,ih];have:eqV (V.str y) (V.str x)=decide (y=x):=by
   simp only[eqV];exact Bool.beq_eq_decide_eq y x
  rw[this];by_cases h:x=y
  ·subst h;simp
  ·have h':¬ y=x:=fun e=>h e.symm
   simp[h,h']
theorem ahd (ys:List Str):(ys.map V.str).all adj=true:=by
 rw[List.all_eq_true];intro v hv;obtain⟨y,_,rfl⟩:=List.mem_map.mp hv;rfl
section
variable {P:Program}{w:World}{K:PySem.W.Frag}{mg:Str->Option Value}{base:Heap}
theorem af0:FnScope ["deck","many","letters","names","spare"] ["deck","many"] (aaj ahh):=⟨rfl,rfl,rfl,by decide +kernel,rfl,by decide +kernel,by decide +kernel⟩
theorem nd1 (x:Str):([x]:List Str).Nodup:=by simp
theorem awn:(["k","spare","deck"]:List Str).Nodup:=by decide +kernel
set_option maxHeartbeats 4000000 in
theorem asw {f fT fK fM:Addr}{fd fdT fdK fdM:FuncData}(F:Fun K "_law_names" "_law_names" ahh f fd) (T:Txt mg) (gT:Gd K mg "_law_take" afe ["deck","many"] fT fdT) (gK:Gd K mg "_law_kept" aly [] fK fdK)
  (gM:Gd K mg "_law_made_names" ao1 ["deck","many"] fM fdM):FnOk P w K mg base CX0 3 f fd ["deck","many"] aqd:=by
 have GT:FnOk P w K mg base CX0 1 fT fdT ["deck","many"] aku:=ajd gT.F T;have GK:FnOk P w K mg base CX0 1 fK fdK [] asm:=asi gK.F;have GM:FnOk P w K mg base CX0 2 fM fdM ["deck","many"] avg:=axo gM.F T gT gK;refine F.ok af0 (fun vs H Q E h=>?_) (fun cdv A outer s H vs Q E hr h=>?_)
 ·obtain⟨d,c,m,rfl,_⟩:=h;rfl
 ·obtain⟨d,c,m,rfl,D,hm,k⟩:=h;have hr1:Room 1 _:=hr.mono (by decide);have hu:=hr.units;refine ajf _ (aa5 (i:=2) af0.nd rfl (Or.inl rfl) aeh) ?_;refine acx (fun σ H4=>∃ v3,σ=[some (.ref d),some (.int m),some (.str aan),v3,none]/\DeckAt H4 d c/\Keep d c H H4) (fun u hu'=>?_) ?_
  ·-- if _law_take(deck,2) == 1
   refine⟨_,ahc (acj ap8 (aba GT hr1 rfl gT.m gT.k gT.b .nil adg (pa_c (pv 0) (pa_c aap aak))) aap (ad4 _)) (aas (aa5 (i:=3) af0.nd rfl (Or.inl rfl) (aba GM hr rfl gM.m gM.k gM.b .nil adg (pa_c (pv 0) (pa_c (pv 1) aak)))) (aav (ahc (PW.pt (aq7 (acj ap8 (abq ap4 (by rfl) T.len PySem.boot_len (pa_c (ahm (asb rfl) (by rfl) T.set PyProof.Rows.boot_set (pa_c (pv 3) aak)) aak)) (pv 1) (ad4 _)) (alr (acj (agk hu) (ars ["name"] [] [] rfl (aww (pv 3)) rfl rfl (fun s₀ H₀ C cl fp=>ado (i:=0) (nd1 _) rfl (Or.inl rfl)) (fun s₀ H₀ C cl fp=>anp (acj (r:=rIn K false) agt (pv 0) (ant GK hr1 rfl gK.m gK.k gK.b .nil adg) rfl)) (fun s₀ H₀ C cl fp=>pv 0)) (ab1 aak) (ad4 _))))) (aav (ac6 (pv 3))) adl))) adl,?_⟩;refine⟨_,rfl,d,c,2,rfl,D,by decide,by decide,fun r1 H1 a0 a1 D1 k1=>⟨rfl,_,rfl,?_⟩⟩;refine ite2 (fun _=>?_) (fun _=>hu' _ _ ⟨none,rfl,D1,k1⟩);refine⟨_,rfl,_,rfl,d,c,m,rfl,D1,hm,fun l xs H2 nl hl hlen hls D2 k2=>?_⟩;have kk:Keep d c H H2:=k1.trans k2;have nl1:=D1.ned nl;have hHl:H l=none:=k1.free nl1.1 nl1.2 nl;refine⟨_,rfl,l,xs,rfl,SqL.of hl,by omega,fun p np=>?_⟩;have k3:=kk.trans (Keep.new (d:=d) (c:=c) (o:=SetN P w p (ddS xs).length) np);have D3:=D2.new (o:=SetN P w p (ddS xs).length) np;have hl3:upd H2 p (SetN P w p (ddS xs).length) l=some (.lst (xs.map V.str)):=by rw[aad (aab hl np)];exact hl
   refine⟨p,_,rfl,aaa,_,rfl,rfl,_,rfl,?_⟩;refine ite2 (fun hdd=>?_) (fun _=>iteF (hu' _ _ ⟨_,rfl,D3,k3⟩));have hnd:xs.Nodup:=by
    have:=of_decide_eq_true hdd;injection this with this;exact aq2 (by omega)
   refine⟨_,rfl,l,rfl,⟨_,SqL.of hl3⟩,fun D0 nD0=>?_⟩;have nd0:=D3.ned nD0;have hHD:H D0=none:=k3.free nd0.1 nd0.2 nD0;have lD:l≠D0:=aab hl3 nD0;refine lc1 aml (fun i ys H4=>∃ zs:List Str,ys=zs.map V.str/\zs.length<=i/\((∃ x∈xs.take i,x∈ad9)->zs≠[])/\((∀ x∈xs.take i,x∉ad9)->zs=[])/\DeckAt H4 d c/\Keep d c H H4/\H4 D0=some (.lst ys)/\H4 l=some (.lst (xs.map V.str)))
    ⟨[],rfl,Nat.le_refl _,(fun ⟨x,hx,_⟩=>by simp at hx),(fun _=>rfl),D3.new nD0,k3.trans (Keep.new nD0),aaa,by rw[aad lD];exact hl3⟩ (fun i ys H4 _ ⟨_,_,_,_,_,_,_,_,h⟩=>SqL.of h) ?_ ?_
   ·rintro i x ys H4 hx ⟨zs,rfl,hz1,hz2,hz3,D4,k4,hD4,hl4⟩;obtain⟨y,hy,rfl⟩:∃ y,xs[i]?=some y/\V.str y=x:=by
     rw[List.getElem?_map] at hx;cases e:xs[i]? with
     | none=>rw[e] at hx;cases hx
     | some y=>rw[e] at hx;exact⟨y,rfl,Option.some.inj hx⟩
    have hi:i<xs.length:=(List.getElem?_eq_some_iff.mp hy).1;have et:xs.take (i+1)=xs.take i++[y]:=by rw[List.take_add_one,hy];rfl
    refine⟨_,rfl,rfl,fun q nq=>?_⟩;have nq1:=D4.ned nq;refine⟨q,_,rfl,.inl (SqL.of aaa),rfl,ahd _,_,rfl,?_⟩;have D5:=D4.new (o:=.lst (ad9.map V.str)) nq;have k5:=k4.trans (Keep.new (d:=d) (c:=c) (o:=.lst (ad9.map V.str)) nq);have hD5:upd H4 q (.lst (ad9.map V.str)) D0=some (.lst (zs.map V.str)):=by rw[aad (aab hD4 nq)];exact hD4
    have hl5:upd H4 q (.lst (ad9.map V.str)) l=some (.lst (xs.map V.str)):=by rw[aad (aab hl4 nq)];exact hl4
    rw[ar2];refine ite2 (fun hk=>?_) (fun hk=>?_)
    ·have hk':y∈ad9:=of_decide_eq_true hk;refine⟨_,rfl,⟨_,rfl⟩,hD5,?_,zs++[y],by simp,by simp;omega,fun _=>by simp,fun h=>absurd hk' (h y (by rw[et];simp)),D5.upd_other nd0.1 nd0.2,?_,aaa,?_⟩
     ·rw[List.length_map];exact Nat.lt_of_lt_of_le (show zs.length<1000 by omega) (by decide)
     ·exact fun b o e g1 g2=>by rw[aad (aab e hHD)];exact k5 b o e g1 g2
     ·rw[aad lD];exact hl5
    ·have hk':y∉ad9:=fun z=>hk (decide_eq_true z)
     refine⟨⟨_,rfl⟩,zs,rfl,by omega,?_,?_,D5,k5,hD5,hl5⟩
     ·rintro ⟨z,hz,hzk⟩;rw[et] at hz;rcases List.mem_append.mp hz with q' | q'
      ·exact hz2 ⟨z,q',hzk⟩
      ·rw[List.mem_singleton.mp q'] at hzk;exact absurd hzk hk'
     ·exact fun h=>hz3 fun z hz=>h z (by rw[et];exact List.mem_append_left _ hz)
   ·rintro ys H4 ⟨zs,rfl,hz1,hz2,hz3,D4,k4,hD4,hl4⟩;rw[List.length_map] at hz1 hz2 hz3;rw[List.take_of_length_le (Nat.le_refl _)] at hz2 hz3;refine⟨(by show 0<=sizeLine;decide),fun q nq=>?_⟩;have D5:=D4.new (o:=.lst []) nq;have k5:=k4.trans (Keep.new (d:=d) (c:=c) (o:=.lst []) nq);have hD5:upd H4 q (.lst []) D0=some (.lst (zs.map V.str)):=by rw[aad (aab hD4 nq)];exact hD4
    have hl5:upd H4 q (.lst []) l=some (.lst (xs.map V.str)):=by rw[aad (aab hl4 nq)];exact hl4
    refine⟨D0,q,_,rfl,rfl,SqL.of hD5,SqL.of aaa,_,rfl,?_⟩;refine ite2 (fun he=>?_) (fun _=>hu' _ _ ⟨_,rfl,D5,k5⟩);have hz0:zs=[]:=by
     cases zs with
     | nil=>rfl
     | cons a r=>simp at he
    refine⟨_,rfl,k l xs _ hHl hl5 hlen hnd (fun x hx=>⟨hls x hx,fun hk=>hz2 ⟨x,hx,hk⟩ hz0⟩) D5 k5⟩
  ·rintro σ H4 ⟨v3,rfl,D4,k4⟩;refine acx (fun σ H7=>∃ p2,σ=[some (.ref d),some (.int m),some (.str aan),v3,some (.ref p2)]/\H7 p2=some (.lst ((ac0 aan++ad5).map V.str))/\DeckAt H7 d c/\Keep d c H H7/\H p2=none) (fun u hu'=>?_) ?_
   ·refine⟨_,aa5 (i:=4) af0.nd rfl (Or.inr rfl) (aa6 aj0 (ars ["sign"] [] [] rfl (pi_str (pv 2)) rfl rfl (fun s₀ H₀ C cl fp=>ado (i:=0) (nd1 _) rfl (Or.inl rfl)) (fun s₀ H₀ C cl fp=>agl) (fun s₀ H₀ C cl fp=>pv 0)) (@ab1 _ _ _ _ (@aec _ [("cell",_,_),("along",_,_),("lay",_,_),("judge",_,_),("late",_,_),("gates",_,_),("ways",_,_),("show",_,_)]))),?_⟩;refine⟨_,rfl,aan,rfl,by decide +kernel,fun D0 nD0=>?_⟩;refine lcMap aom id nD0 (fun _ _=>True.intro) (by rw[show (aho aan).length=26 by decide +kernel];decide) (fun i x H5 kk hx _ h=>⟨_,rfl,h⟩) ?_;have e1:(aho aan).map id=(ac0 aan).map V.str:=by rw[List.map_id];unfold aho ac0;rw[List.map_map];rfl
    rw[e1];refine⟨(by show 8<=sizeLine;decide),fun p1 n1=>?_⟩;have h0:upd (upd H4 D0 (.lst ((ac0 aan).map V.str))) p1 (.lst (ad5.map V.str)) D0=some (.lst ((ac0 aan).map V.str)):=by rw[aad (aab aaa n1)];exact aaa
    refine⟨D0,p1,_,_,rfl,rfl,h0,aaa,(by rw[List.length_map,show (ac0 aan).length=26 by decide +kernel];show 26+8<=sizeLine;decide),fun p2 n2=>?_⟩;have D7:=((D4.new (o:=.lst ((ac0 aan).map V.str)) nD0).new (o:=.lst (ad5.map V.str)) n1);have k7:=(k4.trans (Keep.new (d:=d) (c:=c) (o:=.lst ((ac0 aan).map V.str)) nD0)).trans (Keep.new (d:=d) (c:=c) (o:=.lst (ad5.map V.str)) n1);have np2:=D7.ned n2;refine hu' _ _ ⟨p2,rfl,?_,D7.new n2,k7.trans (Keep.new n2),k7.free np2.1 np2.2 n2⟩;rw[aaa,List.map_append];rfl
   rintro σ H7 ⟨p2,rfl,h7,D7,k7,z7⟩;refine acx (fun σ H8=>∃ p3,σ=[some (.ref d),some (.int m),some (.str aan),v3,some (.ref p3)]/\H8 p3=some (.lst ((ac0 aan++ad5++af9).map V.str))/\DeckAt H8 d c/\Keep d c H H8/\H p3=none) (fun u hu'=>?_) ?_
   ·refine⟨_,aa5 (i:=4) af0.nd rfl (Or.inr rfl) (aa6 aj0 (pv 4) (@ab1 _ _ _ _ (@aec _ [("andx",_,_),("orb",_,_),("oddly",_,_),("mosts",_,_),("nots",_,_),("ones",_,_),("nila",_,_),("inn",_,_),("outer",_,_),("aa",_,_),("ab",_,_),("ba",_,_)]))),?_⟩;refine⟨_,rfl,(by show 12<=sizeLine;decide),fun p1 n1=>?_⟩;have h0:upd H7 p1 (.lst (af9.map V.str)) p2=some (.lst ((ac0 aan++ad5).map V.str)):=by rw[aad (aab h7 n1)];exact h7
    refine⟨p2,p1,_,_,rfl,rfl,h0,aaa,(by rw[List.length_map,show (ac0 aan++ad5).length=34 by decide +kernel];show 34+12<=sizeLine;decide),fun p3 n3=>?_⟩;have D8:=D7.new (o:=.lst (af9.map V.str)) n1;have k8:=k7.trans (Keep.new (d:=d) (c:=c) (o:=.lst (af9.map V.str)) n1);have np3:=D8.ned n3;refine hu' _ _ ⟨p3,rfl,?_,D8.new n3,k8.trans (Keep.new n3),k8.free np3.1 np3.2 n3⟩;rw[aaa,List.map_append (l₁:=ac0 aan++ad5)];rfl
   rintro σ H8 ⟨p3,rfl,h8,D8,k8,z8⟩;refine acx (fun σ H9=>∃ p4,σ=[some (.ref d),some (.int m),some (.str aan),v3,some (.ref p4)]/\H9 p4=some (.lst (ag2.map V.str))/\DeckAt H9 d c/\Keep d c H H9/\H p4=none) (fun u hu'=>?_) ?_
   ·refine⟨_,aa5 (i:=4) af0.nd rfl (Or.inr rfl) (aa6 aj0 (pv 4) (@ab1 _ _ _ _ (@aec _ [("abcdefgh",_,_),("abcdefgi",_,_),("zzzzzzzz",_,_),("names",_,_),("judged",_,_),("rowsofx",_,_)]))),?_⟩;refine⟨_,rfl,(by show 6<=sizeLine;decide),fun p1 n1=>?_⟩;have h0:upd H8 p1 (.lst (amy.map V.str)) p3=some (.lst ((ac0 aan++ad5++af9).map V.str)):=by rw[aad (aab h8 n1)];exact h8
    refine⟨p3,p1,_,_,rfl,rfl,h0,aaa,(by rw[List.length_map,show (ac0 aan++ad5++af9).length=46 by decide +kernel];show 46+6<=sizeLine;decide),fun p4 n4=>?_⟩;have D9:=D8.new (o:=.lst (amy.map V.str)) n1;have k9:=k8.trans (Keep.new (d:=d) (c:=c) (o:=.lst (amy.map V.str)) n1);have np4:=D9.ned n4;refine hu' _ _ ⟨p4,rfl,?_,D9.new n4,k9.trans (Keep.new n4),k9.free np4.1 np4.2 n4⟩;unfold ag2;rw[aaa,List.map_append (l₁:=ac0 aan++ad5++af9)];rfl
   rintro σ H9 ⟨p4,rfl,h9,D9,k9,z9⟩;refine⟨_,aav (ac6 (ars ["k"] ["spare","deck"] [4,0] rfl (adu rfl T.range (pa_c (pv 1) aak)) rfl rfl (fun s₀ H₀ C cl fp=>ado (i:=0) awn rfl (Or.inl rfl)) (fun s₀ H₀ C cl fp=>agl) (fun s₀ H₀ C cl fp=>pe_bmK K PySem.F.plainAttrs_list PySem.F.slot_list_pop PySem.F.type_list_pop afc (pv 1) (pa_c (aba GT hr1 rfl gT.m gT.k gT.b .nil adg (pa_c (pv 2) (pa_c (abq (ash K) (by rfl) T.len PySem.boot_len (pa_c (pv 1) aak)) aak))) aak)))),?_⟩;refine⟨_,rfl,_,rfl,by omega,by omega,fun D0 nD0=>?_⟩;have nd0:=D9.ned nD0;have hHD:H D0=none:=k9.free nd0.1 nd0.2 nD0;have np4:p4≠d/\p4≠c:=D.ned z9;have p4D:p4≠D0:=aab h9 nD0;refine lc1y af8 (fun i ys H10=>∃ zs sp:List Str,ys=zs.map V.str/\zs.length=i/\sp.length+i=52/\(zs++sp).Nodup/\(∀ x∈zs++sp,GoodName x)/\H10 p4=some (.lst (sp.map V.str))/\DeckAt H10 d c/\Keep d c H H10/\H10 D0=some (.lst ys))
    ⟨[],ag2,rfl,rfl,apg,amb,aop,by rw[aad p4D];exact h9,D9.new nD0,k9.trans (Keep.new nD0),aaa⟩ (fun _ _ _ _ _=>True.intro) ?_ ?_
   ·rintro i x ys H10 hx ⟨zs,sp,rfl,hzl,hsl,hnd,hg,h10,D10,k10,hD10⟩;have hi:i<40:=by
     have:=(List.getElem?_eq_some_iff.mp hx).1;simp at this;omega
    refine⟨_,rfl,.inl ⟨rfl,_,SqL.of h10⟩,_,rfl,_,rfl,p4,_,rfl,.inl (SqL.of h10),d,c,_,rfl,D10,by rw[List.length_map];omega,by rw[List.length_map];omega,fun r H11 b0 b1 D11 k11=>?_⟩;rw[List.length_map] at b1;obtain⟨j,rfl⟩:=Int.eq_ofNat_of_zero_le b0;have hj:j<sp.length:=by omega
    have h11:=k11 p4 _ h10 np4.1 np4.2;have hD11:=k11 D0 _ hD10 nd0.1 nd0.2;have hy:sp[j]?=some sp[j]:=List.getElem?_eq_getElem hj;have pm:=am0 hy;have pm2:((zs++[sp[j]])++sp.eraseIdx j).Perm (zs++sp):=by
     rw[List.append_assoc];exact List.Perm.append_left zs pm
    have hel:(sp.eraseIdx j).length+1=sp.length:=by
     rw[List.length_eraseIdx,if_pos hj];omega
    refine⟨p4,_,_,j,.str sp[j],rfl,rfl,h11,by omega,by omega,?_,by simp[hj],⟨_,rfl⟩,by rw[aad p4D.symm];exact hD11,?_,zs++[sp[j]],sp.eraseIdx j,by simp,by simp[hzl],by omega,pm2.symm.nodup hnd,fun x hx=>hg x (pm2.mem_iff.mp hx),?_,?_,?_,aaa⟩
    ·rw[List.length_map];exact PySem.StrLaws.seqIndex_nonneg (by omega) (by omega)
    ·rw[List.length_map];exact Nat.lt_of_lt_of_le (show zs.length<1000 by omega) (by decide)
    ·rw[aad p4D,aaa,ak5]
    ·exact (D11.upd_other np4.1 np4.2).upd_other nd0.1 nd0.2
    ·exact fun b o e g1 g2=>by rw[aad (aab e hHD),aad (aab e z9)];exact k11 b o (k10 b o e g1 g2) g1 g2
   ·rintro ys H10 ⟨zs,sp,rfl,hzl,hsl,hnd,hg,h10,D10,k10,hD10⟩;rw[List.length_map,List.length_range] at hzl;exact k D0 zs H10 hHD hD10 (by omega) (List.Nodup.sublist (List.sublist_append_left zs sp) hnd) (fun x hx=>hg x (List.mem_append_left _ hx)) D10 k10
end
def two3:List Str:=["and","or","odd"]
structure ArOk (w:Str) (n:Nat):Prop where
 ok:(w∈two3/\(n=2\/n=3))\/(w = "most" /\ n=3)\/(w = "not" /\ n=1)\/(w = "one" /\ n=0)\/(w = "nil" /\ n=0)
def ail:List Str:=["and","or","odd","most","not","one","nil","and","odd","most"]
def aed:List Str:=["most","not","one","nil"]
def aka:List Int:=[3,1,0,0]
theorem alx {w:Str}(h:w∈ail) (h2:w∉two3):w = "most" \/ w = "not" \/ w = "one" \/ w = "nil" := by
 unfold ail at h;unfold two3 at h2;simp only[List.mem_cons,List.not_mem_nil,or_false,not_or] at h h2;obtain⟨g1,g2,g3⟩:=h2;rcases h with q | q | q | q | q | q | q | q | q | q
 ·exact absurd q g1
 ·exact absurd q g2
 ·exact absurd q g3
 ·exact .inl q
 ·exact .inr (.inl q)
 ·exact .inr (.inr (.inl q))
 ·exact .inr (.inr (.inr q))
 ·exact absurd q g1
 ·exact absurd q g3
 ·exact .inl q
theorem idx4 {w:Str}(h:w = "most" \/ w = "not" \/ w = "one" \/ w = "nil"):∃ (j:Nat) (n:Nat),j<4/\(∀ z,(aed.map V.str)[j]?=some z->eqV z (.str w)=true)/\(∀ (m:Nat) z,m<j->(aed.map V.str)[m]?=some z->eqV z (.str w)=false) /\
  atI (aka.map V.int) (j:Int)=some (.int n)/\ArOk w n:=by
 have go:∀ (j:Nat) (n:Nat),j<4->aed[j]?=some w->atI (aka.map V.int) (j:Int)=some (.int n)->(∀ m,m<j->∀ y,aed[m]?=some y->¬ y=w)->ArOk w n->∃ (j:Nat) (n:Nat),j<4/\(∀ z,(aed.map V.str)[j]?=some z->eqV z (.str w)=true)/\(∀ (m:Nat) z,m<j->(aed.map V.str)[m]?=some z->eqV z (.str w)=false) /\
   atI (aka.map V.int) (j:Int)=some (.int n)/\ArOk w n:=by
  intro j n hj hw ha hn ho;refine⟨j,n,hj,fun z hz=>?_,fun m z hm hz=>?_,ha,ho⟩
  ·rw[List.getElem?_map,hw] at hz;cases hz;show (w == w)=true;exact beq_self_eq_true w
  ·rw[List.getElem?_map] at hz;cases e:aed[m]? with
   | none=>rw[e] at hz;cases hz
   | some y =>
    rw[e] at hz;cases hz;show (y == w)=false;exact beq_eq_false_iff_ne.mpr (hn m hm y e)
 have bd:∀ {a b:Nat},a<b->b<=4->a=0\/a=1\/a=2\/a=3:=fun h1 h2=>by omega
 rcases h with rfl | rfl | rfl | rfl
 ·exact go 0 3 (by decide) rfl rfl (fun m hm=>absurd hm (Nat.not_lt_zero _)) ⟨.inr (.inl ⟨rfl,rfl⟩)⟩
 ·refine go 1 1 (by decide) rfl rfl (fun m hm y hy=>?_) ⟨.inr (.inr (.inl ⟨rfl,rfl⟩))⟩;obtain rfl:m=0:=by omega
  cases hy;decide +kernel
 ·refine go 2 0 (by decide) rfl rfl (fun m hm y hy=>?_) ⟨.inr (.inr (.inr (.inl ⟨rfl,rfl⟩)))⟩;rcases (show m=0\/m=1 by omega) with rfl | rfl<;>(cases hy;decide +kernel)
 ·refine go 3 0 (by decide) rfl rfl (fun m hm y hy=>?_) ⟨.inr (.inr (.inr (.inr ⟨rfl,rfl⟩)))⟩;rcases (show m=0\/m=1\/m=2 by omega) with rfl | rfl | rfl<;>(cases hy;decide +kernel)
def aux:Sp:=fun vs H Q _=>∃ (d c kn:Addr) (ks:List Str),vs=[.ref d,.ref kn]/\DeckAt H d c/\H kn=some (.lst (ks.map V.str))/\kn≠d/\kn≠c/\ks.length<=100 /\
 ∀ (t q:Addr) (wd:Str) (ps:List Str) (H':Hp),H t=none->H q=none->H' t=some (.tup [.str wd,.ref q])->H' q=some (.tup (ps.map V.str))->ArOk wd ps.length->(∀ p∈ps,p∈ks)->DeckAt H' d c->Keep d c H H'->Q (.ref t) H'
section
variable {P:Program}{w:World}{K:PySem.W.Frag}{mg:Str->Option Value}{base:Heap}
theorem af5:FnScope ["deck","known","word","many","parts","k","at"] ["deck","known"] (aaj aok):=⟨rfl,rfl,rfl,by decide +kernel,rfl,by decide +kernel,by decide +kernel⟩
set_option maxHeartbeats 4000000 in
theorem axg {f fT:Addr}{fd fdT:FuncData}(F:Fun K "_law_gate" "_law_gate" aok f fd) (T:Txt mg) (gT:Gd K mg "_law_take" afe ["deck","many"] fT fdT):FnOk P w K mg base CX0 2 f fd ["deck","known"] aux:=by
 have GT:FnOk P w K mg base CX0 1 fT fdT ["deck","many"] aku:=ajd gT.F T;refine F.ok af5 (fun vs H Q E h=>?_) (fun cdv A outer s H vs Q E hr h=>?_)
 ·obtain⟨d,c,kn,ks,rfl,_⟩:=h;rfl
 ·obtain⟨d,c,kn,ks,rfl,D,hkn,knd,knc,hks,k⟩:=h;have hu:=hr.units;refine acx (fun σ H1=>∃ wd,σ=[some (.ref d),some (.ref kn),some (.str wd),none,none,none,none]/\wd∈ail/\DeckAt H1 d c/\Keep d c H H1) (fun u hu'=>?_) ?_
  ·refine⟨_,@aa5 _ _ 2 _ _ _ _ af5.nd rfl (Or.inl rfl) (@acq _ _ _ _ _ _ _ abi (@ab1 _ _ _ _ (@aec _ [("and",_,_),("or",_,_),("odd",_,_),("most",_,_),("not",_,_),("one",_,_),("nil",_,_),("and",_,_),("odd",_,_),("most",_,_)])) (aba GT hr rfl gT.m gT.k gT.b .nil adg (pa_c (pv 0) (pa_c aap aak))) (fun _ _=>rfl)) (by rfl) (.inl rfl),?_⟩;refine⟨(by show 10<=sizeLine;decide),fun p np=>⟨_,rfl,d,c,10,rfl,D.new np,by decide,by decide,fun r H1 a0 a1 D1 k1=>?_⟩⟩;have np1:=D.ned np;have h1:=k1 p _ aaa np1.1 np1.2;obtain⟨wd,hat,hw⟩:=ani (xs:=ail) a0 (by exact a1);exact⟨p,_,_,.str wd,rfl,rfl,SqL.of h1,hat,hu' _ _ ⟨wd,rfl,hw,D1,(Keep.new np).trans k1⟩⟩
  rintro σ H1 ⟨wd,rfl,hw,D1,k1⟩;refine acx (fun σ H2=>∃ n:Int,σ=[some (.ref d),some (.ref kn),some (.str wd),some (.int n),none,none,none]/\DeckAt H2 d c/\Keep d c H H2) (fun u hu'=>?_) ?_
  ·refine⟨_,@aa5 _ _ 3 _ _ _ _ af5.nd rfl (Or.inl rfl) (@acq _ _ _ _ _ _ _ abi (@ab1 _ _ _ _ (@ai2 _ [(2,_,_),(2,_,_),(2,_,_),(3,_,_),(1,_,_),(0,_,_),(0,_,_),(3,_,_),(3,_,_),(3,_,_)])) (aba GT hr rfl gT.m gT.k gT.b .nil adg (pa_c (pv 0) (pa_c aap aak))) (fun _ _=>rfl)) (by rfl) (.inl rfl),?_⟩;refine⟨(by show 10<=sizeLine;decide),fun p np=>⟨_,rfl,d,c,10,rfl,D1.new np,by decide,by decide,fun r H2 a0 a1 D2 k2=>?_⟩⟩;have np1:=D1.ned np;have h2:=k2 p _ aaa np1.1 np1.2;obtain⟨j,rfl⟩:=Int.eq_ofNat_of_zero_le a0;have hj:j<([2,2,2,3,1,0,0,3,3,3]:List Int).length:=by show j<10;omega
   have hat:atI (([2,2,2,3,1,0,0,3,3,3]:List Int).map V.int) ((j:Nat):Int)=some (V.int ([2,2,2,3,1,0,0,3,3,3]:List Int)[j]):=aa9 (by rw[List.getElem?_map,List.getElem?_eq_getElem hj];rfl);exact⟨p,_,_,_,rfl,rfl,SqL.of h2,hat,hu' _ _ ⟨_,rfl,D2,k1.trans ((Keep.new np).trans k2)⟩⟩
  rintro σ H2 ⟨n0,rfl,D2,k2⟩;refine acx (fun σ H3=>∃ n:Nat,σ=[some (.ref d),some (.ref kn),some (.str wd),some (.int n),none,none,none]/\ArOk wd n/\n<=3/\DeckAt H3 d c/\Keep d c H H3) (fun u hu'=>?_) ?_
  ·refine⟨_,ahc (acj agt (pv 2) (@ab1 _ _ _ _ (@aec _ [("and",_,_),("or",_,_),("odd",_,_)])) rfl) (aav (@aa5 _ _ 3 _ _ _ _ af5.nd rfl (Or.inl rfl) (@acq _ _ _ _ _ _ _ abi (@ab1 _ _ _ _ (@ai2 _ [(2,_,_),(3,_,_)])) (aa6 acy (pv 3) aap) (fun _ _=>rfl)) (by rfl) (.inl rfl))) (aav (@aa5 _ _ 3 _ _ _ _ af5.nd rfl (Or.inl rfl) (@acq _ _ _ _ _ _ _ abi (@ab1 _ _ _ _ (@ai2 _ [(3,_,_),(1,_,_),(0,_,_),(0,_,_)])) (ams PySem.F.plainAttrs_list PySem.F.slot_list_index PySem.F.type_list_index at3 (@ab1 _ _ _ _ (@aec _ [("most",_,_),("not",_,_),("one",_,_),("nil",_,_)])) (pa_c (pv 2) aak)) (fun _ _=>rfl)) (by rfl) (.inl rfl))),?_⟩;refine⟨_,rfl,(by show 3<=sizeLine;decide),fun p np=>⟨p,two3.map V.str,rfl,.inl (SqL.of aaa),rfl,ahd _,_,rfl,?_⟩⟩;have D3:=D2.new (o:=.lst (two3.map V.str)) np;have k3:=k2.trans (Keep.new (d:=d) (c:=c) (o:=.lst (two3.map V.str)) np);rw[ar2];refine ite2 (fun hk=>?_) (fun hk=>?_)
   ·have hk':wd∈two3:=of_decide_eq_true hk;refine⟨(by show 2<=sizeLine;decide),fun p2 np2=>⟨_,rfl,_,_,rfl,rfl,(by show (0:Int)<2;decide),?_⟩⟩;have b0:=Int.emod_nonneg n0 (show (2:Int)≠0 by decide);have b1:=Int.emod_lt_of_pos n0 (show (0:Int)<2 by decide);have D4:=D3.new (o:=.lst [V.int 2,V.int 3]) np2;have k4:=k3.trans (Keep.new (d:=d) (c:=c) (o:=.lst [V.int 2,V.int 3]) np2);rcases (show n0%2=0\/n0%2=1 by omega) with e | e
    ·exact⟨p2,_,_,.int 2,rfl,rfl,SqL.of aaa,by rw[e];rfl,hu' _ _ ⟨2,rfl,⟨.inl ⟨hk',.inl rfl⟩⟩,by decide,D4,k4⟩⟩
    ·exact⟨p2,_,_,.int 3,rfl,rfl,SqL.of aaa,by rw[e];rfl,hu' _ _ ⟨3,rfl,⟨.inl ⟨hk',.inr rfl⟩⟩,by decide,D4,k4⟩⟩
   ·have hk':wd∉two3:=fun z=>hk (decide_eq_true z)
    obtain⟨j,n,hj,i1,i2,hat,ho⟩:=idx4 (alx hw hk');refine⟨(by show 4<=sizeLine;decide),fun p2 np2=>⟨(by show 4<=sizeLine;decide),fun p3 np3=>⟨.inl ⟨rfl,_,SqL.of aaa⟩,_,rfl,?_⟩⟩⟩;have D4:=(D3.new (o:=.lst (aka.map V.int)) np2).new (o:=.lst (aed.map V.str)) np3;have k4:=(k3.trans (Keep.new (d:=d) (c:=c) (o:=.lst (aka.map V.int)) np2)).trans (Keep.new (d:=d) (c:=c) (o:=.lst (aed.map V.str)) np3);refine⟨p3,aed.map V.str,.str wd,j,rfl,rfl,SqL.of aaa,ahd _,rfl,hj,i1,i2,?_⟩;have h2:upd (upd (upd H2 p (.lst (two3.map V.str))) p2 (.lst (aka.map V.int))) p3 (.lst (aed.map V.str)) p2=some (.lst (aka.map V.int)):=by rw[aad (aab aaa np3)];exact aaa
    refine⟨p2,aka.map V.int,_,.int n,rfl,rfl,SqL.of h2,hat,hu' _ _ ⟨n,rfl,ho,?_,D4,k4⟩⟩;rcases ho.ok with⟨_,q | q⟩ | ⟨_,q⟩ | ⟨_,q⟩ | ⟨_,q⟩ | ⟨_,q⟩<;>omega
  rintro σ H3 ⟨n,rfl,ho,hn,D3,k3⟩;have hkn3:=k3 kn _ hkn knd knc;refine acx (fun σ H4=>∃ a:Nat,σ=[some (.ref d),some (.ref kn),some (.str wd),some (.int n),none,none,none]/\0<ks.length/\DeckAt H4 d c/\Keep d c H H4) (fun u hu'=>?_) ?_
  ·refine⟨_,ahc (acj (agk hu) (pv 1) (ab1 aak) (ad4 _)) (aav (ac6 (aj1 (pa_c (acq abi (ab1 (pa_c aeh (pa_c aeh aak))) (aa6 acy (pv 3) aap) (fun _ _=>rfl)) (pa_c (aj1 aak) aak))))) adl,?_⟩;refine⟨_,rfl,(by show 0<=sizeLine;decide),fun p np=>?_⟩;have D4:=D3.new (o:=.lst []) np;have k4:=k3.trans (Keep.new (d:=d) (c:=c) (o:=.lst []) np);have hkn4:upd H3 p (.lst []) kn=some (.lst (ks.map V.str)):=by rw[aad (aab hkn3 np)];exact hkn3
   refine⟨kn,p,_,rfl,rfl,SqL.of hkn4,SqL.of aaa,_,rfl,?_⟩;refine ite2 (fun he=>?_) (fun he=>hu' _ _ ⟨0,rfl,?_,D4,k4⟩)
   ·refine⟨(by show 2<=sizeLine;decide),fun p2 np2=>⟨_,rfl,_,_,rfl,rfl,(by show (0:Int)<2;decide),?_⟩⟩;have b0:=Int.emod_nonneg (n:Int) (show (2:Int)≠0 by decide);have b1:=Int.emod_lt_of_pos (n:Int) (show (0:Int)<2 by decide);have D5:=D4.new (o:=.lst [V.str (Str.ofString "one"),V.str (Str.ofString "nil")]) np2;have k5:=k4.trans (Keep.new (d:=d) (c:=c) (o:=.lst [V.str (Str.ofString "one"),V.str (Str.ofString "nil")]) np2);have fin:∀ w2:Str,ArOk w2 0->∀ q,upd (upd H3 p (.lst [])) p2 (.lst [V.str (Str.ofString "one"),V.str (Str.ofString "nil")]) q=none ->
      ∀ t,upd (upd (upd H3 p (.lst [])) p2 (.lst [V.str (Str.ofString "one"),V.str (Str.ofString "nil")])) q (.tup []) t=none ->
      Q (.ref t) (upd (upd (upd (upd H3 p (.lst [])) p2 (.lst [V.str (Str.ofString "one"),V.str (Str.ofString "nil")])) q (.tup [])) t (.tup [.str w2,.ref q])):=by
     intro w2 ho2 q nq t nt;have D6:=D5.new (o:=.tup []) nq;have k6:=k5.trans (Keep.new (d:=d) (c:=c) (o:=.tup []) nq);have nq1:=D5.ned nq;have nt1:=D6.ned nt;exact k t q w2 [] _ (k6.free nt1.1 nt1.2 nt) (k5.free nq1.1 nq1.2 nq) aaa (by rw[aad (aab aaa nt)];exact aaa) ho2 (fun p hp=>nomatch hp) (D6.new nt) (k6.trans (Keep.new nt))
    rcases (show (n:Int)%2=0\/(n:Int)%2=1 by omega) with e | e
    ·refine⟨p2,_,_,.str "one",rfl,rfl,SqL.of aaa,by rw[e];rfl,(by show 0<=sizeLine;decide),fun q nq=>⟨(by show 2<=sizeLine;decide),fun t nt=>?_⟩⟩;exact fin "one" ⟨.inr (.inr (.inr (.inl ⟨rfl,rfl⟩)))⟩ q nq t nt
    ·refine⟨p2,_,_,.str "nil",rfl,rfl,SqL.of aaa,by rw[e];rfl,(by show 0<=sizeLine;decide),fun q nq=>⟨(by show 2<=sizeLine;decide),fun t nt=>?_⟩⟩;exact fin "nil" ⟨.inr (.inr (.inr (.inr ⟨rfl,rfl⟩)))⟩ q nq t nt
   ·cases ks with
    | nil=>simp at he
    | cons a r=>simp
  rintro σ H4 ⟨_,rfl,hk0,D4,k4⟩;refine⟨_,aas (aa5 (i:=4) af5.nd rfl (Or.inl rfl) (ab1 aak)) (aas (ahz PassesOwn.never rfl (adu rfl T.range (pa_c (pv 3) aak)) (ado (i:=5) af5.nd rfl (Or.inl rfl)) (aas (aa5 (i:=6) af5.nd rfl (Or.inl rfl) (acq abi (ab1 (pa_c (aba GT hr rfl gT.m gT.k gT.b .nil adg (pa_c (pv 0) (pa_c (abq abm (by rfl) T.len PySem.boot_len (pa_c (pv 1) aak)) aak))) (pa_c (aa6 apb (aa6 apb (abq abm (by rfl) T.len PySem.boot_len (pa_c (pv 1) aak)) aap) (aba GT hr rfl gT.m gT.k gT.b .nil adg (pa_c (pv 0) (pa_c (abq (ak0 rfl) (by rfl) T.min PyProof.Rows.boot_min (pa_c aap (pa_c (abq abm (by rfl) T.len PySem.boot_len (pa_c (pv 1) aak)) aak))) aak)))) aak))) (aba GT hr rfl gT.m gT.k gT.b .nil adg (pa_c (pv 0) (pa_c aap aak))) (fun _ _=>rfl))) (aav (aeb (ams PySem.F.plainAttrs_list PySem.F.slot_list_append PySem.F.type_list_append aaw (pv 4) (pa_c (acq abi (pv 1) (pv 6) (fun _ _=>rfl)) aak)))))) (aav (ac6 (aj1 (pa_c (pv 2) (pa_c (ahm aax (by rfl) T.tuple PyProof.Rows.boot_tuple (pa_c (pv 4) aak)) aak)))))),?_⟩;refine⟨(by show 0<=sizeLine;decide),fun l nl=>?_⟩;have nl1:=D4.ned nl;have hHl:H l=none:=k4.free nl1.1 nl1.2 nl;have lk:l≠kn:=(aab hkn hHl).symm;refine⟨_,rfl,_,rfl,by omega,by omega,?_⟩;rw[Int.toNat_natCast];refine agv (lo:=0) (n:=n) (fun i σ H5=>∃ (ps:List Str) (v5 v6:Option V),σ=[some (.ref d),some (.ref kn),some (.str wd),some (.int n),some (.ref l),v5,v6]/\ps.length=i/\(∀ p∈ps,p∈ks)/\H5 l=some (.lst (ps.map V.str))/\DeckAt H5 d c/\Keep d c H H5)
   ⟨[],none,none,rfl,rfl,(fun p hp=>nomatch hp),aaa,D4.new nl,k4.trans (Keep.new nl)⟩ ?_ ?_
  ·rintro i σ H5 hi ⟨ps,v5,v6,rfl,hl5,hp5,h5,D5,k5⟩;have hkn5:=k5 kn _ hkn knd knc;have hml:(if ((ks.map V.str).length:Int)<4 then ((ks.map V.str).length:Int) else 4)=(if (ks.length:Int)<4 then (ks.length:Int) else 4):=by rw[List.length_map]
   refine⟨_,rfl,_,rfl,kn,_,rfl,.inl (SqL.of hkn5),d,c,_,rfl,D5,by rw[List.length_map];omega,by rw[List.length_map];omega,fun r1 H6 a0 a1 D6 k6=>?_⟩;have hkn6:=k6 kn _ hkn5 knd knc;refine⟨_,rfl,kn,_,rfl,.inl (SqL.of hkn6),_,_,rfl,rfl,_,rfl,_,rfl,kn,_,rfl,.inl (SqL.of hkn6),_,_,rfl,d,c,_,rfl,D6,?_,?_,fun r2 H7 b0 b1 D7 k7=>?_⟩
   ·rw[hml];split<;>omega
   ·rw[hml];split<;>omega
   have b1':r2<ks.length:=by
    rw[hml] at b1;split at b1<;>omega
   refine⟨_,_,rfl,rfl,(by show 2<=sizeLine;decide),fun p np=>?_⟩;have D8:=D7.new (o:=.lst [V.int r1,V.int (((ks.map V.str).length:Int)-1-r2)]) np;refine⟨_,rfl,d,c,2,rfl,D8,by decide,by decide,fun r3 H9 c0 c1 D9 k9=>?_⟩;have np1:=D7.ned np;have h9:=k9 p _ aaa np1.1 np1.2;have k8:Keep d c H5 H9:=((k6.trans k7).trans (Keep.new np)).trans k9;have hkn9:=k8 kn _ hkn5 knd knc;have nl2:l≠d/\l≠c:=nl1;have hl9:=k8 l _ h5 nl2.1 nl2.2;rw[List.length_map] at a1;have fin:∀ a:Int,0<=a->a<ks.length->∃ x,atI (ks.map V.str) a=some (V.str x)/\x∈ks:=fun a g0 g1=>ani g0 g1
   have go:∀ a:Int,0<=a->a<ks.length->atI [V.int r1,V.int (((ks.map V.str).length:Int)-1-r2)] r3=some (V.int a)->rIxL K (.ref p) (.int r3) H9 fun x H1=>ak9 6 x [some (.ref d),some (.ref kn),some (.str wd),some (.int n),some (.ref l),some (.int (0+i)),v6] H1 fun σ' H' =>
     (awd (tBM K "list" al6 (tVar 4) (aqz (tOp (rIxL K) (tVar 1) (tVar 6)) tNil))) { nx:=fun σ H5=>∃ (ps:List Str) (v5 v6:Option V),σ=[some (.ref d),some (.ref kn),some (.str wd),some (.int n),some (.ref l),v5,v6]/\ps.length=i+1/\(∀ p∈ps,p∈ks)/\H5 l=some (.lst (ps.map V.str))/\DeckAt H5 d c/\Keep d c H H5,rt:=Q } σ' H':=by
    intro a g0 g1 hat;obtain⟨x,hx,hm⟩:=fin a g0 g1;refine⟨p,_,_,.int a,rfl,rfl,SqL.of h9,hat,_,rfl,.inl ⟨rfl,_,SqL.of hl9⟩,_,rfl,_,rfl,kn,_,_,.str x,rfl,rfl,SqL.of hkn9,hx,l,_,.str x,rfl,rfl,hl9,?_,ps++[x],_,_,rfl,by simp[hl5],?_,?_,D9.upd_other nl2.1 nl2.2,?_⟩
    ·rw[List.length_map];exact Nat.lt_of_lt_of_le (show ps.length<1000 by omega) (by decide)
    ·intro y hy;rcases List.mem_append.mp hy with q | q
     ·exact hp5 y q
     ·rw[List.mem_singleton.mp q];exact hm
    ·rw[aaa];simp
    ·exact fun b o e g1 g2=>by rw[aad (aab e hHl)];exact (k5.trans k8) b o e g1 g2
   rcases (show r3=0\/r3=1 by omega) with e | e
   ·exact go r1 a0 a1 (by rw[e];rfl)
   ·exact go (((ks.map V.str).length:Int)-1-r2) (by rw[List.length_map];omega) (by rw[List.length_map];omega) (by rw[e];rfl)
  ·rintro σ H5 ⟨ps,v5,v6,rfl,hl5,hp5,h5,D5,k5⟩;refine⟨_,rfl,_,rfl,l,_,rfl,.inl ⟨SqL.of h5,fun q nq=>⟨(by show 2<=sizeLine;decide),fun t nt=>?_⟩⟩⟩;have nq1:=D5.ned nq;have D6:=D5.new (o:=.tup (ps.map V.str)) nq;have k6:=k5.trans (Keep.new (d:=d) (c:=c) (o:=.tup (ps.map V.str)) nq);have nt1:=D6.ned nt;exact k t q wd ps _ (k6.free nt1.1 nt1.2 nt) (k5.free nq1.1 nq1.2 nq) aaa (by rw[aad (aab aaa nt)];exact aaa) (by rw[hl5];exact ho) hp5 (D6.new nt) (k6.trans (Keep.new nt))
end
structure Cel where
 ins:List Str
 gates:List (Str×Str×List Str)
 outs:List Str
def Cel.names (C:Cel):List Str:=C.ins++C.gates.map (·.1)
def GateAt (H:Hp) (a:Addr) (g:Str×Str×List Str):Prop:=∃ q,H a=some (.tup [.str g.1,.str g.2.1,.ref q])/\H q=some (.tup (g.2.2.map V.str))
abbrev GatesAt (H:Hp):List Addr->List (Str×Str×List Str)->Prop:=Paired (GateAt H)
def aar:List Str->List (Str×Str×List Str)->Prop
 | _,[]=>True
 | kn,g::r=>ArOk g.2.1 g.2.2.length/\(∀ p∈g.2.2,p∈kn)/\aar (kn++[g.1]) r
theorem aar.snoc:∀ {gs:List (Str×Str×List Str)}{kn:List Str}{g:Str×Str×List Str},aar kn gs->ArOk g.2.1 g.2.2.length->(∀ p∈g.2.2,p∈kn++gs.map (·.1))->aar kn (gs++[g])
 | [],kn,g,_,h1,h2=>⟨h1,by simpa using h2,True.intro⟩
 | a::r,kn,g,h,h1,h2=>⟨h.1,h.2.1,aar.snoc h.2.2 h1 (by simpa using h2)⟩
structure Good (C:Cel):Prop where
 nd:C.names.Nodup
 nm:∀ x∈C.names,GoodName x
 gt:aar C.ins C.gates
 os:∀ o∈C.outs,o∈C.names
 ond:C.outs.Nodup
 li:C.ins.length<=6
 lg:C.gates.length<=24
 lo:C.outs.length<=6
def ag5:RD:=fun dk ds Φ=>∃ (d c:Addr) (m:Int),dk=[d,c]/\ds=[.raw (.ref d),.int m]/\0<m/\m<1000000/\∀ r:Nat,(r:Int)<m->Φ (.val (.int r))
def als:RD:=fun dk ds Φ=>∃ (d c:Addr) (m:Nat),dk=[d,c]/\ds=[.raw (.ref d),.int m]/\m<=40/\∀ xs:List Str,xs.length=m->xs.Nodup->(∀ x∈xs,GoodName x)->Φ (.own (.lst (xs.map D.str)))
def avh:RD:=fun dk ds Φ=>∃ (d c:Addr) (ks:List Str),dk=[d,c]/\ds=[.raw (.ref d),.lst (ks.map D.str)]/\ks.length<=100/\∀ (wd:Str) (ps:List Str),ArOk wd ps.length->(∀ p∈ps,p∈ks)->Φ (.val (.tup [.str wd,.tup (ps.map D.str)]))
theorem ai6 {d c:Addr}{H:Hp}(h:Dk [d,c] H):DeckAt H d c:=by
 rcases h with h | ⟨d',c',e,h⟩
 ·cases h
 ·cases e;exact h
theorem aji {d c:Addr}{H H':Hp}(k:Keep d c H H'):Frm [d,c] H H':=fun b o e n=>k b o e (fun z=>n (by simp[z])) (fun z=>n (by simp[z]))
theorem aui {d c l:Addr}{H:Hp}(D:DeckAt H d c) (h:H l=none):l∉[d,c]:=fun z=>by
 have:=D.ned h;rcases List.mem_cons.mp z with q | q
 ·exact this.1 q
 ·exact this.2 (by simpa using q)
section
variable {P:Program}{w:World}{K:PySem.W.Frag}{mg:Str->Option Value}{base:Heap}{f:Addr}{fd:FuncData}{k:Nat}{ps:List Str}
theorem axh (F:FnOk P w K mg base CX0 k f fd ps aku):FnOk P w K mg base CX0 k f fd ps (spD K ag5):=F.imp fun vs H Q E ⟨dk,A,ds,Φ,hdk,hA,r,⟨d,c,m,e1,e2,h0,h1,hΦ⟩,hq⟩=>by
 subst e1 e2;cases r with
 | cons r1 r =>
  cases r with
  | cons r2 r =>
   cases r;have:=r1.raw_inv;have:=r2.int_inv;subst_vars;refine⟨d,c,m,rfl,ai6 hdk,h0,h1,fun r H' a b D' kp=>?_⟩;obtain⟨n,rfl⟩:=Int.eq_ofNat_of_zero_le a;exact hq _ _ H' (hΦ n b) (aji kp) (.inr ⟨d,c,rfl,D'⟩) (.int _)
theorem aue (F:FnOk P w K mg base CX0 k f fd ps aqd):FnOk P w K mg base CX0 k f fd ps (spD K als):=F.imp fun vs H Q E ⟨dk,A,ds,Φ,hdk,hA,r,⟨d,c,m,e1,e2,h0,hΦ⟩,hq⟩=>by
 subst e1 e2;cases r with
 | cons r1 r =>
  cases r with
  | cons r2 r =>
   cases r;have:=r1.raw_inv;have:=r2.int_inv;subst_vars;exact⟨d,c,m,rfl,ai6 hdk,h0,fun l xs H' hl hl' e nd gn D' kp=>hq _ _ H' (hΦ xs e nd gn) (aji kp) (.inr ⟨d,c,rfl,D'⟩) ⟨l,rfl,hl,aui (ai6 hdk) hl,_,hl',reps_strs xs⟩⟩
theorem awm (F:FnOk P w K mg base CX0 k f fd ps aux):FnOk P w K mg base CX0 k f fd ps (spD K avh):=F.imp fun vs H Q E ⟨dk,A,ds,Φ,hdk,hA,r,⟨d,c,ks,e1,e2,h0,hΦ⟩,hq⟩=>by
 subst e1 e2;cases r with
 | cons r1 r =>
  cases r with
  | cons r2 r =>
   cases r;have:=r1.raw_inv;subst this;obtain⟨kn,us,rfl,ha,hk,ru⟩:=r2.lst_inv;have:=afu (aep ks) ru;subst this;have na:=hA kn ha;refine⟨d,c,kn,ks,rfl,ai6 hdk,hk,fun z=>na (by simp[z]),fun z=>na (by simp[z]),h0,fun t q wd ps H' ht hq' h1 h2 ok hp D' kp=>hq _ _ H' (hΦ wd ps ok hp) (aji kp) (.inr ⟨d,c,rfl,D'⟩) ?_⟩;exact .tup h1 (.cons (.str wd) (.cons (.tup h2 (reps_strs ps)) .nil))
end
theorem agg {α:Type}(f:α->D) (xs:List α) (k:Nat):cutD (xs.map f) none (some (k:Int))=(xs.take k).map f:=by
 unfold cutD;rw[List.length_map,HT.sIx_none,HT.sIx_nat,List.drop_zero,Nat.sub_zero,List.map_take];by_cases h:k<=xs.length
 ·rw[Nat.min_eq_left h]
 ·rw[Nat.min_eq_right (by omega),List.take_of_length_le (by simp),List.take_of_length_le (by simp;omega)]
theorem aix {α:Type}(f:α->D) (xs:List α) (k:Nat):cutD (xs.map f) (some (k:Int)) none=(xs.drop k).map f:=by
 unfold cutD;rw[List.length_map,HT.sIx_nat,HT.sIx_none,List.map_drop,List.take_of_length_le (by simp)];by_cases h:k<=xs.length
 ·rw[Nat.min_eq_left h]
 ·rw[Nat.min_eq_right (by omega),List.drop_eq_nil_of_le (by simp),List.drop_eq_nil_of_le (by simp;omega)]
def encG (g:Str×Str×List Str):D:=.tup [.str g.1,.str g.2.1,.tup (g.2.2.map D.str)]
def encC (C:Cel):D:=.tup [.tup (C.ins.map D.str),.tup (C.gates.map encG),.tup (C.outs.map D.str)]
def encP (p:Str×Str):D:=.tup [.str p.1,.str p.2]
def ak7 (C:Cel) (al:List (Str×Str)):D:=.tup [encC C,.tup (al.map encP)]
structure GoodRow (C:Cel) (al:List (Str×Str)):Prop where
 good:Good C
 og:∀ o∈C.outs,o∈C.gates.map (·.1)
 n1:(al.map (·.1)).Nodup
 n2:(al.map (·.2)).Nodup
 mem:∀ p∈al,p.1∈C.outs/\p.2∈C.ins
 la:al.length<=4
def R_row:RD:=fun dk ds Φ=>∃ (d c:Addr) (a b m:Nat),dk=[d,c]/\ds=[.raw (.ref d),.int a,.int b,.int m]/\a<=6/\b<=24/\m<=4/\∀ C al,GoodRow C al->Φ (.val (ak7 C al))
theorem aag {t u:TSd}{dk:List Addr}{De:DEnds}{ρ:List Sl}(I:List Sl->Prop) (h1:∀ N:List Sl->Prop,(∀ ρ',I ρ'->N ρ')->t dk { De with nx:=N } ρ) (h2:∀ ρ',I ρ'->u dk De ρ'):sSeq t u dk De ρ:=h1 _ h2
theorem ae0 {ι:TId}{g:TGd}{tb:TSd}{dk:List Addr}{De:DEnds}{ρ:List Sl}(ds:List D) (ρ1:List Sl) (hι:∀ Ψ:List D->List Sl->Prop,Ψ ds ρ1->ι dk ρ Ψ) (Pv:Nat->List Sl->Prop) (h0:Pv 0 ρ1)
  (hs:∀ (i:Nat) d ρ',ds[i]?=some d->Pv i ρ'->g d ρ' fun ρ2=>tb dk { nx:=Pv (i+1),ct:=Pv (i+1),bk:=De.nx,rt:=De.rt } ρ2) (hd:∀ ρ',Pv ds.length ρ'->De.nx ρ'):sFor ι g tb dk De ρ:=hι _ ⟨Pv,h0,hs,hd⟩
theorem acf {α:Type}{f:α->D}{xs:List α}{i:Nat}{d:D}(h:(xs.map f)[i]?=some d):∃ y,xs[i]?=some y/\f y=d:=by
 rw[List.getElem?_map] at h;cases e:xs[i]? with
 | none=>rw[e] at h;cases h
 | some y=>rw[e] at h;exact⟨y,rfl,Option.some.inj h⟩
theorem agw {lo:Int}{n i:Nat}{d:D}(h:(afi lo n)[i]?=some d):i<n/\d = .int (lo+i):=by
 unfold afi at h;rw[List.getElem?_map] at h;cases e:(List.range n)[i]? with
 | none=>rw[e] at h;cases h
 | some y =>
  rw[e] at h;obtain⟨hl,hy⟩:=List.getElem?_eq_some_iff.mp e;rw[List.length_range] at hl;rw[List.getElem_range] at hy;subst hy;exact⟨hl,(Option.some.inj h).symm⟩
theorem afr {α:Type}:∀ {l:List α}{n:Nat}{y:α},l[n]?=some y->l.Perm (y::l.eraseIdx n)
 | a::l,0,y,h=>by simp at h;subst h;exact .refl _
 | a::l,n+1,y,h=>by
  have:=afr (l:=l) (n:=n) (y:=y) (by simpa using h);rw[List.eraseIdx_cons_succ];exact (this.cons a).trans (.swap y a _)
theorem agr {α:Type}{left out:List α}{n:Nat}{y:α}(hn:left[n]?=some y) (nd:(out++left).Nodup):((out++[y])++left.eraseIdx n).Nodup/\(∀ z,z∈(out++[y])++left.eraseIdx n->z∈out++left)/\(left.eraseIdx n).length+1=left.length:=by
 obtain⟨hl,hy⟩:=List.getElem?_eq_some_iff.mp hn;have p:(out++left).Perm ((out++[y])++left.eraseIdx n):=by
  have q:left.Perm (y::left.eraseIdx n):=afr hn;rw[List.append_assoc];exact q.append_left out
 refine⟨p.nodup_iff.mp nd,fun z hz=>p.mem_iff.mpr hz,?_⟩;rw[List.length_eraseIdx_of_lt hl];omega
theorem ahb {α β:Type}(f:α->β):∀ (l:List α) (n:Nat),(l.map f).eraseIdx n=(l.eraseIdx n).map f
 | [],_=>by simp
 | a::l,0=>rfl
 | a::l,n+1=>by rw[List.map_cons,List.eraseIdx_cons_succ,List.eraseIdx_cons_succ,List.map_cons,ahb f l n]
theorem am4 {n k:Nat}(h:k<n):seqIndex? (k:Int) n=some k:=by
 unfold seqIndex?;have:¬ ((k:Int)<0):=by omega
 simp[this,h]
section
variable {P:Program}{w:World}{K:PySem.W.Frag}{mg:Str->Option Value}{base:Heap}
theorem aa0:FnScope ["deck","inputs","gates","most","many","count","names","known","rows","name","left","outputs","k","outs","ins","along"] ["deck","inputs","gates","most"] (aaj adw):=⟨rfl,rfl,rfl,by decide +kernel,rfl,by decide +kernel,by decide +kernel⟩
set_option maxHeartbeats 4000000 in
theorem ok_row {f fT fN fG:Addr}{fd fdT fdN fdG:FuncData}(F:Fun K "_law_row" "_law_row" adw f fd) (T:Txt mg) (ax2:Gd K mg "_law_take" afe ["deck","many"] fT fdT) (ax9:Gd K mg "_law_names" ahh ["deck","many"] fN fdN) (aym:Gd K mg "_law_gate" aok ["deck","known"] fG fdG)
  (ax4:FnOk P w K mg base CX0 1 fT fdT ["deck","many"] (spD K ag5)) (ayw:FnOk P w K mg base CX0 3 fN fdN ["deck","many"] (spD K als)) (ay8:FnOk P w K mg base CX0 2 fG fdG ["deck","known"] (spD K avh)) :
  FnOk P w K mg base CX0 4 f fd ["deck","inputs","gates","most"] (spD K R_row):=by
 refine F.okD (k:=3) aa0 (fun dk ds Φ ⟨_,_,_,_,_,_,e,_⟩=>by rw[e];rfl) (by decide) fun cdv A outer s H E dk ds Φ hr hR=>?_
 have hu:=adt hr;obtain⟨d,c,a,b,m,rfl,rfl,ha,hb,hm,hΦ⟩:=hR;refine⟨_,(aac (aa2 (i:=4) aa0.nd rfl (Or.inl rfl) (aal ax4 (hr.mono (by decide)) (by rfl) ax2.m ax2.k ax2.b (pa_k (pd_v 0 (pv 0)) (pa_k (adp abl ab8 (pv 1) aae) pa_n)))) (aac (aa2 (i:=5) aa0.nd rfl (Or.inl rfl) (aal ax4 (hr.mono (by decide)) (by rfl) ax2.m ax2.k ax2.b (pa_k (pd_v 0 (pv 0)) (pa_k (adp abl ab8 (pv 2) aae) pa_n)))) (aac (aa2 (i:=6) aa0.nd rfl (Or.inl rfl) (aal ayw (hr.mono (by decide)) (by rfl) ax9.m ax9.k ax9.b (pa_k (pd_v 0 (pv 0)) (pa_k (adp abl ab8 (pv 4) (pd_v 5 (pv 5))) pa_n)))) (aac (aa2 (i:=7) aa0.nd rfl (Or.inl rfl) (af3 aga aki (pv 6) po_n (po_s (pd_v 4 (pv 4))))) (aac (aa2 (i:=8) aa0.nd rfl (Or.inl rfl) (aa7 pa_n)) (aac (afj (m:=99) PassesOwn.never rfl (i_v (af3 aga aki (pv 6) (po_s (pd_v 4 (pv 4))) po_n)) (g_n (i:=9) aa0.nd rfl (Or.inl rfl)) (aac (acu (pd_w PySem.F.plainAttrs_list PySem.F.slot_list_append PySem.F.type_list_append aaw ac8 (pv 8) (pa_k (afp abl ab8 (abj (pa_k (pd_v 9 (pv 9)) pa_n)) (aal ay8 (hr.mono (by decide)) (by rfl) aym.m aym.k aym.b (pa_k (pd_v 0 (pv 0)) (pa_k (pd_v 7 (pv 7)) pa_n)))) pa_n))) (aau (aa2 (i:=7) aa0.nd rfl (Or.inl rfl) (adp abl ab8 (pv 7) (aa7 (pa_k (pd_v 9 (pv 9)) pa_n))))))) (aac (aa2 (i:=10) aa0.nd rfl (Or.inl rfl) (af3 aga aki (pv 6) (po_s (pd_v 4 (pv 4))) po_n)) (aac (aa2 (i:=11) aa0.nd rfl (Or.inl rfl) (aa7 pa_n)) (aac (afj (m:=99) PassesOwn.never rfl (i_r1 (by rfl) T.range (aa3 (ag0 rfl) amd (by rfl) T.min PyProof.Rows.boot_min (pa_k (aal ax4 (hr.mono (by decide)) (by rfl) ax2.m ax2.k ax2.b (pa_k (pd_v 0 (pv 0)) (pa_k aae pa_n))) (pa_k (aa3 abx aef (by rfl) T.len PySem.boot_len (pa_s (pv 10) pa_n)) pa_n)))) (g_n (i:=12) aa0.nd rfl (Or.inl rfl)) (aau (acu (pd_w PySem.F.plainAttrs_list PySem.F.slot_list_append PySem.F.type_list_append aaw ac8 (pv 11) (pa_k (pd_w PySem.F.plainAttrs_list PySem.F.slot_list_pop PySem.F.type_list_pop afc am8 (pv 10) (pa_k (aal ax4 (hr.mono (by decide)) (by rfl) ax2.m ax2.k ax2.b (pa_k (pd_v 0 (pv 0)) (pa_k (aa3 abx aef (by rfl) T.len PySem.boot_len (pa_s (pv 10) pa_n)) pa_n))) pa_n)) pa_n))))) (aac (aa2 (i:=13) aa0.nd rfl (Or.inl rfl) (aam af7 aqo (by rfl) T.list PyProof.Rows.boot_list (pa_s (pv 11) pa_n))) (aac (aa2 (i:=14) aa0.nd rfl (Or.inl rfl) (af3 aga aki (pv 6) po_n (po_s (pd_v 4 (pv 4))))) (aac (aa2 (i:=15) aa0.nd rfl (Or.inl rfl) (aa7 pa_n)) (aac (afj (m:=99) PassesOwn.never rfl (i_r1 (by rfl) T.range (aa3 (ag0 rfl) amd (by rfl) T.min PyProof.Rows.boot_min (pa_k (aal ax4 (hr.mono (by decide)) (by rfl) ax2.m ax2.k ax2.b (pa_k (pd_v 0 (pv 0)) (pa_k (adp abl ab8 (pv 3) aae) pa_n))) (pa_k (aa3 abx aef (by rfl) T.len PySem.boot_len (pa_s (pv 13) pa_n)) (pa_k (aa3 abx aef (by rfl) T.len PySem.boot_len (pa_s (pv 14) pa_n)) pa_n))))) (g_n (i:=12) aa0.nd rfl (Or.inl rfl)) (aau (acu (pd_w PySem.F.plainAttrs_list PySem.F.slot_list_append PySem.F.type_list_append aaw ac8 (pv 15) (pa_k (abj (pa_k (pd_w PySem.F.plainAttrs_list PySem.F.slot_list_pop PySem.F.type_list_pop afc am8 (pv 13) (pa_k (aal ax4 (hr.mono (by decide)) (by rfl) ax2.m ax2.k ax2.b (pa_k (pd_v 0 (pv 0)) (pa_k (aa3 abx aef (by rfl) T.len PySem.boot_len (pa_s (pv 13) pa_n)) pa_n))) pa_n)) (pa_k (pd_w PySem.F.plainAttrs_list PySem.F.slot_list_pop PySem.F.type_list_pop afc am8 (pv 14) (pa_k (aal ax4 (hr.mono (by decide)) (by rfl) ax2.m ax2.k ax2.b (pa_k (pd_v 0 (pv 0)) (pa_k (aa3 abx aef (by rfl) T.len PySem.boot_len (pa_s (pv 14) pa_n)) pa_n))) pa_n)) pa_n))) pa_n))))) (aau (adc (abj (pa_k (abj (pa_k (aam aax aew (by rfl) T.tuple PyProof.Rows.boot_tuple (pa_k (af3 aga aki (pv 6) po_n (po_s (pd_v 4 (pv 4)))) pa_n)) (pa_k (aam aax aew (by rfl) T.tuple PyProof.Rows.boot_tuple (pa_s (pv 8) pa_n)) (pa_k (aam aax aew (by rfl) T.tuple PyProof.Rows.boot_tuple (pa_s (pv 11) pa_n)) pa_n)))) (pa_k (aam aax aew (by rfl) T.tuple PyProof.Rows.boot_tuple (pa_s (pv 15) pa_n)) pa_n)))))))))))))))))),?_⟩;refine⟨rfl,d,c,_,rfl,rfl,by omega,by omega,fun n1 h1=>⟨.inl rfl,?_⟩⟩;refine⟨rfl,d,c,_,rfl,rfl,by omega,by omega,fun n2 h2=>⟨.inl rfl,?_⟩⟩;refine⟨rfl,d,c,n1+n2,rfl,rfl,by omega,fun xs lx nd gn=>⟨.inl rfl,?_⟩⟩;refine⟨rfl,by decide,?_⟩;dsimp only;refine aag (fun ρ=>∃ (gs:List (Str×Str×List Str)) (s7 s9:Sl),ρ=[.val (.raw (.ref d)),.val (.int a),.val (.int b),.val (.int m),.val (.int n1),.val (.int n2),.own (.lst (xs.map D.str)),s7,.own (.lst (gs.map encG)),s9,.no,.no,.no,.no,.no,.no] /\ gs.map (·.1)=xs.drop n1/\aar (xs.take n1) gs) (fun N hN=>?_) ?_
 ·refine ae0 ((xs.drop n1).map D.str) [.val (.raw (.ref d)),.val (.int a),.val (.int b),.val (.int m),.val (.int n1),.val (.int n2),.own (.lst (xs.map D.str)),.own (.lst ((xs.take n1).map D.str)),.own (.lst []),.no,.no,.no,.no,.no,.no,.no] (fun Ψ h=>?_)
   (fun i ρ=>∃ (gs:List (Str×Str×List Str)) (s9:Sl),ρ=[.val (.raw (.ref d)),.val (.int a),.val (.int b),.val (.int m),.val (.int n1),.val (.int n2),.own (.lst (xs.map D.str)),.own (.lst ((xs.take n1++gs.map (·.1)).map D.str)),.own (.lst (gs.map encG)),s9,.no,.no,.no,.no,.no,.no] /\ gs.map (·.1)=(xs.drop n1).take i/\aar (xs.take n1) gs) ⟨[],.no,by simp,by simp,trivial⟩ ?_ ?_
  ·rw[← agg,← aix] at h;exact⟨rfl,h⟩
  ·rintro i x ρ hx ⟨gs,s9,rfl,hg,ok⟩;obtain⟨y,hy,rfl⟩:=acf hx;have hgl:gs.length<=40:=by have:=congrArg List.length hg;simp only[List.length_map,List.length_take,List.length_drop] at this;omega
   refine⟨rfl,(by show 1<=1000;decide),d,c,xs.take n1++gs.map (·.1),rfl,rfl,by simp;omega,fun wd ps hok hp=>⟨.inl rfl,(by show 1+2<=100000;decide),(by show (gs.map encG).length<100000;simp;omega),rfl,(by show 1<=1000;decide),(by show ((xs.take n1++gs.map (·.1)).map D.str).length+1<=100000;simp;omega),gs++[(y,wd,ps)],.val (.str y),?_,?_,ok.snoc hok hp⟩⟩
   ·simp[encG]
   ·rw[List.map_append,hg,List.take_add_one,hy];rfl
  ·rintro ρ ⟨gs,s9,rfl,hg,ok⟩;rw[List.length_map,List.take_of_length_le (Nat.le_refl _)] at hg;exact hN _ ⟨gs,_,s9,rfl,hg,ok⟩
 rintro ρ ⟨gs,s7,s9,rfl,hg,ok⟩;have hgl:gs.length=n2:=by have:=congrArg List.length hg;simp only[List.length_map,List.length_drop] at this;omega
 have gnd:(gs.map (·.1)).Nodup:=by rw[hg];exact nd.sublist (List.drop_sublist _ _)
 refine⟨rfl,by decide,?_⟩;dsimp only;refine aag (fun ρ=>∃ (os:List Str) (s10 s12:Sl),ρ=[.val (.raw (.ref d)),.val (.int a),.val (.int b),.val (.int m),.val (.int n1),.val (.int n2),.own (.lst (xs.map D.str)),s7,.own (.lst (gs.map encG)),s9,s10,.own (.lst (os.map D.str)),s12,.no,.no,.no] /\ os.Nodup/\(∀ o∈os,o∈gs.map (·.1))/\os.length<=6) (fun N hN=>?_) ?_
 ·refine⟨d,c,7,rfl,rfl,by decide,by decide,fun k7 hk7=>⟨.inl rfl,rfl,rfl,_,rfl,fun q hq q1 q2=>?_⟩⟩;have q2':q<=((cutD (xs.map D.str) (some (n1:Int)) none).length:Nat):=q2;rw[aix,← hg] at q2' ⊢;simp only[List.length_map] at q2';obtain⟨q,rfl⟩:∃ n:Nat,q=n:=⟨q.toNat,by rcases hq with z | z<;>omega⟩;obtain⟨G0,hG0⟩:∃ G0:List Str,G0=gs.map (·.1):=⟨_,rfl⟩;refine⟨by omega,by omega,fun i ρ=>∃ (os left:List Str) (s12:Sl),ρ=[.val (.raw (.ref d)),.val (.int a),.val (.int b),.val (.int m),.val (.int n1),.val (.int n2),.own (.lst (xs.map D.str)),s7,.own (.lst (gs.map encG)),s9,.own (.lst (left.map D.str)),.own (.lst (os.map D.str)),s12,.no,.no,.no] /\
   (os++left).Nodup/\(∀ o∈os++left,o∈G0)/\os.length=i/\left.length+i=gs.length,⟨[],G0,.no,by rw[hG0];rfl,by rw[hG0];exact gnd,fun o ho=>ho,rfl,by rw[hG0];simp⟩,?_,?_⟩
  ·rintro i x ρ hx ⟨os,left,s12,rfl,ond,oin,ol,ll⟩;obtain⟨hi,rfl⟩:=agw hx;rw[Int.toNat_natCast] at hi;refine⟨rfl,rfl,rfl,rfl,_,rfl,d,c,_,rfl,rfl,(by show (0:Int)<((left.map D.str).length:Nat);simp;omega),(by show ((left.map D.str).length:Int)<1000000;simp;omega),fun j hj=>⟨.inr rfl,?_⟩⟩;have hj':j<left.length:=by have:(j:Int)<((left.map D.str).length:Nat):=hj;simp at this;omega
   obtain⟨y,hy⟩:∃ y,left[j]?=some y:=⟨_,List.getElem?_eq_getElem hj'⟩;obtain⟨p1,p2,p3⟩:=agr hy ond;refine⟨j,.str y,by omega,by omega,(by show seqIndex? _ (left.map D.str).length=_;rw[List.length_map];exact am4 hj'),(by show (left.map D.str)[j]?=_;rw[List.getElem?_map,hy];rfl),(by show (os.map D.str).length<100000;simp;omega),os++[y],left.eraseIdx j,.val (.int (0+(i:Int))),?_,p1,fun o ho=>oin o (p2 o ho),by simp[ol],by omega⟩;simp[ahb]
  ·rintro ρ ⟨os,left,s12,rfl,ond,oin,ol,ll⟩;exact hN _ ⟨os,_,s12,rfl,(List.nodup_append.mp ond).1,fun o ho=>by have:=oin o (List.mem_append_left _ ho);rw[hG0] at this;exact this,by rw[ol];simp[afi];omega⟩
 rintro ρ ⟨os,s10,s12,rfl,ond,oin,ol⟩;refine⟨rfl,_,rfl,rfl,by decide,?_⟩;dsimp only;have tnd:(xs.take n1).Nodup:=nd.sublist (List.take_sublist _ _);have tl:(xs.take n1).length=n1:=by simp;omega
 refine aag (fun ρ=>∃ (al:List (Str×Str)) (s12 s13 s14:Sl),ρ=[.val (.raw (.ref d)),.val (.int a),.val (.int b),.val (.int m),.val (.int n1),.val (.int n2),.own (.lst (xs.map D.str)),s7,.own (.lst (gs.map encG)),s9,s10,.own (.lst (os.map D.str)),s12,s13,s14,.own (.lst (al.map encP))] /\ (al.map fun p=>p.1).Nodup/\(al.map fun p=>p.2).Nodup/\(∀ p∈al,p.1∈os/\p.2∈xs.take n1)/\al.length<=4) (fun N hN=>?_) ?_
 ·refine⟨rfl,d,c,_,rfl,rfl,by omega,by omega,fun k7 hk7=>⟨.inl rfl,rfl,rfl,_,rfl,rfl,rfl,_,rfl,fun q hq q1 q2 q3=>?_⟩⟩;have q3':q<=((cutD (xs.map D.str) none (some (n1:Int))).length:Nat):=q3;have q2':q<=((os.map D.str).length:Nat):=q2;rw[agg] at q3' ⊢;rw[List.length_map] at q3' q2';obtain⟨q,rfl⟩:∃ n:Nat,q=n:=⟨q.toNat,by rcases hq with z | z | z<;>omega⟩;refine⟨by omega,by omega,fun i ρ=>∃ (al:List (Str×Str)) (ol il:List Str) (s12:Sl),ρ=[.val (.raw (.ref d)),.val (.int a),.val (.int b),.val (.int m),.val (.int n1),.val (.int n2),.own (.lst (xs.map D.str)),s7,.own (.lst (gs.map encG)),s9,s10,.own (.lst (os.map D.str)),s12,.own (.lst (ol.map D.str)),.own (.lst (il.map D.str)),.own (.lst (al.map encP))] /\
   ((al.map fun p=>p.1)++ol).Nodup/\((al.map fun p=>p.2)++il).Nodup/\(∀ o∈(al.map fun p=>p.1)++ol,o∈os)/\(∀ o∈(al.map fun p=>p.2)++il,o∈xs.take n1)/\al.length=i/\ol.length+i=os.length/\il.length+i=(xs.take n1).length,
   ⟨[],os,xs.take n1,_,rfl,ond,tnd,fun o ho=>ho,fun o ho=>ho,rfl,by simp,by simp⟩,?_,?_⟩
  ·rintro i x ρ hx ⟨al,ol,il,s12,rfl,n1',n2',m1,m2,la,lo,li⟩;obtain⟨hi,rfl⟩:=agw hx;rw[Int.toNat_natCast] at hi;refine⟨rfl,rfl,rfl,rfl,_,rfl,d,c,_,rfl,rfl,(by show (0:Int)<((ol.map D.str).length:Nat);simp;omega),(by show ((ol.map D.str).length:Int)<1000000;simp;omega),fun j hj=>⟨.inr rfl,?_⟩⟩;have hj':j<ol.length:=by have:(j:Int)<((ol.map D.str).length:Nat):=hj;simp at this;omega
   obtain⟨y,hy⟩:∃ y,ol[j]?=some y:=⟨_,List.getElem?_eq_getElem hj'⟩;obtain⟨p1,p2,p3⟩:=agr hy n1';refine⟨j,.str y,by omega,by omega,(by show seqIndex? _ (ol.map D.str).length=_;rw[List.length_map];exact am4 hj'),(by show (ol.map D.str)[j]?=_;rw[List.getElem?_map,hy];rfl),?_⟩;refine⟨rfl,rfl,rfl,_,rfl,d,c,_,rfl,rfl,(by show (0:Int)<((il.map D.str).length:Nat);simp;omega),(by show ((il.map D.str).length:Int)<1000000;simp;omega),fun j2 hj2=>⟨.inr rfl,?_⟩⟩;have hj2':j2<il.length:=by have:(j2:Int)<((il.map D.str).length:Nat):=hj2;simp at this;omega
   obtain⟨y2,hy2⟩:∃ y,il[j2]?=some y:=⟨_,List.getElem?_eq_getElem hj2'⟩;obtain⟨p4,p5,p6⟩:=agr hy2 n2';refine⟨j2,.str y2,by omega,by omega,(by show seqIndex? _ (il.map D.str).length=_;rw[List.length_map];exact am4 hj2'),(by show (il.map D.str)[j2]?=_;rw[List.getElem?_map,hy2];rfl),(by show 2<=1000;decide),(by show (al.map encP).length<100000;simp;omega),al++[(y,y2)],ol.eraseIdx j,il.eraseIdx j2,.val (.int (0+(i:Int))),?_,by simpa using p1,by simpa using p4,fun o ho=>m1 o (p2 o (by simpa using ho)),fun o ho=>m2 o (p5 o (by simpa using ho)),by simp[la],by omega,by omega⟩;simp[encP,ahb]
  ·rintro ρ ⟨al,ol,il,s12,rfl,n1',n2',m1,m2,la,lo,li⟩;refine hN _ ⟨al,_,_,_,rfl,(List.nodup_append.mp n1').1,(List.nodup_append.mp n2').1,fun p hp=>⟨m1 _ (List.mem_append_left _ (List.mem_map.mpr ⟨p,hp,rfl⟩)),m2 _ (List.mem_append_left _ (List.mem_map.mpr ⟨p,hp,rfl⟩))⟩,?_⟩;rw[la];simp[afi];omega
 rintro ρ ⟨al,s12,s13,s14,rfl,n1',n2',am,la⟩;have fin:=hΦ ⟨xs.take n1,gs,os⟩ al ⟨⟨?_,?_,ok,fun o ho=>?_,ond,?_,?_,ol⟩,oin,n1',n2',am,la⟩
 ·unfold ak7 encC at fin;dsimp only at fin;rw[← agg] at fin;exact⟨rfl,rfl,rfl,(by show 3<=1000;decide),rfl,(by show 2<=1000;decide),fin⟩
 ·show (xs.take n1++gs.map (·.1)).Nodup;rw[hg,List.take_append_drop];exact nd
 ·intro x hx;have hx:x∈xs.take n1++gs.map (·.1):=hx;rw[hg,List.take_append_drop] at hx;exact gn x hx
 ·exact List.mem_append_right _ (oin o ho)
 ·show (xs.take n1).length<=6;omega
 ·show gs.length<=24;omega
end
theorem ajn:∀ {gs:Gts}{kn:List Str}{i:Nat}{g:Str×Str×List Str},aar kn gs->gs[i]?=some g->ArOk g.2.1 g.2.2.length/\∀ p∈g.2.2,p∈kn++(gs.take i).map (·.1)
 | a::r,kn,0,g,h,e=>by
  simp at e;subst e;exact⟨h.1,by simpa using h.2.1⟩
 | a::r,kn,i+1,g,h,e=>by
  obtain⟨h1,h2⟩:=ajn (gs:=r) (i:=i) h.2.2 (by simpa using e);exact⟨h1,fun p hp=>by have:=h2 p hp;simpa using this⟩
def au9:RD:=fun dk ds Φ=>∃ (d c:Addr) (xs:List D),dk=[d,c]/\ds=[.raw (.ref d),.lst xs]/\xs.length<=1000/\∀ ys,ys.Perm xs->Φ (.val (.lst ys))
def aee (z:Str):List Str:=(Txt.split z " ").filter fun x=>nb true (decide (x = ""))
def apq:RD:=fun dk ds Φ=>∃ z:Str,ds=[.str z]/\z.length<=1000/\(Txt.split z " ").length<=1000/\Φ (.own (.lst ((aee z).map D.str)))
structure Kit where
 ins:Str
 gates:List Str
 outs:Str
 pairs:Str
 nums:Str
def encK (k:Kit):D:=.tup [.str k.ins,.lst (k.gates.map D.str),.str k.outs,.str k.pairs,.str k.nums]
def acp:List Kit:=[⟨"a b c",[("s " : Str) ++ "odd a b c",("t " : Str) ++ "most a b c"],"s t","t c","a 1 b 1 s -1 c 1"⟩,⟨"a b c",["n not a","s odd a b c","t most n b c"],"s t","t c","a 1 b -1 s -1 c -1"⟩,⟨"a c",["s odd a c","t and a c"],"s t","t c","a 1 s -1 c 1"⟩,⟨"a c",["s and c c","t and a a"],"s t","t c","a 2 s -1 c 1"⟩,⟨"a",["s not a"],"s","","a 1 s 1 - -1"⟩,⟨"a b c",[("s " : Str) ++ "odd a b c",("t " : Str) ++ "most a b c"],"s t","","a 1 b 1 c 1 s -1 t -2"⟩,⟨"a c d",["s odd a d c","t most a d c","e and a a"],"s t e","t c e d","a 3 s -1 c 1 d 1"⟩,⟨"a b x c d",["s odd a b c","t most a b c","z odd s x d","u most s x d"],"z t u","t c u d","a 1 b 1 x 1 z -1 c 1 d 1"⟩,⟨"a",["s nil","t or a s"],"s t","","s 5 a -2 t 2"⟩,⟨"a b",["s and a b","t or a b"],"s t","","a 1 b 1 s -1 t -1"⟩]
def adz:D:=.tup [.str "odd a b c",.str "most a b c"]
def R_kit:RD:=fun dk ds Φ=>∃ d c:Addr,dk=[d,c]/\ds=[.raw (.ref d)]/\∀ k∈acp,Φ (.val (encK k))
theorem awg:(["word"]:List Str).Nodup:=by decide +kernel
section
variable {P:Program}{w:World}{K:PySem.W.Frag}{mg:Str->Option Value}{base:Heap}
theorem ada:FnScope ["deck","some","left","found"] ["deck","some"] (aaj abu):=⟨rfl,rfl,rfl,by decide +kernel,rfl,by decide +kernel,by decide +kernel⟩
theorem awc {f fT:Addr}{fd fdT:FuncData}(F:Fun K "_law_shuffled" "_law_shuffled" abu f fd) (T:Txt mg) (ax2:Gd K mg "_law_take" afe ["deck","many"] fT fdT) (ax4:FnOk P w K mg base CX0 1 fT fdT ["deck","many"] (spD K ag5)) :
  FnOk P w K mg base CX0 2 f fd ["deck","some"] (spD K au9):=by
 refine F.okD (k:=1) ada (fun dk ds Φ ⟨_,_,_,_,e,_⟩=>by rw[e];rfl) (by decide) fun cdv A outer s H E dk ds Φ hr hR=>?_
 have hu:=adt hr;obtain⟨d,c,xs,rfl,rfl,hl,hΦ⟩:=hR;refine⟨_,(aac (aa2 (i:=2) ada.nd rfl (Or.inl rfl) (aam af7 aqo (by rfl) T.list PyProof.Rows.boot_list (pa_k (pd_v 1 (pv 1)) pa_n))) (aac (aa2 (i:=3) ada.nd rfl (Or.inl rfl) (aa7 pa_n)) (aac (axk PassesOwn.never (acg (aut hr.units) (ar6 true) (pv 2) (aa7 pa_n)) (aau (acu (pd_w PySem.F.plainAttrs_list PySem.F.slot_list_append PySem.F.type_list_append aaw ac8 (pv 3) (pa_k (pd_w PySem.F.plainAttrs_list PySem.F.slot_list_pop PySem.F.type_list_pop afc am8 (pv 2) (pa_k (aal ax4 (hr.mono (by decide)) (by rfl) ax2.m ax2.k ax2.b (pa_k (pd_v 0 (pv 0)) (pa_k (aa3 abx aef (by rfl) T.len PySem.boot_len (pa_s (pv 2) pa_n)) pa_n))) pa_n)) pa_n))))) (aau (adc (pd_v 3 (pv 3))))))),?_⟩;refine⟨_,rfl,by show 0<=1000;decide,?_⟩;dsimp only;refine aag (fun ρ=>∃ (ys:List D),ρ=[.val (.raw (.ref d)),.val (.lst xs),.own (.lst []),.own (.lst ys)]/\ys.Perm xs) (fun N hN=>?_) ?_
 ·refine⟨fun ρ=>∃ left found:List D,ρ=[.val (.raw (.ref d)),.val (.lst xs),.own (.lst left),.own (.lst found)]/\(found++left).Perm xs,fun (ρ:List Sl)=>match ρ[2]? with | some (Sl.own (D.lst l))=>l.length | _=>0,⟨xs,[],rfl,.refl _⟩,?_⟩;rintro ρ ⟨left,found,rfl,hp⟩;have hlen:=hp.length_eq;rw[List.length_append] at hlen;refine⟨rfl,by show 0<=1000;decide,?_⟩;cases left with
  | nil=>exact hN _ ⟨found,rfl,by simpa using hp⟩
  | cons x left =>
   rw[List.length_cons] at hlen;refine⟨rfl,rfl,rfl,rfl,_,rfl,d,c,_,rfl,rfl,by show (0:Int)<((x::left).length:Nat);simp only[List.length_cons];omega,by show ((x::left).length:Int)<1000000;simp only[List.length_cons];omega,fun j hj=>⟨.inr rfl,?_⟩⟩;have hj':j<(x::left).length:=by have:(j:Int)<((x::left).length:Nat):=hj;omega
   obtain⟨y,hy⟩:∃ y,(x::left)[j]?=some y:=⟨_,List.getElem?_eq_getElem hj'⟩;have hl2:=List.length_eraseIdx_of_lt hj';refine⟨j,y,by simp only[List.length_cons] at hj';omega,by simp only[List.length_cons] at hj';omega,am4 hj',hy,by show found.length<100000;omega,⟨(x::left).eraseIdx j,found++[y],rfl,?_⟩,?_⟩
   ·rw[List.append_assoc];exact ((afr hy).symm.append_left found).trans hp
   ·show ((x::left).eraseIdx j).length<(x::left).length;omega
 ·rintro ρ ⟨ys,rfl,hp⟩;exact hΦ ys hp
theorem ala:FnScope ["text"] ["text"] (aaj acl):=⟨rfl,rfl,rfl,by decide +kernel,rfl,by decide +kernel,by decide +kernel⟩
theorem at9 {f:Addr}{fd:FuncData}(F:Fun K "_law_words" "_law_words" acl f fd) (T:Txt mg):FnOk P w K mg base CX0 1 f fd ["text"] (spD K apq):=by
 refine F.okD (k:=0) ala (fun dk ds Φ ⟨_,e,_⟩=>by rw[e];rfl) (by decide) fun cdv A outer s H E dk ds Φ hr hR=>?_
 have hu:=adt hr;obtain⟨z,rfl,hl,hl2,hΦ⟩:=hR;refine⟨_,(aau (adc (adf ["word"] [] [] rfl (i_v (pd_ms PySem.F.plainAttrs_str PySem.F.slot_str_split PySem.F.type_str_split as6 aum (pv 0) (pa_k aai pa_n))) rfl rfl (fun _ _ _ _ _=>(g_n (i:=0) awg rfl (Or.inl rfl))) (fun _ _ _ _ _=>(aqi (acg (aut hr.units) (ar6 true) (pv 0) aai))) (fun _ _ _ _ _=>(pd_v 0 (pv 0)))))),?_⟩;refine ao4 (Txt.split z " ") D.str D.str (fun x=>nb true (decide (x = ""))) [.val (.str z)] (fun Ψ h=>⟨rfl,by decide,by omega,h⟩) ?_ (fun i x ys Nx e h1 h2 h3=>⟨rfl,?_⟩) hΦ
 ·omega
 ·show if (nb true (decide (x = "")))=true then _ else _
  cases q:decide (x = "") with
  | true=>exact h3 (by rw[q];rfl)
  | false=>exact⟨h1,h2 (by rw[q];rfl)⟩
theorem adq:FnScope ["deck","adder","some","more"] ["deck"] (aaj adr):=⟨rfl,rfl,rfl,by decide +kernel,rfl,by decide +kernel,by decide +kernel⟩
set_option maxHeartbeats 2000000 in
theorem ok_kit {f fT:Addr}{fd fdT:FuncData}(F:Fun K "_law_kit" "_law_kit" adr f fd) (T:Txt mg) (ax2:Gd K mg "_law_take" afe ["deck","many"] fT fdT) (ax4:FnOk P w K mg base CX0 1 fT fdT ["deck","many"] (spD K ag5)) :
  FnOk P w K mg base CX0 2 f fd ["deck"] (spD K R_kit):=by
 refine F.okD (k:=1) adq (fun dk ds Φ ⟨_,_,_,e,_⟩=>by rw[e];rfl) (by decide) fun cdv A outer s H E dk ds Φ hr hR=>?_
 have hu:=adt hr;obtain⟨d,c,rfl,rfl,hΦ⟩:=hR;refine⟨_,(aac (aa2 (i:=1) adq.nd rfl (Or.inl rfl) (abj (pa_k aai (pa_k aai pa_n)))) (aac (aa2 (i:=2) adq.nd rfl (Or.inl rfl) (aa7 (pa_k (abj (pa_k aai (pa_k (aa7 (pa_k (afp abl ab8 aai (aao hu (pv 1) aae)) (pa_k (afp abl ab8 aai (aao hu (pv 1) aae)) pa_n))) (pa_k aai (pa_k aai (pa_k aai pa_n)))))) pa_n))) (aac (acu (pd_w PySem.F.plainAttrs_list PySem.F.slot_list_append PySem.F.type_list_append aaw ac8 (pv 2) (pa_k (abj (pa_k aai (pa_k (aa7 (pa_k aai (pa_k aai (pa_k aai pa_n)))) (pa_k aai (pa_k aai (pa_k aai pa_n)))))) pa_n))) (aac (acu (pd_w PySem.F.plainAttrs_list PySem.F.slot_list_append PySem.F.type_list_append aaw ac8 (pv 2) (pa_k (abj (pa_k aai (pa_k (aa7 (pa_k aai (pa_k aai pa_n))) (pa_k aai (pa_k aai (pa_k aai pa_n)))))) pa_n))) (aac (acu (pd_w PySem.F.plainAttrs_list PySem.F.slot_list_append PySem.F.type_list_append aaw ac8 (pv 2) (pa_k (abj (pa_k aai (pa_k (aa7 (pa_k aai (pa_k aai pa_n))) (pa_k aai (pa_k aai (pa_k aai pa_n)))))) pa_n))) (aac (acu (pd_w PySem.F.plainAttrs_list PySem.F.slot_list_append PySem.F.type_list_append aaw ac8 (pv 2) (pa_k (abj (pa_k aai (pa_k (aa7 (pa_k aai pa_n)) (pa_k aai (pa_k aai (pa_k aai pa_n)))))) pa_n))) (aac (acu (pd_w PySem.F.plainAttrs_list PySem.F.slot_list_append PySem.F.type_list_append aaw ac8 (pv 2) (pa_k (abj (pa_k aai (pa_k (aa7 (pa_k (afp abl ab8 aai (aao hu (pv 1) aae)) (pa_k (afp abl ab8 aai (aao hu (pv 1) aae)) pa_n))) (pa_k aai (pa_k aai (pa_k aai pa_n)))))) pa_n))) (aac (aa2 (i:=3) adq.nd rfl (Or.inl rfl) (aa7 (pa_k aai (pa_k aai (pa_k aai pa_n))))) (aac (acu (pd_w PySem.F.plainAttrs_list PySem.F.slot_list_append PySem.F.type_list_append aaw ac8 (pv 2) (pa_k (abj (pa_k aai (pa_k (pd_v 3 (pv 3)) (pa_k aai (pa_k aai (pa_k aai pa_n)))))) pa_n))) (aac (aa2 (i:=3) adq.nd rfl (Or.inl rfl) (aa7 (pa_k aai (pa_k aai (pa_k aai (pa_k aai pa_n)))))) (aac (acu (pd_w PySem.F.plainAttrs_list PySem.F.slot_list_append PySem.F.type_list_append aaw ac8 (pv 2) (pa_k (abj (pa_k aai (pa_k (pd_v 3 (pv 3)) (pa_k aai (pa_k aai (pa_k aai pa_n)))))) pa_n))) (aac (acu (pd_w PySem.F.plainAttrs_list PySem.F.slot_list_append PySem.F.type_list_append aaw ac8 (pv 2) (pa_k (abj (pa_k aai (pa_k (aa7 (pa_k aai (pa_k aai pa_n))) (pa_k aai (pa_k aai (pa_k aai pa_n)))))) pa_n))) (aac (acu (pd_w PySem.F.plainAttrs_list PySem.F.slot_list_append PySem.F.type_list_append aaw ac8 (pv 2) (pa_k (abj (pa_k aai (pa_k (aa7 (pa_k aai (pa_k aai pa_n))) (pa_k aai (pa_k aai (pa_k aai pa_n)))))) pa_n))) (aau (adc (aao hu (pv 2) (aal ax4 (hr.mono (by decide)) (by rfl) ax2.m ax2.k ax2.b (pa_k (pd_v 0 (pv 0)) (pa_k aae pa_n))))))))))))))))))),?_⟩;refine aag (fun ρ=>ρ=[.val (.raw (.ref d)),.val adz,.no,.no]) (fun N hN=>⟨(by show 2<=1000;decide),hN _ rfl⟩) ?_;rintro _ rfl;refine aag (fun ρ=>ρ=[.val (.raw (.ref d)),.val adz,.own (.lst ((acp.take 1).map encK)),.no]) (fun N hN=>⟨rfl,_,rfl,(by decide +kernel),rfl,_,rfl,(by decide +kernel),(by show 2<=1000;decide),(by show 5<=1000;decide),(by show 1<=1000;decide),hN _ rfl⟩) ?_;rintro _ rfl;refine aag (fun ρ=>ρ=[.val (.raw (.ref d)),.val adz,.own (.lst ((acp.take 2).map encK)),.no]) (fun N hN=>⟨rfl,(by show 3<=1000;decide),(by show 5<=1000;decide),(by show 1<100000;decide),hN _ rfl⟩) ?_;rintro _ rfl;refine aag (fun ρ=>ρ=[.val (.raw (.ref d)),.val adz,.own (.lst ((acp.take 3).map encK)),.no]) (fun N hN=>⟨rfl,(by show 2<=1000;decide),(by show 5<=1000;decide),(by show 2<100000;decide),hN _ rfl⟩) ?_;rintro _ rfl;refine aag (fun ρ=>ρ=[.val (.raw (.ref d)),.val adz,.own (.lst ((acp.take 4).map encK)),.no]) (fun N hN=>⟨rfl,(by show 2<=1000;decide),(by show 5<=1000;decide),(by show 3<100000;decide),hN _ rfl⟩) ?_;rintro _ rfl;refine aag (fun ρ=>ρ=[.val (.raw (.ref d)),.val adz,.own (.lst ((acp.take 5).map encK)),.no]) (fun N hN=>⟨rfl,(by show 1<=1000;decide),(by show 5<=1000;decide),(by show 4<100000;decide),hN _ rfl⟩) ?_;rintro _ rfl;refine aag (fun ρ=>ρ=[.val (.raw (.ref d)),.val adz,.own (.lst ((acp.take 6).map encK)),.no]) (fun N hN=>⟨rfl,rfl,_,rfl,(by decide +kernel),rfl,_,rfl,(by decide +kernel),(by show 2<=1000;decide),(by show 5<=1000;decide),(by show 5<100000;decide),hN _ rfl⟩) ?_;rintro _ rfl;refine aag (fun ρ=>ρ=[.val (.raw (.ref d)),.val adz,.own (.lst ((acp.take 6).map encK)),.own (.lst [.str "s odd a d c",.str "t most a d c",.str "e and a a"])]) (fun N hN=>⟨(by show 3<=1000;decide),hN _ rfl⟩) ?_;rintro _ rfl;refine aag (fun ρ=>ρ=[.val (.raw (.ref d)),.val adz,.own (.lst ((acp.take 7).map encK)),.val (.lst [.str "s odd a d c",.str "t most a d c",.str "e and a a"])]) (fun N hN=>⟨rfl,(by show 5<=1000;decide),(by show 6<100000;decide),hN _ rfl⟩) ?_;rintro _ rfl;refine aag (fun ρ=>ρ=[.val (.raw (.ref d)),.val adz,.own (.lst ((acp.take 7).map encK)),.own (.lst [.str "s odd a b c",.str "t most a b c",.str "z odd s x d",.str "u most s x d"])]) (fun N hN=>⟨(by show 4<=1000;decide),hN _ rfl⟩) ?_;rintro _ rfl;refine aag (fun ρ=>ρ=[.val (.raw (.ref d)),.val adz,.own (.lst ((acp.take 8).map encK)),.val (.lst [.str "s odd a b c",.str "t most a b c",.str "z odd s x d",.str "u most s x d"])]) (fun N hN=>⟨rfl,(by show 5<=1000;decide),(by show 7<100000;decide),hN _ rfl⟩) ?_;rintro _ rfl;refine aag (fun ρ=>ρ=[.val (.raw (.ref d)),.val adz,.own (.lst ((acp.take 9).map encK)),.val (.lst [.str "s odd a b c",.str "t most a b c",.str "z odd s x d",.str "u most s x d"])]) (fun N hN=>⟨rfl,(by show 2<=1000;decide),(by show 5<=1000;decide),(by show 8<100000;decide),hN _ rfl⟩) ?_;rintro _ rfl;refine aag (fun ρ=>ρ=[.val (.raw (.ref d)),.val adz,.own (.lst ((acp.take 10).map encK)),.val (.lst [.str "s odd a b c",.str "t most a b c",.str "z odd s x d",.str "u most s x d"])]) (fun N hN=>⟨rfl,(by show 2<=1000;decide),(by show 5<=1000;decide),(by show 9<100000;decide),hN _ rfl⟩) ?_;rintro _ rfl;refine⟨rfl,d,c,10,rfl,rfl,by decide,by decide,fun r hr'=>⟨.inl rfl,?_⟩⟩;have hr2:r<10:=by omega
 obtain⟨k,hk⟩:∃ k,acp[r]?=some k:=⟨_,List.getElem?_eq_getElem (by show r<10;exact hr2)⟩;refine⟨encK k,?_,hΦ k (List.mem_of_getElem? hk)⟩;exact aa9 (by rw[List.getElem?_map,List.take_of_length_le (by decide),hk];rfl)
end
def tri (l:List Str):Str×Str×List Str:=(l.headD "",(l.drop 1).headD "",l.drop 2)
def arB (w:Str) (n:Nat):Bool:=(decide (w∈two3)&&(n == 2||n == 3))||((w == "most")&&(n == 3))||((w == "not")&&(n == 1))||((w == "one")&&(n == 0))||((w == "nil")&&(n == 0))
theorem arB_ok {w:Str}{n:Nat}(h:arB w n=true):ArOk w n:=by
 unfold arB at h;simp only[Bool.or_eq_true,Bool.and_eq_true,decide_eq_true_eq,beq_iff_eq] at h;rcases h with (((h | h) | h) | h) | h
 ·exact⟨.inl h⟩
 ·exact⟨.inr (.inl h)⟩
 ·exact⟨.inr (.inr (.inl h))⟩
 ·exact⟨.inr (.inr (.inr (.inl h)))⟩
 ·exact⟨.inr (.inr (.inr (.inr h)))⟩
def ann:List Str->Gts->Bool
 | _,[]=>true
 | kn,g::r=>arB g.2.1 g.2.2.length&&(g.2.2.all (fun p=>decide (p∈kn))&&ann (kn++[g.1]) r)
theorem akg:∀ {gs:Gts}{kn:List Str},ann kn gs=true->aar kn gs
 | [],_,_=>trivial
 | g::r,kn,h=>by
  unfold ann at h;simp only[Bool.and_eq_true,List.all_eq_true,decide_eq_true_eq] at h;exact⟨arB_ok h.1,h.2.1,akg h.2.2⟩
theorem aar.more:∀ {gs:Gts}{kn kn':List Str},(∀ x∈kn,x∈kn')->aar kn gs->aar kn' gs
 | [],_,_,_,_=>trivial
 | g::r,kn,kn',h,ok=>⟨ok.1,fun p hp=>h p (ok.2.1 p hp),aar.more (fun x hx=>by
  rcases List.mem_append.mp hx with q | q
  ·exact List.mem_append_left _ (h x q)
  ·exact List.mem_append_right _ q) ok.2.2⟩
def ren (f:Str->Str) (g:Str×Str×List Str):Str×Str×List Str:=(f g.1,g.2.1,g.2.2.map f)
theorem aar.ren (f:Str->Str):∀ {gs:Gts}{kn:List Str},aar kn gs->aar (kn.map f) (gs.map (Lw.ren f))
 | [],_,_=>trivial
 | g::r,kn,ok=>by
  refine⟨by show ArOk g.2.1 (g.2.2.map f).length;rw[List.length_map];exact ok.1,fun p hp=>?_,?_⟩
  ·obtain⟨q,hq,rfl⟩:=List.mem_map.mp hp;exact List.mem_map.mpr ⟨q,ok.2.1 q hq,rfl⟩
  ·have:=aar.ren f ok.2.2;rw[List.map_append] at this;exact this
theorem aar.app:∀ {gs hs:Gts}{kn:List Str},aar kn gs->aar (kn++gs.map (·.1)) hs->aar kn (gs++hs)
 | [],hs,kn,_,h=>by simpa using h
 | g::r,hs,kn,ok,h=>⟨ok.1,ok.2.1,aar.app ok.2.2 (by simpa using h)⟩
def kI (k:Kit):List Str:=aee k.ins
def kO (k:Kit):List Str:=aee k.outs
def kP (k:Kit):List Str:=aee k.pairs
def kN (k:Kit):List Str:=aee k.nums
def kG (k:Kit):List (List Str):=k.gates.map aee
def kH (k:Kit):List Str:=(kG k).map fun l=>(tri l).1
def kitB (k:Kit):Bool :=
 (k.ins::k.outs::k.pairs::k.nums::k.gates).all (fun z=>decide (z.length<=1000)&&decide ((Txt.split z " ").length<=1000)) &&
 ((kG k).all (fun l=>decide (2<=l.length)) && (decide ((kI k++kH k).Nodup) && ((kI k++kH k).all (fun x=>decide (x.length=1)&&decide (x ≠ "-")) && (ann (kI k) ((kG k).map tri) && ((kO k).all (fun o=>decide (o∈kH k)) && (decide (kO k).Nodup && (decide ((kP k).length%2=0) && ((aa1 (kP k)).all (fun p=>decide (p.1∈kO k)&&decide (p.2∈kI k)) && (decide ((aa1 (kP k)).map (·.1)).Nodup && (decide ((aa1 (kP k)).map (·.2)).Nodup && (decide ((kN k).length%2=0) && ((aa1 (kN k)).all (fun p=>(decide (p.1∈kI k++kH k)||decide (p.1 = "-"))&&((intText? p.2).isSome&&decide (p.2.length<=640))) && (decide ((kI k).length<=5)&&(decide ((kG k).length<=4)&&(decide ((kO k).length<=3)&&(decide ((kP k).length<=8)&&decide ((kN k).length<=100)))))))))))))))))
structure KitOk (k:Kit):Prop where
 tx:∀ z∈k.ins::k.outs::k.pairs::k.nums::k.gates,z.length<=1000/\(Txt.split z " ").length<=1000
 g2:∀ l∈kG k,2<=l.length
 nd:(kI k++kH k).Nodup
 one:∀ x∈kI k++kH k,x.length=1/\x ≠ "-"
 gt:aar (kI k) ((kG k).map tri)
 oh:∀ o∈kO k,o∈kH k
 ond:(kO k).Nodup
 pe:(kP k).length%2=0
 pm:∀ p∈aa1 (kP k),p.1∈kO k/\p.2∈kI k
 p1:((aa1 (kP k)).map (·.1)).Nodup
 p2:((aa1 (kP k)).map (·.2)).Nodup
 ne:(kN k).length%2=0
 nm:∀ p∈aa1 (kN k),(p.1∈kI k++kH k\/p.1 = "-")/\(intText? p.2).isSome=true/\p.2.length<=640
 li:(kI k).length<=5
 lg:(kG k).length<=4
 lo:(kO k).length<=3
 lp:(kP k).length<=8
 ln:(kN k).length<=100
set_option maxHeartbeats 4000000 in
theorem kits_B:acp.all kitB=true:=by decide +kernel
theorem av3 {k:Kit}(h:k∈acp):KitOk k:=by
 have:=List.all_eq_true.mp kits_B k h;unfold kitB at this;simp only[Bool.and_eq_true,List.all_eq_true,decide_eq_true_eq,Bool.or_eq_true] at this;obtain⟨a1,a2,a3,a4,a5,a6,a7,a8,a9,b1,b2,b3,b4,b5,b6,b7,b8,b9⟩:=this;exact⟨a1,a2,a3,a4,akg a5,a6,a7,a8,a9,b1,b2,b3,b4,b5,b6,b7,b8,b9⟩
def idn (i:Nat):Str:=("i" : Str)++((toString ((0:Int)+(i:Int)):String):Str)
def adm (w0:Str) (i:Nat):List Str:=if i=0 then [idn 0,w0] else [idn i,"not",idn 0]
theorem afb:∀ i<19,(idn i).length≠1/\idn i ≠ "-" /\ ∀ j<19,idn i=idn j->i=j:=by decide +kernel
theorem ap2 (w0:Str) (i:Nat):(tri (adm w0 i)).1=idn i:=by
 unfold adm;split
 ·subst_vars;rfl
 ·rfl
theorem ig_two (w0:Str) (i:Nat):2<=(adm w0 i).length:=by unfold adm;split<;>simp
theorem ig_ok {w0:Str}(h:w0 = "one" \/ w0 = "nil") (kn:List Str):∀ n,aar kn (((List.range n).map (adm w0)).map tri)
 | 0=>trivial
 | n+1=>by
  rw[List.range_succ,List.map_append,List.map_append];refine aar.snoc (ig_ok h kn n) ?_ ?_
  ·by_cases e:n=0
   ·subst e;rcases h with rfl | rfl
    ·exact⟨.inr (.inr (.inr (.inl ⟨rfl,rfl⟩)))⟩
    ·exact⟨.inr (.inr (.inr (.inr ⟨rfl,rfl⟩)))⟩
   ·unfold adm;rw[if_neg e];exact⟨.inr (.inr (.inl ⟨rfl,rfl⟩))⟩
  ·intro p hp;by_cases e:n=0
   ·subst e;simp[tri,adm] at hp
   ·have hp':p=idn 0:=by
     unfold adm at hp;rw[if_neg e] at hp
     simpa [tri] using hp
    subst hp';refine List.mem_append_right _ ?_;rw[List.map_map,List.map_map];refine List.mem_map.mpr ⟨0,List.mem_range.mpr (by omega),ap2 w0 0⟩
def encL (l:List Str):D:=.lst (l.map D.str)
theorem getS {t:TabS}{x:Str}(h:x∈t.map (·.1)):ao3 (.dK (encS t)) (.str x)=some (some (.str (nmOf t x))):=by
 show some (valD (encS t) (Sum.inr x))=_;rw[(valS t x).1 h]
theorem alu {l:List Str}(h:2<=l.length):atI (l.map D.str) 0=some (.str (tri l).1)/\atI (l.map D.str) 1=some (.str (tri l).2.1):=by
 match l,h with
 | a::b::r,_ =>
  constructor
  ·exact aa9 (j:=0) rfl
  ·exact aa9 (j:=1) rfl
theorem aj4:∀ {xs:List Str}{ys:List D},ys.Perm (xs.map D.str)->∃ zs:List Str,zs.Perm xs/\ys=zs.map D.str:=by
 intro xs ys h;have key:∀ (ys:List D),(∀ y∈ys,∃ x:Str,y=D.str x)->∃ zs:List Str,ys=zs.map D.str:=by
  intro ys;induction ys with
  | nil=>exact fun _=>⟨[],rfl⟩
  | cons y ys ih =>
   intro h;obtain⟨x,rfl⟩:=h y List.mem_cons_self;obtain⟨zs,rfl⟩:=ih fun z hz=>h z (List.mem_cons_of_mem _ hz)
   exact⟨x::zs,rfl⟩
 obtain⟨zs,rfl⟩:=key ys fun y hy=>by
  obtain⟨x,_,rfl⟩:=List.mem_map.mp (h.mem_iff.mp hy);exact⟨x,rfl⟩
 refine⟨zs,?_,rfl⟩;have:=h.map (fun d=>match d with | D.str x=>x | _=>("" : Str))
 simpa [Function.comp_def] using this
theorem ao0 {xs:List (Str×Str)}{ys:List D}(h:ys.Perm (xs.map encP)):∃ zs:List (Str×Str),zs.Perm xs/\ys=zs.map encP:=by
 have key:∀ (ys:List D),(∀ y∈ys,∃ x:Str×Str,y=encP x)->∃ zs:List (Str×Str),ys=zs.map encP:=by
  intro ys;induction ys with
  | nil=>exact fun _=>⟨[],rfl⟩
  | cons y ys ih =>
   intro h;obtain⟨x,rfl⟩:=h y List.mem_cons_self;obtain⟨zs,rfl⟩:=ih fun z hz=>h z (List.mem_cons_of_mem _ hz)
   exact⟨x::zs,rfl⟩
 obtain⟨zs,rfl⟩:=key ys fun y hy=>by
  obtain⟨x,_,rfl⟩:=List.mem_map.mp (h.mem_iff.mp hy);exact⟨x,rfl⟩
 refine⟨zs,?_,rfl⟩;have:=h.map (fun d=>match d with | D.tup [D.str x,D.str y]=>(x,y) | _=>(("" : Str),("" : Str)))
 simpa [Function.comp_def,encP] using this
theorem atb {α β:Type}(l:List α) (d:α) (h:α->β):(List.range l.length).map (fun i=>h (l.getD i d))=l.map h:=by
 apply List.ext_getElem?;intro i;rw[List.getElem?_map,List.getElem?_map];by_cases hi:i<l.length
 ·rw[List.getElem?_range hi,List.getElem?_eq_getElem hi];simp[List.getD,List.getElem?_eq_getElem hi]
 ·rw[List.getElem?_eq_none (by simpa using hi),List.getElem?_eq_none (by omega)];rfl
theorem asx (f:Nat->D) (n:Nat):cutD ((List.range n).map f) (some (-1)) none=if n=0 then [] else [f (n-1)]:=by
 unfold cutD;rw[HT.sIx_none,List.length_map,List.length_range];have e:HT.sIx n 0 (some (-1))=n-1:=by
  show (if (-1:Int)<0 then ((-1:Int)+(n:Int)).toNat else min (-1:Int).toNat n)=n-1;rw[if_pos (by decide)];omega
 rw[e];split
 ·subst_vars;rfl
 ·obtain⟨m,rfl⟩:∃ m,n=m+1:=⟨n-1,by omega⟩;rw[List.range_succ,List.map_append,Nat.add_sub_cancel,List.drop_left' (by simp)];simp
theorem axy {κ:Type} [DecidableEq κ] (kvs:List (κ×D)) (k:κ) (d:D):(putD kvs k d).length<=kvs.length+1:=by
 unfold putD;split
 ·simp
 ·simp
theorem akf:∀ i<19,((0:Int)+(i:Nat)).natAbs.log2<1920/\("i" : Str).length+((toString ((0:Int)+(i:Nat)):String):Str).length<=100000:=by decide +kernel
theorem aty {n:Nat}{caps:List Nat}{g:TGd}{te:TEd}{dk:List Addr}{Φ:Sl->List Sl->Prop}{α:Type}(xs:List α) (enc out:α->D) (ρ1:List Sl) (hl:xs.length<=100000)
  (hs:∀ (i:Nat) x (ys:List D) (Nx:List D->List Sl->Prop),xs[i]?=some x->ys.length<100000->Nx (ys++[out x]) (capS caps ρ1)->g (enc x) (List.replicate n Sl.no++capS caps ρ1) fun ρ2=>te dk ρ2 fun r ρ4=>match sd r with
   | some c=>ys.length<100000/\Nx (ys++[c]) (ρ4.drop n)
   | none=>False)
  (hΦ:Φ (.own (.lst (xs.map out))) (adi caps (capS caps ρ1) ρ1)):∃ Pv:Nat->List D->List Sl->Prop,Pv 0 [] (capS caps ρ1) /\
   (∀ i d ys cs,(xs.map enc)[i]?=some d->cs.length=caps.length->Pv i ys cs->g d (List.replicate n Sl.no++cs) fun ρ2=>yesD dk ρ2 fun b ρ3=>if b=true then te dk ρ3 fun r ρ4=>match sd r with
    | some c=>ys.length<100000/\Pv (i+1) (ys++[c]) (ρ4.drop n)
    | none=>False
    else Pv (i+1) ys (ρ3.drop n)) /\
   ∀ ys cs,cs.length=caps.length->Pv (xs.map enc).length ys cs->Φ (.own (.lst ys)) (adi caps cs ρ1) :=
 acs (ι:=fun _ _ Ψ=>Ψ (xs.map enc) ρ1) (dk:=dk) (ρ:=[]) xs enc out ρ1 (fun Ψ h=>h) hl hs hΦ
def avd:RD:=fun dk ds Φ=>∃ (d c:Addr) (k:Kit),dk=[d,c]/\ds=[.raw (.ref d),encK k]/\k∈acp/\∀ C al kvs,GoodRow C al->Φ (.own (.lst [ak7 C al,.dK kvs]))
abbrev mrow (d:Addr) (k:Kit) (s2 s3 s4 s5 s6 s7 s8 s9 s10 s11 s12 s13 s14:Sl):List Sl:=[.val (.raw (.ref d)),.val (encK k),s2,s3,s4,s5,s6,s7,s8,s9,s10,s11,s12,s13,s14]
theorem setS {t:TabS}{x n:Str}(h:x∉t.map (·.1)) (hl:t.length<100000):setD (.dK (encS t)) (.str x) (.str n)=some (.dK (encS (t++[(x,n)]))):=by
 simp only[setD,if_pos (show (encS t).length<100000 by simpa [encS] using hl)];show some (D.dK (putD (encS t) (Sum.inr x) (.str n)))=_;rw[putS h]
abbrev sl (xs:List Str):D:=.lst (xs.map D.str)
def idl (n:Nat):List D:=(List.range n).map fun i=>D.str (idn i)
theorem nd_k:(["k"]:List Str).Nodup:=by decide +kernel
theorem aw2:(["text"]:List Str).Nodup:=by decide +kernel
theorem axm:(["gate"]:List Str).Nodup:=by decide +kernel
theorem ai3:(["gate","names"]:List Str).Nodup:=by decide +kernel
theorem aek:(["one","names"]:List Str).Nodup:=by decide +kernel
theorem agf:(["k","names","pairs"]:List Str).Nodup:=by decide +kernel
section
variable {P:Program}{w:World}{K:PySem.W.Frag}{mg:Str->Option Value}{base:Heap}
theorem aaq:FnScope ["deck","kit","ins","outs","pairs","numbers","idle","gates","name","own","names","rows","along","weights","k"] ["deck","kit"] (aaj ac5):=⟨rfl,rfl,rfl,by decide +kernel,rfl,by decide +kernel,by decide +kernel⟩
set_option maxHeartbeats 4000000 in
theorem av9 {f fT fN fS fW:Addr}{fd fdT fdN fdS fdW:FuncData}(F:Fun K "_law_made" "_law_made" ac5 f fd) (T:Txt mg) (ax2:Gd K mg "_law_take" afe ["deck","many"] fT fdT) (ax9:Gd K mg "_law_names" ahh ["deck","many"] fN fdN)
  (ax7:Gd K mg "_law_shuffled" abu ["deck","some"] fS fdS) (ax5:Gd K mg "_law_words" acl ["text"] fW fdW)
  (ax4:FnOk P w K mg base CX0 1 fT fdT ["deck","many"] (spD K ag5)) (ayw:FnOk P w K mg base CX0 3 fN fdN ["deck","many"] (spD K als))
  (ays:FnOk P w K mg base CX0 2 fS fdS ["deck","some"] (spD K au9)) (ayp:FnOk P w K mg base CX0 1 fW fdW ["text"] (spD K apq)) :
  FnOk P w K mg base CX0 4 f fd ["deck","kit"] (spD K avd):=by
 refine F.okD (k:=3) aaq (fun dk ds Φ ⟨_,_,_,_,e,_⟩=>by rw[e];rfl) (by decide) fun cdv A outer s H E dk ds Φ hr hR=>?_
 have hu:=adt hr;obtain⟨d,c,k,rfl,rfl,hk,hΦ⟩:=hR;have KO:=av3 hk;have tx:=KO.tx;refine⟨_,(aac (aa2 (i:=2) aaq.nd rfl (Or.inl rfl) (aal ayp (hr.mono (by decide)) (by rfl) ax5.m ax5.k ax5.b (pa_k (aao hu (pv 1) aae) pa_n))) (aac (aa2 (i:=3) aaq.nd rfl (Or.inl rfl) (aal ayp (hr.mono (by decide)) (by rfl) ax5.m ax5.k ax5.b (pa_k (aao hu (pv 1) aae) pa_n))) (aac (aa2 (i:=4) aaq.nd rfl (Or.inr rfl) (aal ayp (hr.mono (by decide)) (by rfl) ax5.m ax5.k ax5.b (pa_k (aao hu (pv 1) aae) pa_n))) (aac (aa2 (i:=5) aaq.nd rfl (Or.inl rfl) (aal ayp (hr.mono (by decide)) (by rfl) ax5.m ax5.k ax5.b (pa_k (aao hu (pv 1) aae) pa_n))) (aac (aha (i:=6) ["k"] [] [] aaq.nd rfl (Or.inl rfl) rfl (i_r1 (by rfl) T.range (ag1 hu (aa7 (pa_k aae (pa_k aae (pa_k aae (pa_k (aal ax4 (hr.mono (by decide)) (by rfl) ax2.m ax2.k ax2.b (pa_k (pd_v 0 (pv 0)) (pa_k aae pa_n))) pa_n))))) (aal ax4 (hr.mono (by decide)) (by rfl) ax2.m ax2.k ax2.b (pa_k (pd_v 0 (pv 0)) (pa_k aae pa_n))))) rfl rfl (fun _ _ _ _ _=>(g_n (i:=0) nd_k rfl (Or.inl rfl))) (fun _ _ _ _ _=>adh) (fun _ _ _ _ _=>(afp abl ab8 aai (aam akh cd_str (by rfl) T.str PyProof.Rows.boot_str (pa_k (pd_v 0 (pv 0)) pa_n))))) (aac (aa2 (i:=7) aaq.nd rfl (Or.inl rfl) (aa7 pa_n)) (aac (afj (m:=99) PassesOwn.never rfl (i_v (pd_v 6 (pv 6))) (g_n (i:=8) aaq.nd rfl (Or.inl rfl)) (aau (acu (pd_w PySem.F.plainAttrs_list PySem.F.slot_list_append PySem.F.type_list_append aaw ac8 (pv 7) (pa_k (ag1 hu (aa7 (pa_k (aa7 (pa_k (pd_v 8 (pv 8)) (pa_k (ag1 hu (aa7 (pa_k aai (pa_k aai pa_n))) (aal ax4 (hr.mono (by decide)) (by rfl) ax2.m ax2.k ax2.b (pa_k (pd_v 0 (pv 0)) (pa_k aae pa_n)))) pa_n))) (pa_k (afp abl ab8 (aa7 (pa_k (pd_v 8 (pv 8)) (pa_k aai pa_n))) (af3 aga aki (pv 6) po_n (po_s aae))) pa_n))) (aam aj2 apf (by rfl) T.int PyProof.Rows.boot_int (pa_k (pd_cmp op_gt od_gt (aa3 abx aef (by rfl) T.len PySem.boot_len (pa_s (pv 7) pa_n)) aae) pa_n))) pa_n))))) (aac (aa2 (i:=3) aaq.nd rfl (Or.inl rfl) (adp abl ab8 (pv 3) (afp ajv apz (af3 aga aki (pv 6) (po_s (pd_neg aae)) po_n) (aal ax4 (hr.mono (by decide)) (by rfl) ax2.m ax2.k ax2.b (pa_k (pd_v 0 (pv 0)) (pa_k aae pa_n)))))) (aac (aa2 (i:=7) aaq.nd rfl (Or.inl rfl) (adp abl ab8 (pv 7) (adf ["text"] [] [] rfl (i_v (aao hu (pv 1) aae)) rfl rfl (fun _ _ _ _ _=>(g_n (i:=0) aw2 rfl (Or.inl rfl))) (fun _ _ _ _ _=>adh) (fun _ _ _ _ _=>(aal ayp (hr.mono (by decide)) (by rfl) ax5.m ax5.k ax5.b (pa_k (pd_v 0 (pv 0)) pa_n)))))) (aac (aa2 (i:=9) aaq.nd rfl (Or.inl rfl) (adp abl ab8 (pv 2) (adf ["gate"] [] [] rfl (i_v (pd_v 7 (pv 7))) rfl rfl (fun _ _ _ _ _=>(g_n (i:=0) axm rfl (Or.inl rfl))) (fun _ _ _ _ _=>adh) (fun _ _ _ _ _=>(aao hu (pv 0) aae))))) (aac (aa2 (i:=10) aaq.nd rfl (Or.inr rfl) (awj rfl (by rfl) T.dict (by rfl) T.zip (pa_k (pd_v 9 (pv 9)) (pa_k (aal ayw (hr.mono (by decide)) (by rfl) ax9.m ax9.k ax9.b (pa_k (pd_v 0 (pv 0)) (pa_k (aa3 abx aef (by rfl) T.len PySem.boot_len (pa_k (pd_v 9 (pv 9)) pa_n)) pa_n))) pa_n)))) (aac (aha (i:=11) ["gate"] ["names"] [10] aaq.nd rfl (Or.inl rfl) rfl (i_v (pd_v 7 (pv 7))) rfl rfl (fun _ _ _ _ _=>(g_n (i:=0) ai3 rfl (Or.inl rfl))) (fun _ _ _ _ _=>adh) (fun _ _ _ _ _=>(abj (pa_k (aao hu (pv 1) (aao hu (pv 0) aae)) (pa_k (aao hu (pv 0) aae) (pa_k (aam aax aew (by rfl) T.tuple PyProof.Rows.boot_tuple (pa_k (adf ["one"] ["names"] [1] rfl (i_v (af3 aga aki (pv 0) (po_s aae) po_n)) rfl rfl (fun _ _ _ _ _=>(g_n (i:=0) aek rfl (Or.inl rfl))) (fun _ _ _ _ _=>adh) (fun _ _ _ _ _=>(aao hu (pv 1) (pd_v 0 (pv 0))))) pa_n)) pa_n)))))) (aac (aha (i:=2) ["one"] ["names"] [10] aaq.nd rfl (Or.inl rfl) rfl (i_v (aal ays (hr.mono (by decide)) (by rfl) ax7.m ax7.k ax7.b (pa_k (pd_v 0 (pv 0)) (pa_k (pd_v 2 (pv 2)) pa_n)))) rfl rfl (fun _ _ _ _ _=>(g_n (i:=0) aek rfl (Or.inl rfl))) (fun _ _ _ _ _=>adh) (fun _ _ _ _ _=>(aao hu (pv 1) (pd_v 0 (pv 0))))) (aac (aha (i:=3) ["one"] ["names"] [10] aaq.nd rfl (Or.inl rfl) rfl (i_v (aal ays (hr.mono (by decide)) (by rfl) ax7.m ax7.k ax7.b (pa_k (pd_v 0 (pv 0)) (pa_k (pd_v 3 (pv 3)) pa_n)))) rfl rfl (fun _ _ _ _ _=>(g_n (i:=0) aek rfl (Or.inl rfl))) (fun _ _ _ _ _=>adh) (fun _ _ _ _ _=>(aao hu (pv 1) (pd_v 0 (pv 0))))) (aac (aha (i:=12) ["k"] ["names","pairs"] [10,4] aaq.nd rfl (Or.inl rfl) rfl (i_r3 (by rfl) T.range aae (aa3 abx aef (by rfl) T.len PySem.boot_len (pa_k (pd_v 4 (pv 4)) pa_n)) aae) rfl rfl (fun _ _ _ _ _=>(g_n (i:=0) agf rfl (Or.inl rfl))) (fun _ _ _ _ _=>adh) (fun _ _ _ _ _=>(abj (pa_k (aao hu (pv 1) (aao hu (pv 2) (pd_v 0 (pv 0)))) (pa_k (aao hu (pv 1) (aao hu (pv 2) (adp abl ab8 (pv 0) aae))) pa_n))))) (aac (ar9 (n:=10) hu aai (pv 10) aai) (aac (aa2 (i:=13) aaq.nd rfl (Or.inl rfl) pd_new) (aac (afj (m:=99) PassesOwn.never rfl (i_r3 (by rfl) T.range aae (aa3 abx aef (by rfl) T.len PySem.boot_len (pa_k (pd_v 5 (pv 5)) pa_n)) aae) (g_n (i:=14) aaq.nd rfl (Or.inl rfl)) (aau (ar9 (n:=13) hu (aam aj2 apf (by rfl) T.int PyProof.Rows.boot_int (pa_k (aao hu (pv 5) (adp abl ab8 (pv 14) aae)) pa_n)) (pv 13) (aao hu (pv 10) (aao hu (pv 5) (pd_v 14 (pv 14))))))) (aau (adc (aa7 (pa_k (abj (pa_k (abj (pa_k (aam aax aew (by rfl) T.tuple PyProof.Rows.boot_tuple (pa_k (pd_v 2 (pv 2)) pa_n)) (pa_k (aam aax aew (by rfl) T.tuple PyProof.Rows.boot_tuple (pa_k (pd_v 11 (pv 11)) pa_n)) (pa_k (aam aax aew (by rfl) T.tuple PyProof.Rows.boot_tuple (pa_k (pd_v 3 (pv 3)) pa_n)) pa_n)))) (pa_k (aam aax aew (by rfl) T.tuple PyProof.Rows.boot_tuple (pa_k (aal ays (hr.mono (by decide)) (by rfl) ax7.m ax7.k ax7.b (pa_k (pd_v 0 (pv 0)) (pa_k (pd_v 12 (pv 12)) pa_n))) pa_n)) pa_n))) (pa_k (pd_v 13 (pv 13)) pa_n))))))))))))))))))))))),?_⟩;refine aag (fun ρ=>ρ=mrow d k (.own (sl (kI k))) .no .no .no .no .no .no .no .no .no .no .no .no) (fun N hN=>⟨rfl,_,rfl,k.ins,rfl,(tx _ (by simp)).1,(tx _ (by simp)).2,.inl rfl,hN _ rfl⟩) ?_;rintro _ rfl;refine aag (fun ρ=>ρ=mrow d k (.own (sl (kI k))) (.own (sl (kO k))) .no .no .no .no .no .no .no .no .no .no .no) (fun N hN=>⟨rfl,_,rfl,k.outs,rfl,(tx _ (by simp)).1,(tx _ (by simp)).2,.inl rfl,hN _ rfl⟩) ?_;rintro _ rfl;refine aag (fun ρ=>ρ=mrow d k (.own (sl (kI k))) (.own (sl (kO k))) (.own (sl (kP k))) .no .no .no .no .no .no .no .no .no .no) (fun N hN=>⟨rfl,_,rfl,k.pairs,rfl,(tx _ (by simp)).1,(tx _ (by simp)).2,.inl rfl,hN _ rfl⟩) ?_;rintro _ rfl;refine aag (fun ρ=>ρ=mrow d k (.own (sl (kI k))) (.own (sl (kO k))) (.own (sl (kP k))) (.own (sl (kN k))) .no .no .no .no .no .no .no .no .no) (fun N hN=>⟨rfl,_,rfl,k.nums,rfl,(tx _ (by simp)).1,(tx _ (by simp)).2,.inl rfl,hN _ rfl⟩) ?_;rintro _ rfl;refine aag (fun ρ=>∃ n,n<19/\ρ=mrow d k (.own (sl (kI k))) (.own (sl (kO k))) (.own (sl (kP k))) (.own (sl (kN k))) (.own (.lst (idl n))) .no .no .no .no .no .no .no .no) (fun N hN=>?_) ?_
 ·unfold sSet eLC iR1;refine⟨d,c,19,rfl,rfl,by decide,by decide,fun r1 h1=>⟨.inl rfl,by show 4<=1000;decide,d,c,4,rfl,rfl,by decide,by decide,fun r2 h2=>⟨.inl rfl,?_⟩⟩⟩;obtain⟨m,hm,hat⟩:∃ m:Nat,m<19/\atI [D.int 0,.int 0,.int 1,.int (r1:Int)] (r2:Int)=some (.int (m:Int)):=by
   have:r2=0\/r2=1\/r2=2\/r2=3:=by omega
   rcases this with rfl | rfl | rfl | rfl
   ·exact⟨0,by decide,aa9 rfl⟩
   ·exact⟨0,by decide,aa9 rfl⟩
   ·exact⟨1,by decide,aa9 rfl⟩
   ·exact⟨r1,by omega,aa9 rfl⟩
  refine⟨_,hat,by omega,by omega,?_⟩;rw[Int.toNat_natCast];refine aty (Φ:=fun r ρ'=>N (ρ'.set 6 r)) (List.range m) (fun (i:Nat)=>D.int (0+(i:Int))) (fun i=>.str (idn i)) (mrow d k (.own (sl (kI k))) (.own (sl (kO k))) (.own (sl (kP k))) (.own (sl (kN k))) .no .no .no .no .no .no .no .no .no) (by rw[List.length_range];omega) (fun j i ys Nx e h1 h2=>?_) (hN _ ⟨m,hm,rfl⟩);have hi:i<19:=by have:=List.mem_range.mp (List.mem_of_getElem? e);omega
  exact⟨(akf i hi).1,(akf i hi).2,h1,h2⟩
 rintro ρ ⟨n,hn,rfl⟩;refine aag (fun ρ=>ρ=mrow d k (.own (sl (kI k))) (.own (sl (kO k))) (.own (sl (kP k))) (.own (sl (kN k))) (.own (.lst (idl n))) (.own (.lst [])) .no .no .no .no .no .no .no) (fun N hN=>⟨by show 0<=1000;decide,hN _ rfl⟩) ?_;rintro _ rfl;refine aag (fun ρ=>∃ (w0:Str) (s8:Sl),(w0 = "one" \/ w0 = "nil")/\ρ=mrow d k (.own (sl (kI k))) (.own (sl (kO k))) (.own (sl (kP k))) (.own (sl (kN k))) (.val (.lst (idl n))) (.own (.lst (((List.range n).map (adm w0)).map encL))) s8 .no .no .no .no .no .no) (fun N hN=>?_) ?_
 ·refine ae0 (idl n) (mrow d k (.own (sl (kI k))) (.own (sl (kO k))) (.own (sl (kP k))) (.own (sl (kN k))) (.val (.lst (idl n))) (.own (.lst [])) .no .no .no .no .no .no .no) (fun Ψ h=>h)
   (fun j ρ=>∃ (w0:Str) (s8:Sl),(w0 = "one" \/ w0 = "nil")/\ρ=mrow d k (.own (sl (kI k))) (.own (sl (kO k))) (.own (sl (kP k))) (.own (sl (kN k))) (.val (.lst (idl n))) (.own (.lst (((List.range j).map (adm w0)).map encL))) s8 .no .no .no .no .no .no) ⟨"one",.no,.inl rfl,rfl⟩ ?_ ?_
  ·rintro j x ρ hx ⟨w0,s8,hw,rfl⟩;obtain⟨j',hj',rfl⟩:=acf hx;obtain⟨hj,e⟩:=List.getElem?_eq_some_iff.mp hj';rw[List.length_range] at hj;rw[List.getElem_range] at e;subst e;refine⟨rfl,by show 2<=1000;decide,d,c,2,rfl,rfl,by decide,by decide,fun r hr=>⟨.inl rfl,?_⟩⟩;obtain⟨w1,hw1,hat⟩:∃ w1:Str,(w1 = "one" \/ w1 = "nil")/\atI [D.str "one",.str "nil"] (r:Int)=some (.str w1):=by
    have:r=0\/r=1:=by omega
    rcases this with rfl | rfl
    ·exact⟨_,.inl rfl,aa9 rfl⟩
    ·exact⟨_,.inr rfl,aa9 rfl⟩
   have ec:cutD (idl n) none (some 1)=[D.str (idn 0)]:=by
    have:=agg (fun i=>D.str (idn i)) (List.range n) 1;obtain⟨m,rfl⟩:∃ m,n=m+1:=⟨n-1,by omega⟩;have e2:(List.range (m+1)).take 1=[0]:=by rw[List.range_succ_eq_map];rfl
    rw[e2] at this;exact this
   refine⟨_,hat,by show 2<=1000;decide,by show 2<=1000;decide,rfl,?_⟩;show (2+(cutD (idl n) none (some 1)).length<=100000)/\_;rw[ec];refine⟨by show 2+1<=100000;decide,by show 2<=1000;decide,rfl,rfl,_,rfl,?_⟩;have len:((((List.range j).map (adm w0)).map encL).length:Nat)=j:=by simp
   show ∃ c',atI [D.lst [.str (idn j),.str w1],.lst [.str (idn j),.str "not",.str (idn 0)]] (if decide ((((((List.range j).map (adm w0)).map encL).length:Nat):Int)>0)=true then 1 else 0)=some c'/\(((List.range j).map (adm w0)).map encL).length<100000/\_;rw[len];by_cases h0:j=0
   ·subst h0;refine⟨D.lst [.str (idn 0),.str w1],rfl,by decide,w1,.val (.str (idn 0)),hw1,rfl⟩
   ·refine⟨D.lst [.str (idn j),.str "not",.str (idn 0)],?_,by omega,w0,.val (.str (idn j)),hw,?_⟩
    ·rw[if_pos (by simp;omega)];exact aa9 (j:=1) rfl
    ·rw[List.range_succ,List.map_append,List.map_append];have:encL (adm w0 j)=D.lst [.str (idn j),.str "not",.str (idn 0)]:=by unfold adm;rw[if_neg h0];rfl
     show _=mrow d k _ _ _ _ _ (.own (.lst (((List.range j).map (adm w0)).map encL++[encL (adm w0 j)]))) _ _ _ _ _ _ _;rw[this];rfl
  ·rintro ρ ⟨w0,s8,hw,rfl⟩;rw[show (idl n).length=n by simp[idl]];exact hN _ ⟨w0,s8,hw,rfl⟩
 rintro ρ ⟨w0,s8,hw,rfl⟩;refine aag (fun ρ=>∃ ex:List Str,(ex=[]\/(1<=n/\ex=[idn (n-1)]))/\ρ=mrow d k (.own (sl (kI k))) (.own (sl (kO k++ex))) (.own (sl (kP k))) (.own (sl (kN k))) (.val (.lst (idl n))) (.own (.lst (((List.range n).map (adm w0)).map encL))) s8 .no .no .no .no .no .no) (fun N hN=>?_) ?_
 ·refine⟨rfl,rfl,d,c,2,rfl,rfl,by decide,by decide,fun r hr=>⟨.inl rfl,?_⟩⟩;show (0:Int)<=(r:Int)/\(r:Int)<=1000/\(cutD (idl n) (some (-1)) none).length<=100/\_;have ec:cutD (idl n) (some (-1)) none=(if n=0 then [] else [idn (n-1)]).map D.str:=by
   have:=asx (fun i=>D.str (idn i)) n;rw[show idl n=(List.range n).map fun i=>D.str (idn i) from rfl,this];split<;>rfl
  rw[ec];refine⟨by omega,by omega,by split<;>simp,?_⟩;show ((kO k).map D.str).length+_<=100000/\_;have hlo:=KO.lo;have:r=0\/r=1:=by omega
  rcases this with rfl | rfl
  ·refine⟨by show ((kO k).map D.str).length+0<=100000;rw[List.length_map];omega,hN _ ⟨[],.inl rfl,?_⟩⟩;rw[List.append_nil];show mrow d k _ (.own (.lst ((kO k).map D.str++[]))) _ _ _ _ _ _ _ _ _ _ _=_;rw[List.append_nil]
  ·by_cases h0:n=0
   ·rw[if_pos h0];refine⟨by show ((kO k).map D.str).length+0<=100000;rw[List.length_map];omega,hN _ ⟨[],.inl rfl,?_⟩⟩;rw[List.append_nil];show mrow d k _ (.own (.lst ((kO k).map D.str++[]))) _ _ _ _ _ _ _ _ _ _ _=_;rw[List.append_nil]
   ·rw[if_neg h0];refine⟨by show ((kO k).map D.str).length+1<=100000;rw[List.length_map];omega,hN _ ⟨[idn (n-1)],.inr ⟨by omega,rfl⟩,?_⟩⟩;show mrow d k _ (.own (.lst ((kO k).map D.str++[D.str (idn (n-1))]))) _ _ _ _ _ _ _ _ _ _ _=_;rw[show sl (kO k++[idn (n-1)])=D.lst ((kO k).map D.str++[D.str (idn (n-1))]) by simp[sl]]
 rintro ρ ⟨ex,hex,rfl⟩;have gl0:(kG k).length=k.gates.length:=by unfold kG;simp
 have hlg:=KO.lg;have hli:=KO.li;have hlo:=KO.lo;obtain⟨G,hG⟩:∃ G,G=(List.range n).map (adm w0)++kG k:=⟨_,rfl⟩;have G2:∀ l∈G,2<=l.length:=fun l hl=>by
  rw[hG] at hl;rcases List.mem_append.mp hl with q | q
  ·obtain⟨i,_,rfl⟩:=List.mem_map.mp q;exact ig_two w0 i
  ·exact KO.g2 l q
 have Gl:G.length<=22:=by rw[hG];simp;omega
 refine aag (fun ρ=>ρ=mrow d k (.own (sl (kI k))) (.own (sl (kO k++ex))) (.own (sl (kP k))) (.own (sl (kN k))) (.val (.lst (idl n))) (.own (.lst (G.map encL))) s8 .no .no .no .no .no .no) (fun N hN=>?_) ?_
 ·unfold sSet d2s;refine⟨rfl,?_⟩;refine acs k.gates D.str (fun z=>encL (aee z)) _ (fun Ψ h=>⟨rfl,_,rfl,h⟩) (by omega) (fun j z ys Nx e h1 h2=>⟨z,rfl,(tx z (by simp[List.mem_of_getElem? e])).1,(tx z (by simp[List.mem_of_getElem? e])).2,.inl rfl,h1,h2⟩) ?_;refine⟨by show (((List.range n).map (adm w0)).map encL).length+(k.gates.map _).length<=100000;simp;omega,hN _ ?_⟩;have eG:G.map encL=((List.range n).map (adm w0)).map encL++k.gates.map (fun z=>encL (aee z)):=by
   rw[hG,List.map_append]
   congr 1
   unfold kG;rw[List.map_map];rfl
  rw[eG];rfl
 rintro _ rfl;obtain⟨Hd,hH⟩:∃ Hd,Hd=G.map fun l=>(tri l).1:=⟨_,rfl⟩
 have eH:Hd=(List.range n).map idn++kH k:=by
  rw[hH,hG,List.map_append,List.map_map]
  congr 1
  exact List.map_congr_left fun i _=>ap2 w0 i
 have ownd:(kI k++Hd).Nodup:=by
  have hi1:∀ i∈List.range n,idn i∉kI k++kH k:=fun i hi q=>(afb i (by have:=List.mem_range.mp hi;omega)).1 (KO.one _ q).1
  have hnd:=KO.nd;obtain⟨n1,n2,n3⟩:=List.nodup_append.mp hnd;rw[eH];refine List.nodup_append.mpr ⟨n1,List.nodup_append.mpr ⟨aer List.nodup_range fun i hi j hj e=>(afb i (by have:=List.mem_range.mp hi;omega)).2.2 j (by have:=List.mem_range.mp hj;omega) e,n2,fun a ha b hb e=>?_⟩,fun a ha b hb e=>?_⟩
  ·obtain⟨i,hi,rfl⟩:=List.mem_map.mp ha;exact hi1 i hi (by rw[e];exact List.mem_append_right _ hb)
  ·rcases List.mem_append.mp hb with q | q
   ·obtain⟨i,hi,rfl⟩:=List.mem_map.mp q;exact hi1 i hi (by rw[← e];exact List.mem_append_left _ ha)
   ·exact n3 a ha b q e
 have nodash:("-" : Str)∉kI k++Hd:=fun q=>by
  rw[eH] at q;rcases List.mem_append.mp q with q | q
  ·exact (KO.one _ (List.mem_append_left _ q)).2 rfl
  ·rcases List.mem_append.mp q with q | q
   ·obtain⟨i,hi,e⟩:=List.mem_map.mp q;exact (afb i (by have:=List.mem_range.mp hi;omega)).2.1 e
   ·exact (KO.one _ (List.mem_append_right _ q)).2 rfl
 have Hl:Hd.length=G.length:=by rw[hH];simp
 refine aag (fun ρ=>ρ=mrow d k (.own (sl (kI k))) (.own (sl (kO k++ex))) (.own (sl (kP k))) (.own (sl (kN k))) (.val (.lst (idl n))) (.val (.lst (G.map encL))) s8 (.own (sl (kI k++Hd))) .no .no .no .no .no) (fun N hN=>?_) ?_
 ·unfold sSet d2s;refine⟨rfl,?_⟩;refine acs G encL (fun l=>.str (tri l).1) (mrow d k (.own (sl (kI k))) (.own (sl (kO k++ex))) (.own (sl (kP k))) (.own (sl (kN k))) (.val (.lst (idl n))) (.val (.lst (G.map encL))) s8 .no .no .no .no .no .no) (fun Ψ h=>h) (by omega) (fun j l ys Nx e h1 h2=>⟨rfl,_,(alu (G2 l (List.mem_of_getElem? e))).1,h1,h2⟩) ?_;refine⟨by show ((kI k).map D.str).length+(G.map _).length<=100000;simp;omega,hN _ ?_⟩;show mrow d k _ _ _ _ _ _ _ (.own (.lst ((kI k).map D.str++G.map fun l=>D.str (tri l).1))) _ _ _ _ _=_;rw[show sl (kI k++Hd)=D.lst ((kI k).map D.str++G.map fun l=>D.str (tri l).1) by unfold sl;rw[List.map_append,hH,List.map_map];rfl]
 rintro _ rfl;refine aag (fun ρ=>∃ xs:List Str,xs.length=(kI k++Hd).length/\xs.Nodup/\(∀ x∈xs,GoodName x)/\ρ=mrow d k (.own (sl (kI k))) (.own (sl (kO k++ex))) (.own (sl (kP k))) (.own (sl (kN k))) (.val (.lst (idl n))) (.val (.lst (G.map encL))) s8 (.val (sl (kI k++Hd))) (.own (.dK (encS ((kI k++Hd).zip xs)))) .no .no .no .no) (fun N hN=>?_) ?_
 ·refine⟨rfl,_,rfl,d,c,((kI k++Hd).map D.str).length,rfl,rfl,by simp;omega,fun xs lx nd gn=>⟨.inl rfl,_,afx (kI k++Hd),by simp;omega,?_⟩⟩;have lx':xs.length=(kI k++Hd).length:=by rw[lx,List.length_map]
  rw[zipS,mergeS (by rw[ami _ _ lx'.symm];exact ownd)];exact hN _ ⟨xs,lx',nd,gn,rfl⟩
 rintro ρ ⟨xs,lx,xnd,xgn,rfl⟩;have tk:((kI k++Hd).zip xs).map (·.1)=kI k++Hd:=ami _ _ lx.symm;have nmem:∀ o∈kI k++Hd,nmOf ((kI k++Hd).zip xs) o∈xs:=fun o ho=>anl lx.symm ho
 have ninj:∀ o∈kI k++Hd,∀ o'∈kI k++Hd,nmOf ((kI k++Hd).zip xs) o=nmOf ((kI k++Hd).zip xs) o'->o=o':=fun o ho o' ho' e=>au6 lx.symm xnd ho ho' e
 generalize ht:(kI k++Hd).zip xs=t at tk nmem ninj ⊢;have tlen:t.length<100000:=by
  have:=congrArg List.length tk;simp only[List.length_map,List.length_append] at this;omega
 have gk:aar (kI k) (G.map tri):=by
  rw[hG,List.map_append];exact aar.app (ig_ok hw _ n) (aar.more (fun x hx=>List.mem_append_left _ hx) KO.gt)
 have gH:∀ l∈G,(tri l).1∈Hd:=fun l hl=>by rw[hH];exact List.mem_map.mpr ⟨l,hl,rfl⟩
 have gP:∀ l∈G,∀ p∈l.drop 2,p∈kI k++Hd:=fun l hl p hp=>by
  obtain⟨j,hj,rfl⟩:=List.getElem_of_mem hl;have h1:=(ajn gk (i:=j) (g:=tri G[j]) (by rw[List.getElem?_map,List.getElem?_eq_getElem hj];rfl)).2 p hp;rcases List.mem_append.mp h1 with q | q
  ·exact List.mem_append_left _ q
  ·refine List.mem_append_right _ ?_;rw[hH];obtain⟨g,hg,rfl⟩:=List.mem_map.mp q;obtain⟨l',hl',rfl⟩:=List.mem_map.mp (List.mem_of_mem_take hg);exact List.mem_map.mpr ⟨l',hl',rfl⟩
 have oH:∀ o∈kO k++ex,o∈Hd:=fun o ho=>by
  rw[eH];rcases List.mem_append.mp ho with q | q
  ·exact List.mem_append_right _ (KO.oh o q)
  ·rcases hex with rfl | ⟨h1,rfl⟩
   ·cases q
   ·rw[List.mem_singleton.mp q];exact List.mem_append_left _ (List.mem_map.mpr ⟨n-1,List.mem_range.mpr (by omega),rfl⟩)
 have kyI:∀ o∈kI k,o∈t.map (·.1):=fun o ho=>by rw[tk];exact List.mem_append_left _ ho
 have kyH:∀ o∈Hd,o∈t.map (·.1):=fun o ho=>by rw[tk];exact List.mem_append_right _ ho
 refine aag (fun ρ=>ρ=mrow d k (.own (sl (kI k))) (.own (sl (kO k++ex))) (.own (sl (kP k))) (.own (sl (kN k))) (.val (.lst (idl n))) (.val (.lst (G.map encL))) s8 (.val (sl (kI k++Hd))) (.own (.dK (encS t))) (.own (.lst (G.map fun l=>encG (ren (nmOf t) (tri l))))) .no .no .no) (fun N hN=>?_) ?_
 ·unfold sSet;refine acs G encL (fun l=>encG (ren (nmOf t) (tri l))) (mrow d k (.own (sl (kI k))) (.own (sl (kO k++ex))) (.own (sl (kP k))) (.own (sl (kN k))) (.val (.lst (idl n))) (.val (.lst (G.map encL))) s8 (.val (sl (kI k++Hd))) (.own (.dK (encS t))) .no .no .no .no) (fun Ψ h=>h) (by omega) (fun j l ys Nx e h1 h2=>?_) (hN _ rfl);have hl:=List.mem_of_getElem? e;refine⟨rfl,rfl,_,(alu (G2 l hl)).1,_,getS (kyH _ (gH l hl)),rfl,_,(alu (G2 l hl)).2,?_⟩;unfold dC aC;have har:=(ajn gk (i:=j) (g:=tri l) (by rw[List.getElem?_map,e];rfl)).1.ok;have hlen:(l.drop 2).length<=3:=by
   have e2:(tri l).2.2.length=(l.drop 2).length:=rfl;rw[e2] at har;rcases har with q | q | q | q | q<;>omega
  refine acs (l.drop 2) D.str (fun p=>.str (nmOf t p)) [.val (encL l),.own (.dK (encS t))] (fun Ψ h=>⟨rfl,by rw[← aix] at h;exact h⟩) (by omega) (fun j p ys Nx e h1 h2=>⟨rfl,_,getS (by rw[tk];exact gP l hl p (List.mem_of_getElem? e)),h1,h2⟩) ?_;refine⟨by show 3<=1000;decide,h1,?_⟩;have eE:encG (ren (nmOf t) (tri l))=D.tup [.str (nmOf t (tri l).1),.str (tri l).2.1,.tup ((l.drop 2).map fun p=>D.str (nmOf t p))]:=by
   unfold encG ren;rw[List.map_map];rfl
  rw[eE] at h2;exact h2
 rintro _ rfl;refine aag (fun ρ=>∃ I':List Str,I'.Perm (kI k)/\ρ=mrow d k (.own (sl (I'.map (nmOf t)))) (.own (sl (kO k++ex))) (.own (sl (kP k))) (.own (sl (kN k))) (.val (.lst (idl n))) (.val (.lst (G.map encL))) s8 (.val (sl (kI k++Hd))) (.own (.dK (encS t))) (.own (.lst (G.map fun l=>encG (ren (nmOf t) (tri l))))) .no .no .no) (fun N hN=>?_) ?_
 ·unfold sSet eLC iV;refine⟨d,c,(kI k).map D.str,rfl,rfl,by simp;omega,fun ys hp=>⟨.inl rfl,?_⟩⟩;obtain⟨I',pI,rfl⟩:=aj4 hp;refine aty (Φ:=fun r ρ'=>N (ρ'.set 2 r)) I' D.str (fun o=>.str (nmOf t o)) (mrow d k (.val (sl (kI k))) (.own (sl (kO k++ex))) (.own (sl (kP k))) (.own (sl (kN k))) (.val (.lst (idl n))) (.val (.lst (G.map encL))) s8 (.val (sl (kI k++Hd))) (.own (.dK (encS t))) (.own (.lst (G.map fun l=>encG (ren (nmOf t) (tri l))))) .no .no .no) (by rw[pI.length_eq];omega) (fun j o ys Nx e h1 h2=>⟨rfl,_,getS (kyI o (pI.mem_iff.mp (List.mem_of_getElem? e))),h1,h2⟩) (hN _ ⟨I',pI,?_⟩);unfold sl;rw[List.map_map];rfl
 rintro ρ ⟨I',pI,rfl⟩;refine aag (fun ρ=>∃ O':List Str,O'.Perm (kO k++ex)/\ρ=mrow d k (.own (sl (I'.map (nmOf t)))) (.own (sl (O'.map (nmOf t)))) (.own (sl (kP k))) (.own (sl (kN k))) (.val (.lst (idl n))) (.val (.lst (G.map encL))) s8 (.val (sl (kI k++Hd))) (.own (.dK (encS t))) (.own (.lst (G.map fun l=>encG (ren (nmOf t) (tri l))))) .no .no .no) (fun N hN=>?_) ?_
 ·unfold sSet eLC iV;have exl:ex.length<=1:=by rcases hex with rfl | ⟨_,rfl⟩<;>simp
  refine⟨d,c,(kO k++ex).map D.str,rfl,rfl,by simp;omega,fun ys hp=>⟨.inl rfl,?_⟩⟩;obtain⟨O',pO,rfl⟩:=aj4 hp;refine aty (Φ:=fun r ρ'=>N (ρ'.set 3 r)) O' D.str (fun o=>.str (nmOf t o)) (mrow d k (.own (sl (I'.map (nmOf t)))) (.val (sl (kO k++ex))) (.own (sl (kP k))) (.own (sl (kN k))) (.val (.lst (idl n))) (.val (.lst (G.map encL))) s8 (.val (sl (kI k++Hd))) (.own (.dK (encS t))) (.own (.lst (G.map fun l=>encG (ren (nmOf t) (tri l))))) .no .no .no) (by rw[pO.length_eq,List.length_append];omega) (fun j o ys Nx e h1 h2=>⟨rfl,_,getS (kyH o (oH o (pO.mem_iff.mp (List.mem_of_getElem? e)))),h1,h2⟩) (hN _ ⟨O',pO,?_⟩);unfold sl;rw[List.map_map (g:=D.str) (f:=nmOf t) (l:=O')];rfl
 rintro ρ ⟨O',pO,rfl⟩;have hlp:=KO.lp;have hpl:=agy (kP k) KO.pe;obtain⟨pp,hpp⟩:∃ pp,pp=aa1 (kP k):=⟨_,rfl⟩;rw[← hpp] at hpl;refine aag (fun ρ=>ρ=mrow d k (.own (sl (I'.map (nmOf t)))) (.own (sl (O'.map (nmOf t)))) (.val (sl (kP k))) (.own (sl (kN k))) (.val (.lst (idl n))) (.val (.lst (G.map encL))) s8 (.val (sl (kI k++Hd))) (.own (.dK (encS t))) (.own (.lst (G.map fun l=>encG (ren (nmOf t) (tri l))))) (.own (.lst (pp.map fun p=>encP (nmOf t p.1,nmOf t p.2)))) .no .no) (fun N hN=>?_) ?_
 ·unfold sSet eLC iR3;refine⟨rfl,_,rfl,⟨by omega,by omega,by show (0:Int)<=(((kP k).map D.str).length:Nat);omega,by show ((((kP k).map D.str).length:Nat):Int)<=100000;simp;omega,by omega,by omega⟩,?_⟩;have em:ahw 0 ((((kP k).map D.str).length:Nat):Int) 2=pp.length:=by
   rw[List.length_map,← hpl];exact amz _
  rw[em];refine aty (Φ:=fun r ρ'=>N (ρ'.set 12 r)) (List.range pp.length) (fun (i:Nat)=>D.int (0+(i:Int)*2)) (fun i=>(fun p:Str×Str=>encP (nmOf t p.1,nmOf t p.2)) (pp.getD i ("",""))) (mrow d k (.own (sl (I'.map (nmOf t)))) (.own (sl (O'.map (nmOf t)))) (.val (sl (kP k))) (.own (sl (kN k))) (.val (.lst (idl n))) (.val (.lst (G.map encL))) s8 (.val (sl (kI k++Hd))) (.own (.dK (encS t))) (.own (.lst (G.map fun l=>encG (ren (nmOf t) (tri l))))) .no .no .no) (by rw[List.length_range];omega) (fun j i ys Nx e h1 h2=>?_) ?_
  ·have hi:=List.mem_range.mp (List.mem_of_getElem? e);have hp:pp[i]?=some pp[i]:=List.getElem?_eq_getElem hi;have hgd:pp.getD i ("","")=pp[i]:=by simp[List.getD,hp]
   rw[hgd] at h2;obtain⟨q1,q2⟩:=ajl (by rw[← hpp];exact hp);have hm:=KO.pm pp[i] (by rw[← hpp];exact List.getElem_mem hi);refine⟨rfl,rfl,.str pp[i].1,?_,_,getS (kyH _ (oH _ (List.mem_append_left _ hm.1))),rfl,rfl,rfl,.str pp[i].2,?_,_,getS (kyI _ hm.2),by show 2<=1000;decide,h1,h2⟩
   ·rw[show (0+(i:Int)*2)=((2*i:Nat):Int) by omega];exact aa9 (by rw[List.getElem?_map,q1];rfl)
   ·rw[show (0+(i:Int)*2+1)=((2*i+1:Nat):Int) by omega];exact aa9 (by rw[List.getElem?_map,q2];rfl)
  ·rw[atb pp ("","") (fun p:Str×Str=>encP (nmOf t p.1,nmOf t p.2))];exact hN _ rfl
 rintro _ rfl;refine aag (fun ρ=>ρ=mrow d k (.own (sl (I'.map (nmOf t)))) (.own (sl (O'.map (nmOf t)))) (.val (sl (kP k))) (.own (sl (kN k))) (.val (.lst (idl n))) (.val (.lst (G.map encL))) s8 (.val (sl (kI k++Hd))) (.own (.dK (encS (t++[(("-" : Str),("" : Str))])))) (.own (.lst (G.map fun l=>encG (ren (nmOf t) (tri l))))) (.own (.lst (pp.map fun p=>encP (nmOf t p.1,nmOf t p.2)))) .no .no) (fun N hN=>⟨rfl,_,setS (by rw[tk];exact nodash) tlen,hN _ rfl⟩) ?_;rintro _ rfl;refine aag (fun ρ=>ρ=mrow d k (.own (sl (I'.map (nmOf t)))) (.own (sl (O'.map (nmOf t)))) (.val (sl (kP k))) (.own (sl (kN k))) (.val (.lst (idl n))) (.val (.lst (G.map encL))) s8 (.val (sl (kI k++Hd))) (.own (.dK (encS (t++[(("-" : Str),("" : Str))])))) (.own (.lst (G.map fun l=>encG (ren (nmOf t) (tri l))))) (.own (.lst (pp.map fun p=>encP (nmOf t p.1,nmOf t p.2)))) (.own (.dK [])) .no) (fun N hN=>hN _ rfl) ?_;rintro _ rfl;have hln:=KO.ln;have hnl:=agy (kN k) KO.ne;have tk2:(t++[(("-" : Str),("" : Str))]).map (·.1)=(kI k++Hd)++[("-" : Str)]:=by rw[List.map_append,tk];rfl
 refine aag (fun ρ=>∃ (kvs:List (Key×D)) (s14:Sl),ρ=mrow d k (.own (sl (I'.map (nmOf t)))) (.own (sl (O'.map (nmOf t)))) (.val (sl (kP k))) (.val (sl (kN k))) (.val (.lst (idl n))) (.val (.lst (G.map encL))) s8 (.val (sl (kI k++Hd))) (.own (.dK (encS (t++[(("-" : Str),("" : Str))])))) (.own (.lst (G.map fun l=>encG (ren (nmOf t) (tri l))))) (.own (.lst (pp.map fun p=>encP (nmOf t p.1,nmOf t p.2)))) (.own (.dK kvs)) s14) (fun N hN=>?_) ?_
 ·have em:ahw 0 ((((kN k).map D.str).length:Nat):Int) 2=(aa1 (kN k)).length:=by
   rw[List.length_map,← hnl];exact amz _
  refine ae0 (amq 0 2 (aa1 (kN k)).length) (mrow d k (.own (sl (I'.map (nmOf t)))) (.own (sl (O'.map (nmOf t)))) (.val (sl (kP k))) (.val (sl (kN k))) (.val (.lst (idl n))) (.val (.lst (G.map encL))) s8 (.val (sl (kI k++Hd))) (.own (.dK (encS (t++[(("-" : Str),("" : Str))])))) (.own (.lst (G.map fun l=>encG (ren (nmOf t) (tri l))))) (.own (.lst (pp.map fun p=>encP (nmOf t p.1,nmOf t p.2)))) (.own (.dK [])) .no) (fun Ψ h=>⟨rfl,_,rfl,⟨by omega,by omega,by show (0:Int)<=(((kN k).map D.str).length:Nat);omega,by show ((((kN k).map D.str).length:Nat):Int)<=100000;simp;omega,by omega,by omega⟩,by rw[em];exact h⟩)
   (fun j ρ=>∃ (kvs:List (Key×D)) (s14:Sl),kvs.length<=j/\ρ=mrow d k (.own (sl (I'.map (nmOf t)))) (.own (sl (O'.map (nmOf t)))) (.val (sl (kP k))) (.val (sl (kN k))) (.val (.lst (idl n))) (.val (.lst (G.map encL))) s8 (.val (sl (kI k++Hd))) (.own (.dK (encS (t++[(("-" : Str),("" : Str))])))) (.own (.lst (G.map fun l=>encG (ren (nmOf t) (tri l))))) (.own (.lst (pp.map fun p=>encP (nmOf t p.1,nmOf t p.2)))) (.own (.dK kvs)) s14) ⟨[],.no,by simp,rfl⟩ ?_ ?_
  ·rintro j x ρ hx ⟨kvs,s14,hkl,rfl⟩;obtain⟨j',hj',rfl⟩:=acf hx;obtain⟨hj,e⟩:=List.getElem?_eq_some_iff.mp hj';rw[List.length_range] at hj;rw[List.getElem_range] at e;subst e;have hp:(aa1 (kN k))[j]?=some (aa1 (kN k))[j]:=List.getElem?_eq_getElem hj;obtain⟨q1,q2⟩:=ajl hp;obtain⟨m1,m2,m3⟩:=KO.nm _ (List.getElem_mem hj);obtain⟨v,hv⟩:=Option.isSome_iff_exists.mp m2;have a1:atI ((kN k).map D.str) (0+(j:Int)*2+1)=some (.str (aa1 (kN k))[j].2):=by
    rw[show (0+(j:Int)*2+1)=((2*j+1:Nat):Int) by omega];exact aa9 (by rw[List.getElem?_map,q2];rfl)
   have a0:atI ((kN k).map D.str) (0+(j:Int)*2)=some (.str (aa1 (kN k))[j].1):=by
    rw[show (0+(j:Int)*2)=((2*j:Nat):Int) by omega];exact aa9 (by rw[List.getElem?_map,q1];rfl)
   have ky:(aa1 (kN k))[j].1∈(t++[(("-" : Str),("" : Str))]).map (·.1):=by
    rw[tk2];rcases m1 with q | q
    ·refine List.mem_append_left _ ?_;rcases List.mem_append.mp q with z | z
     ·exact List.mem_append_left _ z
     ·exact List.mem_append_right _ (by rw[eH];exact List.mem_append_right _ z)
    ·rw[q];exact List.mem_append_right _ (by simp)
   have jl:j<100:=by omega
   refine⟨rfl,rfl,_,a1,v,hv,m3,rfl,rfl,rfl,_,a0,_,getS ky,.dK (putD kvs (Sum.inr (nmOf (t++[(("-" : Str),("" : Str))]) (aa1 (kN k))[j].1)) (.int v)),?_,_,.val (.int (0+(j:Int)*2)),?_,rfl⟩
   ·simp only[setD,if_pos (show kvs.length<100000 by omega)];rfl
   ·exact Nat.le_trans (axy _ _ _) (by omega)
  ·rintro ρ ⟨kvs,s14,_,rfl⟩;exact hN _ ⟨kvs,s14,rfl⟩
 rintro ρ ⟨kvs,s14,rfl⟩;refine⟨by show 3<=1000;decide,d,c,_,rfl,rfl,by show (pp.map _).length<=1000;simp;omega,fun ys hp=>⟨.inl rfl,by show 2<=1000;decide,by show 2<=1000;decide,?_⟩⟩;obtain⟨al,pA,e⟩:=ao0 (xs:=pp.map fun p=>(nmOf t p.1,nmOf t p.2)) (ys:=ys) (by rw[List.map_map];exact hp);subst e;have fin:=hΦ ⟨I'.map (nmOf t),G.map fun l=>ren (nmOf t) (tri l),O'.map (nmOf t)⟩ al kvs ?_
 ·unfold ak7 encC at fin;dsimp only at fin;rw[List.map_map (g:=encG)] at fin;exact fin
 have iO:∀ o∈O',o∈kI k++Hd:=fun o ho=>List.mem_append_right _ (oH o (pO.mem_iff.mp ho))
 have iI:∀ o∈I',o∈kI k++Hd:=fun o ho=>List.mem_append_left _ (pI.mem_iff.mp ho)
 have exl:ex.length<=1:=by rcases hex with rfl | ⟨_,rfl⟩<;>simp
 have eN:(G.map fun l=>ren (nmOf t) (tri l)).map (·.1)=Hd.map (nmOf t):=by
  rw[hH,List.map_map,List.map_map];rfl
 have pm:∀ p∈pp,p.1∈kO k/\p.2∈kI k:=fun p hp=>KO.pm p (by rw[← hpp];exact hp)
 have pn1:(pp.map (·.1)).Nodup:=by rw[hpp];exact KO.p1
 have pn2:(pp.map (·.2)).Nodup:=by rw[hpp];exact KO.p2
 have ond:(kO k++ex).Nodup:=by
  refine List.nodup_append.mpr ⟨KO.ond,?_,fun a ha b hb e=>?_⟩
  ·rcases hex with rfl | ⟨_,rfl⟩<;>simp
  ·rcases hex with rfl | ⟨h1,rfl⟩
   ·cases hb
   ·rw[List.mem_singleton.mp hb] at e;exact (afb (n-1) (by omega)).1 (by rw[← e];exact (KO.one a (List.mem_append_right _ (KO.oh a ha))).1)
 refine⟨⟨?_,?_,?_,?_,?_,?_,?_,?_⟩,?_,?_,?_,?_,?_⟩
 ·show (I'.map (nmOf t)++(G.map fun l=>ren (nmOf t) (tri l)).map (·.1)).Nodup;rw[eN,← List.map_append];have pall:(I'++Hd).Perm (kI k++Hd):=pI.append_right Hd;exact aer (pall.nodup_iff.mpr ownd) fun x hx y hy e=>ninj x (pall.mem_iff.mp hx) y (pall.mem_iff.mp hy) e
 ·intro x hx;have hx:x∈I'.map (nmOf t)++(G.map fun l=>ren (nmOf t) (tri l)).map (·.1):=hx;rw[eN,← List.map_append] at hx;obtain⟨o,ho,rfl⟩:=List.mem_map.mp hx;refine xgn _ (nmem o ?_);rcases List.mem_append.mp ho with q | q
  ·exact iI o q
  ·exact List.mem_append_right _ q
 ·have g1:aar I' (G.map tri):=aar.more (fun x hx=>pI.mem_iff.mpr hx) gk;have:=g1.ren (nmOf t);rw[List.map_map] at this;exact this
 ·intro o ho;obtain⟨q,hq,rfl⟩:=List.mem_map.mp ho;refine List.mem_append_right _ ?_;rw[eN];exact List.mem_map.mpr ⟨q,oH q (pO.mem_iff.mp hq),rfl⟩
 ·exact aer (pO.nodup_iff.mpr ond) fun x hx y hy e=>ninj x (iO x hx) y (iO y hy) e
 ·show (I'.map (nmOf t)).length<=6;rw[List.length_map,pI.length_eq];omega
 ·show (G.map _).length<=24;rw[List.length_map];omega
 ·show (O'.map (nmOf t)).length<=6;rw[List.length_map,pO.length_eq,List.length_append];omega
 ·intro o ho;obtain⟨q,hq,rfl⟩:=List.mem_map.mp ho;show _∈(G.map fun l=>ren (nmOf t) (tri l)).map (·.1);rw[eN];exact List.mem_map.mpr ⟨q,oH q (pO.mem_iff.mp hq),rfl⟩
 ·refine (pA.map (·.1)).nodup_iff.mpr ?_;rw[List.map_map];have:(pp.map (·.1)).map (nmOf t)=pp.map ((·.1)∘fun p:Str×Str=>(nmOf t p.1,nmOf t p.2)):=by rw[List.map_map];rfl
  rw[← this];refine aer pn1 fun x hx y hy e=>ninj x ?_ y ?_ e
  ·obtain⟨p,hp,rfl⟩:=List.mem_map.mp hx;exact List.mem_append_right _ (oH _ (List.mem_append_left _ (pm p hp).1))
  ·obtain⟨p,hp,rfl⟩:=List.mem_map.mp hy;exact List.mem_append_right _ (oH _ (List.mem_append_left _ (pm p hp).1))
 ·refine (pA.map (·.2)).nodup_iff.mpr ?_;rw[List.map_map];have:(pp.map (·.2)).map (nmOf t)=pp.map ((·.2)∘fun p:Str×Str=>(nmOf t p.1,nmOf t p.2)):=by rw[List.map_map];rfl
  rw[← this];refine aer pn2 fun x hx y hy e=>ninj x ?_ y ?_ e
  ·obtain⟨p,hp,rfl⟩:=List.mem_map.mp hx;exact List.mem_append_left _ (pm p hp).2
  ·obtain⟨p,hp,rfl⟩:=List.mem_map.mp hy;exact List.mem_append_left _ (pm p hp).2
 ·intro p hp;obtain⟨q,hq,rfl⟩:=List.mem_map.mp (pA.mem_iff.mp hp);exact⟨List.mem_map.mpr ⟨q.1,pO.mem_iff.mpr (List.mem_append_left _ (pm q hq).1),rfl⟩,List.mem_map.mpr ⟨q.2,pI.mem_iff.mpr (pm q hq).2,rfl⟩⟩
 ·rw[pA.length_eq,List.length_map];omega
end
def ab6 (w:Str) (bs:List Int):Int :=
 if w = "and" then (if bs.sum=bs.length then 1 else 0)
 else if w = "or" then (if bs.sum>0 then 1 else 0)
 else if w = "odd" then bs.sum%2
 else if w = "most" then (if bs.sum>=2 then 1 else 0)
 else if w = "not" then (if bs.sum=0 then 1 else 0)
 else if w = "one" then 1 else 0
def Bit (i:Int):Prop:=i=0\/i=1
theorem ahk (w:Str) (bs:List Int):Bit (ab6 w bs):=by
 unfold ab6 Bit;have:=Int.emod_nonneg bs.sum (show (2:Int)≠0 by decide);have:=Int.emod_lt_of_pos bs.sum (show (0:Int)<2 by decide)
 repeat' split
 all_goals omega
theorem ai9:∀ {bs:List Int},(∀ b∈bs,Bit b)->0<=bs.sum/\bs.sum<=bs.length
 | [],_=>by simp
 | b::r,h=>by
  have h1:=h b List.mem_cons_self;have h2:=ai9 fun x hx=>h x (List.mem_cons_of_mem _ hx)
  simp only[List.sum_cons,List.length_cons];unfold Bit at h1;omega
theorem alk:∀ {bs:List Int},(∀ b∈bs,b=1)->bs.sum=bs.length
 | [],_=>by simp
 | b::r,h=>by
  have h1:=h b List.mem_cons_self;have h2:=alk fun x hx=>h x (List.mem_cons_of_mem _ hx)
  simp only[List.sum_cons,List.length_cons];omega
theorem ahy:∀ {bs:List Int},(∀ b∈bs,Bit b)->(0:Int)∈bs->bs.sum<bs.length
 | [],_,h=>by simp at h
 | b::r,h,hm=>by
  have h1:=h b List.mem_cons_self;have hr:∀ x∈r,Bit x:=fun x hx=>h x (List.mem_cons_of_mem _ hx)
  have h2:=ai9 hr;simp only[List.sum_cons,List.length_cons];unfold Bit at h1;rcases List.mem_cons.mp hm with e | e
  ·omega
  ·have:=ahy hr e;omega
theorem aif:∀ {bs:List Int},(∀ b∈bs,Bit b)->(1:Int)∈bs->0<bs.sum
 | [],_,h=>by simp at h
 | b::r,h,hm=>by
  have h1:=h b List.mem_cons_self;have hr:∀ x∈r,Bit x:=fun x hx=>h x (List.mem_cons_of_mem _ hx)
  have h2:=ai9 hr;simp only[List.sum_cons];unfold Bit at h1;rcases List.mem_cons.mp hm with e | e
  ·omega
  ·have:=aif hr e;omega
theorem akr:∀ {bs:List Int},(∀ b∈bs,b=0)->bs.sum=0
 | [],_=>by simp
 | b::r,h=>by
  have h1:=h b List.mem_cons_self;have h2:=akr fun x hx=>h x (List.mem_cons_of_mem _ hx)
  simp only[List.sum_cons];omega
theorem av0 {bs:List Int}{m:Int}(hb:∀ b∈bs,Bit b) (h1:m∈bs) (h2:∀ a∈bs,m<=a):m=if bs.sum=bs.length then 1 else 0:=by
 rcases hb m h1 with e | e
 ·subst e;have:=ahy hb h1;rw[if_neg (by omega)]
 ·subst e;have:∀ b∈bs,b=1:=fun b hm=>by
   have:=h2 b hm;rcases hb b hm with q | q<;>omega
  rw[if_pos (alk this)]
theorem max_or {bs:List Int}{m:Int}(hb:∀ b∈bs,Bit b) (h1:m∈bs) (h2:∀ a∈bs,a<=m):m=if bs.sum>0 then 1 else 0:=by
 rcases hb m h1 with e | e
 ·subst e;have:∀ b∈bs,b=0:=fun b hm=>by
   have:=h2 b hm;rcases hb b hm with q | q<;>omega
  have:=akr this;rw[if_neg (by omega)]
 ·subst e;have:=aif hb h1;rw[if_pos (by omega)]
def ak4 (ρ:Str->Int):List (Str×Str×List Str)->Str->Int
 | []=>ρ
 | g::r=>ak4 (fun x=>if x=g.1 then ab6 g.2.1 (g.2.2.map ρ) else ρ x) r
def stepG (ρ:Str->Int) (g:Str×Str×List Str):Str->Int:=fun x=>if x=g.1 then ab6 g.2.1 (g.2.2.map ρ) else ρ x
theorem aie:∀ (gs:List (Str×Str×List Str)) (ρ:Str->Int) (g:Str×Str×List Str),ak4 ρ (gs++[g])=stepG (ak4 ρ gs) g
 | [],ρ,g=>rfl
 | a::r,ρ,g=>aie r _ g
def aj5 (C:Cel) (ρ:Str->Int):Str->Int:=ak4 ρ C.gates
theorem aar.at {gs:List (Str×Str×List Str)}:∀ {kn:List Str}{i:Nat}{g:Str×Str×List Str},aar kn gs->gs[i]?=some g->ArOk g.2.1 g.2.2.length/\∀ p∈g.2.2,p∈kn++(gs.take i).map (·.1):=by
 induction gs with
 | nil=>intro kn i g _ h;simp at h
 | cons a r ih =>
  intro kn i g h e;cases i with
  | zero=>simp at e;subst e;exact⟨h.1,by simpa using h.2.1⟩
  | succ i =>
   have:=ih (kn:=kn++[a.1]) (i:=i) (g:=g) h.2.2 (by simpa using e);refine⟨this.1,fun p hp=>?_⟩;have q:=this.2 p hp
   simpa using q
theorem arPos {w:Str}{n:Nat}(h:ArOk w n) (h1:w = "and" \/ w = "or"):2<=n:=by
 rcases h.ok with⟨_,q | q⟩ | ⟨q,_⟩ | ⟨q,_⟩ | ⟨q,_⟩ | ⟨q,_⟩
 ·omega
 ·omega
 all_goals (rcases h1 with e | e<;>(rw[e] at q;exact absurd q (by decide +kernel)))
theorem arNot {n:Nat}(h:ArOk "not" n):n=1:=by
 rcases h.ok with⟨q,_⟩ | ⟨q,_⟩ | ⟨_,q⟩ | ⟨q,_⟩ | ⟨q,_⟩
 ·exact absurd q (by decide +kernel)
 ·exact absurd q (by decide +kernel)
 ·exact q
 ·exact absurd q (by decide +kernel)
 ·exact absurd q (by decide +kernel)
structure GC (C:Cel):Prop where
 nd:C.names.Nodup
 gt:aar C.ins C.gates
 os:∀ o∈C.outs,o∈C.names
 ond:C.outs.Nodup
 li:C.ins.length<=40
 lg:C.gates.length<=40
 lo:C.outs.length<=40
def HasD (kvs:List (Key×D)) (xs:List Str) (ρ:Str->Int):Prop:=∀ x∈xs,valD kvs (Sum.inr x)=some (.int (ρ x))/\Bit (ρ x)
theorem HasD.step {kvs:List (Key×D)}{xs:List Str}{ρ:Str->Int}(h:HasD kvs xs ρ){n:Str}{v:Int}(hv:Bit v) (hn:n∉xs):HasD (putD kvs (Sum.inr n) (.int v)) (xs++[n]) (fun x=>if x=n then v else ρ x):=by
 intro x hx;dsimp only;rw[at0];by_cases e:x=n
 ·subst e;rw[if_pos rfl,if_pos rfl];exact⟨rfl,hv⟩
 ·rw[if_neg (fun z=>e (Sum.inr.inj z).symm),if_neg e];rcases List.mem_append.mp hx with q | q
  ·exact h x q
  ·exact absurd (List.mem_singleton.mp q) e
end Lw
namespace L2
open PySem PySem.Spec PyProof.Rows Lw
section
variable {X:Cx}{K:PySem.W.Frag}
def rEqL (K:PySem.W.Frag) (neg:Bool):R2:=fun x y H Q=>asg neg x y H Q\/am3 K neg x y H Q
theorem aid (hu:X.A.units+64<cLine):OpR X (compareOp .Eq) (rEqL X.K false):=(show OpR X (compareOp .Eq) (asg false) from ap8).or (agk hu)
def fEqL (neg:Bool):O2:=fun d e Φ=>match d,e with
 | .int i,.int j=>Φ (.val (.bl (nb neg (decide (i=j)))))
 | .str i,.str j=>Φ (.val (.bl (nb neg (decide (i=j)))))
 | .lst xs,.lst []=>Φ (.val (.bl (nb neg xs.isEmpty)))
 | _,_=>False
theorem ah7 (neg:Bool):OpD K (rEqL K neg) (fEqL neg):=by
 intro B L H d e x y Φ Q hd rx ry hf k;cases d<;>first | exact False.elim hf | skip<;>cases e<;>first | exact False.elim hf | skip
 ·cases rx;cases ry
  rename_i i j
  have e1:decide (V.int i=V.int j)=decide (i=j):=by simp
  exact .inl ⟨rfl,by rw[e1];exact k _ _ H hf (hd.pushF (.bl _))⟩
 ·cases rx;cases ry
  rename_i i j
  have e1:decide (V.str i=V.str j)=decide (i=j):=by simp
  exact .inl ⟨rfl,by rw[e1];exact k _ _ H hf (hd.pushF (.bl _))⟩
 ·rename_i xs ys
  cases ys with
  | cons _ _=>exact False.elim hf
  | nil =>
  obtain⟨a,vs,rfl,h1,r1⟩:=rx.lst_inv;obtain⟨b,us,rfl,h2,r2⟩:=ry.lst_inv;cases r2;have e1:xs.isEmpty=vs.isEmpty:=by cases r1<;>rfl
  refine .inr ⟨a,b,vs,rfl,rfl,SqL.of h1,SqL.of h2,?_⟩;rw[← e1];exact k _ _ H hf (hd.pushF (.bl _))
end
end L2
namespace Lw
open PySem L2
def R_gb:RD:=fun dk ds Φ=>∃ (wd:Str) (bs:List Int),ds=[.str wd,.lst (bs.map D.int)]/\(∀ b∈bs,Bit b)/\ArOk wd bs.length/\Φ (.val (.int (ab6 wd bs)))
def thereB (kvs:List (Key×D)) (xs:List Str):Prop:=∀ x∈xs,∃ d,valD kvs (Sum.inr x)=some d
def apu:RD:=fun dk ds Φ=>∃ (xs:List Str) (kvs:List (Key×D)),(ds=[.tup (xs.map D.str),.dK kvs]\/ds=[.lst (xs.map D.str),.dK kvs])/\thereB kvs xs/\Φ (.val .non)
def asa:RD:=fun dk ds Φ=>∃ (C:Cel) (kvs:List (Key×D)) (ρ:Str->Int),ds=[encC C,.dK kvs]/\GC C/\HasD kvs C.ins ρ/\Φ (.val (.tup (C.outs.map fun o=>D.int (aj5 C ρ o))))
def R_pw:RD:=fun dk ds Φ=>∃ n:Nat,ds=[.int n]/\n<=1000/\Φ (.val (.lst ((List.range n).map fun i=>D.int (2 ^ i))))
theorem if_eq {α:Type} [DecidableEq α] {a b:α}{p q:Prop}(h1:a=b->p) (h2:¬ a=b->q):if (nb false (decide (a=b)))=true then p else q:=by
 by_cases e:a=b
 ·rw[if_pos (by simp[nb,e])];exact h1 e
 ·rw[if_neg (by simp[nb,e])];exact h2 e
theorem if_dec {c:Prop} [Decidable c] {p q:Prop}(h1:c->p) (h2:¬ c->q):if (decide c)=true then p else q:=by
 by_cases e:c
 ·rw[if_pos (decide_eq_true e)];exact h1 e
 ·rw[if_neg (by simp[e])];exact h2 e
theorem am1 {kvs:List (Key×D)}{x:Str}{d:D}(h:kvs.length<100000):setD (.dK kvs) (.str x) d=some (.dK (putD kvs (Sum.inr x) d)):=by
 simp only[setD,if_pos h];rfl
theorem ab2 (t:Tab):(encT t).length=t.length:=by simp[encT]
theorem aro {i:Nat}(h:i<=60):(0:Int)<2 ^ i/\(2:Int) ^ i<2 ^ 64:=by
 have h1:(2:Int) ^ i=((2 ^ i:Nat):Int):=by norm_cast
 have h2:2 ^ i<2 ^ 64:=Nat.pow_lt_pow_right (by decide) (by omega);have h3:0<2 ^ i:=Nat.two_pow_pos i;rw[h1];omega
theorem ak1:(["name","bits"]:List Str).Nodup:=by decide +kernel
theorem aio:(["known","told"]:List Str).Nodup:=by decide +kernel
theorem akj:(["name","told"]:List Str).Nodup:=by decide +kernel
section
variable {P:Program}{w:World}{K:PySem.W.Frag}{mg:Str->Option Value}{base:Heap}
theorem amr:FnScope ["word","bits"] ["word","bits"] (aaj ac3):=⟨rfl,rfl,rfl,by decide +kernel,rfl,by decide +kernel,by decide +kernel⟩
set_option maxHeartbeats 1000000 in
theorem ok_gb {f:Addr}{fd:FuncData}(F:Fun K "gate_bit" "gate_bit" ac3 f fd) (T:Txt mg):FnOk P w K mg base CX0 1 f fd ["word","bits"] (spD K R_gb):=by
 refine F.okD (k:=0) amr (fun dk ds Φ ⟨_,_,e,_⟩=>by rw[e];rfl) (by decide) fun cdv A outer s H E dk ds Φ hr hR=>?_
 have hu:=adt hr;obtain⟨wd,bs,rfl,hb,ok,hΦ⟩:=hR;have fin:∀ z:Int,z=ab6 wd bs->Φ (.val (.int z)):=fun z e=>by rw[e];exact hΦ
 have hsum:=aic bs;have st:∀ (e:Str) (t u:TSd),(wd=e->t dk { nx:=fun _=>Φ (.val .non),rt:=Φ } [.val (.str wd),.val (.lst (bs.map D.int))])->(¬ wd=e->u dk { nx:=fun _=>Φ (.val .non),rt:=Φ } [.val (.str wd),.val (.lst (bs.map D.int))]) ->
   (∀ D1 D2 ρ,D1.rt=D2.rt->t dk D1 ρ->t dk D2 ρ)->sSeq (sIf (tstB (d2s (fEq false) 0 (cd (.str e)))) t sNil) u dk { nx:=fun _=>Φ (.val .non),rt:=Φ } [.val (.str wd),.val (.lst (bs.map D.int))]:=fun e t u h1 h2 h3 =>
  ⟨rfl,if_eq (fun z=>h3 { nx:=fun _=>Φ (.val .non),rt:=Φ } _ _ rfl (h1 z)) fun z=>h2 z⟩
 refine⟨_,(aac (s_if (acg (aid hr.units) (ah7 false) (pv 0) aai) (aau (adc (aa3 (ag0 rfl) amd (by rfl) T.min PyProof.Rows.boot_min (pa_k (pd_v 1 (pv 1)) pa_n)))) aex) (aac (s_if (acg (aid hr.units) (ah7 false) (pv 0) aai) (aau (adc (aa3 (asj rfl) cd_max (by rfl) T.max PyProof.Rows.boot_max (pa_k (pd_v 1 (pv 1)) pa_n)))) aex) (aac (s_if (acg (aid hr.units) (ah7 false) (pv 0) aai) (aau (adc (afp acy avm (aa3 (ajq rfl) au1 (by rfl) T.sum PyProof.Rows.boot_sum (pa_k (pd_v 1 (pv 1)) pa_n)) aae))) aex) (aac (s_if (acg (aid hr.units) (ah7 false) (pv 0) aai) (aau (adc (pd_if (aim op_ge od_ge (aa3 (ajq rfl) au1 (by rfl) T.sum PyProof.Rows.boot_sum (pa_k (pd_v 1 (pv 1)) pa_n)) aae) aae aae))) aex) (aac (s_if (acg (aid hr.units) (ah7 false) (pv 0) aai) (aau (adc (afp apb od_sub aae (aao hu (pv 1) aae)))) aex) (aau (adc (pd_if (acg (aid hr.units) (ah7 false) (pv 0) aai) aae aae)))))))),?_⟩;refine st _ _ _ (fun e=>⟨bs,hsum,?_,fun m hm ha=>fin m ?_⟩) (fun n1=>?_) (fun _ _ _ e=>by unfold sRet;rw[e];exact id)
 ·have:=arPos ok (.inl e);intro z;rw[z] at this;simp at this
 ·rw[av0 hb hm ha];unfold ab6;rw[if_pos e]
 refine st _ _ _ (fun e=>⟨bs,hsum,?_,fun m hm ha=>fin m ?_⟩) (fun n2=>?_) (fun _ _ _ e=>by unfold sRet;rw[e];exact id)
 ·have:=arPos ok (.inr e);intro z;rw[z] at this;simp at this
 ·rw[max_or hb hm ha];unfold ab6;rw[if_neg n1,if_pos e]
 refine st _ _ _ (fun e=>⟨bs,hsum,by show (0:Int)<2;decide,fin _ ?_⟩) (fun n3=>?_) (fun _ _ _ e=>by unfold sRet;rw[e];exact id)
 ·unfold ab6;rw[if_neg n1,if_neg n2,if_pos e]
 refine st _ _ _ (fun e=>⟨bs,hsum,if_dec (fun z=>fin _ ?_) (fun z=>fin _ ?_)⟩) (fun n4=>?_) (fun _ _ _ e=>by unfold sRet;rw[e];exact id)
 ·unfold ab6;rw[if_neg n1,if_neg n2,if_neg n3,if_pos e,if_pos z]
 ·unfold ab6;rw[if_neg n1,if_neg n2,if_neg n3,if_pos e,if_neg z]
 refine st _ _ _ (fun e=>?_) (fun n5=>?_) (fun _ _ _ e=>by unfold sRet;rw[e];exact id)
 ·subst e;have l1:=arNot ok;obtain⟨b,rfl⟩:∃ b,bs=[b]:=by
   match bs,l1 with
   | [b],_=>exact⟨b,rfl⟩
  refine⟨rfl,.int b,rfl,fin _ ?_⟩;have:=hb b (by simp);unfold ab6;rw[if_neg n1,if_neg n2,if_neg n3,if_neg n4,if_pos rfl];rcases this with q | q<;>subst q<;>simp
 refine⟨rfl,if_eq (fun e=>fin _ ?_) fun n6=>fin _ ?_⟩
 ·unfold ab6;rw[if_neg n1,if_neg n2,if_neg n3,if_neg n4,if_neg n5,if_pos e]
 ·unfold ab6;rw[if_neg n1,if_neg n2,if_neg n3,if_neg n4,if_neg n5,if_neg n6]
theorem aik:FnScope ["names","given","name"] ["names","given"] (aaj abd):=⟨rfl,rfl,rfl,by decide +kernel,rfl,by decide +kernel,by decide +kernel⟩
theorem asp {H:Hp}{b:Addr}{kvs:List (Key×V)}{x:Str}{v:V}(hb:H b=some (.dK kvs)) (hv:valV kvs (Sum.inr x)=some v):DGet H b (.str x) (some v):=by
 have:=DGet.k (k:=(Sum.inr x:Key)) hb
 rwa [hv] at this
theorem air {xs:List Str}{i:Nat}{x:V}(h:(xs.map V.str)[i]?=some x):∃ y,xs[i]?=some y/\V.str y=x:=by
 rw[List.getElem?_map] at h;cases e:xs[i]? with
 | none=>rw[e] at h;cases h
 | some y=>rw[e] at h;exact⟨y,rfl,Option.some.inj h⟩
set_option maxHeartbeats 1000000 in
theorem aul {f:Addr}{fd:FuncData}(F:Fun K "check_there" "check_there" abd f fd):FnOk P w K mg base CX0 1 f fd ["names","given"] (spD K apu):=by
 refine F.ok aik (fun vs H Q E ⟨dk,A,ds,Φ,hdk,hA,r,⟨xs,kvs,e,_⟩,hq⟩=>by rw[← r.length];rcases e with e | e<;>rw[e]<;>rfl) (fun cdv A outer s H vs Q E hr ⟨dk,A1,ds,Φ,hdk,hA,r,⟨xs,kvs,e,ht,hΦ⟩,hq⟩=>?_);have hu:=adt hr;obtain⟨na,b,kv,rfl,hn,hb,hv⟩:∃ na b kv,vs=[.ref na,.ref b]/\(SqL K H na (xs.map V.str)\/SqT K H na (xs.map V.str))/\H b=some (.dK kv)/\∀ x∈xs,∃ v,valV kv (Sum.inr x)=some v:=by
  rcases e with e | e<;>subst e
  all_goals (
   cases r with
   | cons r1 r =>
    cases r with
    | cons r2 r =>
     cases r;obtain⟨b,kv,rfl,_,hb,e1,r3⟩:=r2.dK_inv;have hv:∀ x∈xs,∃ v,valV kv (Sum.inr x)=some v:=fun x hx=>by
      obtain⟨d,hd⟩:=ht x hx;obtain⟨v,h1,_⟩:=(afh e1 r3 (Sum.inr x)).1 d hd;exact⟨v,h1⟩
     first
     | (obtain⟨na,us,rfl,h1,r4⟩:=r1.tup_inv;have:=afu (aep xs) r4;subst this;exact⟨na,b,kv,rfl,.inr (SqT.of h1),hb,hv⟩)
     | (obtain⟨na,us,rfl,_,h1,r4⟩:=r1.lst_inv;have:=afu (aep xs) r4;subst this;exact⟨na,b,kv,rfl,.inl (SqL.of h1),hb,hv⟩))
 have fin:Q .non H:=hq (.val .non) .non H hΦ (fun _ _ e _=>e) hdk .non;refine⟨_,aav (ahz PassesOwn.never rfl (asd (pv 0)) (ado (i:=2) aik.nd rfl (Or.inl rfl)) (aav (ahc (ara (akp hu (pv 2) (pv 1))) (aav auc) adl))),?_⟩;refine⟨_,rfl,?_⟩;rcases hn with hn | hn
 ·refine .inl ⟨na,rfl,⟨_,hn⟩,?_⟩;refine an0 (K:=K) (a:=na) (xs:=xs.map V.str) (fun i σ H2=>H2=H/\∃ v3,σ=[some (.ref na),some (.ref b),v3]) ⟨rfl,none,rfl⟩ (fun i σ H2 _ ⟨e,_⟩=>by rw[e];exact hn) ?_ ?_
  ·rintro i x σ H2 hx ⟨rfl,v3,rfl⟩;obtain⟨y,hy,rfl⟩:=air hx;obtain⟨v,hv'⟩:=hv y (List.mem_of_getElem? hy);exact⟨_,rfl,_,rfl,b,_,rfl,asp hb hv',_,rfl,iteF ⟨rfl,_,rfl⟩⟩
  ·rintro σ H2 ⟨rfl,_⟩;exact fin
 ·refine .inr (.inl ⟨na,rfl,⟨_,hn⟩,?_⟩);refine aqa (K:=K) (a:=na) (xs:=xs.map V.str) (fun i σ H2=>H2=H/\∃ v3,σ=[some (.ref na),some (.ref b),v3]) ⟨rfl,none,rfl⟩ (fun i σ H2 _ ⟨e,_⟩=>by rw[e];exact hn) ?_ ?_
  ·rintro i x σ H2 hx ⟨rfl,v3,rfl⟩;obtain⟨y,hy,rfl⟩:=air hx;obtain⟨v,hv'⟩:=hv y (List.mem_of_getElem? hy);exact⟨_,rfl,_,rfl,b,_,rfl,asp hb hv',_,rfl,iteF ⟨rfl,_,rfl⟩⟩
  ·rintro σ H2 ⟨rfl,_⟩;exact fin
theorem adx:FnScope ["cell","bits","told","name","word","names"] ["cell","bits"] (aaj add):=⟨rfl,rfl,rfl,by decide +kernel,rfl,by decide +kernel,by decide +kernel⟩
set_option maxHeartbeats 1000000 in
theorem awz {f fT fG:Addr}{fd fdT fdG:FuncData}(F:Fun K "told_by" "told_by" add f fd) (T:Txt mg) (ax6:Gd K mg "check_there" abd ["names","given"] fT fdT) (ayo:Gd K mg "gate_bit" ac3 ["word","bits"] fG fdG)
  (ay3:FnOk P w K mg base CX0 1 fT fdT ["names","given"] (spD K apu)) (aza:FnOk P w K mg base CX0 1 fG fdG ["word","bits"] (spD K R_gb)):FnOk P w K mg base CX0 2 f fd ["cell","bits"] (spD K asa):=by
 refine F.okD (k:=1) adx (fun dk ds Φ ⟨_,_,_,e,_⟩=>by rw[e];rfl) (by decide) fun cdv A outer s H E dk ds Φ hr hR=>?_
 have hu:=adt hr;obtain⟨C,kvs,ρ,rfl,hg,hH,hΦ⟩:=hR;have li:=hg.li;have lg:=hg.lg;have insnd:C.ins.Nodup:=(List.nodup_append.mp hg.nd).1;refine⟨_,(aac (acu (aal ay3 (hr.mono (by decide)) (by rfl) ax6.m ax6.k ax6.b (pa_k (aao hu (pv 0) aae) (pa_k (pd_v 1 (pv 1)) pa_n)))) (aac (aa2 (i:=2) adx.nd rfl (Or.inr rfl) (aam (abb rfl) acw (by rfl) T.dict PyProof.Rows.boot_dict (pa_k (adf ["name"] ["bits"] [1] rfl (i_v (aao hu (pv 0) aae)) rfl rfl (fun _ _ _ _ _=>(g_n (i:=0) ak1 rfl (Or.inl rfl))) (fun _ _ _ _ _=>adh) (fun _ _ _ _ _=>(abj (pa_k (pd_v 0 (pv 0)) (pa_k (aao hu (pv 1) (pd_v 0 (pv 0))) pa_n))))) pa_n))) (aac (afj (m:=99) PassesOwn.never rfl (i_v (aao hu (pv 0) aae)) (g_t (n:=3) rfl (gs_c (g_n (i:=3) adx.nd rfl (Or.inl rfl)) (gs_c (g_n (i:=4) adx.nd rfl (Or.inl rfl)) (gs_c (g_n (i:=5) adx.nd rfl (Or.inl rfl)) gs_n)))) (aau (ar9 (n:=2) hu (aal aza (hr.mono (by decide)) (by rfl) ayo.m ayo.k ayo.b (pa_k (pd_v 4 (pv 4)) (pa_k (adf ["known"] ["told"] [2] rfl (i_v (pd_v 5 (pv 5))) rfl rfl (fun _ _ _ _ _=>(g_n (i:=0) aio rfl (Or.inl rfl))) (fun _ _ _ _ _=>adh) (fun _ _ _ _ _=>(aao hu (pv 1) (pd_v 0 (pv 0))))) pa_n))) (pv 2) (pd_v 3 (pv 3))))) (aau (adc (aam aax aew (by rfl) T.tuple PyProof.Rows.boot_tuple (pa_k (adf ["name"] ["told"] [2] rfl (i_v (aao hu (pv 0) aae)) rfl rfl (fun _ _ _ _ _=>(g_n (i:=0) akj rfl (Or.inl rfl))) (fun _ _ _ _ _=>adh) (fun _ _ _ _ _=>(aao hu (pv 1) (pd_v 0 (pv 0))))) pa_n))))))),?_⟩;refine⟨rfl,_,rfl,C.ins,kvs,.inl rfl,fun x hx=>⟨_,(hH x hx).1⟩,.inl rfl,?_⟩;dsimp only;refine aag (fun ρ'=>ρ'=[.val (encC C),.val (.dK kvs),.own (.dK (encT (C.ins.map fun n=>(n,ρ n)))),.no,.no,.no]) (fun N hN=>?_) ?_
 ·unfold sSet dC aC;refine acs C.ins D.str (fun n=>.tup [.str n,.int (ρ n)]) [.val (encC C),.val (.dK kvs),.no,.no,.no,.no] (fun Ψ h=>⟨rfl,_,rfl,h⟩) (by omega) (fun i n ys Nx e h1 h2=>?_) ?_
  ·refine⟨rfl,.int (ρ n),?_,by show 2<=1000;decide,h1,h2⟩;show some (valD kvs (Sum.inr n))=_;rw[(hH n (List.mem_of_getElem? e)).1]
  have e0:ae2 (C.ins.map fun n=>D.tup [.str n,.int (ρ n)])=some (encT (C.ins.map fun n=>(n,ρ n))):=by
   rw[ab9 (g:=fun n=>((Sum.inr n:Key),D.int (ρ n))) (fun n=>⟨.str n,rfl,rfl⟩)];simp[encT]
  refine⟨_,e0,by simp[encT];omega,?_⟩;rw[ach (by simpa [Function.comp_def] using insnd)];exact hN _ rfl
 rintro _ rfl;have h0:HasD (encT (C.ins.map fun n=>(n,ρ n))) C.ins ρ:=fun x hx=>by
  refine⟨?_,(hH x hx).2⟩;have hm:x∈(C.ins.map fun n=>(n,ρ n)).map (·.1):=by simpa [Function.comp_def] using hx
  rw[(valT _ x).1 hm]
  congr 2
  clear hm;revert hx;generalize C.ins=xs;induction xs with
  | nil=>intro h;simp at h
  | cons a r ih =>
   intro h;rw[List.map_cons,aci];by_cases q:a=x
   ·rw[if_pos q,q]
   ·rw[if_neg q];rcases List.mem_cons.mp h with z | z
    ·exact absurd z.symm q
    ·exact ih z
 refine aag (fun ρ'=>∃ (kv:List (Key×D)) (s3 s4 s5:Sl),ρ'=[.val (encC C),.val (.dK kvs),.own (.dK kv),s3,s4,s5]/\HasD kv C.names (aj5 C ρ)) (fun N hN=>?_) ?_
 ·refine ae0 (C.gates.map encG) _ (fun Ψ h=>⟨rfl,_,rfl,h⟩)
   (fun i ρ'=>∃ (kv:List (Key×D)) (s3 s4 s5:Sl),ρ'=[.val (encC C),.val (.dK kvs),.own (.dK kv),s3,s4,s5]/\HasD kv (C.ins++(C.gates.take i).map (·.1)) (ak4 ρ (C.gates.take i))/\kv.length<=40+i) ⟨_,.no,.no,.no,rfl,by simpa [ak4] using h0,by rw[ab2,List.length_map];omega⟩ ?_ ?_
  ·rintro i x ρ' hx ⟨kv,s3,s4,s5,rfl,hh,hl⟩;obtain⟨g,hgi,rfl⟩:=acf hx;obtain⟨har,hps⟩:=hg.gt.at hgi;have hi:i<C.gates.length:=(List.getElem?_eq_some_iff.mp hgi).1;have hnew:g.1∉C.ins++(C.gates.take i).map (·.1):=fun q=>by
    have nd:(C.ins++C.gates.map (·.1)).Nodup:=hg.nd;have e:C.gates=C.gates.take i++g::C.gates.drop (i+1):=by
     obtain⟨hi,rfl⟩:=List.getElem?_eq_some_iff.mp hgi;rw[List.getElem_cons_drop,List.take_append_drop]
    rw[e,List.map_append,← List.append_assoc] at nd;exact (List.nodup_append.mp nd).2.2 g.1 q g.1 (by simp) rfl
   have tk:C.gates.take (i+1)=C.gates.take i++[g]:=by rw[List.take_add_one,hgi];rfl
   generalize hρ:ak4 ρ (C.gates.take i)=ρ1 at hh;have hbit:∀ p∈g.2.2,Bit (ρ1 p):=fun p hp=>(hh p (hps p hp)).2
   refine⟨rfl,rfl,?_⟩;unfold sSub avx aC vd;simp only[List.set_cons_succ,List.set_cons_zero,List.getElem?_cons_succ,List.getElem?_cons_zero];refine acs g.2.2 D.str (fun o=>.int (ρ1 o)) [.val (encC C),.val (.dK kvs),.own (.dK kv),.val (.str g.1),.val (.str g.2.1),.val (.tup (g.2.2.map D.str))] (fun Ψ h=>h) (by rcases har.ok with⟨_,q | q⟩ | ⟨_,q⟩ | ⟨_,q⟩ | ⟨_,q⟩ | ⟨_,q⟩<;>omega) (fun j o ys Nx e h1 h2=>?_) ?_
   ·refine⟨rfl,.int (ρ1 o),?_,h1,h2⟩;show some (valD kv (Sum.inr o))=_;rw[(hh o (hps o (List.mem_of_getElem? e))).1]
   refine⟨g.2.1,g.2.2.map ρ1,by rw[List.map_map];rfl,(fun b hb=>by obtain⟨p,hp,rfl⟩:=List.mem_map.mp hb;exact hbit p hp),by rw[List.length_map];exact har,.inl rfl,rfl,_,am1 (by omega),putD kv (Sum.inr g.1) (.int (ab6 g.2.1 (g.2.2.map ρ1))),_,_,_,rfl,?_,?_⟩
   ·rw[tk,aie,hρ,List.map_append,← List.append_assoc];exact hh.step (ahk _ _) hnew
   ·have:=amu kv (Sum.inr g.1:Key) (.int (ab6 g.2.1 (g.2.2.map ρ1)));omega
  ·rintro ρ' ⟨kv,s3,s4,s5,rfl,hh,hl⟩;rw[List.length_map,List.take_of_length_le (Nat.le_refl _)] at hh;exact hN _ ⟨kv,s3,s4,s5,rfl,hh⟩
 rintro _ ⟨kv,s3,s4,s5,rfl,hh⟩;unfold sRet dC aC;have lo:=hg.lo;refine acs C.outs D.str (fun o=>.int (aj5 C ρ o)) [.val (encC C),.val (.dK kvs),.own (.dK kv),s3,s4,s5] (fun Ψ h=>⟨rfl,_,rfl,h⟩) (by omega) (fun j o ys Nx e h1 h2=>?_) hΦ;refine⟨rfl,.int (aj5 C ρ o),?_,h1,h2⟩;show some (valD kv (Sum.inr o))=_;rw[(hh o (hg.os o (List.mem_of_getElem? e))).1]
theorem ab0:FnScope ["count","found","worth","place"] ["count"] (aaj abe):=⟨rfl,rfl,rfl,by decide +kernel,rfl,by decide +kernel,by decide +kernel⟩
theorem ok_pw {f:Addr}{fd:FuncData}(F:Fun K "place_worths" "place_worths" abe f fd) (T:Txt mg):FnOk P w K mg base CX0 1 f fd ["count"] (spD K R_pw):=by
 refine F.okD (k:=0) ab0 (fun dk ds Φ ⟨_,e,_⟩=>by rw[e];rfl) (by decide) fun cdv A outer s H E dk ds Φ hr hR=>?_
 have hu:=adt hr;obtain⟨n,rfl,hn,hΦ⟩:=hR;refine⟨_,(aac (aa2 (i:=1) ab0.nd rfl (Or.inl rfl) (aa7 pa_n)) (aac (aa2 (i:=2) ab0.nd rfl (Or.inl rfl) aae) (aac (afj (m:=99) PassesOwn.never rfl (i_r1 (by rfl) T.range (pd_v 0 (pv 0))) (g_n (i:=3) ab0.nd rfl (Or.inl rfl)) (aac (acu (pd_w PySem.F.plainAttrs_list PySem.F.slot_list_append PySem.F.type_list_append aaw ac8 (pv 1) (pa_k (pd_v 2 (pv 2)) pa_n))) (aau (aa2 (i:=2) ab0.nd rfl (Or.inl rfl) (adp ajv apz (pv 2) aae))))) (aau (adc (pd_v 1 (pv 1))))))),?_⟩;refine⟨by show 0<=1000;decide,?_⟩;dsimp only;refine aag (fun ρ=>ρ=[.val (.int n),.own (.lst []),.val (.int 1),.no]) (fun N hN=>hN _ rfl) ?_;rintro _ rfl;refine aag (fun ρ=>∃ s3:Sl,ρ=[.val (.int n),.own (.lst ((List.range n).map fun i=>D.int (2 ^ i))),.val (.int (2 ^ n)),s3]) (fun N hN=>?_) ?_
 ·refine ae0 (afi 0 n) [.val (.int n),.own (.lst []),.val (.int 1),.no] (fun Ψ h=>⟨by omega,by omega,h⟩) (fun i ρ=>∃ s3:Sl,ρ=[.val (.int n),.own (.lst ((List.range i).map fun i=>D.int (2 ^ i))),.val (.int (2 ^ i)),s3]) ⟨.no,rfl⟩ ?_ ?_
  ·rintro i x ρ hx ⟨s3,rfl⟩;obtain⟨hi,rfl⟩:=agw hx;refine⟨rfl,by show ((List.range i).map fun i=>D.int (2 ^ i)).length<100000;rw[List.length_map,List.length_range];omega,rfl,.inr ⟨by decide,by decide⟩,.val (.int (0+(i:Int))),?_⟩;rw[List.range_succ,List.map_append];rfl
  ·rintro ρ ⟨s3,rfl⟩;have:(afi 0 n).length=n:=by simp[afi]
   rw[this];exact hN _ ⟨s3,rfl⟩
 rintro _ ⟨s3,rfl⟩;exact hΦ
end
end Lw
namespace L2
open PySem PySem.Spec PyProof.Rows Lw
def rUpd:RM:=fun x xs H Q=>∃ (a b:Addr) (kvs more:List (Key×V)),x = .ref a/\xs=[.ref b]/\a≠b/\H a=some (.dK kvs)/\H b=some (.dK more)/\kvs.length+more.length<=1000/\Q .non (upd H a (.dK (abz kvs more)))
section
variable {X:Cx}{K:PySem.W.Frag}
theorem arc:MtR X "dict.update" rUpd:=by
 intro pins s σ H x xs v us Q I rx rv h;obtain⟨a,b,kvs,more,rfl,rfl,ne,ha,hb,hz,q⟩:=h;cases rx;obtain⟨u,rfl,ru⟩:=ad8 rv;cases ru;obtain⟨za,sa,vs,ra,da⟩:=agc I.hok ha;obtain⟨zb,sb,ms,rb,db⟩:=agc I.hok hb;have la:kvs.length=vs.length:=Paired.length ra;have lb:more.length=ms.length:=Paired.length rb;have fit:vs.length+ms.length<=sizeLine:=Nat.le_trans (show _<=1000 by omega) (by decide);refine call_meetsIn F.slot_dict_update da.typeIs F.entry_dict_update (F.args_dict_update_2 _ _) (meets_dict_update (aa8 X.prog X.w) a b ne sb) ⟨vs,ms,da,db,fit,fun h' d1 _ sm=>?_⟩;have z2:(abz kvs more).length<=sizeLine:=by
  have:=ace more kvs;exact Nat.le_trans (show (abz kvs more).length<=1000 by omega) (by decide)
 have there:∃ o,h'.get? a=some o:=let ⟨o,_,_,e,_⟩:=d1;⟨o,e⟩;exact⟨.non,_,ajr I (by rw[ha];exact True.intro) sm there (agx z2 sa (rb.merge ra) d1),rfl,q⟩
def mUpd:OW:=fun c ds Φ=>match c,ds with
 | .dK xs,[.dK ys]=>xs.length+ys.length<=1000/\Φ .non (.dK (acz xs ys))
 | _,_=>False
theorem mw_upd:MtW K rUpd mUpd:=by
 intro A H a c ds vs Φ Q na ra rd hf k;cases c<;>first | exact False.elim hf | skip
 cases rd with
 | nil=>exact False.elim hf
 | cons r1 rd =>
 rename_i d _ _ _
 cases d<;>first | exact False.elim hf | skip
 cases rd with
 | cons _ _=>exact False.elim hf
 | nil =>
 ·obtain⟨kvs,h,e,r⟩:=ra
  ·obtain⟨b,kws,rfl,hA,h2,e2,r2⟩:=r1.dK_inv;have l1:=congrArg List.length e;have l2:=congrArg List.length e2;simp only[List.length_map] at l1 l2;refine⟨a,b,kvs,kws,rfl,rfl,fun z=>na (z▸hA),h,h2,by have:=hf.1;omega,k _ _ _ _ hf.2 .non fun A' kp=>?_⟩;obtain⟨q1,q2⟩:=aea e2 r2 e r;exact⟨_,aaa,q1,q2.mono kp⟩
end
end L2
namespace PySem
open PyProof.Rows L2
section
variable {prog:Program}{w:World}{A:Around}{E:Value->Shared->Prop}{s:Shared}
theorem amo {α:Type}{Q:α->Shared->Prop}(calm:A.handled=none) (out:∀ h' e,(∀ b o,s.heap.get? b=some o->h'.get? b=some o)->(∃ o,h'.get? e=some o/\o.cls = .type "StopIteration")->E (.ref e) { s with heap:=h' }) :
  wpAny (model prog w) A (do raiseNew (← newExc (.type "StopIteration") [])) Q E s:=by
 have mem:firstArgMember (.type "StopIteration") []=pure Value.none:=by first | rfl | (simp only[firstArgMember];rfl)
 have made:wpAny (model prog w) A (newExc (.type "StopIteration") []) (fun v s'=>∃ e h',v = .ref e/\s'={ s with heap:=h' }/\(∀ b o,s.heap.get? b=some o->h'.get? b=some o)/\∃ o,h'.get? e=some o/\o.cls = .type "StopIteration") E s:=by
  unfold newExc newTuple;refine wpAny_bind (wpAny_newObj_type ?_ (by size_fits));refine wpAny_bind (wpAny_of_eq mem ?_);exact wpAny_newObj_type ⟨_,_,rfl,rfl,fun b o z=>Heap.get?_push_of_some _ (Heap.get?_push_of_some _ z),_,Heap.get?_push_size _ rfl,rfl⟩ (by size_fits)
 refine wpAny_bind (wpAny_mono made (fun v s' ⟨e,h',ev,es,k,t⟩=>?_) fun _ _ z=>z);subst ev es;unfold raiseNew;refine wpAny_bind (wpAny_handled ?_);rw[calm];exact wpAny_bind (wpAny_pure (wpAny_throw (out h' e k t)))
theorem ad7 {it t:Addr}{i:Nat}(x:s.heap.IsTupleIter it t i):∃ o,s.heap.get? it=some o/\o.data = .fields #[.ref t,.int i 0]/\s.TypeIs (.ref it) "tuple_iterator" /\ o.cls = .type "tuple_iterator" := by
 obtain⟨o,a,b,c⟩:=x;exact⟨o,a,c,⟨o,a,b⟩,b⟩
theorem akz {h:Heap}{it t:Addr}{i:Nat}{o:Obj}(a:h.get? it=some o) (b:o.cls = .type "tuple_iterator") (c:o.data = .fields #[.ref t,.int i 0]):(h.update it (Obj.mapFields (·.setIfInBounds 1 (rawInt ((i:Int)+1))))).IsTupleIter it t (i+1):=by
 refine⟨_,Heap.get?_update_self _ a (Obj.isFreed_of_fields (Obj.data_mapFields c _)),?_,?_⟩
 ·rw[Obj.cls_mapFields];exact b
 ·rw[Obj.data_mapFields c];simp[rawInt]
end
end PySem
namespace L2
open PySem PySem.Spec PyProof.Rows Lw
theorem akm {α β:Type}{F:α->β->Prop}:∀ {l₁:List α}{l₂:List β}{i:Nat}{a:α},Paired F l₁ l₂->l₁[i]?=some a->∃ b,l₂[i]?=some b/\F a b
 | _,_,_,_,.nil,h=>by simp at h
 | _,_,0,_,.cons x r,h=>by simp at h;subst h;exact⟨_,by simp,x⟩
 | _,_,i+1,a,.cons x r,h=>by
  obtain⟨b,h1,h2⟩:=akm (i:=i) r (by simpa using h);exact⟨b,by simpa using h1,h2⟩
end L2
namespace PySem
open PyProof.Rows L2
theorem aca {h h':Heap}{a:Addr}{its:Array Value}(x:h.IsTuple a its) (k:∀ o,h.get? a=some o->h'.get? a=some o):h'.IsTuple a its:=let ⟨o,e,r⟩:=x;⟨o,k o e,r⟩
section
variable {prog:Program}{w:World}{A:Around}{E:Value->Shared->Prop}{s:Shared}
theorem aes {it t:Addr}{i:Nat}{its:Array Value}{x:Value}{Q:Value->Shared->Prop}(I:s.heap.IsTupleIter it t i) (T:s.heap.IsTuple t its) (hx:its[i]?=some x) (q:∀ h',h'.IsTupleIter it t (i+1)->Heap.SameBut it s.heap h'->Q x { s with heap:=h' }) :
  wpAny (model prog w) A (Builtin.SmallTypes.nextOf (.ref it)) Q E s:=by
 obtain⟨o,a,c,ty,b⟩:=ad7 I;obtain⟨p,p1,p2,n,p3⟩:=id T;have body:wpAny (model prog w) A.in1 (Builtin.«tuple_iterator.__next__» ⟨[.ref it],[]⟩) (fun r s'=>∃ h',r = .done (.ret x)/\s'={ s with heap:=h' }/\h'.IsTupleIter it t (i+1)/\Heap.SameBut it s.heap h') E s:=by
  show wpAny _ _ (field (.ref it) 0 >>= _) _ _ s;refine wpAny_bind (wpAny_field a c (x:=.ref t) rfl ?_);refine (show wpAny _ _ (field (.ref it) 1 >>= _) _ _ s from wpAny_bind (wpAny_field a c (x:=.int i 0) rfl (wpAny_bind (wpAny_seqItems p1 p3 ?_))));simp only[Int.toNat_natCast,hx];exact wpAny_bind (wpAny_setField a c (by simp) (wpAny_pure ⟨_,rfl,rfl,akz a b c,Heap.SameBut.update ..⟩))
 unfold Builtin.SmallTypes.nextOf;refine wpAny_bind (wpAny_callSpecial?_slot (name:=Str.ofString "__next__") ty F.slot_tuple_iterator_next (wpAny_call_entry F.slot_tuple_iterator_next ty F.entry_tuple_iterator_next (wpAny_mono body (fun r s' ⟨h',e1,e2,e4,e5⟩=>?_) fun _ _ z=>z) (F.args_tuple_iterator_next_1 _)));subst e1 e2;exact⟨x,rfl,wpAny_pure (q h' e4 e5)⟩
theorem agm {it t:Addr}{i:Nat}{its:Array Value}{Q:Value->Shared->Prop}(calm:A.handled=none) (I:s.heap.IsTupleIter it t i) (T:s.heap.IsTuple t its) (hx:its[i]?=none)
  (q:∀ h' e,Heap.ExtBut it s.heap h'->(∃ o,h'.get? e=some o/\o.cls = .type "StopIteration")->E (.ref e) { s with heap:=h' }):wpAny (model prog w) A (Builtin.SmallTypes.nextOf (.ref it)) Q E s:=by
 obtain⟨o,a,c,ty,b⟩:=ad7 I;obtain⟨p,p1,p2,n,p3⟩:=id T;have body:wpAny (model prog w) A.in1 (Builtin.«tuple_iterator.__next__» ⟨[.ref it],[]⟩) (fun _ _=>False) E s:=by
  show wpAny _ _ (field (.ref it) 0 >>= _) _ _ s;refine wpAny_bind (wpAny_field a c (x:=.ref t) rfl ?_);refine (show wpAny _ _ (field (.ref it) 1 >>= _) _ _ s from wpAny_bind (wpAny_field a c (x:=.int i 0) rfl (wpAny_bind (wpAny_seqItems p1 p3 ?_))));simp only[Int.toNat_natCast,hx];refine wpAny_bind (wpAny_rule (wpAny_bind (wpAny_setField a c (by simp) ?_)));exact amo calm fun h' e k z=>q h' e (fun x o nx hx=>k x o ((Heap.SameBut.update ..).extBut x o nx hx)) z
 unfold Builtin.SmallTypes.nextOf;exact wpAny_bind (wpAny_callSpecial?_slot (name:=Str.ofString "__next__") ty F.slot_tuple_iterator_next (wpAny_call_entry F.slot_tuple_iterator_next ty F.entry_tuple_iterator_next (wpAny_mono body (fun _ _ z=>z.elim) fun _ _ z=>z) (F.args_tuple_iterator_next_1 _)))
def ai8 (z TI TO:Addr) (E:Value->Shared->Prop):Value->Shared->Prop:=fun e s'=>IsZip s'.heap z TI TO .ellipsis/\∀ h',Heap.SameBut z s'.heap h'->E e { s' with heap:=h' }
set_option maxHeartbeats 1000000 in
theorem ank {z TI TO:Addr}{a b p q:Value}{Q:Value->Shared->Prop}(hz:IsZip s.heap z TI TO .none) (hTI:IsPair s.heap TI a b)
  (go:∀ h1,IsZip h1 z TI TO .ellipsis->Heap.SameBut z s.heap h1->wpAny (model prog w) A (Builtin.SmallTypes.nextOf a) (fun x s2=>IsPair s2.heap TO p q/\∀ h3,IsPair h3 TO x q->Heap.SameBut TO s2.heap h3 ->wpAny (model prog w) A (Builtin.SmallTypes.nextOf b) (fun y s4=>IsPair s4.heap TO x q/\∀ h5,IsPair h5 TO x y->Heap.SameBut TO s4.heap h5->IsZip h5 z TI TO .ellipsis /\ ∀ h',IsZip h' z TI TO (rawInt h5.objs.size)->IsPair h' h5.objs.size x y->h'.objs.size=h5.objs.size+1->(∀ c o,c≠z->h5.get? c=some o->h'.get? c=some o)->Q (.ref h5.objs.size) { s4 with heap:=h' }) (ai8 z TI TO E) { s2 with heap:=h3 }) (ai8 z TI TO E) { s with heap:=h1 }) :
  wpAny (model prog w) A (Builtin.«zip.__next__» ⟨[.ref z],[]⟩) (fun fin s'=>∃ v,fin = .done (.ret v)/\Q v s') E s:=by
 have free:wpAny (model prog w) A (Builtin.SmallTypes.ownedTupleIsFree (.ref z)) (fun x s'=>x=true/\s'=s) E s:=wpAny_bind (wpAny_field hz rfl (x:=.none) rfl (wpAny_pure ⟨rfl,rfl⟩));have back:∀ {α:Type} {m:Sem α} {R:α->Shared->Prop} {s':Shared},wpAny (model prog w) A m R (ai8 z TI TO E) s'->wpAny (model prog w) A (m.onRaise fun _=>setField (.ref z) 0 .none) R E s':=fun {α m R s'} h =>
  wpAny_onRaise (wpAny_mono h (fun _ _ z=>z) fun e s1 ⟨k1,k2⟩=>wpAny_setField_rec k1 (by simp) fun h' _ sb=>k2 h' sb)
 unfold Builtin.«zip.__next__»;refine wpAny_bind (wpAny_pure (wpAny_bind (wpAny_field hz rfl (x:=.bool false) rfl (wpAny_bind (wpAny_field hz rfl (x:=.ref TI) rfl (wpAny_bind (wpAny_seqItems hTI rfl ?_)))))));refine wpAny_bind (thn free ?_);rintro _ s' ⟨rfl,rfl⟩;simp only[if_true];refine wpAny_bind (wpAny_rule (wpAny_bind (wpAny_field hz rfl (x:=.ref TO) rfl (wpAny_bind (wpAny_setField_rec hz (by simp) fun h1 z1 k1=>?_)))));simp only[List.zipIdx_cons,List.zipIdx_nil,List.forIn_cons,List.forIn_nil,bind_assoc];refine wpAny_bind (back (wpAny_bind (thn (go h1 z1 k1) fun x s2 ⟨o2,g2⟩=>wpAny_pure ?_)));refine wpAny_bind (wpAny_bind (wpAny_seqItems o2 rfl (wpAny_bind (wpAny_updateSeq_pair o2 fun h3 o3 k3=>wpAny_bind (wpAny_letGo (wpAny_pure ?_))))));refine wpAny_bind (wpAny_bind (back (wpAny_bind (thn (g2 h3 o3 k3) fun y s4 ⟨o4,g4⟩=>wpAny_pure ?_))));refine wpAny_bind (wpAny_bind (wpAny_seqItems o4 rfl (wpAny_bind (wpAny_updateSeq_pair o4 fun h5 o5 k5=>wpAny_bind (wpAny_letGo (wpAny_pure (wpAny_pure ?_)))))));obtain⟨z5,fin⟩:=g4 h5 o5 k5;have zlt:z<h5.objs.size:=Heap.lt_size z5;refine wpAny_bind (wpAny_seqItems o5 rfl (wpAny_bind (wpAny_newTuple ?_ (hsz:=(show 2<=sizeLine by decide)))));have z6:IsZip (h5.push (seqObj "tuple" #[x,y] 0)) z TI TO .ellipsis:=Heap.get?_push_of_some _ z5;refine wpAny_bind (show wpAny _ _ (setField (.ref z) 0 (rawInt h5.objs.size) >>= fun _=>setField (.ref z) 1 (.bool false)) _ _ _ from wpAny_bind (wpAny_setField_rec z6 (by simp) fun h7 z7 k7=>wpAny_setField_rec z7 (by simp) fun h8 z8 k8=>?_));have up:∀ c o,c≠z->(h5.push (seqObj "tuple" #[x,y] 0)).get? c=some o->h8.get? c=some o:=fun c o n e=>k8.extBut _ _ n (k7.extBut _ _ n e)
 refine wpAny_pure ⟨_,rfl,fin h8 z8 (up _ _ (Nat.ne_of_gt zlt) (Heap.get?_push_size _ rfl)) (by rw[k8.1,k7.1,Heap.size_push]) fun c o n e=>up c o n (Heap.get?_push_of_some _ e)⟩
theorem abv {h h':Heap}{it t:Addr}{i:Nat}(x:h.IsTupleIter it t i) (k:∀ o,h.get? it=some o->h'.get? it=some o):h'.IsTupleIter it t i:=let ⟨o,e,r⟩:=x;⟨o,k o e,r⟩
theorem aov {z TI TO i1 i2 l1 l2:Addr}{k1 k2:Nat}{xs ys:Array Value}{x y a b:Value}{Q:Option Value->Shared->Prop}(D:ZipApart z TI TO i1 i2 l1 l2) (hz:IsZip s.heap z TI TO .none) (hTI:IsPair s.heap TI (.ref i1) (.ref i2)) (hTO:IsPair s.heap TO a b)
  (h1:s.heap.IsTupleIter i1 l1 k1) (h2:s.heap.IsTupleIter i2 l2 k2) (hl1:s.heap.IsTuple l1 xs) (hl2:s.heap.IsTuple l2 ys) (hx:xs[k1]?=some x) (hy:ys[k2]?=some y)
  (out:∀ h',IsZip h' z TI TO (rawInt s.heap.objs.size)->IsPair h' TO x y->h'.IsTupleIter i1 l1 (k1+1)->h'.IsTupleIter i2 l2 (k2+1)->IsPair h' s.heap.objs.size x y->h'.objs.size=s.heap.objs.size+1 ->(∀ c o,c≠z->c≠TO->c≠i1->c≠i2->s.heap.get? c=some o->h'.get? c=some o)->Q (some (.ref s.heap.objs.size)) { s with heap:=h' }):wpAny (model prog w) A (pyNext (.ref z)) Q E s:=by
 have ty:s.TypeIs (.ref z) "zip" := ⟨_,hz,rfl⟩;unfold pyNext;refine wpAny_bind (wpAny_attempt (wpAny_callSpecial?_slot (name:=Str.ofString "__next__") ty F.slot_zip_next (wpAny_call_entry F.slot_zip_next ty F.entry_zip_next (ank (p:=a) (q:=b) hz hTI fun g1 z1 k1'=>?_) (F.args_zip_next_1 _))));have u1:∀ c o,c≠z->s.heap.get? c=some o->g1.get? c=some o:=fun c o n e=>k1'.extBut _ _ n e
 refine aes (abv h1 fun o e=>u1 _ o D.i1z e) (aca hl1 fun o e=>u1 _ o D.l1z e) hx fun g2 j1 k2'=>?_
 have u2:∀ c o,c≠i1->g1.get? c=some o->g2.get? c=some o:=fun c o n e=>k2'.extBut _ _ n e
 refine⟨u2 _ _ D.TOi1 (u1 _ _ D.TOz hTO),fun g3 o3 k3=>?_⟩;have u3:∀ c o,c≠TO->g2.get? c=some o->g3.get? c=some o:=fun c o n e=>k3.extBut _ _ n e
 refine aes (abv h2 fun o e=>u3 _ o D.TOi2.symm (u2 _ o D.i12.symm (u1 _ o D.i2z e))) (aca hl2 fun o e=>u3 _ o D.l2TO (u2 _ o D.l2i1 (u1 _ o D.l2z e))) hy fun g4 j2 k4=>?_
 have u4:∀ c o,c≠i2->g3.get? c=some o->g4.get? c=some o:=fun c o n e=>k4.extBut _ _ n e
 refine⟨u4 _ _ D.TOi2 o3,fun g5 o5 k5=>?_⟩;have u5:∀ c o,c≠TO->g4.get? c=some o->g5.get? c=some o:=fun c o n e=>k5.extBut _ _ n e
 have sz:g5.objs.size=s.heap.objs.size:=by rw[k5.1,k4.1,k3.1,k2'.1,k1'.1]
 refine⟨u5 _ _ D.TOz.symm (u4 _ _ D.i2z.symm (u3 _ _ D.TOz.symm (u2 _ _ D.i1z.symm z1))),fun h' q1 q2 q3 q4=>?_⟩;rw[sz] at q1 q2 q3 ⊢;refine wpAny_pure (out h' q1 (q4 _ _ D.TOz o5) (abv j1 fun o e=>q4 _ o D.i1z (u5 _ o D.TOi1.symm (u4 _ o D.i12 (u3 _ o D.TOi1.symm e)))) (abv j2 fun o e=>q4 _ o D.i2z (u5 _ o D.TOi2.symm e)) q2 q3 fun c o c1 c2 c3 c4 e=>?_);exact q4 c o c1 (u5 c o c2 (u4 c o c4 (u3 c o c2 (u2 c o c3 (u1 c o c1 e)))))
theorem ahq {z TI TO i1 i2 l1 l2:Addr}{k1 k2:Nat}{xs ys:Array Value}{a b:Value}{Q:Option Value->Shared->Prop}(calm:A.handled=none) (D:ZipApart z TI TO i1 i2 l1 l2) (hz:IsZip s.heap z TI TO .none) (hTI:IsPair s.heap TI (.ref i1) (.ref i2)) (hTO:IsPair s.heap TO a b)
  (h1:s.heap.IsTupleIter i1 l1 k1) (h2:s.heap.IsTupleIter i2 l2 k2) (hl1:s.heap.IsTuple l1 xs) (hl2:s.heap.IsTuple l2 ys) (hend:xs[k1]?=none\/ys[k2]?=none)
  (out:∀ h',(∀ c o,c≠z->c≠TO->c≠i1->c≠i2->s.heap.get? c=some o->h'.get? c=some o)->Q none { s with heap:=h' }):wpAny (model prog w) A (pyNext (.ref z)) Q E s:=by
 have ty:s.TypeIs (.ref z) "zip" := ⟨_,hz,rfl⟩;have ends:∀ (g:Heap) (e:Addr),(∀ c o,c≠z->c≠TO->c≠i1->c≠i2->s.heap.get? c=some o->g.get? c=some o)->(∃ o,g.get? e=some o/\o.cls = .type "StopIteration")->IsZip g z TI TO .ellipsis ->
   ai8 z TI TO (fun e s'=>wpAny (model prog w) A (do if ← isInstance e (.type "StopIteration") then pure none else throw e) Q E s') (.ref e) { s with heap:=g }:=fun g e k ⟨o,o1,o2⟩ zz=>by
  refine⟨zz,fun h' sb=>?_⟩;have ne:e≠z:=fun q=>by
   rw[q,zz] at o1;cases o1;injection o2 with y;exact absurd y (by decide)
  exact wpAny_bind (wpAny_isInstance (T := "StopIteration") (b:=true) ⟨o,sb.extBut _ _ ne o1,o2⟩ isSubtype_stop (wpAny_pure (out h' fun c o c1 c2 c3 c4 q=>sb.extBut _ _ c1 (k c o c1 c2 c3 c4 q))))
 unfold pyNext;refine wpAny_bind (wpAny_attempt (wpAny_callSpecial?_slot (name:=Str.ofString "__next__") ty F.slot_zip_next (wpAny_call_entry F.slot_zip_next ty F.entry_zip_next (ank (p:=a) (q:=b) hz hTI fun g1 z1 k1'=>?_) (F.args_zip_next_1 _))));have u1:∀ c o,c≠z->s.heap.get? c=some o->g1.get? c=some o:=fun c o n e=>k1'.extBut _ _ n e
 rcases Option.eq_none_or_eq_some xs[k1]? with e1 | ⟨x,e1⟩
 ·exact agm calm (abv h1 fun o e=>u1 _ o D.i1z e) (aca hl1 fun o e=>u1 _ o D.l1z e) e1 fun g2 e b2 x2=>ends g2 e (fun c o c1 _ c3 _ q=>b2 c o c3 (u1 c o c1 q)) x2 (b2 _ _ D.i1z.symm z1)
 ·refine aes (abv h1 fun o e=>u1 _ o D.i1z e) (aca hl1 fun o e=>u1 _ o D.l1z e) e1 fun g2 j1 k2'=>?_
  have u2:∀ c o,c≠i1->g1.get? c=some o->g2.get? c=some o:=fun c o n e=>k2'.extBut _ _ n e
  refine⟨u2 _ _ D.TOi1 (u1 _ _ D.TOz hTO),fun g3 o3 k3=>?_⟩;have u3:∀ c o,c≠TO->g2.get? c=some o->g3.get? c=some o:=fun c o n e=>k3.extBut _ _ n e
  have e2:ys[k2]?=none:=hend.elim (fun n=>by rw[n] at e1;cases e1) id;exact agm calm (abv h2 fun o e=>u3 _ o D.TOi2.symm (u2 _ o D.i12.symm (u1 _ o D.i2z e))) (aca hl2 fun o e=>u3 _ o D.l2TO (u2 _ o D.l2i1 (u1 _ o D.l2z e))) e2 fun g4 e b4 x4=>ends g4 e (fun c o c1 c2 c3 c4 q=>b4 c o c4 (u3 c o c2 (u2 c o c3 (u1 c o c1 q)))) x4 (b4 _ _ D.i2z.symm (u3 _ _ D.TOz.symm (u2 _ _ D.i1z.symm z1)))
end
section
variable {prog:Program}{w:World}{A:Around}{E:Value->Shared->Prop}{s:Shared}
theorem aug {z TI TO T i1 i2 l1 l2:Addr}{k1 k2:Nat}{f:Bool}{oT:Obj}{xs ys:Array Value}{x y:Value}{Q:Value->Shared->Prop}(D:ZipApart z TI TO i1 i2 l1 l2)
  (hz:ZipO s.heap z TI TO T f) (hT:s.heap.get? T=some oT) (hTI:IsPair s.heap TI (.ref i1) (.ref i2))
  (h1:s.heap.IsTupleIter i1 l1 k1) (h2:s.heap.IsTupleIter i2 l2 k2) (hl1:s.heap.IsTuple l1 xs) (hl2:s.heap.IsTuple l2 ys) (hx:xs[k1]?=some x) (hy:ys[k2]?=some y)
  (hQ:∀ h',ZipO h' z TI TO T true->h'.IsTupleIter i1 l1 (k1+1)->h'.IsTupleIter i2 l2 (k2+1)->IsPair h' s.heap.objs.size x y->h'.objs.size=s.heap.objs.size+1 ->(∀ c o,c≠z->c≠i1->c≠i2->s.heap.get? c=some o->h'.get? c=some o)->Q (.ref s.heap.objs.size) { s with heap:=h' }) :
  wpAny (model prog w) A (Builtin.«zip.__next__» ⟨[.ref z],[]⟩) (fun fin s'=>∃ v,fin = .done (.ret v)/\Q v s') E s:=by
 refine ago hz hT hTI fun h3 z3 k3=>?_
 have up1:∀ c o,c≠z->s.heap.get? c=some o->h3.get? c=some o:=fun c o n e=>k3.extBut _ _ n e
 have there:h3.IsTupleIter i1 l1 k1/\h3.IsTupleIter i2 l2 k2/\h3.IsTuple l1 xs/\h3.IsTuple l2 ys:=⟨abv h1 fun o e=>up1 _ o D.i1z e,abv h2 fun o e=>up1 _ o D.i2z e,aca hl1 fun o e=>up1 _ o D.l1z e,aca hl2 fun o e=>up1 _ o D.l2z e⟩;refine aes there.1 there.2.2.1 hx fun h4 j1 k4=>?_
 have up2:∀ c o,c≠i1->h3.get? c=some o->h4.get? c=some o:=fun c o n e=>k4.extBut _ _ n e
 refine aes (abv there.2.1 fun o e=>up2 _ o D.i12.symm e) (aca there.2.2.2 fun o e=>up2 _ o D.l2i1 e) hy fun h5 j2 k5=>?_
 have up3:∀ c o,c≠i2->h4.get? c=some o->h5.get? c=some o:=fun c o n e=>k5.extBut _ _ n e
 have n5:h5.objs.size=s.heap.objs.size:=k5.1.trans (k4.1.trans k3.1);have more:∀ {c:Addr} {o p:Obj},h5.get? c=some o->(h5.push p).get? c=some o:=fun e=>Heap.get?_push_of_some _ e
 refine wpAny_newTuple ⟨_,rfl,?_⟩ (hsz:=(show 2<=sizeLine by decide));have last:=hQ (h5.push (seqObj "tuple" #[x,y] 0)) (more (up3 _ _ D.i2z.symm (up2 _ _ D.i1z.symm z3))) (abv j1 fun o e=>more (up3 _ o D.i12 e)) (abv j2 fun o e=>more e) (n5▸Heap.get?_push_size _ rfl) ((Heap.size_push ..).trans (by rw[n5]))
  fun c o c1 c2 c3 e=>more (up3 _ _ c3 (up2 _ _ c2 (up1 _ _ c1 e)))
 rw[← n5] at last;exact last
theorem akw {z TI TO T i1 i2 l1 l2:Addr}{k1 k2:Nat}{f:Bool}{oT:Obj}{xs ys:Array Value}{Q:Fin->Shared->Prop}(hh:A.handled=none) (D:ZipApart z TI TO i1 i2 l1 l2)
  (hz:ZipO s.heap z TI TO T f) (hT:s.heap.get? T=some oT) (hTI:IsPair s.heap TI (.ref i1) (.ref i2))
  (h1:s.heap.IsTupleIter i1 l1 k1) (h2:s.heap.IsTupleIter i2 l2 k2) (hl1:s.heap.IsTuple l1 xs) (hl2:s.heap.IsTuple l2 ys) (hend:xs[k1]?=none\/ys[k2]?=none)
  (hE:∀ h' e,(∀ c o,c≠z->c≠i1->c≠i2->s.heap.get? c=some o->h'.get? c=some o)->(∃ o,h'.get? e=some o/\o.cls = .type "StopIteration")->E (.ref e) { s with heap:=h' }) :
  wpAny (model prog w) A (Builtin.«zip.__next__» ⟨[.ref z],[]⟩) Q E s:=by
 refine ago hz hT hTI fun h3 z3 k3=>?_
 have up1:∀ c o,c≠z->s.heap.get? c=some o->h3.get? c=some o:=fun c o n e=>k3.extBut _ _ n e
 have there:h3.IsTupleIter i1 l1 k1/\h3.IsTuple l1 xs:=⟨abv h1 fun o e=>up1 _ o D.i1z e,aca hl1 fun o e=>up1 _ o D.l1z e⟩;rcases Option.eq_none_or_eq_some xs[k1]? with e1 | ⟨x,e1⟩
 ·exact agm hh there.1 there.2 e1 fun h4 e b4 x4=>hE h4 e (fun c o c1 c2 _ q=>b4 c o c2 (up1 c o c1 q)) x4
 ·refine aes there.1 there.2 e1 fun h4 j1 k4=>?_
  have up2:∀ c o,c≠z->c≠i1->s.heap.get? c=some o->h4.get? c=some o:=fun c o n m e=>k4.extBut _ _ m (up1 c o n e)
  have e2:ys[k2]?=none:=hend.elim (fun n=>by rw[n] at e1;cases e1) id;exact agm hh (abv h2 fun o e=>up2 _ o D.i2z D.i12.symm e) (aca hl2 fun o e=>up2 _ o D.l2z D.l2i1 e) e2 fun h5 e b5 x5=>hE h5 e (fun c o c1 c2 c3 q=>b5 c o c3 (up2 c o c1 c2 q)) x5
theorem asl {z TI TO i1 i2 l1 l2:Addr}{k:Nat}{xs ys:Array Value}{x y:Value}{Q:Option Value->Shared->Prop}(D:ZipApart z TI TO i1 i2 l1 l2)
  (hz:ahv s.heap z TI TO i1 i2) (h1:s.heap.IsTupleIter i1 l1 k) (h2:s.heap.IsTupleIter i2 l2 k) (hl1:s.heap.IsTuple l1 xs) (hl2:s.heap.IsTuple l2 ys) (hx:xs[k]?=some x) (hy:ys[k]?=some y)
  (hQ:∀ h',ahv h' z TI TO i1 i2->h'.IsTupleIter i1 l1 (k+1)->h'.IsTupleIter i2 l2 (k+1)->IsPair h' s.heap.objs.size x y->h'.objs.size=s.heap.objs.size+1 ->(∀ c o,c≠z->c≠TO->c≠i1->c≠i2->s.heap.get? c=some o->h'.get? c=some o)->Q (some (.ref s.heap.objs.size)) { s with heap:=h' }) :
  wpAny (model prog w) A (pyNext (.ref z)) Q E s:=by
 obtain⟨hTI,⟨a,b,hTO⟩,hz⟩:=hz;obtain⟨o1,p1,_⟩:=id h1;obtain⟨o2,p2,_⟩:=id h2;have fr:∀ {c o},s.heap.get? c=some o->s.heap.objs.size≠c:=fun e=>(Nat.ne_of_lt (Heap.lt_size e)).symm
 rcases hz with hz | ⟨T,f,o,hz,hT,t1,t2,t3,t4⟩
 ·refine aov D hz hTI hTO h1 h2 hl1 hl2 hx hy fun h' a1 a2 a3 a4 a5 a6 a7=>?_
  exact hQ h' ⟨a7 _ _ D.TIz D.TITO D.TIi1 D.TIi2 hTI,⟨_,_,a2⟩,.inr ⟨_,false,_,a1,a5,fr hz,fr hTO,fr p1,fr p2⟩⟩ a3 a4 a5 a6 a7
 ·have hTy:s.TypeIs (.ref z) "zip" := ⟨_,hz,rfl⟩;unfold pyNext;refine wpAny_bind (wpAny_attempt (wpAny_callSpecial?_slot (name:=Str.ofString "__next__") hTy F.slot_zip_next (wpAny_call_entry F.slot_zip_next hTy F.entry_zip_next (aug D hz hT hTI h1 h2 hl1 hl2 hx hy fun h' a1 a3 a4 a5 a6 a7=>wpAny_pure ?_) (F.args_zip_next_1 _))));exact hQ h' ⟨a7 _ _ D.TIz D.TIi1 D.TIi2 hTI,⟨_,_,a7 _ _ D.TOz D.TOi1 D.TOi2 hTO⟩,.inr ⟨T,true,_,a1,a7 _ _ t1 t3 t4 hT,t1,t2,t3,t4⟩⟩ a3 a4 a5 a6 fun c o c1 _ c3 c4 e=>a7 c o c1 c3 c4 e
theorem apc {z TI TO i1 i2 l1 l2:Addr}{k:Nat}{xs ys:Array Value}{Q:Option Value->Shared->Prop}(hh:A.handled=none) (D:ZipApart z TI TO i1 i2 l1 l2)
  (hz:ahv s.heap z TI TO i1 i2) (h1:s.heap.IsTupleIter i1 l1 k) (h2:s.heap.IsTupleIter i2 l2 k) (hl1:s.heap.IsTuple l1 xs) (hl2:s.heap.IsTuple l2 ys) (hend:xs[k]?=none\/ys[k]?=none)
  (hQ:∀ h',(∀ c o,c≠z->c≠TO->c≠i1->c≠i2->s.heap.get? c=some o->h'.get? c=some o)->Q none { s with heap:=h' }):wpAny (model prog w) A (pyNext (.ref z)) Q E s:=by
 obtain⟨hTI,⟨a,b,hTO⟩,hz⟩:=hz;rcases hz with hz | ⟨T,f,o,hz,hT,t1,t2,t3,t4⟩
 ·exact ahq hh D hz hTI hTO h1 h2 hl1 hl2 hend hQ
 ·have hTy:s.TypeIs (.ref z) "zip" := ⟨_,hz,rfl⟩;unfold pyNext;refine wpAny_bind (wpAny_attempt (wpAny_callSpecial?_slot (name:=Str.ofString "__next__") hTy F.slot_zip_next (wpAny_call_entry F.slot_zip_next hTy F.entry_zip_next (akw hh D hz hT hTI h1 h2 hl1 hl2 hend fun h' e hk he=>?_) (F.args_zip_next_1 _))));obtain⟨o,ho,hc⟩:=he;refine wpAny_bind (wpAny_isInstance (T := "StopIteration") (b:=true) ⟨o,ho,hc⟩ isSubtype_stop ?_);exact wpAny_pure (hQ _ fun c o c1 _ c3 c4 e=>hk c o c1 c3 c4 e)
end
section
variable {prog:Program}{w:World}{K:Type} [DecidableEq K] {knd:KeyKind prog w K}{A:Around}{R:Result->Shared->Prop}
theorem ao5 {z TI TO i1 i2 l1 l2 d:Addr}(hh:A.handled=none) (D:ZipApart z TI TO i1 i2 l1 l2) (hd:d∉[z,TI,TO,i1,i2,l1,l2]){xs ys:Array Value}(more:List (K×Value)) (hn:more.length=min xs.size ys.size) (hb:more.length<=sizeLine)
  (hT:∀ (i:Nat) x y,xs[i]?=some x->ys[i]?=some y->∃ k,knd.is k x=true/\more[i]?=some (k,y)) (h0:Heap) :
  ∀ (m i:Nat) (s:Shared),more.length-i=m->i<=more.length->ahv s.heap z TI TO i1 i2->s.heap.IsTupleIter i1 l1 i->s.heap.IsTupleIter i2 l2 i->s.heap.IsTuple l1 xs->s.heap.IsTuple l2 ys->(∀ b o,b∉[z,TO,i1,i2,d]->h0.get? b=some o->s.heap.get? b=some o)->s.heap.DictOf knd d (merged [] (more.take i)) ->
   (∀ h' tk,(∀ b o,b∉[z,TO,i1,i2,d]->h0.get? b=some o->h'.get? b=some o)->h'.DictOf knd d (merged [] more)->R (.ok (.ret .none)) { s with heap:=h',toks:=tk }) ->
   codeAny (model prog w) A (.builtin "dict.update.loop" ⟨[.ref d,.ref z,.int (i:Int) 0,.none],[]⟩) R s:=by
 simp only[List.mem_cons,List.not_mem_nil,or_false,not_or] at hd;obtain⟨d1,d2,d3,d4,d5,d6,d7⟩:=hd;have na:∀ {b:Addr},b∉[z,TO,i1,i2,d]->b≠z/\b≠TO/\b≠i1/\b≠i2/\b≠d:=fun hb=>by
  simpa only [List.mem_cons,List.not_mem_nil,or_false,not_or] using hb
 intro m;induction m with
 | zero =>
  intro i s hm hi hz h1 h2 hl1 hl2 kp hS hR;have ei:i=more.length:=by omega
  subst ei;rw[List.take_of_length_le (Nat.le_refl _)] at hS;refine codeAny_builtin aat ?_;rw[Around.under_plainId aah _];show wpAny _ A.in1 (pyNext (.ref z) >>= _) _ _ s;refine wpAny_bind (apc (by simpa using hh) D hz h1 h2 hl1 hl2 ?_ fun h' kk=>?_)
  ·rcases Nat.le_total xs.size ys.size with q | q
   ·exact .inl (Array.getElem?_eq_none (by omega))
   ·exact .inr (Array.getElem?_eq_none (by omega))
  ·show wpAny _ A.in1 (Builtin.Dict.addKeywords d [] >>= _) _ _ _;refine wpAny_bind (wpAny_pure ?_);obtain⟨o,es,ep,ho,rest⟩:=hS;exact wpAny_pure (hR h' _ (fun b o hb e=>let ⟨b1,b2,b3,b4,b5⟩:=na hb;kk b o b1 b2 b3 b4 (kp b o hb e)) ⟨o,es,ep,kk d _ d1 d3 d4 d5 ho,rest⟩)
 | succ m ih =>
  intro i s hm hi hz h1 h2 hl1 hl2 kp hS hR;have hlt:i<more.length:=by omega
  obtain⟨x,hx⟩:∃ x,xs[i]?=some x:=⟨_,Array.getElem?_eq_getElem (by omega)⟩;obtain⟨y,hy⟩:∃ y,ys[i]?=some y:=⟨_,Array.getElem?_eq_getElem (by omega)⟩;obtain⟨ky,hkey,hmore⟩:=hT i x y hx hy;refine codeAny_builtin aat ?_;rw[Around.under_plainId aah _];show wpAny _ A.in1 (pyNext (.ref z) >>= _) _ _ s;refine wpAny_bind (asl D hz h1 h2 hl1 hl2 hx hy fun h' z' i1' i2' pr sz kk=>?_);have hS1:h'.DictOf knd d (merged [] (more.take i)):=by
   obtain⟨o,es,ep,ho,rest⟩:=hS;exact⟨o,es,ep,kk d _ d1 d3 d4 d5 ho,rest⟩
  have kl1:h'.IsTuple l1 xs:=aca hl1 fun o e=>kk l1 o D.l1z D.l1TO D.l1i1 D.l1i2 e
  have kl2:h'.IsTuple l2 ys:=aca hl2 fun o e=>kk l2 o D.l2z D.l2TO D.l2i1 D.l2i2 e
  have pd:s.heap.objs.size≠d:=by
   obtain⟨o,es,ep,ho,rest⟩:=hS;exact (Nat.ne_of_lt (Heap.lt_size ho)).symm
  show wpAny _ A.in1 (holding [Value.ref s.heap.objs.size] _ >>= _) _ _ _;refine wpAny_bind (wpAny_holding ?_);refine wpAny_bind (wpAny_tryCatch ?_);unfold Builtin.Dict.pairItems;refine wpAny_bind (wpAny_typeOf (T := "tuple") ⟨_,pr,rfl⟩ ?_);rw[if_pos (by decide)];refine wpAny_bind (wpAny_seqItems pr rfl ?_);refine wpAny_pure ?_;show wpAny _ A.in1 (holding [x,y] (dictSet d x y)) _ _ _;refine wpAny_holding ?_;have hroom:(merged [] (more.take i)).length<=sizeLine:=by
   have e1:=merged_length_le ([]:List (K×Value)) (more.take i);rw[List.length_nil,List.length_take] at e1;omega
  refine wpAny_dictSet_pairs (hsz:=hroom) hkey hS1 fun h2' hS2 sb=>?_
  rw[← merged_take_succ [] more i (ky,y) hmore] at hS2;refine wpAny_pure ⟨plainId_quiet aah _,?_⟩;have e1:(rawInt ((i:Int)+1))=Value.int ((i+1:Nat):Int) 0:=by rfl
  rw[e1];have up:∀ b o,b≠d->h'.get? b=some o->h2'.get? b=some o:=fun b o hb e=>by rw[sb.2 b hb];exact e
  have zz:ahv h2' z TI TO i1 i2:=by
   obtain⟨p1,⟨a,b,p2⟩,p3⟩:=z';refine⟨up _ _ (Ne.symm d2) p1,⟨a,b,up _ _ (Ne.symm d3) p2⟩,?_⟩;rcases p3 with p3 | ⟨T,f,o,q1,q2,q3,q4,q5,q6⟩
   ·exact .inl (up _ _ (Ne.symm d1) p3)
   ·by_cases hTd:T=d
    ·subst hTd;obtain⟨o',es,ep,ho,rest⟩:=hS2;exact .inr ⟨T,f,_,up _ _ (Ne.symm d1) q1,ho,q3,q4,q5,q6⟩
    ·exact .inr ⟨T,f,o,up _ _ (Ne.symm d1) q1,up _ _ hTd q2,q3,q4,q5,q6⟩
  refine ih (i+1) _ (by omega) hlt zz (abv i1' fun o e=>up _ o (Ne.symm d4) e) (abv i2' fun o e=>up _ o (Ne.symm d5) e) (aca kl1 fun o e=>up _ o (Ne.symm d6) e) (aca kl2 fun o e=>up _ o (Ne.symm d7) e) (fun b o hb e=>?_) hS2 fun h'' tk kk'' hS''=>hR h'' tk kk'' hS''
  obtain⟨b1,b2,b3,b4,b5⟩:=na hb;exact up b o b5 (kk b o b1 b2 b3 b4 (kp b o hb e))
set_option maxHeartbeats 800000 in
theorem ahs {E:Value->Shared->Prop}{s:Shared}{z TI TO i1 i2 l1 l2:Addr}{xs ys:Array Value}{more:List (K×Value)}{Q:Value->Shared->Prop}(hh:A.handled=none) (D:ZipApart z TI TO i1 i2 l1 l2)
  (hz:IsZip s.heap z TI TO .none) (hTI:IsPair s.heap TI (.ref i1) (.ref i2)) (hTO:IsPair s.heap TO .none .none) (h1:s.heap.IsTupleIter i1 l1 0) (h2:s.heap.IsTupleIter i2 l2 0) (hl1:s.heap.IsTuple l1 xs) (hl2:s.heap.IsTuple l2 ys)
  (hn:more.length=min xs.size ys.size) (hb:more.length<=sizeLine) (hT:∀ (i:Nat) x y,xs[i]?=some x->ys[i]?=some y->∃ k,knd.is k x=true/\more[i]?=some (k,y))
  (h:∀ (h':Heap) (tk:Nat),h'.DictOf knd s.heap.objs.size (merged [] more)->(∀ b o,b∉[z,TO,i1,i2]->s.heap.get? b=some o->h'.get? b=some o)->Q (.ref s.heap.objs.size) { s with heap:=h',toks:=tk }) :
  wpAny (model prog w) A (call (.type "dict") [.ref z]) Q E s:=by
 let d:=s.heap.objs.size;have made:(ac1 s).heap.DictOf knd d []:=Heap.DictOf.new s.heap;have old:∀ b o,s.heap.get? b=some o->(ac1 s).heap.get? b=some o:=fun b o e=>Heap.get?_push_of_some _ e
 refine callType_codes F.kt_called_dict (F.kt_typeCall_dict_1 _) F.entry_dict_init (kt_code_dict_new _ (Q₁:=fun v s1=>v = .ref d/\s1=ac1 s) ⟨rfl,rfl⟩) fun v s1 q=>?_
 obtain⟨rfl,rfl⟩:=q;refine⟨made.typeIs,F.args_dict_init_2 _ _,aoa made.typeIs (old _ _ hz) (by simp[hh]) fun h2' tk e x=>⟨plainId_quiet aah _,?_⟩⟩;have keeps:∀ b o,s.heap.get? b=some o->h2'.get? b=some o:=fun b o e=>x.keeps _ _ (old b o e)
 obtain⟨o1,p1,_⟩:=id h1;obtain⟨o2,p2,_⟩:=id h2;obtain⟨o3,p3,_⟩:=id hl1;obtain⟨o4,p4,_⟩:=id hl2;have nd:∀ {b o},s.heap.get? b=some o->d≠b:=fun e=>(Nat.ne_of_lt (Heap.lt_size e)).symm
 have at2:h2'.DictOf knd d []:=by
  obtain⟨o,es,ep,p,r⟩:=made;exact⟨o,es,ep,x.keeps _ _ p,r⟩
 refine ao5 (knd:=knd) (by simp[hh]) D ?_ more hn hb hT s.heap more.length 0 _ rfl (Nat.zero_le _) ⟨keeps _ _ hTI,⟨_,_,keeps _ _ hTO⟩,.inl (keeps _ _ hz)⟩ (abv h1 fun o e=>keeps _ o e) (abv h2 fun o e=>keeps _ o e) (aca hl1 fun o e=>keeps _ o e) (aca hl2 fun o e=>keeps _ o e) (fun b o _ e=>keeps b o e) (by simpa [merged] using at2) fun h' tk' kk fin=>?_
 ·simp only[List.mem_cons,List.not_mem_nil,or_false,not_or];exact⟨nd hz,nd hTI,nd hTO,nd p1,nd p2,nd p3,nd p4⟩
 ·refine⟨rfl,h h' tk' fin fun b o hb e=>kk b o (fun q=>?_) e⟩;simp only[List.mem_cons,List.not_mem_nil,or_false,not_or] at hb q;rcases q with q | q | q | q | q
  ·exact hb.1 q
  ·exact hb.2.1 q
  ·exact hb.2.2.1 q
  ·exact hb.2.2.2 q
  ·exact nd e q.symm
end
structure ZipMade (h h':Heap) (s t:Addr):Prop where
 z:IsZip h' (h.objs.size+4) (h.objs.size+2) (h.objs.size+3) .none
 ti:IsPair h' (h.objs.size+2) (.ref h.objs.size) (.ref (h.objs.size+1))
 to:IsPair h' (h.objs.size+3) .none .none
 i1:h'.IsTupleIter h.objs.size s 0
 i2:h'.IsTupleIter (h.objs.size+1) t 0
 sz:h'.objs.size=h.objs.size+5
 kp:∀ c o,h.get? c=some o->h'.get? c=some o
def itO (t:Addr):Obj:={ cls:=.type "tuple_iterator",data:=.fields #[.ref t,.int 0 0] }
def prO (a b:Value):Obj:={ cls:=.type "tuple",data:=.seq #[a,b] }
def zpO (a b:Addr):Obj:={ cls:=.type "zip",data:=.fields #[.none,.bool false,.bool false,.ref a,.ref b] }
def ark (h:Heap) (s t:Addr):Heap:=((((h.push (itO s)).push (itO t)).push (prO (.ref h.objs.size) (.ref (h.push (itO s)).objs.size))).push (prO .none .none)).push (zpO ((h.push (itO s)).push (itO t)).objs.size (((h.push (itO s)).push (itO t)).push (prO (.ref h.objs.size) (.ref (h.push (itO s)).objs.size))).objs.size)
theorem amg (h:Heap) (s t:Addr):ZipMade h (ark h s t) s t:=by
 have n1:(h.push (itO s)).objs.size=h.objs.size+1:=Heap.size_push ..;have n2:((h.push (itO s)).push (itO t)).objs.size=h.objs.size+2:=by rw[Heap.size_push,n1]
 have n3:∀ p,(((h.push (itO s)).push (itO t)).push p).objs.size=h.objs.size+3:=fun p=>by rw[Heap.size_push,n2]
 have n4:∀ p q,((((h.push (itO s)).push (itO t)).push p).push q).objs.size=h.objs.size+4:=fun p q=>by rw[Heap.size_push,n3]
 have at_:∀ (g:Heap) (o:Obj) (n:Nat),o.isFreed=false->g.objs.size=n->(g.push o).get? n=some o:=fun g o n f e=>by rw[← e];exact Heap.get?_push_size _ f
 have on:∀ {g:Heap} {o p:Obj} {c:Addr},g.get? c=some o->(g.push p).get? c=some o:=fun e=>Heap.get?_push_of_some _ e
 unfold ark;rw[n1,n2,n3];exact {
  z:=at_ _ _ _ rfl (n4 _ _)
  ti:=on (on (at_ _ _ _ rfl n2))
  to:=on (at_ _ _ _ rfl (n3 _))
  i1:=⟨_,on (on (on (on (Heap.get?_push_size _ rfl)))),rfl,rfl⟩
  i2:=⟨_,on (on (on (at_ _ _ _ rfl n1))),rfl,rfl⟩
  sz:=by rw[Heap.size_push,n4]
  kp:=fun c o e=>on (on (on (on (on e)))) }
set_option maxHeartbeats 2000000 in
theorem ahp (l m:Addr) (xs ys:Array Value):Meets (Builtin.«zip.__new__» ⟨[.type "zip",.ref l,.ref m],[]⟩) (fun _ R s=>s.heap.IsTuple l xs/\s.heap.IsTuple m ys /\ ∀ h',h'=ark s.heap l m->∀ n,n=s.heap.objs.size+4->R (.ok (.ret (.ref n))) { s with heap:=h' }) :=
 .of_wp fun prog w A R s h=>by
  obtain⟨hp,g,d,tk,os⟩:=s;obtain⟨T1,T2,h⟩:=h;have under:=sub_zip;have T1':Heap.IsTuple (Shared.heap ⟨hp,g,d,tk,os⟩) l xs:=T1;have T2':Heap.IsTuple (Shared.heap ⟨hp.push { cls:=.type "tuple_iterator",data:=.fields #[.ref l,.int 0 0] },g,d,tk,os⟩) m ys:=aca T2 fun o e=>Heap.get?_push_of_some _ e
  wp_walk using wpAny_pyIter_tuple T1',wpAny_pyIter_tuple T2'
  refine⟨_,rfl,h _ rfl _ ?_⟩;rw[Heap.size_push,Heap.size_push,Heap.size_push,Heap.size_push]
section
variable {prog:Program}{w:World}{A:Around}{E:Value->Shared->Prop}{s:Shared}
theorem aj6 {l m:Addr}{xs ys:Array Value}{Q:Value->Shared->Prop}(T1:s.heap.IsTuple l xs) (T2:s.heap.IsTuple m ys)
  (q:∀ h',IsZip h' (s.heap.objs.size+4) (s.heap.objs.size+2) (s.heap.objs.size+3) .none->IsPair h' (s.heap.objs.size+2) (.ref s.heap.objs.size) (.ref (s.heap.objs.size+1))->IsPair h' (s.heap.objs.size+3) .none .none ->h'.IsTupleIter s.heap.objs.size l 0->h'.IsTupleIter (s.heap.objs.size+1) m 0->h'.objs.size=s.heap.objs.size+5->(∀ c o,s.heap.get? c=some o->h'.get? c=some o)->Q (.ref (s.heap.objs.size+4)) { s with heap:=h' }) :
  wpAny (model prog w) A (call (.type "zip") [.ref l,.ref m]) Q E s:=by
 refine callType_new F.called_zip (by decide) (F.typeCall_zip_2 _ _) (F.newCall_zip_2 _ _) (fun obj=>F.args_object_init_3 obj _ _) F.entry_zip_new (ahp l m xs ys) ⟨T1,T2,fun h' e n en=>?_⟩;subst e en;have M:=amg s.heap l m;exact⟨⟨_,M.z,rfl⟩,q _ M.z M.ti M.to M.i1 M.i2 M.sz M.kp⟩
end
end PySem
namespace L2
open PySem PySem.Spec PyProof.Rows Lw
section
variable {X:Cx}{a b:Expr}{ta:TA}{p p' pos pos':Pos}
def tDZT (K:PySem.W.Frag) (ta:TA):TE:=fun σ H Q=>ta σ H fun xs H1=>∃ (l m:Addr) (ks:List Key) (vs:List V),xs=[.ref l,.ref m]/\SqT K H1 l (ks.map kV)/\SqT K H1 m vs/\ks.length<=1000/\∀ d,H1 d=none->Q (.ref d) (upd H1 d (.dK (abz [] (ks.zip vs))))
theorem as8 (hcalm:X.calm=true) (hg:Gl X "dict") (hm:X.mg "dict" = none) (hg':Gl X "zip") (hm':X.mg "zip" = none) (ha:PA X [a,b] ta)
  (hs:starEach [a,b] X.env=(false,eval a X.env)::starEach [b] X.env:=by rfl) (hs2:(backTo pos' (starEach [b] X.env)).any (·.1)=false:=by rfl) :
  PE X (.Call (.Name "dict" p) [.Call (.Name "zip" p') [a,b] [] pos'] [] pos) (tDZT X.K ta):=by
 intro pins s σ H Q I h;refine wpAny_Call_Name_kw (afo I hg hm boot_dict ?_ (by decide) (by decide));refine PyProof.Rows.callWith_type1 ?_ rfl rfl;show wpAny _ _ (spliced ((false,eval (.Call (.Name "zip" p') [a,b] [] pos') X.env)::backTo pos (starEach [] X.env))) _ _ s;refine Calls.spliced_cons ?_;refine wpAny_Call_Name_kw (afo I hg' hm' boot_zip ?_ (by decide) (by decide));refine PyProof.Rows.callWith_type1 (thn (ha pos' pins s σ H _ I h) fun us s1 ⟨xs,H1,I1,r1,q1⟩=>?_) hs hs2;obtain⟨l,m,ks,vs,rfl,hl,hv,hn,q⟩:=q1;obtain⟨u1,u2,rfl,ru1,ru2⟩:∃ u1 u2,us=[u1,u2]/\RelV (.ref l) u1/\RelV (.ref m) u2:=by
  cases r1 with | cons r1 r2=>cases r2 with | cons r2 r3=>cases r3;exact⟨_,_,rfl,r1,r2⟩
 cases ru1;cases ru2;obtain⟨its,r',pl,_⟩:=I1.tuple hl;obtain⟨jts,r2',pl2,_⟩:=I1.tuple hv;refine aj6 (show s1.heap.IsTuple l its.toArray from pl) (show s1.heap.IsTuple m jts.toArray from pl2) fun h' z1 z2 z3 z4 z5 z6 z7=>?_
 refine Calls.spliced_nil ?_;have L1:=r'.length;have L2:=r2'.length;rw[List.length_map] at L1;have hkv:=arp ks r2';have lt1:l<s1.heap.objs.size:=by obtain⟨_,e,_⟩:=(show s1.heap.IsTuple l its.toArray from pl);exact Heap.lt_size e
 have lt2:m<s1.heap.objs.size:=by obtain⟨_,e,_⟩:=(show s1.heap.IsTuple m jts.toArray from pl2);exact Heap.lt_size e
 refine ahs (knd:=aa8 X.prog X.w) (more:=ks.zip jts) (s:={ s1 with heap:=h' }) (I1.ok.hd hcalm) (zipApart_new lt1 lt2) z1 z2 z3 z4 z5 (aca (show s1.heap.IsTuple l its.toArray from pl) fun o e=>z7 _ o e) (aca (show s1.heap.IsTuple m jts.toArray from pl2) fun o e=>z7 _ o e) ?_ ?_ ?_ fun h2 tk hD hk=>?_
 ·rw[List.length_zip,List.size_toArray,List.size_toArray];omega
 ·rw[List.length_zip];exact Nat.le_of_lt (Nat.lt_of_le_of_lt (show min ks.length jts.length<=1000 by omega) (by decide))
 ·intro i x y hx hy;have hx:its[i]?=some x:=by simpa using hx
  have hy:jts[i]?=some y:=by simpa using hy
  obtain⟨hi,_⟩:=List.getElem?_eq_some_iff.mp hx;obtain⟨u,hu,ru⟩:=r'.get (i:=i) (x:=kV (ks[i]'(by omega))) (by simp[show i<ks.length by omega]);rw[hu] at hx;cases hx;refine⟨ks[i]'(by omega),aht ru,?_⟩;rw[List.getElem?_zip_eq_some];exact⟨List.getElem?_eq_getElem _,hy⟩
 ·have hz2:(abz [] (ks.zip vs)).length<=sizeLine:=by
   have h1:=ace (ks.zip vs) [];rw[List.length_nil,List.length_zip] at h1;exact Nat.le_of_lt (Nat.lt_of_le_of_lt (show (abz [] (ks.zip vs)).length<=1000 by omega) (by decide))
  have hsz:s1.heap.objs.size<=h'.objs.size:=by omega
  have kp:∀ b o,s1.heap.get? b=some o->h2.get? b=some o:=fun b o e=>hk b o (fun q=>by
   have:=Heap.lt_size e;simp only[List.mem_cons,List.not_mem_nil,or_false] at q;rcases q with q | q | q | q<;>rw[q] at this<;>first | exact absurd this (Nat.lt_irrefl _) | exact absurd this (Nat.not_lt.mpr (Nat.le_add_right _ _))) (z7 b o e)
  refine⟨.ref h'.objs.size,_,I1.laid (a:=h'.objs.size) (o:=.dK (abz [] (ks.zip vs))) (t':=tk) kp hsz ?_,rfl,q _ (I1.hok.fresh hsz)⟩;exact agx hz2 (beq_eq_false_iff_ne.mpr (Ne.symm (Nat.ne_of_lt (Nat.lt_of_lt_of_le I1.big hsz)))) (hkv.merge .nil) hD
end
section
variable {X:Cx}{K:PySem.W.Frag}
def fDZT:OC:=fun ds Φ=>match ds with
 | [.tup xs,.tup ys]=>∃ ks,ali xs=some ks/\ks.length<=1000/\Φ (.own (.dK (acz [] (ks.zip ys))))
 | _=>False
theorem cd_dzT:ael K (fun xs H Q=>∃ (l m:Addr) (ks:List Key) (vs:List V),xs=[.ref l,.ref m]/\SqT K H l (ks.map kV)/\SqT K H m vs/\ks.length<=1000/\∀ d,H d=none->Q (.ref d) (upd H d (.dK (abz [] (ks.zip vs))))) fDZT:=by
 intro B L H ds xs Φ Q hd hp hf k;cases ds with
 | nil=>exact False.elim hf
 | cons d ds =>
 cases d<;>first | exact False.elim hf | skip
 cases ds with
 | nil=>exact False.elim hf
 | cons e ds =>
 cases e<;>first | exact False.elim hf | skip
 cases ds with
 | cons _ _=>exact False.elim hf
 | nil =>
 ·obtain⟨x,y,rfl,px,py⟩:=aks hp;obtain⟨ks,hk,hl,hf⟩:=hf;obtain⟨a,us,rfl,ha,ra⟩:=px.tup_inv;obtain⟨b,vs,rfl,hb,rb⟩:=py.tup_inv;have e:=akn hk ra;subst e;obtain⟨z1,z2⟩:=ae8 ks rb;obtain⟨q1,q2⟩:=aea (kvs:=[]) (vs:=[]) z1 z2 rfl .nil;exact⟨a,b,ks,vs,rfl,SqT.of ha,SqT.of hb,hl,fun p hp=>k _ _ _ hf (hd.dKF hp q1 q2)⟩
variable {a b:Expr}{ta:TAd}{p p' pos pos':Pos}
theorem as2 (hcalm:X.calm=true) (hg:Gl X "dict") (hm:X.mg "dict" = none) (hg':Gl X "zip") (hm':X.mg "zip" = none) (ha:PAd X [a,b] ta)
  (hs:starEach [a,b] X.env=(false,eval a X.env)::starEach [b] X.env:=by rfl) (hs2:(backTo pos' (starEach [b] X.env)).any (·.1)=false:=by rfl) :
  PD X (.Call (.Name "dict" p) [.Call (.Name "zip" p') [a,b] [] pos'] [] pos) (dC fDZT ta):=(as8 hcalm hg hm hg' hm' ha hs hs2).mono fun _ _ _ h=>aje cd_dzT h
end
theorem awb {H:Hp}{a:Addr}{o:HO}(h:H a=some o):upd H a o=H:=by
 funext b
 by_cases e:b=a
 ·subst e;rw[aaa,h]
 ·rw[aad e]
theorem Dk.sameK {dk:List Addr}{H H':Hp}(h:Dk dk H) (s:Same H H'):Dk dk H':=h.keep fun a ha=>by
 obtain⟨xs,e⟩:=h.some ha;rw[e,s a _ e]
theorem DS.unset {K:PySem.W.Frag}{B:Bs}{T:Ents}{H:Hp}{ρ:List Sl}{σ:St}(hl:ρ.length=σ.length) (h:DS K B (ρ.zip σ++T) H){m:Nat}(hm:m<ρ.length) (y:Option V):DS K B ((ρ.set m .no).zip (σ.set m y)++T) H:=by
 obtain⟨l1,y0,l2,_,_,hz,hset⟩:=aey hl (List.getElem?_eq_getElem hm);rw[hset,List.append_assoc,List.cons_append];rw[hz,List.append_assoc,List.cons_append] at h;exact h.drop.pushN y
end L2
namespace Lw
open PySem L2
def vT (t:Tab):List (Key×V):=t.map fun p=>(Sum.inr p.1,V.int p.2)
def putT (t:Tab) (x:Str) (i:Int):Tab:=if x∈t.map (·.1) then t.map (fun p=>if p.1=x then (p.1,i) else p) else t++[(x,i)]
theorem vT_put (t:Tab) (x:Str) (i:Int):putK (vT t) (Sum.inr x) (.int i)=vT (putT t x i):=by
 unfold putK putT;have e:((vT t).any fun kv=>decide (kv.1=(Sum.inr x:Key)))=decide (x∈t.map (·.1)):=by
  rw[Bool.eq_iff_iff];simp only[vT,List.any_map,List.any_eq_true,Function.comp_def,decide_eq_true_eq,List.mem_map,Sum.inr.injEq]
 rw[e];by_cases h:x∈t.map (·.1)
 ·rw[if_pos (decide_eq_true h),if_pos h];unfold vT;rw[List.map_map,List.map_map];refine List.map_congr_left fun p _=>?_
  show (if (Sum.inr p.1:Key)=Sum.inr x then ((Sum.inr p.1:Key),V.int i) else (Sum.inr p.1,V.int p.2))=(Sum.inr (if p.1=x then (p.1,i) else p).1,V.int (if p.1=x then (p.1,i) else p).2);by_cases q:p.1=x
  ·rw[if_pos (by rw[q]),if_pos q]
  ·rw[if_neg (fun z=>q (Sum.inr.inj z)),if_neg q]
 ·rw[if_neg (by simp[h]),if_neg h];unfold vT;rw[List.map_append];rfl
theorem atf (t:Tab) (x:Str) (i:Int):putD (encT t) (Sum.inr x) (.int i)=encT (putT t x i):=by
 unfold putD putT;have e:((encT t).any fun kv=>decide (kv.1=(Sum.inr x:Key)))=decide (x∈t.map (·.1)):=by
  rw[Bool.eq_iff_iff];simp only[encT,List.any_map,List.any_eq_true,Function.comp_def,decide_eq_true_eq,List.mem_map,Sum.inr.injEq]
 rw[e];by_cases h:x∈t.map (·.1)
 ·rw[if_pos (decide_eq_true h),if_pos h];unfold encT;rw[List.map_map,List.map_map];refine List.map_congr_left fun p _=>?_
  show (if (Sum.inr p.1:Key)=Sum.inr x then ((Sum.inr p.1:Key),D.int i) else (Sum.inr p.1,D.int p.2))=(Sum.inr (if p.1=x then (p.1,i) else p).1,D.int (if p.1=x then (p.1,i) else p).2);by_cases q:p.1=x
  ·rw[if_pos (by rw[q]),if_pos q]
  ·rw[if_neg (fun z=>q (Sum.inr.inj z)),if_neg q]
 ·rw[if_neg (by simp[h]),if_neg h];unfold encT;rw[List.map_append];rfl
theorem apj (t:Tab) (x:Str) (i:Int):(putT t x i).map (·.1)=if x∈t.map (·.1) then t.map (·.1) else t.map (·.1)++[x]:=by
 unfold putT;by_cases h:x∈t.map (·.1)
 ·rw[if_pos h,if_pos h,List.map_map];refine List.map_congr_left fun p _=>?_
  show (if p.1=x then (p.1,i) else p).1=p.1;by_cases q:p.1=x
  ·rw[if_pos q]
  ·rw[if_neg q]
 ·rw[if_neg h,if_neg h,List.map_append];rfl
theorem apk {t:Tab}(h:(t.map (·.1)).Nodup) (x:Str) (i:Int):((putT t x i).map (·.1)).Nodup:=by
 rw[apj];by_cases q:x∈t.map (·.1)
 ·rw[if_pos q];exact h
 ·rw[if_neg q];exact List.nodup_append.mpr ⟨h,by simp,fun a ha b hb z=>by rw[List.mem_singleton.mp hb] at z;exact q (z▸ha)⟩
theorem am7 (t:Tab) (x:Str) (i:Int):(putT t x i).length<=t.length+1:=by
 unfold putT;by_cases q:x∈t.map (·.1)
 ·rw[if_pos q,List.length_map];omega
 ·rw[if_neg q,List.length_append];simp
theorem atg (t u:Tab) (x:Str):look (t++u) x=if x∈t.map (·.1) then look t x else look u x:=by
 induction t with
 | nil=>rw[List.nil_append,if_neg (by simp)]
 | cons p t ih =>
  rw[List.cons_append,aci,aci];by_cases e:p.1=x
  ·rw[if_pos e,if_pos e,if_pos (by rw[← e];exact List.mem_cons_self)]
  ·rw[if_neg e,if_neg e,ih,List.map_cons];by_cases q:x∈t.map (·.1)
   ·rw[if_pos q,if_pos (List.mem_cons_of_mem _ q)]
   ·rw[if_neg q,if_neg (fun z=>(List.mem_cons.mp z).elim (fun z=>e z.symm) q)]
theorem aow {K:PySem.W.Frag}{A:Addr->Prop}{H:Hp}:∀ (t:Tab) (kvs:List (Key×V)),(encT t).map (·.1)=kvs.map (·.1)->Reps K A H ((encT t).map (·.2)) (kvs.map (·.2))->kvs=vT t:=fun t=>by
 induction t with
 | nil =>
  intro kvs k r;cases kvs with
  | nil=>rfl
  | cons p q=>simp[encT] at k
 | cons p t ih =>
  intro kvs k r;cases kvs with
  | nil=>simp[encT] at k
  | cons q kvs =>
   obtain⟨q1,q2⟩:=q;simp only[encT,List.map_cons,List.cons.injEq] at k r;cases r with
   | cons r1 r2 =>
    have e1:=ih kvs k.2 r2;have e2:=r1.int_inv;have e3:Sum.inr p.1=q1:=k.1;subst e1 e2 e3;rfl
theorem agq {K:PySem.W.Frag}{A:Addr->Prop}{H:Hp}{t:Tab}{v:V}(h:Rep K A H (.dK (encT t)) v):∃ a,v = .ref a/\A a/\H a=some (.dK (vT t)):=by
 obtain⟨a,kvs,rfl,ha,e,k,r⟩:=h.dK_inv;exact⟨a,rfl,ha,by rw[e,aow t kvs k r]⟩
theorem api (t:Tab):(encT t).map (·.1)=(vT t).map (·.1):=by simp[encT,vT,Function.comp_def]
theorem al7 {K:PySem.W.Frag}{A:Addr->Prop}{H:Hp}:∀ t:Tab,Reps K A H ((encT t).map (·.2)) ((vT t).map (·.2))
 | []=>.nil
 | _::t=>.cons (.int _) (al7 t)
theorem aq0 {K:PySem.W.Frag}{A:Addr->Prop}{H:Hp}{t:Tab}{a:Addr}(h:H a=some (.dK (vT t))):Root K A H a (.dK (encT t)):=⟨vT t,h,api t,al7 t⟩
theorem awt {t:Tab}(nd:(t.map (·.1)).Nodup){p:Str×Int}(h:p∈t):valV (vT t) (Sum.inr p.1)=some (.int p.2):=by
 induction t with
 | nil=>cases h
 | cons q t ih =>
  obtain⟨n1,n2⟩:=List.nodup_cons.mp nd;show ((((Sum.inr q.1:Key),V.int q.2)::vT t).find? fun kv=>decide (kv.1=Sum.inr p.1)).map (·.2)=_;rw[List.find?_cons];rcases List.mem_cons.mp h with z | z
  ·subst z;rw[decide_eq_true rfl];rfl
  ·have:¬ (Sum.inr q.1:Key)=Sum.inr p.1:=fun e=>n1 (by show q.1∈t.map (·.1);rw[Sum.inr.inj e];exact List.mem_map_of_mem (f:=fun p:Str×Int=>p.1) z)
   rw[decide_eq_false this];exact ih n2 z
theorem auo {t:Tab}:∀ {x:Str},x∈t.map (·.1)->(x,look t x)∈t:=by
 induction t with
 | nil=>intro x h;simp at h
 | cons p t ih =>
  intro x h;rw[aci];by_cases e:p.1=x
  ·rw[if_pos e,← e];exact List.mem_cons_self
  ·rw[if_neg e];exact List.mem_cons_of_mem _ (ih ((List.mem_cons.mp h).resolve_left fun z=>e z.symm))
theorem ait {t:Tab}(nd:(t.map (·.1)).Nodup){p:Str×Int}(h:p∈t):look t p.1=p.2:=by
 induction t with
 | nil=>cases h
 | cons q t ih =>
  obtain⟨n1,n2⟩:=List.nodup_cons.mp nd;rw[aci];rcases List.mem_cons.mp h with z | z
  ·subst z;rw[if_pos rfl]
  ·rw[if_neg (fun e=>n1 (by show q.1∈t.map (·.1);rw[e];exact List.mem_map_of_mem (f:=fun p:Str×Int=>p.1) z)),ih n2 z]
theorem asf {t:Tab}(nd:(t.map (·.1)).Nodup){x:Str}(h:x∈t.map (·.1)):valV (vT t) (Sum.inr x)=some (.int (look t x)):=awt nd (p:=(x,look t x)) (auo h)
end Lw
namespace L2
open PySem PySem.Spec PyProof.Rows Lw
def sAugD (n m:Nat) (te:TEd):TSd:=fun dk De ρ=>∃ (t:Tab) (x:Str),ρ[n]?=some (.own (.dK (encT t)))/\ρ[m]?=some (.val (.str x))/\x∈t.map (·.1)/\(t.map (·.1)).Nodup/\t.length<=1000/\te dk ρ fun r ρ'=>match r with
 | .val (.int j)=>ρ'[n]?=some (.own (.dK (encT t)))/\De.nx (ρ'.set n (.own (.dK (encT (putT t x (look t x+j))))))
 | _=>False
section
variable {X:Cx}
theorem s_augD {n m:Nat}{o i e:Expr}{te:TEd}{tpos pos:Pos}(hu:X.A.units+1<cLine) (ho:PE X o (tVar n)) (hi:PE X i (tVar m)) (he:PD X e te) (ha:∀ ov iv new,augStore i ov iv new=(do holding [new,ov,iv] (setItem ov iv new);release [new,ov,iv] [];pure .next):=by intros;rfl) :
  PSd X (.AugAssign (.Subscript o i tpos) .Add e pos) (sAugD n m te) :=
 (avw hu ho hi he in_add ha).mono fun Dn σ H hq0=>hq0.elim fun B ρ T De hl hd ht lk=>by
  obtain⟨t,x,hn,hm,hx,nd,lt,ht⟩:=ht;obtain⟨b,hb,rb,_⟩:=hd.slotW hl hn;obtain⟨v,hv,pv⟩:=hd.peek hl (d:=.str x) (i:=m) (by unfold at?;rw[hm];rfl);have:=pv.str_inv;subst this;obtain⟨kvs,hk,e1,r1⟩:=rb;rw[aow t kvs e1 r1] at hk;refine⟨_,hb,_,hv,b,.int (look t x),rfl,?_,B,ρ,T,_,hl,hd,ht,fun r ρ' y H' l1 d1 h1=>?_⟩
  ·have:=DGet.k (k:=(Sum.inr x:Key)) hk;rw[asf nd hx] at this;exact this
  cases r<;>first | exact False.elim h1 | skip
  rename_i d
  cases d<;>first | exact False.elim h1 | skip
  rename_i j
  have:=d1.valAt.int_inv;subst this;obtain⟨h2,h1⟩:=h1;obtain⟨b',hb',rb',wr⟩:=d1.drop.slotW l1 h2;rw[hb] at hb';cases hb';obtain⟨kvs',hk',e1',r1'⟩:=rb';rw[aow t kvs' e1' r1'] at hk';have z:(vT t).length<sizeLine:=by unfold vT;rw[List.length_map];exact Nat.lt_of_le_of_lt lt (by decide)
  refine⟨_,_,rfl,rfl,_,DPut.k (k:=Sum.inr x) hk' z,?_⟩;rw[vT_put];exact (lk.1 _ _ _ (by rw[List.length_set];exact l1) rfl (wr _ (.dK (encT (putT t x (look t x+j)))) fun A' kp=>aq0 aaa)).1 h1
end
end L2
namespace Lw
open PySem L2
theorem aeu (xs:List Str):af4 (xs.map D.str)=some (xs.map V.str):=aia (fun _=>rfl) xs
theorem afl {x:Str}:∀ xs:List Str,inV (.str x) (xs.map V.str)=decide (x∈xs)
 | []=>by simp[inV]
 | y::xs=>by
  have ih:=afl (x:=x) xs;unfold inV at ih ⊢;rw[List.map_cons,List.any_cons,ih];by_cases e:x=y
  ·subst e;have:eqV (V.str x) (V.str x)=true:=beq_self_eq_true x;simp[this]
  ·have:eqV (V.str y) (V.str x)=false:=by
    show (y == x)=false;exact beq_eq_false_iff_ne.mpr fun z=>e z.symm
   have:eqV (V.str x) (V.str y)=false:=by
    show (x == y)=false;exact beq_eq_false_iff_ne.mpr e
   simp[*]
theorem aqr {v:Str->Int}{o:Str}:∀ {os:List Str},o∈os->look (os.map fun x=>(x,v x)) o=v o
 | [],h=>by simp at h
 | a::r,h=>by
  rw[List.map_cons,aci];by_cases q:a=o
  ·rw[if_pos q,q]
  ·rw[if_neg q];rcases List.mem_cons.mp h with z | z
   ·exact absurd z.symm q
   ·exact aqr z
theorem au4 {v:Str->Int}{o:Str}{os:List Str}(h:o∈os):valD (encT (os.map fun x=>(x,v x))) (Sum.inr o)=some (.int (v o)):=by
 rw[(valT _ o).1 (by simpa [Function.comp_def] using h),aqr h]
theorem ae6 {p q:Prop}{c:Bool}(h:c=false) (hq:q):if c=true then p else q:=by rw[if_neg (by rw[h];decide)];exact hq
theorem alv {p q:Prop}{c:Bool}(h:c=true) (hp:p):if c=true then p else q:=by rw[if_pos h];exact hp
theorem ak3:∀ (gs:List (Str×Str×List Str)) (kn:List Str) (ρ:Str->Int),(∀ x∈kn,Bit (ρ x))->∀ x∈kn++gs.map (·.1),Bit (ak4 ρ gs x)
 | [],kn,ρ,h,x,hx=>h x (by simpa using hx)
 | g::gs,kn,ρ,h,x,hx=>by
  refine ak3 gs (kn++[g.1]) _ (fun y hy=>?_) x (by simpa using hx);by_cases e:y=g.1
  ·show Bit (if y=g.1 then _ else _);rw[if_pos e];exact ahk _ _
  ·show Bit (if y=g.1 then _ else _);rw[if_neg e];rcases List.mem_append.mp hy with z | z
   ·exact h y z
   ·exact absurd (List.mem_singleton.mp z) e
theorem atv (outs:List Str) (v:Str->Int):(outs.map (Sum.inr:Str->Key)).zip (outs.map fun o=>D.int (v o))=encT (outs.map fun o=>(o,v o)):=by
 induction outs with
 | nil=>rfl
 | cons a r ih=>rw[List.map_cons,List.map_cons,List.zip_cons_cons,ih];rfl
theorem apy {C:Cel}(g:GC C){ρ:Str->Int}(h:∀ x∈C.ins,Bit (ρ x)):∀ o∈C.outs,Bit (aj5 C ρ o):=fun o ho=>ak3 C.gates C.ins ρ h o (g.os o ho)
theorem ata (xs:List Str) (v:Str->Int):immS (.val (.tup (xs.map fun o=>D.int (v o))))=true:=by
 show immL (xs.map fun o=>D.int (v o))=true;induction xs with
 | nil=>rfl
 | cons p t ih=>exact ih
def sN (f:Nat->Int):Nat->Int
 | 0=>0
 | n+1=>sN f n+f n
theorem acb:(["output","name"]:List Str).Nodup:=by decide +kernel
theorem ad6:(["name","carried"]:List Str).Nodup:=by decide +kernel
def encW (C:Cel) (prs:List (Str×Str)):D:=.tup [encC C,.tup (prs.map fun p=>D.tup [.str p.1,.str p.2])]
def wIns (C:Cel) (prs:List (Str×Str)):List Str:=C.ins.filter fun x=>!decide (x∈prs.map (·.2))
def acr (C:Cel) (prs:List (Str×Str)):List Str:=C.outs.filter fun x=>!decide (x∈prs.map (·.1))
def R_ci:RD:=fun dk ds Φ=>∃ C prs,ds=[encW C prs]/\prs.length<=100/\Φ (.own (.lst (prs.map fun p=>D.str p.2)))
def R_wi:RD:=fun dk ds Φ=>∃ C prs,ds=[encW C prs]/\prs.length<=100/\C.ins.length<=100/\Φ (.own (.lst ((wIns C prs).map D.str)))
def R_wo:RD:=fun dk ds Φ=>∃ C prs,ds=[encW C prs]/\prs.length<=100/\C.outs.length<=100/\Φ (.own (.lst ((acr C prs).map D.str)))
section
variable {P:Program}{w:World}{K:PySem.W.Frag}{mg:Str->Option Value}{base:Heap}
theorem afw:FnScope ["row"] ["row"] (aaj aay):=⟨rfl,rfl,rfl,by decide +kernel,rfl,by decide +kernel,by decide +kernel⟩
theorem aez:FnScope ["row","carried"] ["row"] (aaj ab5):=⟨rfl,rfl,rfl,by decide +kernel,rfl,by decide +kernel,by decide +kernel⟩
theorem aei:FnScope ["row","carried"] ["row"] (aaj abg):=⟨rfl,rfl,rfl,by decide +kernel,rfl,by decide +kernel,by decide +kernel⟩
theorem ok_ci {f:Addr}{fd:FuncData}(F:Fun K "carried_inputs" "carried_inputs" aay f fd):FnOk P w K mg base CX0 1 f fd ["row"] (spD K R_ci):=by
 refine F.okD (k:=0) afw (fun dk ds Φ ⟨_,_,e,_⟩=>by rw[e];rfl) (by decide) fun cdv A outer s H E dk ds Φ hr hR=>?_
 have hu:=adt hr;obtain⟨C,prs,rfl,lp,hΦ⟩:=hR;refine⟨_,(aau (adc (adf ["output","name"] [] [] rfl (i_v (aao hu (pv 0) aae)) rfl rfl (fun _ _ _ _ _=>(g_t (n:=2) rfl (gs_c (g_n (i:=0) acb rfl (Or.inl rfl)) (gs_c (g_n (i:=1) acb rfl (Or.inl rfl)) gs_n)))) (fun _ _ _ _ _=>adh) (fun _ _ _ _ _=>(pd_v 1 (pv 1)))))),?_⟩;unfold sRet;exact acs prs (fun p=>D.tup [.str p.1,.str p.2]) (fun p=>D.str p.2) _ (fun Ψ h=>⟨rfl,_,rfl,h⟩) (by omega) (fun i p ys Nx e h1 h2=>⟨rfl,rfl,h1,h2⟩) hΦ
theorem ok_wi {f fC:Addr}{fd fdC:FuncData}(F:Fun K "word_inputs" "word_inputs" ab5 f fd) (ax3:Gd K mg "carried_inputs" aay ["row"] fC fdC) (ayd:FnOk P w K mg base CX0 1 fC fdC ["row"] (spD K R_ci)):FnOk P w K mg base CX0 2 f fd ["row"] (spD K R_wi):=by
 refine F.okD (k:=1) aez (fun dk ds Φ ⟨_,_,e,_⟩=>by rw[e];rfl) (by decide) fun cdv A outer s H E dk ds Φ hr hR=>?_
 have hu:=adt hr;obtain⟨C,prs,rfl,lp,li,hΦ⟩:=hR;refine⟨_,(aac (aa2 (i:=1) aez.nd rfl (Or.inr rfl) (aal ayd (hr.mono (by decide)) (by rfl) ax3.m ax3.k ax3.b (pa_k (pd_v 0 (pv 0)) pa_n))) (aau (adc (adf ["name"] ["carried"] [1] rfl (i_v (ag1 hu (aao hu (pv 0) aae) aae)) rfl rfl (fun _ _ _ _ _=>(g_n (i:=0) ad6 rfl (Or.inl rfl))) (fun _ _ _ _ _=>(aqi (aen (adv hu) (alg true) (pd_v 0 (pv 0)) (pv 1)))) (fun _ _ _ _ _=>(pd_v 0 (pv 0))))))),?_⟩;refine aag (fun ρ=>ρ=[.val (encW C prs),.own (.lst (prs.map fun p=>D.str p.2))]) (fun N hN=>⟨C,prs,rfl,lp,.inl rfl,hN _ rfl⟩) ?_;rintro _ rfl;unfold sRet;refine ao4 C.ins D.str D.str (fun x=>!decide (x∈prs.map fun p:Str×Str=>p.2)) [.val (encW C prs),.own (.lst (prs.map fun p:Str×Str=>D.str p.2))] (fun Ψ h=>⟨rfl,_,rfl,_,rfl,h⟩) (by omega) (fun i x ys Nx e h1 h2 h3=>?_) hΦ;have e1:(prs.map fun p=>D.str p.2)=(prs.map (·.2)).map D.str:=by rw[List.map_map];rfl
 refine⟨.str x,(prs.map (·.2)).map V.str,rfl,by rw[e1];exact aeu _,?_⟩;rw[afl];show if (!decide (x∈prs.map (·.2)))=true then _ else _
 by_cases q:x∈prs.map (·.2)
 ·exact ae6 (by rw[decide_eq_true q];rfl) (h3 (by rw[decide_eq_true q];rfl))
 ·exact alv (by rw[decide_eq_false q];rfl) ⟨h1,h2 (by rw[decide_eq_false q];rfl)⟩
theorem ok_wo {f:Addr}{fd:FuncData}(F:Fun K "word_outputs" "word_outputs" abg f fd):FnOk P w K mg base CX0 1 f fd ["row"] (spD K R_wo):=by
 refine F.okD (k:=0) aei (fun dk ds Φ ⟨_,_,e,_⟩=>by rw[e];rfl) (by decide) fun cdv A outer s H E dk ds Φ hr hR=>?_
 have hu:=adt hr;obtain⟨C,prs,rfl,lp,li,hΦ⟩:=hR;refine⟨_,(aac (aa2 (i:=1) aei.nd rfl (Or.inr rfl) (adf ["output","name"] [] [] rfl (i_v (aao hu (pv 0) aae)) rfl rfl (fun _ _ _ _ _=>(g_t (n:=2) rfl (gs_c (g_n (i:=0) acb rfl (Or.inl rfl)) (gs_c (g_n (i:=1) acb rfl (Or.inl rfl)) gs_n)))) (fun _ _ _ _ _=>adh) (fun _ _ _ _ _=>(pd_v 0 (pv 0))))) (aau (adc (adf ["name"] ["carried"] [1] rfl (i_v (ag1 hu (aao hu (pv 0) aae) aae)) rfl rfl (fun _ _ _ _ _=>(g_n (i:=0) ad6 rfl (Or.inl rfl))) (fun _ _ _ _ _=>(aqi (aen (adv hu) (alg true) (pd_v 0 (pv 0)) (pv 1)))) (fun _ _ _ _ _=>(pd_v 0 (pv 0))))))),?_⟩;refine aag (fun ρ=>ρ=[.val (encW C prs),.own (.lst (prs.map fun p=>D.str p.1))]) (fun N hN=>?_) ?_
 ·unfold sSet;exact acs prs (fun p=>D.tup [.str p.1,.str p.2]) (fun p=>D.str p.1) [.val (encW C prs),.no] (fun Ψ h=>⟨rfl,_,rfl,h⟩) (by omega) (fun i p ys Nx e h1 h2=>⟨rfl,rfl,h1,h2⟩) (hN _ rfl)
 rintro _ rfl;unfold sRet;refine ao4 C.outs D.str D.str (fun x=>!decide (x∈prs.map fun p:Str×Str=>p.1)) [.val (encW C prs),.own (.lst (prs.map fun p:Str×Str=>D.str p.1))] (fun Ψ h=>⟨rfl,_,rfl,_,rfl,h⟩) (by omega) (fun i x ys Nx e h1 h2 h3=>?_) hΦ;have e1:(prs.map fun p=>D.str p.1)=(prs.map (·.1)).map D.str:=by rw[List.map_map];rfl
 refine⟨.str x,(prs.map (·.1)).map V.str,rfl,by rw[e1];exact aeu _,?_⟩;rw[afl];show if (!decide (x∈prs.map (·.1)))=true then _ else _
 by_cases q:x∈prs.map (·.1)
 ·exact ae6 (by rw[decide_eq_true q];rfl) (h3 (by rw[decide_eq_true q];rfl))
 ·exact alv (by rw[decide_eq_false q];rfl) ⟨h1,h2 (by rw[decide_eq_false q];rfl)⟩
end
theorem ahr:(["name","edges"]:List Str).Nodup:=by decide +kernel
theorem ate:(["name"]:List Str).Nodup:=by decide +kernel
theorem aev:(["name","words","worth"]:List Str).Nodup:=by decide +kernel
theorem act:(["output","name","after"]:List Str).Nodup:=by decide +kernel
theorem acd:(["output","name","carried"]:List Str).Nodup:=by decide +kernel
def crd (ef:Str->Int) (u:Nat->Str->Int):Nat->Str×Str->Int
 | 0,p=>ef p.2
 | j+1,p=>u j p.1
def outT (C:Cel) (prs:List (Str×Str)) (u:Nat->Str->Int) (W:Nat):Tab:=(acr C prs).map fun o=>(o,sN (fun j=>2 ^ j*u j o) W)
def crT (prs:List (Str×Str)) (ef:Str->Int) (u:Nat->Str->Int) (j:Nat):Tab:=prs.map fun p=>(p.2,crd ef u j p)
structure RowOk (C:Cel) (prs:List (Str×Str)):Prop where
 gc:GC C
 n1:(prs.map (·.1)).Nodup
 n2:(prs.map (·.2)).Nodup
 o:∀ p∈prs,p.1∈C.outs
 lp:prs.length<=100
structure RunOk (C:Cel) (prs:List (Str×Str)) (W:Nat) (wf ef:Str->Int) (u:Nat->Str->Int) (ρ:Nat->Str->Int):Prop where
 e:∀ p∈prs,Bit (ef p.2)
 uu:∀ j,j<W->u j=aj5 C (ρ j)
 w:∀ j,j<W->∀ x∈wIns C prs,ρ j x=wf x/2 ^ j%2
 c:∀ j,j<W->∀ p∈prs,ρ j p.2=crd ef u j p
theorem RunOk.bits {C:Cel}{prs:List (Str×Str)}{W:Nat}{wf ef:Str->Int}{u ρ:Nat->Str->Int}(R:RowOk C prs) (h:RunOk C prs W wf ef u ρ):∀ j,j<W->(∀ x∈C.ins,Bit (ρ j x))/\∀ o∈C.outs,Bit (u j o)
 | j,hj=>by
  have key:∀ x∈C.ins,Bit (ρ j x):=fun x hx=>by
   by_cases q:x∈prs.map (·.2)
   ·obtain⟨p,hp,rfl⟩:=List.mem_map.mp q;rw[h.c j hj p hp];cases j with
    | zero=>exact h.e p hp
    | succ j=>exact (h.bits R j (by omega)).2 p.1 (R.o p hp)
   ·rw[h.w j hj x (List.mem_filter.mpr ⟨hx,by rw[decide_eq_false q];rfl⟩)];have:=Int.emod_nonneg (wf x/2 ^ j) (show (2:Int)≠0 by decide);have:=Int.emod_lt_of_pos (wf x/2 ^ j) (show (0:Int)<2 by decide);unfold Bit;omega
  refine⟨key,fun o ho=>?_⟩;rw[h.uu j hj];exact apy R.gc key o ho
theorem aiu {C:Cel}{prs:List (Str×Str)}(g:GC C):(wIns C prs).Nodup:=(List.nodup_append.mp g.nd).1.filter _
theorem ajk {C:Cel}{prs:List (Str×Str)}(g:GC C):(acr C prs).Nodup:=g.ond.filter _
theorem ac2 {xs:List Str}{v:Str->Int}:(xs.map fun x=>(x,v x)).map (·.1)=xs:=by simp[Function.comp_def]
theorem vd_own {i:Nat}{dk:List Addr}{ρ:List Sl}{d:D}{Φ:Sl->List Sl->Prop}(h:ρ[i]?=some (.own d)) (k:Φ (.val d) (ρ.set i (.val d))):vd i dk ρ Φ:=by
 unfold vd;rw[h];exact k
def upT (os:List Str) (a b:Str->Int) (n:Nat):Tab:=(os.take n).map (fun o=>(o,b o))++(os.drop n).map fun o=>(o,a o)
theorem agh (os:List Str) (a b:Str->Int) (n:Nat):(upT os a b n).map (·.1)=os:=by
 unfold upT;rw[List.map_append,ac2,ac2,List.take_append_drop]
theorem awi {os:List Str}(nd:os.Nodup){a b:Str->Int}{n:Nat}{o:Str}(h:os[n]?=some o):look (upT os a b n) o=a o/\putT (upT os a b n) o (b o)=upT os a b (n+1):=by
 obtain⟨hn,he⟩:=List.getElem?_eq_some_iff.mp h;have ed:os.drop n=o::os.drop (n+1):=by rw[List.drop_eq_getElem_cons hn,he]
 have et:os.take (n+1)=os.take n++[o]:=by rw[List.take_add_one,h];rfl
 have es:os=os.take n++o::os.drop (n+1):=by rw[← ed,List.take_append_drop]
 have nd':=nd;rw[es] at nd';have h1:o∉os.take n:=fun z=>(List.nodup_append.mp nd').2.2 o z o List.mem_cons_self rfl
 have h2:o∉os.drop (n+1):=(List.nodup_cons.mp (List.nodup_append.mp nd').2.1).1;constructor
 ·unfold upT;rw[atg,ac2,if_neg h1,ed,List.map_cons,aci,if_pos rfl]
 ·unfold putT;rw[if_pos (by rw[agh];exact List.mem_of_getElem? h)];unfold upT;rw[et,ed,List.map_append,List.map_append,List.map_cons,List.map_cons,List.append_assoc];have same:∀ (xs:List Str) (v:Str->Int),o∉xs->(xs.map fun x=>(x,v x)).map (fun p=>if p.1=o then (p.1,b o) else p)=xs.map fun x=>(x,v x):=fun xs v hx=>by
   rw[List.map_map];refine List.map_congr_left fun x hm=>?_
   have ne:¬ x=o:=fun z=>hx (by rw[← z];exact hm)
   show (if x=o then (x,b o) else (x,v x))=_;rw[if_neg ne]
  rw[same _ _ h1,same _ _ h2];show _++(if o=o then _ else _)::_=_;rw[if_pos rfl];rfl
section
variable {P:Program}{w:World}{K:PySem.W.Frag}{mg:Str->Option Value}{base:Heap}
theorem ade:FnScope ["row","width","words","edges","cell","inputs","carried","outputs","told","worth","bits","after","name"] ["row","width","words","edges"] (aaj afn):=⟨rfl,rfl,rfl,by decide +kernel,rfl,by decide +kernel,by decide +kernel⟩
abbrev rS (C:Cel) (prs:List (Str×Str)) (W:Nat) (wkv ekv:List (Key×D)) (ip cr ou td wo bi af nm:Sl):List Sl:=[.val (encW C prs),.val (.int W),.val (.dK wkv),.val (.dK ekv),.val (encC C),ip,cr,ou,td,wo,bi,af,nm]
set_option maxHeartbeats 4000000 in
theorem axz {f fC fO fW fB:Addr}{fdC fdO fdW fdB:FuncData}{cdv:Value}{A:Around}{outer:List Env}{s:Shared}{H:Hp}{E:XK}(T:Txt mg) (ax3:Gd K mg "carried_inputs" aay ["row"] fC fdC) (ayb:Gd K mg "word_outputs" abg ["row"] fO fdO) (aya:Gd K mg "place_worths" abe ["count"] fW fdW) (ayk:Gd K mg "told_by" add ["cell","bits"] fB fdB)
  (ayd:FnOk P w K mg base CX0 1 fC fdC ["row"] (spD K R_ci)) (ayt:FnOk P w K mg base CX0 1 fO fdO ["row"] (spD K R_wo)) (ayq:FnOk P w K mg base CX0 1 fW fdW ["count"] (spD K R_pw)) (ayy:FnOk P w K mg base CX0 2 fB fdB ["cell","bits"] (spD K asa))
  (hr:Room 3 (A.deeper (PyProof.Rows.envOfC "laid" (aaj afn) s.heap.objs.size f cdv))){dk:List Addr}{Φ:Sl->Prop}{C:Cel}{prs:List (Str×Str)}{W:Nat}{wkv ekv:List (Key×D)}{wf ef:Str->Int}{u ρb:Nat->Str->Int}(R:RowOk C prs) (hr':RunOk C prs W wf ef u ρb) (hW:W<=60) (hw:∀ x∈wIns C prs,valD wkv (Sum.inr x)=some (.int (wf x))) (he:∀ p∈prs,valD ekv (Sum.inr p.2)=some (.int (ef p.2)))
  (hΦ:Φ (.val (.tup [.dK (encT (outT C prs u W)),.dK (encT (prs.map fun p=>(p.1,crd ef u W p)))]))) :
  ∃ t,PSsd (cxOf CX0 P w K mg base ["row","width","words","edges","cell","inputs","carried","outputs","told","worth","bits","after","name"] "laid" (aaj afn) f cdv A outer s H E).nox ((acv afn).tail.tail.tail.tail) t/\t dk { nx:=fun _=>Φ (.val .non),rt:=Φ } (rS C prs W wkv ekv (.val (.lst ((wIns C prs).map D.str))) .no .no .no .no .no .no .no):=by
 have hu:=adt hr;have lp:=R.lp;have li:=R.gc.li;have lo:=R.gc.lo;have lwi:(wIns C prs).length<=40:=Nat.le_trans (List.length_filter_le ..) li;have lwo:(acr C prs).length<=40:=Nat.le_trans (List.length_filter_le ..) lo;refine⟨_,(aac (aa2 (i:=6) ade.nd rfl (Or.inr rfl) (aam (abb rfl) acw (by rfl) T.dict PyProof.Rows.boot_dict (pa_k (adf ["name"] ["edges"] [3] rfl (i_v (aal ayd (hr.mono (by decide)) (by rfl) ax3.m ax3.k ax3.b (pa_k (pd_v 0 (pv 0)) pa_n))) rfl rfl (fun _ _ _ _ _=>(g_n (i:=0) ahr rfl (Or.inl rfl))) (fun _ _ _ _ _=>adh) (fun _ _ _ _ _=>(abj (pa_k (pd_v 0 (pv 0)) (pa_k (aao hu (pv 1) (pd_v 0 (pv 0))) pa_n))))) pa_n))) (aac (aa2 (i:=7) ade.nd rfl (Or.inl rfl) (aal ayt (hr.mono (by decide)) (by rfl) ayb.m ayb.k ayb.b (pa_k (pd_v 0 (pv 0)) pa_n))) (aac (aa2 (i:=8) ade.nd rfl (Or.inl rfl) (aam (abb rfl) acw (by rfl) T.dict PyProof.Rows.boot_dict (pa_k (adf ["name"] [] [] rfl (i_v (pd_v 7 (pv 7))) rfl rfl (fun _ _ _ _ _=>(g_n (i:=0) ate rfl (Or.inl rfl))) (fun _ _ _ _ _=>adh) (fun _ _ _ _ _=>(abj (pa_k (pd_v 0 (pv 0)) (pa_k aae pa_n))))) pa_n))) (aac (afj (m:=99) PassesOwn.never rfl (i_v (aal ayq (hr.mono (by decide)) (by rfl) aya.m aya.k aya.b (pa_k (pd_v 1 (pv 1)) pa_n))) (g_n (i:=9) ade.nd rfl (Or.inr rfl)) (aac (aa2 (i:=10) ade.nd rfl (Or.inl rfl) (aam (abb rfl) acw (by rfl) T.dict PyProof.Rows.boot_dict (pa_k (adf ["name"] ["words","worth"] [2,9] rfl (i_v (pd_v 5 (pv 5))) rfl rfl (fun _ _ _ _ _=>(g_n (i:=0) aev rfl (Or.inl rfl))) (fun _ _ _ _ _=>adh) (fun _ _ _ _ _=>(abj (pa_k (pd_v 0 (pv 0)) (pa_k (afp acy avm (afp as5 od_div (aao hu (pv 1) (pd_v 0 (pv 0))) (pd_v 2 (pv 2))) aae) pa_n))))) pa_n))) (aac (acu (pd_w PySem.F.plainAttrs_dict PySem.F.slot_dict_update PySem.F.type_dict_update arc mw_upd (pv 10) (pa_k (pd_v 6 (pv 6)) pa_n))) (aac (aa2 (i:=11) ade.nd rfl (Or.inr rfl) (as2 rfl (by rfl) T.dict (by rfl) T.zip (pa_k (aao hu (pv 4) aae) (pa_k (aal ayy (hr.mono (by decide)) (by rfl) ayk.m ayk.k ayk.b (pa_k (pd_v 4 (pv 4)) (pa_s (pv 10) pa_n))) pa_n)))) (aac (afj (m:=99) PassesOwn.never rfl (i_v (pd_v 7 (pv 7))) (g_n (i:=12) ade.nd rfl (Or.inl rfl)) (aau (s_augD (n:=8) (m:=12) hu (pv 8) (pv 12) (adp ajv apz (pv 9) (aao hu (pv 11) (pd_v 12 (pv 12))))))) (aau (aa2 (i:=6) ade.nd rfl (Or.inr rfl) (aam (abb rfl) acw (by rfl) T.dict PyProof.Rows.boot_dict (pa_k (adf ["output","name"] ["after"] [11] rfl (i_v (aao hu (pv 0) aae)) rfl rfl (fun _ _ _ _ _=>(g_t (n:=2) rfl (gs_c (g_n (i:=0) act rfl (Or.inl rfl)) (gs_c (g_n (i:=1) act rfl (Or.inl rfl)) gs_n)))) (fun _ _ _ _ _=>adh) (fun _ _ _ _ _=>(abj (pa_k (pd_v 1 (pv 1)) (pa_k (aao hu (pv 2) (pd_v 0 (pv 0))) pa_n))))) pa_n))))))))) (aau (adc (abj (pa_k (pd_v 8 (pv 8)) (pa_k (aam (abb rfl) acw (by rfl) T.dict PyProof.Rows.boot_dict (pa_k (adf ["output","name"] ["carried"] [6] rfl (i_v (aao hu (pv 0) aae)) rfl rfl (fun _ _ _ _ _=>(g_t (n:=2) rfl (gs_c (g_n (i:=0) acd rfl (Or.inl rfl)) (gs_c (g_n (i:=1) acd rfl (Or.inl rfl)) gs_n)))) (fun _ _ _ _ _=>adh) (fun _ _ _ _ _=>(abj (pa_k (pd_v 0 (pv 0)) (pa_k (aao hu (pv 2) (pd_v 1 (pv 1))) pa_n))))) pa_n)) pa_n))))))))),?_⟩;refine aag (fun ρ=>ρ=rS C prs W wkv ekv (.val (.lst ((wIns C prs).map D.str))) (.own (.dK (encT (crT prs ef u 0)))) .no .no .no .no .no .no) (fun N hN=>?_) ?_
 ·unfold sSet dC aC;refine acs prs (fun p=>D.str p.2) (fun p=>.tup [.str p.2,.int (ef p.2)]) (rS C prs W wkv ekv (.val (.lst ((wIns C prs).map D.str))) .no .no .no .no .no .no .no) (fun Ψ h=>⟨C,prs,rfl,lp,.inl rfl,h⟩) (by omega) (fun i p ys Nx e h1 h2=>⟨rfl,_,?_,by show 2<=1000;decide,h1,h2⟩) ?_
  ·show some (valD ekv (Sum.inr p.2))=_;rw[he p (List.mem_of_getElem? e)]
  have e0:ae2 (prs.map fun p=>D.tup [.str p.2,.int (ef p.2)])=some (encT (crT prs ef u 0)):=by
   rw[ab9 (g:=fun p:Str×Str=>((Sum.inr p.2:Key),D.int (ef p.2))) (fun p=>⟨.str p.2,rfl,rfl⟩)];simp[encT,crT,crd]
  refine⟨_,e0,by rw[ab2];unfold crT;rw[List.length_map];omega,?_⟩;rw[ach (by simpa [crT,Function.comp_def] using R.n2)];exact hN _ rfl
 rintro _ rfl;refine aag (fun ρ=>ρ=rS C prs W wkv ekv (.val (.lst ((wIns C prs).map D.str))) (.own (.dK (encT (crT prs ef u 0)))) (.own (.lst ((acr C prs).map D.str))) .no .no .no .no .no) (fun N hN=>⟨C,prs,rfl,lp,by omega,.inl rfl,hN _ rfl⟩) ?_;rintro _ rfl;refine aag (fun ρ=>ρ=rS C prs W wkv ekv (.val (.lst ((wIns C prs).map D.str))) (.own (.dK (encT (crT prs ef u 0)))) (.val (.lst ((acr C prs).map D.str))) (.own (.dK (encT (outT C prs u 0)))) .no .no .no .no) (fun N hN=>?_) ?_
 ·unfold sSet dC aC;refine acs (acr C prs) D.str (fun o=>.tup [.str o,.int 0]) (rS C prs W wkv ekv (.val (.lst ((wIns C prs).map D.str))) (.own (.dK (encT (crT prs ef u 0)))) (.val (.lst ((acr C prs).map D.str))) .no .no .no .no .no) (fun Ψ h=>h) (by omega) (fun i p ys Nx e h1 h2=>⟨by show 2<=1000;decide,h1,h2⟩) ?_;have e0:ae2 ((acr C prs).map fun o=>D.tup [.str o,.int 0])=some (encT (outT C prs u 0)):=by
   rw[ab9 (g:=fun o:Str=>((Sum.inr o:Key),D.int 0)) (fun p=>⟨.str p,rfl,rfl⟩)];simp[encT,outT,sN]
  refine⟨_,e0,by rw[ab2];unfold outT;rw[List.length_map];omega,?_⟩;rw[ach (by unfold outT;rw[ac2];exact ajk R.gc)];exact hN _ rfl
 rintro _ rfl;refine aag (fun ρ=>∃ wo bi af nm:Sl,ρ=rS C prs W wkv ekv (.val (.lst ((wIns C prs).map D.str))) (.own (.dK (encT (crT prs ef u W)))) (.val (.lst ((acr C prs).map D.str))) (.own (.dK (encT (outT C prs u W)))) wo bi af nm) (fun N hN=>?_) ?_
 ·refine ae0 ((List.range W).map fun i=>D.int (2 ^ i)) _ (fun Ψ h=>⟨W,rfl,by omega,.inl rfl,h⟩) (fun j ρ=>∃ wo bi af nm:Sl,ρ=rS C prs W wkv ekv (.val (.lst ((wIns C prs).map D.str))) (.own (.dK (encT (crT prs ef u j)))) (.val (.lst ((acr C prs).map D.str))) (.own (.dK (encT (outT C prs u j)))) wo bi af nm) ⟨.no,.no,.no,.no,rfl⟩ ?_ ?_
  ·rintro j x ρ hd ⟨wo,bi,af,nm,rfl⟩;obtain⟨y,hy,rfl⟩:=acf hd;obtain⟨hj,rfl⟩:j<W/\j=y:=by
    obtain⟨h1,h2⟩:=List.getElem?_eq_some_iff.mp hy;rw[List.length_range] at h1;rw[List.getElem_range] at h2;exact⟨h1,h2⟩
   have p2:=aro (i:=j) (by omega);refine aag (fun ρ=>ρ=rS C prs W wkv ekv (.val (.lst ((wIns C prs).map D.str))) (.own (.dK (encT (crT prs ef u j)))) (.val (.lst ((acr C prs).map D.str))) (.own (.dK (encT (outT C prs u j)))) (.val (.int (2 ^ j))) (.own (.dK (encT ((wIns C prs).map fun x=>(x,wf x/2 ^ j%2))))) af nm) (fun N' hN'=>?_) ?_
   ·unfold sSet dC aC;refine acs (wIns C prs) D.str (fun x=>.tup [.str x,.int (wf x/2 ^ j%2)]) (rS C prs W wkv ekv (.val (.lst ((wIns C prs).map D.str))) (.own (.dK (encT (crT prs ef u j)))) (.val (.lst ((acr C prs).map D.str))) (.own (.dK (encT (outT C prs u j)))) (.val (.int (2 ^ j))) bi af nm) (fun Ψ h=>h) (by omega) (fun i p ys Nx e h1 h2=>⟨rfl,.int (wf p),?_,p2,by show (0:Int)<2;decide,by show 2<=1000;decide,h1,h2⟩) ?_
    ·show some (valD wkv (Sum.inr p))=_;rw[hw p (List.mem_of_getElem? e)]
    have e0:ae2 ((wIns C prs).map fun x=>D.tup [.str x,.int (wf x/2 ^ j%2)])=some (encT ((wIns C prs).map fun x=>(x,wf x/2 ^ j%2))):=by
     rw[ab9 (g:=fun x:Str=>((Sum.inr x:Key),D.int (wf x/2 ^ j%2))) (fun p=>⟨.str p,rfl,rfl⟩)];simp[encT]
    refine⟨_,e0,by rw[ab2,List.length_map];omega,?_⟩;rw[ach (by rw[ac2];exact aiu R.gc)];exact hN' _ rfl
   rintro _ rfl;have ck:∀ j,(crT prs ef u j).map (·.1)=prs.map (·.2):=fun j=>by simp[crT,Function.comp_def]
   have bnd:(((wIns C prs).map fun x=>(x,wf x/2 ^ j%2))++crT prs ef u j).map (·.1) |>.Nodup:=by
    rw[List.map_append,ac2,ck];refine List.nodup_append.mpr ⟨aiu R.gc,R.n2,fun a ha b hb z=>?_⟩;have:=(List.mem_filter.mp ha).2;rw[decide_eq_true (z▸hb)] at this;cases this
   refine aag (fun ρ=>ρ=rS C prs W wkv ekv (.val (.lst ((wIns C prs).map D.str))) (.val (.dK (encT (crT prs ef u j)))) (.val (.lst ((acr C prs).map D.str))) (.own (.dK (encT (outT C prs u j)))) (.val (.int (2 ^ j))) (.own (.dK (encT (((wIns C prs).map fun x=>(x,wf x/2 ^ j%2))++crT prs ef u j)))) af nm) (fun N' hN'=>?_) ?_
   ·refine⟨rfl,?_,?_⟩
    ·rw[ab2,ab2,List.length_map];unfold crT;rw[List.length_map];omega
    ·rw[ajh _ _ bnd];exact hN' _ rfl
   rintro _ rfl;have has:HasD (encT (((wIns C prs).map fun x=>(x,wf x/2 ^ j%2))++crT prs ef u j)) C.ins (ρb j):=fun x hx=>by
    refine⟨?_,(hr'.bits R j hj).1 x hx⟩;by_cases q:x∈prs.map (·.2)
    ·obtain⟨p,hp,rfl⟩:=List.mem_map.mp q;have hm:(p.2,crd ef u j p)∈((wIns C prs).map fun x=>(x,wf x/2 ^ j%2))++crT prs ef u j:=List.mem_append_right _ (List.mem_map.mpr ⟨p,hp,rfl⟩);rw[(valT _ p.2).1 (List.mem_map.mpr ⟨_,hm,rfl⟩),ait bnd hm,hr'.c j hj p hp]
    ·have hx':x∈wIns C prs:=List.mem_filter.mpr ⟨hx,by rw[decide_eq_false q];rfl⟩;have hm:(x,wf x/2 ^ j%2)∈((wIns C prs).map fun x=>(x,wf x/2 ^ j%2))++crT prs ef u j:=List.mem_append_left _ (List.mem_map.mpr ⟨x,hx',rfl⟩);rw[(valT _ x).1 (List.mem_map.mpr ⟨_,hm,rfl⟩),ait bnd hm,hr'.w j hj x hx']
   refine aag (fun ρ=>∃ bi:Sl,ρ=rS C prs W wkv ekv (.val (.lst ((wIns C prs).map D.str))) (.val (.dK (encT (crT prs ef u j)))) (.val (.lst ((acr C prs).map D.str))) (.own (.dK (encT (outT C prs u j)))) (.val (.int (2 ^ j))) bi (.own (.dK (encT (C.outs.map fun o=>(o,u j o))))) nm) (fun N' hN'=>?_) ?_
   ·refine⟨rfl,_,rfl,rfl,C,_,ρb j,rfl,R.gc,has,.inr (ata _ _),_,afx _,by rw[List.length_map];omega,?_⟩;rw[atv,ach (by simpa [Function.comp_def] using R.gc.ond),← hr'.uu j hj];exact hN' _ ⟨_,rfl⟩
   rintro _ ⟨bi,rfl⟩;refine aag (fun ρ=>∃ nm:Sl,ρ=rS C prs W wkv ekv (.val (.lst ((wIns C prs).map D.str))) (.val (.dK (encT (crT prs ef u j)))) (.val (.lst ((acr C prs).map D.str))) (.own (.dK (encT (outT C prs u (j+1))))) (.val (.int (2 ^ j))) bi (.own (.dK (encT (C.outs.map fun o=>(o,u j o))))) nm) (fun N' hN'=>?_) ?_
   ·have u0:upT (acr C prs) (fun o=>sN (fun j=>2 ^ j*u j o) j) (fun o=>sN (fun j=>2 ^ j*u j o) (j+1)) 0=outT C prs u j:=by unfold upT outT;rw[List.take_zero,List.drop_zero];rfl
    have uN:upT (acr C prs) (fun o=>sN (fun j=>2 ^ j*u j o) j) (fun o=>sN (fun j=>2 ^ j*u j o) (j+1)) (acr C prs).length=outT C prs u (j+1):=by unfold upT outT;rw[List.take_of_length_le (Nat.le_refl _),List.drop_of_length_le (Nat.le_refl _),List.map_nil,List.append_nil]
    refine ae0 ((acr C prs).map D.str) _ (fun Ψ h=>h) (fun m ρ=>∃ nm:Sl,ρ=rS C prs W wkv ekv (.val (.lst ((wIns C prs).map D.str))) (.val (.dK (encT (crT prs ef u j)))) (.val (.lst ((acr C prs).map D.str))) (.own (.dK (encT (upT (acr C prs) (fun o=>sN (fun j=>2 ^ j*u j o) j) (fun o=>sN (fun j=>2 ^ j*u j o) (j+1)) m)))) (.val (.int (2 ^ j))) bi (.own (.dK (encT (C.outs.map fun o=>(o,u j o))))) nm) ⟨nm,by rw[u0]⟩ ?_ ?_
    ·rintro m x ρ hx ⟨nm,rfl⟩;obtain⟨o,ho,rfl⟩:=acf hx;obtain⟨q1,q2⟩:=awi (ajk (prs:=prs) R.gc) (a:=fun o=>sN (fun j=>2 ^ j*u j o) j) (b:=fun o=>sN (fun j=>2 ^ j*u j o) (j+1)) ho;have om:=List.mem_of_getElem? ho;refine⟨_,o,rfl,rfl,by rw[agh];exact om,by rw[agh];exact ajk R.gc,?_,rfl,rfl,.int (u j o),?_,.inl ⟨by omega,by omega⟩,rfl,.val (.str o),?_⟩
     ·have:=congrArg List.length (agh (acr C prs) (fun o=>sN (fun j=>2 ^ j*u j o) j) (fun o=>sN (fun j=>2 ^ j*u j o) (j+1)) m);rw[List.length_map] at this;omega
     ·show some (valD (encT (C.outs.map fun o=>(o,u j o))) (Sum.inr o))=_;rw[au4 ((List.mem_filter.mp om).1)]
     ·rw[q1];show rS _ _ _ _ _ _ _ _ (.own (.dK (encT (putT _ o (sN (fun j=>2 ^ j*u j o) (j+1)))))) _ _ _ _=_;rw[q2]
    ·rintro ρ ⟨nm,rfl⟩;rw[List.length_map,uN];exact hN' _ ⟨nm,rfl⟩
   rintro _ ⟨nm,rfl⟩;unfold sSet dC aC;refine acs prs (fun p=>D.tup [.str p.1,.str p.2]) (fun p=>.tup [.str p.2,.int (u j p.1)]) (rS C prs W wkv ekv (.val (.lst ((wIns C prs).map D.str))) (.val (.dK (encT (crT prs ef u j)))) (.val (.lst ((acr C prs).map D.str))) (.own (.dK (encT (outT C prs u (j+1))))) (.val (.int (2 ^ j))) bi (.own (.dK (encT (C.outs.map fun o=>(o,u j o))))) nm) (fun Ψ h=>⟨rfl,_,rfl,h⟩) (by omega) (fun i p ys Nx e h1 h2=>⟨rfl,rfl,rfl,.int (u j p.1),?_,by show 2<=1000;decide,h1,h2⟩) ?_
   ·show some (valD (encT (C.outs.map fun o=>(o,u j o))) (Sum.inr p.1))=_;rw[au4 (R.o p (List.mem_of_getElem? e))]
   have e0:ae2 (prs.map fun p=>D.tup [.str p.2,.int (u j p.1)])=some (encT (crT prs ef u (j+1))):=by
    rw[ab9 (g:=fun p:Str×Str=>((Sum.inr p.2:Key),D.int (u j p.1))) (fun p=>⟨.str p.2,rfl,rfl⟩)];simp[encT,crT,crd]
   refine⟨_,e0,by rw[ab2];unfold crT;rw[List.length_map];omega,?_⟩;rw[ach (by rw[ck];exact R.n2)];exact⟨_,_,_,_,rfl⟩
  ·rintro ρ ⟨wo,bi,af,nm,rfl⟩;rw[List.length_map,List.length_range];exact hN _ ⟨wo,bi,af,nm,rfl⟩
 rintro _ ⟨wo,bi,af,nm,rfl⟩;unfold sRet dTup aC dC;refine vd_own rfl ?_;refine acs prs (fun p=>D.tup [.str p.1,.str p.2]) (fun p=>.tup [.str p.1,.int (crd ef u W p)]) (rS C prs W wkv ekv (.val (.lst ((wIns C prs).map D.str))) (.own (.dK (encT (crT prs ef u W)))) (.val (.lst ((acr C prs).map D.str))) (.val (.dK (encT (outT C prs u W)))) wo bi af nm) (fun Ψ h=>⟨rfl,_,rfl,h⟩) (by omega) (fun i p ys Nx e h1 h2=>⟨rfl,rfl,rfl,.int (crd ef u W p),?_,by show 2<=1000;decide,h1,h2⟩) ?_
 ·have pm:=List.mem_of_getElem? e;show some (valD (encT (crT prs ef u W)) (Sum.inr p.2))=_;have hm:(p.2,crd ef u W p)∈crT prs ef u W:=List.mem_map.mpr ⟨p,pm,rfl⟩;rw[(valT _ p.2).1 (List.mem_map.mpr ⟨_,hm,rfl⟩),ait (by simpa [crT,Function.comp_def] using R.n2) hm]
 have e0:ae2 (prs.map fun p=>D.tup [.str p.1,.int (crd ef u W p)])=some (encT (prs.map fun p=>(p.1,crd ef u W p))):=by
  rw[ab9 (g:=fun p:Str×Str=>((Sum.inr p.1:Key),D.int (crd ef u W p))) (fun p=>⟨.str p.1,rfl,rfl⟩)];simp[encT]
 refine⟨_,e0,by rw[ab2,List.length_map];omega,?_⟩;rw[ach (by simpa [Function.comp_def] using R.n1)];exact⟨by show 2<=1000;decide,hΦ⟩
end
end Lw
namespace L2
open PySem PySem.Spec PyProof.Rows
theorem Fun.okX {P:Program}{w:World}{K:PySem.W.Frag}{mg:Str->Option Value}{base:Heap}{x qual:Str}{st:Stmt}{f:Addr}{fd:FuncData}{N ps:List Str}{k:Nat}{sp:Sp}(F:Fun K x qual st f fd) (S:FnScope N ps (aaj st)) (len:∀ vs H Q E,sp vs H Q E->vs.length=ps.length)
  (hbody:∀ (cdv:Value) (A:Around) (outer:List Env) (s:Shared) (H:Hp) (vs:List V) (Q:VK) (E:XK),Room k (A.deeper (envOfC qual (aaj st) s.heap.objs.size f cdv))->sp vs H Q E ->∃ t,PSs (cxOf (CXe P w) P w K mg base N qual (aaj st) f cdv A outer s H E) (acv st) t/\t { nx:=fun _ H'=>Q .non H',rt:=Q } (afs N vs) H):FnOk P w K mg base (CXe P w) (k+1) f fd ps sp:=by
 obtain⟨oc,od,kV,doc,pm,an,cdv,ct,osl,rfl,lk,hcd⟩:=F.ex;exact fn_of lk hcd S len fun A outer s H vs Q E hr hsp=>hbody cdv A outer s H vs Q E hr hsp
end L2
namespace Lw
open PySem L2
structure NN (K:PySem.W.Frag) (mg:Str->Option Value) (CE CN N fI:Addr) (bm:List Value):Prop where
 mCE:mg "CellError" = some (.ref CE)
 g1:PySem.W.specialIn K (.ref CE) "__getattribute__" = some (some (.builtin "type.__getattribute__"))
 g2:PySem.W.readsIn K CE (.type "type")=true
 g3:PySem.W.findCls K (.ref CE) (.type "type") "__init__" = some (.val (.builtin "ValueError.__init__"))
 mCN:mg "NoName" = some (.ref CN)
 xc:xcIn K CN N bm (some (.ref fI))=true
 kp:PySem.W.keepIn K (.ref CN)=true
 sa:PySem.W.findIn K (.ref CN) "__setattr__" = some (some (.builtin "object.__setattr__"))
 fw:PySem.W.findIn K (.ref CN) "word" = some none
 rf:∀ a,refuseLoop (.ref a) "__setattr__" (.ref CN::bm)=pure ()
 ob:bm.contains (.type "object")=true
 bb:bm.contains (.type "BaseException")=true
 xf:PySem.W.XFacts K CN
 ex:PySem.W.exmOne K (.ref CN) (.ref CE)=some true
def Sm (x:Str):Prop:=(∀ c∈x.cps.toList,c<16 ^ 8)/\x.length<=1000
def aur (CN:Addr):Sp:=fun vs H Q _=>∃ (e:Addr) (y:Str),vs=[.ref e,.str y]/\Sm y/\H e=some (ExN e CN)/\∀ dd,H dd=none->Q .non (upd (upd H dd (.xd [("word",.str y)])) e (ExD e CN dd))
def lack (xs:List Str) (kvs:List (Key×V)):Option Str:=xs.find? fun x=>(valV kvs (Sum.inr x)).isNone
def Rz (CN:Addr) (y:Str) (H:Hp) (E:XK):Prop:=∀ dd H',H dd=none->H' dd=some (.xd [("word",.str y)])->Same H H'->E (.ref CN) (some dd) H'
def amw (K:PySem.W.Frag) (CN:Addr):Sp:=fun vs H Q E=>∃ (na b:Addr) (xs:List Str) (kvs:List (Key×V)),vs=[.ref na,.ref b]/\(SqL K H na (xs.map V.str)\/SqT K H na (xs.map V.str))/\(∀ x∈xs,Sm x)/\H b=some (.dK kvs)/\(lack xs kvs=none->Q .non H)/\∀ y,lack xs kvs=some y->Rz CN y H E
theorem ap1 {xs:List Str}{kvs:List (Key×V)}{i:Nat}{y:Str}(hy:xs[i]?=some y) (h:∀ x∈xs.take i,∃ v,valV kvs (Sum.inr x)=some v) (hn:valV kvs (Sum.inr y)=none):lack xs kvs=some y:=by
 unfold lack;have e:xs=xs.take i++y::xs.drop (i+1):=by
  obtain⟨hi,rfl⟩:=List.getElem?_eq_some_iff.mp hy;rw[List.getElem_cons_drop,List.take_append_drop]
 rw[e,List.find?_append];have z:(xs.take i).find? (fun x=>(valV kvs (Sum.inr x)).isNone)=none:=List.find?_eq_none.mpr fun x hx=>by
  obtain⟨v,hv⟩:=h x hx;rw[hv];simp
 rw[z];simp[List.find?_cons,hn]
section
variable {P:Program}{w:World}{K:PySem.W.Frag}{mg:Str->Option Value}{base:Heap}{CE CN N fI:Addr}{bm:List Value}
theorem scInit:FnScope ["self","word"] ["self","word"] (aaj aoz):=⟨rfl,rfl,rfl,by decide +kernel,rfl,by decide +kernel,by decide +kernel⟩
set_option maxHeartbeats 1000000 in
theorem aw3 {f:Addr}{fd:FuncData}(F:Fun K "__init__" "NoName.__init__" aoz f fd) (O:NN K mg CE CN N fI bm):FnOk P w K mg base CX0 1 f fd ["self","word"] (aur CN):=by
 refine F.ok scInit (fun vs H Q E h=>?_) (fun cdv A outer s H vs Q E hr h=>?_)
 ·obtain⟨e,y,rfl,_⟩:=h;rfl
 ·obtain⟨e,y,rfl,⟨s1,s2⟩,he,k⟩:=h;refine⟨_,aas (aeb (arj (by rfl) O.mCE O.g1 O.g2 O.g3 (pv 0) (axv (pv 1)) ⟨rfl,rfl,rfl,rfl⟩)) (aav (awe (pv 0) (pv 1) rfl)),?_⟩;refine⟨_,rfl,_,rfl,y,rfl,s1,s2,fun z=>⟨e,CN,N,bm,_,z,rfl,rfl,he,O.xc,?_⟩⟩;exact⟨_,rfl,_,rfl,e,CN,N,bm,_,rfl,he,O.xc,O.sa,O.fw,O.rf,O.ob,k⟩
set_option maxHeartbeats 2000000 in
theorem aso {f:Addr}{fd fdI:FuncData}{oI:Obj}(F:Fun K "check_there" "check_there" abd f fd) (O:NN K mg CE CN N fI bm) (FI:FnOk P w K mg base CX0 1 fI fdI ["self","word"] (aur CN)) (bI:ahl K fdI ["self","word"] []) (lI:K.lookup fI=some oI) (cI:oI.cls = .type "function") :
  FnOk P w K mg base (CXe P w) 3 f fd ["names","given"] (amw K CN):=by
 refine F.okX (k:=2) aik (fun vs H Q E h=>?_) (fun cdv A outer s H vs Q E hr h=>?_)
 ·obtain⟨na,b,xs,kvs,rfl,_⟩:=h;rfl
 ·obtain⟨na,b,xs,kvs,rfl,hn,hsm,hb,k1,k2⟩:=h;have hu:=adt hr;refine⟨_,aav (ahz PassesOwn.leaving rfl (asd (pv 0)) (ado (i:=2) aik.nd rfl (Or.inl rfl)) (aav (ahc (ara (akp hu (pv 2) (pv 1))) (aav (arx (aun (x := "NoName") O.xc O.kp lI cI FI hr (by rfl) O.mCN bI (pa_c (pv 2) aak)))) adl))),?_⟩;refine⟨_,rfl,?_⟩;let Pv:Nat->St->Hp->Prop:=fun i σ H2=>H=H2/\(∃ v3,σ=[some (.ref na),some (.ref b),v3])/\∀ x∈xs.take i,∃ v,valV kvs (Sum.inr x)=some v
  have dgn:∀ y,valV kvs (Sum.inr y:Key)=none->DGet H b (.str y) none:=fun y hv=>by
   have:=DGet.k (k:=(Sum.inr y:Key)) hb;rw[hv] at this;exact this
  have more:∀ i y v,xs[i]?=some y->valV kvs (Sum.inr y:Key)=some v->(∀ x∈xs.take i,∃ v,valV kvs (Sum.inr x)=some v)->∀ x∈xs.take (i+1),∃ v,valV kvs (Sum.inr x)=some v:=fun i y v hy hv hp x hx=>by
   rw[show xs.take (i+1)=xs.take i++[y] by rw[List.take_add_one,hy];rfl] at hx;rcases List.mem_append.mp hx with z | z
   ·exact hp x z
   ·rw[List.mem_singleton.mp z];exact⟨v,hv⟩
  have thrown:∀ i y,xs[i]?=some y->valV kvs (Sum.inr y:Key)=none->(∀ x∈xs.take i,∃ v,valV kvs (Sum.inr x)=some v)->∀ a dd T X Y Z,H a=none->upd H a (ExN a CN) dd=none->upd (upd (upd H a (ExN a CN)) dd (.xd [("word",.str y)])) a Z T=none ->
    E (.ref CN) (some dd) (upd (upd (upd (upd (upd H a (ExN a CN)) dd (.xd [("word",.str y)])) a Z) a X) T Y):=fun i y hy hv hp a dd T X Y Z nA nD nT=>by
   have da:dd≠a:=fun z=>by rw[z,aaa] at nD;cases nD
   have nD':H dd=none:=by rw[aad da] at nD;exact nD
   have Ta:T≠a:=fun z=>by rw[z,aaa] at nT;cases nT
   have Td:T≠dd:=fun z=>by rw[z,aad da,aaa] at nT;cases nT
   have nT':H T=none:=by rw[aad Ta,aad Td,aad Ta] at nT;exact nT
   refine k2 y (ap1 hy hp hv) dd _ nD' (by rw[aad Td.symm,aad da,aad da,aaa]) fun c o e=>?_
   rw[aad (aab e nT'),aad (aab e nA),aad (aab e nA),aad (aab e nD'),aad (aab e nA)];exact e
  have fin:∀ i,xs.length<=i->(∀ x∈xs.take i,∃ v,valV kvs (Sum.inr x)=some v)->Q .non H:=fun i hi hp=>by
   rw[List.take_of_length_le hi] at hp;refine k1 ?_;unfold lack;exact List.find?_eq_none.mpr fun x hx=>by obtain⟨v,hv⟩:=hp x hx;rw[hv];simp
  rcases hn with hn | hn
  ·refine .inl ⟨na,rfl,⟨_,hn⟩,an0 (K:=K) (a:=na) (xs:=xs.map V.str) Pv ⟨rfl,⟨none,rfl⟩,fun x hx=>by simp at hx⟩ (fun i σ H2 _ ⟨e,_⟩=>by rw[← e];exact hn) ?_ ?_⟩
   ·rintro i x σ H2 hx ⟨rfl,⟨v3,rfl⟩,hp⟩;obtain⟨y,hy,rfl⟩:=air hx;cases hv:valV kvs (Sum.inr y:Key) with
    | some v=>exact⟨_,rfl,_,rfl,b,_,rfl,asp hb hv,_,rfl,iteF ⟨rfl,⟨_,rfl⟩,more i y v hy hv hp⟩⟩
    | none=>exact⟨_,rfl,_,rfl,b,_,rfl,dgn y hv,_,rfl,(if_pos rfl).mpr ⟨_,rfl,(by show 1<=10;decide),fun a nA=>⟨a,y,rfl,hsm y (List.mem_of_getElem? hy),aaa,fun dd nD=>⟨rfl,a,CN,N,dd,bm,_,rfl,aaa,O.xc,O.bb,fun T nT=>thrown i y hy hv hp a dd T _ _ _ nA nD nT⟩⟩⟩⟩
   ·rintro σ H2 ⟨rfl,_,hp⟩;exact fin _ (Nat.le_of_eq (List.length_map ..).symm) hp
  ·refine .inr (.inl ⟨na,rfl,⟨_,hn⟩,aqa (K:=K) (a:=na) (xs:=xs.map V.str) Pv ⟨rfl,⟨none,rfl⟩,fun x hx=>by simp at hx⟩ (fun i σ H2 _ ⟨e,_⟩=>by rw[← e];exact hn) ?_ ?_⟩)
   ·rintro i x σ H2 hx ⟨rfl,⟨v3,rfl⟩,hp⟩;obtain⟨y,hy,rfl⟩:=air hx;cases hv:valV kvs (Sum.inr y:Key) with
    | some v=>exact⟨_,rfl,_,rfl,b,_,rfl,asp hb hv,_,rfl,iteF ⟨rfl,⟨_,rfl⟩,more i y v hy hv hp⟩⟩
    | none=>exact⟨_,rfl,_,rfl,b,_,rfl,dgn y hv,_,rfl,(if_pos rfl).mpr ⟨_,rfl,(by show 1<=10;decide),fun a nA=>⟨a,y,rfl,hsm y (List.mem_of_getElem? hy),aaa,fun dd nD=>⟨rfl,a,CN,N,dd,bm,_,rfl,aaa,O.xc,O.bb,fun T nT=>thrown i y hy hv hp a dd T _ _ _ nA nD nT⟩⟩⟩⟩
   ·rintro σ H2 ⟨rfl,_,hp⟩;exact fin _ (Nat.le_of_eq (List.length_map ..).symm) hp
end
end Lw
namespace L2
open PySem PySem.Spec PyProof.Rows Lw
theorem DS.pick {K:PySem.W.Frag}{A:Addr->Prop}{H:Hp}{ρ:List Sl}{σ:St}(h:∀ p∈ρ.zip σ,p.1 = .no\/∃ d v,p=(.val d,some v)/\Rep K A H d v):DS K ⟨[],A,H⟩ (ρ.zip σ++[]) H:=by
 have e1:aaf (ρ.zip σ)=[]:=by
  refine List.eq_nil_iff_forall_not_mem.mpr fun a ha=>?_
  obtain⟨q,hq',e⟩:=abw.mp ha;rcases h q hq' with z | ⟨d,v,rfl,_⟩
  ·obtain⟨q1,q2⟩:=q;cases z;cases e
  ·cases e
 rw[List.append_nil];refine⟨fun b o e _=>e,.inl rfl,by rw[e1];exact List.nodup_nil,(fun a ha=>by rw[e1] at ha;exact absurd ha List.not_mem_nil),fun q hq'=>?_⟩;rw[e1];rcases h q hq' with z | ⟨d,v,rfl,r⟩
 ·obtain⟨q1,q2⟩:=q;cases z
  trivial
 ·exact⟨v,rfl,r.mono (.all fun a ha=>⟨List.not_mem_nil,List.not_mem_nil,.inl ha⟩)⟩
end L2
namespace Lw
open PySem L2
def abt (xs:List Str) (kvs:List (Key×D)):Option Str:=xs.find? fun x=>(valD kvs (Sum.inr x)).isNone
theorem akk {κ:Type} [DecidableEq κ] (k:κ):∀ {ds:List (κ×D)}{kvs:List (κ×V)},ds.map (·.1)=kvs.map (·.1)->(valD ds k).isNone=(valV kvs k).isNone
 | [],[],_=>rfl
 | [],_::_,e=>by simp at e
 | _::_,[],e=>by simp at e
 | (j,d)::ds,p::kvs,e=>by
  simp only[List.map_cons,List.cons.injEq] at e;rw[aby];by_cases h:j=k
  ·rw[if_pos h,ad3 (e.1.symm.trans h)];rfl
  ·rw[if_neg h,ad0 (fun z=>h (e.1.trans z))];exact akk k e.2
theorem ain {xs:List Str}{ds:List (Key×D)}{kvs:List (Key×V)}(e:ds.map (·.1)=kvs.map (·.1)):lack xs kvs=abt xs ds:=by
 unfold lack abt
 congr 1
 funext x
 exact (akk _ e).symm
def aqe (K:PySem.W.Frag) (CN:Addr):Sp:=fun vs H Q E=>∃ (A:Addr->Prop) (C:Cel) (prs:List (Str×Str)) (W:Nat) (wkv ekv:List (Key×D)),Reps K A H [encW C prs,.int W,.dK wkv,.dK ekv] vs/\RowOk C prs/\(∀ x∈C.ins,Sm x)/\(∀ p∈prs,Sm p.2)/\W<=60 /\
 ((∃ (wf ef:Str->Int) (u ρ:Nat->Str->Int),RunOk C prs W wf ef u ρ/\(∀ x∈wIns C prs,valD wkv (Sum.inr x)=some (.int (wf x)))/\(∀ p∈prs,valD ekv (Sum.inr p.2)=some (.int (ef p.2)))/\∀ v H',Same H H'->Q v H') \/ ∃ y,(abt (wIns C prs) wkv=some y\/abt (wIns C prs) wkv=none/\abt (prs.map (·.2)) ekv=some y)/\Rz CN y H E)
theorem Rz.of {CN:Addr}{y:Str}{H H2:Hp}{E:XK}(h:Rz CN y H E) (s:Same H H2):Rz CN y H2 E:=fun dd H' nd hx sm=>by
 refine h dd H' ?_ hx fun b o e=>sm b o (s b o e)
 cases e:H dd with
 | none=>rfl
 | some o=>rw[s dd o e] at nd;cases nd
theorem reps_strs {K:PySem.W.Frag}{A:Addr->Prop}{H:Hp}:∀ {xs:List Str}{vs:List V},Reps K A H (xs.map D.str) vs->vs=xs.map V.str
 | [],_,r=>by cases r;rfl
 | x::xs,_,r=>by
  cases r with
  | cons h r=>rw[h.str_inv,reps_strs r];rfl
theorem ake {K:PySem.W.Frag}{A:Addr->Prop}{H:Hp}:∀ xs:List Str,Reps K A H (xs.map D.str) (xs.map V.str)
 | []=>.nil
 | x::xs=>.cons (.str x) (ake xs)
theorem aiw (C:Cel) (prs:List (Str×Str)):imm (encW C prs)=true:=by
 have a:∀ xs:List Str,immL (xs.map D.str)=true:=fun xs=>ais (fun _=>rfl) xs
 have b:immL (C.gates.map encG)=true:=ais (fun g=>by
  show (true&&(true&&(immL (g.2.2.map D.str)&&true)))=true;rw[a];rfl) _
 have c:immL (prs.map fun p=>D.tup [.str p.1,.str p.2])=true:=ais (fun _=>rfl) _;show ((immL (C.ins.map D.str)&&(immL (C.gates.map encG)&&(immL (C.outs.map D.str)&&true)))&&(immL (prs.map fun p=>D.tup [.str p.1,.str p.2])&&true))=true;rw[a,a,b,c];rfl
section
variable {P:Program}{w:World}{K:PySem.W.Frag}{mg:Str->Option Value}{base:Heap}{CE CN N fI:Addr}{bm:List Value}
set_option maxHeartbeats 2000000 in
theorem atx {f fT fC fJ fO fW fB:Addr}{fd fdT fdC fdJ fdO fdW fdB:FuncData}(F:Fun K "laid" "laid" afn f fd) (T:Txt mg) (ax6:Gd K mg "check_there" abd ["names","given"] fT fdT) (ax3:Gd K mg "carried_inputs" aay ["row"] fC fdC) (ayh:Gd K mg "word_inputs" ab5 ["row"] fJ fdJ) (ayb:Gd K mg "word_outputs" abg ["row"] fO fdO) (aya:Gd K mg "place_worths" abe ["count"] fW fdW) (ayk:Gd K mg "told_by" add ["cell","bits"] fB fdB)
  (TH:FnOk P w K mg base (CXe P w) 3 fT fdT ["names","given"] (amw K CN)) (ayd:FnOk P w K mg base CX0 1 fC fdC ["row"] (spD K R_ci)) (ay5:FnOk P w K mg base CX0 2 fJ fdJ ["row"] (spD K R_wi)) (ayt:FnOk P w K mg base CX0 1 fO fdO ["row"] (spD K R_wo)) (ayq:FnOk P w K mg base CX0 1 fW fdW ["count"] (spD K R_pw)) (ayy:FnOk P w K mg base CX0 2 fB fdB ["cell","bits"] (spD K asa)) :
  FnOk P w K mg base (CXe P w) 4 f fd ["row","width","words","edges"] (aqe K CN):=by
 refine F.okX (k:=3) ade (fun vs H Q E h=>?_) (fun cdv A outer s H vs Q E hr h=>?_)
 ·obtain⟨_,_,_,_,_,_,r,_⟩:=h;rw[← r.length];rfl
 ·obtain⟨A1,C,prs,W,wkv,ekv,r,R,sm1,sm2,hW,hk⟩:=h;have hu:=adt hr;have lp:=R.lp;have li:=R.gc.li;cases r with
  | cons rR r =>
  cases r with
  | cons rW r =>
  cases r with
  | cons rw' r =>
  cases r with
  | cons re' r =>
  cases r
  rename_i vR vW vw ve
  obtain rfl:=rW.int_inv;obtain⟨aw,kw,rfl,Aw,hw1,hw2,rw2⟩:=rw'.dK_inv;obtain⟨ae,ke,rfl,Ae,he1,he2,re2⟩:=re'.dK_inv;have rI:∀ (A':Addr->Prop),Rep K A' H (encW C prs) vR:=fun A'=>rR.imm (aiw C prs)
  have rI2:∀ (A':Addr->Prop) {H2:Hp},Same H H2->Rep K A' H2 (encW C prs) vR:=fun A' {H2} sm=>(rR.mono (.same sm fun _ z=>z)).imm (aiw C prs)
  obtain⟨aR,us,rfl,hR,rus⟩:=Rep.tup_inv rR;cases rus with
  | cons rc rus =>
  cases rus with
  | cons rp rus =>
  cases rus
  rename_i vC vP
  have none_of:∀ {wf ef:Str->Int},(∀ x∈wIns C prs,valD wkv (Sum.inr x)=some (.int (wf x)))->(∀ p∈prs,valD ekv (Sum.inr p.2)=some (.int (ef p.2)))->abt (wIns C prs) wkv=none/\abt (prs.map (·.2)) ekv=none:=fun h1 h2=>by
   refine⟨List.find?_eq_none.mpr fun x hx=>by rw[h1 x hx];simp,List.find?_eq_none.mpr fun x hx=>?_⟩;obtain⟨p,hp,rfl⟩:=List.mem_map.mp hx;rw[h2 p hp];simp
  let σ1:Option V->Option V->St:=fun c i=>[some (.ref aR),some (.int W),some (.ref aw),some (.ref ae),c,i,none,none,none,none,none,none,none]
  have raised:∀ y H1,(abt (wIns C prs) wkv=some y\/abt (wIns C prs) wkv=none/\abt (prs.map (·.2)) ekv=some y)->Same H H1->Rz CN y H1 E:=fun y H1 hl sm=>by
   rcases hk with⟨wf,ef,u,ρ,_,h1,h2,_⟩ | ⟨y',hl',rz⟩
   ·obtain⟨n1,n2⟩:=none_of h1 h2;rw[n1,n2] at hl;rcases hl with z | ⟨_,z⟩<;>cases z
   ·have:y'=y:=by
     rcases hl with z | ⟨z1,z2⟩<;>rcases hl' with q | ⟨q1,q2⟩
     ·rw[z] at q;cases q;rfl
     ·rw[z] at q1;cases q1
     ·rw[z1] at q;cases q
     ·rw[z2] at q2;cases q2;rfl
    subst this;exact rz.of sm
  have pass:∀ (ls:Option Str) H1,(∀ y,ls=some y->Rz CN y H1 E)->∀ Cv od H2 e T',(∃ (y:Str) (dd:Addr),ls=some y/\Cv = .ref CN/\od=some dd/\H1 dd=none/\H2 dd=some (.xd [("word",.str y)])/\Same H1 H2)->H2 e=some (ExC e Cv od)->H2 T'=none->E Cv od (upd H2 T' (AnyO T')):=by
   rintro ls H1 hz Cv od H2 e T' ⟨y,dd,hl,rfl,rfl,nd,hx,sm⟩ he nT;refine hz y hl dd _ nd (by rw[aad (aab hx nT)];exact hx) fun c o q=>?_
   rw[aad (aab (sm c o q) nT)];exact sm c o q
  refine acx (fun σ H2=>H=H2/\σ=σ1 (some vC) none) (fun u hu'=>?_) ?_
  ·exact⟨_,aa5 (i:=4) ade.nd rfl (Or.inl rfl) (acq auv (pv 0) aap (fun _ _=>rfl)),_,rfl,aR,_,_,vC,rfl,rfl,SqT.of hR,aa9 (xs:=[vC,vP]) (j:=0) rfl,hu' _ _ ⟨rfl,rfl⟩⟩
  rintro _ _ ⟨rfl,rfl⟩;refine acx (fun σ H2=>∃ ai,Same H H2/\σ=σ1 (some vC) (some (.ref ai))/\H2 ai=some (.lst ((wIns C prs).map V.str))) (fun u hu'=>?_) ?_
  ·refine⟨_,aa5 (i:=5) ade.nd rfl (Or.inl rfl) (aba ay5 (hr.mono (by decide)) (by rfl) ayh.m ayh.k ayh.b .nil adg (pa_c (pv 0) aak)),?_⟩;refine⟨_,rfl,[],fun _=>True,[encW C prs],fun q=>q = .own (.lst ((wIns C prs).map D.str)),.inl rfl,fun _ _=>List.not_mem_nil,.cons (rI _) .nil,⟨C,prs,rfl,lp,by omega,rfl⟩,?_⟩;rintro q v H1 rfl frm _ rv;obtain⟨ai,rfl,_,_,vs,hai,ra⟩:=rv;rw[reps_strs ra] at hai;exact hu' _ _ ⟨ai,fun b o e=>frm b o e List.not_mem_nil,rfl,hai⟩
  rintro _ H1 ⟨ai,s1,rfl,hai⟩;refine acx (fun σ H2=>Same H H2/\σ=σ1 (some vC) (some (.ref ai))/\H2 ai=some (.lst ((wIns C prs).map V.str))/\abt (wIns C prs) wkv=none) (fun u hu'=>?_) ?_
  ·refine⟨_,aeb (aba (E:=fun Cv od H2=>∃ (y:Str) (dd:Addr),abt (wIns C prs) wkv=some y/\Cv = .ref CN/\od=some dd/\H1 dd=none/\H2 dd=some (.xd [("word",.str y)])/\Same H1 H2) TH hr (by rfl) ax6.m ax6.k ax6.b .nil (passX ?_) (pa_c (pv 5) (pa_c (pv 2) aak))),?_⟩
   ·rintro Cv od H2 e T' z he nT;exact pass _ H1 (fun y hl=>raised y H1 (.inl hl) s1) Cv od H2 e T' z he nT
   ·refine⟨_,rfl,_,rfl,ai,aw,wIns C prs,kw,rfl,.inl (SqL.of hai),fun x hx=>sm1 x (List.mem_filter.mp hx).1,s1 _ _ hw1,fun hl=>hu' _ _ ⟨s1,rfl,hai,by rw[← ain hw2];exact hl⟩,fun y hl dd H2 nd hx s2=>⟨y,dd,by rw[← ain hw2];exact hl,rfl,rfl,nd,hx,s2⟩⟩
  rintro _ H2 ⟨s2,rfl,hai2,hl1⟩;refine acx (fun σ H3=>Same H H3/\σ=σ1 (some vC) (some (.ref ai))/\H3 ai=some (.lst ((wIns C prs).map V.str))/\abt (prs.map (·.2)) ekv=none) (fun u hu'=>?_) ?_
  ·refine⟨_,aeb (aba (E:=fun Cv od H4=>∃ (H3:Hp) (y:Str) (dd:Addr),Same H H3/\abt (prs.map (·.2)) ekv=some y/\Cv = .ref CN/\od=some dd/\H3 dd=none/\H4 dd=some (.xd [("word",.str y)])/\Same H3 H4) TH hr (by rfl) ax6.m ax6.k ax6.b .nil (passX ?_) (pa_c (aba ayd (hr.mono (by decide)) (by rfl) ax3.m ax3.k ax3.b .nil adg (pa_c (pv 0) aak)) (pa_c (pv 3) aak))),?_⟩
   ·rintro Cv od H4 e T' ⟨H3,y,dd,s3,z⟩ he nT;exact pass _ H3 (fun y hl=>raised y H3 (.inr ⟨hl1,hl⟩) s3) Cv od H4 e T' ⟨y,dd,z⟩ he nT
   ·refine⟨_,rfl,[],fun _=>True,[encW C prs],fun q=>q = .own (.lst ((prs.map (·.2)).map D.str)),.inl rfl,fun _ _=>List.not_mem_nil,.cons (rI2 _ s2) .nil,⟨C,prs,rfl,lp,by rw[List.map_map];rfl⟩,?_⟩;rintro q v H3 rfl frm _ rv;obtain⟨ac,rfl,_,_,vs,hac,ra⟩:=rv;rw[reps_strs ra] at hac;have s3:Same H2 H3:=fun b o e=>frm b o e List.not_mem_nil
    have sH:Same H H3:=fun b o e=>s3 b o (s2 b o e)
    refine⟨_,rfl,ac,ae,prs.map (·.2),ke,rfl,.inl (SqL.of hac),fun x hx=>by obtain⟨p,hp,rfl⟩:=List.mem_map.mp hx;exact sm2 p hp,sH _ _ he1,fun hl=>hu' _ _ ⟨sH,rfl,s3 _ _ hai2,by rw[← ain he2];exact hl⟩,fun y hl dd H4 nd hx s4=>⟨H3,y,dd,sH,by rw[← ain he2];exact hl,rfl,rfl,nd,hx,s4⟩⟩
  rintro _ H3 ⟨s3,rfl,hai3,hl2⟩;rcases hk with⟨wf,ef,u,ρb,run,h1,h2,hq⟩ | ⟨y,hl,_⟩
  ·obtain⟨t,p1,p2⟩:=axz (P:=P) (w:=w) (base:=base) (f:=f) (cdv:=cdv) (outer:=outer) (s:=s) (H:=H) (E:=E) (dk:=[]) (Φ:=fun q=>True) T ax3 ayb aya ayk ayd ayt ayq ayy hr R run hW h1 h2 trivial;refine⟨_,PSs.nox p1,⟨[],fun _=>True,H3⟩,_,[],_,?_,?_,p2,?_,?_⟩
   ·rfl
   ·refine DS.pick fun p hp=>?_
    have hp:p∈[((.val (encW C prs):Sl),some (V.ref aR)),(.val (.int W),some (.int W)),(.val (.dK wkv),some (.ref aw)),(.val (.dK ekv),some (.ref ae)),(.val (encC C),some vC),(.val (.lst ((wIns C prs).map D.str)),some (.ref ai)),(.no,none),(.no,none),(.no,none),(.no,none),(.no,none),(.no,none),(.no,none)]:=hp;simp only[List.mem_cons,List.not_mem_nil,or_false] at hp;rcases hp with rfl | rfl | rfl | rfl | rfl | rfl | rfl | rfl | rfl | rfl | rfl | rfl | rfl
    ·exact .inr ⟨_,_,rfl,rI2 _ s3⟩
    ·exact .inr ⟨_,_,rfl,.int _⟩
    ·exact .inr ⟨_,_,rfl,.dK trivial (s3 _ _ hw1) hw2 (rw2.mono (.same s3 fun _ _=>trivial))⟩
    ·exact .inr ⟨_,_,rfl,.dK trivial (s3 _ _ he1) he2 (re2.mono (.same s3 fun _ _=>trivial))⟩
    ·exact .inr ⟨_,_,rfl,rc.mono (.same s3 fun _ _=>trivial)⟩
    ·exact .inr ⟨_,_,rfl,.lst trivial hai3 (ake _)⟩
    all_goals exact .inl rfl
   ·rintro ρ' σ' H' l1 l2 d1;exact⟨fun z=>hq _ H' fun b o e=>d1.fr b o (s3 b o e) List.not_mem_nil,fun z=>z.elim,fun z=>z.elim⟩
   ·rintro q v ρ' σ' H' l1 d1 _;exact hq _ H' fun b o e=>d1.fr b o (s3 b o e) List.not_mem_nil
  ·rcases hl with z | ⟨_,z⟩
   ·rw[hl1] at z;cases z
   ·rw[hl2] at z;cases z
end
end Lw
namespace L2
open PySem PySem.Spec PyProof.Rows
section
variable {X:Cx}{P:Program}{w:World}{K:PySem.W.Frag}{k:Nat}{f CE:Addr}{fd:FuncData}{ps:List Str}{sp:Sp}{ta:TA}
def tTryE (K:PySem.W.Frag) (CE:Addr) (j l:Nat) (sp:Sp) (ta:TA):TS:=fun D σ H=>ta σ H fun vs H1=>sp vs H1 (fun v H2=>D.nx σ H2)
 (fun C od H2=>∀ e T,H2 e=some (ExC e C od)->H2 T=none->PySem.W.exmOne K C (.ref CE)=some true/\D.nx (((σ.set j (some (.ref e))).set l (some (.ref e))).set j none) (upd H2 T (AnyO T)))
theorem av8 {j l:Nat}{g cx en ct:Str}{e0:Expr}{es:List Expr}{gp cpos ap cp tp ep sp' hp pos:Pos}{f:Addr}
  (F:FnOk X.prog X.w X.K X.mg X.base (CXe X.prog X.w) k f fd ps sp) (hr:Room k X.A) (hgf:Gl X g) (hmf:X.mg g=some (.ref f)) (hkf:PySem.W.keepIn X.K (.ref f)=true) (hb:ahl X.K fd ps []) (ha:PA X.nox (e0::es) ta)
  (hgc:Gl X cx) (hmc:X.mg cx=some (.ref CE)) (hN:X.N.Nodup) (hj:X.N[j]?=some en) (hl:X.N[l]?=some ct) (le:X.env.scope.names.lookup en=some .local) (lc:X.env.scope.names.lookup ct=some .local)
  (hst:X.stack=X.env::X.outer) (hfl:X.env.frame=some X.env.locals) (hc:X.calm=true) (hex:X.ex=[])
  (hd1:(g == ("__debug__" : Str))=false:=by decide) (hd2:(cx == ("__debug__" : Str))=false:=by decide) (hd3:(en == ("__debug__" : Str))=false:=by decide) (hd4:(en == ("__classdict__" : Str))=false:=by decide)
  (he:starEach (e0::es) X.env=(false,eval e0 X.env)::starEach es X.env:=by rfl) (hpl:(backTo cpos (starEach es X.env)).any (·.1)=false:=by rfl)
  (hs1:swapsWith (.Call (.Name g gp) (e0::es) [] cpos) none ap.line X.env=pure false:=by rfl) (hs2:swapsWith (.Name en ep) (some (.Name ct tp)) sp'.line X.env=pure false:=by rfl) :
  PS X (.Try [.Expr (.Call (.Name g gp) (e0::es) [] cpos) ap] [.ExceptHandler (some (.Name cx cp)) (some en) [.Assign [.Name ct tp] (.Name en ep) sp'] hp] [] [] pos) (tTryE X.K CE j l sp ta):=by
 intro pins s σ H D I h;refine wpAny_Try_except ?_;refine wpAny_execs_cons (wpAny_Expr_any (wpAny_Call_Name_kw (ae4 I hgf hmf ?_ hd1)) I.quiet hs1);refine PySem.W.callWith_K (h₀:=X.base) I.ok.mod.kin hkf (wpAny_mono (ha cpos pins s σ H _ (I.wish _) h) (fun us s1 z=>?_) fun _ _ z=>z.elim) he hpl;obtain⟨vs,H1,I1w,r,q⟩:=z;have I1:Inv X pins σ H1 s1:=I1w.unwish;refine⟨I1.kIn,?_⟩;have hlen:(us++[]).length=ps.length:=by rw[List.append_nil,← r.length];exact F.len _ _ _ _ q
 have bb:=hb s1 us I1.kIn hlen;rw[List.append_nil] at bb;refine wpAny_call (codeAny_mono (F.run X.A X.stack s1 H1 ⟨us,[]⟩ us vs _ _ hr I1.env0 bb r q) fun rr s' hq=>?_);cases rr with
 | ok fl =>
  cases fl with
  | ret u =>
   obtain⟨v,H2,I2,rv,q2⟩:=I1.after hq;exact wpAny_execs_nil (wpAny_execs_nil ⟨_,H2,I2,q2⟩)
  | next=>exact False.elim hq
  | brk=>exact False.elim hq
  | cont=>exact False.elim hq
 | error ev =>
  obtain⟨e,T,C,od,H2,rfl,hos,hbare,un,hok,xa,te,tT,hE⟩:=hq;have I2:Inv X pins σ H2 s':=I1.call' (ch:=[]) hos un hok hbare (fun b z=>absurd z (by simp));have frm:X.A.frames=some (X.env::X.outer):=by rw[← hst];exact I2.ok.frames
  refine arl (base:=X.base) frm (by rw[← hst];exact I2.stack) hfl xa fun h3 T3 kp3 x3 n3=>?_
  refine agi x3 fun h4 kp4 x4=>?_
  have nT3:=Heap.get?_none_of_le n3;have kp:XKeep (frOf X.stack) [e,T] s'.heap h4:=by
   rw[hst];refine⟨fun b o e1 n1 n2=>?_,fun b o e1 n1=>?_,fun b o e1=>?_⟩
   ·exact kp4.keep b o (kp3.keep b o e1 n1 n2) (fun z=>by simp at z;subst z;rw[nT3] at e1;cases e1) (by simp)
   ·obtain⟨y1,q1⟩:=kp3.slot b o e1 n1;exact⟨y1,kp4.keep b _ q1 (fun z=>by simp at z;subst z;rw[nT3] at e1;cases e1) (by simp)⟩
   ·obtain⟨o1,q1⟩:=kp3.there b o e1;exact kp4.there b o1 q1
  have hT3:H2 T3=none:=hok.fresh n3;have I4:Inv X pins σ (upd H2 T3 (AnyO T3)) { s' with heap:=h4 }:=at4 I2 kp te (fun b z=>by
   rcases List.mem_cons.mp z with z | z
   ·exact .inl z
   ·rw[List.mem_singleton.mp z];exact .inr tT) x4 n3
  obtain⟨hm,hD⟩:=hE e T3 te hT3;obtain⟨oe,vs',oT,ts,he4,hc4,_⟩:=id x4.ex;refine wpAny_handleBy_cons (codeAny_handlers_test (ae4 (X:=X.marked e (notedBy (model X.prog X.w) (X.A.mark (some (.ref e))) X.env (cameBackBy (model X.prog X.w) X.A X.env X.xe))) (I4.marked e _) hgc hmc ?_ hd2)) (by intro z;cases z);refine aqm I4.kIn he4 hc4 hm ?_;refine codeAny_handlers_suite_as (agi x4 fun h5 kp5 x5=>?_);have I5:=ao6 (s:={ s' with heap:=h4 }) I4 kp5 aaa;refine aij (v:=V.ref e) I5 hN hj (Or.inl le) (show RelV (V.ref e) (Value.ref e) from rfl) (fun s6 I6=>?_) (.inr le);have hjl:j<σ.length:=by rw[I5.len];exact (List.getElem?_eq_some_iff.mp hj).1
  have suite:PSs (X.marked e (fun _ _=>False)) [.Assign [.Name ct tp] (.Name en ep) sp'] (tAsg (tVar j) (ak9 l)):=aav (aa5 (X:=X.marked e (fun _ _=>False)) (i:=l) hN hl (Or.inl lc) (avi (X:=X.marked e (fun _ _=>False)) hj (Or.inl le) hd3 hd4) hs2 (.inr lc));refine wpAny_mono (suite pins s6 _ _ { nx:=fun σ' H'=>σ'=((σ.set j (some (.ref e))).set l (some (.ref e)))/\H'=upd H2 T3 (AnyO T3),rt:=fun _ _=>False } (I6.marked e (fun _ _=>False)) ⟨.ref e,by rw[List.getElem?_set_self hjl],rfl,rfl⟩) (fun fl s7 z=>?_) fun _ _ z=>z.elim
  cases fl with
  | next =>
   obtain⟨σ7,H7,I7,rfl,rfl⟩:=z;exact aw1 (I7.unmarked I.ok) hN hj le fun s8 I8=>⟨_,_,I8,hD⟩
  | ret u=>obtain⟨_,_,_,_,_,z⟩:=z;exact z.elim
  | brk=>obtain⟨_,_,_,z⟩:=z;exact z.elim
  | cont=>obtain⟨_,_,_,z⟩:=z;exact z.elim
end
theorem Same.newF {p:Addr}{H:Hp}{o:HO}(h:H p=none):Same H (upd H p o):=fun b u e=>by rw[aad (aab e h)];exact e
theorem alo {X:Cx}(K:PySem.W.Frag) (hK:X.K=K:=by rfl):abr X (.builtin "isinstance") (rIsx K):=by subst hK;exact auf
theorem aor {X:Cx}(K:PySem.W.Frag) (hK:X.K=K:=by rfl):abr X (.builtin "isinstance") (rIsxT K):=by subst hK;exact apd
theorem aqg {X:Cx}(K:PySem.W.Frag){e:Expr}{te:TE}{f:Str}{pos:Pos}(he:PE X e te) (hb:attributeBase e f X.env (eval e X.env)=eval e X.env) (hK:X.K=K:=by rfl):PE X (.Attribute e f pos) (aus K te f):=by subst hK;exact atk he hb
end L2
namespace Lw
open PySem L2
structure NK (K:PySem.W.Frag) (mg:Str->Option Value) (CE CN CA CC CL:Addr):Prop where
 mA:mg "NoAsk" = some (.ref CA)
 mC:mg "NoCell" = some (.ref CC)
 mL:mg "NoClaim" = some (.ref CL)
 mV:mg "ValueError" = none
 mI:mg "isinstance" = none
 k3:PySem.W.kitAny K (.ref CN) [.ref CA,.ref CC,.ref CL]=some false
 kv:PySem.W.kitOne K (.ref CN) (.type "ValueError")=some true
 kc:PySem.W.kitOne K (.ref CN) (.ref CE)=some true
 xn:PySem.W.exmOne K (.ref CN) (.ref CN)=some true
def XAtH (CN:Addr) (y:Str) (e dd:Addr) (H:Hp):Prop:=H e=some (ExC e (.ref CN) (some dd))/\H dd=some (.xd [("word",.str y)])
theorem XAtH.same {CN:Addr}{y:Str}{e dd:Addr}{H H':Hp}(h:XAtH CN y e dd H) (s:Same H H'):XAtH CN y e dd H':=⟨s _ _ h.1,s _ _ h.2⟩
def ape (K:PySem.W.Frag) (CN:Addr):Sp:=fun vs H Q _=>∃ (A:Addr->Prop) (C:Cel) (prs:List (Str×Str)) (W:Nat) (wkv ekv:List (Key×D)),Reps K A H [encW C prs,.int W,.dK wkv,.dK ekv] vs/\RowOk C prs/\(∀ x∈C.ins,Sm x)/\(∀ p∈prs,Sm p.2)/\W<=60 /\
 ((∃ (wf ef:Str->Int) (u ρ:Nat->Str->Int),RunOk C prs W wf ef u ρ/\(∀ x∈wIns C prs,valD wkv (Sum.inr x)=some (.int (wf x)))/\(∀ p∈prs,valD ekv (Sum.inr p.2)=some (.int (ef p.2)))/\∀ H',Same H H'->Q .non H') \/ ∃ y,(abt (wIns C prs) wkv=some y\/abt (wIns C prs) wkv=none/\abt (prs.map (·.2)) ekv=some y)/\∀ e dd H',XAtH CN y e dd H'->Same H H'->Q (.ref e) H')
def amk (CN:Addr):Sp:=fun vs H Q _=>∃ (e dd:Addr) (y:Str),vs=[.ref e]/\XAtH CN y e dd H/\∀ H',Same H H'->Q (.bl true) H'
section
variable {P:Program}{w:World}{K:PySem.W.Frag}{mg:Str->Option Value}{base:Heap}{CE CN CA CC CL N fI:Addr}{bm:List Value}
theorem ae3:FnScope ["row","width","words","edges","caught","e"] ["row","width","words","edges"] (aaj acm):=⟨rfl,rfl,rfl,by decide +kernel,rfl,by decide +kernel,by decide +kernel⟩
theorem ajz:FnScope ["caught"] ["caught"] (aaj ab7):=⟨rfl,rfl,rfl,by decide +kernel,rfl,by decide +kernel,by decide +kernel⟩
set_option maxHeartbeats 2000000 in
theorem axp {f fL:Addr}{fd fdL:FuncData}(F:Fun K "_law_said" "_law_said" acm f fd) (O:NN K mg CE CN N fI bm) (M:NK K mg CE CN CA CC CL) (ayx:Gd K mg "laid" afn ["row","width","words","edges"] fL fdL)
  (LX:FnOk P w K mg base (CXe P w) 4 fL fdL ["row","width","words","edges"] (aqe K CN)):FnOk P w K mg base CX0 5 f fd ["row","width","words","edges"] (ape K CN):=by
 refine F.ok (k:=4) ae3 (fun vs H Q E h=>?_) (fun cdv A outer s H vs Q E hr h=>?_)
 ·obtain⟨_,_,_,_,_,_,r,_⟩:=h;rw[← r.length];rfl
 ·obtain⟨A1,C,prs,W,wkv,ekv,r,R,sm1,sm2,hW,hk⟩:=h;obtain⟨vR,vW,vw,ve,rfl⟩:∃ a b c d,vs=[a,b,c,d]:=by
   have:=r.length
   match vs,this with
   | [a,b,c,d],_=>exact⟨a,b,c,d,rfl⟩
  refine ajf _ (aa5 (i:=4) ae3.nd rfl (Or.inl rfl) avp) ?_;refine acx (fun σ H2=>∃ v4,σ=[some vR,some vW,some vw,some ve,some v4,none]/\Q v4 H2) (fun u hu'=>?_) ?_
  ·refine⟨_,av8 (j:=5) (l:=4) LX hr (by rfl) ayx.m ayx.k ayx.b (pa_c (pv 0) (pa_c (pv 1) (pa_c (pv 2) (pa_c (pv 3) aak)))) (by rfl) O.mCN ae3.nd rfl rfl rfl rfl rfl rfl rfl rfl,?_⟩;refine⟨_,rfl,_,rfl,_,rfl,_,rfl,A1,C,prs,W,wkv,ekv,r,R,sm1,sm2,hW,?_⟩;rcases hk with⟨wf,ef,u,ρ,run,h1,h2,hq⟩ | ⟨y,hl,hq⟩
   ·exact .inl ⟨wf,ef,u,ρ,run,h1,h2,fun v H2 sm=>hu' _ _ ⟨_,rfl,hq H2 sm⟩⟩
   ·refine .inr ⟨y,hl,fun dd H2 nd hx sm e T' he nT=>⟨M.xn,?_⟩⟩;have s2:Same H2 (upd H2 T' (AnyO T')):=Same.newF nT;exact hu' _ _ ⟨_,rfl,hq e dd _ ⟨s2 _ _ he,s2 _ _ hx⟩ (sm.trans s2)⟩
  rintro _ H2 ⟨v4,rfl,hq⟩;exact⟨_,aav (ac6 (pv 4)),_,rfl,hq⟩
set_option maxHeartbeats 2000000 in
theorem as3 {f:Addr}{fd:FuncData}(F:Fun K "_law_alone" "_law_alone" ab7 f fd) (O:NN K mg CE CN N fI bm) (M:NK K mg CE CN CA CC CL):FnOk P w K mg base CX0 1 f fd ["caught"] (amk CN):=by
 refine F.ok (k:=0) ajz (fun vs H Q E h=>?_) (fun cdv A outer s H vs Q E hr h=>?_)
 ·obtain⟨e,dd,y,rfl,_⟩:=h;rfl
 ·obtain⟨e,dd,y,rfl,⟨he,hx⟩,hq⟩:=h;have hd2:∀ {H2:Hp},Same H H2->∀ dd',some dd=some dd'->∃ fs,H2 dd'=some (.xd fs):=fun sm dd' z=>by cases z;exact⟨_,sm _ _ hx⟩
  refine ajf _ (ahc (PW.pt (axi (am6 (arw (abq (alo K) (by rfl) M.mI PyProof.Rows.boot_isinstance (pa_c (pv 0) (pa_c (aju (v:=.ref CE) (by rfl) O.mCE rfl) aak))))) (aqc (am6 (arw (abq (alo K) (by rfl) M.mI PyProof.Rows.boot_isinstance (pa_c (pv 0) (pa_c (av4 (v:=.ty "ValueError") (by rfl) M.mV (show bootBuiltins "ValueError" = some (.type "ValueError") by decide +kernel) rfl) aak)))))))) (aav (ac6 auj)) adl) ?_;refine⟨_,rfl,e,CN,some dd,.ref CE,.ref CE,true,rfl,.inl ⟨CE,rfl,rfl⟩,he,hd2 (Same.refl _),O.xf,M.kc,_,rfl,iteF ?_⟩;refine⟨_,rfl,e,CN,some dd,.ty "ValueError",.type "ValueError",true,rfl,.inr ⟨"ValueError",rfl,rfl⟩,he,hd2 (Same.refl _),O.xf,M.kv,_,rfl,iteF ?_⟩;refine⟨_,aav (ac6 (pe_not (abq (aor K) (by rfl) M.mI PyProof.Rows.boot_isinstance (pa_c (pv 0) (pa_c (aj1 (pa_c (aju (v:=.ref CA) (by rfl) M.mA rfl) (pa_c (aju (v:=.ref CC) (by rfl) M.mC rfl) (pa_c (aju (v:=.ref CL) (by rfl) M.mL rfl) aak)))) aak))))),?_⟩;refine⟨_,rfl,(by show 3<=sizeLine;decide),fun tp ntp=>⟨e,CN,tp,some dd,[CA,CC,CL],false,rfl,aaa,Same.newF ntp _ _ he,hd2 (Same.newF ntp),O.xf,M.k3,?_⟩⟩;exact⟨_,rfl,hq _ (Same.newF ntp)⟩
end
theorem adk:(["out","into"]:List Str).Nodup:=by decide +kernel
theorem aky:(["name","ins"]:List Str).Nodup:=by decide +kernel
theorem ai7:(["name","outs"]:List Str).Nodup:=by decide +kernel
def axx:RD:=fun dk ds Φ=>∃ C prs,ds=[encW C prs]/\prs.length<=100/\C.ins.length<=100/\C.outs.length<=100/\Φ (.own (.lst [.lst ((wIns C prs).map D.str),.lst ((acr C prs).map D.str)]))
def oS:Option Str->D
 | none=>.non
 | some y=>.str y
def lk2 (C:Cel) (prs:List (Str×Str)) (t0 t1:Tab):Option Str:=(abt (wIns C prs) (encT t0)).or (abt (prs.map (·.2)) (encT t1))
def R_lk:RD:=fun dk ds Φ=>∃ C prs t0 t1,ds=[encW C prs,.dK (encT t0),.dK (encT t1)]/\prs.length<=100/\C.ins.length<=100/\C.outs.length<=100/\Φ (.val (oS (lk2 C prs t0 t1)))
theorem ah5 {xs:List Str}{kvs:List (Key×D)}{i:Nat}{y:Str}(hy:xs[i]?=some y) (h:abt (xs.take i) kvs=none) (hn:valD kvs (Sum.inr y)=none):abt xs kvs=some y:=by
 unfold abt at *;have e:xs=xs.take i++y::xs.drop (i+1):=by
  obtain⟨hi,rfl⟩:=List.getElem?_eq_some_iff.mp hy;rw[List.getElem_cons_drop,List.take_append_drop]
 rw[e,List.find?_append,h];simp[List.find?_cons,hn]
theorem ah1 {xs:List Str}{kvs:List (Key×D)}{i:Nat}{y:Str}{d:D}(hy:xs[i]?=some y) (h:abt (xs.take i) kvs=none) (hn:valD kvs (Sum.inr y)=some d):abt (xs.take (i+1)) kvs=none:=by
 unfold abt at *;rw[List.take_add_one,hy,List.find?_append,h];simp[List.find?_cons,hn]
section
variable {P:Program}{w:World}{K:PySem.W.Frag}{mg:Str->Option Value}{base:Heap}
theorem adb:FnScope ["row","ins","outs"] ["row"] (aaj abh):=⟨rfl,rfl,rfl,by decide +kernel,rfl,by decide +kernel,by decide +kernel⟩
theorem aco:FnScope ["row","words","edges","name","out","into"] ["row","words","edges"] (aaj ab3):=⟨rfl,rfl,rfl,by decide +kernel,rfl,by decide +kernel,by decide +kernel⟩
set_option maxHeartbeats 1000000 in
theorem ok_wof {f:Addr}{fd:FuncData}(F:Fun K "_law_words_of" "_law_words_of" abh f fd):FnOk P w K mg base CX0 1 f fd ["row"] (spD K axx):=by
 refine F.okD (k:=0) adb (fun dk ds Φ ⟨_,_,e,_⟩=>by rw[e];rfl) (by decide) fun cdv A outer s H E dk ds Φ hr hR=>?_
 have hu:=adt hr;obtain⟨C,prs,rfl,lp,li,lo,hΦ⟩:=hR;refine⟨_,(aac (aa2 (i:=1) adb.nd rfl (Or.inr rfl) (adf ["out","into"] [] [] rfl (i_v (aao hu (pv 0) aae)) rfl rfl (fun _ _ _ _ _=>(g_t (n:=2) rfl (gs_c (g_n (i:=0) adk rfl (Or.inl rfl)) (gs_c (g_n (i:=1) adk rfl (Or.inl rfl)) gs_n)))) (fun _ _ _ _ _=>adh) (fun _ _ _ _ _=>(pd_v 1 (pv 1))))) (aac (aa2 (i:=2) adb.nd rfl (Or.inr rfl) (adf ["out","into"] [] [] rfl (i_v (aao hu (pv 0) aae)) rfl rfl (fun _ _ _ _ _=>(g_t (n:=2) rfl (gs_c (g_n (i:=0) adk rfl (Or.inl rfl)) (gs_c (g_n (i:=1) adk rfl (Or.inl rfl)) gs_n)))) (fun _ _ _ _ _=>adh) (fun _ _ _ _ _=>(pd_v 0 (pv 0))))) (aau (adc (aa7 (pa_k (adf ["name"] ["ins"] [1] rfl (i_v (ag1 hu (aao hu (pv 0) aae) aae)) rfl rfl (fun _ _ _ _ _=>(g_n (i:=0) aky rfl (Or.inl rfl))) (fun _ _ _ _ _=>(aqi (aen (adv hu) (alg true) (pd_v 0 (pv 0)) (pv 1)))) (fun _ _ _ _ _=>(pd_v 0 (pv 0)))) (pa_k (adf ["name"] ["outs"] [2] rfl (i_v (ag1 hu (aao hu (pv 0) aae) aae)) rfl rfl (fun _ _ _ _ _=>(g_n (i:=0) ai7 rfl (Or.inl rfl))) (fun _ _ _ _ _=>(aqi (aen (adv hu) (alg true) (pd_v 0 (pv 0)) (pv 1)))) (fun _ _ _ _ _=>(pd_v 0 (pv 0)))) pa_n))))))),?_⟩;refine aag (fun ρ=>ρ=[.val (encW C prs),.own (.lst (prs.map fun p:Str×Str=>D.str p.2)),.no]) (fun N hN=>?_) ?_
 ·unfold sSet;exact acs prs (fun p=>D.tup [.str p.1,.str p.2]) (fun p=>D.str p.2) [.val (encW C prs),.no,.no] (fun Ψ h=>⟨rfl,_,rfl,h⟩) (by omega) (fun i p ys Nx e h1 h2=>⟨rfl,rfl,h1,h2⟩) (hN _ rfl)
 rintro _ rfl;refine aag (fun ρ=>ρ=[.val (encW C prs),.own (.lst (prs.map fun p:Str×Str=>D.str p.2)),.own (.lst (prs.map fun p:Str×Str=>D.str p.1))]) (fun N hN=>?_) ?_
 ·unfold sSet;exact acs prs (fun p=>D.tup [.str p.1,.str p.2]) (fun p=>D.str p.1) [.val (encW C prs),.own (.lst (prs.map fun p:Str×Str=>D.str p.2)),.no] (fun Ψ h=>⟨rfl,_,rfl,h⟩) (by omega) (fun i p ys Nx e h1 h2=>⟨rfl,rfl,h1,h2⟩) (hN _ rfl)
 rintro _ rfl;unfold sRet dLst aC;refine ao4 C.ins D.str D.str (fun x=>!decide (x∈prs.map fun p:Str×Str=>p.2)) [.val (encW C prs),.own (.lst (prs.map fun p:Str×Str=>D.str p.2)),.own (.lst (prs.map fun p:Str×Str=>D.str p.1))] (fun Ψ h=>⟨rfl,_,rfl,_,rfl,h⟩) (by omega) (fun i x ys Nx e h1 h2 h3=>?_) ?_
 ·have e1:(prs.map fun p:Str×Str=>D.str p.2)=(prs.map (·.2)).map D.str:=by rw[List.map_map];rfl
  refine⟨.str x,(prs.map (·.2)).map V.str,rfl,by rw[e1];exact aeu _,?_⟩;rw[afl];show if (!decide (x∈prs.map (·.2)))=true then _ else _
  by_cases q:x∈prs.map (·.2)
  ·exact ae6 (by rw[decide_eq_true q];rfl) (h3 (by rw[decide_eq_true q];rfl))
  ·exact alv (by rw[decide_eq_false q];rfl) ⟨h1,h2 (by rw[decide_eq_false q];rfl)⟩
 refine ao4 C.outs D.str D.str (fun x=>!decide (x∈prs.map fun p:Str×Str=>p.1)) [.val (encW C prs),.own (.lst (prs.map fun p:Str×Str=>D.str p.2)),.own (.lst (prs.map fun p:Str×Str=>D.str p.1))] (fun Ψ h=>⟨rfl,_,rfl,_,rfl,h⟩) (by omega) (fun i x ys Nx e h1 h2 h3=>?_) ?_
 ·have e1:(prs.map fun p:Str×Str=>D.str p.1)=(prs.map (·.1)).map D.str:=by rw[List.map_map];rfl
  refine⟨.str x,(prs.map (·.1)).map V.str,rfl,by rw[e1];exact aeu _,?_⟩;rw[afl];show if (!decide (x∈prs.map (·.1)))=true then _ else _
  by_cases q:x∈prs.map (·.1)
  ·exact ae6 (by rw[decide_eq_true q];rfl) (h3 (by rw[decide_eq_true q];rfl))
  ·exact alv (by rw[decide_eq_false q];rfl) ⟨h1,h2 (by rw[decide_eq_false q];rfl)⟩
 exact⟨by show 2<=1000;decide,hΦ⟩
set_option maxHeartbeats 1000000 in
theorem ok_lk {f fW:Addr}{fd fdW:FuncData}(F:Fun K "_law_lacking" "_law_lacking" ab3 f fd) (ax8:Gd K mg "_law_words_of" abh ["row"] fW fdW) (ayr:FnOk P w K mg base CX0 1 fW fdW ["row"] (spD K axx)):FnOk P w K mg base CX0 2 f fd ["row","words","edges"] (spD K R_lk):=by
 refine F.okD (k:=1) aco (fun dk ds Φ ⟨_,_,_,_,e,_⟩=>by rw[e];rfl) (by decide) fun cdv A outer s H E dk ds Φ hr hR=>?_
 have hu:=adt hr;obtain⟨C,prs,t0,t1,rfl,lp,li,lo,hΦ⟩:=hR;refine⟨_,(aac (afj (m:=99) PassesOwn.never rfl (i_v (ag1 hu (aal ayr (hr.mono (by decide)) (by rfl) ax8.m ax8.k ax8.b (pa_k (pd_v 0 (pv 0)) pa_n)) aae)) (g_n (i:=3) aco.nd rfl (Or.inl rfl)) (aau (s_if (aen (adv hu) (alg true) (pd_v 3 (pv 3)) (pv 1)) (aau (adc (pd_v 3 (pv 3)))) aex))) (aac (afj (m:=99) PassesOwn.never rfl (i_v (aao hu (pv 0) aae)) (g_t (n:=2) rfl (gs_c (g_n (i:=4) aco.nd rfl (Or.inl rfl)) (gs_c (g_n (i:=5) aco.nd rfl (Or.inl rfl)) gs_n))) (aau (s_if (aen (adv hu) (alg true) (pd_v 5 (pv 5)) (pv 2)) (aau (adc (pd_v 5 (pv 5)))) aex))) (aau (adc pd_non)))),?_⟩;refine aag (fun ρ=>∃ s3,ρ=[.val (encW C prs),.val (.dK (encT t0)),.val (.dK (encT t1)),s3,.no,.no]/\abt (wIns C prs) (encT t0)=none) (fun N hN=>?_) ?_
 ·refine ae0 ((wIns C prs).map D.str) [.val (encW C prs),.val (.dK (encT t0)),.val (.dK (encT t1)),.no,.no,.no] (fun Ψ h=>⟨C,prs,rfl,lp,li,lo,.inl rfl,_,rfl,h⟩)
   (fun i ρ'=>∃ s3,ρ'=[.val (encW C prs),.val (.dK (encT t0)),.val (.dK (encT t1)),s3,.no,.no]/\abt ((wIns C prs).take i) (encT t0)=none) ⟨.no,rfl,rfl⟩ ?_ ?_
  ·rintro i x ρ' hx ⟨s3,rfl,hh⟩;obtain⟨y,hy,rfl⟩:=acf hx;cases hv:valD (encT t0) (Sum.inr y:Key) with
   | none =>
    refine⟨none,by show some (valD (encT t0) (Sum.inr y))=_;rw[hv],alv rfl ?_⟩;have e:lk2 C prs t0 t1=some y:=by unfold lk2;rw[ah5 hy hh hv];rfl
    rw[e] at hΦ;exact hΦ
   | some d=>exact⟨some d,by show some (valD (encT t0) (Sum.inr y))=_;rw[hv],ae6 rfl ⟨_,rfl,ah1 hy hh hv⟩⟩
  ·rintro ρ' ⟨s3,rfl,hh⟩;rw[List.length_map,List.take_of_length_le (Nat.le_refl _)] at hh;exact hN _ ⟨s3,rfl,hh⟩
 rintro _ ⟨s3,rfl,hl0⟩;refine aag (fun ρ=>∃ s3 s4 s5,ρ=[.val (encW C prs),.val (.dK (encT t0)),.val (.dK (encT t1)),s3,s4,s5]/\abt (prs.map (·.2)) (encT t1)=none) (fun N hN=>?_) ?_
 ·refine ae0 (prs.map fun p:Str×Str=>D.tup [.str p.1,.str p.2]) [.val (encW C prs),.val (.dK (encT t0)),.val (.dK (encT t1)),s3,.no,.no] (fun Ψ h=>⟨rfl,_,rfl,h⟩)
   (fun i ρ'=>∃ s3 s4 s5,ρ'=[.val (encW C prs),.val (.dK (encT t0)),.val (.dK (encT t1)),s3,s4,s5]/\abt ((prs.map (·.2)).take i) (encT t1)=none) ⟨s3,.no,.no,rfl,rfl⟩ ?_ ?_
  ·rintro i x ρ' hx ⟨s3,s4,s5,rfl,hh⟩;obtain⟨p,hp,rfl⟩:=acf hx;have hy:(prs.map (·.2))[i]?=some p.2:=by rw[List.getElem?_map,hp];rfl
   cases hv:valD (encT t1) (Sum.inr p.2:Key) with
   | none =>
    refine⟨rfl,rfl,none,by show some (valD (encT t1) (Sum.inr p.2))=_;rw[hv],alv rfl ?_⟩;have e:lk2 C prs t0 t1=some p.2:=by unfold lk2;rw[hl0,ah5 hy hh hv];rfl
    rw[e] at hΦ;exact hΦ
   | some d=>exact⟨rfl,rfl,some d,by show some (valD (encT t1) (Sum.inr p.2))=_;rw[hv],ae6 rfl ⟨_,_,_,rfl,ah1 hy hh hv⟩⟩
  ·rintro ρ' ⟨s3,s4,s5,rfl,hh⟩;rw[List.length_map,List.take_of_length_le (by rw[List.length_map];exact Nat.le_refl _)] at hh;exact hN _ ⟨s3,s4,s5,rfl,hh⟩
 rintro _ ⟨s3,s4,s5,rfl,hl1⟩;have e:lk2 C prs t0 t1=none:=by unfold lk2;rw[hl0,hl1];rfl
 rw[e] at hΦ;exact hΦ
end
end Lw
namespace L2
open PySem PySem.Spec PyProof.Rows Lw
theorem aoj:∀ (acc:List Value) (ks:List Str),acc.length=ks.length->(∀ (i:Nat) v k,acc[i]?=some v->ks[i]?=some k->∃ t,v = .str k t)->StrsAre acc ks:=by
 intro acc;induction acc with
 | nil=>intro ks hl _;cases ks with
  | nil=>exact .nil
  | cons _ _=>cases hl
 | cons v acc ih =>
  intro ks hl h;cases ks with
  | nil=>cases hl
  | cons k ks =>
   obtain⟨t,rfl⟩:=h 0 v k rfl rfl;exact .cons k t (ih ks (Nat.succ.inj hl) fun i w j h1 h2=>h (i+1) w j h1 h2)
theorem atj:∀ {vs:List Value}{ss:List Str},StrsAre vs ss->Vals (ss.map V.str) vs:=by
 intro vs ss h;induction h with
 | nil=>exact .nil
 | cons y t _ ih=>exact .cons ⟨t,rfl⟩ ih
def aup:List V->Hp->VK->Prop:=fun xs H Q=>∃ (a:Addr) (kvs:List (Key×V)) (ks:List Str),xs=[.ref a]/\H a=some (.dK kvs)/\kvs.map (·.1)=ks.map Sum.inr/\ks.length<64/\∀ (l:Addr) (ys:List Str),H l=none->ys.Perm ks->Q (.ref l) (upd H l (.lst (ys.map V.str)))
section
variable {X:Cx}
theorem ah2 (hcalm:X.calm=true):abr X (.builtin "sorted") aup:=by
 intro pins s σ H xs us Q I rv h;obtain⟨a,kvs,ks,rfl,ha,hk,h64,q⟩:=h;obtain⟨u,rfl,ru⟩:=ad8 rv;cases ru;obtain⟨z,lo,vs,rv',D⟩:=agc I.hok ha;obtain⟨ob,es,ep,d1,d2,d3,d4⟩:=id D;have l1:kvs.length=vs.length:=Paired.length rv';have l2:kvs.length=ks.length:=by have:=congrArg List.length hk;simpa using this
 refine Calls.call_function_entry kind_sorted plain_sorted entry_sorted (args_sorted1 _) ?_;unfold Builtin.«sorted»;refine wpAny_bind (m:=checkCount "sorted" 1 1 _) (wpAny_pure ?_);refine wpAny_bind (PySem.W.kdu_collect (PySem.W.kdl_dict (knd:=aa8 X.prog X.w) (d:=a) (kvs:=vs) (ep:=ep) lo) (I.ok.hd hcalm) ⟨ob,es,d1,d2,d3,d4⟩ (by rw[← l1];exact z) fun h' tk acc keep ⟨n1,n2⟩=>?_);have hS:StrsAre acc.toList ks:=by
  refine aoj _ _ (by rw[Array.length_toList,n1];omega) fun i v k h1 h2=>?_
  rw[Array.getElem?_toList] at h1;obtain⟨k',x,e1,e2⟩:=n2 i v h1;obtain⟨p,hp,pk,_⟩:=akm rv' (i:=i) (List.getElem?_eq_getElem (by have:=(List.getElem?_eq_some_iff.mp h2).1;omega));rw[e1] at hp;cases hp;have hkk:(kvs.map (·.1))[i]?=some (Sum.inr k):=by rw[hk,List.getElem?_map,h2];rfl
  rw[List.getElem?_map,List.getElem?_eq_getElem (by have:=(List.getElem?_eq_some_iff.mp h2).1;omega)] at hkk;have e3:=Option.some.inj hkk;have e4:k'=Sum.inr k:=pk.symm.trans e3;subst e4;rcases abf (show amj (Sum.inr k) v=true from e2) with⟨j,t,w1,_⟩ | ⟨y,t,w1,rfl⟩
  ·cases w1
  ·cases w1;exact⟨t,rfl⟩
 have hal:acc.toList.length=ks.length:=by rw[Array.length_toList,n1];omega
 refine wpAny_bind (wpAny_newList ?_ (by rw[hal];exact Nat.le_trans (Nat.le_of_lt h64) (by decide)));have hoL:(h'.push (seqObj "list" acc.toList.toArray 0)).get? h'.objs.size=some (seqObj "list" acc.toList.toArray 0):=Heap.get?_push_size _ rfl;have I1:Inv X pins σ H { s with heap:=h',toks:=tk }:=I.kept keep;refine wpAny_bind (wpAny_holding (wpAny_call_entry slot_list_sort ⟨_,hoL,rfl⟩ entry_list_sort (list_sort_treeK strKind_oneLt hoL hS.keysOf (fun v₁ v₂ rest e=>keyKind_strs (by rw[← e];exact hS)) (by omega) fun st' hp hs=>⟨_,rfl,?_⟩) (args_list_sort _)));obtain⟨ss',a1,a2,_⟩:=sorted_out_str hS hp hs;obtain⟨e,he⟩:=sortedHeap_at (out:=(arrOf st').map (·.2)) hoL;refine wpAny_pure ⟨_,rfl,.ref h'.objs.size,_,I1.laid (a:=h'.objs.size) (o:=.lst (ss'.map V.str)) (t':=tk) (fun b o2 hb=>?_) (Nat.le_refl _) ⟨?_,_,e,atj a1,?_⟩,rfl,q _ _ (I1.hok.fresh (Nat.le_refl _)) a2⟩
 ·have hb:h'.get? b=some o2:=hb;have hlt:=Heap.lt_size hb;rw[sortedHeap_old (Nat.ne_of_lt hlt) (by rw[size_push'];exact Nat.lt_succ_of_lt hlt),Heap.get?_push_ne _ _ _ (Nat.ne_of_lt hlt)];exact hb
 ·rw[List.length_map,a2.length_eq];exact Nat.le_trans (Nat.le_of_lt h64) (by decide)
 ·rw[he]
variable {e st:Expr}{te ts:TE}{p2 pos:Pos}
end
section
variable {X:Cx}{K:PySem.W.Frag}{e st:Expr}{ta tb:TEd}{p2 pos:Pos}
def fSortD:OC:=fun ds Φ=>match ds with
 | [.dK kvs]=>∃ ks:List Str,kvs.map (·.1)=ks.map Sum.inr/\ks.length<64/\∀ ys:List Str,ys.Perm ks->Φ (.own (.lst (ys.map D.str)))
 | _=>False
theorem anj:ael K aup fSortD:=by
 intro B L H ds xs Φ Q hd hp hf k;cases ds with
 | nil=>exact False.elim hf
 | cons d ds =>
 cases ds with
 | cons _ _=>cases d<;>exact False.elim hf
 | nil =>
 cases d<;>first | exact False.elim hf | skip
 obtain⟨x,rfl,px⟩:=ac9 hp;obtain⟨ks,e1,e2,hf⟩:=hf;obtain⟨a,kvs,rfl,h,e,r⟩:=px.dK_inv;exact⟨a,kvs,ks,rfl,h,by rw[← e];exact e1,e2,fun l ys hl hy=>k _ _ _ (hf ys hy) (hd.lstF hl (reps_strs ys))⟩
end
section
variable {prog:Program}{w:World}{A:Around}{E:Value->Shared->Prop}
def axn (prog:Program) (w:World) (A:Around) (s:Shared) (x y:Value):Prop:=∀ (E:Value->Shared->Prop) (Q:Bool->Shared->Prop),Q true s->wpAny (model prog w) A (eqBool x y) Q E s
theorem along {l m:Addr}{ol om:Obj}{xs ys:Array Value}{n1 n2:Nat}{hp:Heap}{g:Array GenState}{d:Drawn}{t:Nat}{os:OsState}(gl:hp.get? l=some ol) (gm:hp.get? m=some om) (dl:ol.data = .seq xs n1) (dm:om.data = .seq ys n2) (hs:xs.size=ys.size)
  (he:∀ (i:Nat) x y,xs[i]?=some x->ys[i]?=some y->axn prog w A.in1 ⟨hp,g,d,t,os⟩ x y){R:Result->Shared->Prop}(hR:R (.ok (.ret (.bool false))) ⟨hp,g,d,t,os⟩) :
  ∀ left i:Nat,i+left=xs.size->codeAny (model prog w) A (.builtin "list.__eq__.loop" ⟨[.ref l,.ref m,rawInt i,rawInt 3],[]⟩) R ⟨hp,g,d,t,os⟩:=by
 obtain⟨c1,e1,_,s1⟩:=ol;obtain⟨c2,e2,_,s2⟩:=om;simp only at dl dm;subst dl dm;intro left;induction left with
 | zero =>
  intro i hi;have a1:xs[((i:Nat):Int).toNat]?=none:=by simp;omega
  have a2:ys[((i:Nat):Int).toNat]?=none:=by simp;omega
  refine codeAny_builtin MeetsSeq3.entry_eq_loop ?_;rw[Around.under_plainId MeetsSeq3.plain_eq_loop _]
  wp_walk using AutoSeq1.wpAny_loadPart' gl,AutoSeq1.wpAny_loadPart' gm
  rw[a1,a2]
  wp_walk using AutoSeq1.wpAny_loadPart' gl,AutoSeq1.wpAny_loadPart' gm
  show R (.ok (.ret (.bool (xs.size != ys.size)))) _;rw[hs,bne_self_eq_false];exact hR
 | succ left ih =>
  intro i hi;obtain⟨x,hx⟩:∃ x,xs[i]?=some x:=⟨_,Array.getElem?_eq_getElem (by omega)⟩;obtain⟨y,hy⟩:∃ y,ys[i]?=some y:=⟨_,Array.getElem?_eq_getElem (by omega)⟩;have a1:xs[((i:Nat):Int).toNat]?=some x:=by rw[Int.toNat_natCast];exact hx
  have a2:ys[((i:Nat):Int).toNat]?=some y:=by rw[Int.toNat_natCast];exact hy
  refine codeAny_builtin MeetsSeq3.entry_eq_loop ?_;rw[Around.under_plainId MeetsSeq3.plain_eq_loop _]
  wp_walk using AutoSeq1.wpAny_loadPart' gl,AutoSeq1.wpAny_loadPart' gm
  rw[a1,a2];refine wpAny_bind (he i x y hx hy _ _ ?_)
  wp_walk
  exact⟨plainId_quiet MeetsSeq3.plain_eq_loop _,ih (i+1) (by omega)⟩
theorem amf {l m:Addr}{xs ys:Array Value}{s:Shared}(hl:s.heap.IsList l xs) (hm:s.heap.IsList m ys) (hs:xs.size=ys.size) (hu:A.units<cLine)
  (he:∀ (i:Nat) x y,xs[i]?=some x->ys[i]?=some y->axn prog w A.in1 s x y){Q:Value->Shared->Prop}(hQ:Q (.bool false) s):wpAny (model prog w) A (compareOp .NotEq (.ref l) (.ref m)) Q E s:=by
 obtain⟨hp,g,d,t,os⟩:=s;obtain⟨⟨cls,dd,data,sl⟩,ho,hc,n,hd⟩:=id hl;obtain⟨⟨cls2,dd2,data2,sl2⟩,ho2,hc2,n2,hd2⟩:=id hm;simp only at hc hd hc2 hd2;subst hc hd hc2 hd2;have t1:(⟨hp,g,d,t,os⟩:Shared).TypeIs (.ref l) "list" := ⟨_,ho,rfl⟩;have t2:(⟨hp,g,d,t,os⟩:Shared).TypeIs (.ref m) "list" := ⟨_,ho2,rfl⟩;refine wpAny_richCompare_same_room (op:=.NotEq) t1 t2 F.slot_list_ne ?_ hu;refine wpAny_call (codeAny_call_builtin F.slot_list_ne.plain F.entry_list_ne (F.slot_list_ne.check _ _ _ _ _ _ _ _ t1 (F.args_list_ne_2 _ _) ?_));have f3:=AutoSeq1.sub_list_list;have hne:¬ (xs.size != ys.size)=true:=by simp[hs]
 wp_walk using AutoSeq1.wpAny_loadPart' ho,AutoSeq1.wpAny_loadPart' ho2
 exact⟨plainId_quiet MeetsSeq3.plain_eq_loop _,along ho ho2 rfl rfl hs he ⟨(fun x=>nomatch x),hQ⟩ xs.size 0 (Nat.zero_add _)⟩
end
section
variable {X:Cx}
def asr (H:Hp) (x y:V):Prop:=∃ (a b:Addr) (kvs:List (Key×V)),x = .ref a/\y = .ref b/\H a=some (.dK kvs)/\H b=some (.dK kvs)/\(kvs.map (·.1)).Nodup/\∀ p∈kvs,adj p.2=true/\eqV p.2 p.2=true
theorem asr.now {pins:List (Addr×Obj)}{σ:St}{H:Hp}{s:Shared}{A:Around}{x y:V}{u v:Value}(I:Inv X pins σ H s) (h:asr H x y) (rx:RelV x u) (ry:RelV y v) (hu:A.units<cLine):axn X.prog X.w A s u v:=by
 obtain⟨a,b,kvs,rfl,rfl,h1,h2,hn,hf⟩:=h;cases rx;cases ry;by_cases e:a=b
 ·subst e;exact fun E Q q=>SeqAt.EqAt.same _ X.prog X.w E Q q
 intro E Q q;obtain⟨z1,d1,va,ra,da⟩:=agc I.hok h1;obtain⟨z2,d2,vb,rb,db⟩:=agc I.hok h2;have hl:va.length=vb.length:=by rw[← ra.length,← rb.length]
 unfold eqBool;refine wpAny_holding (wpAny_ite_split (fun z=>absurd (Value.ref.inj (eq_of_beq z)) e) fun _=>wpAny_bind ?_);refine PySem.W.keq_eq d1 d2 da db hu (fun _=>arv rb hn kvs va ra (fun _ h=>h) hf) (wpAny_truthy_bool ?_);rw[hl];simpa using q
def rNeLD:R2:=fun x y H Q=>∃ (l m:Addr) (p q p' q':V),x = .ref l/\y = .ref m/\H l=some (.lst [p,q])/\H m=some (.lst [p',q'])/\asr H p p'/\asr H q q'/\Q (.bl false) H
theorem avv (hu:X.A.units+64<cLine):OpR X (compareOp .NotEq) rNeLD:=by
 intro pins s σ H x y v u Q I rx ry h;obtain⟨l,m,p,q,p',q',rfl,rfl,h1,h2,s1,s2,k⟩:=h;cases rx;cases ry;obtain⟨its,r1,p1,_⟩:=I.list (SqL.of (K:=X.K) h1);obtain⟨its2,r2,p2,_⟩:=I.list (SqL.of (K:=X.K) h2);obtain⟨a1,a2,ea,ra1,ra2⟩:=al9 r1;obtain⟨b1,b2,eb,rb1,rb2⟩:=al9 r2;subst ea eb;refine amf p1.isList p2.isList rfl (by omega) (fun i x y h1 h2=>?_) ⟨.bl false,H,I,rfl,k⟩;have hi:i=0\/i=1:=by
  have:=(Array.getElem?_eq_some_iff.mp h1).1;simp at this;omega
 rcases hi with rfl | rfl
 ·cases h1;cases h2;exact s1.now I ra1 rb1 (by rw[Around.in1_units];omega)
 ·cases h1;cases h2;exact s2.now I ra2 rb2 (by rw[Around.in1_units];omega)
end
theorem asc:∀ {xs:List Str},xs.Nodup->(xs.map (Sum.inr:Str->Key)).Nodup:=fun {xs} h=>by
 induction xs with
 | nil=>exact List.nodup_nil
 | cons x xs ih =>
  obtain⟨h1,h2⟩:=List.nodup_cons.mp h;refine List.nodup_cons.mpr ⟨fun z=>?_,ih h2⟩;obtain⟨y,hy,e⟩:=List.mem_map.mp z;cases e;exact h1 hy
def erT (t:Tab) (x:Str):Tab:=t.filter fun p=>decide (p.1≠x)
theorem vT_er (t:Tab) (x:Str):akd (vT t) (Sum.inr x)=vT (erT t x):=by
 induction t with
 | nil=>rfl
 | cons p t ih =>
  have e1:vT (p::t)=(Sum.inr p.1,V.int p.2)::vT t:=rfl;rw[e1];unfold akd erT;by_cases h:p.1=x
  ·rw[List.filter_cons_of_neg (by simp[h]),List.filter_cons_of_neg (by simp[h])];exact ih
  ·have h2:(Sum.inr p.1:Key)≠Sum.inr x:=fun z=>h (Sum.inr.inj z)
   rw[List.filter_cons_of_pos (by simpa using h2),List.filter_cons_of_pos (by simp[h])];exact congrArg (((Sum.inr p.1:Key),V.int p.2)::·) ih
theorem axw:∀ {t:Tab}{x:Str},valV (vT t) (Sum.inr x:Key)=none->erT t x=t:=fun {t x} h=>by
 induction t with
 | nil=>rfl
 | cons p t ih =>
  have e1:vT (p::t)=(Sum.inr p.1,V.int p.2)::vT t:=rfl;rw[e1] at h;by_cases e:p.1=x
  ·rw[ad3 (show (Sum.inr p.1:Key)=_ by rw[e])] at h;cases h
  ·rw[ad0 (show ¬ (Sum.inr p.1:Key)=_ from fun z=>e (Sum.inr.inj z))] at h;unfold erT;rw[List.filter_cons_of_pos (by simp[e])];exact congrArg (p::·) (ih h)
theorem avf (t:Tab) (x:Str):(erT t x).length<=t.length:=List.length_filter_le ..
theorem er_mem {t:Tab}{x:Str}{p:Str×Int}(h:p∈erT t x):p∈t:=(List.mem_filter.mp h).1
theorem er_nd {t:Tab}{x:Str}(h:(t.map (·.1)).Nodup):((erT t x).map (·.1)).Nodup:=h.sublist (List.filter_sublist.map _)
def sDPop (i j:Nat):TSd:=fun _ De ρ=>∃ (t:Tab) (y:Str),ρ[i]?=some (.own (.dK (encT t)))/\ρ[j]?=some (.val (.str y))/\De.nx (ρ.set i (.own (.dK (encT (erT t y)))))
section
variable {X:Cx}
theorem auw {st:Stmt}{i j:Nat}{n:Int}(h:PS X st (awd (avj (tVar i) (tVar j) (tC (.int n))))):PSd X st (sDPop i j):=h.mono fun Dn σ H hq0=>hq0.elim fun B ρ T De hl hd ht lk=>by
 obtain⟨t,y,hi,hj,hnx⟩:=ht;obtain⟨b,hb,rb,wr⟩:=hd.slotW hl hi;obtain⟨kvs,hkb,e1,r1⟩:=rb;rw[aow t kvs e1 r1] at hkb;obtain⟨vy,hvy,pvy⟩:=hd.peek hl (d:=.str y) (i:=j) (by unfold at?;rw[hj];rfl);obtain rfl:vy = .str y:=Rep.str_inv pvy;refine⟨.ref b,hb,b,rfl,.inl ⟨_,.inl hkb⟩,.str y,hvy,vT t,Sum.inr y,hkb,rfl,fun v hv=>?_,fun hv=>?_⟩
 ·have d1:=wr (.dK (vT (erT t y))) (.dK (encT (erT t y))) fun A' kp=>aq0 aaa
  show Dn.nx σ (upd H b (.dK (akd (vT t) (Sum.inr y))));rw[vT_er];exact (lk.1 _ _ _ (by rw[List.length_set];exact hl) rfl d1).1 hnx
 ·have d1:=wr (.dK (vT t)) (.dK (encT (erT t y))) fun A' kp=>by rw[axw hv];exact aq0 aaa
  rw[awb hkb] at d1;exact (lk.1 _ _ _ (by rw[List.length_set];exact hl) rfl d1).1 hnx
end
theorem atu {K:PySem.W.Frag}{A:Addr->Prop}{H:Hp}{t:Tab}{a:Addr}(ha:A a) (h:H a=some (.dK (vT t))):Rep K A H (.dK (encT t)) (.ref a):=.dK ha h (api t) (al7 t)
theorem PSs.any {X:Cx}{b:List Stmt}{T:TS}(h:∀ D σ H,T D σ H->∃ t,PSs X b t/\t D σ H):PSs X b T:=fun pins s σ H D I q=>by
 obtain⟨t,p,k⟩:=h D σ H q;exact p pins s σ H D I k
end L2
namespace Lw
open PySem L2
def avs (prs:List (Str×Str)) (x:Str):Str:=((prs.find? fun q=>decide (q.2=x)).map (·.1)).getD ""
theorem aq3 {prs:List (Str×Str)}(nd:(prs.map (·.2)).Nodup){p:Str×Str}(hp:p∈prs):avs prs p.2=p.1:=by
 unfold avs;induction prs with
 | nil=>cases hp
 | cons q prs ih =>
  obtain⟨h1,h2⟩:=List.nodup_cons.mp nd;rw[List.find?_cons];rcases List.mem_cons.mp hp with z | z
  ·subst z;rw[decide_eq_true rfl];rfl
  ·have:¬ q.2=p.2:=fun e=>h1 (by show q.2∈prs.map (·.2);rw[e];exact List.mem_map_of_mem z)
   rw[decide_eq_false this];exact ih h2 z
def rhoR (C:Cel) (prs:List (Str×Str)) (wf ef:Str->Int):Nat->Str->Int
 | 0=>fun x=>if x∈prs.map (·.2) then ef x else wf x/2 ^ 0%2
 | j+1=>fun x=>if x∈prs.map (·.2) then aj5 C (rhoR C prs wf ef j) (avs prs x) else wf x/2 ^ (j+1)%2
def uR (C:Cel) (prs:List (Str×Str)) (wf ef:Str->Int) (j:Nat):Str->Int:=aj5 C (rhoR C prs wf ef j)
theorem run_ok {C:Cel}{prs:List (Str×Str)}{wf ef:Str->Int}(R:RowOk C prs) (W:Nat) (he:∀ p∈prs,Bit (ef p.2)):RunOk C prs W wf ef (uR C prs wf ef) (rhoR C prs wf ef):=by
 have ni:∀ x∈wIns C prs,¬ x∈prs.map (·.2):=fun x hx z=>by
  have:=(List.mem_filter.mp hx).2;rw[decide_eq_true z] at this;cases this
 refine⟨he,fun _ _=>rfl,fun j _ x hx=>?_,fun j _ p hp=>?_⟩
 ·cases j with
  | zero=>exact if_neg (ni x hx)
  | succ j=>exact if_neg (ni x hx)
 ·have hm:p.2∈prs.map (·.2):=List.mem_map_of_mem hp;cases j with
  | zero=>exact if_pos hm
  | succ j =>
   refine (if_pos hm).trans ?_;rw[aq3 R.n2 hp];rfl
theorem awo {t:Tab}{x:Str}(h:x∈t.map (·.1)):(x,look t x)∈t:=by
 induction t with
 | nil=>cases h
 | cons p t ih =>
  rw[aci];by_cases e:p.1=x
  ·rw[if_pos e];subst e;exact List.mem_cons_self
  ·rw[if_neg e];rcases List.mem_cons.mp h with z | z
   ·exact absurd z.symm e
   ·exact List.mem_cons_of_mem _ (ih z)
theorem am2 {xs:List Str}{t:Tab}(h:abt xs (encT t)=none):∀ x∈xs,x∈t.map (·.1):=fun x hx=>by
 have:=List.find?_eq_none.mp h x hx;by_cases e:x∈t.map (·.1)
 ·exact e
 ·rw[((valT t x).2 e).1] at this;simp at this
theorem at5 {C:Cel}{prs:List (Str×Str)}{t0 t1:Tab}(h:lk2 C prs t0 t1=none):abt (wIns C prs) (encT t0)=none/\abt (prs.map (·.2)) (encT t1)=none:=by
 unfold lk2 at h;cases e:abt (wIns C prs) (encT t0) with
 | none=>rw[e] at h;exact⟨rfl,h⟩
 | some y=>rw[e] at h;cases h
theorem asz {C:Cel}{prs:List (Str×Str)}{t0 t1:Tab}{y:Str}(h:lk2 C prs t0 t1=some y):abt (wIns C prs) (encT t0)=some y\/abt (wIns C prs) (encT t0)=none/\abt (prs.map (·.2)) (encT t1)=some y:=by
 unfold lk2 at h;cases e:abt (wIns C prs) (encT t0) with
 | none=>rw[e] at h;exact .inr ⟨rfl,h⟩
 | some z=>rw[e] at h;cases h;exact .inl rfl
theorem ard {C:Cel}{prs:List (Str×Str)}{t0 t1:Tab}(R:RowOk C prs) (W:Nat) (h:lk2 C prs t0 t1=none) (hb:∀ p∈t1,Bit p.2) :
  ∃ (wf ef:Str->Int) (u ρ:Nat->Str->Int),RunOk C prs W wf ef u ρ/\(∀ x∈wIns C prs,valD (encT t0) (Sum.inr x)=some (.int (wf x)))/\∀ p∈prs,valD (encT t1) (Sum.inr p.2)=some (.int (ef p.2)):=by
 obtain⟨h0,h1⟩:=at5 h;have m1:∀ p∈prs,p.2∈t1.map (·.1):=fun p hp=>am2 h1 _ (List.mem_map_of_mem hp)
 exact⟨look t0,look t1,_,_,run_ok R W fun p hp=>hb _ (awo (m1 p hp)),fun x hx=>(valT t0 x).1 (am2 h0 x hx),fun p hp=>(valT t1 p.2).1 (m1 p hp)⟩
def as9:List Stmt:=(acv abp).drop 7
abbrev rN:List Str:=["deck","row","width","words","edges","whole","gone","name","kept","due","caught"]
theorem abc:FnScope rN ["deck","row","width"] (aaj abp):=⟨rfl,rfl,rfl,by decide +kernel,rfl,by decide +kernel,by decide +kernel⟩
structure Hnd (C:Cel) (prs:List (Str×Str)) (W:Nat) (t0 t1 w0 w1:Tab):Prop where
 R:RowOk C prs
 s1:∀ x∈C.ins,Sm x
 s2:∀ p∈prs,Sm p.2
 W:W<=60
 n0:(t0.map (·.1)).Nodup
 n1:(t1.map (·.1)).Nodup
 b1:∀ p∈t1,Bit p.2
 wb:∀ p∈w1,Bit p.2
 wl:lk2 C prs w0 w1=none
abbrev lS (C:Cel) (prs:List (Str×Str)) (W:Nat) (t0 t1 w0 w1:Tab) (q0 q6 q7 q10:Sl):List Sl:=[q0,.val (encW C prs),.val (.int W),.own (.dK (encT t0)),.own (.dK (encT t1)),.own (.lst [.dK (encT w0),.dK (encT w1)]),q6,q7,.own (.lst [.dK (encT t0),.dK (encT t1)]),.val (oS (lk2 C prs t0 t1)),q10]
def sTail:TSd:=fun _ De ρ=>∃ (C:Cel) (prs:List (Str×Str)) (W:Nat) (t0 t1 w0 w1:Tab) (q0 q6 q7 q10:Sl),ρ=lS C prs W t0 t1 w0 w1 q0 q6 q7 q10/\Hnd C prs W t0 t1 w0 w1/\De.rt (.val (.bl true))
theorem len11 {α:Type}:∀ {l:List α},l.length=11->∃ a b c d e f g h i j k,l=[a,b,c,d,e,f,g,h,i,j,k]
 | [a,b,c,d,e,f,g,h,i,j,k],_=>⟨a,b,c,d,e,f,g,h,i,j,k,rfl⟩
theorem am9 (t:Tab):∀ p∈vT t,adj p.2=true/\eqV p.2 p.2=true:=fun p hp=>by
 obtain⟨r,_,rfl⟩:=List.mem_map.mp hp;exact⟨rfl,beq_self_eq_true (α:=Int) r.2⟩
theorem au5 {t:Tab}(h:(t.map (·.1)).Nodup):((vT t).map (·.1)).Nodup:=by
 have e:(vT t).map (·.1)=(t.map (·.1)).map (Sum.inr:Str->Key):=by simp[vT,Function.comp_def]
 rw[e];exact asc h
section
variable {P:Program}{w:World}{K:PySem.W.Frag}{mg:Str->Option Value}{base:Heap}{CE CN N fI:Addr}{bm:List Value}
set_option maxHeartbeats 4000000 in
theorem s_tail {f fS fA:Addr}{fdS fdA:FuncData}{cdv:Value}{A:Around}{outer:List Env}{s:Shared}{H0:Hp}{E:XK}(O:NN K mg CE CN N fI bm) (hr:Room 5 (A.deeper (PyProof.Rows.envOfC "_law_right" (aaj abp) s.heap.objs.size f cdv)))
  (ayc:Gd K mg "_law_said" acm ["row","width","words","edges"] fS fdS) (ayu:FnOk P w K mg base CX0 5 fS fdS ["row","width","words","edges"] (ape K CN))
  (ayf:Gd K mg "_law_alone" ab7 ["caught"] fA fdA) (ayv:FnOk P w K mg base CX0 1 fA fdA ["caught"] (amk CN)) :
  PSsd (cxOf CX0 P w K mg base rN "_law_right" (aaj abp) f cdv A outer s H0 E).nox as9 sTail:=by
 refine PSs.any fun Dn σ H hq0=>hq0.elim fun B ρ T' De hl hd ht lk=>?_
 have hu:=adt hr;obtain⟨C,prs,W,t0,t1,w0,w1,q0,q6,q7,q10,rfl,hh,hrt⟩:=ht;obtain⟨x0,x1,x2,x3,x4,x5,x6,x7,x8,x9,x10,rfl⟩:=len11 hl.symm;obtain⟨v1,rfl,r1⟩:=hd.ok (.val (encW C prs),x1) (by simp);obtain⟨v2,rfl,r2⟩:=hd.ok (.val (.int W),x2) (by simp);obtain⟨aw,rfl,kvw,haw,ew,rw'⟩:=hd.ok (.own (.dK (encT t0)),x3) (by simp);obtain⟨ae,rfl,kve,hae,ee,re'⟩:=hd.ok (.own (.dK (encT t1)),x4) (by simp);obtain⟨ah,rfl,vh,hah,rh⟩:=hd.ok (.own (.lst [.dK (encT w0),.dK (encT w1)]),x5) (by simp);obtain⟨ak,rfl,vk,hak,rk⟩:=hd.ok (.own (.lst [.dK (encT t0),.dK (encT t1)]),x8) (by simp);obtain⟨v9,rfl,r9⟩:=hd.ok (.val (oS (lk2 C prs t0 t1)),x9) (by simp);obtain rfl:=r2.int_inv;rw[aow t0 kvw ew rw'] at haw;rw[aow t1 kve ee re'] at hae;cases rh with
 | cons g1 rh =>
 cases rh with
 | cons g2 rh =>
 cases rh;cases rk with
 | cons k1 rk =>
 cases rk with
 | cons k2 rk =>
 cases rk;obtain⟨h1,rfl,_,hh1⟩:=agq g1;obtain⟨h2,rfl,_,hh2⟩:=agq g2;obtain⟨p1,rfl,_,hp1⟩:=agq k1;obtain⟨p2,rfl,_,hp2⟩:=agq k2;have hv9:v9=match lk2 C prs t0 t1 with | none=>.non | some y=>.str y:=by
  cases e:lk2 C prs t0 t1 with
  | none=>rw[e] at r9;exact Rep.non_inv r9
  | some y=>rw[e] at r9;exact Rep.str_inv r9
 let σs:Option V->St:=fun y=>[x0,some v1,some (.int W),some (.ref aw),some (.ref ae),some (.ref ah),x6,x7,some (.ref ak),some v9,y]
 have rR:∀ (A':Addr->Prop) {H2:Hp},Same H H2->Rep K A' H2 (encW C prs) v1:=fun A' {H2} sm=>(r1.mono (.same sm fun _ z=>z)).imm (aiw C prs)
 refine acx (fun σ H1=>Same H H1/\(lk2 C prs t0 t1=none/\σ=σs (some .non)\/∃ y e dd,lk2 C prs t0 t1=some y/\σ=σs (some (.ref e))/\XAtH CN y e dd H1)) (fun z hz=>?_) ?_
 ·refine⟨_,aa5 (i:=10) abc.nd rfl (Or.inl rfl) (aba ayu hr rfl ayc.m ayc.k ayc.b .nil adg (pa_c (pv 1) (pa_c (pv 2) (pa_c (pv 3) (pa_c (pv 4) aak))))),?_⟩;refine⟨_,rfl,_,rfl,_,rfl,_,rfl,fun _=>True,C,prs,W,encT t0,encT t1,.cons (rR _ (fun _ _ e=>e)) (.cons (.int _) (.cons (atu trivial haw) (.cons (atu trivial hae) .nil))),hh.R,hh.s1,hh.s2,hh.W,?_⟩;cases e:lk2 C prs t0 t1 with
  | none =>
   obtain⟨wf,ef,u,ρ,run,a1,a2⟩:=ard hh.R W e hh.b1;exact .inl ⟨wf,ef,u,ρ,run,a1,a2,fun H' sm=>hz _ _ ⟨sm,.inl ⟨e,rfl⟩⟩⟩
  | some y=>exact .inr ⟨y,asz e,fun e' dd H' xa sm=>hz _ _ ⟨sm,.inr ⟨y,e',dd,e,rfl,xa⟩⟩⟩
 rintro σ H1 ⟨s1,hc⟩;obtain⟨v10,rfl,hc2⟩:∃ v10,σ=σs (some v10)/\(lk2 C prs t0 t1=none/\v10 = .non/\v9 = .non\/∃ y e dd,lk2 C prs t0 t1=some y/\v10 = .ref e/\v9 = .str y/\XAtH CN y e dd H1):=by
  rcases hc with⟨e,rfl⟩ | ⟨y,e',dd,e,rfl,xa⟩
  ·rw[e] at hv9;exact⟨_,rfl,.inl ⟨e,rfl,hv9⟩⟩
  ·rw[e] at hv9;exact⟨_,rfl,.inr ⟨y,e',dd,e,rfl,hv9,xa⟩⟩
 have eqN:decide (v10 = .non)=decide (v9 = .non):=by
  rcases hc2 with⟨_,rfl,e⟩ | ⟨y,e',dd,_,rfl,e,_⟩<;>rw[e]<;>simp
 refine acx (fun σ H2=>σ=σs (some v10)/\Same H1 H2) (fun z hz=>?_) ?_
 ·refine⟨_,ahc (PW.pt (axi (acj axr (apr (aqv (pv 10))) (apr (aqv (pv 9))) (ad4 _)) (aqc (acj (avv hr.units) (ab1 (pa_c (pv 3) (pa_c (pv 4) aak))) (pv 8) (ad4 _))))) (aav (ac6 auj)) adl,?_⟩;refine⟨_,rfl,_,rfl,rfl,_,rfl,?_⟩;rw[eqN];refine ae6 (by simp) ⟨_,rfl,_,rfl,(by show 2<=sizeLine;decide),fun q nq=>?_⟩;have sq:=Same.newF (o:=.lst [V.ref aw,V.ref ae]) nq;have sH:Same H (upd H1 q (.lst [V.ref aw,V.ref ae])):=fun b o e=>sq b o (s1 b o e)
  refine⟨_,rfl,q,ak,_,_,_,_,rfl,rfl,aaa,sH _ _ hak,⟨aw,p1,_,rfl,rfl,sH _ _ haw,sH _ _ hp1,au5 hh.n0,am9 t0⟩,⟨ae,p2,_,rfl,rfl,sH _ _ hae,sH _ _ hp2,au5 hh.n1,am9 t1⟩,_,rfl,iteF (hz _ _ ⟨rfl,sq⟩)⟩
 rintro _ H2 ⟨rfl,s2⟩;refine acx (fun σ H3=>σ=σs (some v10)/\Same H2 H3) (fun z hz=>?_) ?_
 ·refine⟨_,ahc (PW.pt (aq7 (ara (avq (pv 10))) (alr (PW.pt (axi (acj axr (aqg K (pv 10) rfl) (pv 9) (ad4 _)) (aqc (am6 (arw (aba ayv (hr.mono (by decide)) rfl ayf.m ayf.k ayf.b .nil adg (pa_c (pv 10) aak)))))))))) (aav (ac6 auj)) adl,?_⟩;rcases hc2 with⟨_,rfl,e⟩ | ⟨y,e',dd,_,rfl,rfl,xa⟩
  ·exact⟨_,rfl,_,rfl,ae6 (by simp) (iteF (hz _ _ ⟨rfl,fun _ _ e=>e⟩))⟩
  ·have xa2:=xa.same s2;refine⟨_,rfl,_,rfl,(if_pos (by simp)).mpr ?_⟩;refine⟨_,rfl,e',CN,N,dd,bm,_,_,.str y,rfl,xa2.1,xa2.2,rfl,O.xf,O.xc,O.fw,?_⟩;refine⟨_,rfl,rfl,_,rfl,ae6 (by simp) ?_⟩;exact⟨_,rfl,e',dd,y,rfl,xa2,fun H3 s3=>⟨_,rfl,iteF (hz _ _ ⟨rfl,s3⟩)⟩⟩
 rintro _ H3 ⟨rfl,s3⟩;have sH:Same H H3:=fun b o e=>s3 b o (s2 b o (s1 b o e))
 refine⟨_,aav (ac6 (apr (aqv (aba ayu hr rfl ayc.m ayc.k ayc.b .nil adg (pa_c (pv 1) (pa_c (pv 2) (pa_c (acq abi (pv 5) aap (fun _ _=>rfl)) (pa_c (acq abi (pv 5) aap (fun _ _=>rfl)) aak)))))))),?_⟩;refine⟨_,rfl,_,rfl,_,rfl,ah,_,_,.ref h1,rfl,rfl,SqL.of (sH _ _ hah),aa9 (xs:=[V.ref h1,V.ref h2]) (j:=0) rfl,_,rfl,ah,_,_,.ref h2,rfl,rfl,SqL.of (sH _ _ hah),aa9 (xs:=[V.ref h1,V.ref h2]) (j:=1) rfl,?_⟩;obtain⟨wf,ef,u,ρ,run,a1,a2⟩:=ard hh.R W hh.wl hh.wb;refine⟨fun _=>True,C,prs,W,encT w0,encT w1,.cons (rR _ sH) (.cons (.int _) (.cons (atu trivial (sH _ _ hh1)) (.cons (atu trivial (sH _ _ hh2)) .nil))),hh.R,hh.s1,hh.s2,hh.W,.inl ⟨wf,ef,u,ρ,run,a1,a2,fun H4 s4=>?_⟩⟩;have smE:Same H H4:=fun b o e=>s4 b o (sH b o e)
 have d1:=hd.grow smE (Dk.sameK hd.dk smE);have d2:=d1.unset (m:=10) hl (by show 10<11;decide) (some v10);exact lk.2 _ _ _ _ _ (by rw[List.length_set,List.length_set];exact hl) (d2.push (.bl true)) hrt
end
theorem ady:(["out","into","deck"]:List Str).Nodup:=by decide +kernel
theorem aip:(["name","deck"]:List Str).Nodup:=by decide +kernel
theorem row_ok {C:Cel}{al:List (Str×Str)}(g:GoodRow C al):RowOk C al :=
 ⟨⟨g.good.nd,g.good.gt,g.good.os,g.good.ond,Nat.le_trans g.good.li (by decide),Nat.le_trans g.good.lg (by decide),Nat.le_trans g.good.lo (by decide)⟩,g.n1,g.n2,fun p hp=>(g.mem p hp).1,Nat.le_trans g.la (by decide)⟩
def ar8:RD:=fun dk ds Φ=>∃ (d c:Addr) (C:Cel) (prs:List (Str×Str)) (W:Nat),dk=[d,c]/\ds=[.raw (.ref d),encW C prs,.int W]/\GoodRow C prs/\1<=W/\W<=40/\Φ (.val (.bl true))
abbrev eS (d:Addr) (C:Cel) (prs:List (Str×Str)) (W:Nat) (t0 t1:Tab) (s5 s6 s7 s8 s9 s10:Sl):List Sl:=[.val (.raw (.ref d)),.val (encW C prs),.val (.int W),.own (.dK (encT t0)),.own (.dK (encT t1)),s5,s6,s7,s8,s9,s10]
theorem aqj {x:Str}(h:GoodName x):Sm x:=⟨fun c hc=>Nat.lt_of_le_of_lt (h.ls.az c hc).2 (by decide),Nat.le_trans h.ls.hi (by decide)⟩
theorem imm_oS (o:Option Str):immS (.val (oS o))=true:=by cases o<;>rfl
theorem both {p q:Prop}{c:Bool}(h1:p) (h2:q):if c=true then p else q:=by
 cases c
 ·exact ae6 rfl h2
 ·exact alv rfl h1
theorem avy {t:Tab}{x:Str}(h:∀ p∈t,Bit p.2):∀ p∈putT t x 1,Bit p.2:=fun p hp=>by
 unfold putT at hp;by_cases e:x∈t.map (·.1)
 ·rw[if_pos e] at hp;obtain⟨q,hq,rfl⟩:=List.mem_map.mp hp;by_cases e2:q.1=x
  ·rw[if_pos e2];exact .inr rfl
  ·rw[if_neg e2];exact h q hq
 ·rw[if_neg e] at hp;rcases List.mem_append.mp hp with z | z
  ·exact h p z
  ·rw[List.mem_singleton.mp z];exact .inr rfl
section
variable {P:Program}{w:World}{K:PySem.W.Frag}{mg:Str->Option Value}{base:Heap}{CE CN N fI:Addr}{bm:List Value}
set_option maxHeartbeats 4000000 in
theorem asq {f fT fO fL fS fA:Addr}{fd fdT fdO fdL fdS fdA:FuncData}(F:Fun K "_law_right" "_law_right" abp f fd) (T:Txt mg) (O:NN K mg CE CN N fI bm) (ax2:Gd K mg "_law_take" afe ["deck","many"] fT fdT) (ax8:Gd K mg "_law_words_of" abh ["row"] fO fdO) (ayg:Gd K mg "_law_lacking" ab3 ["row","words","edges"] fL fdL)
  (ayc:Gd K mg "_law_said" acm ["row","width","words","edges"] fS fdS) (ayf:Gd K mg "_law_alone" ab7 ["caught"] fA fdA)
  (ax4:FnOk P w K mg base CX0 1 fT fdT ["deck","many"] (spD K ag5)) (ayr:FnOk P w K mg base CX0 1 fO fdO ["row"] (spD K axx)) (ay4:FnOk P w K mg base CX0 2 fL fdL ["row","words","edges"] (spD K R_lk)) (ayu:FnOk P w K mg base CX0 5 fS fdS ["row","width","words","edges"] (ape K CN)) (ayv:FnOk P w K mg base CX0 1 fA fdA ["caught"] (amk CN)) :
  FnOk P w K mg base CX0 6 f fd ["deck","row","width"] (spD K ar8):=by
 refine F.okD (k:=5) abc (fun dk ds Φ ⟨_,_,_,_,_,_,e,_⟩=>by rw[e];rfl) (by decide) fun cdv A outer s H E dk ds Φ hr hR=>?_
 have hu:=adt hr;obtain⟨d,c,C,prs,W,rfl,rfl,g,hW1,hW,hΦ⟩:=hR;have R:=row_ok g;have lp:=R.lp;have la:=g.la;have li:=g.good.li;have lo:=g.good.lo;have lwi:(wIns C prs).length<=6:=Nat.le_trans (List.length_filter_le ..) li;refine⟨_,(aac (aa2 (i:=3) abc.nd rfl (Or.inl rfl) (aam (abb rfl) acw (by rfl) T.dict PyProof.Rows.boot_dict (pa_k (adf ["name"] ["deck"] [0] rfl (i_v (ag1 hu (aal ayr (hr.mono (by decide)) (by rfl) ax8.m ax8.k ax8.b (pa_k (pd_v 1 (pv 1)) pa_n)) aae)) rfl rfl (fun _ _ _ _ _=>(g_n (i:=0) aip rfl (Or.inl rfl))) (fun _ _ _ _ _=>adh) (fun _ _ _ _ _=>(abj (pa_k (pd_v 0 (pv 0)) (pa_k (aal ax4 (hr.mono (by decide)) (by rfl) ax2.m ax2.k ax2.b (pa_k (pd_v 1 (pv 1)) (pa_k aae pa_n))) pa_n))))) pa_n))) (aac (aa2 (i:=4) abc.nd rfl (Or.inl rfl) (aam (abb rfl) acw (by rfl) T.dict PyProof.Rows.boot_dict (pa_k (adf ["out","into"] ["deck"] [0] rfl (i_v (aao hu (pv 1) aae)) rfl rfl (fun _ _ _ _ _=>(g_t (n:=2) rfl (gs_c (g_n (i:=0) ady rfl (Or.inl rfl)) (gs_c (g_n (i:=1) ady rfl (Or.inl rfl)) gs_n)))) (fun _ _ _ _ _=>adh) (fun _ _ _ _ _=>(abj (pa_k (pd_v 1 (pv 1)) (pa_k (aal ax4 (hr.mono (by decide)) (by rfl) ax2.m ax2.k ax2.b (pa_k (pd_v 2 (pv 2)) (pa_k aae pa_n))) pa_n))))) pa_n))) (aac (aa2 (i:=5) abc.nd rfl (Or.inl rfl) (aa7 (pa_k (aam (abb rfl) acw (by rfl) T.dict PyProof.Rows.boot_dict (pa_s (pv 3) pa_n)) (pa_k (aam (abb rfl) acw (by rfl) T.dict PyProof.Rows.boot_dict (pa_s (pv 4) pa_n)) pa_n)))) (aac (aa2 (i:=6) abc.nd rfl (Or.inl rfl) (aal ax4 (hr.mono (by decide)) (by rfl) ax2.m ax2.k ax2.b (pa_k (pd_v 0 (pv 0)) (pa_k aae pa_n)))) (aac (afj (m:=99) PassesOwn.never rfl (i_v (afp abl ab8 (aa3 (ah2 rfl) anj (by rfl) T.sorted PyProof.Rows.boot_sorted (pa_s (pv 3) pa_n)) (aa3 (ah2 rfl) anj (by rfl) T.sorted PyProof.Rows.boot_sorted (pa_s (pv 4) pa_n)))) (g_n (i:=7) abc.nd rfl (Or.inl rfl)) (aau (s_if (awy (amt (acg op_gt od_gt (pv 6) aae) (aiy (aim (aqn hr.units) (ar6 false) (aal ax4 (hr.mono (by decide)) (by rfl) ax2.m ax2.k ax2.b (pa_k (pd_v 0 (pv 0)) (pa_k aae pa_n))) aae)))) (aac (auw (aeb (anr (pv 3) (pv 7) aap ⟨rfl,rfl,rfl,rfl⟩))) (aac (auw (aeb (anr (pv 4) (pv 7) aap ⟨rfl,rfl,rfl,rfl⟩))) (aau (s_if (awy (amt (aim (aqn hr.units) (ar6 false) (aal ax4 (hr.mono (by decide)) (by rfl) ax2.m ax2.k ax2.b (pa_k (pd_v 0 (pv 0)) (pa_k aae pa_n))) aae) (aiy (acg (avk hu) (alg false) (pv 7) (aao hu (pv 5) aae))))) (aau (ar9 (n:=4) hu aae (pv 4) (pd_v 7 (pv 7)))) (aau (s_if (awy (amt (aim (aqn hr.units) (ar6 false) (aal ax4 (hr.mono (by decide)) (by rfl) ax2.m ax2.k ax2.b (pa_k (pd_v 0 (pv 0)) (pa_k aae pa_n))) aae) (aiy (acg (avk hu) (alg false) (pv 7) (aao hu (pv 5) aae))))) (aau (ar9 (n:=3) hu aae (pv 3) (pd_v 7 (pv 7)))) aex)))))) aex))) (aac (aa2 (i:=8) abc.nd rfl (Or.inl rfl) (aa7 (pa_k (aam (abb rfl) acw (by rfl) T.dict PyProof.Rows.boot_dict (pa_s (pv 3) pa_n)) (pa_k (aam (abb rfl) acw (by rfl) T.dict PyProof.Rows.boot_dict (pa_s (pv 4) pa_n)) pa_n)))) (aac (aa2 (i:=9) abc.nd rfl (Or.inl rfl) (aal ay4 (hr.mono (by decide)) (by rfl) ayg.m ayg.k ayg.b (pa_k (pd_v 1 (pv 1)) (pa_s (pv 3) (pa_s (pv 4) pa_n))))) (s_tail O hr ayc ayu ayf ayv)))))))),?_⟩;refine aag (fun ρ=>∃ tw:Tab,ρ=[.val (.raw (.ref d)),.val (encW C prs),.val (.int W),.own (.dK (encT tw)),.no,.no,.no,.no,.no,.no,.no]/\tw.map (·.1)=wIns C prs) (fun N hN=>?_) ?_
 ·unfold sSet dC aC eLC;refine⟨C,prs,rfl,lp,by omega,by omega,.inl rfl,_,rfl,fun i ys cs=>∃ t:Tab,ys=t.map (fun p=>D.tup [.str p.1,.int p.2])/\t.map (·.1)=(wIns C prs).take i/\cs=[.val (.raw (.ref d))],⟨[],rfl,by simp,rfl⟩,?_,?_⟩
  ·rintro i x ys cs hx _ ⟨t,rfl,ht,rfl⟩;obtain⟨y,hy,rfl⟩:=acf hx;have hi:i<(wIns C prs).length:=(List.getElem?_eq_some_iff.mp hy).1;have tl:t.length<=100:=by have:=congrArg List.length ht;rw[List.length_map,List.length_take] at this;omega
   refine⟨d,c,2,rfl,rfl,by decide,by decide,fun r hr=>⟨.inl rfl,by show 2<=1000;decide,by rw[List.length_map];omega,t++[(y,(r:Int))],by rw[List.map_append];rfl,?_,rfl⟩⟩;rw[List.map_append,ht,List.take_add_one,hy];rfl
  ·rintro ys cs _ ⟨t,rfl,ht,rfl⟩;rw[List.length_map,List.take_of_length_le (Nat.le_refl _)] at ht;have e0:ae2 (t.map fun p=>D.tup [.str p.1,.int p.2])=some (encT t):=by
    rw[ab9 (g:=fun p:Str×Int=>((Sum.inr p.1:Key),D.int p.2)) (fun p=>⟨.str p.1,rfl,rfl⟩)];rfl
   have tl:t.length<=100:=by have:=congrArg List.length ht;rw[List.length_map] at this;omega
   refine⟨_,e0,by rw[ab2];omega,?_⟩;rw[ach (by rw[ht];exact aiu R.gc)];exact hN _ ⟨t,rfl,ht⟩
 rintro _ ⟨w0,rfl,kw⟩;refine aag (fun ρ=>∃ te:Tab,ρ=eS d C prs W w0 te .no .no .no .no .no .no/\te.map (·.1)=prs.map (·.2)/\∀ p∈te,Bit p.2) (fun N hN=>?_) ?_
 ·unfold sSet dC aC eLC;refine⟨rfl,_,rfl,fun i ys cs=>∃ t:Tab,ys=t.map (fun p=>D.tup [.str p.1,.int p.2])/\t.map (·.1)=(prs.take i).map (·.2)/\(∀ p∈t,Bit p.2)/\cs=[.val (.raw (.ref d))],⟨[],rfl,by simp,fun p hp=>(nomatch hp),rfl⟩,?_,?_⟩
  ·rintro i x ys cs hx _ ⟨t,rfl,ht,hb,rfl⟩;obtain⟨p,hp,rfl⟩:=acf hx;have hi:i<prs.length:=(List.getElem?_eq_some_iff.mp hp).1;have tl:t.length<=100:=by have:=congrArg List.length ht;rw[List.length_map,List.length_map,List.length_take] at this;omega
   have tk:prs.take (i+1)=prs.take i++[p]:=by rw[List.take_add_one,hp];rfl
   refine⟨rfl,rfl,d,c,2,rfl,rfl,by decide,by decide,fun r hr=>⟨.inl rfl,by show 2<=1000;decide,by rw[List.length_map];omega,t++[(p.2,(r:Int))],by rw[List.map_append];rfl,?_,fun q hq=>?_,rfl⟩⟩
   ·rw[List.map_append,ht,tk,List.map_append];rfl
   ·rcases List.mem_append.mp hq with z | z
    ·exact hb q z
    ·rw[List.mem_singleton.mp z];show Bit (r:Int);unfold Bit;omega
  ·rintro ys cs _ ⟨t,rfl,ht,hb,rfl⟩;rw[List.length_map,List.take_of_length_le (Nat.le_refl _)] at ht;have e0:ae2 (t.map fun p=>D.tup [.str p.1,.int p.2])=some (encT t):=by
    rw[ab9 (g:=fun p:Str×Int=>((Sum.inr p.1:Key),D.int p.2)) (fun p=>⟨.str p.1,rfl,rfl⟩)];rfl
   have tl:t.length<=100:=by have:=congrArg List.length ht;rw[List.length_map,List.length_map] at this;omega
   refine⟨_,e0,by rw[ab2];omega,?_⟩;rw[ach (by rw[ht];exact R.n2)];exact hN _ ⟨t,rfl,ht,hb⟩
 rintro _ ⟨w1,rfl,ke,be⟩;have l0:w0.length<=6:=by have:=congrArg List.length kw;rw[List.length_map] at this;omega
 have l1:w1.length<=4:=by have:=congrArg List.length ke;rw[List.length_map,List.length_map] at this;omega
 have nd0:(w0.map (·.1)).Nodup:=by rw[kw];exact aiu R.gc
 have nd1:(w1.map (·.1)).Nodup:=by rw[ke];exact R.n2
 have wl:lk2 C prs w0 w1=none:=by
  have none_of:∀ (xs:List Str) (t:Tab),t.map (·.1)=xs->abt xs (encT t)=none:=fun xs t e=>List.find?_eq_none.mpr fun x hx=>by rw[(valT t x).1 (by rw[e];exact hx)];simp
  unfold lk2;rw[none_of _ _ kw,none_of _ _ ke];rfl
 refine aag (fun ρ=>ρ=eS d C prs W w0 w1 (.own (.lst [.dK (encT w0),.dK (encT w1)])) .no .no .no .no .no) (fun N hN=>⟨rfl,rfl,by show 2<=1000;decide,hN _ rfl⟩) ?_;rintro _ rfl;refine aag (fun ρ=>∃ n:Int,ρ=eS d C prs W w0 w1 (.own (.lst [.dK (encT w0),.dK (encT w1)])) (.val (.int n)) .no .no .no .no) (fun N hN=>⟨d,c,3,rfl,rfl,by decide,by decide,fun r _=>⟨.inl rfl,hN _ ⟨_,rfl⟩⟩⟩) ?_;rintro _ ⟨n,rfl⟩;refine aag (fun ρ=>∃ (t0 t1:Tab) (s7:Sl),ρ=eS d C prs W t0 t1 (.own (.lst [.dK (encT w0),.dK (encT w1)])) (.val (.int n)) s7 .no .no .no/\(t0.map (·.1)).Nodup/\(t1.map (·.1)).Nodup/\(∀ p∈t1,Bit p.2)/\t0.length<=100/\t1.length<=100) (fun N hN=>?_) ?_
 ·unfold sFor iV;have kt:∀ t:Tab,(encT t).map (·.1)=(t.map (·.1)).map Sum.inr:=fun t=>by simp[encT,Function.comp_def]
  refine⟨rfl,w0.map (·.1),kt w0,by rw[List.length_map];omega,fun ys hy=>⟨rfl,w1.map (·.1),kt w1,by rw[List.length_map];omega,fun zs hz=>⟨by rw[List.length_map,List.length_map,hy.length_eq,hz.length_eq,List.length_map,List.length_map];omega,?_⟩⟩⟩;have ln:(ys.map D.str++zs.map D.str).length<=10:=by rw[List.length_append,List.length_map,List.length_map,hy.length_eq,hz.length_eq,List.length_map,List.length_map];omega
  refine⟨fun i ρ=>∃ (t0 t1:Tab) (s7:Sl),ρ=eS d C prs W t0 t1 (.own (.lst [.dK (encT w0),.dK (encT w1)])) (.val (.int n)) s7 .no .no .no/\(t0.map (·.1)).Nodup/\(t1.map (·.1)).Nodup/\(∀ p∈t1,Bit p.2)/\t0.length<=6+i/\t1.length<=6+i,⟨w0,w1,.no,rfl,nd0,nd1,be,by omega,by omega⟩,?_,?_⟩
  ·rintro i x ρ hx ⟨t0,t1,s7,rfl,n0,n1,b1,m0,m1⟩;have hi:i<10:=Nat.lt_of_lt_of_le (List.getElem?_eq_some_iff.mp hx).1 ln;obtain⟨y,rfl⟩:∃ y:Str,x = .str y:=by
    have:=List.mem_of_getElem? hx;rcases List.mem_append.mp this with z | z
    ·obtain⟨y,_,e⟩:=List.mem_map.mp z;exact⟨y,e.symm⟩
    ·obtain⟨y,_,e⟩:=List.mem_map.mp z;exact⟨y,e.symm⟩
   have fin:∀ {t0' t1':Tab},(t0'.map (·.1)).Nodup->(t1'.map (·.1)).Nodup->(∀ p∈t1',Bit p.2)->t0'.length<=7+i->t1'.length<=7+i->∃ (t0 t1:Tab) (s7:Sl),eS d C prs W t0' t1' (.own (.lst [.dK (encT w0),.dK (encT w1)])) (.val (.int n)) (.val (.str y)) .no .no .no=eS d C prs W t0 t1 (.own (.lst [.dK (encT w0),.dK (encT w1)])) (.val (.int n)) s7 .no .no .no/\(t0.map (·.1)).Nodup/\(t1.map (·.1)).Nodup/\(∀ p∈t1,Bit p.2)/\t0.length<=6+(i+1)/\t1.length<=6+(i+1):=fun a1 a2 a3 a4 a5=>⟨_,_,_,rfl,a1,a2,a3,by omega,by omega⟩
   have e0:=avf t0 y;have e1:=avf t1 y;have q0:=er_nd (x:=y) n0;have q1:=er_nd (x:=y) n1;have qb:∀ p∈erT t1 y,Bit p.2:=fun p hp=>b1 p (er_mem hp)
   have p0:=am7 (erT t0 y) y 1;have p1:=am7 (erT t1 y) y 1;have same:=fin n0 n1 b1 (by omega) (by omega);have less:=fin q0 q1 qb (by omega) (by omega);have put1:=fin q0 (apk q1 y 1) (avy qb) (by omega) (by omega);have put0:=fin (apk q0 y 1) q1 qb (by omega) (by omega);unfold eS at put0 put1;rw[← atf] at put0 put1;refine⟨rfl,both ⟨d,c,3,rfl,rfl,by decide,by decide,fun r hr=>⟨.inl rfl,both ?_ same⟩⟩ (ae6 rfl same)⟩;refine⟨t0,y,rfl,rfl,t1,y,rfl,rfl,d,c,2,rfl,rfl,by decide,by decide,fun r2 _=>⟨.inl rfl,both ⟨rfl,rfl,_,rfl,_,rfl,both ⟨rfl,_,am1 (by rw[ab2];omega),put1⟩ ?_⟩ (ae6 rfl ?_)⟩⟩
   ·exact⟨d,c,2,rfl,rfl,by decide,by decide,fun r3 _=>⟨.inl rfl,both ⟨rfl,rfl,_,rfl,_,rfl,both ⟨rfl,_,am1 (by rw[ab2];omega),put0⟩ less⟩ (ae6 rfl less)⟩⟩
   ·exact⟨d,c,2,rfl,rfl,by decide,by decide,fun r3 _=>⟨.inl rfl,both ⟨rfl,rfl,_,rfl,_,rfl,both ⟨rfl,_,am1 (by rw[ab2];omega),put0⟩ less⟩ (ae6 rfl less)⟩⟩
  ·rintro ρ ⟨t0,t1,s7,rfl,n0,n1,b1,m0,m1⟩;exact hN _ ⟨t0,t1,s7,rfl,n0,n1,b1,by omega,by omega⟩
 rintro _ ⟨t0,t1,s7,rfl,n0,n1,b1,m0,m1⟩;refine aag (fun ρ=>ρ=eS d C prs W t0 t1 (.own (.lst [.dK (encT w0),.dK (encT w1)])) (.val (.int n)) s7 (.own (.lst [.dK (encT t0),.dK (encT t1)])) .no .no) (fun N hN=>⟨rfl,rfl,by show 2<=1000;decide,hN _ rfl⟩) ?_;rintro _ rfl;refine aag (fun ρ=>ρ=eS d C prs W t0 t1 (.own (.lst [.dK (encT w0),.dK (encT w1)])) (.val (.int n)) s7 (.own (.lst [.dK (encT t0),.dK (encT t1)])) (.val (oS (lk2 C prs t0 t1))) .no) (fun N hN=>⟨rfl,rfl,C,prs,t0,t1,rfl,lp,by omega,by omega,.inr (imm_oS _),hN _ rfl⟩) ?_;rintro _ rfl;exact⟨C,prs,W,t0,t1,w0,w1,_,_,_,_,rfl,⟨R,fun x hx=>aqj (g.good.nm x (List.mem_append_left _ hx)),fun p hp=>aqj (g.good.nm _ (List.mem_append_left _ (g.mem p hp).2)),by omega,n0,n1,b1,be,wl⟩,hΦ⟩
end
def atd (K:PySem.W.Frag):Sp:=fun vs H Q _=>∃ (a:Addr) (ns:List Int),vs=[.ref a]/\SqL K H a (ns.map V.int)/\ns.length<=63/\∀ H',Q (.bl true) H'
abbrev CA:=Cel×List (Str×Str)
def awf (x:CA):D:=ak7 x.1 x.2
section
variable {P:Program}{w:World}{K:PySem.W.Frag}{mg:Str->Option Value}{base:Heap}
theorem ah6:FnScope ["script","deck","rows","row","width","turn"] ["script"] (aaj s_law):=⟨rfl,rfl,rfl,by decide +kernel,rfl,by decide +kernel,by decide +kernel⟩
set_option maxHeartbeats 4000000 in
theorem ok_law {f fD fT fR fM fK fI:Addr}{fd fdD fdT fdR fdM fdK fdI:FuncData}(F:Fun K "law" "law" s_law f fd) (T:Txt mg) (ayn:Gd K mg "_law_deck" ao8 ["script"] fD fdD) (ax2:Gd K mg "_law_take" afe ["deck","many"] fT fdT)
  (ayj:Gd K mg "_law_row" adw ["deck","inputs","gates","most"] fR fdR) (aye:Gd K mg "_law_made" ac5 ["deck","kit"] fM fdM) (ayi:Gd K mg "_law_kit" adr ["deck"] fK fdK) (ayl:Gd K mg "_law_right" abp ["deck","row","width"] fI fdI)
  (ay9:FnOk P w K mg base CX0 1 fD fdD ["script"] (avl K)) (ax4:FnOk P w K mg base CX0 1 fT fdT ["deck","many"] (spD K ag5)) (ay2:FnOk P w K mg base CX0 4 fR fdR ["deck","inputs","gates","most"] (spD K R_row)) (ay0:FnOk P w K mg base CX0 4 fM fdM ["deck","kit"] (spD K avd)) (ay1:FnOk P w K mg base CX0 2 fK fdK ["deck"] (spD K R_kit))
  (ay6:FnOk P w K mg base CX0 6 fI fdI ["deck","row","width"] (spD K ar8)) :
  FnOk P w K mg base CX0 7 f fd ["script"] (atd K):=by
 refine F.ok ah6 (fun vs H Q E h=>?_) (fun cdv A outer s H vs Q E hr h=>?_)
 ·obtain⟨a,ns,rfl,_⟩:=h;rfl
 ·obtain⟨a,ns,rfl,hS,hlen,hQ⟩:=h;have hu:=adt hr;have hr1:Room 1 _:=hr.mono (by decide);refine ajf _ (aa5 (i:=1) ah6.nd rfl (Or.inl rfl) (aba ay9 hr1 rfl ayn.m ayn.k ayn.b .nil adg (pa_c (pv 0) aak))) ?_;refine⟨_,rfl,a,ns,rfl,hS,hlen,fun d c H1 D1 _ _ _=>?_⟩;refine⟨_,(aac (aa2 (i:=2) ah6.nd rfl (Or.inl rfl) (aa7 (pa_k (aal ay2 (hr.mono (by decide)) (by rfl) ayj.m ayj.k ayj.b (pa_k (pd_v 1 (pv 1)) (pa_k aae (pa_k aae (pa_k aae pa_n))))) (pa_k (ag1 hu (aal ay0 (hr.mono (by decide)) (by rfl) aye.m aye.k aye.b (pa_k (pd_v 1 (pv 1)) (pa_k (aal ay1 (hr.mono (by decide)) (by rfl) ayi.m ayi.k ayi.b (pa_k (pd_v 1 (pv 1)) pa_n)) pa_n))) aae) (pa_k (aal ay2 (hr.mono (by decide)) (by rfl) ayj.m ayj.k ayj.b (pa_k (pd_v 1 (pv 1)) (pa_k aae (pa_k aae (pa_k aae pa_n))))) pa_n))))) (aac (afj (m:=99) PassesOwn.never rfl (i_v (adp abl ab8 (pv 2) (aa7 (pa_k (ag1 hu (aal ay0 (hr.mono (by decide)) (by rfl) aye.m aye.k aye.b (pa_k (pd_v 1 (pv 1)) (pa_k (aal ay1 (hr.mono (by decide)) (by rfl) ayi.m ayi.k ayi.b (pa_k (pd_v 1 (pv 1)) pa_n)) pa_n))) aae) pa_n)))) (g_n (i:=3) ah6.nd rfl (Or.inl rfl)) (aac (aa2 (i:=4) ah6.nd rfl (Or.inl rfl) (afp abl ab8 aae (aal ax4 (hr.mono (by decide)) (by rfl) ax2.m ax2.k ax2.b (pa_k (pd_v 1 (pv 1)) (pa_k aae pa_n))))) (aau (afj (m:=99) PassesOwn.never rfl (i_r1 (by rfl) T.range aae) (g_n (i:=5) ah6.nd rfl (Or.inl rfl)) (aau (s_if (avr (pdt_v (aal ay6 (hr.mono (by decide)) (by rfl) ayl.m ayl.k ayl.b (pa_k (pd_v 1 (pv 1)) (pa_k (pd_v 3 (pv 3)) (pa_k (pd_v 4 (pv 4)) pa_n)))))) (aau (adc pd_bl)) aex)))))) (aau (adc pd_bl)))),⟨[d,c],fun _=>False,H1⟩,[.no,.val (.raw (.ref d)),.no,.no,.no,.no],[],{ nx:=fun _=>False,rt:=fun r=>r = .val (.bl true) },rfl,?_,?_,?_,?_⟩
  ·refine⟨fun b o e _=>e,.inr ⟨d,c,rfl,D1⟩,List.nodup_nil,fun b hb=>absurd hb List.not_mem_nil,fun p hp=>?_⟩;have hp:p∈[((Sl.no:Sl),some (V.ref a)),(.val (.raw (.ref d)),some (V.ref d)),(.no,none),(.no,none),(.no,none),(.no,none)]:=hp;simp only[List.mem_cons,List.not_mem_nil,or_false] at hp;rcases hp with rfl | rfl | rfl | rfl | rfl | rfl<;>first | trivial | exact⟨_,rfl,.raw _⟩
  ·refine⟨d,c,6,8,4,rfl,rfl,by decide,by decide,by decide,fun C1 al1 g1=>⟨.inl rfl,d,c,rfl,rfl,fun kt hkt=>⟨.inl rfl,d,c,kt,rfl,rfl,hkt,fun C2 al2 kvs g2=>⟨.inl rfl,_,rfl,d,c,6,4,4,rfl,rfl,by decide,by decide,by decide,fun C3 al3 g3=>⟨.inl rfl,by show 3<=1000;decide,?_⟩⟩⟩⟩⟩;dsimp only;refine aag (fun ρ=>True) (fun N hN=>?_) (fun _ _=>rfl);refine⟨rfl,d,c,rfl,rfl,fun kt4 hkt4=>⟨.inl rfl,d,c,kt4,rfl,rfl,hkt4,fun C4 al4 kvs4 g4=>⟨.inl rfl,_,rfl,by show 1<=1000;decide,by show 3+1<=100000;decide,?_⟩⟩⟩;obtain⟨rs,hrs⟩:∃ rs:List CA,rs=[(C1,al1),(C2,al2),(C3,al3),(C4,al4)]:=⟨_,rfl⟩;have good:∀ x∈rs,GoodRow x.1 x.2:=fun x hx=>by
    rw[hrs] at hx;simp only[List.mem_cons,List.not_mem_nil,or_false] at hx;rcases hx with rfl | rfl | rfl | rfl
    ·exact g1
    ·exact g2
    ·exact g3
    ·exact g4
   refine⟨fun i ρ=>∃ s2 s3 s4 s5,ρ=[.no,.val (.raw (.ref d)),s2,s3,s4,s5],⟨_,_,_,_,rfl⟩,?_,fun _ _=>hN _ trivial⟩;rintro i x ρ hx ⟨s2,s3,s4,s5,rfl⟩;obtain⟨⟨C,al⟩,hr',rfl⟩:=acf (f:=awf) (xs:=rs) (by rw[hrs];exact hx);have gr:GoodRow C al:=good _ (List.mem_of_getElem? hr');have ev:∀ r:Nat,(1+(r:Int))=((r+1:Nat):Int):=fun r=>by omega
   show sSeq _ _ _ _ _;refine aag (fun ρ=>∃ r:Nat,r<40/\ρ=[.no,.val (.raw (.ref d)),s2,.val (awf (C,al)),.val (.int ((r+1:Nat):Int)),s5]) (fun N' hN'=>?_) ?_
   ·exact⟨d,c,40,rfl,rfl,by decide,by decide,fun r1 q1=>⟨.inl rfl,hN' _ ⟨r1,by omega,by rw[← ev];rfl⟩⟩⟩
   rintro _ ⟨r,hr40,rfl⟩;refine ae0 (afi 0 3) _ (fun Ψ h=>⟨by decide,by decide,h⟩) (fun j ρ=>∃ s5,ρ=[.no,.val (.raw (.ref d)),s2,.val (awf (C,al)),.val (.int ((r+1:Nat):Int)),s5]) ⟨_,rfl⟩ ?_ ?_
   ·rintro j x ρ hx ⟨s5,rfl⟩;exact⟨d,c,C,al,r+1,rfl,rfl,gr,by omega,by omega,.inl rfl,rfl,_,rfl,ae6 rfl ⟨_,rfl⟩⟩
   ·rintro ρ ⟨s5,rfl⟩;exact⟨_,_,_,_,rfl⟩
  ·intro ρ' σ' H' _ _ _;exact⟨False.elim,False.elim,False.elim⟩
  ·rintro r v ρ' σ' H' _ d1 rfl;obtain rfl:=d1.valAt.bl_inv;exact hQ H'
end
theorem len1 {us:List Value}(h:us.length=1):∃ x0,us=[x0]:=List.length_eq_one_iff.mp h
theorem len2 {us:List Value}(h:us.length=2):∃ x0 x1,us=[x0,x1]:=by
 cases us with
 | nil=>cases h
 | cons a r =>
  obtain⟨b,rfl⟩:=List.length_eq_one_iff.mp (Nat.succ.inj h);exact⟨a,b,rfl⟩
theorem len3 {us:List Value}(h:us.length=3):∃ x0 x1 x2,us=[x0,x1,x2]:=by
 cases us with
 | nil=>cases h
 | cons a r =>
  obtain⟨y0,y1,rfl⟩:=len2 (Nat.succ.inj h);exact⟨a,y0,y1,rfl⟩
theorem len4 {us:List Value}(h:us.length=4):∃ x0 x1 x2 x3,us=[x0,x1,x2,x3]:=by
 cases us with
 | nil=>cases h
 | cons a r =>
  obtain⟨y0,y1,y2,rfl⟩:=len3 (Nat.succ.inj h);exact⟨a,y0,y1,y2,rfl⟩
abbrev NsF (K:PySem.W.Frag) (x:Str) (f:Addr):Prop:=PySem.W.nsIn K mainGlobals x=some (some (.ref f))
abbrev LkF (K:PySem.W.Frag) (f:Addr) (x:Str) (st:Stmt) (u:Option Addr×Option Addr×Array (Option Value)×Value×Value×Value×Value×Value) (cd:Value):Prop:=K.lookup f=some ⟨u.2.2.2.1,u.1,.func (PySem.W.fnOf x x (ae9 st) (acv st) (aaj st) .none u.2.2.2.2.1 u.2.2.2.2.2.1 u.2.2.2.2.2.2.1 u.2.1 cd u.2.2.2.2.2.2.2),u.2.2.1⟩
set_option maxHeartbeats 4000000 in
theorem all_mk {l:PySem.W.OpenLaw}{w:World}{K:PySem.W.Frag}{h:Heap}{mg:Str->Option Value}{fa f1 f2 f3 f4 f5 f6 f7 f8 f9 f10 f11 f12 f13 f14 f15 f16 f17 f18 f19 f20 f21 f22 f23 f24 f25:Addr}(X:K.In h) (G:h.Ns mainGlobals mg) (hfa:mg "law" = some (.ref fa))
  {od1 an1 od2 an2 od3 an3 od4 an4 od5 an5 od6 an6 od7 an7 od8 an8 od9 an9 od10 an10 od11 an11 od12 an12 od13 an13 od14 an14 od15 an15 od16 an16 od17 an17 od18 an18 od19 an19 od20 an20 od21 an21 od22 an22 od23 an23 od24 an24 od25 an25:Option Addr}{sl1 sl2 sl3 sl4 sl5 sl6 sl7 sl8 sl9 sl10 sl11 sl12 sl13 sl14 sl15 sl16 sl17 sl18 sl19 sl20 sl21 sl22 sl23 sl24 sl25:Array (Option Value)}{oc1 kV1 dc1 pm1 cd1 ct1 oc2 kV2 dc2 pm2 cd2 ct2 oc3 kV3 dc3 pm3 cd3 ct3 oc4 kV4 dc4 pm4 cd4 ct4 oc5 kV5 dc5 pm5 cd5 ct5 oc6 kV6 dc6 pm6 cd6 ct6 oc7 kV7 dc7 pm7 cd7 ct7 oc8 kV8 dc8 pm8 cd8 ct8 oc9 kV9 dc9 pm9 cd9 ct9 oc10 kV10 dc10 pm10 cd10 ct10 oc11 kV11 dc11 pm11 cd11 ct11 oc12 kV12 dc12 pm12 cd12 ct12 oc13 kV13 dc13 pm13 cd13 ct13 oc14 kV14 dc14 pm14 cd14 ct14 oc15 kV15 dc15 pm15 cd15 ct15 oc16 kV16 dc16 pm16 cd16 ct16 oc17 kV17 dc17 pm17 cd17 ct17 oc18 kV18 dc18 pm18 cd18 ct18 oc19 kV19 dc19 pm19 cd19 ct19 oc20 kV20 dc20 pm20 cd20 ct20 oc21 kV21 dc21 pm21 cd21 ct21 oc22 kV22 dc22 pm22 cd22 ct22 oc23 kV23 dc23 pm23 cd23 ct23 oc24 kV24 dc24 pm24 cd24 ct24 oc25 kV25 dc25 pm25 cd25 ct25:Value}
  {CE CN CA CC CL NS fI:Addr}{bm:List Value}{uCN1 uCN3:Value}{uCN2:Option Addr}{uCNn uCNq:Str}{uCNb uCNu:List Value}{uCNh uCNa uCNe:Bool}{uCNs:List Str}{uCNc:Option Bool}{uCNz:Array (Option Value)}{ioc ikV idc ipm icd ict:Value}{iod ian:Option Addr}{isl:Array (Option Value)}
  (a1:NsF K "check_there" f1) (l1:LkF K f1 "check_there" abd (od1,an1,sl1,oc1,kV1,dc1,pm1,ct1) cd1) (c1:PySem.W.codeIn K cd1 "check_there" = true) (k1:PySem.W.keepIn K (.ref f1)=true)
  (a2:NsF K "told_by" f2) (l2:LkF K f2 "told_by" add (od2,an2,sl2,oc2,kV2,dc2,pm2,ct2) cd2) (c2:PySem.W.codeIn K cd2 "told_by" = true) (k2:PySem.W.keepIn K (.ref f2)=true)
  (a3:NsF K "gate_bit" f3) (l3:LkF K f3 "gate_bit" ac3 (od3,an3,sl3,oc3,kV3,dc3,pm3,ct3) cd3) (c3:PySem.W.codeIn K cd3 "gate_bit" = true) (k3:PySem.W.keepIn K (.ref f3)=true)
  (a4:NsF K "place_worths" f4) (l4:LkF K f4 "place_worths" abe (od4,an4,sl4,oc4,kV4,dc4,pm4,ct4) cd4) (c4:PySem.W.codeIn K cd4 "place_worths" = true) (k4:PySem.W.keepIn K (.ref f4)=true)
  (a5:NsF K "carried_inputs" f5) (l5:LkF K f5 "carried_inputs" aay (od5,an5,sl5,oc5,kV5,dc5,pm5,ct5) cd5) (c5:PySem.W.codeIn K cd5 "carried_inputs" = true) (k5:PySem.W.keepIn K (.ref f5)=true)
  (a6:NsF K "word_inputs" f6) (l6:LkF K f6 "word_inputs" ab5 (od6,an6,sl6,oc6,kV6,dc6,pm6,ct6) cd6) (c6:PySem.W.codeIn K cd6 "word_inputs" = true) (k6:PySem.W.keepIn K (.ref f6)=true)
  (a7:NsF K "word_outputs" f7) (l7:LkF K f7 "word_outputs" abg (od7,an7,sl7,oc7,kV7,dc7,pm7,ct7) cd7) (c7:PySem.W.codeIn K cd7 "word_outputs" = true) (k7:PySem.W.keepIn K (.ref f7)=true)
  (a8:NsF K "laid" f8) (l8:LkF K f8 "laid" afn (od8,an8,sl8,oc8,kV8,dc8,pm8,ct8) cd8) (c8:PySem.W.codeIn K cd8 "laid" = true) (k8:PySem.W.keepIn K (.ref f8)=true)
  (a9:NsF K "_law_deck" f9) (l9:LkF K f9 "_law_deck" ao8 (od9,an9,sl9,oc9,kV9,dc9,pm9,ct9) cd9) (c9:PySem.W.codeIn K cd9 "_law_deck" = true) (k9:PySem.W.keepIn K (.ref f9)=true)
  (a10:NsF K "_law_take" f10) (l10:LkF K f10 "_law_take" afe (od10,an10,sl10,oc10,kV10,dc10,pm10,ct10) cd10) (c10:PySem.W.codeIn K cd10 "_law_take" = true) (k10:PySem.W.keepIn K (.ref f10)=true)
  (a11:NsF K "_law_kept" f11) (l11:LkF K f11 "_law_kept" aly (od11,an11,sl11,oc11,kV11,dc11,pm11,ct11) cd11) (c11:PySem.W.codeIn K cd11 "_law_kept" = true) (k11:PySem.W.keepIn K (.ref f11)=true)
  (a12:NsF K "_law_made_names" f12) (l12:LkF K f12 "_law_made_names" ao1 (od12,an12,sl12,oc12,kV12,dc12,pm12,ct12) cd12) (c12:PySem.W.codeIn K cd12 "_law_made_names" = true) (k12:PySem.W.keepIn K (.ref f12)=true)
  (a13:NsF K "_law_names" f13) (l13:LkF K f13 "_law_names" ahh (od13,an13,sl13,oc13,kV13,dc13,pm13,ct13) cd13) (c13:PySem.W.codeIn K cd13 "_law_names" = true) (k13:PySem.W.keepIn K (.ref f13)=true)
  (a14:NsF K "_law_gate" f14) (l14:LkF K f14 "_law_gate" aok (od14,an14,sl14,oc14,kV14,dc14,pm14,ct14) cd14) (c14:PySem.W.codeIn K cd14 "_law_gate" = true) (k14:PySem.W.keepIn K (.ref f14)=true)
  (a15:NsF K "_law_row" f15) (l15:LkF K f15 "_law_row" adw (od15,an15,sl15,oc15,kV15,dc15,pm15,ct15) cd15) (c15:PySem.W.codeIn K cd15 "_law_row" = true) (k15:PySem.W.keepIn K (.ref f15)=true)
  (a16:NsF K "_law_words_of" f16) (l16:LkF K f16 "_law_words_of" abh (od16,an16,sl16,oc16,kV16,dc16,pm16,ct16) cd16) (c16:PySem.W.codeIn K cd16 "_law_words_of" = true) (k16:PySem.W.keepIn K (.ref f16)=true)
  (a17:NsF K "_law_kit" f17) (l17:LkF K f17 "_law_kit" adr (od17,an17,sl17,oc17,kV17,dc17,pm17,ct17) cd17) (c17:PySem.W.codeIn K cd17 "_law_kit" = true) (k17:PySem.W.keepIn K (.ref f17)=true)
  (a18:NsF K "_law_shuffled" f18) (l18:LkF K f18 "_law_shuffled" abu (od18,an18,sl18,oc18,kV18,dc18,pm18,ct18) cd18) (c18:PySem.W.codeIn K cd18 "_law_shuffled" = true) (k18:PySem.W.keepIn K (.ref f18)=true)
  (a19:NsF K "_law_words" f19) (l19:LkF K f19 "_law_words" acl (od19,an19,sl19,oc19,kV19,dc19,pm19,ct19) cd19) (c19:PySem.W.codeIn K cd19 "_law_words" = true) (k19:PySem.W.keepIn K (.ref f19)=true)
  (a20:NsF K "_law_made" f20) (l20:LkF K f20 "_law_made" ac5 (od20,an20,sl20,oc20,kV20,dc20,pm20,ct20) cd20) (c20:PySem.W.codeIn K cd20 "_law_made" = true) (k20:PySem.W.keepIn K (.ref f20)=true)
  (a21:NsF K "_law_lacking" f21) (l21:LkF K f21 "_law_lacking" ab3 (od21,an21,sl21,oc21,kV21,dc21,pm21,ct21) cd21) (c21:PySem.W.codeIn K cd21 "_law_lacking" = true) (k21:PySem.W.keepIn K (.ref f21)=true)
  (a22:NsF K "_law_said" f22) (l22:LkF K f22 "_law_said" acm (od22,an22,sl22,oc22,kV22,dc22,pm22,ct22) cd22) (c22:PySem.W.codeIn K cd22 "_law_said" = true) (k22:PySem.W.keepIn K (.ref f22)=true)
  (a23:NsF K "_law_alone" f23) (l23:LkF K f23 "_law_alone" ab7 (od23,an23,sl23,oc23,kV23,dc23,pm23,ct23) cd23) (c23:PySem.W.codeIn K cd23 "_law_alone" = true) (k23:PySem.W.keepIn K (.ref f23)=true)
  (a24:NsF K "_law_right" f24) (l24:LkF K f24 "_law_right" abp (od24,an24,sl24,oc24,kV24,dc24,pm24,ct24) cd24) (c24:PySem.W.codeIn K cd24 "_law_right" = true) (k24:PySem.W.keepIn K (.ref f24)=true)
  (a25:NsF K "law" f25) (l25:LkF K f25 "law" sLaw (od25,an25,sl25,oc25,kV25,dc25,pm25,ct25) cd25) (c25:PySem.W.codeIn K cd25 "law" = true) (k25:PySem.W.keepIn K (.ref f25)=true)
  (z1:PySem.W.nsIn K mainGlobals "len" = some none)
  (z2:PySem.W.nsIn K mainGlobals "range" = some none)
  (z3:PySem.W.nsIn K mainGlobals "sum" = some none)
  (z4:PySem.W.nsIn K mainGlobals "min" = some none)
  (z5:PySem.W.nsIn K mainGlobals "max" = some none)
  (z6:PySem.W.nsIn K mainGlobals "tuple" = some none)
  (z7:PySem.W.nsIn K mainGlobals "list" = some none)
  (z8:PySem.W.nsIn K mainGlobals "set" = some none)
  (z9:PySem.W.nsIn K mainGlobals "dict" = some none)
  (z10:PySem.W.nsIn K mainGlobals "int" = some none)
  (z11:PySem.W.nsIn K mainGlobals "str" = some none)
  (z12:PySem.W.nsIn K mainGlobals "zip" = some none)
  (z13:PySem.W.nsIn K mainGlobals "enumerate" = some none)
  (z14:PySem.W.nsIn K mainGlobals "all" = some none)
  (z15:PySem.W.nsIn K mainGlobals "any" = some none)
  (z16:PySem.W.nsIn K mainGlobals "isinstance" = some none)
  (z17:PySem.W.nsIn K mainGlobals "sorted" = some none)
  (z18:PySem.W.nsIn K mainGlobals "abs" = some none)
  (z19:PySem.W.nsIn K mainGlobals "reversed" = some none)
  (z20:PySem.W.nsIn K mainGlobals "bool" = some none)
  (z21:PySem.W.nsIn K mainGlobals "ValueError" = some none)
  (xCE:PySem.W.nsIn K mainGlobals "CellError" = some (some (.ref CE)))
  (xCN:PySem.W.nsIn K mainGlobals "NoName" = some (some (.ref CN)))
  (xCA:PySem.W.nsIn K mainGlobals "NoAsk" = some (some (.ref CA)))
  (xCC:PySem.W.nsIn K mainGlobals "NoCell" = some (some (.ref CC)))
  (xCL:PySem.W.nsIn K mainGlobals "NoClaim" = some (some (.ref CL)))
  (lkCN:K.lookup CN=some ⟨uCN1,uCN2,.cls ⟨uCNn,uCNb,uCN3::bm,NS,uCNq,uCNh,uCNs,uCNu,uCNa,uCNc,uCNe⟩,uCNz⟩)
  (xfI:PySem.W.nsIn K NS "__init__" = some (some (.ref fI)))
  (lI:K.lookup fI=some ⟨ioc,iod,.func (PySem.W.fnOf "__init__" "NoName.__init__" (ae9 aoz) (acv aoz) (aaj aoz) .none ikV idc ipm ian icd ict),isl⟩)
  (cI:PySem.W.codeIn K icd "NoName.__init__" = true)
  (kI:PySem.W.keepIn K (.ref fI)=true)
  (hoc:ioc = .type "function")
  (hbm:bm = .ref CE::vMro)
  (xcN:xcIn K CN NS bm (some (.ref fI))=true)
  (g1:PySem.W.specialIn K (.ref CE) "__getattribute__" = some (some (.builtin "type.__getattribute__")))
  (g2:PySem.W.readsIn K CE (.type "type")=true)
  (g3:PySem.W.findCls K (.ref CE) (.type "type") "__init__" = some (.val (.builtin "ValueError.__init__")))
  (kpCN:PySem.W.keepIn K (.ref CN)=true)
  (faCN:PySem.W.findIn K (.ref CN) "__getattribute__" = some (some (.builtin "BaseException.__getattribute__")))
  (fbCN:PySem.W.findIn K (.ref CN) "__getattr__" = some none)
  (fcCN:PySem.W.mroIn K CN (.type "BaseException")=some true)
  (fdCN:PySem.W.mroIn K CN (.type "object")=some true)
  (feCN:PySem.W.findIn K (.ref CN) "__class__" = some (some (.builtin "object.__class__")))
  (ff:PySem.W.specialIn K (.builtin "object.__class__") "__get__" = some (some (.builtin "getset_descriptor.__get__")))
  (fg:PySem.W.takesIn K (.builtin "object.__class__")=some true)
  (sa:PySem.W.findIn K (.ref CN) "__setattr__" = some (some (.builtin "object.__setattr__")))
  (fw:PySem.W.findIn K (.ref CN) "word" = some none)
  (exm:PySem.W.exmOne K (.ref CN) (.ref CE)=some true)
  (kt3:PySem.W.kitAny K (.ref CN) [.ref CA,.ref CC,.ref CL]=some false)
  (ktv:PySem.W.kitOne K (.ref CN) (.type "ValueError")=some true)
  (ktc:PySem.W.kitOne K (.ref CN) (.ref CE)=some true)
  (xnn:PySem.W.exmOne K (.ref CN) (.ref CN)=some true)
  : ∃ fd:FuncData,(∀ (s:Shared) (v:Value),BindsTo s fd ⟨[v],[]⟩ [("script",v)])/\∀ base:Heap,K.In base->base.Ns mainGlobals mg->FnOk l.prog w K mg base CX0 7 fa fd ["script"] (atd K):=by
 have e:=hfa.symm.trans (PySem.W.mg_of X G a25);cases e;have F1:=abo (st:=abd) l1 c1 k1;have ax6:Gd K mg "check_there" abd ["names","given"] f1 _:=⟨F1,PySem.W.mg_of X G a1,k1,F1.binds fun _ _ _ _ _ _ us hl=>by obtain⟨x0,x1,rfl⟩:=len2 hl;rfl⟩;have F2:=abo (st:=add) l2 c2 k2;have ayk:Gd K mg "told_by" add ["cell","bits"] f2 _:=⟨F2,PySem.W.mg_of X G a2,k2,F2.binds fun _ _ _ _ _ _ us hl=>by obtain⟨x0,x1,rfl⟩:=len2 hl;rfl⟩;have F3:=abo (st:=ac3) l3 c3 k3;have ayo:Gd K mg "gate_bit" ac3 ["word","bits"] f3 _:=⟨F3,PySem.W.mg_of X G a3,k3,F3.binds fun _ _ _ _ _ _ us hl=>by obtain⟨x0,x1,rfl⟩:=len2 hl;rfl⟩;have F4:=abo (st:=abe) l4 c4 k4;have aya:Gd K mg "place_worths" abe ["count"] f4 _:=⟨F4,PySem.W.mg_of X G a4,k4,F4.binds fun _ _ _ _ _ _ us hl=>by obtain⟨x0,rfl⟩:=len1 hl;rfl⟩;have F5:=abo (st:=aay) l5 c5 k5;have ax3:Gd K mg "carried_inputs" aay ["row"] f5 _:=⟨F5,PySem.W.mg_of X G a5,k5,F5.binds fun _ _ _ _ _ _ us hl=>by obtain⟨x0,rfl⟩:=len1 hl;rfl⟩;have F6:=abo (st:=ab5) l6 c6 k6;have ayh:Gd K mg "word_inputs" ab5 ["row"] f6 _:=⟨F6,PySem.W.mg_of X G a6,k6,F6.binds fun _ _ _ _ _ _ us hl=>by obtain⟨x0,rfl⟩:=len1 hl;rfl⟩;have F7:=abo (st:=abg) l7 c7 k7;have ayb:Gd K mg "word_outputs" abg ["row"] f7 _:=⟨F7,PySem.W.mg_of X G a7,k7,F7.binds fun _ _ _ _ _ _ us hl=>by obtain⟨x0,rfl⟩:=len1 hl;rfl⟩;have F8:=abo (st:=afn) l8 c8 k8;have ayx:Gd K mg "laid" afn ["row","width","words","edges"] f8 _:=⟨F8,PySem.W.mg_of X G a8,k8,F8.binds fun _ _ _ _ _ _ us hl=>by obtain⟨x0,x1,x2,x3,rfl⟩:=len4 hl;rfl⟩;have F9:=abo (st:=ao8) l9 c9 k9;have ayn:Gd K mg "_law_deck" ao8 ["script"] f9 _:=⟨F9,PySem.W.mg_of X G a9,k9,F9.binds fun _ _ _ _ _ _ us hl=>by obtain⟨x0,rfl⟩:=len1 hl;rfl⟩;have F10:=abo (st:=afe) l10 c10 k10;have ax2:Gd K mg "_law_take" afe ["deck","many"] f10 _:=⟨F10,PySem.W.mg_of X G a10,k10,F10.binds fun _ _ _ _ _ _ us hl=>by obtain⟨x0,x1,rfl⟩:=len2 hl;rfl⟩;have F11:=abo (st:=aly) l11 c11 k11;have ay7:Gd K mg "_law_kept" aly [] f11 _:=⟨F11,PySem.W.mg_of X G a11,k11,F11.binds fun _ _ _ _ _ _ us hl=>match us,hl with | [],_=>rfl⟩;have F12:=abo (st:=ao1) l12 c12 k12;have ayz:Gd K mg "_law_made_names" ao1 ["deck","many"] f12 _:=⟨F12,PySem.W.mg_of X G a12,k12,F12.binds fun _ _ _ _ _ _ us hl=>by obtain⟨x0,x1,rfl⟩:=len2 hl;rfl⟩;have F13:=abo (st:=ahh) l13 c13 k13;have ax9:Gd K mg "_law_names" ahh ["deck","many"] f13 _:=⟨F13,PySem.W.mg_of X G a13,k13,F13.binds fun _ _ _ _ _ _ us hl=>by obtain⟨x0,x1,rfl⟩:=len2 hl;rfl⟩;have F14:=abo (st:=aok) l14 c14 k14;have aym:Gd K mg "_law_gate" aok ["deck","known"] f14 _:=⟨F14,PySem.W.mg_of X G a14,k14,F14.binds fun _ _ _ _ _ _ us hl=>by obtain⟨x0,x1,rfl⟩:=len2 hl;rfl⟩;have F15:=abo (st:=adw) l15 c15 k15;have ayj:Gd K mg "_law_row" adw ["deck","inputs","gates","most"] f15 _:=⟨F15,PySem.W.mg_of X G a15,k15,F15.binds fun _ _ _ _ _ _ us hl=>by obtain⟨x0,x1,x2,x3,rfl⟩:=len4 hl;rfl⟩;have F16:=abo (st:=abh) l16 c16 k16;have ax8:Gd K mg "_law_words_of" abh ["row"] f16 _:=⟨F16,PySem.W.mg_of X G a16,k16,F16.binds fun _ _ _ _ _ _ us hl=>by obtain⟨x0,rfl⟩:=len1 hl;rfl⟩;have F17:=abo (st:=adr) l17 c17 k17;have ayi:Gd K mg "_law_kit" adr ["deck"] f17 _:=⟨F17,PySem.W.mg_of X G a17,k17,F17.binds fun _ _ _ _ _ _ us hl=>by obtain⟨x0,rfl⟩:=len1 hl;rfl⟩;have F18:=abo (st:=abu) l18 c18 k18;have ax7:Gd K mg "_law_shuffled" abu ["deck","some"] f18 _:=⟨F18,PySem.W.mg_of X G a18,k18,F18.binds fun _ _ _ _ _ _ us hl=>by obtain⟨x0,x1,rfl⟩:=len2 hl;rfl⟩;have F19:=abo (st:=acl) l19 c19 k19;have ax5:Gd K mg "_law_words" acl ["text"] f19 _:=⟨F19,PySem.W.mg_of X G a19,k19,F19.binds fun _ _ _ _ _ _ us hl=>by obtain⟨x0,rfl⟩:=len1 hl;rfl⟩;have F20:=abo (st:=ac5) l20 c20 k20;have aye:Gd K mg "_law_made" ac5 ["deck","kit"] f20 _:=⟨F20,PySem.W.mg_of X G a20,k20,F20.binds fun _ _ _ _ _ _ us hl=>by obtain⟨x0,x1,rfl⟩:=len2 hl;rfl⟩;have F21:=abo (st:=ab3) l21 c21 k21;have ayg:Gd K mg "_law_lacking" ab3 ["row","words","edges"] f21 _:=⟨F21,PySem.W.mg_of X G a21,k21,F21.binds fun _ _ _ _ _ _ us hl=>by obtain⟨x0,x1,x2,rfl⟩:=len3 hl;rfl⟩;have F22:=abo (st:=acm) l22 c22 k22;have ayc:Gd K mg "_law_said" acm ["row","width","words","edges"] f22 _:=⟨F22,PySem.W.mg_of X G a22,k22,F22.binds fun _ _ _ _ _ _ us hl=>by obtain⟨x0,x1,x2,x3,rfl⟩:=len4 hl;rfl⟩;have F23:=abo (st:=ab7) l23 c23 k23;have ayf:Gd K mg "_law_alone" ab7 ["caught"] f23 _:=⟨F23,PySem.W.mg_of X G a23,k23,F23.binds fun _ _ _ _ _ _ us hl=>by obtain⟨x0,rfl⟩:=len1 hl;rfl⟩;have F24:=abo (st:=abp) l24 c24 k24;have ayl:Gd K mg "_law_right" abp ["deck","row","width"] f24 _:=⟨F24,PySem.W.mg_of X G a24,k24,F24.binds fun _ _ _ _ _ _ us hl=>by obtain⟨x0,x1,x2,rfl⟩:=len3 hl;rfl⟩;have F25:=abo (st:=sLaw) l25 c25 k25;refine⟨PySem.W.fnOf "law" "law" (ae9 sLaw) (acv sLaw) (aaj sLaw) .none kV25 dc25 pm25 an25 cd25 ct25,fun s v=>.of_eq rfl,fun base _ _=>?_⟩;have T:Txt mg:=⟨(PySem.W.mg_none_of X G z1),(PySem.W.mg_none_of X G z2),(PySem.W.mg_none_of X G z3),(PySem.W.mg_none_of X G z4),(PySem.W.mg_none_of X G z5),(PySem.W.mg_none_of X G z6),(PySem.W.mg_none_of X G z7),(PySem.W.mg_none_of X G z8),(PySem.W.mg_none_of X G z9),(PySem.W.mg_none_of X G z10),(PySem.W.mg_none_of X G z11),(PySem.W.mg_none_of X G z12),(PySem.W.mg_none_of X G z13),(PySem.W.mg_none_of X G z14),(PySem.W.mg_none_of X G z15),(PySem.W.mg_none_of X G z16),(PySem.W.mg_none_of X G z17),(PySem.W.mg_none_of X G z18),(PySem.W.mg_none_of X G z19),(PySem.W.mg_none_of X G z20)⟩;have FIn:=abo (x := "__init__") (qual := "NoName.__init__") (st:=aoz) lI cI kI;have bI:=FIn.binds (ps:=["self","word"]) fun _ _ _ _ _ _ us hl=>by obtain⟨x0,x1,rfl⟩:=len2 hl;rfl
 have O:NN K mg CE CN NS fI bm:=⟨PySem.W.mg_of X G xCE,g1,g2,g3,PySem.W.mg_of X G xCN,xcN,kpCN,sa,fw,fun x=>by subst hbm;rw[refuseLoop_ref,refuseLoop_ref];exact PySem.F.store_ValueError.passes _,by subst hbm;simp[vMro],by subst hbm;simp[vMro],⟨faCN,fbCN,fcCN,fdCN,feCN,ff,fg⟩,exm⟩;have M:NK K mg CE CN CA CC CL:=⟨PySem.W.mg_of X G xCA,PySem.W.mg_of X G xCC,PySem.W.mg_of X G xCL,(PySem.W.mg_none_of X G z21),(PySem.W.mg_none_of X G z16),kt3,ktv,ktc,xnn⟩;have GT:=ajd (P:=l.prog) (w:=w) (base:=base) ax2.F T;have GN:=asw (P:=l.prog) (w:=w) (base:=base) ax9.F T ax2 ay7 ayz;have GG:=axg (P:=l.prog) (w:=w) (base:=base) aym.F T ax2;have BT:=axh GT;have BN:=aue GN;have BG:=awm GG;have ORow:=ok_row (P:=l.prog) (w:=w) (base:=base) ayj.F T ax2 ax9 aym BT BN BG;have OS:=awc (P:=l.prog) (w:=w) (base:=base) ax7.F T ax2 BT;have OW:=at9 (P:=l.prog) (w:=w) (base:=base) ax5.F T;have OKt:=ok_kit (P:=l.prog) (w:=w) (base:=base) ayi.F T ax2 BT;have OM:=av9 (P:=l.prog) (w:=w) (base:=base) aye.F T ax2 ax9 ax7 ax5 BT BN OS OW;have OThere:=aul (P:=l.prog) (w:=w) (base:=base) (mg:=mg) ax6.F;have OGb:=ok_gb (P:=l.prog) (w:=w) (base:=base) ayo.F T;have OTold:=awz (P:=l.prog) (w:=w) (base:=base) ayk.F T ax6 ayo OThere OGb;have OPw:=ok_pw (P:=l.prog) (w:=w) (base:=base) aya.F T;have OCi:=ok_ci (P:=l.prog) (w:=w) (base:=base) (mg:=mg) ax3.F;have OWi:=ok_wi (P:=l.prog) (w:=w) (base:=base) ayh.F ax3 OCi;have OWo:=ok_wo (P:=l.prog) (w:=w) (base:=base) (mg:=mg) ayb.F;have GI:=aw3 (P:=l.prog) (w:=w) (base:=base) FIn O;have GTh:=aso (P:=l.prog) (w:=w) (base:=base) ax6.F O GI bI lI hoc;have GL:=atx (P:=l.prog) (w:=w) (base:=base) ayx.F T ax6 ax3 ayh ayb aya ayk GTh OCi OWi OWo OPw OTold;have GS:=axp (P:=l.prog) (w:=w) (base:=base) ayc.F O M ayx GL;have GA:=as3 (P:=l.prog) (w:=w) (base:=base) ayf.F O M;have OWof:=ok_wof (P:=l.prog) (w:=w) (base:=base) (mg:=mg) ax8.F;have OLk:=ok_lk (P:=l.prog) (w:=w) (base:=base) ayg.F ax8 OWof;have ORt:=asq (P:=l.prog) (w:=w) (base:=base) ayl.F T O ax2 ax8 ayg ayc ayf BT OWof OLk GS GA;exact ok_law F25 T ayn ax2 ayj aye ayi ayl (awu ayn.F T) BT ORow OM OKt ORt
theorem walk {l:PySem.W.OpenLaw}{q:Program}{loose:List Str}{XP:(Str->Option Value)->Heap->Prop}{YP:World->Heap->Prop}{d:DefRec}{K:Params->PySem.W.Frag}(hn:l.most=some 63) (hdf:d.params.defaults=[])
  (hY:∀ (w:World) (h:Heap),YP w h->(K w.params).In h)
  (F:∀ (w:World) (mg:Str->Option Value) (fa:Addr) (h:Heap),(K w.params).In h->h.Ns mainGlobals mg->mg d.name=some (.ref fa) ->∃ fd:FuncData,(∀ (s:Shared) (u:Value),BindsTo s fd ⟨[u],[]⟩ [("script",u)])/\∀ base:Heap,(K w.params).In base->base.Ns mainGlobals mg->FnOk l.prog w (K w.params) mg base CX0 7 fa fd ["script"] (atd (K w.params))) :
  PySem.W.WalkO q loose XP YP l.row.toRowW d [] (fun f vs=>PySem.call f vs) :=
 L2.walk_of (n:=63) (k:=7) (x := "script") (CX:=fun _=>CX0) (sp:=fun w=>atd (K w.params)) hn (by decide) hdf ⟨rfl,by decide,by decide⟩ hY F (fun _ _ a ns hl _ hS=>⟨a,ns,rfl,hS,hl,fun _=>rfl⟩) fun _ _ _ _ _ z=>z
end Lw
/-! names that the closing words would lay copies under which nothing needs -/
namespace PySem.W.Fast
theorem tw8418067825010364088:True:=⟨⟩
theorem tw10071825666364115732:True:=⟨⟩
theorem tw11549337475245072122:True:=⟨⟩
theorem tw6452960380727148301:True:=⟨⟩
theorem tw9708963019911094739:True:=⟨⟩
theorem tw7207035198719585012:True:=⟨⟩
theorem tw13328409632878011752:True:=⟨⟩
theorem tw5657603391923387286:True:=⟨⟩
theorem tw13671505106698334143:True:=⟨⟩
theorem tw10867177180547166534:True:=⟨⟩
theorem tw540167720769045953:True:=⟨⟩
theorem tw16278206063740378802:True:=⟨⟩
theorem tw6046101150103577217:True:=⟨⟩
theorem tw18220534693625992943:True:=⟨⟩
theorem tw2373640755986521436:True:=⟨⟩
theorem tw9924226437356433382:True:=⟨⟩
theorem tw5003582721382015195:True:=⟨⟩
theorem tw3157725200480164690:True:=⟨⟩
theorem tw16929466790911059291:True:=⟨⟩
theorem tw12340474761160926103:True:=⟨⟩
theorem tw13537001745067723341:True:=⟨⟩
theorem tw14076674868671940974:True:=⟨⟩
theorem tw4586300531844911506:True:=⟨⟩
theorem tw2325871491750323847:True:=⟨⟩
theorem tw15949400891701919448:True:=⟨⟩
theorem tw2990563676950415317:True:=⟨⟩
theorem tw12572981119588933581:True:=⟨⟩
theorem tw6509349819548183232:True:=⟨⟩
theorem tw3586252417301511369:True:=⟨⟩
theorem tw5980284018928855355:True:=⟨⟩
theorem tw4843456374587951163:True:=⟨⟩
theorem tw7095532266878372539:True:=⟨⟩
theorem tw4357955900140508787:True:=⟨⟩
theorem tw2682844391115902987:True:=⟨⟩
theorem tw1214002036289988664:True:=⟨⟩
theorem tw1220773912825493904:True:=⟨⟩
theorem tw10217542618052690568:True:=⟨⟩
theorem tw3847403577800841685:True:=⟨⟩
theorem tw5704944246508247328:True:=⟨⟩
theorem tw4092971039032678111:True:=⟨⟩
theorem tw2781137637937744359:True:=⟨⟩
theorem tw15149566449695014058:True:=⟨⟩
theorem tw5577890520285518422:True:=⟨⟩
theorem tw6999253145509182845:True:=⟨⟩
theorem tw1362970154806076420:True:=⟨⟩
theorem tw6199661770669151056:True:=⟨⟩
theorem tw12820273567327233346:True:=⟨⟩
theorem tw4865523280999166446:True:=⟨⟩
theorem tw7806428319263634777:True:=⟨⟩
theorem tw11519569576612022064:True:=⟨⟩
theorem tw497974238684261156:True:=⟨⟩
theorem tw4975948621365489832:True:=⟨⟩
theorem tw15059117633941487786:True:=⟨⟩
theorem tw16909003224004189792:True:=⟨⟩
theorem tw2492888454023643123:True:=⟨⟩
theorem tw11328822951553241297:True:=⟨⟩
theorem tw17701907006576979639:True:=⟨⟩
theorem tw9297097381334986844:True:=⟨⟩
theorem tw14765134896631617375:True:=⟨⟩
theorem tw17720933509311821068:True:=⟨⟩
theorem tw1510164929904937330:True:=⟨⟩
theorem tw6998489571677057306:True:=⟨⟩
theorem tw8516308906146737812:True:=⟨⟩
theorem tw8050709360098137413:True:=⟨⟩
theorem tw11918210244486398271:True:=⟨⟩
theorem tw7381920309810884028:True:=⟨⟩
theorem tw16463275659172706381:True:=⟨⟩
theorem tw14756864920768564420:True:=⟨⟩
theorem tw924030334893148010:True:=⟨⟩
end PySem.W.Fast
open PySem PySem.W PyProof.Rows
set_option maxRecDepth 100000 in
set_option maxHeartbeats 0 in
theorem PySem.Challenge.cw_laidcells_k11_rows_that_lack_names_holds : PySem.Challenge.rw_laidcells_k11_rows_that_lack_names.Holds := by
 w_on;o_law;k_head;(case hw=>w_witness2)
 k_fill
 refine Lw.walk (l:=PySem.Challenge.rw_laidcells_k11_rows_that_lack_names) rfl rfl (fun w h Y=>PySem.W.kIn_of Y) ?F
 case F =>
  intro w mg fa h KX G hmg;refine' Lw.all_mk KX G hmg ?_ ?_ ?_ ?_ ?_ ?_ ?_ ?_ ?_ ?_ ?_ ?_ ?_ ?_ ?_ ?_ ?_ ?_ ?_ ?_ ?_ ?_ ?_ ?_ ?_ ?_ ?_ ?_ ?_ ?_ ?_ ?_ ?_ ?_ ?_ ?_ ?_ ?_ ?_ ?_ ?_ ?_ ?_ ?_ ?_ ?_ ?_ ?_ ?_ ?_ ?_ ?_ ?_ ?_ ?_ ?_ ?_ ?_ ?_ ?_ ?_ ?_ ?_ ?_ ?_ ?_ ?_ ?_ ?_ ?_ ?_ ?_ ?_ ?_ ?_ ?_ ?_ ?_ ?_ ?_ ?_ ?_ ?_ ?_ ?_ ?_ ?_ ?_ ?_ ?_ ?_ ?_ ?_ ?_ ?_ ?_ ?_ ?_ ?_ ?_ ?_ ?_ ?_ ?_ ?_ ?_ ?_ ?_ ?_ ?_ ?_ ?_ ?_ ?_ ?_ ?_ ?_ ?_ ?_ ?_ ?_ ?xCE ?xCN ?xCA ?xCC ?xCL ?lkCN ?xfI ?lI ?cI ?kI ?hoc ?hbm ?xcN ?g1 ?g2 ?g3 ?kpCN ?faCN ?fbCN ?fcCN ?fdCN ?feCN ?ff ?fg ?sa ?fw ?exm ?kt3 ?ktv ?ktc ?xnn
  all_goals try first | k_is | (dsimp only[Lw.NsF,Lw.LkF];k_is)
  all_goals first | kernel_rfl | rfl
