import PyProof.Rows.All
import Wide.All
import OpenK.AllK
import Wide.FinOn
import Lean
import PyProof.EqAt
import PyProof.EqKinds
import PyProof.TupleCall
import PyProof.StationsW
import PyProof.Commute
import PyProof.ExcClass3
import PyProof.ExcInit
import OpenK.KCls
import OpenK.KMake
import PyProof.ExcArgsOwn
import PyProof.InstStoreFacts
import PyProof.MaxThree
import KE.KMinKey
import KE.KIntText
import PyProof.FString
import PyProof.FitsInt
import PyProof.DictUpdate
import PyProof.P3Eq
import PyProof.AutoListH
import PySem.Challenge.RW_laidcells_k02_no_cell
set_option Elab.async false
set_option linter.all false
set_option maxRecDepth 100000
noncomputable section
namespace L2
open PySem PySem.Spec PyProof.Rows
abbrev Key:=Sum Int Str
def aob:Key->Value->Bool
 | .inl k,v=>Value.isInt k v
 | .inr x,v=>Value.isStrOf x v
def keyH (w:World):Key->Int
 | .inl k=>hashInt k
 | .inr x=>hashStr w x
theorem abn:∀ {k:Key}{v:Value},aob k v=true->(∃ i t,k=Sum.inl i/\v=Value.int i t)\/(∃ x t,k=Sum.inr x/\v=Value.str x t)
 | .inl i,v,h=>by
  obtain⟨t,e⟩:=Value.isInt_shape (k:=i) (v:=v) h;exact .inl ⟨i,t,rfl,e⟩
 | .inr x,v,h=>by
  obtain⟨t,e⟩:=Value.isStrOf_shape (x:=x) (v:=v) h;exact .inr ⟨x,t,rfl,e⟩
theorem aoo (i:Int) (t:Tok):aob (.inl i) (.int i t)=true:=by simp[aob,Value.isInt]
theorem aqn (x:Str) (t:Tok):aob (.inr x) (.str x t)=true:=by simp[aob,Value.isStrOf]
theorem key_ll (a b:Int):decide ((Sum.inl a:Key)=Sum.inl b)=(a == b):=by
 by_cases e:a=b
 ·subst e;simp
 ·have h:¬ (Sum.inl a:Key)=Sum.inl b:=fun q=>e (Sum.inl.inj q)
  rw[decide_eq_false h];exact (beq_eq_false_iff_ne.mpr e).symm
theorem key_rr (a b:Str):decide ((Sum.inr a:Key)=Sum.inr b)=decide (a=b):=by
 by_cases e:a=b
 ·subst e;simp
 ·have h:¬ (Sum.inr a:Key)=Sum.inr b:=fun q=>e (Sum.inr.inj q)
  rw[decide_eq_false h,decide_eq_false e]
theorem key_lr (a:Int) (b:Str):decide ((Sum.inl a:Key)=Sum.inr b)=false:=decide_eq_false (fun q=>nomatch q)
theorem key_rl (a:Str) (b:Int):decide ((Sum.inr a:Key)=Sum.inl b)=false:=decide_eq_false (fun q=>nomatch q)
def abh (prog:Program) (w:World):PySem.KeyKind prog w Key where
 is:=aob
 hash:=keyH w
 inj:=fun v a b ha hb=>by
  rcases abn ha with⟨i,t,rfl,rfl⟩ | ⟨x,t,rfl,rfl⟩
  ·rcases abn hb with⟨j,u,rfl,e⟩ | ⟨y,u,rfl,e⟩
   ·injection e with e1 _;rw[e1]
   ·exact nomatch e
  ·rcases abn hb with⟨j,u,rfl,e⟩ | ⟨y,u,rfl,e⟩
   ·exact nomatch e
   ·injection e with e1 _;rw[e1]
 byValue:=fun k v h=>by
  rcases abn h with⟨i,t,rfl,rfl⟩ | ⟨x,t,rfl,rfl⟩<;>rfl
 pyHash:=fun hv h=>by
  rcases abn hv with⟨i,t,rfl,rfl⟩ | ⟨x,t,rfl,rfl⟩
  ·exact wpAny_pyHash_int h
  ·exact wpAny_pyHash_str h
 eqBool:=fun hu hv h=>by
  rcases abn hu with⟨i,t,rfl,rfl⟩ | ⟨x,t,rfl,rfl⟩
  ·rcases abn hv with⟨j,u,rfl,rfl⟩ | ⟨y,u,rfl,rfl⟩
   ·rw[key_ll] at h;exact wpAny_eqBool_int h
   ·rw[key_lr] at h;exact SeqAt.EqAt.int_str i t y u _ _ _ _ h
  ·rcases abn hv with⟨j,u,rfl,rfl⟩ | ⟨y,u,rfl,rfl⟩
   ·rw[key_rl] at h;exact SeqAt.EqAt.str_int x t j u _ _ _ _ h
   ·rw[key_rr] at h;exact wpAny_eqBool_str h
 «strs»:=fun k x t v h=>by
  rcases abn h with⟨i,u,rfl,e⟩ | ⟨y,u,rfl,e⟩
  ·exact nomatch e
  ·injection e with e1 _;subst e1;cases v<;>rfl
theorem alk (prog:Program) (w:World) (i:Int) (t:Tok):(abh prog w).is (.inl i) (.int i t)=true:=aoo i t
theorem agv (prog:Program) (w:World) (x:Str) (t:Tok):(abh prog w).is (.inr x) (.str x t)=true:=aqn x t
inductive V where
 | non | bl (b:Bool) | int (i:Int) | str (x:Str) | byt (b:Array UInt8) | flt (b:UInt64) | ref (a:Addr) | ty (n:String)
 deriving DecidableEq
def RelV:V->Value->Prop
 | .non,u=>u=Value.none
 | .bl b,u=>u=Value.bool b
 | .int i,u=>∃ t,u=Value.int i t
 | .str x,u=>∃ t,u=Value.str x t
 | .byt b,u=>∃ t,u=Value.bytes b t
 | .flt b,u=>∃ t,u=Value.float b t
 | .ref a,u=>u=Value.ref a
 | .ty n,u=>u=Value.type n
abbrev Vals:List V->List Value->Prop:=Paired RelV
theorem Vals.length {xs:List V}{us:List Value}(r:Vals xs us):xs.length=us.length:=Paired.length r
theorem Vals.get:∀ {xs:List V}{us:List Value}{i:Nat}{x:V},Vals xs us->xs[i]?=some x->∃ u,us[i]?=some u/\RelV x u
 | _,_,_,_,.nil,e=>by simp at e
 | _,_,0,_,.cons r _,e=>by simp at e;subst e;exact⟨_,rfl,r⟩
 | _,_,i+1,x,.cons _ t,e=>by
  obtain⟨u,h1,h2⟩:=Vals.get (i:=i) (x:=x) t (by simpa using e);exact⟨u,by simpa using h1,h2⟩
theorem Vals.set {x:V}{u:Value}(r:RelV x u):∀ {xs:List V}{us:List Value}(i:Nat),Vals xs us->Vals (xs.set i x) (us.set i u)
 | _,_,_,.nil=>.nil
 | _,_,0,.cons _ t=>.cons r t
 | _,_,i+1,.cons q t=>.cons q (Vals.set r i t)
theorem Vals.append:∀ {xs ys:List V}{us ws:List Value},Vals xs us->Vals ys ws->Vals (xs++ys) (us++ws)
 | _,_,_,_,.nil,s=>s
 | _,_,_,_,.cons r t,s=>.cons r (Vals.append t s)
theorem Vals.take:∀ {xs:List V}{us:List Value}(n:Nat),Vals xs us->Vals (xs.take n) (us.take n)
 | _,_,0,_=>.nil
 | _,_,_+1,.nil=>.nil
 | _,_,n+1,.cons r t=>.cons r (Vals.take n t)
theorem Vals.drop:∀ {xs:List V}{us:List Value}(n:Nat),Vals xs us->Vals (xs.drop n) (us.drop n)
 | _,_,0,r=>r
 | _,_,_+1,.nil=>.nil
 | _,_,n+1,.cons _ t=>Vals.drop n t
def RelO:Option V->Option Value->Prop
 | some v,some u=>RelV v u
 | none,none=>True
 | _,_=>False
def KV {κ:Type}:List (κ×V)->List (κ×Value)->Prop:=Paired fun (p:κ×V) (q:κ×Value)=>p.1=q.1/\RelV p.2 q.2
def kV:Key->V
 | .inl i=>.int i
 | .inr x=>.str x
inductive HO where
 | lst (xs:List V)
 | tup (xs:List V)
 | dK (kvs:List (Key×V)) | dT (kvs:List (List Key×V))
 | set (S:Int->Bool) (n:Nat)
 | ins (C dx:Addr) (fs:List (Str×V))
 | own (x:Addr)
 | xd (fs:List (Str×V))
 | met (f x:Addr)
 | rng (lo hi:Int)
 | frz (o:Obj) (u:HO)
 | tbl (ps:Array Value)
 | ext (φ:Heap->Prop)
abbrev Hp:=Addr->Option HO
def upd (H:Hp) (a:Addr) (o:HO):Hp:=fun b=>if b=a then some o else H b
theorem aaa {H:Hp}{a:Addr}{o:HO}:upd H a o a=some o:=by unfold upd;rw[if_pos rfl]
theorem aac {H:Hp}{a b:Addr}{o:HO}(h:b≠a):upd H a o b=H b:=by unfold upd;rw[if_neg h]
theorem ajl {H:Hp}{a:Addr}{o u:HO}:upd (upd H a o) a u=upd H a u:=by
 funext b;unfold upd;split<;>rfl
theorem aqv {H:Hp}{a b:Addr}{o u:HO}(h:H a=some o) (h':H b=some u) (d:o≠u):a≠b:=by
 intro e;subst e;rw[h] at h';exact d (Option.some.inj h')
theorem aab {H:Hp}{a b:Addr}{o:HO}(h:H a=some o) (h':H b=none):a≠b:=by
 intro e;subst e;rw[h] at h';cases h'
section
variable (P:Program) (w:World)
def af9 (h:Heap) (a:Addr) (items:Array Value):Prop:=IsTup h a items/\∃ o,h.get? a=some o/\o.dict=none
theorem af9.new (h:Heap) (items:Array Value):af9 (h.push { cls:=.type "tuple",data:=.seq items }) h.objs.size items:=⟨IsTup.new _ _,_,Heap.get?_push_size _ rfl,rfl⟩
def ab7 (H:Hp) (h:Heap) (a:Addr):HO->Prop
 | .lst xs=>xs.length<=sizeLine/\∃ (its:List Value) (n:Nat),Vals xs its/\h.get? a=some { cls:=.type "list",data:=.seq its.toArray n }
 | .tup xs=>xs.length<=sizeLine/\∃ its:List Value,Vals xs its/\af9 h a its.toArray
 | .dK kvs=>kvs.length<=sizeLine/\(a == sysModules)=false/\∃ vs,KV kvs vs/\h.DictOf (abh P w) a vs
 | .dT kvs=>kvs.length<=sizeLine/\(a == sysModules)=false/\∃ xs:List (List Key×Addr×Value),
   Paired (fun (p:List Key×V) (q:List Key×Addr×Value)=>p.1=q.1/\H q.2.1=some (.tup (p.1.map kV))/\RelV p.2 q.2.2) kvs xs /\
   ∃ o es ep,h.get? a=some o/\o.ExactDict/\o.data = .dict es ep/\es.toList=xs.map (entryOfKey (tupleKind (abh P w)))/\(xs.map (·.1)).Nodup
 | .set S n=>h.SetOf (intKind P w) a S n
 | .ins C dx fs=>H dx=some (.own a)/\fs.length<=1000/\dx≠a/\h.get? a=some (PySem.W.instObj C dx) /\
   ∃ mA,h.Ns1 dx mA/\(∀ f,RelO (fs.lookup f) (mA f))/\PySem.Within mA (fs.map (·.1))
 | .own _=>∃ o,h.get? a=some o
 | .xd fs=>∃ mA,h.Ns1 a mA/\∀ f,RelO (fs.lookup f) (mA f)
 | .rng lo hi=>∃ t u v,h.get? a=some { cls:=.type "range",data:=.fields #[.int lo t,.int hi u,.int 1 v] }
 | .frz o u=>h.get? a=some o/\ab7 H h a u
 | .tbl ps=>h.get? a=some { cls:=.none,data:=.fields ps }
 | .met f x=>h.get? a=some (PySem.W.methodObj (.ref f) (.ref x))
 | .ext φ=>φ h/\(∃ o,h.get? a=some o)/\∀ h1 h2:Heap,φ h1->(∀ o,h1.get? a=some o->h2.get? a=some o)->φ h2
def HOk (H:Hp) (h:Heap):Prop:=∀ a o,H a=some o->ab7 P w H h a o
end
section
variable {P:Program}{w:World}{H H':Hp}{h h':Heap}{a:Addr}{o:HO}
theorem ab7.lt (x:ab7 P w H h a o):a<h.objs.size:=by
 cases o with
 | lst xs=>obtain⟨_,_,_,_,e⟩:=x;exact Heap.lt_size e
 | tup xs=>obtain⟨_,_,_,p,_⟩:=x;exact p.lt
 | dK kvs=>obtain⟨_,_,_,_,o,_,_,e,_⟩:=x;exact Heap.lt_size e
 | dT kvs=>obtain⟨_,_,_,_,o,_,_,e,_⟩:=x;exact Heap.lt_size e
 | set S n=>obtain⟨o,_,_,_,e,_⟩:=x;exact Heap.lt_size e
 | ins C dx fs=>obtain⟨_,_,_,e,_⟩:=x;exact Heap.lt_size e
 | own y=>obtain⟨_,e⟩:=x;exact Heap.lt_size e
 | xd fs=>obtain⟨_,⟨_,_,_,e,_⟩,_⟩:=x;exact Heap.lt_size e
 | rng lo hi=>obtain⟨_,_,_,e⟩:=x;exact Heap.lt_size e
 | frz ob u=>obtain⟨e,_⟩:=x;exact Heap.lt_size e
 | tbl ps=>exact Heap.lt_size (show h.get? a=some _ from x)
 | met f y=>exact Heap.lt_size (show h.get? a=some _ from x)
 | ext φ=>obtain⟨_,⟨_,e⟩,_⟩:=x;exact Heap.lt_size e
theorem Paired.mapP {α β:Type}{F G:α->β->Prop}:∀ {l₁:List α}{l₂:List β},Paired F l₁ l₂->(∀ a b,F a b->G a b)->Paired G l₁ l₂
 | _,_,.nil,_=>.nil
 | _,_,.cons r t,f=>.cons (f _ _ r) (Paired.mapP t f)
theorem ab7.stay (x:ab7 P w H h a o) (k:∀ b u,(b=a\/H b=some (.own a))->h.get? b=some u->h'.get? b=some u)
  (ho:∀ b,H b=some (.own a)->H' b=some (.own a)) (ht:∀ b xs,H b=some (.tup xs)->H' b=some (.tup xs)):ab7 P w H' h' a o:=by
 induction o with
 | lst xs=>obtain⟨z,its,n,r,e⟩:=x;exact⟨z,its,n,r,k _ _ (.inl rfl) e⟩
 | tup xs=>obtain⟨z,its,r,⟨ob,e,c⟩,o2,e2,c2⟩:=x;exact⟨z,its,r,⟨ob,k _ _ (.inl rfl) e,c⟩,o2,k _ _ (.inl rfl) e2,c2⟩
 | dK kvs=>obtain⟨z,y,vs,r,ob,es,ep,e,c⟩:=x;exact⟨z,y,vs,r,ob,es,ep,k _ _ (.inl rfl) e,c⟩
 | dT kvs =>
  obtain⟨z,y,xs,r,ob,es,ep,e,c⟩:=x;exact⟨z,y,xs,Paired.mapP r fun p q z=>⟨z.1,ht _ _ z.2.1,z.2.2⟩,ob,es,ep,k _ _ (.inl rfl) e,c⟩
 | set S n=>obtain⟨ob,es,ep,t,e,c⟩:=x;exact⟨ob,es,ep,t,k _ _ (.inl rfl) e,c⟩
 | ins C dx fs =>
  obtain⟨d,z,ne,e,mA,⟨od,es,ep,e2,c⟩,r⟩:=x;exact⟨ho _ d,z,ne,k _ _ (.inl rfl) e,mA,⟨od,es,ep,k _ _ (.inr d) e2,c⟩,r⟩
 | own y=>obtain⟨ob,e⟩:=x;exact⟨ob,k _ _ (.inl rfl) e⟩
 | xd fs=>obtain⟨mA,⟨od,es,ep,e,c⟩,r⟩:=x;exact⟨mA,⟨od,es,ep,k _ _ (.inl rfl) e,c⟩,r⟩
 | rng lo hi=>obtain⟨t,u,v,e⟩:=x;exact⟨t,u,v,k _ _ (.inl rfl) e⟩
 | frz ob u ih=>obtain⟨e,q⟩:=x;exact⟨k _ _ (.inl rfl) e,ih q⟩
 | tbl ps =>
  have e:h.get? a=some { cls:=.none,data:=.fields ps }:=x;show h'.get? a=some { cls:=.none,data:=.fields ps };exact k a _ (.inl rfl) e
 | met f y =>
  have e:h.get? a=some (PySem.W.methodObj (.ref f) (.ref y)):=x;show h'.get? a=some (PySem.W.methodObj (.ref f) (.ref y));exact k a _ (.inl rfl) e
 | ext φ=>obtain⟨p,⟨o,e⟩,st⟩:=x;exact⟨st _ _ p fun o q=>k _ _ (.inl rfl) q,⟨o,k _ _ (.inl rfl) e⟩,st⟩
theorem HOk.lt (x:HOk P w H h) (e:H a=some o):a<h.objs.size:=(x a o e).lt
theorem HOk.fresh (x:HOk P w H h) (e:h.objs.size<=a):H a=none:=by
 cases q:H a with
 | none=>rfl
 | some u=>exact absurd (Nat.lt_of_lt_of_le (x.lt q) e) (Nat.lt_irrefl _)
theorem HOk.kept (x:HOk P w H h) (k:∀ b u,h.get? b=some u->h'.get? b=some u):HOk P w H h':=fun a o e =>
 (x a o e).stay (fun b u _ q=>k b u q) (fun _ q=>q) fun _ _ q=>q
theorem HOk.laid (x:HOk P w H h) (k:∀ b u,h.get? b=some u->h'.get? b=some u) (hp:h.objs.size<=a) (new:ab7 P w (upd H a o) h' a o):HOk P w (upd H a o) h':=fun b u e=>by
 have hn:=x.fresh hp;by_cases hb:b=a
 ·subst hb;rw[aaa] at e;cases e;exact new
 ·rw[aac hb] at e;exact (x b u e).stay (fun c v _ q=>k c v q) (fun c q=>by rw[aac (aab q hn)];exact q) fun c xs q=>by rw[aac (aab q hn)];exact q
end
def Rd (H:Hp) (a:Addr) (u:HO):Prop:=H a=some u\/∃ o,H a=some (.frz o u)
theorem Rd.ok {P:Program}{w:World}{H:Hp}{h:Heap}{a:Addr}{u:HO}(r:Rd H a u) (x:HOk P w H h):ab7 P w H h a u:=by
 rcases r with r | ⟨o,r⟩
 ·exact x a u r
 ·obtain⟨_,q⟩:=x a _ r;exact q
def Mut:Option HO->Prop
 | some (.lst _)=>True
 | some (.dK _)=>True
 | some (.dT _)=>True
 | some (.set _ _)=>True
 | some (.ins _ _ _)=>True
 | some (.ext _)=>True
 | _=>False
section
variable {P:Program}{w:World}{H:Hp}{h h':Heap}{x e:Addr}{o':HO}
theorem HOk.write (ok:HOk P w H h) (mu:Mut (H x)) (he:e=x\/H e=some (.own x)) (k:∀ b u,b≠e->h.get? b=some u->h'.get? b=some u) (heo:∃ u,h'.get? e=some u)
  (new:ab7 P w (upd H x o') h' x o'):HOk P w (upd H x o') h':=fun b u q=>by
 have nown:∀ c y,H c=some (.own y)->c≠x:=fun c y r z=>by subst z;rw[r] at mu;exact mu
 have ntup:∀ c xs,H c=some (.tup xs)->c≠x:=fun c xs r z=>by subst z;rw[r] at mu;exact mu
 by_cases hb:b=x
 ·subst hb;rw[aaa] at q;cases q;exact new
 ·rw[aac hb] at q;by_cases hbe:b=e
  ·have q':H b=some (.own x):=by
    rcases he with z | z
    ·exact absurd (hbe.trans z) hb
    ·rw[hbe];exact z
   rw[q] at q';cases q';obtain⟨v,hv⟩:=heo;exact⟨v,by rw[hbe];exact hv⟩
  ·refine (ok b u q).stay (fun c v hc r=>k c v ?_ r) (fun c r=>by rw[aac (nown c b r)];exact r) fun c xs r=>by rw[aac (ntup c xs r)];exact r
   rcases hc with rfl | hc
   ·exact hbe
   ·rintro rfl;rcases he with z | z
    ·exact nown c b hc z
    ·rw[hc] at z;cases z;exact hb rfl
end
structure Un (fs ex:List Addr) (H H':Hp) (h h':Heap):Prop where
 keep:∀ b o,h.get? b=some o->H b=none->b∉fs->b∉ex->h'.get? b=some o
 slot:∀ b o,h.get? b=some o->H b=none->b∈fs->b∉ex->∃ sl,h'.get? b=some { o with slots:=sl }
 free:∀ b o,h.get? b=some o->H b=none->b∉ex->H' b=none
 there:∀ b o,h.get? b=some o->b∉ex->∃ o',h'.get? b=some o'
 tups:∀ b xs,H b=some (.tup xs)->H' b=some (.tup xs)
 frzs:∀ b o u,H b=some (.frz o u)->H' b=some (.frz o u)
 tbls:∀ b ps,H b=some (.tbl ps)->∃ more,H' b=some (.tbl (ps++more))
section
variable {fs fs' ex ex':List Addr}{H H1 H2:Hp}{h h1 h2 h':Heap}{a x e:Addr}{o:HO}
theorem Un.any (u:Un fs ex H H1 h h1){b:Addr}{ob:Obj}(q:h.get? b=some ob) (n:H b=none) (hx:b∉ex):∃ sl,h1.get? b=some { ob with slots:=sl }:=by
 by_cases hb:b∈fs
 ·exact u.slot b ob q n hb hx
 ·exact⟨ob.slots,u.keep b ob q n hb hx⟩
theorem Un.kept (k:∀ b u,h.get? b=some u->h'.get? b=some u):Un fs ex H H h h' :=
 ⟨fun b ob q _ _ _=>k b ob q,fun b ob q _ _ _=>⟨ob.slots,k b ob q⟩,fun _ _ _ n _=>n,fun b ob q _=>⟨ob,k b ob q⟩,fun _ _ q=>q,fun _ _ _ q=>q,fun _ ps q=>⟨#[],by rw[q];simp⟩⟩
theorem Un.refl:Un fs ex H H h h:=Un.kept fun _ _ q=>q
theorem Un.laid (k:∀ b u,h.get? b=some u->h'.get? b=some u) (hp:h.objs.size<=a) (hn:H a=none):Un fs ex H (upd H a o) h h' where
 keep:=fun b u q _ _ _=>k b u q
 slot:=fun b u q _ _ _=>⟨u.slots,k b u q⟩
 free:=fun b u q n _=>by rw[aac (Nat.ne_of_lt (Nat.lt_of_lt_of_le (Heap.lt_size q) hp))];exact n
 there:=fun b u q _=>⟨u,k b u q⟩
 tups:=fun b xs q=>by rw[aac (aab q hn)];exact q
 frzs:=fun b u xs q=>by rw[aac (aab q hn)];exact q
 tbls:=fun b ps q=>⟨#[],by rw[aac (aab q hn),q];simp⟩
theorem Un.write (mu:Mut (H x)) (he:e=x\/H e=some (.own x)) (k:∀ b u,b≠e->h.get? b=some u->h'.get? b=some u) (heo:∃ u,h'.get? e=some u):Un fs ex H (upd H x o) h h':=by
 have hx:∀ b,H b=none->b≠x:=fun b n z=>by subst z;rw[n] at mu;exact mu
 have hb:∀ b,H b=none->b≠e:=fun b n z=>by
  subst z;rcases he with r | r
  ·exact hx b n r
  ·rw[n] at r;cases r
 have hm:∀ b u,H b=some u->¬ Mut (some u)->b≠x:=fun b u q nm z=>by subst z;rw[q] at mu;exact nm mu
 refine⟨fun b u q n _ _=>k b u (hb b n) q,fun b u q n _ _=>⟨u.slots,k b u (hb b n) q⟩,fun b u q n _=>by rw[aac (hx b n)];exact n,fun b u q _=>?_,
  fun b xs q=>by rw[aac (hm b _ q fun z=>z)];exact q,fun b u xs q=>by rw[aac (hm b _ q fun z=>z)];exact q,fun b ps q=>⟨#[],by rw[aac (hm b _ q fun z=>z),q];simp⟩⟩
 by_cases hbe:b=e
 ·subst hbe;exact heo
 ·exact⟨u,k b u hbe q⟩
end
def trk (h:Heap) (H:Hp):List Addr:=(List.range h.objs.size).filter fun a=>(H a).isSome
def hidT (h:Heap) (H:Hp):Heap:=PySem.W.hideAll h (trk h H)
theorem ap5 (h:Heap) (H:Hp):(hidT h H).objs.size=h.objs.size:=PySem.W.hideAll_size _ _
theorem asi {h:Heap}{H:Hp}{b:Addr}{o:Obj}(e:h.get? b=some o) (n:H b=none):(hidT h H).get? b=some o :=
 PySem.W.hideAll_get _ e fun hm=>by
  have q:(H b).isSome=true:=(List.mem_filter.mp hm).2;rw[n] at q;simp at q
theorem avw {h:Heap}{H:Hp}{b:Addr}{o:Obj}(e:(hidT h H).get? b=some o):h.get? b=some o/\H b=none:=by
 have e':h.get? b=some o:=PySem.W.of_hideAll (trk h H) e;refine⟨e',?_⟩;cases q:H b with
 | none=>rfl
 | some x =>
  have hm:b∈trk h H:=List.mem_filter.mpr ⟨List.mem_range.mpr (Heap.lt_size e'),by simp[q]⟩;have z:(hidT h H).get? b=none:=PySem.W.hideAll_none (trk h H) hm;rw[z] at e;cases e
structure Mod (K:PySem.W.Frag) (mg:Str->Option Value) (base:Heap):Prop where
 kin:K.In base
 glob:base.Ns mainGlobals mg
 blt:∃ mb,base.Ns builtinsNs mb/\∀ x:Str,x ≠ "__name__" -> mb x=bootBuiltins x
 nolimit:base.NoLimit
/-- the context: a def's body (or a comprehension's block) running. base: fixed through the whole law;s₀,H₀: the entry;outer: the frames whose slots others may change (a def's callers);stack: all frames that run;
 ex: iterators that were made ahead of the entry and are walked here (a comprehension's);fn: the names whose cells were made at the entry (a def: all;a comprehension's block: its own);calm: not within an except suite;pn: pins that every state bears;xe: what is wanted of an exception that leaves the code -/
structure Cx where
 prog:Program
 w:World
 K:PySem.W.Frag
 mg:Str->Option Value
 base:Heap
 A:Around
 N:List Str
 s₀:Shared
 H₀:Hp
 env:Env
 outer:List Env
 stack:List Env
 ex:List Addr
 fn:Str->Bool
 calm:Bool
 pn:List (Addr×Obj)
 xe:Value->Shared->Prop
def frs (l:List Env):List Addr:=l.filterMap (·.frame)
abbrev Cx.fs (X:Cx):List Addr:=frs X.outer
def Vis (sc:Scope) (x:Str):Prop:=sc.names.lookup x=some .local\/sc.names.lookup x=some .cell\/sc.names.lookup x=some .free
def Loc (sc:Scope) (x:Str):Prop:=sc.names.lookup x=some .local\/sc.names.lookup x=some .cell
def Look (env:Env) (h:Heap) (m:Str->Option Value) (x:Str) (u:Value):Prop :=
 (env.kindOf x=some .local/\m x=some u)\/((env.kindOf x=some .cell\/env.kindOf x=some .free)/\∃ c,env.cells.lookup x=some c/\h.IsCell c (some u))
structure Cx.Ok (X:Cx):Prop where
 mod:Mod X.K X.mg X.base
 kind:X.env.scope.kind = .function
 glob:X.env.globals=mainGlobals
 blt:X.env.builtins=builtinsNs
 above:X.s₀.heap.objs.size<=X.env.locals
 inj:∀ x y c,X.env.cells.lookup x=some c->X.env.cells.lookup y=some c->x=y
 has:∀ x,(X.env.kindOf x=some .cell\/X.env.kindOf x=some .free)->∃ c,X.env.cells.lookup x=some c
 cab:∀ x c,X.fn x=true->X.env.cells.lookup x=some c->X.s₀.heap.objs.size<=c
 hd:X.calm=true->X.A.handled=none
 frames:X.A.frames=some X.stack
 stk:X.stack=X.outer\/(X.stack=X.env::X.outer/\X.env.frame=some X.env.locals)
 exf:∀ b∈X.ex,b≠X.env.locals/\∀ x c,X.env.cells.lookup x=some c->c≠b
 bs:∀ b o,X.base.get? b=some o->X.s₀.heap.get? b=some o/\X.H₀ b=none
 bsz:X.base.objs.size<=X.s₀.heap.objs.size
 noex:∀ b o,X.base.get? b=some o->b∉X.ex
 exfs:∀ b∈X.ex,b∉X.fs
 funs:X.s₀.heap.FunFrames X.base X.outer
 frf:∀ b∈X.fs,X.H₀ b=none
structure Inv (X:Cx) (pins:List (Addr×Obj)) (σ:List (Option V)) (H:Hp) (s:Shared):Prop where
 ok:X.Ok
 os:s.os=X.s₀.os
 bare:AllBare s.gens
 base:Un X.fs X.ex X.H₀ H X.s₀.heap s.heap
 loc:∃ m,s.heap.Ns X.env.locals m/\∀ (i:Nat) (x:Str) (v:V),X.N[i]?=some x->σ[i]?=some (some v)->Vis X.env.scope x->∃ u,RelV v u/\Look X.env s.heap m x u
 cell:∀ x c,X.env.cells.lookup x=some c->∃ v,s.heap.IsCell c v
 free:H X.env.locals=none
 freeC:∀ x c,X.env.cells.lookup x=some c->H c=none
 pin:∀ p∈X.pn++pins,s.heap.get? p.1=some p.2/\H p.1=none/\p.1≠X.env.locals/\p.1∉X.fs/\∀ v,p.2.data ≠ .cell v
 hok:HOk X.prog X.w H s.heap
 len:σ.length=X.N.length
section
variable {X:Cx}{pins:List (Addr×Obj)}{σ:List (Option V)}{H H':Hp}{s:Shared}{h':Heap}
theorem Cx.Ok.nofr (ok:X.Ok){b:Addr}{o:Obj}(e:X.base.get? b=some o):b∉X.fs:=fun hb=>by
 have:=(ok.funs.mem hb).1;rw[e] at this;cases this
theorem Inv.bs (I:Inv X pins σ H s):∀ b o,X.base.get? b=some o->s.heap.get? b=some o/\H b=none:=fun b o e =>
 ⟨I.base.keep b o (I.ok.bs b o e).1 (I.ok.bs b o e).2 (I.ok.nofr e) (I.ok.noex b o e),I.base.free b o (I.ok.bs b o e).1 (I.ok.bs b o e).2 (I.ok.noex b o e)⟩
theorem Inv.bk (I:Inv X pins σ H s):∀ b o,X.base.get? b=some o->s.heap.get? b=some o:=fun b o e=>(I.bs b o e).1
theorem Inv.mod (I:Inv X pins σ H s):Mod X.K X.mg X.base:=I.ok.mod
theorem Inv.kIn (I:Inv X pins σ H s):X.K.In s.heap:=I.ok.mod.kin.keeps I.bk
theorem Inv.lt (I:Inv X pins σ H s):X.env.locals<s.heap.objs.size:=let ⟨_,hn,_⟩:=I.loc;hn.lt
theorem Inv.sz (I:Inv X pins σ H s):X.s₀.heap.objs.size<=s.heap.objs.size:=Nat.le_trans I.ok.above (Nat.le_of_lt I.lt)
theorem Inv.nofs (I:Inv X pins σ H s){a:Addr}(h:s.heap.objs.size<=a):a∉X.fs:=fun hb=>by
 obtain⟨_,o,ho,_⟩:=I.ok.funs.mem hb;exact absurd (Nat.lt_of_lt_of_le (Heap.lt_size ho) (Nat.le_trans I.sz h)) (Nat.lt_irrefl _)
theorem Inv.cne (I:Inv X pins σ H s):∀ x c,X.env.cells.lookup x=some c->c≠X.env.locals:=fun x c e z=>by
 obtain⟨v,o,ho,hd⟩:=I.cell x c e;obtain⟨m,⟨o',es,ep,ho',hd',_⟩,_⟩:=I.loc;rw[z,ho'] at ho;cases ho;rw[hd'] at hd;cases hd
theorem Inv.funs (I:Inv X pins σ H s):s.heap.FunFrames X.base X.outer:=by
 have all:∀ (l:List Env),(∀ b∈frs l,b∈X.fs)->X.s₀.heap.FunFrames X.base l->s.heap.FunFrames X.base l:=by
  intro l;induction l with
  | nil=>intro _ _;trivial
  | cons env r ih =>
   intro hs hl;obtain⟨hk,⟨L,o,hf,hn,ho,hd⟩,hr⟩:=hl;have hL:L∈X.fs:=hs L (by unfold frs;rw[List.filterMap_cons,hf];exact List.mem_cons_self);obtain⟨sl,e⟩:=I.base.slot L o ho (I.ok.frf L hL) hL fun z=>I.ok.exfs L z hL
   exact⟨hk,⟨L,_,hf,hn,e,hd⟩,ih (fun b hb=>hs b (by unfold frs;rw[List.filterMap_cons,hf];exact List.mem_cons_of_mem _ hb)) hr⟩
 exact all X.outer (fun _ hb=>hb) I.ok.funs
theorem Inv.stack (I:Inv X pins σ H s):s.heap.FunFrames X.base X.stack:=by
 rcases I.ok.stk with e | ⟨e,hf⟩
 ·rw[e];exact I.funs
 ·rw[e];obtain⟨m,hn,_⟩:=I.loc;refine .cons (by rw[I.ok.kind];decide) hf hn ?_ I.funs;exact Heap.get?_none_of_le (Nat.le_trans I.ok.bsz I.ok.above)
theorem Inv.stkSub (I:Inv X pins σ H s):∀ b∈frs X.stack,b∈X.env.locals::X.fs:=fun b hb=>by
 rcases I.ok.stk with e | ⟨e,hf⟩
 ·rw[e] at hb;exact List.mem_cons_of_mem _ hb
 ·rw[e] at hb;unfold frs at hb;rw[List.filterMap_cons,hf] at hb;exact hb
theorem Inv.stkFree (I:Inv X pins σ H s):∀ b∈frs X.stack,H b=none:=fun b hb=>by
 rcases List.mem_cons.mp (I.stkSub b hb) with e | hb
 ·rw[e];exact I.free
 ·obtain⟨_,o,ho,_⟩:=I.ok.funs.mem hb;exact I.base.free b o ho (I.ok.frf b hb) fun z=>I.ok.exfs b z hb
theorem Inv.step {g':Array GenState}{t':Nat}{d':Drawn}{ch:List Addr}(I:Inv X pins σ H s)
  (hch:∀ b∈ch,(b∈X.ex\/X.s₀.heap.objs.size<=b)/\b≠X.env.locals/\(∀ x c,X.env.cells.lookup x=some c->c≠b)/\∀ p∈X.pn++pins,p.1≠b)
  (keep:∀ b o,b≠X.env.locals->b∉X.fs->b∉ch->s.heap.get? b=some o->H b=none->h'.get? b=some o)
  (slot:∀ b o,b≠X.env.locals->b∈X.fs->b∉ch->s.heap.get? b=some o->H b=none->∃ sl,h'.get? b=some { o with slots:=sl }) (free:∀ b o,b∉ch->s.heap.get? b=some o->H b=none->H' b=none)
  (there:∀ b o,b∉ch->s.heap.get? b=some o->∃ o',h'.get? b=some o')
  (tups:∀ b xs,H b=some (.tup xs)->H' b=some (.tup xs)) (frzs:∀ b o u,H b=some (.frz o u)->H' b=some (.frz o u)) (tbls:∀ b ps,H b=some (.tbl ps)->∃ more,H' b=some (.tbl (ps++more)))
  (ns:∀ m,s.heap.Ns X.env.locals m->h'.Ns X.env.locals m) (hok:HOk X.prog X.w H' h') (hg:AllBare g') :
  Inv X pins σ H' { s with heap:=h',gens:=g',drawn:=d',toks:=t' }:=by
 have neL:∀ b o,X.s₀.heap.get? b=some o->b≠X.env.locals:=fun b o e=>Nat.ne_of_lt (Nat.lt_of_lt_of_le (Heap.lt_size e) I.ok.above)
 have neC:∀ b o,X.s₀.heap.get? b=some o->b∉X.ex->b∉ch:=fun b o e hx hb=>by
  rcases (hch b hb).1 with z | z
  ·exact hx z
  ·exact absurd (Nat.lt_of_lt_of_le (Heap.lt_size e) z) (Nat.lt_irrefl _)
 have cellK:∀ x c,X.env.cells.lookup x=some c->∀ v,s.heap.IsCell c v->h'.IsCell c v:=fun x c e v ⟨o,ho,hd⟩=>by
  have nch:c∉ch:=fun z=>(hch c z).2.2.1 x c e rfl
  by_cases hc:c∈X.fs
  ·obtain⟨sl,q⟩:=slot c o (I.cne x c e) hc nch ho (I.freeC x c e);exact⟨_,q,hd⟩
  ·exact⟨o,keep c o (I.cne x c e) hc nch ho (I.freeC x c e),hd⟩
 refine⟨I.ok,I.os,hg,⟨fun b o e n hb hx=>?_,fun b o e n hb hx=>?_,fun b o e n hx=>?_,fun b o e hx=>?_,fun b xs e=>tups b xs (I.base.tups b xs e),fun b o xs e=>frzs b o xs (I.base.frzs b o xs e),fun b ps e=>?_⟩,?_,fun x c e=>?_,?_,fun x c e=>?_,fun p hp=>?_,hok,I.len⟩
 ·exact keep b o (neL b o e) hb (neC b o e hx) (I.base.keep b o e n hb hx) (I.base.free b o e n hx)
 ·obtain⟨sl,e1⟩:=I.base.slot b o e n hb hx;obtain⟨sl',e2⟩:=slot b _ (neL b o e) hb (neC b o e hx) e1 (I.base.free b o e n hx);exact⟨sl',e2⟩
 ·obtain⟨o',e1⟩:=I.base.there b o e hx;exact free b o' (neC b o e hx) e1 (I.base.free b o e n hx)
 ·obtain⟨o',e1⟩:=I.base.there b o e hx;exact there b o' (neC b o e hx) e1
 ·obtain⟨m1,e1⟩:=I.base.tbls b ps e;obtain⟨m2,e2⟩:=tbls b _ e1;exact⟨m1++m2,by rw[e2,Array.append_assoc]⟩
 ·obtain⟨m,hn,hl⟩:=I.loc;refine⟨m,ns m hn,fun i x v e1 e2 e3=>?_⟩;obtain⟨u,r,l⟩:=hl i x v e1 e2 e3;refine⟨u,r,?_⟩;rcases l with l | ⟨k,c,e,z⟩
  ·exact .inl l
  ·exact .inr ⟨k,c,e,cellK x c e _ z⟩
 ·obtain⟨v,z⟩:=I.cell x c e;exact⟨v,cellK x c e v z⟩
 ·obtain⟨m,⟨o,_,_,ho,_⟩,_⟩:=I.loc;exact free _ o (fun z=>(hch _ z).2.1 rfl) ho I.free
 ·obtain⟨v,o,ho,hd⟩:=I.cell x c e;exact free c o (fun z=>(hch c z).2.2.1 x c e rfl) ho (I.freeC x c e)
 ·obtain⟨e,n,ne,nf,d⟩:=I.pin p hp;have nch:p.1∉ch:=fun z=>(hch p.1 z).2.2.2 p hp rfl
  exact⟨keep p.1 p.2 ne nf nch e n,free p.1 p.2 nch e n,ne,nf,d⟩
theorem Inv.un {t':Nat}(I:Inv X pins σ H s) (u:Un X.fs [] H H' s.heap h') (hok:HOk X.prog X.w H' h'):Inv X pins σ H' { s with heap:=h',toks:=t' }:=by
 obtain⟨m,⟨o,es,ep,ho,r⟩,_⟩:=id I.loc;obtain⟨sl,hL⟩:=u.any ho I.free (by simp);exact I.step (g':=s.gens) (d':=s.drawn) (ch:=[]) (fun _ z=>nomatch z) (fun b o _ hb _ e n=>u.keep b o e n hb (by simp)) (fun b o _ hb _ e n=>u.slot b o e n hb (by simp)) (fun b o _ e n=>u.free b o e n (by simp)) (fun b o _ e=>u.there b o e (by simp)) u.tups u.frzs u.tbls (fun m' hm=>by
  obtain⟨o',es',ep',ho',r'⟩:=hm;rw[ho] at ho';cases ho';exact⟨_,es',ep',hL,r'⟩) hok I.bare
theorem Inv.call {g':Array GenState}{t':Nat}{d':Drawn}{ch:List Addr}(I:Inv X pins σ H s) (u:Un (frs X.stack) ch H H' s.heap h') (hok:HOk X.prog X.w H' h') (hg:AllBare g')
  (hch:∀ b∈ch,(b∈X.ex\/X.s₀.heap.objs.size<=b)/\b≠X.env.locals/\(∀ x c,X.env.cells.lookup x=some c->c≠b)/\∀ p∈X.pn++pins,p.1≠b) :
  Inv X pins σ H' { s with heap:=h',gens:=g',drawn:=d',toks:=t' }:=by
 obtain⟨m,⟨o,es,ep,ho,r⟩,_⟩:=id I.loc;obtain⟨sl,hL⟩:=u.any ho I.free fun z=>(hch _ z).2.1 rfl
 exact I.step (ch:=ch) hch (fun b o hL hb hc e n=>u.keep b o e n (fun z=>(List.mem_cons.mp (I.stkSub b z)).elim hL hb) hc) (fun b o _ _ hc e n=>u.any e n hc) (fun b o hc e n=>u.free b o e n hc) (fun b o hc e=>u.there b o e hc) u.tups u.frzs u.tbls (fun m' hm=>by
  obtain⟨o',es',ep',ho',r'⟩:=hm;rw[ho] at ho';cases ho';exact⟨_,es',ep',hL,r'⟩) hok hg
theorem Inv.turned {t':Nat}{it:Addr}(I:Inv X pins σ H s) (k:∀ b o,b≠it->s.heap.get? b=some o->h'.get? b=some o) (hn:H it=none) (hL:it≠X.env.locals)
  (h1:it∈X.ex\/X.s₀.heap.objs.size<=it) (h2:∀ x c,X.env.cells.lookup x=some c->c≠it) (h3:∀ p∈X.pn++pins,p.1≠it):Inv X pins σ H { s with heap:=h',toks:=t' }:=by
 have nit:∀ b u,H b=some u->b≠it:=fun b u e z=>by rw[z,hn] at e;cases e
 refine I.step (g':=s.gens) (d':=s.drawn) (ch:=[it]) (fun b hb=>?_) (fun b o _ _ hc e _=>k b o (fun z=>hc (by simp[z])) e) (fun b o _ _ hc e _=>⟨o.slots,k b o (fun z=>hc (by simp[z])) e⟩) (fun _ _ _ _ n=>n)
  (fun b o hc e=>⟨o,k b o (fun z=>hc (by simp[z])) e⟩) (fun _ _ e=>e) (fun _ _ _ e=>e) (fun b ps e=>⟨#[],by rw[e];simp⟩) (fun m hm=>?_) (fun b u e=>?_) I.bare
 ·have e:b=it:=by simpa using hb
  subst e;exact⟨h1,hL,h2,h3⟩
 ·obtain⟨o,es,ep,ho,r⟩:=hm;exact⟨o,es,ep,k _ o (Ne.symm hL) ho,r⟩
 ·refine (I.hok b u e).stay (fun c v hc q=>k c v ?_ q) (fun _ q=>q) fun _ _ q=>q
  rcases hc with z | z
  ·rw[z];exact nit b u e
  ·exact nit c _ z
theorem Inv.tok (I:Inv X pins σ H s) (t:Nat):Inv X pins σ H { s with toks:=t }:=I.un (h':=s.heap) (t':=t) Un.refl I.hok
theorem Inv.kept {t':Nat}(I:Inv X pins σ H s) (k:∀ b u,s.heap.get? b=some u->h'.get? b=some u):Inv X pins σ H { s with heap:=h',toks:=t' }:=I.un (Un.kept k) (I.hok.kept k)
theorem Inv.laid {a:Addr}{o:HO}{t':Nat}(I:Inv X pins σ H s) (k:∀ b u,s.heap.get? b=some u->h'.get? b=some u) (hp:s.heap.objs.size<=a) (new:ab7 X.prog X.w (upd H a o) h' a o) :
  Inv X pins σ (upd H a o) { s with heap:=h',toks:=t' }:=I.un (Un.laid k hp (I.hok.fresh hp)) (I.hok.laid k hp new)
theorem Inv.write {x e:Addr}{o:HO}{t':Nat}(I:Inv X pins σ H s) (mu:Mut (H x)) (he:e=x\/H e=some (.own x)) (k:∀ b u,b≠e->s.heap.get? b=some u->h'.get? b=some u) (heo:∃ u,h'.get? e=some u)
  (new:ab7 X.prog X.w (upd H x o) h' x o):Inv X pins σ (upd H x o) { s with heap:=h',toks:=t' }:=I.un (Un.write mu he k heo) (I.hok.write mu he k heo new)
theorem Inv.pins_of {pins':List (Addr×Obj)}(I:Inv X pins σ H s) (h:∀ p∈pins',s.heap.get? p.1=some p.2/\H p.1=none/\p.1≠X.env.locals/\p.1∉X.fs/\∀ v,p.2.data ≠ .cell v):Inv X pins' σ H s :=
 ⟨I.ok,I.os,I.bare,I.base,I.loc,I.cell,I.free,I.freeC,fun p hp=>(List.mem_append.mp hp).elim (fun z=>I.pin p (List.mem_append_left _ z)) (h p),I.hok,I.len⟩
theorem ai7 {N:List Str}(hN:N.Nodup){i j:Nat}{x:Str}(a:N[i]?=some x) (b:N[j]?=some x):i=j:=by
 obtain⟨h1,e1⟩:=List.getElem?_eq_some_iff.mp a;obtain⟨h2,e2⟩:=List.getElem?_eq_some_iff.mp b;exact (List.getElem_inj hN).mp (e1.trans e2.symm)
theorem ak3 {M:Model}{A:Around}{E:Value->Shared->Prop}{i:Nat}{x:Str}{v:V}{u:Value}{Q:Unit->Shared->Prop}(I:Inv X pins σ H s) (hN:X.N.Nodup) (hi:X.N[i]?=some x) (hx:Loc X.env.scope x) (r:RelV v u)
  (h:∀ s',Inv X pins (σ.set i (some v)) H s'->(∃ a,Heap.SameBut a s.heap s'.heap/\(a=X.env.locals\/X.env.cells.lookup x=some a))->Q () s') (hf:X.fn x=true\/X.env.scope.names.lookup x=some .local:=by first | exact .inl rfl | exact .inr rfl | assumption):wpAny M A (storeName X.env x u) Q E s:=by
 obtain⟨m,hn,hl⟩:=id I.loc;have hcls:(X.env.scope.kind == .class||(X.env.scope.kind == .module&&X.env.locals != X.env.globals))=false:=by rw[I.ok.kind];rfl
 have hiσ:i<σ.length:=by rw[I.len];exact (List.getElem?_eq_some_iff.mp hi).1
 have cne:=I.cne;have tracked:∀ {a:Addr} {h':Heap},(∃ o,s.heap.get? a=some o/\H a=none)->Heap.SameBut a s.heap h'->HOk X.prog X.w H h':=fun {a h'} ha hs b ob e=>by
  obtain⟨_,_,hfree⟩:=ha;refine (I.hok b ob e).stay (fun c w' hc q=>(hs.2 c ?_).trans q) (fun _ q=>q) fun _ _ q=>q
  rintro rfl;rcases hc with rfl | hc
  ·rw[hfree] at e;cases e
  ·rw[hfree] at hc;cases hc
 rcases hx with hk | hk
 ·refine wpAny_storeName_local hk hn (fun h' hn' hs=>?_) hcls;obtain⟨oL,_,_,hoL,_⟩:=id hn;refine h _ ⟨I.ok,I.os,I.bare,⟨fun b o e n hb hx=>?_,fun b o e n hb hx=>?_,I.base.free,fun b o e hx=>?_,I.base.tups,I.base.frzs,I.base.tbls⟩,⟨_,hn',fun j y v' e1 e2 e3=>?_⟩,fun y c e=>?_,I.free,I.freeC,fun p hp=>?_,tracked ⟨oL,hoL,I.free⟩ hs,by simpa using I.len⟩ ⟨_,hs,.inl rfl⟩
  ·exact (hs.2 b (Nat.ne_of_lt (Nat.lt_of_lt_of_le (Heap.lt_size e) I.ok.above))).trans (I.base.keep b o e n hb hx)
  ·obtain⟨sl,e1⟩:=I.base.slot b o e n hb hx;exact⟨sl,(hs.2 b (Nat.ne_of_lt (Nat.lt_of_lt_of_le (Heap.lt_size e) I.ok.above))).trans e1⟩
  ·obtain⟨o',e1⟩:=I.base.there b o e hx;exact⟨o',(hs.2 b (Nat.ne_of_lt (Nat.lt_of_lt_of_le (Heap.lt_size e) I.ok.above))).trans e1⟩
  ·by_cases hj:j=i
   ·subst hj;rw[hi] at e1;cases e1;rw[List.getElem?_set_self hiσ] at e2;cases e2;exact⟨u,r,.inl ⟨hk,by simp⟩⟩
   ·rw[List.getElem?_set_ne (Ne.symm hj)] at e2;obtain⟨u',r',q⟩:=hl j y v' e1 e2 e3;refine⟨u',r',?_⟩;rcases q with⟨k,e⟩ | ⟨k,c,e,z⟩
    ·refine .inl ⟨k,?_⟩;have:y≠x:=fun e=>hj (ai7 hN e1 (e▸hi))
     simp[this,e]
    ·exact .inr ⟨k,c,e,z.sameBut hs (cne y c e)⟩
  ·obtain⟨w',z⟩:=I.cell y c e;exact⟨w',z.sameBut hs (cne y c e)⟩
  ·obtain⟨e,n,ne,nf,d⟩:=I.pin p hp;exact⟨(hs.2 p.1 ne).trans e,n,ne,nf,d⟩
 ·have hfn:X.fn x=true:=by
   rcases hf with z | z
   ·exact z
   ·rw[z] at hk;cases hk
  obtain⟨c,hc⟩:=I.ok.has x (.inl hk);obtain⟨w',z⟩:=I.cell x c hc;refine wpAny_storeName_cell I.ok.kind hk hc z (fun h' hc' hs=>?_);obtain⟨oc,hoc,hocd⟩:=id z;refine h { s with heap:=h' } ⟨I.ok,I.os,I.bare,⟨fun b o e n hb hx=>?_,fun b o e n hb hx=>?_,I.base.free,fun b o e hx=>?_,I.base.tups,I.base.frzs,I.base.tbls⟩,⟨m,hn.sameBut hs (Ne.symm (cne x c hc)),fun j y v' e1 e2 e3=>?_⟩,fun y c' e=>?_,I.free,I.freeC,fun p hp=>?_,tracked ⟨oc,hoc,I.freeC x c hc⟩ hs,by simpa using I.len⟩ ⟨c,hs,.inr hc⟩
  ·exact (hs.2 b (Nat.ne_of_lt (Nat.lt_of_lt_of_le (Heap.lt_size e) (I.ok.cab x c hfn hc)))).trans (I.base.keep b o e n hb hx)
  ·obtain⟨sl,e1⟩:=I.base.slot b o e n hb hx;exact⟨sl,(hs.2 b (Nat.ne_of_lt (Nat.lt_of_lt_of_le (Heap.lt_size e) (I.ok.cab x c hfn hc)))).trans e1⟩
  ·obtain⟨o',e1⟩:=I.base.there b o e hx;exact⟨o',(hs.2 b (Nat.ne_of_lt (Nat.lt_of_lt_of_le (Heap.lt_size e) (I.ok.cab x c hfn hc)))).trans e1⟩
  ·by_cases hj:j=i
   ·subst hj;rw[hi] at e1;cases e1;rw[List.getElem?_set_self hiσ] at e2;cases e2;exact⟨u,r,.inr ⟨.inl hk,c,hc,hc'⟩⟩
   ·rw[List.getElem?_set_ne (Ne.symm hj)] at e2;obtain⟨u',r',q⟩:=hl j y v' e1 e2 e3;refine⟨u',r',?_⟩;rcases q with q | ⟨k,c',e,z'⟩
    ·exact .inl q
    ·refine .inr ⟨k,c',e,z'.sameBut hs ?_⟩;rintro rfl;exact hj (ai7 hN e1 (I.ok.inj _ _ _ e hc▸hi))
  ·by_cases hcc:c'=c
   ·subst hcc;exact⟨_,hc'⟩
   ·obtain⟨w2,z2⟩:=I.cell y c' e;exact⟨w2,z2.sameBut hs hcc⟩
  ·obtain⟨e,n,ne,nf,d⟩:=I.pin p hp;refine⟨(hs.2 p.1 ?_).trans e,n,ne,nf,d⟩;intro q;rw[q,hoc] at e;have q':oc=p.2:=Option.some.inj e;exact d w' (by rw[← q'];exact hocd)
theorem agn {M:Model}{A:Around}{E:Value->Shared->Prop}{i:Nat}{x:Str}{v:V}{u:Value}{Q:Unit->Shared->Prop}(I:Inv X pins σ H s) (hN:X.N.Nodup) (hi:X.N[i]?=some x) (hx:Loc X.env.scope x) (r:RelV v u)
  (h:∀ s',Inv X pins (σ.set i (some v)) H s'->Q () s') (hf:X.fn x=true\/X.env.scope.names.lookup x=some .local:=by first | exact .inl rfl | exact .inr rfl | assumption):wpAny M A (storeName X.env x u) Q E s :=
 ak3 I hN hi hx r (fun s' I' _=>h s' I') hf
theorem Inv.call' {s':Shared}{ch:List Addr}(I:Inv X pins σ H s) (ho:s'.os=s.os) (u:Un (frs X.stack) ch H H' s.heap s'.heap) (hok:HOk X.prog X.w H' s'.heap) (hg:AllBare s'.gens)
  (hch:∀ b∈ch,(b∈X.ex\/X.s₀.heap.objs.size<=b)/\b≠X.env.locals/\(∀ x c,X.env.cells.lookup x=some c->c≠b)/\∀ p∈X.pn++pins,p.1≠b):Inv X pins σ H' s':=by
 obtain⟨h',g',d',t',o'⟩:=s';have e:o'=s.os:=ho;subst e;exact I.call (g':=g') (t':=t') (d':=d') u hok hg hch
end
abbrev XK:=Value->Option Addr->Hp->Prop
abbrev St:=List (Option V)
abbrev VK:=V->Hp->Prop
abbrev TE:=St->Hp->VK->Prop
abbrev TT:=St->Hp->(Bool->Hp->Prop)->Prop
abbrev TA:=St->Hp->(List V->Hp->Prop)->Prop
structure Ends where
 nx:St->Hp->Prop
 rt:VK
 bk:St->Hp->Prop:=fun _ _=>False
 ct:St->Hp->Prop:=fun _ _=>False
abbrev TS:=Ends->St->Hp->Prop
def EP (X:Cx) (pins:List (Addr×Obj)) (σ:St) (Q:VK) (u:Value) (s':Shared):Prop:=∃ v H',Inv X pins σ H' s'/\RelV v u/\Q v H'
def TP (X:Cx) (pins:List (Addr×Obj)) (σ:St) (Q:Bool->Hp->Prop) (b:Bool) (s':Shared):Prop:=∃ H',Inv X pins σ H' s'/\Q b H'
def AP (X:Cx) (pins:List (Addr×Obj)) (σ:St) (Q:List V->Hp->Prop) (us:List Value) (s':Shared):Prop:=∃ vs H',Inv X pins σ H' s'/\Vals vs us/\Q vs H'
def SP (X:Cx) (pins:List (Addr×Obj)) (D:Ends) (f:Flow) (s':Shared):Prop :=
 match f with
 | .next=>∃ σ' H',Inv X pins σ' H' s'/\D.nx σ' H'
 | .brk=>∃ σ' H',Inv X pins σ' H' s'/\D.bk σ' H'
 | .cont=>∃ σ' H',Inv X pins σ' H' s'/\D.ct σ' H'
 | .ret u=>∃ v σ' H',Inv X pins σ' H' s'/\RelV v u/\D.rt v H'
def PE (X:Cx) (e:Expr) (t:TE):Prop :=
 ∀ (pins:List (Addr×Obj)) (s:Shared) (σ:St) (H:Hp) (Q:VK),Inv X pins σ H s->t σ H Q->wpAny (model X.prog X.w) X.A (eval e X.env) (EP X pins σ Q) X.xe s
def PT (X:Cx) (e:Expr) (t:TT):Prop :=
 ∀ (pins:List (Addr×Obj)) (s:Shared) (σ:St) (H:Hp) (Q:Bool->Hp->Prop),Inv X pins σ H s->t σ H Q->wpAny (model X.prog X.w) X.A (isTrue e X.env (eval e X.env)) (TP X pins σ Q) X.xe s
def PW (X:Cx) (e:Expr) (t:TT):Prop :=
 ∀ (whole:Sem Value) (pins:List (Addr×Obj)) (s:Shared) (σ:St) (H:Hp) (Q:Bool->Hp->Prop),Inv X pins σ H s->t σ H Q->wpAny (model X.prog X.w) X.A (isTrue e X.env whole) (TP X pins σ Q) X.xe s
theorem PW.pt {X:Cx}{e:Expr}{t:TT}(h:PW X e t):PT X e t:=h _
def PA (X:Cx) (es:List Expr) (t:TA):Prop :=
 ∀ (pos:Pos) (pins:List (Addr×Obj)) (s:Shared) (σ:St) (H:Hp) (Q:List V->Hp->Prop),Inv X pins σ H s->t σ H Q->wpAny (model X.prog X.w) X.A (spliced (backTo pos (starEach es X.env))) (AP X pins σ Q) X.xe s
def PS (X:Cx) (st:Stmt) (t:TS):Prop :=
 ∀ (pins:List (Addr×Obj)) (s:Shared) (σ:St) (H:Hp) (D:Ends),Inv X pins σ H s->t D σ H->wpAny (model X.prog X.w) X.A (exec st X.env) (SP X pins D) X.xe s
def PSs (X:Cx) (st:List Stmt) (t:TS):Prop :=
 ∀ (pins:List (Addr×Obj)) (s:Shared) (σ:St) (H:Hp) (D:Ends),Inv X pins σ H s->t D σ H->wpAny (model X.prog X.w) X.A (execs st X.env) (SP X pins D) X.xe s
theorem thn {α:Type}{t:Sem α}{Q Q':α->Shared->Prop}{M:Model}{A:Around}{E:Value->Shared->Prop}{s:Shared}(h:wpAny M A t Q E s) (hQ:∀ a s,Q a s->Q' a s):wpAny M A t Q' E s:=wpAny_mono h hQ fun _ _ x=>x
section
variable {X:Cx}
def tVar (i:Nat):TE:=fun σ H Q=>∃ v,σ[i]?=some (some v)/\Q v H
def tC (v:V):TE:=fun _ H Q=>Q v H
theorem ap2 {i:Nat}{x:Str}{pos:Pos}(hN:X.N[i]?=some x) (hv:Vis X.env.scope x) (hd:(x == ("__debug__" : Str))=false:=by decide) (hcd:(x == ("__classdict__" : Str))=false:=by decide):PE X (.Name x pos) (tVar i):=by
 intro pins s σ H Q I h;obtain⟨v,e,h⟩:=h;obtain⟨m,hn,hl⟩:=I.loc;obtain⟨u,r,l⟩:=hl i x v hN e hv;have fin:EP X pins σ Q u s:=⟨v,H,I,r,h⟩;rcases l with⟨hk,hm⟩ | ⟨hk,c,hc,hcell⟩
 ·exact wpAny_Name (wpAny_loadName_local I.ok.kind hk hn hm fin) hd
 ·rcases hk with hk | hk
  ·exact wpAny_Name (wpAny_loadName_cell I.ok.kind hk hc hcell fin) hd
  ·exact wpAny_Name (wpAny_loadName_free I.ok.kind hk hc hcell fin hcd) hd
theorem aag {i j pos}:PE X (.Constant (.int i) j pos) (tC (.int i)):=fun _ _ _ H _ I h=>wpAny_Constant_int ⟨.int i,H,I.tok _,⟨_,rfl⟩,h⟩
theorem ahq {b j pos}:PE X (.Constant (.bool b) j pos) (tC (.bl b)):=fun _ _ _ H _ I h=>Constant_bool ⟨.bl b,H,I,rfl,h⟩
theorem aqh {j pos}:PE X (.Constant .none j pos) (tC .non):=fun _ _ _ H _ I h=>Constant_none ⟨.non,H,I,rfl,h⟩
theorem abe {x j pos}:PE X (.Constant (.str x) j pos) (tC (.str x)):=fun _ _ _ H _ I h=>Calls.Constant_str ⟨.str x,H,I.tok _,⟨_,rfl⟩,h⟩
def Gl (X:Cx) (x:Str):Prop:=X.env.kindOf x=some .globalImplicit
theorem aec {E:Value->Shared->Prop}{pins:List (Addr×Obj)}{s:Shared}{σ:St}{H:Hp}{x:Str}{u:Value}{pos:Pos}{Q:Value->Shared->Prop}(I:Inv X pins σ H s) (hg:Gl X x) (hm:X.mg x=some u) (h:Q u s)
  (hd:(x == ("__debug__" : Str))=false:=by decide):wpAny (model X.prog X.w) X.A (eval (.Name x pos) X.env) Q E s :=
 Calls.Name_function_global I.ok.kind hg (Calls.loadGlobal_global (by rw[I.ok.glob];exact I.mod.glob.keeps I.bk) hm h) hd
theorem ah7 {E:Value->Shared->Prop}{pins:List (Addr×Obj)}{s:Shared}{σ:St}{H:Hp}{x:Str}{u:Value}{pos:Pos}{Q:Value->Shared->Prop}(I:Inv X pins σ H s) (hg:Gl X x) (hm:X.mg x=none) (hv:bootBuiltins x=some u) (h:Q u s)
  (hn:x ≠ "__name__" := by decide) (hd:(x == ("__debug__" : Str))=false:=by decide):wpAny (model X.prog X.w) X.A (eval (.Name x pos) X.env) Q E s:=by
 obtain⟨mb,h1,h2⟩:=I.mod.blt;exact Calls.Name_function_global I.ok.kind hg (Calls.loadGlobal_builtin (by rw[I.ok.glob];exact I.mod.glob.keeps I.bk) hm (by rw[I.ok.blt];exact h1.keeps I.bk) ((h2 x hn).trans hv) h) hd
theorem aef {x:Str}{v:V}{u:Value}{pos:Pos}(hg:Gl X x) (hm:X.mg x=some u) (r:RelV v u) (hd:(x == ("__debug__" : Str))=false:=by decide):PE X (.Name x pos) (tC v) :=
 fun _ _ _ H _ I h=>aec I hg hm ⟨v,H,I,r,h⟩ hd
theorem aor {x:Str}{v:V}{u:Value}{pos:Pos}(hg:Gl X x) (hm:X.mg x=none) (hv:bootBuiltins x=some u) (r:RelV v u) (hn:x ≠ "__name__" := by decide) (hd:(x == ("__debug__" : Str))=false:=by decide):PE X (.Name x pos) (tC v) :=
 fun _ _ _ H _ I h=>ah7 I hg hm hv ⟨v,H,I,r,h⟩ hn hd
variable {a b:Expr}{ta tb:TE}{pos:Pos}
def PC (X:Cx) (op:CmpOp) (a b:Expr) (t:TE):Prop :=
 ∀ (pins:List (Addr×Obj)) (s:Shared) (σ:St) (H:Hp) (Q:VK),Inv X pins σ H s->t σ H Q ->
  wpAny (model X.prog X.w) X.A (eval a X.env) (fun v s₁=>wpAny (model X.prog X.w) X.A (eval b X.env) (fun u s₂=>wpAny (model X.prog X.w) X.A (compareOp op v u) (EP X pins σ Q) X.xe s₂) X.xe s₁) X.xe s
theorem amw (b:Expr){op:CmpOp}(h:op ≠ .In) (h2:op ≠ .NotIn):behindInMarks op b=false:=by
 have e1:(op == CmpOp.In)=false:=by cases op<;>first | rfl | exact absurd rfl h
 have e2:(op == CmpOp.NotIn)=false:=by cases op<;>first | rfl | exact absurd rfl h2
 cases b<;>simp[behindInMarks,e1,e2]
def tIsN (ta:TE):TE:=fun σ H Q=>ta σ H fun x H1=>Q (.bl (decide (x = .non))) H1
theorem RelV.none_iff {x:V}{v:Value}(r:RelV x v):(v == Value.none)=decide (x = .non):=by
 cases x with
 | non=>cases r;rfl
 | bl _=>cases r;rfl
 | int _=>obtain⟨t,rfl⟩:=r;rfl
 | str _=>obtain⟨t,rfl⟩:=r;rfl
 | byt _=>obtain⟨t,rfl⟩:=r;rfl
 | flt _=>obtain⟨t,rfl⟩:=r;rfl
 | ref _=>cases r;rfl
 | ty _=>cases r;rfl
theorem at3 {j pos'}(ha:PE X a ta):PC X .Is a (.Constant .none j pos') (tIsN ta):=by
 intro pins s σ H Q I h;refine thn (ha pins s σ H _ I h) fun v s1 ⟨x,H1,I1,r1,q1⟩=>?_
 exact Constant_none (is_none_gen ⟨.bl _,H1,I1,by rw[r1.none_iff];rfl,q1⟩)
def tB (t:TE):TT:=fun σ H Q=>t σ H fun x H1=>∃ c,x = .bl c/\Q c H1
theorem pe_cmp {op:CmpOp}{t:TE}(h:PC X op a b t) (h1:behindInMarks op b=false:=by first | exact amw _ (by decide) (by decide) | rfl):PE X (.Compare a [op] [b] pos) t:=fun pins s σ H Q I hw=>wpAny_Compare1 (h pins s σ H Q I hw) h1
theorem pt_cmp {op:CmpOp}{t:TE}(h:PC X op a b t) (h1:behindInMarks op b=false:=by first | exact amw _ (by decide) (by decide) | rfl):PT X (.Compare a [op] [b] pos) (tB t):=by
 intro pins s σ H Q I hw;refine wpAny_isTrue_Compare1 (thn (h pins s σ H _ I hw) fun v s1 h1=>thn h1 fun u s2 h2=>thn h2 fun c s3 ⟨x,H1,I1,r1,q1⟩=>?_) h1;obtain⟨d,rfl,q⟩:=q1;cases r1;exact wpAny_truthy_bool ⟨H1,I1,q⟩
theorem ac1 {e:Expr}{t:TE}(h:PE X e t) (he:∀ whole,isTrue e X.env whole=(do let v ← whole;standAt e.pos;holding [v] (truthy v)):=by intro _;rfl):PT X e (tB t):=by
 intro pins s σ H Q I hw;refine isTrue_plain (thn (h pins s σ H _ I hw) fun v s1 ⟨x,H1,I1,r1,q1⟩=>?_) (he _);obtain⟨d,rfl,q⟩:=q1;cases r1;exact wpAny_truthy_bool ⟨H1,I1,q⟩
variable {tA tB':TT}{rest:List Expr}
def tAnd (t u:TT):TT:=fun σ H Q=>t σ H fun c H1=>if c=true then u σ H1 Q else Q false H1
def tOr (t u:TT):TT:=fun σ H Q=>t σ H fun c H1=>if c=true then Q true H1 else u σ H1 Q
def tNot (t:TT):TT:=fun σ H Q=>t σ H fun c H1=>Q (!c) H1
theorem ap9 (ha:PT X a tA):PW X (.BoolOp .And [a] pos) tA:=by
 intro wh pins s σ H Q I h;refine isTrue_and (thn (ha pins s σ H Q I h) fun c s1 e=>?_);cases c with
 | true=>exact isTrue_and_nil e
 | false=>exact e
theorem aik (ha:PT X a tA):PW X (.BoolOp .Or [a] pos) tA:=by
 intro wh pins s σ H Q I h;refine isTrue_or (thn (ha pins s σ H Q I h) fun c s1 e=>?_);cases c with
 | false=>exact isTrue_or_nil e
 | true=>exact e
theorem atn (ha:PT X a tA) (hb:PW X (.BoolOp .And (b::rest) pos) tB'):PW X (.BoolOp .And (a::b::rest) pos) (tAnd tA tB'):=by
 intro wh pins s σ H Q I h;refine isTrue_and (thn (ha pins s σ H _ I h) fun c s1 ⟨H1,I1,q1⟩=>?_);cases c with
 | true=>exact hb wh pins s1 σ H1 Q I1 q1
 | false=>exact⟨H1,I1,q1⟩
theorem ak9 (ha:PT X a tA) (hb:PW X (.BoolOp .Or (b::rest) pos) tB'):PW X (.BoolOp .Or (a::b::rest) pos) (tOr tA tB'):=by
 intro wh pins s σ H Q I h;refine isTrue_or (thn (ha pins s σ H _ I h) fun c s1 ⟨H1,I1,q1⟩=>?_);cases c with
 | true=>exact⟨H1,I1,q1⟩
 | false=>exact hb wh pins s1 σ H1 Q I1 q1
theorem add (ha:PT X a tA):PT X (.UnaryOp .Not a pos) (tNot tA):=by
 intro pins s σ H Q I h;exact isTrue_not (ha pins s σ H (fun c H1=>Q (!c) H1) I h)
def tAndV (ta tb:TE):TE:=fun σ H Q=>ta σ H fun x H1=>∃ c,x = .bl c/\if c=true then tb σ H1 Q else Q (.bl false) H1
def tOrV (ta tb:TE):TE:=fun σ H Q=>ta σ H fun x H1=>∃ c,x = .bl c/\if c=true then Q (.bl true) H1 else tb σ H1 Q
theorem ah6 {op}{t:TE}(h:PE X a t):PE X (.BoolOp op [a] pos) t:=fun pins s σ H Q I hw=>BoolOp_one (h pins s σ H Q I hw)
theorem af8 (ha:PE X a ta) (hb:PE X (.BoolOp .And (b::rest) pos) tb):PE X (.BoolOp .And (a::b::rest) pos) (tAndV ta tb):=by
 intro pins s σ H Q I h;refine BoolOp_and (thn (ha pins s σ H _ I h) fun v s1 ⟨x,H1,I1,r1,q1⟩=>?_);obtain⟨c,rfl,q1⟩:=q1;cases r1;refine wpAny_truthy_bool ?_;cases c with
 | true=>exact hb pins s1 σ H1 Q I1 q1
 | false=>exact⟨.bl false,H1,I1,rfl,q1⟩
theorem pe_or (ha:PE X a ta) (hb:PE X (.BoolOp .Or (b::rest) pos) tb):PE X (.BoolOp .Or (a::b::rest) pos) (tOrV ta tb):=by
 intro pins s σ H Q I h;refine BoolOp_or (thn (ha pins s σ H _ I h) fun v s1 ⟨x,H1,I1,r1,q1⟩=>?_);obtain⟨c,rfl,q1⟩:=q1;cases r1;refine wpAny_truthy_bool ?_;cases c with
 | false=>exact hb pins s1 σ H1 Q I1 q1
 | true=>exact⟨.bl true,H1,I1,rfl,q1⟩
end
def SqL (K:PySem.W.Frag) (H:Hp) (a:Addr) (xs:List V):Prop :=
 Rd H a (.lst xs) \/
  ∃ (o:Obj) (its:Array Value) (n:Nat),K.lookup a=some o/\o.cls = .type "list" /\ o.dict=none/\o.data = .seq its n/\its.size<=sizeLine/\Vals xs its.toList
def SqT (K:PySem.W.Frag) (H:Hp) (a:Addr) (xs:List V):Prop :=
 Rd H a (.tup xs) \/
  ∃ (o:Obj) (its:Array Value) (n:Nat),K.lookup a=some o/\o.cls = .type "tuple" /\ o.data = .seq its n/\its.size<=sizeLine/\Vals xs its.toList
def absV:Value->Option V
 | .none=>some .non
 | .bool b=>some (.bl b)
 | .int i _=>some (.int i)
 | .str x _=>some (.str x)
 | .bytes b _=>some (.byt b)
 | .float b _=>some (.flt b)
 | .ref a=>some (.ref a)
 | .type n=>some (.ty n)
 | _=>none
theorem RelV.abs {x:V}{u:Value}(r:RelV x u):absV u=some x:=by
 cases x with
 | non=>cases r;rfl
 | bl _=>cases r;rfl
 | int _=>obtain⟨t,rfl⟩:=r;rfl
 | str _=>obtain⟨t,rfl⟩:=r;rfl
 | byt _=>obtain⟨t,rfl⟩:=r;rfl
 | flt _=>obtain⟨t,rfl⟩:=r;rfl
 | ref _=>cases r;rfl
 | ty _=>cases r;rfl
theorem RelV.inj {x y:V}{u:Value}(r:RelV x u) (q:RelV y u):x=y:=Option.some.inj (r.abs.symm.trans q.abs)
theorem Vals.inj:∀ {xs ys:List V}{us:List Value},Vals xs us->Vals ys us->xs=ys
 | _,_,_,.nil,.nil=>rfl
 | _,_,_,.cons r t,.cons r' t'=>by rw[r.inj r',Vals.inj t t']
section
variable {X:Cx}{pins:List (Addr×Obj)}{σ:St}{H:Hp}{s:Shared}{a:Addr}{xs ys:List V}
theorem SqL.of {K:PySem.W.Frag}(h:H a=some (.lst xs)):SqL K H a xs:=.inl (.inl h)
theorem SqT.of {K:PySem.W.Frag}(h:H a=some (.tup xs)):SqT K H a xs:=.inl (.inl h)
theorem Inv.list (I:Inv X pins σ H s) (h:SqL X.K H a xs):∃ its:List Value,Vals xs its/\PlainL s.heap a its.toArray/\xs.length<=sizeLine:=by
 rcases h with h | ⟨o,its,n,hk,hc,hd,hs,hz,r⟩
 ·obtain⟨z,its,n,r,e⟩:=h.ok I.hok;exact⟨its,r,⟨_,n,e,rfl,rfl,rfl⟩,z⟩
 ·refine⟨its.toList,r,⟨o,n,I.kIn a o hk,hc,hd,by simpa using hs⟩,?_⟩;have e:=r.length;simp only[Array.length_toList] at e;omega
theorem Inv.tuple (I:Inv X pins σ H s) (h:SqT X.K H a xs):∃ its:List Value,Vals xs its/\IsTup s.heap a its.toArray/\xs.length<=sizeLine:=by
 rcases h with h | ⟨o,its,n,hk,hc,hs,hz,r⟩
 ·obtain⟨z,its,r,p,_⟩:=h.ok I.hok;exact⟨its,r,p,z⟩
 ·refine⟨its.toList,r,⟨o,I.kIn a o hk,hc,n,by simpa using hs⟩,?_⟩;have e:=r.length;simp only[Array.length_toList] at e;omega
theorem Inv.list_inj (I:Inv X pins σ H s) (h:SqL X.K H a xs) (h':SqL X.K H a ys):xs=ys:=by
 obtain⟨its,r,⟨o,n,e,_,_,d⟩,_⟩:=I.list h;obtain⟨its',r',⟨o',n',e',_,_,d'⟩,_⟩:=I.list h';rw[e] at e';cases e';rw[d] at d';injection d' with d1 _;have:its=its':=by simpa using congrArg Array.toList d1
 subst this;exact r.inj r'
theorem Inv.tuple_inj (I:Inv X pins σ H s) (h:SqT X.K H a xs) (h':SqT X.K H a ys):xs=ys:=by
 obtain⟨its,r,⟨o,e,_,n,d⟩,_⟩:=I.tuple h;obtain⟨its',r',⟨o',e',_,n',d'⟩,_⟩:=I.tuple h';rw[e] at e';cases e';rw[d] at d';injection d' with d1 _;have:its=its':=by simpa using congrArg Array.toList d1
 subst this;exact r.inj r'
end
abbrev Cx.wish (X:Cx) (E:Value->Shared->Prop):Cx:={ X with xe:=E }
abbrev Cx.nox (X:Cx):Cx:=X.wish fun _ _=>False
theorem Cx.Ok.wish {X:Cx}(ok:X.Ok) (E:Value->Shared->Prop):(X.wish E).Ok :=
 ⟨ok.mod,ok.kind,ok.glob,ok.blt,ok.above,ok.inj,ok.has,ok.cab,ok.hd,ok.frames,ok.stk,ok.exf,ok.bs,ok.bsz,ok.noex,ok.exfs,ok.funs,ok.frf⟩
theorem Cx.Ok.unwish {X:Cx}{E:Value->Shared->Prop}(ok:(X.wish E).Ok):X.Ok :=
 ⟨ok.mod,ok.kind,ok.glob,ok.blt,ok.above,ok.inj,ok.has,ok.cab,ok.hd,ok.frames,ok.stk,ok.exf,ok.bs,ok.bsz,ok.noex,ok.exfs,ok.funs,ok.frf⟩
section
variable {X:Cx}{pins:List (Addr×Obj)}{σ:St}{H:Hp}{s:Shared}{E:Value->Shared->Prop}
theorem Inv.wish (I:Inv X pins σ H s) (E:Value->Shared->Prop):Inv (X.wish E) pins σ H s:=⟨I.ok.wish E,I.os,I.bare,I.base,I.loc,I.cell,I.free,I.freeC,I.pin,I.hok,I.len⟩
theorem Inv.unwish (I:Inv (X.wish E) pins σ H s):Inv X pins σ H s:=⟨I.ok.unwish,I.os,I.bare,I.base,I.loc,I.cell,I.free,I.freeC,I.pin,I.hok,I.len⟩
theorem SP.unwish {D:Ends}{f:Flow}{s':Shared}(h:SP (X.wish E) pins D f s'):SP X pins D f s':=by
 cases f with
 | next=>obtain⟨σ',H',I,q⟩:=h;exact⟨σ',H',I.unwish,q⟩
 | brk=>obtain⟨σ',H',I,q⟩:=h;exact⟨σ',H',I.unwish,q⟩
 | cont=>obtain⟨σ',H',I,q⟩:=h;exact⟨σ',H',I.unwish,q⟩
 | ret u=>obtain⟨v,σ',H',I,r,q⟩:=h;exact⟨v,σ',H',I.unwish,r,q⟩
theorem PSs.nox {st:List Stmt}{t:TS}(h:PSs X.nox st t):PSs X st t:=fun pins s σ H D I hw =>
 wpAny_mono (h pins s σ H D (I.wish _) hw) (fun _ _ q=>q.unwish) fun _ _ z=>False.elim z
end
section
variable {X:Cx}{st:Stmt}{rest:List Stmt}{t u:TS}{e:Expr}{te:TE}{pos:Pos}
def tNext:TS:=fun D σ H=>D.nx σ H
def tSeq (t u:TS):TS:=fun D σ H=>t { D with nx:=u D } σ H
theorem abi:PSs X [] tNext:=fun _ _ σ H _ I h=>wpAny_execs_nil ⟨σ,H,I,h⟩
theorem aai (h1:PS X st t) (h2:PSs X rest u):PSs X (st::rest) (tSeq t u):=by
 intro pins s σ H D I h;refine wpAny_execs_cons (thn (h1 pins s σ H { D with nx:=u D } I h) fun f s1 q=>?_);cases f with
 | next =>
  obtain⟨σ',H',I',q⟩:=q;exact h2 pins s1 σ' H' D I' q
 | ret v=>exact q
 | brk=>exact q
 | cont=>exact q
theorem aah (h1:PS X st t):PSs X [st] t:=by
 intro pins s σ H D I h;refine wpAny_execs_cons (thn (h1 pins s σ H D I h) fun f s1 q=>?_);cases f with
 | next=>exact wpAny_execs_nil q
 | ret v=>exact q
 | brk=>exact q
 | cont=>exact q
theorem Inv.quiet {pins:List (Addr×Obj)}{σ:St}{H:Hp}{s:Shared}(I:Inv X pins σ H s):interactive X.env=false:=by simp[interactive,I.ok.kind]
def tDrop (te:TE):TS:=fun D σ H=>te σ H fun _ H1=>D.nx σ H1
theorem adu (he:PE X e te) (hs:swapsWith e none pos.line X.env=pure false:=by rfl):PS X (.Expr e pos) (tDrop te):=by
 intro pins s σ H D I h;exact wpAny_Expr_any (thn (he pins s σ H _ I h) fun v s1 ⟨x,H1,I1,r1,q1⟩=>⟨σ,H1,I1,q1⟩) I.quiet hs
def tRet (te:TE):TS:=fun D σ H=>te σ H D.rt
theorem aa6 (he:PE X e te):PS X (.Return (some e) pos) (tRet te):=by
 intro pins s σ H D I h;exact wpAny_Return_some (thn (he pins s σ H _ I h) fun v s1 ⟨x,H1,I1,r1,q1⟩=>⟨x,σ,H1,I1,r1,q1⟩)
def tIfS (c:TT) (t u:TS):TS:=fun D σ H=>c σ H fun b H1=>if b=true then t D σ H1 else u D σ H1
theorem adn {c:Expr}{a b:List Stmt}{tc:TT}(hc:PT X c tc) (ha:PSs X a t) (hb:PSs X b u):PS X (.If c a b pos) (tIfS tc t u):=by
 intro pins s σ H D I h;refine wpAny_If (thn (hc pins s σ H _ I h) fun d s1 ⟨H1,I1,q1⟩=>?_);cases d with
 | true=>exact ha pins s1 σ H1 D I1 q1
 | false=>exact hb pins s1 σ H1 D I1 q1
end
abbrev TG:=V->St->Hp->(St->Hp->Prop)->Prop
abbrev TGs:=List V->St->Hp->(St->Hp->Prop)->Prop
def PG (X:Cx) (target:Expr) (t:TG):Prop :=
 ∀ (pins:List (Addr×Obj)) (s:Shared) (σ:St) (H:Hp) (v:V) (u:Value) (Q:St->Hp->Prop),Inv X pins σ H s->RelV v u->t v σ H Q ->
  wpAny (model X.prog X.w) X.A (assign target X.env u) (fun _ s'=>∃ σ' H',Inv X pins σ' H' s'/\Q σ' H') X.xe s
def PGs (X:Cx) (ts:List Expr) (t:TGs):Prop :=
 ∀ (pins:List (Addr×Obj)) (s:Shared) (σ:St) (H:Hp) (vs:List V) (us:List Value) (Q:St->Hp->Prop),Inv X pins σ H s->Vals vs us->t vs σ H Q ->
  wpAny (model X.prog X.w) X.A (assignInOrder ((assignEach ts X.env).map (·.2)) us) (fun _ s'=>∃ σ' H',Inv X pins σ' H' s'/\Q σ' H') X.xe s
abbrev TSet:=V->V->V->Hp->(Hp->Prop)->Prop
def PSet (X:Cx) (t:TSet):Prop :=
 ∀ (pins:List (Addr×Obj)) (s:Shared) (σ:St) (H:Hp) (o i v:V) (ov iv u:Value) (Q:Hp->Prop),Inv X pins σ H s->RelV o ov->RelV i iv->RelV v u->t o i v H Q ->
  wpAny (model X.prog X.w) X.A (setItem ov iv u) (fun _ s'=>∃ H',Inv X pins σ H' s'/\Q H') X.xe s
section
variable {X:Cx}{pos:Pos}
def ac8 (i:Nat):TG:=fun v σ H Q=>Q (σ.set i (some v)) H
theorem aa1 {i:Nat}{x:Str}(hN:X.N.Nodup) (hi:X.N[i]?=some x) (hx:Loc X.env.scope x) (hf:X.fn x=true\/X.env.scope.names.lookup x=some .local:=by first | exact .inl rfl | exact .inr rfl | assumption):PG X (.Name x pos) (ac8 i):=by
 intro pins s σ H v u Q I r h;exact wpAny_assign_Name (agn I hN hi hx r (fun s' I'=>⟨_,H,I',h⟩) hf)
def gNil:TGs:=fun vs σ H Q=>vs=[]/\Q σ H
def ae6 (t:TG) (u:TGs):TGs:=fun vs σ H Q=>∃ v r,vs=v::r/\t v σ H fun σ' H'=>u r σ' H' Q
theorem ajq:PGs X [] gNil:=by
 intro pins s σ H vs us Q I r h;obtain⟨e,h⟩:=h;subst e;cases r;exact assignInOrder_nil ⟨σ,H,I,h⟩
theorem ac3 {e:Expr}{es:List Expr}{t:TG}{u:TGs}(h1:PG X e t) (h2:PGs X es u)
  (hs:(assignEach (e::es) X.env).map (·.2)=assign e X.env::(assignEach es X.env).map (·.2):=by rfl):PGs X (e::es) (ae6 t u):=by
 intro pins s σ H vs us Q I r h;obtain⟨v,vr,e1,h⟩:=h;subst e1;cases r with
 | cons r rr =>
  rw[hs];refine assignInOrder_cons (thn (h1 pins s σ H _ _ _ I r h) fun _ s1 ⟨σ1,H1,I1,q1⟩=>?_);exact h2 pins s1 σ1 H1 _ _ Q I1 rr q1
def gTup (K:PySem.W.Frag) (n:Nat) (t:TGs):TG:=fun v σ H Q=>∃ a xs,v = .ref a/\SqT K H a xs/\xs.length=n/\t xs σ H Q
theorem al7 {es:List Expr}{k:Nat}{t:TGs}{n:Nat}(hc:X.calm=true) (h:PGs X es t)
  (hn:(assignEach es X.env).length=n:=by rfl) (hst:(assignEach es X.env).findIdx? (·.1)=none:=by rfl):PG X (.Tuple es k pos) (gTup X.K n t):=by
 intro pins s σ H v u Q I r hw;obtain⟨a,xs,e1,hq,hl,hw⟩:=hw;subst e1;cases r;obtain⟨its,rv,ht,hz⟩:=I.tuple hq;refine assign_Tuple_tuple (I.ok.hd hc) ht (by simp[hn,← hl,rv.length]) hst fun h' hx=>?_
 have I1:Inv X pins σ H { s with heap:=h' }:=I.kept (t':=s.toks) fun b o e=>hx b o (Nat.ne_of_lt (Heap.lt_size e)) e
 exact h pins _ σ H xs _ Q I1 (by simpa using rv) hw
def gSub (to ti:TE) (t:TSet):TG:=fun v σ H Q=>to σ H fun o H1=>ti σ H1 fun i H2=>t o i v H2 fun H3=>Q σ H3
theorem agc {o i:Expr}{to ti:TE}{t:TSet}(ho:PE X o to) (hi:PE X i ti) (hs:PSet X t)
  (ha:∀ v,assign (.Subscript o i pos) X.env v=(do
   let ov ← holding [v] (eval o X.env);let iv ← holding [v,ov] (eval i X.env)
   standAt pos
   holding [v,ov,iv] (setItem ov iv v)
   release [v,ov,iv] []):=by intro _;rfl):PG X (.Subscript o i pos) (gSub to ti t):=by
 intro pins s σ H v u Q I r h;rw[ha];refine wpAny_bind (wpAny_holding (thn (ho pins s σ H _ I h) fun ov s1 ⟨x,H1,I1,r1,q1⟩=>?_));refine wpAny_bind (wpAny_holding (thn (hi pins s1 σ H1 _ I1 q1) fun iv s2 ⟨y,H2,I2,r2,q2⟩=>?_));refine wpAny_bind (wpAny_standAt (wpAny_bind (wpAny_holding (thn (hs pins s2 σ H2 x y v ov iv u _ I2 r1 r2 r q2) fun _ s3 ⟨H3,I3,q3⟩=>?_))));exact wpAny_release ⟨σ,H3,I3,q3⟩
def tAsg (te:TE) (g:TG):TS:=fun D σ H=>te σ H fun x H1=>g x σ H1 D.nx
theorem ahu {tg e:Expr}{te:TE}{g:TG}(he:PE X e te) (hg:PG X tg g) (hs:swapsWithSole [tg] e pos.line X.env=pure false:=by rfl) (hw:swappedStores [tg] e X.env=pure none:=by rfl)
  (h1:(assignEach [tg] X.env).map (·.2)=[assign tg X.env]:=by rfl):PS X (.Assign [tg] e pos) (tAsg te g):=by
 intro pins s σ H D I h;refine wpAny_Assign_stores (thn (he pins s σ H _ I h) fun v s1 ⟨x,H1,I1,r1,q1⟩=>?_) hs hw;rw[h1];exact thn (hg pins s1 σ H1 x v _ I1 r1 q1) fun _ s2 q=>q
theorem aan {i:Nat}{x:Str}{e:Expr}{te:TE}{pos':Pos}(hN:X.N.Nodup) (hi:X.N[i]?=some x) (hx:Loc X.env.scope x) (he:PE X e te) (hs:swapsWith e (some (.Name x pos')) pos.line X.env=pure false:=by rfl) (hf:X.fn x=true\/X.env.scope.names.lookup x=some .local:=by first | exact .inl rfl | exact .inr rfl | assumption) :
  PS X (.Assign [.Name x pos'] e pos) (tAsg te (ac8 i)):=by
 intro pins s σ H D I h;refine wpAny_Assign_Name (thn (he pins s σ H _ I h) fun v s1 ⟨y,H1,I1,r1,q1⟩=>?_) hs;exact agn I1 hN hi hx r1 (fun s2 I2=>⟨_,H1,I2,q1⟩) hf
end
structure It where
 go:Nat->Hp->Prop
 yld:Nat->Hp->V->Hp->Prop
 stop:Nat->Hp->Prop
def FpOk (X:Cx) (pins:List (Addr×Obj)) (H:Hp) (b:Addr):Prop :=
 H b=none/\b≠X.env.locals/\b∉X.fs/\(b∈X.ex\/X.s₀.heap.objs.size<=b)/\(∀ x c,X.env.cells.lookup x=some c->c≠b)/\∀ p∈X.pn++pins,p.1≠b
theorem Inv.fpOk {X:Cx}{pins:List (Addr×Obj)}{σ:St}{H H':Hp}{s:Shared}{b:Addr}(I:Inv X pins σ H s) (hb:s.heap.objs.size<=b) (hn:H' b=none):FpOk X pins H' b:=by
 refine⟨hn,Nat.ne_of_gt (Nat.lt_of_lt_of_le I.lt hb),I.nofs hb,.inr (Nat.le_trans I.sz hb),fun x c e z=>?_,fun p hp z=>?_⟩
 ·obtain⟨v,q⟩:=I.cell x c e;exact absurd (Nat.lt_of_lt_of_le q.lt (by rw[z];exact hb)) (Nat.lt_irrefl _)
 ·exact absurd (Nat.lt_of_lt_of_le (Heap.lt_size (I.pin p hp).1) (by rw[z];exact hb)) (Nat.lt_irrefl _)
structure Turn (P:Program) (w:World) (K:PySem.W.Frag) (tg:Expr) (J:It) (fp:List Addr) (it:Addr) (tn:Nat->Heap->Prop):Prop where
 mem:it∈fp
 obj:∀ i h,tn i h->∀ b∈fp,∃ o,h.get? b=some o/\∀ v,o.data ≠ .cell v
 keep:∀ i h h',tn i h->(∀ b∈fp,∀ o,h.get? b=some o->h'.get? b=some o)->tn i h'
 item:∀ (X:Cx),X.prog=P->X.w=w->X.K=K->X.calm=true->∀ (i:Nat) (pins:List (Addr×Obj)) (s:Shared) (σ:St) (H:Hp) (E:Value->Shared->Prop),Inv X pins σ H s->(∀ b∈fp,FpOk X pins H b)->tn i s.heap->J.go i H ->
  wpAny (model P w) X.A (pyNext (.ref it)) (fun r s1=>∃ u,r=some u /\ wpAny (model P w) X.A (letOwnedTupleGo tg (.ref it) u) (fun _ s2=>∃ x H',Inv X pins σ H' s2/\RelV x u/\J.yld i H x H'/\tn (i+1) s2.heap/\∀ b∈fp,H' b=none) E s1) E s
 done:∀ (X:Cx),X.prog=P->X.w=w->X.K=K->X.calm=true->∀ (i:Nat) (pins:List (Addr×Obj)) (s:Shared) (σ:St) (H:Hp) (E:Value->Shared->Prop),Inv X pins σ H s->(∀ b∈fp,FpOk X pins H b)->tn i s.heap->J.stop i H ->
  wpAny (model P w) X.A (pyNext (.ref it)) (fun r s1=>r=none/\Inv X pins σ H s1) E s
 self:∀ (A:Around) (i:Nat) (s:Shared) (Q:Value->Shared->Prop) (E:Value->Shared->Prop),tn i s.heap->Q (.ref it) s->wpAny (model P w) A (pyIter (.ref it)) Q E s
abbrev TI:=St->Hp->(It->Hp->Prop)->Prop
def PIE (X:Cx) (pins:List (Addr×Obj)) (σ:St) (tg:Expr) (R:It->Hp->Prop) (itv:Value) (s2:Shared):Prop :=
 ∃ (it:Addr) (fp:List Addr) (tn:Nat->Heap->Prop) (J:It) (H':Hp),itv = .ref it/\Inv X pins σ H' s2/\Turn X.prog X.w X.K tg J fp it tn/\tn 0 s2.heap/\(∀ b∈fp,FpOk X pins H' b)/\R J H'
def PI (X:Cx) (tg iter:Expr) (wi:TI):Prop :=
 ∀ (pins:List (Addr×Obj)) (s:Shared) (σ:St) (H:Hp) (R:It->Hp->Prop),Inv X pins σ H s->wi σ H R ->
  wpAny (model X.prog X.w) X.A (eval iter X.env) (fun v s1=>wpAny (model X.prog X.w) X.A (pyIter v) (PIE X pins σ tg R) X.xe s1) X.xe s
theorem ars {M:Model}{A:Around}{E:Value->Shared->Prop}{s:Shared}{tg:Expr}{it:Addr}{u:Value}{o:Obj}{n:String}{vs:Array Value}{Q:Unit->Shared->Prop}(ho:s.heap.get? it=some o) (hc:o.cls = .type n) (hd:o.data = .fields vs)
  (hn:["enumerate","zip","dict_itemiterator","dict_reverseitemiterator","odict_iterator","itertools.zip_longest","itertools.pairwise"].contains n=false) (hQ:Q () s):wpAny M A (letOwnedTupleGo tg (.ref it) u) Q E s:=by
 unfold letOwnedTupleGo;cases tg<;>first
  | exact wpAny_pure hQ
  | (cases u<;>first
    | exact wpAny_pure hQ
    | (refine wpAny_bind (wpAny_load ho ?_);rw[hc,hd];show wpAny M A (if (["enumerate","zip","dict_itemiterator","dict_reverseitemiterator","odict_iterator","itertools.zip_longest","itertools.pairwise"].contains n&&vs[0]? == some (rawInt _))=true then _ else _) Q E s;rw[if_neg (by intro h;rw[hn,Bool.false_and] at h;cases h)];exact wpAny_pure hQ))
def Itl (K:PySem.W.Frag) (a:Addr):It :=
 ⟨fun i H=>∃ xs x,SqL K H a xs/\xs[i]?=some x,fun i H x H'=>H'=H/\∀ xs,SqL K H a xs->xs[i]?=some x,fun i H=>∃ xs,SqL K H a xs/\xs.length<=i⟩
def Itt (K:PySem.W.Frag) (a:Addr):It :=
 ⟨fun i H=>∃ xs x,SqT K H a xs/\xs[i]?=some x,fun i H x H'=>H'=H/\∀ xs,SqT K H a xs->xs[i]?=some x,fun i H=>∃ xs,SqT K H a xs/\xs.length<=i⟩
def Itr (lo:Int) (n:Nat):It:=⟨fun i _=>i<n,fun i H x H'=>H'=H/\x = .int (lo+i),fun i _=>n<=i⟩
theorem ak8 {P:Program}{w:World}{K:PySem.W.Frag}{tg:Expr}(a it:Addr):Turn P w K tg (Itl K a) [it] it (fun i h=>h.IsListIter it a i) where
 mem:=by simp
 obj:=fun i h st b hb=>by
  have e:b=it:=by simpa using hb
  subst e;obtain⟨o,e,c,d⟩:=st;exact⟨o,e,fun v z=>by rw[d] at z;cases z⟩
 keep:=fun i h h' st k=>st.at fun o e=>k it (by simp) o e
 item:=by
  intro X hP hw hK hc i pins s σ H E I hf st hg;subst hP hw hK;obtain⟨xs,x,hq,hx⟩:=hg;obtain⟨its,rv,p,hz⟩:=I.list hq;obtain⟨u,hu,ru⟩:=rv.get hx;obtain⟨f0,f1,f2,f3,f4,f5⟩:=hf it (by simp);refine wpAny_pyNext_list_item st p.isList (x:=u) (by simpa using hu) fun h' st' sb=>?_
  have I1:Inv X pins σ H { s with heap:=h' }:=I.turned (t':=s.toks) (fun b o hb e=>(sb.2 b hb).trans e) f0 f1 f3 f4 f5;obtain⟨o,e,c,d⟩:=id st';exact⟨u,rfl,ars (s:={ s with heap:=h' }) e c d (by decide) ⟨x,H,I1,ru,⟨rfl,fun ys hy=>by rw[I.list_inj hy hq];exact hx⟩,st',fun b hb=>(hf b hb).1⟩⟩
 done:=by
  intro X hP hw hK hc i pins s σ H E I hf st hg;subst hP hw hK;obtain⟨xs,hq,hx⟩:=hg;obtain⟨its,rv,p,hz⟩:=I.list hq;obtain⟨f0,f1,f2,f3,f4,f5⟩:=hf it (by simp);have hl:=rv.length;exact wpAny_pyNext_list_end (I.ok.hd hc) st p.isList (by simp;omega) fun h' eb=>⟨rfl,I.turned (t':=s.toks) (fun b o hb e=>eb b o hb e) f0 f1 f3 f4 f5⟩
 self:=fun _ _ _ _ _ st h=>wpAny_pyIter_listiter st h
theorem aig {P:Program}{w:World}{K:PySem.W.Frag}{tg:Expr}(a it:Addr):Turn P w K tg (Itt K a) [it] it (fun i h=>h.IsTupleIter it a i) where
 mem:=by simp
 obj:=fun i h st b hb=>by
  have e:b=it:=by simpa using hb
  subst e;obtain⟨o,e,c,d⟩:=st;exact⟨o,e,fun v z=>by rw[d] at z;cases z⟩
 keep:=fun i h h' st k=>st.at fun o e=>k it (by simp) o e
 item:=by
  intro X hP hw hK hc i pins s σ H E I hf st hg;subst hP hw hK;obtain⟨xs,x,hq,hx⟩:=hg;obtain⟨its,rv,p,hz⟩:=I.tuple hq;obtain⟨u,hu,ru⟩:=rv.get hx;obtain⟨f0,f1,f2,f3,f4,f5⟩:=hf it (by simp);refine wpAny_pyNext_tuple_item st (show s.heap.IsTuple a its.toArray from p) (x:=u) (by simpa using hu) fun h' st' sb=>?_
  have I1:Inv X pins σ H { s with heap:=h' }:=I.turned (t':=s.toks) (fun b o hb e=>(sb.2 b hb).trans e) f0 f1 f3 f4 f5;obtain⟨o,e,c,d⟩:=id st';exact⟨u,rfl,ars (s:={ s with heap:=h' }) e c d (by decide) ⟨x,H,I1,ru,⟨rfl,fun ys hy=>by rw[I.tuple_inj hy hq];exact hx⟩,st',fun b hb=>(hf b hb).1⟩⟩
 done:=by
  intro X hP hw hK hc i pins s σ H E I hf st hg;subst hP hw hK;obtain⟨xs,hq,hx⟩:=hg;obtain⟨its,rv,p,hz⟩:=I.tuple hq;obtain⟨f0,f1,f2,f3,f4,f5⟩:=hf it (by simp);have hl:=rv.length;exact wpAny_pyNext_tuple_end (I.ok.hd hc) st (show s.heap.IsTuple a its.toArray from p) (by simp;omega) fun h' eb=>⟨rfl,I.turned (t':=s.toks) (fun b o hb e=>eb b o hb e) f0 f1 f3 f4 f5⟩
 self:=fun _ _ _ _ _ st h=>wpAny_pyIter_tupleiter st h
theorem ane {P:Program}{w:World}{K:PySem.W.Frag}{tg:Expr}(it:Addr) (lo:Int) (n:Nat):Turn P w K tg (Itr lo n) [it] it (fun i h=>IsRangeIter h it (lo+(i:Nat)*1) ((n:Int)-(i:Nat)) 1) where
 mem:=by simp
 obj:=fun i h st b hb=>by
  have e:b=it:=by simpa using hb
  subst e;exact⟨_,st,fun v z=>by
   have z':Data.fields _=Data.cell v:=z;cases z'⟩
 keep:=fun i h h' st k=>k it (by simp) _ st
 item:=by
  intro X hP hw hK hc i pins s σ H E I hf st hg;subst hP hw hK;obtain⟨f0,f1,f2,f3,f4,f5⟩:=hf it (by simp);have W:=Walks.range (prog:=X.prog) (w:=X.w) (I.ok.hd hc) it lo 1 n;refine W.item i s _ _ hg st fun v h' tk hv st' kk=>?_
  obtain⟨t,rfl⟩:=hv;have I1:Inv X pins σ H { s with heap:=h',toks:=tk }:=I.turned (fun b o hb e=>kk b o (by simpa using hb) e) f0 f1 f3 f4 f5;refine⟨_,rfl,ars (s:={ s with heap:=h',toks:=tk }) (n := "range_iterator") st' rfl rfl (by decide) ⟨.int (lo+i),H,I1,⟨t,?_⟩,⟨rfl,rfl⟩,st',fun b hb=>(hf b hb).1⟩⟩;rw[Int.mul_one]
 done:=by
  intro X hP hw hK hc i pins s σ H E I hf st hg;subst hP hw hK;obtain⟨f0,f1,f2,f3,f4,f5⟩:=hf it (by simp);exact wpAny_pyNext_range_end (I.ok.hd hc) st (by have:n<=i:=hg;omega) fun h' eb=>⟨rfl,I.turned (t':=s.toks) (fun b o hb e=>eb b o hb e) f0 f1 f3 f4 f5⟩
 self:=fun _ _ _ _ _ st h=>wpAny_pyIter_rangeiter st h
section
variable {X:Cx}{tg:Expr}
def iList (K:PySem.W.Frag) (tl:TE):TI:=fun σ H R=>tl σ H fun x H1=>∃ a,x = .ref a/\(∃ xs,SqL K H1 a xs)/\R (Itl K a) H1
def iTup (K:PySem.W.Frag) (tl:TE):TI:=fun σ H R=>tl σ H fun x H1=>∃ a,x = .ref a/\(∃ xs,SqT K H1 a xs)/\R (Itt K a) H1
theorem ad8 {l:Expr}{tl:TE}(hl:PE X l tl):PI X tg l (iList X.K tl):=by
 intro pins s σ H R I h;refine thn (hl pins s σ H _ I h) fun v s1 ⟨x,H1,I1,r1,q1⟩=>?_
 obtain⟨a,e,⟨xs,hq⟩,q⟩:=q1;subst e;cases r1;obtain⟨its,rv,p,hz⟩:=I1.list hq;refine wpAny_pyIter_list p.isList ?_;refine⟨s1.heap.objs.size,[s1.heap.objs.size],_,_,H1,rfl,I1.kept (t':=s1.toks) fun b o e=>Heap.get?_push_of_some _ e,ak8 a _,⟨_,Heap.get?_push_size _ rfl,rfl,rfl⟩,fun b hb=>?_,q⟩;have e:b=s1.heap.objs.size:=by simpa using hb
 subst e;exact I1.fpOk (Nat.le_refl _) (I1.hok.fresh (Nat.le_refl _))
theorem atz {l:Expr}{tl:TE}(hl:PE X l tl):PI X tg l (iTup X.K tl):=by
 intro pins s σ H R I h;refine thn (hl pins s σ H _ I h) fun v s1 ⟨x,H1,I1,r1,q1⟩=>?_
 obtain⟨a,e,⟨xs,hq⟩,q⟩:=q1;subst e;cases r1;obtain⟨its,rv,p,hz⟩:=I1.tuple hq;refine wpAny_pyIter_tuple (show s1.heap.IsTuple a its.toArray from p) ?_;refine⟨s1.heap.objs.size,[s1.heap.objs.size],_,_,H1,rfl,I1.kept (t':=s1.toks) fun b o e=>Heap.get?_push_of_some _ e,aig a _,⟨_,Heap.get?_push_size _ rfl,rfl,rfl⟩,fun b hb=>?_,q⟩;have e:b=s1.heap.objs.size:=by simpa using hb
 subst e;exact I1.fpOk (Nat.le_refl _) (I1.hok.fresh (Nat.le_refl _))
theorem amd {pins:List (Addr×Obj)}{σ:St}{H:Hp}{s:Shared}{R:It->Hp->Prop}{E:Value->Shared->Prop}{lo hi:Int}{t u v:Tok}{tk:Nat}(I:Inv X pins σ H s) (h1:-(2 ^ 62)<=lo) (h2:lo<2 ^ 62) (h3:-(2 ^ 62)<=hi) (h4:hi<2 ^ 62)
  (q:R (Itr lo (hi-lo).toNat) H):wpAny (model X.prog X.w) X.A (pyIter (.ref s.heap.objs.size)) (PIE X pins σ tg R) E { s with heap:=s.heap.push { cls:=.type "range",data:=.fields #[.int lo t,.int hi u,.int 1 v] },toks:=tk }:=by
 refine wpAny_pyIter_range (IsRange.new ..) (small_one h1 h2 h3 h4) ?_;have I1:Inv X pins σ H { s with heap:=s.heap.push { cls:=.type "range",data:=.fields #[.int lo t,.int hi u,.int 1 v] },toks:=tk }:=I.kept fun b o e=>Heap.get?_push_of_some _ e
 refine⟨(s.heap.push { cls:=.type "range",data:=.fields #[.int lo t,.int hi u,.int 1 v] }).objs.size,[(s.heap.push { cls:=.type "range",data:=.fields #[.int lo t,.int hi u,.int 1 v] }).objs.size],_,_,H,rfl,
  I1.kept (t':=tk) fun b o e=>Heap.get?_push_of_some _ e,ane _ lo (hi-lo).toNat,?_,fun b hb=>?_,q⟩
 ·have e1:lo+((0:Nat):Int)*1=lo:=by simp
  have e2:(((hi-lo).toNat:Nat):Int)-((0:Nat):Int)=Builtin.Range.rangeSize lo hi 1:=by rw[rangeSize_one];split<;>omega
  show IsRangeIter _ _ (lo+((0:Nat):Int)*1) ((((hi-lo).toNat:Nat):Int)-((0:Nat):Int)) 1;rw[e1,e2];exact Heap.get?_push_size _ rfl
 ·have e:b=(s.heap.push { cls:=.type "range",data:=.fields #[.int lo t,.int hi u,.int 1 v] }).objs.size:=by simpa using hb
  subst e;exact I1.fpOk (Nat.le_refl _) (I1.hok.fresh (Nat.le_refl _))
def iRng1 (ta:TA):TI:=fun σ H R=>ta σ H fun vs H1=>∃ j:Int,vs=[.int j]/\-(2 ^ 62)<=j/\j<2 ^ 62/\R (Itr 0 j.toNat) H1
def iRng2 (ta:TA):TI:=fun σ H R=>ta σ H fun vs H1=>∃ i j:Int,vs=[.int i,.int j]/\(-(2 ^ 62)<=i/\i<2 ^ 62/\-(2 ^ 62)<=j/\j<2 ^ 62)/\R (Itr i (j-i).toNat) H1
theorem ade {a:Expr}{ta:TA}{p pos:Pos}(hg:Gl X "range") (hm:X.mg "range" = none) (ha:PA X [a] ta) (hs:starEach [a] X.env=[(false,eval a X.env)]:=by rfl):PI X tg (.Call (.Name "range" p) [a] [] pos) (iRng1 ta):=by
 intro pins s σ H R I h;refine Call_ (ah7 I hg hm boot_range (PyProof.Rows.callWith_type1 (thn (ha pos pins s σ H _ I h) fun us s1 ⟨vs,H1,I1,r1,q1⟩=>?_) hs rfl));obtain⟨j,e,q1,q2,q⟩:=q1;subst e;cases r1 with
 | cons r rr =>
  cases rr;obtain⟨t,rfl⟩:=r;exact call_range_1 (amd I1 (by omega) (by omega) q1 q2 (by simpa using q))
theorem akr {a b:Expr}{ta:TA}{p pos:Pos}(hg:Gl X "range") (hm:X.mg "range" = none) (ha:PA X [a,b] ta) (hs:starEach [a,b] X.env=[(false,eval a X.env),(false,eval b X.env)]:=by rfl) (hs2:starEach [b] X.env=[(false,eval b X.env)]:=by rfl) :
  PI X tg (.Call (.Name "range" p) [a,b] [] pos) (iRng2 ta):=by
 intro pins s σ H R I h;refine Call_ (ah7 I hg hm boot_range (PyProof.Rows.callWith_type1 (thn (ha pos pins s σ H _ I h) fun us s1 ⟨vs,H1,I1,r1,q1⟩=>?_) (by rw[hs,hs2]) (by rw[hs2];rfl)));obtain⟨i,j,e,⟨q1,q2,q3,q4⟩,q⟩:=q1;subst e;cases r1 with
 | cons r rr =>
  cases rr with
  | cons r' rr =>
   cases rr;obtain⟨t,rfl⟩:=r;obtain⟨t',rfl⟩:=r';exact call_range_2 (amd I1 q1 q2 q3 q4 q)
def tFor (wi:TI) (g:TG) (tb:TS):TS:=fun D σ H=>wi σ H fun J H1=>∃ W:Nat->Nat->St->Hp->Prop,(∃ m,W 0 m σ H1)/\∀ i m σ H,W i m σ H ->
 (J.stop i H/\D.nx σ H)\/(J.go i H/\∃ N:St->Hp->Prop,(∀ σ' H',N σ' H'->∃ m',m'<m/\W (i+1) m' σ' H')/\∀ x H',J.yld i H x H'->g x σ H' fun σ2 H2=>tb { D with nx:=N,ct:=N,bk:=D.nx } σ2 H2)
def aij (fp:List Addr) (h:Heap):List (Addr×Obj):=fp.filterMap fun b=>(h.get? b).map fun o=>(b,o)
theorem ac5 {fp:List Addr}{h:Heap}{b:Addr}{o:Obj}(hb:b∈fp) (e:h.get? b=some o):(b,o)∈aij fp h:=List.mem_filterMap.mpr ⟨b,hb,by rw[e];rfl⟩
theorem ap7 {fp:List Addr}{h:Heap}{p:Addr×Obj}(hp:p∈aij fp h):p.1∈fp/\h.get? p.1=some p.2:=by
 obtain⟨b,hb,e⟩:=List.mem_filterMap.mp hp;cases q:h.get? b with
 | none=>rw[q] at e;cases e
 | some o =>
  rw[q] at e;have e':(b,o)=p:=Option.some.inj e;subst e';exact⟨hb,q⟩
theorem Inv.pinned {pins:List (Addr×Obj)}{σ:St}{H:Hp}{s:Shared}{fp:List Addr}(I:Inv X pins σ H s) (hf:∀ b∈fp,FpOk X pins H b) (ho:∀ b∈fp,∃ o,s.heap.get? b=some o/\∀ v,o.data ≠ .cell v):Inv X (pins++aij fp s.heap) σ H s :=
 I.pins_of fun p hp=>(List.mem_append.mp hp).elim (fun z=>I.pin p (List.mem_append_right _ z)) fun z=>by
  obtain⟨hb,e⟩:=ap7 z;obtain⟨f0,f1,f2,_⟩:=hf p.1 hb;obtain⟨o,e',d⟩:=ho p.1 hb;rw[e] at e';cases e';exact⟨e,f0,f1,f2,d⟩
theorem Inv.unpinned {pins pl:List (Addr×Obj)}{σ:St}{H:Hp}{s:Shared}(I:Inv X (pins++pl) σ H s):Inv X pins σ H s:=I.pins_of fun p hp=>I.pin p (List.mem_append_right _ (List.mem_append_left _ hp))
theorem ael {iter:Expr}{body:List Stmt}{wi:TI}{g:TG}{tb:TS}{pos:Pos}(hp:PassesOwn (model X.prog X.w) X.A X.env X.xe) (hc:X.calm=true) (hi:PI X tg iter wi) (hg:PG X tg g) (hb:PSs X body tb)
  (hs:∀ x,foldedSetIterable iter X.env x=pure x:=by intro _;rfl):PS X (.For tg iter body [] pos) (tFor wi g tb):=by
 intro pins s σ H D I h;refine wpAny_For (thn (hi pins s σ H _ I h) fun v s1 h1=>thn h1 fun itv s2 h2=>?_) hs;obtain⟨it,fp,tn,J,H2,e,I2,T,st2,f2,W,⟨m0,w0⟩,turn⟩:=h2;subst e;have stat:∀ {H':Hp},(∀ b∈fp,H' b=none)->∀ b∈fp,FpOk X pins H' b:=fun hn b hb=>⟨hn b hb,(f2 b hb).2⟩
 refine codeAny_forLoop_any (fun n s'=>∃ i σ' H',Inv X pins σ' H' s'/\tn i s'.heap/\(∀ b∈fp,H' b=none)/\W i n σ' H') ?_ m0 ⟨0,σ,H2,I2,st2,fun b hb=>(f2 b hb).1,w0⟩;rintro n s3 ⟨i,σ3,H3,I3,st3,fr3,w3⟩;rcases turn i n σ3 H3 w3 with⟨stop,qn⟩ | ⟨go,N,hN,step⟩
 ·refine wpAny_passesOwn hp (thn (T.done X rfl rfl rfl hc i pins s3 σ3 H3 X.xe I3 (stat fr3) st3 stop) fun r s4 ⟨hr,I4⟩=>?_);subst hr;exact wpAny_execs_nil ⟨σ3,H3,I4,qn⟩
 ·refine wpAny_passesOwn hp (thn (T.item X rfl rfl rfl hc i pins s3 σ3 H3 X.xe I3 (stat fr3) st3 go) fun r s4 ⟨u,hr,h4⟩=>?_);subst hr;refine wpAny_passesOwn hp (thn h4 fun _ s5 ⟨x,H5,I5,r5,y5,st5,fr5⟩=>?_);have I5':=I5.pinned (stat fr5) (T.obj _ _ st5);refine wpAny_passesOwn hp (thn (hg _ s5 σ3 H5 x u _ I5' r5 (step x H5 y5)) fun _ s6 ⟨σ6,H6,I6,q6⟩=>?_);refine wpAny_passesOwn hp (thn (hb _ s6 σ6 H6 _ I6 q6) fun f s7 q7=>?_);have again:∀ {σ7:St} {H7:Hp},Inv X (pins++aij fp s5.heap) σ7 H7 s7->N σ7 H7->∃ m,m<n/\∃ i σ' H',Inv X pins σ' H' s7/\tn i s7.heap/\(∀ b∈fp,H' b=none)/\W i m σ' H':=fun {σ7 H7} I7 n7=>by
   obtain⟨m',hm,w7⟩:=hN σ7 H7 n7;refine⟨m',hm,i+1,σ7,H7,I7.unpinned,T.keep _ _ _ st5 fun b hb o e=>(I7.pin (b,o) (List.mem_append_right _ (List.mem_append_right _ (ac5 hb e)))).1,fun b hb=>?_,w7⟩;obtain⟨o,e,d⟩:=T.obj _ _ st5 b hb;exact (I7.pin (b,o) (List.mem_append_right _ (List.mem_append_right _ (ac5 hb e)))).2.1
  cases f with
  | next=>obtain⟨σ7,H7,I7,n7⟩:=q7;exact again I7 n7
  | cont=>obtain⟨σ7,H7,I7,n7⟩:=q7;exact again I7 n7
  | brk=>obtain⟨σ7,H7,I7,q7⟩:=q7;exact⟨σ7,H7,I7.unpinned,q7⟩
  | ret v=>obtain⟨x7,σ7,H7,I7,r7,q7⟩:=q7;exact⟨x7,σ7,H7,I7.unpinned,r7,q7⟩
end
theorem afo {K:PySem.W.Frag}{a:Addr}{xs:List V}{g:TG}{tb:TS}{D:Ends}{σ:St}{H:Hp}(Pv:Nat->St->Hp->Prop) (h0:Pv 0 σ H) (hl:∀ i σ H,i<=xs.length->Pv i σ H->SqL K H a xs)
  (hs:∀ i x σ H,xs[i]?=some x->Pv i σ H->g x σ H fun σ2 H2=>tb { D with nx:=Pv (i+1),ct:=Pv (i+1),bk:=D.nx } σ2 H2) (hd:∀ σ H,Pv xs.length σ H->D.nx σ H) :
  ∃ W:Nat->Nat->St->Hp->Prop,(∃ m,W 0 m σ H)/\∀ i m σ H,W i m σ H ->
   ((Itl K a).stop i H/\D.nx σ H)\/((Itl K a).go i H/\∃ N:St->Hp->Prop,(∀ σ' H',N σ' H'->∃ m',m'<m/\W (i+1) m' σ' H')/\∀ x H',(Itl K a).yld i H x H'->g x σ H' fun σ2 H2=>tb { D with nx:=N,ct:=N,bk:=D.nx } σ2 H2):=by
 refine⟨fun i m σ H=>m=xs.length-i/\i<=xs.length/\Pv i σ H,⟨xs.length,by simp,Nat.zero_le _,h0⟩,?_⟩;rintro i m σ H ⟨rfl,hi,p⟩;have q:=hl i σ H hi p;by_cases hlt:i<xs.length
 ·refine .inr ⟨⟨xs,xs[i],q,by simp[hlt]⟩,Pv (i+1),fun σ' H' p'=>⟨xs.length-(i+1),by omega,rfl,hlt,p'⟩,fun x H' y=>?_⟩;obtain⟨e,y⟩:=y;subst e;exact hs i x σ _ (y xs q) p
 ·have e:i=xs.length:=by omega
  subst e;exact .inl ⟨⟨xs,q,Nat.le_refl _⟩,hd σ H p⟩
theorem adx {lo:Int}{n:Nat}{g:TG}{tb:TS}{D:Ends}{σ:St}{H:Hp}(Pv:Nat->St->Hp->Prop) (h0:Pv 0 σ H)
  (hs:∀ i σ H,i<n->Pv i σ H->g (.int (lo+i)) σ H fun σ2 H2=>tb { D with nx:=Pv (i+1),ct:=Pv (i+1),bk:=D.nx } σ2 H2) (hd:∀ σ H,Pv n σ H->D.nx σ H) :
  ∃ W:Nat->Nat->St->Hp->Prop,(∃ m,W 0 m σ H)/\∀ i m σ H,W i m σ H ->
   ((Itr lo n).stop i H/\D.nx σ H)\/((Itr lo n).go i H/\∃ N:St->Hp->Prop,(∀ σ' H',N σ' H'->∃ m',m'<m/\W (i+1) m' σ' H')/\∀ x H',(Itr lo n).yld i H x H'->g x σ H' fun σ2 H2=>tb { D with nx:=N,ct:=N,bk:=D.nx } σ2 H2):=by
 refine⟨fun i m σ H=>m=n-i/\i<=n/\Pv i σ H,⟨n,by simp,Nat.zero_le _,h0⟩,?_⟩;rintro i m σ H ⟨rfl,hi,p⟩;by_cases hlt:i<n
 ·refine .inr ⟨hlt,Pv (i+1),fun σ' H' p'=>⟨n-(i+1),by omega,rfl,hlt,p'⟩,fun x H' y=>?_⟩;obtain⟨e,y⟩:=y;subst e y;exact hs i σ _ hlt p
 ·have e:i=n:=by omega
  subst e;exact .inl ⟨Nat.le_refl _,hd σ H p⟩
abbrev R2:=V->V->Hp->VK->Prop
def OpR (X:Cx) (f:Value->Value->Sem Value) (r:R2):Prop :=
 ∀ (pins:List (Addr×Obj)) (s:Shared) (σ:St) (H:Hp) (x y:V) (v u:Value) (Q:VK),Inv X pins σ H s->RelV x v->RelV y u->r x y H Q ->
  wpAny (model X.prog X.w) X.A (f v u) (EP X pins σ Q) X.xe s
def UnR (X:Cx) (f:Value->Sem Value) (r:V->Hp->VK->Prop):Prop :=
 ∀ (pins:List (Addr×Obj)) (s:Shared) (σ:St) (H:Hp) (x:V) (v:Value) (Q:VK),Inv X pins σ H s->RelV x v->r x H Q ->
  wpAny (model X.prog X.w) X.A (f v) (EP X pins σ Q) X.xe s
def ab6 (X:Cx) (f:Value) (r:List V->Hp->VK->Prop):Prop :=
 ∀ (pins:List (Addr×Obj)) (s:Shared) (σ:St) (H:Hp) (xs:List V) (us:List Value) (Q:VK),Inv X pins σ H s->Vals xs us->r xs H Q ->
  wpAny (model X.prog X.w) X.A (call f us) (EP X pins σ Q) X.xe s
def TruR (X:Cx) (r:V->Hp->(Bool->Hp->Prop)->Prop):Prop :=
 ∀ (pins:List (Addr×Obj)) (s:Shared) (σ:St) (H:Hp) (x:V) (v:Value) (Q:Bool->Hp->Prop),Inv X pins σ H s->RelV x v->r x H Q ->
  wpAny (model X.prog X.w) X.A (truthy v) (TP X pins σ Q) X.xe s
def tOp (r:R2) (ta tb:TE):TE:=fun σ H Q=>ta σ H fun x H1=>tb σ H1 fun y H2=>r x y H2 Q
def tUn (r:V->Hp->VK->Prop) (ta:TE):TE:=fun σ H Q=>ta σ H fun x H1=>r x H1 Q
def rI (C:Int->Int->Prop) (g:Int->Int->V):R2:=fun x y H Q=>∃ i j,x = .int i/\y = .int j/\C i j/\Q (g i j) H
def rI0 (g:Int->Int->V):R2:=fun x y H Q=>∃ i j,x = .int i/\y = .int j/\Q (g i j) H
def rU (g:Int->V):V->Hp->VK->Prop:=fun x H Q=>∃ i,x = .int i/\Q (g i) H
section
variable {X:Cx}{a b c:Expr}{ta tb tc:TE}{pos:Pos}
theorem binT (ha:PE X a ta) (hb:PE X b tb){pins:List (Addr×Obj)}{s:Shared}{σ:St}{H:Hp}{R:V->V->Hp->Prop}(I:Inv X pins σ H s)
  (h:ta σ H fun x H1=>tb σ H1 fun y H2=>R x y H2){Q:Value->Shared->Prop}{f:Value->Value->Sem Value}
  (hf:∀ v u s2 x y H2,Inv X pins σ H2 s2->RelV x v->RelV y u->R x y H2->wpAny (model X.prog X.w) X.A (f v u) Q X.xe s2) :
  wpAny (model X.prog X.w) X.A (eval a X.env) (fun v s₁=>wpAny (model X.prog X.w) X.A (eval b X.env) (fun u s₂=>wpAny (model X.prog X.w) X.A (f v u) Q X.xe s₂) X.xe s₁) X.xe s:=by
 refine thn (ha pins s σ H _ I h) fun v s1 ⟨x,H1,I1,r1,q1⟩=>?_
 refine thn (hb pins s1 σ H1 _ I1 q1) fun u s2 ⟨y,H2,I2,r2,q2⟩=>?_
 exact hf v u s2 x y H2 I2 r1 r2 q2
theorem aat {op:Operator}{r:R2}(ho:OpR X (binaryOp op) r) (ha:PE X a ta) (hb:PE X b tb):PE X (.BinOp a op b pos) (tOp r ta tb):=by
 intro pins s σ H Q I h;exact wpAny_BinOp (binT ha hb I h fun v u s2 x y H2 I2 rx ry q=>ho pins s2 σ H2 x y v u Q I2 rx ry q)
theorem pe_un {op:UnaryOp}{r:V->Hp->VK->Prop}(ho:UnR X (unaryOp op) r) (ha:PE X a ta):PE X (.UnaryOp op a pos) (tUn r ta):=by
 intro pins s σ H Q I h;exact UnaryOp_ (thn (ha pins s σ H _ I h) fun v s1 ⟨x,H1,I1,r1,q1⟩=>ho pins s1 σ H1 x v Q I1 r1 q1)
theorem opI {f:Value->Value->Sem Value}{C:Int->Int->Prop}{g:Int->Int->Int}
  (rule:∀ (i j:Int) (t u:Tok) (s:Shared) (Q:Value->Shared->Prop) (E:Value->Shared->Prop),C i j->Q (.int (g i j) s.toks) { s with toks:=s.toks+1 }->wpAny (model X.prog X.w) X.A (f (.int i t) (.int j u)) Q E s) :
  OpR X f (rI C fun i j=>.int (g i j)):=by
 intro pins s σ H x y v u Q I rx ry h;obtain⟨i,j,rfl,rfl,hc,q⟩:=h;obtain⟨t,rfl⟩:=rx;obtain⟨t',rfl⟩:=ry;exact rule i j t t' s _ _ hc ⟨.int (g i j),H,I.tok _,⟨_,rfl⟩,q⟩
theorem opI0 {f:Value->Value->Sem Value}{g:Int->Int->Int}
  (rule:∀ (i j:Int) (t u:Tok) (s:Shared) (Q:Value->Shared->Prop) (E:Value->Shared->Prop),Q (.int (g i j) s.toks) { s with toks:=s.toks+1 }->wpAny (model X.prog X.w) X.A (f (.int i t) (.int j u)) Q E s) :
  OpR X f (rI0 fun i j=>.int (g i j)):=by
 intro pins s σ H x y v u Q I rx ry h;obtain⟨i,j,rfl,rfl,q⟩:=h;obtain⟨t,rfl⟩:=rx;obtain⟨t',rfl⟩:=ry;exact rule i j t t' s _ _ ⟨.int (g i j),H,I.tok _,⟨_,rfl⟩,q⟩
theorem opB0 {f:Value->Value->Sem Value}{g:Int->Int->Bool}
  (rule:∀ (i j:Int) (t u:Tok) (s:Shared) (Q:Value->Shared->Prop) (E:Value->Shared->Prop),Q (.bool (g i j)) s->wpAny (model X.prog X.w) X.A (f (.int i t) (.int j u)) Q E s) :
  OpR X f (rI0 fun i j=>.bl (g i j)):=by
 intro pins s σ H x y v u Q I rx ry h;obtain⟨i,j,rfl,rfl,q⟩:=h;obtain⟨t,rfl⟩:=rx;obtain⟨t',rfl⟩:=ry;exact rule i j t t' s _ _ ⟨.bl (g i j),H,I,rfl,q⟩
def CDiv (i j:Int):Prop:=0<j/\j<1073741824
def CMul (i j:Int):Prop:=(-(2 ^ 64)<i/\i<2 ^ 64)\/(-(2 ^ 64)<j/\j<2 ^ 64)
theorem CMul.ok {i j:Int}(h:CMul i j):IntMulOk i j:=by
 rcases h with⟨h1,h2⟩ | ⟨h1,h2⟩
 ·exact .of_left (intBits_le_64 h1 h2)
 ·exact .of_right (intBits_le_64 h1 h2)
theorem adg:OpR X (binaryOp .Add) (rI0 fun i j=>.int (i+j)):=opI0 fun _ _ _ _ _ _ _ q=>add_int q
theorem ao6:OpR X (binaryOp .Sub) (rI0 fun i j=>.int (i-j)):=opI0 fun _ _ _ _ _ _ _ q=>sub_int q
theorem afj:OpR X (binaryOp .Mult) (rI CMul fun i j=>.int (i*j)):=opI fun _ _ _ _ _ _ _ hc q=>mul_int q hc.ok
theorem apr:OpR X (binaryOp .FloorDiv) (rI CDiv fun i j=>.int (i/j)):=opI fun i j _ _ _ _ _ hc q=>by
 have h1:(0:Int)<j:=hc.1;have h2:j<1073741824:=hc.2;exact floordiv_int (by omega) (by rw[Int.fdiv_eq_ediv_of_nonneg i (by omega)];exact q) (.inl (PyProof.noPylong_small (by omega)))
theorem adl:OpR X (binaryOp .Mod) (rI (fun _ j=>0<j) fun i j=>.int (i%j)):=opI fun i j _ _ _ _ _ hc q=>by
 have h1:(0:Int)<j:=hc;exact mod_int' (by omega) (by rw[Int.fmod_eq_emod_of_nonneg i (by omega)];exact q)
theorem unI {f:Value->Sem Value}{g:Int->Int}
  (rule:∀ (i:Int) (t:Tok) (s:Shared) (Q:Value->Shared->Prop) (E:Value->Shared->Prop),Q (.int (g i) s.toks) { s with toks:=s.toks+1 }->wpAny (model X.prog X.w) X.A (f (.int i t)) Q E s) :
  UnR X f (rU fun i=>.int (g i)):=by
 intro pins s σ H x v Q I rx h;obtain⟨i,rfl,q⟩:=h;obtain⟨t,rfl⟩:=rx;exact rule i t s _ _ ⟨.int (g i),H,I.tok _,⟨_,rfl⟩,q⟩
theorem un_neg:UnR X (unaryOp .USub) (rU fun i=>.int (-i)):=unI fun _ _ _ _ _ q=>neg_int q
end
def scal:V->V->Bool
 | .non,.non=>true | .non,.int _=>true | .int _,.non=>true | .non,.bl _=>true | .bl _,.non=>true | .non,.str _=>true | .str _,.non=>true
 | .int _,.int _=>true | .bl _,.bl _=>true | .str _,.str _=>true | .byt _,.byt _=>true
 | .int _,.str _=>true | .str _,.int _=>true | .bl _,.str _=>true | .str _,.bl _=>true
 | _,_=>false
def rEq:R2:=fun x y H Q=>scal x y=true/\Q (.bl (decide (x=y))) H
def rNe:R2:=fun x y H Q=>scal x y=true/\Q (.bl (!decide (x=y))) H
theorem arm {i j:Int}:decide (V.int i=V.int j)=(i == j):=by
 rw[Bool.eq_iff_iff];simp
theorem ats {i j:Bool}:decide (V.bl i=V.bl j)=(i == j):=by
 rw[Bool.eq_iff_iff];simp
theorem aqa {i j:Str}:decide (V.str i=V.str j)=(i == j):=by
 rw[Bool.eq_iff_iff];simp
theorem aon {i j:Array UInt8}:decide (V.byt i=V.byt j)=(i.toList == j.toList):=by
 rw[Bool.eq_iff_iff];cases i;cases j;simp
section
variable {X:Cx}{a b c:Expr}{ta tb tc:TE}{pos:Pos}
theorem aa2 {pins:List (Addr×Obj)}{σ:St}{H:Hp}{s:Shared}{Q:VK}{k k':Bool}(I:Inv X pins σ H s) (q:Q (.bl k) H) (e:k=k'):EP X pins σ Q (.bool k') s:=by
 subst e;exact⟨.bl k,H,I,rfl,q⟩
theorem aho:OpR X (compareOp .Eq) rEq:=by
 intro pins s σ H x y v u Q I rx ry h;obtain⟨hs,q⟩:=h;cases x with
 | non =>
  cases rx;cases y with
  | non=>cases ry;exact PySem.EqNone.eq_none_none (aa2 I q (by simp))
  | bl j=>cases ry;exact PySem.EqNone.eq_none_bool (aa2 I q (by simp))
  | int j=>obtain⟨t',rfl⟩:=ry;exact PySem.EqNone.eq_none_int (aa2 I q (by simp))
  | str j=>obtain⟨t',rfl⟩:=ry;exact PySem.EqNone.eq_none_str (aa2 I q (by simp))
  | _=>exact absurd (show false=true from hs) Bool.false_ne_true
 | bl i =>
  cases rx;cases y with
  | non=>cases ry;exact PySem.EqNone.eq_bool_none (aa2 I q (by simp))
  | bl j=>cases ry;exact eq_bool (aa2 I q ats)
  | str j=>obtain⟨t',rfl⟩:=ry;exact PySem.EqMixed.eq_bool_str (aa2 I q (by simp))
  | _=>exact absurd (show false=true from hs) Bool.false_ne_true
 | int i =>
  obtain⟨t,rfl⟩:=rx;cases y with
  | non=>cases ry;exact PySem.EqNone.eq_int_none (aa2 I q (by simp))
  | int j=>obtain⟨t',rfl⟩:=ry;exact eq_int (aa2 I q arm)
  | str j=>obtain⟨t',rfl⟩:=ry;exact PySem.EqMixed.eq_int_str (aa2 I q (by simp))
  | _=>exact absurd (show false=true from hs) Bool.false_ne_true
 | str i =>
  obtain⟨t,rfl⟩:=rx;cases y with
  | non=>cases ry;exact PySem.EqNone.eq_str_none (aa2 I q (by simp))
  | bl j=>cases ry;exact PySem.EqMixed.eq_str_bool (aa2 I q (by simp))
  | int j=>obtain⟨t',rfl⟩:=ry;exact PySem.EqMixed.eq_str_int (aa2 I q (by simp))
  | str j=>obtain⟨t',rfl⟩:=ry;exact eq_str (aa2 I q aqa)
  | _=>exact absurd (show false=true from hs) Bool.false_ne_true
 | byt i =>
  obtain⟨t,rfl⟩:=rx;cases y with
  | byt j=>obtain⟨t',rfl⟩:=ry;exact PySem.W.eq_bytes (aa2 I q aon)
  | _=>exact absurd (show false=true from hs) Bool.false_ne_true
 | _=>cases y<;>exact absurd (show false=true from hs) Bool.false_ne_true
theorem op_ne:OpR X (compareOp .NotEq) rNe:=by
 intro pins s σ H x y v u Q I rx ry h;obtain⟨hs,q⟩:=h;cases x with
 | non =>
  cases rx;cases y with
  | non=>cases ry;exact PySem.EqNone.ne_none_none (aa2 I q (by simp))
  | bl j=>cases ry;exact PySem.EqNone.ne_none_bool (aa2 I q (by simp))
  | int j=>obtain⟨t',rfl⟩:=ry;exact PySem.EqNone.ne_none_int (aa2 I q (by simp))
  | str j=>obtain⟨t',rfl⟩:=ry;exact PySem.EqNone.ne_none_str (aa2 I q (by simp))
  | _=>exact absurd (show false=true from hs) Bool.false_ne_true
 | bl i =>
  cases rx;cases y with
  | non=>cases ry;exact PySem.EqNone.ne_bool_none (aa2 I q (by simp))
  | bl j=>cases ry;exact ne_bool (aa2 I q (congrArg not ats))
  | str j=>obtain⟨t',rfl⟩:=ry;exact PySem.EqMixed.ne_bool_str (aa2 I q (by simp))
  | _=>exact absurd (show false=true from hs) Bool.false_ne_true
 | int i =>
  obtain⟨t,rfl⟩:=rx;cases y with
  | non=>cases ry;exact PySem.EqNone.ne_int_none (aa2 I q (by simp))
  | int j=>obtain⟨t',rfl⟩:=ry;exact ne_int (aa2 I q (congrArg not arm))
  | str j=>obtain⟨t',rfl⟩:=ry;exact PySem.EqMixed.ne_int_str (aa2 I q (by simp))
  | _=>exact absurd (show false=true from hs) Bool.false_ne_true
 | str i =>
  obtain⟨t,rfl⟩:=rx;cases y with
  | non=>cases ry;exact PySem.EqNone.ne_str_none (aa2 I q (by simp))
  | bl j=>cases ry;exact PySem.EqMixed.ne_str_bool (aa2 I q (by simp))
  | int j=>obtain⟨t',rfl⟩:=ry;exact PySem.EqMixed.ne_str_int (aa2 I q (by simp))
  | str j=>obtain⟨t',rfl⟩:=ry;exact ne_str (aa2 I q (congrArg not aqa))
  | _=>exact absurd (show false=true from hs) Bool.false_ne_true
 | byt i =>
  obtain⟨t,rfl⟩:=rx;cases y with
  | byt j=>obtain⟨t',rfl⟩:=ry;exact PySem.W.ne_bytes (aa2 I q (congrArg not aon))
  | _=>exact absurd (show false=true from hs) Bool.false_ne_true
 | _=>cases y<;>exact absurd (show false=true from hs) Bool.false_ne_true
theorem ak1:OpR X (compareOp .Lt) (rI0 fun i j=>.bl (decide (i<j))):=opB0 fun _ _ _ _ _ _ _ q=>lt_int q
theorem op_le:OpR X (compareOp .LtE) (rI0 fun i j=>.bl (decide (i<=j))):=opB0 fun _ _ _ _ _ _ _ q=>le_int q
theorem ar7:OpR X (compareOp .Gt) (rI0 fun i j=>.bl (decide (j<i))):=opB0 fun _ _ _ _ _ _ _ q=>gt_int q
theorem akd:OpR X (compareOp .In) (fun x y H Q=>∃ i j,x = .str i/\y = .str j/\Q (.bl (!(Builtin.Str.occurrences j i 0 j.length 1).isEmpty)) H):=by
 intro pins s σ H x y v u Q I rx ry h;obtain⟨i,j,rfl,rfl,q⟩:=h;obtain⟨t,rfl⟩:=rx;obtain⟨t',rfl⟩:=ry;exact in_str (aa2 I q rfl)
theorem aka:OpR X (compareOp .NotIn) (fun x y H Q=>∃ i j,x = .str i/\y = .str j/\Q (.bl (!(!(Builtin.Str.occurrences j i 0 j.length 1).isEmpty))) H):=by
 intro pins s σ H x y v u Q I rx ry h;obtain⟨i,j,rfl,rfl,q⟩:=h;obtain⟨t,rfl⟩:=rx;obtain⟨t',rfl⟩:=ry;exact notIn_str (aa2 I q rfl)
theorem OpR.or {f:Value->Value->Sem Value}{r r':R2}(h:OpR X f r) (h':OpR X f r'):OpR X f (fun x y H Q=>r x y H Q\/r' x y H Q):=by
 intro pins s σ H x y v u Q I rx ry q;rcases q with q | q
 ·exact h pins s σ H x y v u Q I rx ry q
 ·exact h' pins s σ H x y v u Q I rx ry q
theorem acj (b:Expr){op:CmpOp}(h:op ≠ .In:=by decide) (h2:op ≠ .NotIn:=by decide):behindInMarks op b=false:=by
 have e1:(op == CmpOp.In)=false:=by cases op<;>first | rfl | exact absurd rfl h
 have e2:(op == CmpOp.NotIn)=false:=by cases op<;>first | rfl | exact absurd rfl h2
 cases b<;>simp[behindInMarks,e1,e2]
theorem acq {op:CmpOp}{r:R2}(ho:OpR X (compareOp op) r) (ha:PE X a ta) (hb:PE X b tb) (hm:behindInMarks op b=false):PE X (.Compare a [op] [b] pos) (tOp r ta tb):=by
 intro pins s σ H Q I h;exact wpAny_Compare1 (binT ha hb I h fun v u s2 x y H2 I2 rx ry q=>ho pins s2 σ H2 x y v u Q I2 rx ry q) hm
def tTest (t:TE):TT:=fun σ H Q=>t σ H fun x H'=>∃ k,x = .bl k/\Q k H'
theorem acg {op:CmpOp}{r:R2}(ho:OpR X (compareOp op) r) (ha:PE X a ta) (hb:PE X b tb) (hm:behindInMarks op b=false):PT X (.Compare a [op] [b] pos) (tTest (tOp r ta tb)):=by
 intro pins s σ H Q I h;refine wpAny_isTrue_Compare1 (thn (ha pins s σ H _ I h) fun v s1 ⟨x,H1,I1,r1,q1⟩=>thn (hb pins s1 σ H1 _ I1 q1) fun u s2 ⟨y,H2,I2,r2,q2⟩ =>thn (ho pins s2 σ H2 x y v u _ I2 r1 r2 q2) fun c s3 ⟨z,H3,I3,r3,k,e,q3⟩=>?_) hm;subst e;cases r3;exact wpAny_truthy_bool ⟨H3,I3,q3⟩
def tChain (r r':R2) (ta tb tc:TE):TE:=fun σ H Q=>ta σ H fun x H1=>tb σ H1 fun y H2=>r x y H2 fun z H3=>∃ k,z = .bl k /\
 (if k=true then tc σ H3 fun w' H4=>r' y w' H4 Q else Q (.bl false) H3)
theorem ar9 {op op':CmpOp}{r r':R2}(ho:OpR X (compareOp op) r) (ho':OpR X (compareOp op') r') (ha:PE X a ta) (hb:PE X b tb) (hc:PE X c tc)
  (hm:lastMarks [op,op'] [b,c]=false:=by with_unfolding_all rfl):PE X (.Compare a [op,op'] [b,c] pos) (tChain r r' ta tb tc):=by
 intro pins s σ H Q I h;refine Compare_chain (thn (ha pins s σ H _ I h) fun v s1 ⟨x,H1,I1,r1,q1⟩=>chain_link (thn (hb pins s1 σ H1 _ I1 q1) fun u s2 ⟨y,H2,I2,r2,q2⟩ =>thn (ho pins s2 σ H2 x y v u _ I2 r1 r2 q2) fun d s3 ⟨z,H3,I3,r3,k,e,q3⟩=>?_)) hm;subst e;cases r3;refine wpAny_truthy_bool ?_;cases k with
 | false=>exact ite_ff ⟨.bl false,H3,I3,rfl,q3⟩
 | true=>exact ite_tt (chain_last (thn (hc pins s3 σ H3 _ I3 q3) fun w' s4 ⟨z',H4,I4,r4,q4⟩=>ho' pins s4 σ H4 y z' u w' Q I4 r2 r4 q4))
def TruV (K:PySem.W.Frag) (x:V) (H:Hp) (k:Bool):Prop :=
 match x with
 | .non=>k=false
 | .bl b=>k=b
 | .int i=>k=(i != 0)
 | .str y=>y.length<=sizeLine/\k=((y.length:Int) != 0)
 | .byt y=>y.size<=sizeLine/\k=((y.size:Int) != 0)
 | .ref p=>(∃ xs,SqL K H p xs/\k = !xs.isEmpty)\/(∃ xs,SqT K H p xs/\k = !xs.isEmpty)\/∃ kvs,H p=some (.dK kvs)/\k = !kvs.isEmpty
 | _=>False
theorem aoc {κ:Type}{kvs:List (κ×V)}{vs:List (κ×Value)}(r:KV kvs vs):(!vs.isEmpty) = !kvs.isEmpty:=by
 cases r<;>rfl
theorem ahw {xs:List V}{its:List Value}(r:Vals xs its):(!its.toArray.isEmpty) = !xs.isEmpty:=by
 cases r<;>simp
theorem ag0:(sizeLine:Nat)<2 ^ 63:=by rw[sizeLine_eq];decide
theorem tru_ok:TruR X (fun x H Q=>∃ k,TruV X.K x H k/\Q k H):=by
 intro pins s σ H x v Q I rx h;obtain⟨k,e,q⟩:=h;have hl:=ag0;have hs:sizeLine=16777216:=sizeLine_eq;cases x with
 | non =>
  cases rx;have e':k=false:=e;subst e';exact truthy_none ⟨H,I,q⟩
 | bl b =>
  cases rx;have e':k=b:=e;subst e';exact wpAny_truthy_bool ⟨H,I,q⟩
 | int i =>
  obtain⟨t,rfl⟩:=rx;have e':k=(i != 0):=e;subst e';exact PySem.P.truthy_int ⟨H,I,q⟩
 | str y =>
  obtain⟨t,rfl⟩:=rx;obtain⟨hy,e'⟩:y.length<=sizeLine/\k=((y.length:Int) != 0):=e;subst e';exact PySem.P.truthy_str (by omega) ⟨H,I.tok _,q⟩
 | byt y =>
  obtain⟨t,rfl⟩:=rx;obtain⟨hy,e'⟩:y.size<=sizeLine/\k=((y.size:Int) != 0):=e;subst e';exact PySem.W.truthy_bytes (by omega) ⟨H,I.tok _,q⟩
 | ref p =>
  cases rx;have e':(∃ xs,SqL X.K H p xs/\k = !xs.isEmpty)\/(∃ xs,SqT X.K H p xs/\k = !xs.isEmpty)\/∃ kvs,H p=some (.dK kvs)/\k = !kvs.isEmpty:=e;rcases e' with⟨xs,hx,e'⟩ | ⟨xs,hx,e'⟩ | ⟨kvs,hx,e'⟩
  ·subst e';obtain⟨its,r,pl,hz⟩:=I.list hx;have hlen:=r.length;exact wpAny_truthy_list pl.isList (by simp only[List.size_toArray];omega) ⟨H,I.tok _,by rw[ahw r];exact q⟩
  ·subst e';obtain⟨its,r,pl,hz⟩:=I.tuple hx;have hlen:=r.length;exact truthy_tuple pl (by simp only[List.size_toArray];omega) ⟨H,I.tok _,by rw[ahw r];exact q⟩
  ·subst e';obtain⟨hz,hS,vs,r,m⟩:kvs.length<=sizeLine/\(p == sysModules)=false/\∃ vs,KV kvs vs/\s.heap.DictOf (abh X.prog X.w) p vs:=I.hok p _ hx;have hlen:kvs.length=vs.length:=Paired.length r;exact wpAny_truthy_dict hS m (by omega) ⟨H,I.tok _,by rw[aoc r];exact q⟩
 | _=>exact (show False from e).elim
theorem ary (ha:PE X a ta) (he:∀ whole,isTrue a X.env whole=(do let v ← whole;standAt a.pos;holding [v] (truthy v))) :
  PT X a (fun σ H Q=>ta σ H fun x H'=>∃ k,TruV X.K x H' k/\Q k H'):=by
 intro pins s σ H Q I h;exact isTrue_plain (thn (ha pins s σ H _ I h) fun v s1 ⟨x,H1,I1,r1,q1⟩=>tru_ok pins s1 σ H1 x v Q I1 r1 q1) (he _)
theorem aay:OpR X (binaryOp .Add) (fun x y H Q=>∃ i j,x = .str i/\y = .str j/\i.length+j.length<=sizeLine/\Q (.str (i++j)) H):=by
 intro pins s σ H x y v u Q I rx ry h;obtain⟨i,j,rfl,rfl,hz,q⟩:=h;obtain⟨t,rfl⟩:=rx;obtain⟨t',rfl⟩:=ry;exact add_str (fun t' tk=>⟨.str (i++j),H,I.tok _,⟨_,rfl⟩,q⟩) hz
def as1 (b:Expr):Prop:=∀ o i,subscripted b false o i=operate [o,i] (getItem o i)
theorem af0 {x:V}{us:List Value}(r:Vals [x] us):∃ u,us=[u]/\RelV x u:=by
 cases r with
 | cons r1 r2=>cases r2;exact⟨_,rfl,r1⟩
theorem am6 {x y:V}{us:List Value}(r:Vals [x,y] us):∃ u w',us=[u,w']/\RelV x u/\RelV y w':=by
 cases r with
 | cons r1 r2 =>
  cases r2 with
  | cons r3 r4=>cases r4;exact⟨_,_,rfl,r1,r3⟩
theorem ao0 (hc:X.calm=true):ab6 X (.builtin "max") (fun xs H Q=>∃ i j,xs=[.int i,.int j]/\Q (.int (if j>i then j else i)) H):=by
 intro pins s σ H xs us Q I r h;obtain⟨i,j,rfl,q⟩:=h;obtain⟨u,w',rfl,⟨t,rfl⟩,⟨t',rfl⟩⟩:=am6 r;refine max_two_ints (I.ok.hd hc) fun h' tk k=>⟨_,H,I.kept k,?_,q⟩
 by_cases hj:j>i
 ·rw[if_pos hj,if_pos hj];exact⟨_,rfl⟩
 ·rw[if_neg hj,if_neg hj];exact⟨_,rfl⟩
theorem akh (hc:X.calm=true):ab6 X (.builtin "min") (fun xs H Q=>∃ i j,xs=[.int i,.int j]/\Q (.int (if j<i then j else i)) H):=by
 intro pins s σ H xs us Q I r h;obtain⟨i,j,rfl,q⟩:=h;obtain⟨u,w',rfl,⟨t,rfl⟩,⟨t',rfl⟩⟩:=am6 r;refine min_two_ints (I.ok.hd hc) fun h' tk k=>⟨_,H,I.kept k,?_,q⟩
 by_cases hj:j<i
 ·rw[if_pos hj,if_pos hj];exact⟨_,rfl⟩
 ·rw[if_neg hj,if_neg hj];exact⟨_,rfl⟩
theorem aqo:ab6 X (.type "int") (fun xs H Q=>(∃ i,xs=[.int i]/\Q (.int i) H)\/∃ k,xs=[.bl k]/\Q (.int (if k then 1 else 0)) H):=by
 intro pins s σ H xs us Q I r h;rcases h with⟨i,rfl,q⟩ | ⟨k,rfl,q⟩
 ·obtain⟨u,rfl,t,rfl⟩:=af0 r;exact call_int_int ⟨.int i,H,I,⟨_,rfl⟩,q⟩
 ·obtain⟨u,rfl,r1⟩:=af0 r;cases r1;exact call_int_bool ⟨.int (if k then 1 else 0),H,I.tok _,⟨_,rfl⟩,q⟩
end
structure ObjM (h:Heap) (x dx C:Addr) (mA:Str->Option Value):Prop where
 obj:h.get? x=some (PySem.W.instObj C dx)
 ns:h.Ns1 dx mA
 ne:dx≠x
theorem ap0 {h:Heap}{dx:Addr}{mA:Str->Option Value}(n:h.Ns1 dx mA):∃ od,h.get? dx=some od/\∀ name,PySem.W.lookIn name od=some (mA name):=by
 obtain⟨o,es,ep,ho,hd,hk,_,hm⟩:=n;refine⟨o,ho,fun name=>?_⟩;have e:=hm name;unfold nsFind findBy at e;rw[← Array.find?_toList] at e;unfold PySem.W.lookIn;rw[hd];dsimp only;split
 ·rename_i y q
  rw[q] at e;exact congrArg some e
 ·rename_i q
  rw[q] at e;have a:es.toList.any (·.refKey)=false:=by
   rw[List.any_eq_false];intro y hy;obtain⟨z,t,hkey⟩:=hk y (Array.mem_toList_iff.mp hy);simp[DictEntry.refKey,hkey]
  have a':¬ es.toList.any (·.refKey)=true:=by rw[a];exact Bool.false_ne_true
  rw[if_neg a'];exact congrArg some e
theorem ObjM.look {h:Heap}{x dx C:Addr}{mA:Str->Option Value}(I:ObjM h x dx C mA):∃ od,PySem.W.InstAt h x (PySem.W.instObj C dx) C (some od)/\∀ name,PySem.W.lookIn name od=some (mA name) :=
 let ⟨od,ho,hl⟩:=ap0 I.ns
 ⟨od,⟨I.obj,rfl,rfl,ho⟩,hl⟩
theorem RelO.some_of {v:V}{o:Option Value}(r:RelO (some v) o):∃ u,o=some u/\RelV v u:=by
 cases o with
 | none=>exact (show False from r).elim
 | some u=>exact⟨u,rfl,r⟩
section
variable {P:Program}{w:World}{H H':Hp}{h h':Heap}{a C dx:Addr}{fs fs':List (Str×V)}
theorem avu (hok:HOk P w H h) (e:H a=some (.ins C dx fs)):∃ mA,ObjM h a dx C mA/\(∀ f,RelO (fs.lookup f) (mA f))/\PySem.Within mA (fs.map (·.1))/\fs.length<=1000/\H dx=some (.own a):=by
 obtain⟨d,z,ne,ob,mA,n,r,q⟩:=(show ab7 P w H h a (.ins C dx fs) from hok a _ e);exact⟨mA,⟨ob,n,ne⟩,r,q,z,d⟩
end
structure Cls (K:PySem.W.Frag) (C:Addr):Prop where
 pg:PySem.W.plainGet K C Str.empty=true
 hd:PySem.W.hasDictIn K C=true
 po:PySem.W.plainOver K C=true
 sa:PySem.W.findIn K (.ref C) "__setattr__" = some (some (.builtin "object.__setattr__"))
theorem Cls.get {K:PySem.W.Frag}{C:Addr}(c:Cls K C) (f:Str):PySem.W.plainGet K C f=true:=c.pg
section
variable {X:Cx}{pins:List (Addr×Obj)}{σ:St}{H:Hp}{s:Shared}{A:Around}{E:Value->Shared->Prop}{Q:Value->Shared->Prop}{c:Value}{b:Bool}
inductive TyOf (K:PySem.W.Frag) (H:Hp):V->Value->Prop where
 | non:TyOf K H .non (.type "NoneType")
 | bl (x:Bool):TyOf K H (.bl x) (.type "bool")
 | int (i:Int):TyOf K H (.int i) (.type "int")
 | str (x:Str):TyOf K H (.str x) (.type "str")
 | flt (x:UInt64):TyOf K H (.flt x) (.type "float")
 | lst {a:Addr} {xs:List V} (e:H a=some (.lst xs)):TyOf K H (.ref a) (.type "list")
 | frz {a:Addr} {o:Obj} {xs:List V} (e:H a=some (.frz o (.lst xs))):TyOf K H (.ref a) (.type "list")
 | tup {a:Addr} {xs:List V} (e:H a=some (.tup xs)):TyOf K H (.ref a) (.type "tuple")
 | dK {a:Addr} {kvs:List (Key×V)} (e:H a=some (.dK kvs)):TyOf K H (.ref a) (.type "dict")
 | dT {a:Addr} {kvs:List (List Key×V)} (e:H a=some (.dT kvs)):TyOf K H (.ref a) (.type "dict")
 | ins {a C dx:Addr} {fs:List (Str×V)} (e:H a=some (.ins C dx fs)) (cl:Cls K C) (ha:PySem.W.findIn K (.ref C) "__class__" = some (some (.builtin "object.__class__")))
   (hn:PySem.W.specialIn K (.builtin "object.__class__") "__get__" = some (some (.builtin "getset_descriptor.__get__"))) (htk:PySem.W.takesIn K (.builtin "object.__class__")=some true)
   (hm:PySem.W.mroIn K C (.type "object")=some true):TyOf K H (.ref a) (.ref C)
theorem api {x:V}{u t:Value}(I:Inv X pins σ H s) (rx:RelV x u) (ty:TyOf X.K H x t) (e:PySem.W.kitOne X.K t c=some b) (h:∀ tk,Q (.bool b) { s with toks:=tk }) :
  wpAny (model X.prog X.w) A (call (.builtin "isinstance") [u,c]) Q E s:=by
 cases ty with
 | non=>cases (show u=Value.none from rx);exact PySem.W.kia_one PySem.W.kitx_none I.kIn True.intro e (fun z=>nomatch z) h
 | bl y=>cases (show u=Value.bool y from rx);exact PySem.W.kia_one PySem.W.kitx_bool I.kIn True.intro e (fun z=>nomatch z) h
 | int i=>obtain⟨t,q⟩:=(show ∃ t,u=Value.int i t from rx);cases q;exact PySem.W.kia_one PySem.W.kitx_int I.kIn True.intro e (fun z=>nomatch z) h
 | str y=>obtain⟨t,q⟩:=(show ∃ t,u=Value.str y t from rx);cases q;exact PySem.W.kia_one PySem.W.kitx_str I.kIn True.intro e (fun z=>nomatch z) h
 | flt y=>obtain⟨t,q⟩:=(show ∃ t,u=Value.float y t from rx);cases q;exact PySem.W.kia_one PySem.W.kitx_float I.kIn True.intro e (fun z=>nomatch z) h
 | @lst a xs ea =>
  cases (show u=Value.ref a from rx);obtain⟨_,_,n,_,h1⟩:=(show ab7 X.prog X.w H s.heap a (.lst xs) from I.hok a _ ea);exact PySem.W.kia_one PySem.W.kitx_list I.kIn ⟨_,h1,rfl⟩ e (fun z=>nomatch z) h
 | @frz a ob xs ea =>
  cases (show u=Value.ref a from rx);obtain⟨_,_,_,n,_,h1⟩:=(show ab7 X.prog X.w H s.heap a (.frz ob (.lst xs)) from I.hok a _ ea);exact PySem.W.kia_one PySem.W.kitx_list I.kIn ⟨_,h1,rfl⟩ e (fun z=>nomatch z) h
 | @tup a xs ea =>
  cases (show u=Value.ref a from rx);obtain⟨_,_,_,p,_⟩:=(show ab7 X.prog X.w H s.heap a (.tup xs) from I.hok a _ ea);obtain⟨o,h1,h2,_⟩:=p;exact PySem.W.kia_one PySem.W.kitx_tuple I.kIn ⟨o,h1,h2⟩ e (fun z=>nomatch z) h
 | @dK a kvs ea =>
  cases (show u=Value.ref a from rx);obtain⟨_,_,vs,_,p⟩:=(show ab7 X.prog X.w H s.heap a (.dK kvs) from I.hok a _ ea);obtain⟨o,es,ep,h1,h2,_⟩:=p;exact PySem.W.kia_one PySem.W.kitx_dict I.kIn ⟨o,h1,h2.1⟩ e (fun z=>nomatch z) h
 | @dT a kvs ea =>
  cases (show u=Value.ref a from rx);obtain⟨_,_,xs,_,o,es,ep,h1,h2,_⟩:=(show ab7 X.prog X.w H s.heap a (.dT kvs) from I.hok a _ ea);exact PySem.W.kia_one PySem.W.kitx_dict I.kIn ⟨o,h1,h2.1⟩ e (fun z=>nomatch z) h
 | @ins a C dx fs ea cl ha hn htk hm =>
  cases (show u=Value.ref a from rx);obtain⟨mA,O,_⟩:=avu I.hok ea;obtain⟨od,J,_⟩:=O.look;exact PySem.W.kia_one (PySem.W.kitx_own (cl.get _) cl.hd ha hn htk hm) I.kIn J e (fun z=>nomatch z) h
end
structure Room (k:Nat) (A:Around):Prop where
 hd:A.handled=none
 dp:A.depth+3*k+5<recursionLimit
 un:A.units+16*k+200<cLine
theorem Room.mono {j k:Nat}{A:Around}(r:Room k A) (h:j<=k):Room j A:=⟨r.hd,by have:=r.dp;omega,by have:=r.un;omega⟩
theorem Room.deeper {k:Nat}{A:Around}(r:Room (k+1) A) (env:Env):Room k (A.deeper env) :=
 ⟨r.hd,by have:=r.dp;show A.depth+1+3*k+5<_;omega,by have:=r.un;show A.units+3+16*k+200<_;omega⟩
theorem am9 {A:Around}{C:Addr}{us:List Value}{kw:List (Str×Value)}:(A.under (.builtin "type.__call__" ⟨.ref C::us,kw⟩)).depth=A.depth+1:=by
 first | rfl | simp[Around.under,Code.weight,Code.isCreation,Code.isGuard,Code.isCaller,Code.frames,Code.isFrame,guardIds]
theorem anc {A:Around}{C:Addr}{us:List Value}{kw:List (Str×Value)}:(A.under (.builtin "type.__call__" ⟨.ref C::us,kw⟩)).units=A.units+1:=by
 first | rfl | simp[Around.under,Code.cUnits,Code.frames,Code.isFrame]
theorem Room.make {k:Nat}{A:Around}(r:Room (k+1) A) (C:Addr) (us:List Value) (kw:List (Str×Value)):Room k (A.under (.builtin "type.__call__" ⟨.ref C::us,kw⟩)) :=
 ⟨r.hd,by have:=r.dp;rw[am9];omega,by have:=r.un;rw[anc];omega⟩
theorem Room.depth {k:Nat}{A:Around}(r:Room k A):A.depth<recursionLimit:=by have:=r.dp;omega
theorem Room.units {k:Nat}{A:Around}(r:Room k A):A.units+64<cLine:=by have:=r.un;omega
def tNil:TA:=fun _ H Q=>Q [] H
def ajo (ta:TE) (tr:TA):TA:=fun σ H Q=>ta σ H fun x H1=>tr σ H1 fun xs H2=>Q (x::xs) H2
section
variable {X:Cx}{e:Expr}{es:List Expr}{te:TE}{t:TA}{pos:Pos}
theorem aad:PA X [] tNil:=fun _ _ _ _ H Q I h=>Calls.spliced_nil ⟨[],H,I,.nil,h⟩
theorem adr (ha:PE X e te) (hr:PA X es t) (hs:starEach (e::es) X.env=(false,eval e X.env)::starEach es X.env:=by rfl):PA X (e::es) (ajo te t):=by
 intro pos pins s σ H Q I h;rw[hs];show wpAny _ _ (spliced ((false,eval e X.env)::backTo pos (starEach es X.env))) _ _ s;refine Calls.spliced_cons (thn (ha pins s σ H _ I h) fun u s1 ⟨x,H1,I1,r1,q1⟩=>?_);exact thn (hr pos pins s1 σ H1 _ I1 q1) fun us s2 ⟨xs,H2,I2,r2,q2⟩=>⟨x::xs,H2,I2,.cons r1 r2,q2⟩
def tTup (t:TA):TE:=fun σ H Q=>t σ H fun xs H1=>xs.length<=sizeLine/\∀ p,H1 p=none->Q (.ref p) (upd H1 p (.tup xs))
def tLst (t:TA):TE:=fun σ H Q=>t σ H fun xs H1=>xs.length<=sizeLine/\∀ p,H1 p=none->Q (.ref p) (upd H1 p (.lst xs))
theorem adz {x1}(h:PA X es t):PE X (.Tuple es x1 pos) (tTup t):=by
 intro pins s σ H Q I hq;refine wpAny_Tuple_spliced (thn (h pos pins s σ H _ I hq) fun us s1 ⟨xs,H1,I1,r,z,q⟩=>⟨by rw[← r.length];exact z,?_⟩);have hf:H1 s1.heap.objs.size=none:=I1.hok.fresh (Nat.le_refl _);refine⟨.ref s1.heap.objs.size,upd H1 s1.heap.objs.size (.tup xs),I1.laid (t':=s1.toks) (fun b u e=>Heap.get?_push_of_some _ e) (Nat.le_refl _) ?_,rfl,q _ hf⟩;exact⟨z,us,r,⟨_,Heap.get?_push_size _ rfl,rfl,_,rfl⟩,_,Heap.get?_push_size _ rfl,rfl⟩
theorem aaz (h:PA X es t):PE X (.List es pos) (tLst t):=by
 intro pins s σ H Q I hq;refine wpAny_List_spliced (thn (h pos pins s σ H _ I hq) fun us s1 ⟨xs,H1,I1,r,z,q⟩=>⟨by rw[← r.length];exact z,?_⟩);have hf:H1 s1.heap.objs.size=none:=I1.hok.fresh (Nat.le_refl _);refine⟨.ref s1.heap.objs.size,upd H1 s1.heap.objs.size (.lst xs),I1.laid (t':=s1.toks) (fun b u e=>Heap.get?_push_of_some _ e) (Nat.le_refl _) ?_,rfl,q _ hf⟩;exact⟨z,us,0,r,Heap.get?_push_size _ rfl⟩
end
abbrev Sp:=List V->Hp->VK->XK->Prop
abbrev CXT:=List Env->Hp->Shared->XK->Value->Shared->Prop
structure Env0 (P:Program) (w:World) (K:PySem.W.Frag) (mg:Str->Option Value) (base:Heap) (A:Around) (outer:List Env) (s:Shared) (H:Hp):Prop where
 frames:A.frames=some outer
 mod:Mod K mg base
 bs:∀ b o,base.get? b=some o->s.heap.get? b=some o/\H b=none
 bsz:base.objs.size<=s.heap.objs.size
 funs:s.heap.FunFrames base outer
 frf:∀ b∈frs outer,H b=none
 hok:HOk P w H s.heap
 bare:AllBare s.gens
def CE (outer:List Env) (P:Program) (w:World) (H:Hp) (s:Shared) (Q:VK) (u:Value) (s':Shared):Prop :=
 ∃ v H',s'.os=s.os/\AllBare s'.gens/\Un (frs outer) [] H H' s.heap s'.heap/\HOk P w H' s'.heap/\RelV v u/\Q v H'
def CR (CX:CXT) (outer:List Env) (P:Program) (w:World) (H:Hp) (s:Shared) (Q:VK) (E:XK) (r:Result) (s':Shared):Prop :=
 match r with
 | .ok (.ret u)=>CE outer P w H s Q u s'
 | .ok _=>False
 | .error e=>CX outer H s E e s'
structure FnOk (P:Program) (w:World) (K:PySem.W.Frag) (mg:Str->Option Value) (base:Heap) (CX:CXT) (k:Nat) (f:Addr) (fd:FuncData) (ps:List Str) (sp:Sp):Prop where
 len:∀ vs H Q E,sp vs H Q E->vs.length=ps.length
 run:∀ (A:Around) (outer:List Env) (s:Shared) (H:Hp) (args:Args) (us:List Value) (vs:List V) (Q:VK) (E:XK),Room k A->Env0 P w K mg base A outer s H->BindsTo s fd args (ps.zip us)->Vals vs us->sp vs H Q E ->
  codeAny (model P w) A (.call (.ref f) args) (CR CX outer P w H s Q E) s
theorem FnOk.imp {P:Program}{w:World}{K:PySem.W.Frag}{mg:Str->Option Value}{base:Heap}{CX:CXT}{k:Nat}{f:Addr}{fd:FuncData}{ps:List Str}{sp sp':Sp}(F:FnOk P w K mg base CX k f fd ps sp)
  (h:∀ vs H Q E,sp' vs H Q E->sp vs H Q E):FnOk P w K mg base CX k f fd ps sp' :=
 ⟨fun vs H Q E q=>F.len vs H Q E (h _ _ _ _ q),fun A outer s H args us vs Q E hr he hb hv hs=>F.run A outer s H args us vs Q E hr he hb hv (h _ _ _ _ hs)⟩
theorem Env0.make {P:Program}{w:World}{K:PySem.W.Frag}{mg:Str->Option Value}{base:Heap}{A:Around}{outer:List Env}{s:Shared}{H:Hp}(e:Env0 P w K mg base A outer s H) (C:Addr) (us:List Value) (kw:List (Str×Value)) :
  Env0 P w K mg base (A.under (.builtin "type.__call__" ⟨.ref C::us,kw⟩)) outer s H:=⟨by first | exact e.frames | (simpa [Around.under,Code.envs,Code.isFrame,pushEnvs] using e.frames),e.mod,e.bs,e.bsz,e.funs,e.frf,e.hok,e.bare⟩
section
variable {X:Cx}{pins:List (Addr×Obj)}{σ:St}{H:Hp}{s s':Shared}
theorem Inv.env0 (I:Inv X pins σ H s):Env0 X.prog X.w X.K X.mg X.base X.A X.stack s H :=
 ⟨I.ok.frames,I.ok.mod,I.bs,Nat.le_trans I.ok.bsz I.sz,I.stack,I.stkFree,I.hok,I.bare⟩
theorem Inv.after {Q:VK}{u:Value}(I:Inv X pins σ H s) (h:CE X.stack X.prog X.w H s Q u s'):EP X pins σ Q u s':=by
 obtain⟨v,H',os,bare,un,hok,r,q⟩:=h;obtain⟨hh,g,d,t,os'⟩:=s';obtain rfl:os'=s.os:=os;exact⟨v,H',I.call (h':=hh) (g':=g) (d':=d) (t':=t) (ch:=[]) un hok bare (fun b z=>absurd z (by simp)),r,q⟩
end
def tCall (sp:Sp) (dvs:List V) (E:XK) (t:TA):TE:=fun σ H Q=>t σ H fun vs H1=>sp (vs++dvs) H1 Q E
def aeg (K:PySem.W.Frag) (fd:FuncData) (ps:List Str) (ds:List Value):Prop :=
 ∀ (s:Shared) (us:List Value),K.In s.heap->(us++ds).length=ps.length->BindsTo s fd ⟨us,[]⟩ (ps.zip (us++ds))
theorem aeg.all {K:PySem.W.Frag}{fd:FuncData}{ps:List Str}(h:∀ us:List Value,us.length=ps.length->bindArgs fd ⟨us,[]⟩=pure (ps.zip us)):aeg K fd ps []:=fun s us _ hl=>by
 rw[List.append_nil] at hl ⊢;exact .of_eq (h us hl)
def agb (CX:CXT) (X:Cx) (E:XK):Prop:=∀ (pins:List (Addr×Obj)) (σ:St) (H:Hp) (s:Shared) (e:Value) (s':Shared),Inv X pins σ H s->CX X.stack H s E e s'->X.xe e s'
section
variable {X:Cx}{CX:CXT}{k:Nat}{f C:Addr}{fd:FuncData}{ps:List Str}{sp:Sp}{dvs:List V}{ds:List Value}{E:XK}{x m:Str}{p pos apos:Pos}{e o:Expr}{es:List Expr}{ta:TE}{t:TA}
theorem as8 {pins:List (Addr×Obj)}{σ:St}{H:Hp}{s:Shared}{Q:VK}{us:List Value}{vs:List V}(F:FnOk X.prog X.w X.K X.mg X.base CX k f fd ps sp) (hr:Room k X.A) (hb:aeg X.K fd ps ds) (hd:Vals dvs ds) (hx:agb CX X E)
  (I:Inv X pins σ H s) (r:Vals vs us) (h:sp (vs++dvs) H Q E):wpAny (model X.prog X.w) X.A (call (.ref f) us) (EP X pins σ Q) X.xe s:=by
 have r2:Vals (vs++dvs) (us++ds):=r.append hd;have hl:(us++ds).length=ps.length:=by rw[← r2.length];exact F.len _ _ _ _ h
 refine wpAny_call (codeAny_mono (F.run X.A X.stack s H ⟨us,[]⟩ (us++ds) (vs++dvs) Q E hr I.env0 (hb s us I.kIn hl) r2 h) fun r s' hq=>?_);cases r with
 | error e=>exact hx pins σ H s e s' I hq
 | ok fl =>
  cases fl with
  | ret u=>exact I.after hq
  | next=>exact False.elim hq
  | brk=>exact False.elim hq
  | cont=>exact False.elim hq
theorem aak (F:FnOk X.prog X.w X.K X.mg X.base CX k f fd ps sp) (hr:Room k X.A) (hg:Gl X x) (hm:X.mg x=some (.ref f)) (hk:PySem.W.keepIn X.K (.ref f)=true) (hb:aeg X.K fd ps ds) (hd:Vals dvs ds) (hx:agb CX X E)
  (ha:PA X (e::es) t) (hdb:(x == ("__debug__" : Str))=false:=by decide) (he:starEach (e::es) X.env=(false,eval e X.env)::starEach es X.env:=by rfl) (hpl:(backTo pos (starEach es X.env)).any (·.1)=false:=by rfl) :
  PE X (.Call (.Name x p) (e::es) [] pos) (tCall sp dvs E t):=by
 intro pins s σ H Q I h;refine wpAny_Call_Name_kw (aec I hg hm ?_ hdb);refine PySem.W.callWith_K (h₀:=X.base) I.ok.mod.kin hk (thn (ha pos pins s σ H _ I h) fun us s1 ⟨vs,H1,I1,r,q⟩=>⟨I1.kIn,?_⟩) he hpl;exact as8 F hr hb hd hx I1 r q
theorem ame (F:FnOk X.prog X.w X.K X.mg X.base CX k f fd ps sp) (hr:Room k X.A) (hg:Gl X x) (hm:X.mg x=some (.ref f)) (hk:PySem.W.keepIn X.K (.ref f)=true) (hb:aeg X.K fd ps ds) (hd:Vals dvs ds) (hx:agb CX X E)
  (hdb:(x == ("__debug__" : Str))=false:=by decide):PE X (.Call (.Name x p) [] [] pos) (tCall sp dvs E tNil):=by
 intro pins s σ H Q I h;refine wpAny_Call_Name_kw (aec I hg hm ?_ hdb);exact PySem.W.callWith_K0 I.kIn hk (as8 (us:=[]) F hr hb hd hx I .nil h)
end
structure FnScope (N P:List Str) (sc:Scope):Prop where
 kind:sc.kind = .function
 co:sc.isCoroutine=false
 gen:sc.isGenerator=false
 nd:N.Nodup
 pre:N.take P.length=P
 par:∀ x∈P,sc.names.lookup x=some .local\/sc.names.lookup x=some .cell
 nofree:∀ y∈sc.names,y.2 ≠ .free
theorem aki {kindOf:Str->Option NameKind}{x:Str}:∀ {binds:List (Str×Value)}{m:Str->Option Value},(∀ v,(x,v)∉binds)->bindL kindOf binds m x=m x
 | [],_,_=>rfl
 | (n,v)::r,m,h=>by
  unfold bindL;rw[aki fun w hw=>h w (List.mem_cons_of_mem _ hw)];split
  ·have:x≠n:=by rintro rfl;exact h v List.mem_cons_self
   simp[this]
  ·rfl
theorem akp {kindOf:Str->Option NameKind}{x:Str}:∀ {binds:List (Str×Value)}{m:Str->Option Value},(∀ v,(x,v)∉binds)->bindC kindOf binds m x=m x
 | [],_,_=>rfl
 | (n,v)::r,m,h=>by
  unfold bindC;rw[akp fun w hw=>h w (List.mem_cons_of_mem _ hw)];split
  ·rfl
  ·have:x≠n:=by rintro rfl;exact h v List.mem_cons_self
   simp[this]
theorem aj4 {kindOf:Str->Option NameKind}{x:Str}{v:Value}:∀ {P:List Str}{vs:List Value}{i:Nat}{m:Str->Option Value},P.Nodup->P[i]?=some x->vs[i]?=some v->kindOf x=some .local ->
  bindL kindOf (P.zip vs) m x=some v
 | [],_,_,_,_,h,_,_=>by simp at h
 | _::_,[],_,_,_,_,h,_=>by simp at h
 | p::P,w::vs,0,m,nd,h1,h2,hk=>by
  simp at h1 h2;subst h1;subst h2;show bindL kindOf ((p,w)::P.zip vs) m p=_;unfold bindL;rw[aki fun v hv=>(List.nodup_cons.mp nd).1 (List.of_mem_zip hv).1,if_pos hk];simp
 | p::P,w::vs,i+1,m,nd,h1,h2,hk=>by
  show bindL kindOf ((p,w)::P.zip vs) m x=_;unfold bindL;exact aj4 (i:=i) (List.nodup_cons.mp nd).2 (by simpa using h1) (by simpa using h2) hk
theorem akw {kindOf:Str->Option NameKind}{x:Str}{v:Value}:∀ {P:List Str}{vs:List Value}{i:Nat}{m:Str->Option Value},P.Nodup->P[i]?=some x->vs[i]?=some v->kindOf x≠some .local ->
  bindC kindOf (P.zip vs) m x=some v
 | [],_,_,_,_,h,_,_=>by simp at h
 | _::_,[],_,_,_,_,h,_=>by simp at h
 | p::P,w::vs,0,m,nd,h1,h2,hk=>by
  simp at h1 h2;subst h1;subst h2;show bindC kindOf ((p,w)::P.zip vs) m p=_;unfold bindC;rw[akp fun v hv=>(List.nodup_cons.mp nd).1 (List.of_mem_zip hv).1,if_neg hk];simp
 | p::P,w::vs,i+1,m,nd,h1,h2,hk=>by
  show bindC kindOf ((p,w)::P.zip vs) m x=_;unfold bindC;exact akw (i:=i) (List.nodup_cons.mp nd).2 (by simpa using h1) (by simpa using h2) hk
def start (N:List Str) (vs:List V):St:=vs.map some++List.replicate (N.length-vs.length) none
def cxOf (CX:CXT) (P:Program) (w:World) (K:PySem.W.Frag) (mg:Str->Option Value) (base:Heap) (N:List Str) (qual:Str) (scope:Scope) (f:Addr) (cd:Value) (A:Around) (outer:List Env) (s:Shared) (H:Hp) (E:XK):Cx where
 prog:=P
 w:=w
 K:=K
 mg:=mg
 base:=base
 A:=A.deeper (envOfC qual scope s.heap.objs.size f cd)
 N:=N
 s₀:=s
 H₀:=H
 env:=envOfC qual scope s.heap.objs.size f cd
 outer:=outer
 stack:=envOfC qual scope s.heap.objs.size f cd::outer
 ex:=[]
 calm:=true
 fn:=fun _=>true
 pn:=[]
 xe:=fun e s'=>wpAny (model P w) (A.deeper (envOfC qual scope s.heap.objs.size f cd)) (leaving (envOfC qual scope s.heap.objs.size f cd) e) (fun _ s''=>CX outer H s E e s'') (fun e' s''=>CX outer H s E e' s'') s'
theorem al3 {sc:Scope}{n:Nat}{x:Str}(h:sc.names.lookup x=some .cell):∃ c,(cellsFrom n sc.names []).lookup x=some c:=by
 have q:=PySem.W.cellsFrom_some sc.names n [] (.inl h);exact Option.isSome_iff_exists.mp q
theorem ak2 {CX:CXT}{P:Program}{w:World}{K:PySem.W.Frag}{mg:Str->Option Value}{base:Heap}{N ps:List Str}{qual:Str}{scope:Scope}{f:Addr}{cd:Value}{A:Around}{outer:List Env}{s s1:Shared}{H:Hp}{E:XK}{us:List Value}{vs:List V}
  (S:FnScope N ps scope) (hd:A.handled=none) (e0:Env0 P w K mg base A outer s H) (hl:vs.length=ps.length) (r:Vals vs us)
  (x:InCallC s s.heap.objs.size (bindL (envOfC qual scope s.heap.objs.size f cd).kindOf (ps.zip us) fun _=>none) (cellsFrom (s.heap.objs.size+1) scope.names []) (bindC (envOfC qual scope s.heap.objs.size f cd).kindOf (ps.zip us) fun _=>none) s1) :
  Inv (cxOf CX P w K mg base N qual scope f cd A outer s H E) [] (start N vs) H s1:=by
 have hpl:ps.length<=N.length:=by have:=congrArg List.length S.pre;rw[List.length_take] at this;omega
 obtain⟨h1,tk,rfl,hk⟩:=x.done;have noA:∀ b:Addr,b∉(cxOf CX P w K mg base N qual scope f cd A outer s H E).ex:=fun b z=>absurd (show b∈([]:List Addr) from z) (by simp)
 refine⟨⟨e0.mod,S.kind,rfl,rfl,Nat.le_refl _,fun y z c h1 h2=>?_,fun y hy=>?_,fun y c _ h=>?_,fun _=>hd,Around.frames_deeper e0.frames,.inr ⟨rfl,rfl⟩,fun b z=>absurd z (noA b),e0.bs,e0.bsz,fun b _ _=>noA b,fun b z=>absurd z (noA b),e0.funs,e0.frf⟩,
  rfl,e0.bare,Un.kept hk,⟨_,x.toInCall.ns,fun i y v h1 h2 h3=>?_⟩,fun y c h=>⟨_,x.cell y c h⟩,e0.hok.fresh (Nat.le_refl _),fun y c h=>?_,fun p hp=>absurd (show p∈([]:List (Addr×Obj)) from hp) (by simp),e0.hok.kept hk,?_⟩
 ·exact name_of_addr x.apart (PySem.mem_of_lookup h1) (PySem.mem_of_lookup h2)
 ·have hy:scope.names.lookup y=some .cell\/scope.names.lookup y=some .free:=hy;rcases hy with hy | hy
  ·exact al3 hy
  ·exact absurd rfl (S.nofree _ (PySem.mem_of_lookup hy))
 ·exact Nat.le_of_lt (x.above y c (PySem.mem_of_lookup h))
 ·have hi:i<vs.length:=by
   unfold start at h2;by_cases hi:i<vs.length
   ·exact hi
   ·rw[List.getElem?_append_right (by simpa using hi)] at h2;rw[List.getElem?_replicate] at h2;split at h2<;>cases h2
  have ha:vs[i]?=some v:=by
   unfold start at h2;rw[List.getElem?_append_left (by simpa using hi),List.getElem?_map] at h2;cases e:vs[i]? with
   | none=>rw[e] at h2;cases h2
   | some a=>rw[e] at h2;cases h2;rfl
  obtain⟨u,hu,rv⟩:=r.get ha;have hp:ps[i]?=some y:=by
   rw[← S.pre,List.getElem?_take_of_lt (by omega)];exact h1
  have ndP:ps.Nodup:=by rw[← S.pre];exact S.nd.sublist (List.take_sublist _ _)
  refine⟨u,rv,?_⟩;rcases S.par y (List.mem_of_getElem? hp) with k | k
  ·exact .inl ⟨k,aj4 ndP hp hu k⟩
  ·obtain⟨c,e⟩:=al3 (n:=s.heap.objs.size+1) k;refine .inr ⟨.inl k,c,e,?_⟩;have q:=x.cell y c e;rw[akw ndP hp hu (by show scope.names.lookup y≠_;rw[k];decide)] at q;exact q
 ·exact e0.hok.fresh (Nat.le_of_lt (x.above y c (PySem.mem_of_lookup h)))
 ·unfold start;show _=N.length;rw[List.length_append,List.length_map,List.length_replicate];omega
theorem fn_of {CX:CXT}{P:Program}{w:World}{K:PySem.W.Frag}{mg:Str->Option Value}{base:Heap}{k:Nat}{f:Addr}{name qual:Str}{params:Arguments}{body:List Stmt}{scope:Scope}{dV kV doc pm cdv ct oc:Value}{an od:Option Addr}
  {osl:Array (Option Value)}{N ps:List Str}{sp:Sp}(lk:K.lookup f=some ⟨oc,od,.func (PySem.W.fnOf name qual params body scope dV kV doc pm an cdv ct),osl⟩) (hcd:PySem.W.codeIn K cdv qual=true) (S:FnScope N ps scope)
  (len:∀ vs H Q E,sp vs H Q E->vs.length=ps.length)
  (hbody:∀ (A:Around) (outer:List Env) (s:Shared) (H:Hp) (vs:List V) (Q:VK) (E:XK),Room k (A.deeper (envOfC qual scope s.heap.objs.size f cdv))->sp vs H Q E ->∃ t,PSs (cxOf CX P w K mg base N qual scope f cdv A outer s H E) body t/\t { nx:=fun _ H'=>Q .non H',rt:=Q } (start N vs) H) :
  FnOk P w K mg base CX (k+1) f (PySem.W.fnOf name qual params body scope dV kV doc pm an cdv ct) ps sp:=by
 refine⟨len,fun A outer s H args us vs Q E hr e0 hb r hsp=>?_⟩;have hl:=len _ _ _ _ hsp;have KX:K.In s.heap:=e0.mod.kin.keeps fun b o e=>(e0.bs b o e).1
 have lim:s.heap.NoLimit:=e0.mod.nolimit.keeps fun b o e=>(e0.bs b o e).1
 have hkind:∀ y∈ps.zip us,scope.names.lookup y.1=some .local\/(scope.names.lookup y.1=some .cell/\((cellsFrom (s.heap.objs.size+1) scope.names []).lookup y.1).isSome=true):=fun ⟨n,v⟩ hy=>by
  rcases S.par n (List.of_mem_zip hy).1 with q | q
  ·exact .inl q
  ·exact .inr ⟨q,PySem.W.cellsFrom_some _ _ _ (.inl q)⟩
 refine codeAny_call_function hr.depth (KX _ _ lk) rfl S.co S.gen rfl (PySem.W.codeRec_of KX hcd) (hb _ _ _ _ ?_);refine wpAny_newFunctionEnv_cells S.kind hkind fun env he s1 x=>?_
 subst he;refine⟨lim.keeps x.toInCall.keep,codeAny_func ?_⟩;obtain⟨t,ht,hq⟩:=hbody A outer s H vs Q E (hr.deeper _) hsp;have I:Inv (cxOf CX P w K mg base N qual scope f cdv A outer s H E) [] (start N vs) H s1:=ak2 S hr.hd e0 hl r x;refine wpAny_mono (ht [] s1 (start N vs) H _ I hq) (fun fl s' hs=>?_) fun e s' hs=>hs
 have fin:∀ {σ':St} {H':Hp} {v:V} {u:Value},Inv (cxOf CX P w K mg base N qual scope f cdv A outer s H E) [] σ' H' s'->RelV v u->Q v H'->CE outer P w H s Q u s' :=
  fun {σ' H' v u} J rv q=>⟨v,H',J.os,J.bare,J.base,J.hok,rv,q⟩
 cases fl with
 | ret u =>
  obtain⟨v,σ',H',J,rv,q⟩:=hs;exact fin J rv q
 | next =>
  obtain⟨σ',H',J,q⟩:=hs;exact fin (v:=V.non) (u:=Value.none) J rfl q
 | brk =>
  obtain⟨_,_,_,q⟩:=hs;exact False.elim q
 | cont =>
  obtain⟨_,_,_,q⟩:=hs;exact False.elim q
section
variable {X:Cx}{x:Str}{p pos:Pos}{e:Expr}{es:List Expr}{t:TA}{id T:String}{r:List V->Hp->VK->Prop}
def tCB (r:List V->Hp->VK->Prop) (t:TA):TE:=fun σ H Q=>t σ H fun vs H1=>r vs H1 Q
theorem aam (hc:ab6 X (.builtin id) r) (hg:Gl X x) (hm:X.mg x=none) (hv:bootBuiltins x=some (.builtin id)) (ha:PA X (e::es) t) (hn:x ≠ "__name__" := by decide) (hdb:(x == ("__debug__" : Str))=false:=by decide)
  (he:starEach (e::es) X.env=(false,eval e X.env)::starEach es X.env:=by rfl) (hpl:(backTo pos (starEach es X.env)).any (·.1)=false:=by rfl):PE X (.Call (.Name x p) (e::es) [] pos) (tCB r t):=by
 intro pins s σ H Q I h;refine wpAny_Call_Name_kw (ah7 I hg hm hv ?_ hn hdb);exact PyProof.Rows.callWith_builtin1 (thn (ha pos pins s σ H _ I h) fun us s1 ⟨vs,H1,I1,r1,q1⟩=>hc pins s1 σ H1 vs us Q I1 r1 q1) he hpl
theorem aa5 (hc:ab6 X (.type T) r) (hg:Gl X x) (hm:X.mg x=none) (hv:bootBuiltins x=some (.type T)) (ha:PA X (e::es) t) (hn:x ≠ "__name__" := by decide) (hdb:(x == ("__debug__" : Str))=false:=by decide)
  (he:starEach (e::es) X.env=(false,eval e X.env)::starEach es X.env:=by rfl) (hpl:(backTo pos (starEach es X.env)).any (·.1)=false:=by rfl):PE X (.Call (.Name x p) (e::es) [] pos) (tCB r t):=by
 intro pins s σ H Q I h;refine wpAny_Call_Name_kw (ah7 I hg hm hv ?_ hn hdb);exact PyProof.Rows.callWith_type1 (thn (ha pos pins s σ H _ I h) fun us s1 ⟨vs,H1,I1,r1,q1⟩=>hc pins s1 σ H1 vs us Q I1 r1 q1) he hpl
end
end L2
namespace HT
open PySem PyProof.Rows
section
variable {prog:Program}{w:World}{A:Around}{E:Value->Shared->Prop}{s:Shared}
theorem cat_tup {t b:Addr}{vs ws:List Value}{Q:Value->Shared->Prop}(ht:IsTup s.heap t vs.toArray) (hb:IsTup s.heap b ws.toArray) (hv:vs≠[])
  (h1:ws=[]->Q (.ref t) s) (h2:ws≠[]->Q (.ref s.heap.objs.size) { s with heap:=s.heap.push { cls:=.type "tuple",data:=.seq (vs++ws).toArray } })
  (hsz:vs.length+ws.length<=sizeLine):wpAny (model prog w) A (binaryOp .Add (.ref t) (.ref b)) Q E s:=by
 obtain⟨⟨cls,dd,data,sl⟩,ho,hc,n,hd⟩:=id ht;obtain⟨⟨cls2,dd2,data2,sl2⟩,ho2,hc2,n2,hd2⟩:=id hb;simp only at hc hd hc2 hd2;subst hc hd hc2 hd2;have e:vs.toArray++ws.toArray=(vs++ws).toArray:=by simp
 by_cases hw:ws=[]
 ·exact concat_meets ⟨_,ho,rfl⟩ ⟨_,ho2,rfl⟩ noFill_tuple_add seq_tuple_add PySem.F.slot_tuple_add PySem.F.entry_tuple_add (PySem.F.args_tuple_add_2 _ _)
   (tuple_addW1 t b vs.toArray ws.toArray n n2 dd dd2 sl sl2 (by simpa using hv) (by simp[hw])) ⟨ho,ho2,h1 hw⟩
 ·refine concat_meets ⟨_,ho,rfl⟩ ⟨_,ho2,rfl⟩ noFill_tuple_add seq_tuple_add PySem.F.slot_tuple_add PySem.F.entry_tuple_add (PySem.F.args_tuple_add_2 _ _)
   (tuple_addW2 t b vs.toArray ws.toArray n n2 dd dd2 sl sl2 (by simpa using hv) (by simpa using hw) (by rw[List.size_toArray,List.size_toArray];exact hsz)) ⟨ho,ho2,?_⟩
  rw[e];exact h2 hw
def sIx (n d:Nat):Option Int->Nat
 | none=>d
 | some v=>if v<0 then (v+(n:Int)).toNat else min v.toNat n
theorem sIx_none (n d:Nat):sIx n d none=d:=rfl
theorem sIx_nat (n d k:Nat):sIx n d (some (k:Int))=min k n:=by
 show (if (k:Int)<0 then ((k:Int)+(n:Int)).toNat else min (k:Int).toNat n)=min k n;rw[if_neg (by omega),Int.toNat_natCast]
theorem sIx_le (n d:Nat) (hd:d<=n) (o:Option Int):sIx n d o<=n:=by
 cases o with
 | none=>exact hd
 | some v =>
  show (if v<0 then (v+(n:Int)).toNat else min v.toNat n)<=n;by_cases hv:v<0
  ·rw[if_pos hv];omega
  ·rw[if_neg hv];exact Nat.min_le_right _ _
theorem ao2 (v:Int) (n d:Nat):(if v<0 then max (v+(n:Int)) 0 else min v (n:Int))=((sIx n d (some v):Nat):Int):=by
 show (if v<0 then max (v+(n:Int)) 0 else min v (n:Int))=(((if v<0 then (v+(n:Int)).toNat else min v.toNat n):Nat):Int);by_cases hv:v<0
 ·simp only[if_pos hv];omega
 ·simp only[if_neg hv];omega
theorem anm (lo hi:Option Int) (n:Nat):Builtin.Slice.sliceAdjust lo hi 1 (n:Int)=(((sIx n 0 lo:Nat):Int),((sIx n n hi:Nat):Int)):=by
 have h1:¬ ((1:Int)<0):=by omega
 unfold Builtin.Slice.sliceAdjust;simp only[h1,if_false];refine Prod.ext ?_ ?_
 ·cases lo with
  | none=>rfl
  | some v=>exact ao2 v n 0
 ·cases hi with
  | none=>rfl
  | some v=>exact ao2 v n n
theorem ank (i j:Nat):Builtin.Slice.slicePlaces (i:Int) (j:Int) 1=j-i:=by
 unfold Builtin.Slice.slicePlaces;have h1:(1:Int)>0:=by omega
 simp only[h1,if_true,Int.ediv_one];split<;>omega
theorem ah2 {v:Value}{o:Option Int}{Q:Option Int->Shared->Prop}(p:IsPart v o) (h:Q o s):wpAny (model prog w) A (Builtin.Slice.slicePartIndex v) Q E s:=by
 cases p with
 | none=>exact slicePart_none h
 | int i t=>exact slicePart_int h
theorem agi {sl:Addr}{vl vu:Value}{lo hi:Option Int}{n:Nat}{Q:Int×Int×Nat->Shared->Prop}(hs:s.heap.IsSliceOf sl vl vu .none) (pl:IsPart vl lo) (pu:IsPart vu hi)
  (h:Q (((sIx n 0 lo:Nat):Int),1,sIx n n hi-sIx n 0 lo) s):wpAny (model prog w) A (Builtin.Slice.sliceApplied (.ref sl) (pure (n:Int))) Q E s:=by
 obtain⟨os,hos,hcs,hds⟩:=id hs;unfold Builtin.Slice.sliceApplied Builtin.Slice.sliceFields;refine wpAny_bind (wpAny_bind (wpAny_field hos hds (x:=vl) rfl (wpAny_bind (wpAny_field hos hds (x:=vu) rfl (wpAny_bind (wpAny_field hos hds (x:=.none) rfl (wpAny_pure ?_)))))));refine wpAny_bind (slicePart_none ?_);show wpAny _ _ (if ((1:Int) == 0)=true then _ else _) _ _ s;rw[if_neg (by decide)];refine wpAny_bind (ah2 pl (wpAny_bind (ah2 pu (wpAny_bind (wpAny_pure ?_)))));show wpAny _ _ (match Builtin.Slice.sliceAdjust lo hi 1 (n:Int) with | (lo,hi)=>pure (lo,(1:Int),Builtin.Slice.slicePlaces lo hi 1)) _ _ s;rw[anm lo hi n];show wpAny _ _ (pure (((sIx n 0 lo:Nat):Int),(1:Int),Builtin.Slice.slicePlaces ((sIx n 0 lo:Nat):Int) ((sIx n n hi:Nat):Int) 1)) _ _ s;rw[ank];exact wpAny_pure h
theorem asg (xs:Array Value) (i k:Nat):((List.range k).filterMap fun (m:Nat)=>xs[((i:Int)+(m:Int)*1).toNat]?).toArray=((xs.toList.drop i).take k).toArray:=by
 have e:(fun (m:Nat)=>xs[((i:Int)+(m:Int)*1).toNat]?)=fun m=>xs[i+m]?:=by
  funext m
  have:((i:Int)+(m:Int)*1).toNat=i+m:=by omega
  rw[this]
 rw[e];have:=pick_run xs i k;rw[List.filterMap_map] at this;have e2:((fun x=>xs[x]?)∘fun x=>i+x)=fun m=>xs[i+m]?:=rfl
 rw[e2] at this;rw[this]
theorem getItem_tuple_cut {t sl:Addr}{items:Array Value}{vl vu:Value}{lo hi:Option Int}{Q:Value->Shared->Prop}(ht:IsTup s.heap t items) (hs:s.heap.IsSliceOf sl vl vu .none) (pl:IsPart vl lo) (pu:IsPart vu hi)
  (hw:¬ (sIx items.size 0 lo=0/\sIx items.size items.size hi=items.size))
  (h:Q (.ref s.heap.objs.size) { s with heap:=s.heap.push { cls:=.type "tuple",data:=.seq ((items.toList.drop (sIx items.size 0 lo)).take (sIx items.size items.size hi-sIx items.size 0 lo)).toArray } })
  (hsz:items.size<=sizeLine):wpAny (model prog w) A (getItem (.ref t) (.ref sl)) Q E s:=by
 have htake:sizeOk (.seq ((items.toList.drop (sIx items.size 0 lo)).take (sIx items.size items.size hi-sIx items.size 0 lo)).toArray):=by
  show ((items.toList.drop (sIx items.size 0 lo)).take (sIx items.size items.size hi-sIx items.size 0 lo)).toArray.size<=sizeLine;rw[List.size_toArray,List.length_take,List.length_drop,Array.length_toList];omega
 have hj:sIx items.size items.size hi<=items.size:=sIx_le _ _ (Nat.le_refl _) hi;obtain⟨os,hos,hcs,hds⟩:=id hs;have hTs:s.TypeIs (.ref sl) "slice" := ⟨os,hos,hcs⟩;unfold getItem
 try with_reducible refine wpAny_holding ?_
 first | refine wpAny_bind (wpAny_pure ?_) | skip
 refine wpAny_bind (wpAny_sequenceKey ht.typeIs (by decide) ?_);refine wpAny_bind (wpAny_callSpecial?_slot (name:=Str.ofString "__getitem__") ht.typeIs PyProof.Rows.slot_tuple_getitem (wpAny_call_entry PyProof.Rows.slot_tuple_getitem ht.typeIs entry_tuple_getitem ?_ (args_tuple_getitem _ _)));show wpAny _ _ (Builtin.Tuple.tupleItemsOf (.ref t) >>= _) _ _ s;refine wpAny_bind (tupleItemsOf_ ht ?_);refine wpAny_bind (wpAny_typeOf hTs ?_);rw[if_pos (by decide)];refine wpAny_bind (agi hs pl pu ?_);have hno:¬ ((((sIx items.size 0 lo:Nat):Int) == 0&&(1:Int) == 1&&(sIx items.size items.size hi-sIx items.size 0 lo) == items.size)=true):=by
  intro q;rw[Bool.and_eq_true,Bool.and_eq_true] at q;have q1:((sIx items.size 0 lo:Nat):Int)=0:=eq_of_beq q.1.1;have q2:sIx items.size items.size hi-sIx items.size 0 lo=items.size:=eq_of_beq q.2;exact hw ⟨by omega,by omega⟩
 show wpAny _ _ (if (((sIx items.size 0 lo:Nat):Int) == 0&&(1:Int) == 1&&(sIx items.size items.size hi-sIx items.size 0 lo) == items.size)=true then _ else _) _ _ s;rw[if_neg hno,asg]
 first
  | exact wpAny_bind (m:=Builtin.Tuple.tupleExact _) (wpAny_newObj_type (wpAny_pure ⟨_,rfl,wpAny_pure h⟩) htake)
  | exact wpAny_bind (m:=Builtin.Tuple.tupleExact _) (wpAny_newObj_type (wpAny_bind (wpAny_pure (wpAny_pure ⟨_,rfl,wpAny_pure h⟩))) htake)
  | exact wpAny_bind (wpAny_bind (m:=Builtin.Tuple.tupleExact _) (wpAny_newObj_type (wpAny_pure (wpAny_pure ⟨_,rfl,wpAny_pure h⟩)) htake))
  | exact wpAny_bind (wpAny_bind (m:=Builtin.Tuple.tupleExact _) (wpAny_newObj_type (wpAny_pure ⟨_,rfl,wpAny_pure h⟩) htake))
end
end HT
namespace L2
open PySem PySem.Spec PyProof.Rows
abbrev TO:=St->Hp->(Option Int->Hp->Prop)->Prop
def PO (X:Cx) (e:Option Expr) (t:TO):Prop :=
 ∀ (pins:List (Addr×Obj)) (s:Shared) (σ:St) (H:Hp) (Q:Option Int->Hp->Prop),Inv X pins σ H s->t σ H Q ->
  wpAny (model X.prog X.w) X.A (evalPart e X.env) (fun u s'=>∃ o H',Inv X pins σ H' s'/\IsPart u o/\Q o H') X.xe s
def apo:TO:=fun _ H Q=>Q none H
def tPart (t:TE):TO:=fun σ H Q=>t σ H fun x H1=>∃ i,x = .int i/\Q (some i) H1
section
variable {X:Cx}{e:Expr}{te:TE}{lo hi:Option Expr}{tl th:TO}{pos p2:Pos}
theorem acm:PO X none apo:=by
 intro pins s σ H Q I h;rw[evalPart_none];exact wpAny_pure ⟨none,H,I,.none,h⟩
theorem ace (h:PE X e te):PO X (some e) (tPart te):=by
 intro pins s σ H Q I hw;rw[evalPart_some];refine thn (h pins s σ H _ I hw) fun u s1 ⟨x,H1,I1,r1,q1⟩=>?_
 obtain⟨i,rfl,q⟩:=q1;obtain⟨t,rfl⟩:=r1;exact⟨some i,H1,I1,.int i t,q⟩
def SlR (X:Cx) (r:V->Option Int->Option Int->Hp->VK->Prop):Prop :=
 ∀ (pins:List (Addr×Obj)) (s:Shared) (σ:St) (H:Hp) (x:V) (v vl vu:Value) (lo hi:Option Int) (sl:Addr) (Q:VK),Inv X pins σ H s->RelV x v->s.heap.IsSliceOf sl vl vu .none->IsPart vl lo->IsPart vu hi->r x lo hi H Q ->
  ∃ T id,typeLookup (.type T) "__getitem__" = pure (some (.builtin id))/\s.TypeIs v T/\wpAny (model X.prog X.w) X.A (getItem v (.ref sl)) (EP X pins σ Q) X.xe s
theorem SlR.or {r r':V->Option Int->Option Int->Hp->VK->Prop}(h:SlR X r) (h':SlR X r'):SlR X (fun x lo hi H Q=>r x lo hi H Q\/r' x lo hi H Q):=by
 intro pins s σ H x v vl vu lo hi sl Q I rx hs pl pu q;rcases q with q | q
 ·exact h pins s σ H x v vl vu lo hi sl Q I rx hs pl pu q
 ·exact h' pins s σ H x v vl vu lo hi sl Q I rx hs pl pu q
def tSl (r:V->Option Int->Option Int->Hp->VK->Prop) (te:TE) (tl th:TO):TE:=fun σ H Q=>te σ H fun x H1=>tl σ H1 fun l H2=>th σ H2 fun u H3=>r x l u H3 Q
theorem abr {r:V->Option Int->Option Int->Hp->VK->Prop}(hr:SlR X r) (he:PE X e te) (hl:PO X lo tl) (hu:PO X hi th):PE X (.Subscript e (.Slice lo hi none p2) pos) (tSl r te tl th):=by
 intro pins s σ H Q I h;refine Subscript_ (thn (he pins s σ H _ I h) fun v s1 ⟨x,H1,I1,r1,q1⟩=>?_);refine wpAny_Slice (thn (hl pins s1 σ H1 _ I1 q1) fun vl s2 ⟨l,H2,I2,pl,q2⟩=>thn (hu pins s2 σ H2 _ I2 q2) fun vu s3 ⟨u,H3,I3,pu,q3⟩=>?_);rw[evalPart_none];refine wpAny_pure ?_;have I4:Inv X pins σ H3 { s3 with heap:=s3.heap.push { cls:=.type "slice",data:=.fields #[vl,vu,.none] } }:=I3.kept (t':=s3.toks) fun b ob q=>Heap.get?_push_of_some _ q
 obtain⟨T,id,hT,ht,hg⟩:=hr pins { s3 with heap:=s3.heap.push { cls:=.type "slice",data:=.fields #[vl,vu,.none] } } σ H3 x v vl vu l u s3.heap.objs.size Q I4 r1 (Heap.IsSliceOf.new ..) pl pu q3;show wpAny (model X.prog X.w) X.A (subscriptTail e (.Slice lo hi none p2) v (.ref s3.heap.objs.size)) (EP X pins σ Q) X.xe { s3 with heap:=s3.heap.push { cls:=.type "slice",data:=.fields #[vl,vu,.none] } };exact tail_any (ops:=[.ref s3.heap.objs.size,v]) ht hT hg (by with_unfolding_all rfl)
def cutV (xs:List V) (lo hi:Option Int):List V:=(xs.drop (HT.sIx xs.length 0 lo)).take (HT.sIx xs.length xs.length hi-HT.sIx xs.length 0 lo)
theorem agx (xs:List V) (lo hi:Option Int):(cutV xs lo hi).length<=xs.length:=by
 unfold cutV;rw[List.length_take,List.length_drop];omega
def rSlT (K:PySem.W.Frag):V->Option Int->Option Int->Hp->VK->Prop:=fun x lo hi H Q=>∃ a xs,x = .ref a/\SqT K H a xs /\
 ¬ (HT.sIx xs.length 0 lo=0/\HT.sIx xs.length xs.length hi=xs.length)/\∀ p,H p=none->Q (.ref p) (upd H p (.tup (cutV xs lo hi)))
theorem sl_tup:SlR X (rSlT X.K):=by
 intro pins s σ H x v vl vu lo hi sl Q I rx hs pl pu h;obtain⟨a,xs,rfl,hx,hw,q⟩:=h;cases rx;obtain⟨its,r,ht,hz⟩:=I.tuple hx;have hlen:its.toArray.size=xs.length:=by rw[List.size_toArray];exact r.length.symm
 refine⟨"tuple",_,PyProof.Rows.slot_tuple_getitem.lookup,ht.typeIs,?_⟩;refine HT.getItem_tuple_cut ht hs pl pu (by rw[hlen];exact hw) ?_ (by rw[hlen];exact hz);rw[hlen];refine⟨.ref s.heap.objs.size,_,I.laid (t':=s.toks) (o:=.tup (cutV xs lo hi)) (fun b ob q=>Heap.get?_push_of_some _ q) (Nat.le_refl _) ?_,rfl,q _ (I.hok.fresh (Nat.le_refl _))⟩;exact⟨Nat.le_trans (agx xs lo hi) hz,_,(r.drop (HT.sIx xs.length 0 lo)).take (HT.sIx xs.length xs.length hi-HT.sIx xs.length 0 lo),af9.new _ _⟩
def aum (K:PySem.W.Frag):R2:=fun x y H Q=>∃ a b xs ys,x = .ref a/\y = .ref b/\SqT K H a xs/\SqT K H b ys/\xs≠[]/\xs.length+ys.length<=sizeLine /\
 (ys=[]->Q (.ref a) H)/\(ys≠[]->∀ p,H p=none->Q (.ref p) (upd H p (.tup (xs++ys))))
theorem Vals.nil_iff {xs:List V}{us:List Value}(r:Vals xs us):us=[]↔xs=[]:=by
 cases r with
 | nil=>simp
 | cons _ _=>simp
theorem al1:OpR X (binaryOp .Add) (aum X.K):=by
 intro pins s σ H x y v u Q I rx ry h;obtain⟨a,b,xs,ys,rfl,rfl,ha,hb,hx,hz,q1,q2⟩:=h;cases rx;cases ry;obtain⟨its,r1,p1,_⟩:=I.tuple ha;obtain⟨its2,r2,p2,_⟩:=I.tuple hb;refine HT.cat_tup p1 p2 (fun z=>hx (r1.nil_iff.mp z)) (fun z=>⟨.ref a,H,I,rfl,q1 (r2.nil_iff.mp z)⟩) (fun z=>?_) (by rw[← r1.length,← r2.length];exact hz);refine⟨.ref s.heap.objs.size,_,I.laid (t':=s.toks) (o:=.tup (xs++ys)) (fun b ob q=>Heap.get?_push_of_some _ q) (Nat.le_refl _) ?_,rfl,q2 (fun w=>z (r2.nil_iff.mpr w)) _ (I.hok.fresh (Nat.le_refl _))⟩;exact⟨by rw[List.length_append];exact hz,_,r1.append r2,af9.new _ _⟩
end
def ixN (n:Nat) (i:Int):Option Nat:=if 0<=i then (if i<n then some i.toNat else none) else if -(n:Int)<=i then some (i+n).toNat else none
def atI {α:Type}(xs:List α) (i:Int):Option α:=(ixN xs.length i).bind fun j=>xs[j]?
theorem ao3 {n:Nat}{i:Int}{j:Nat}(h:ixN n i=some j):seqIndex? i n=some j/\j<n/\-(n:Int)<=i/\i<n:=by
 unfold ixN at h;by_cases h0:0<=i
 ·rw[if_pos h0] at h;by_cases h1:i<n
  ·rw[if_pos h1] at h;have e:i.toNat=j:=Option.some.inj h;exact⟨by rw[seqIndex_of h0 h1,e],by omega,by omega,h1⟩
  ·rw[if_neg h1] at h;cases h
 ·rw[if_neg h0] at h;by_cases h1:-(n:Int)<=i
  ·rw[if_pos h1] at h;have e:(i+n).toNat=j:=Option.some.inj h;exact⟨by rw[seqIndex_neg (by omega) h1,e],by omega,h1,by omega⟩
  ·rw[if_neg h1] at h;cases h
theorem aln {α:Type}{xs:List α}{i:Int}{v:α}(h:atI xs i=some v):∃ j,seqIndex? i xs.length=some j/\xs[j]?=some v/\j<xs.length/\-(xs.length:Int)<=i/\i<xs.length:=by
 unfold atI at h;cases e:ixN xs.length i with
 | none=>rw[e] at h;cases h
 | some j =>
  rw[e] at h;obtain⟨h1,h2,h3,h4⟩:=ao3 e;exact⟨j,h1,h,h2,h3,h4⟩
theorem aaq {α:Type}{xs:List α}{j:Nat}{v:α}(h:xs[j]?=some v):atI xs (j:Int)=some v:=by
 have hj:j<xs.length:=(List.getElem?_eq_some_iff.mp h).1;have e:ixN xs.length (j:Int)=some j:=by
  unfold ixN;rw[if_pos (by omega),if_pos (by omega)];simp
 unfold atI;rw[e];exact h
def alm (b:Expr):Prop:=∀ o i,subscripted b false o i=operate [o,i] (getItem o i)
def IxR (X:Cx) (r:R2):Prop :=
 ∀ (value slice:Expr) (pins:List (Addr×Obj)) (s:Shared) (σ:St) (H:Hp) (x y:V) (v u:Value) (Q:VK),Inv X pins σ H s->RelV x v->RelV y u->r x y H Q ->
  subscripted slice false v u=operate [v,u] (getItem v u)->wpAny (model X.prog X.w) X.A (subscriptTail value slice v u) (EP X pins σ Q) X.xe s
def MtR (X:Cx) (id:String) (r:V->List V->Hp->VK->Prop):Prop :=
 ∀ (pins:List (Addr×Obj)) (s:Shared) (σ:St) (H:Hp) (x:V) (xs:List V) (v:Value) (us:List Value) (Q:VK),Inv X pins σ H s->RelV x v->Vals xs us->r x xs H Q ->
  wpAny (model X.prog X.w) X.A (call (.builtin id) (v::us)) (EP X pins σ Q) X.xe s
section
variable {X:Cx}{a b:Expr}{ta tb:TE}{pos:Pos}
theorem IxR.or {r r':R2}(h:IxR X r) (h':IxR X r'):IxR X (fun x y H Q=>r x y H Q\/r' x y H Q):=by
 intro value slice pins s σ H x y v u Q I rx ry q hs;rcases q with q | q
 ·exact h value slice pins s σ H x y v u Q I rx ry q hs
 ·exact h' value slice pins s σ H x y v u Q I rx ry q hs
theorem abd {r:R2}(hr:IxR X r) (ha:PE X a ta) (hb:PE X b tb) (hs:alm b):PE X (.Subscript a b pos) (tOp r ta tb):=by
 intro pins s σ H Q I h;exact Subscript_ (binT ha hb I h fun v u s2 x y H2 I2 rx ry q=>hr a b pins s2 σ H2 x y v u Q I2 rx ry q (hs _ _))
def rIxL (K:PySem.W.Frag):R2:=fun x y H Q=>∃ p xs i v,x = .ref p/\y = .int i/\SqL K H p xs/\atI xs i=some v/\Q v H
def rIxT (K:PySem.W.Frag):R2:=fun x y H Q=>∃ p xs i v,x = .ref p/\y = .int i/\SqT K H p xs/\atI xs i=some v/\Q v H
def rIxS:R2:=fun x y H Q=>∃ z i c,x = .str z/\y = .int i/\z.length<=sizeLine/\atI z.cps.toList i=some c/\Q (.str ⟨#[c]⟩) H
theorem aas:IxR X (rIxL X.K):=by
 intro value slice pins s σ H x y v u Q I rx ry h hs;obtain⟨p,xs,i,z,rfl,rfl,hq,he,q⟩:=h;cases rx;obtain⟨t,rfl⟩:=ry;obtain⟨its,r,pl,hz⟩:=I.list hq;obtain⟨j,h1,h2,h3,h4,h5⟩:=aln he;obtain⟨w,ew,rw'⟩:=r.get h2;have hl:=r.length;have hn:=ag0;have fin:EP X pins σ Q w s:=⟨z,H,I,rw',q⟩;by_cases h0:0<=i
 ·have hj:i.toNat=j:=by
   rw[seqIndex_of h0 h5] at h1;exact Option.some.inj h1
  exact item_listR pl.isList h0 (by omega) (by rw[hj];simpa using ew) fin hs
 ·have hj:(i+(its.toArray.size:Int)).toNat=j:=by
   rw[seqIndex_neg (by omega) h4] at h1;rw[List.size_toArray,← hl];exact Option.some.inj h1
  exact subscriptTail_builtinR (x:=w) pl.isList.typeIs slot_list_getitem.lookup
   (wpAny_getItem_list_neg (Q:=fun r s'=>r=w/\EP X pins σ Q r s') pl.isList (by omega) (by rw[List.size_toArray]<;>omega) (by omega) (by rw[hj];simpa using ew) ⟨rfl,fin⟩) hs
theorem aj6:IxR X (rIxT X.K):=by
 intro value slice pins s σ H x y v u Q I rx ry h hs;obtain⟨p,xs,i,z,rfl,rfl,hq,he,q⟩:=h;cases rx;obtain⟨t,rfl⟩:=ry;obtain⟨its,r,pl,hz⟩:=I.tuple hq;obtain⟨j,h1,h2,h3,h4,h5⟩:=aln he;obtain⟨w,ew,rw'⟩:=r.get h2;have hl:=r.length;have hn:=ag0;have fin:EP X pins σ Q w s:=⟨z,H,I,rw',q⟩;exact subscriptTail_builtinR (x:=w) pl.typeIs slot_tuple_getitem.lookup
  (getItem_tuple (j:=j) (Q:=fun r s'=>r=w/\EP X pins σ Q r s') pl (by omega) (by omega) (by rw[List.size_toArray,← hl];exact h1) (by simpa using ew) ⟨rfl,fin⟩) hs
theorem al5:IxR X rIxS:=by
 intro value slice pins s σ H x y v u Q I rx ry h hs;obtain⟨z,i,c,rfl,rfl,hz,he,q⟩:=h;obtain⟨t,rfl⟩:=rx;obtain⟨t',rfl⟩:=ry;obtain⟨j,h1,h2,h3,h4,h5⟩:=aln he;have hl:z.cps.toList.length=z.length:=by simp[Str.length]
 rw[hl] at h1 h4 h5;have hn:=ag0;exact tail_any (typeIs_str s z t) slot_str_getitem.lookup (getItem_str (c:=c) (by
  have e1:decide (i < -(2 ^ 63:Int))=false:=decide_eq_false (by omega);have e2:decide (i>=2 ^ 63)=false:=decide_eq_false (by omega);rw[e1,e2,Bool.or_false]) (by rw[h1];simpa using h2) ⟨.str ⟨#[c]⟩,H,I.tok _,⟨_,rfl⟩,q⟩) hs
def rIx (K:PySem.W.Frag):R2:=fun x y H Q=>rIxL K x y H Q\/rIxT K x y H Q\/rIxS x y H Q
theorem ix_seq:IxR X (rIx X.K):=aas.or (aj6.or al5)
theorem anq (its:List Value) (n j:Nat) (u:Value):Obj.mapSeq (·.setIfInBounds j u) { cls:=.type "list",data:=.seq its.toArray n }={ cls:=.type "list",data:=.seq (its.set j u).toArray n }:=by
 simp[Obj.mapSeq]
theorem Inv.lst {pins:List (Addr×Obj)}{σ:St}{H:Hp}{s:Shared}{p:Addr}{xs:List V}(I:Inv X pins σ H s) (h:H p=some (.lst xs)) :
  ∃ (its:List Value) (n:Nat),Vals xs its/\s.heap.get? p=some { cls:=.type "list",data:=.seq its.toArray n }/\xs.length<=sizeLine:=by
 obtain⟨z,its,n,r,e⟩:=I.hok p _ h;exact⟨its,n,r,e,z⟩
theorem Inv.lstUpd {pins:List (Addr×Obj)}{σ:St}{H:Hp}{s:Shared}{p:Addr}{xs ys:List V}{its its':List Value}{n n':Nat}{f:Obj->Obj}(I:Inv X pins σ H s) (h:H p=some (.lst xs))
  (ho:s.heap.get? p=some { cls:=.type "list",data:=.seq its.toArray n }) (hf:f { cls:=.type "list",data:=.seq its.toArray n }={ cls:=.type "list",data:=.seq its'.toArray n' }) (r:Vals ys its') (hz:ys.length<=sizeLine) (t:Nat) :
  Inv X pins σ (upd H p (.lst ys)) { s with heap:=s.heap.update p f,toks:=t }:=by
 have e:(s.heap.update p f).get? p=some { cls:=.type "list",data:=.seq its'.toArray n' }:=by
  rw[Heap.get?_update_self f ho (by rw[hf]<;>rfl),hf]
 refine I.write (x:=p) (e:=p) (by rw[h];trivial) (.inl rfl) (fun b u hb q=>(Heap.get?_update_other _ _ (Ne.symm hb)).trans q) ⟨_,e⟩ ?_;exact⟨hz,its',n',r,e⟩
def asj:V->V->V->Hp->(Hp->Prop)->Prop:=fun o i v H Q=>∃ p xs k j,o = .ref p/\i = .int k/\H p=some (.lst xs)/\ixN xs.length k=some j/\Q (upd H p (.lst (xs.set j v)))
theorem adi:PSet X asj:=by
 intro pins s σ H o i v ov iv u Q I ro ri rv h;obtain⟨p,xs,k,j,rfl,rfl,hp,hj,q⟩:=h;cases ro;obtain⟨t,rfl⟩:=ri;obtain⟨its,n,r,ho,hz⟩:=I.lst hp;obtain⟨h1,h2,h3,h4⟩:=ao3 hj;have hl:=r.length;have hn:=ag0;have I':Inv X pins σ (upd H p (.lst (xs.set j v))) { s with heap:=s.heap.update p (Obj.mapSeq (·.setIfInBounds j u)) } :=
  I.lstUpd hp ho (anq its n j u) (r.set rv j) (by rw[List.length_set];exact hz) s.toks
 by_cases h0:0<=k
 ·have hk:k.toNat=j:=by
   rw[seqIndex_of h0 h4] at h1;exact Option.some.inj h1
  exact PySem.W.ki_setAt ho h0 (by omega) (by rw[List.size_toArray,← hl];exact h4) (by rw[hk];exact⟨_,I',q⟩)
 ·have hk:(k+(its.toArray.size:Int)).toNat=j:=by
   rw[seqIndex_neg (by omega) h3] at h1;rw[List.size_toArray,← hl];exact Option.some.inj h1
  exact PySem.W.ki_setBack ho (by omega) (by rw[List.size_toArray,← hl];exact h3) (by omega) (by rw[hk];exact⟨_,I',q⟩)
theorem ak7 (lo hi:Option Int) (n:Nat):(sliceBounds lo hi none n).1=((HT.sIx n 0 lo:Nat):Int)/\(sliceBounds lo hi none n).2.1=((HT.sIx n n hi:Nat):Int)/\(sliceBounds lo hi none n).2.2=1:=by
 refine⟨?_,?_,rfl⟩
 ·cases lo with
  | none=>simp[sliceBounds,HT.sIx]
  | some i =>
   simp only[sliceBounds,HT.sIx,Option.getD_none,show (1:Int)>0 by decide,if_true];by_cases h:i<0
   ·simp only[h,if_true]<;>omega
   ·simp only[h,if_false]<;>omega
 ·cases hi with
  | none=>simp[sliceBounds,HT.sIx]
  | some i =>
   simp only[sliceBounds,HT.sIx,Option.getD_none,show (1:Int)>0 by decide,if_true];by_cases h:i<0
   ·simp only[h,if_true]<;>omega
   ·simp only[h,if_false]<;>omega
theorem ai2 (its:List Value) (lo hi:Option Int):slicePick its.toArray lo hi none=((its.drop (HT.sIx its.length 0 lo)).take (HT.sIx its.length its.length hi-HT.sIx its.length 0 lo)).toArray:=by
 obtain⟨h1,h2,h3⟩:=ak7 lo hi its.toArray.size;unfold slicePick;rw[h1,h2,h3];simp only[sliceRange_one,pick_run,List.size_toArray]<;>rfl
def rSlL (K:PySem.W.Frag):V->Option Int->Option Int->Hp->VK->Prop:=fun x lo hi H Q=>∃ a xs,x = .ref a/\SqL K H a xs/\∀ p,H p=none->Q (.ref p) (upd H p (.lst (cutV xs lo hi)))
theorem acz:SlR X (rSlL X.K):=by
 intro pins s σ H x v vl vu lo hi sl Q I rx hs pl pu h;obtain⟨a,xs,rfl,hx,q⟩:=h;cases rx;obtain⟨its,r,ht,hz⟩:=I.list hx;have hlen:=r.length;refine⟨"list",_,slot_list_getitem.lookup,ht.isList.typeIs,?_⟩;refine wpAny_getItem_list_slice ht.isList hs pl pu .none (by simp) ?_ (by rw[List.size_toArray]<;>omega);rw[ai2,← hlen];refine⟨.ref s.heap.objs.size,_,I.laid (t':=s.toks) (o:=.lst (cutV xs lo hi)) (fun b ob q=>Heap.get?_push_of_some _ q) (Nat.le_refl _) ?_,rfl,q _ (I.hok.fresh (Nat.le_refl _))⟩;exact⟨Nat.le_trans (agx xs lo hi) hz,_,0,(r.drop (HT.sIx xs.length 0 lo)).take (HT.sIx xs.length xs.length hi-HT.sIx xs.length 0 lo),Heap.get?_push_size _ rfl⟩
def ad4:V->Bool
 | .non=>true
 | .bl _=>true
 | .int _=>true
 | .str _=>true
 | _=>false
def eqV:V->V->Bool
 | .non,.non=>true
 | .bl a,.bl b=>a == b
 | .bl a,.int b=>(if a then 1 else 0) == b
 | .int a,.bl b=>a == (if b then 1 else 0)
 | .int a,.int b=>a == b
 | .str a,.str b=>a == b
 | _,_=>false
theorem atp {A:Around}{s:Shared}{y x:V}{u v:Value}(ry:RelV y u) (rx:RelV x v) (fy:ad4 y=true) (fx:ad4 x=true):SeqAt.EqAt A s u v (eqV y x):=by
 cases y with
 | non =>
  cases ry;cases x with
  | non=>cases rx;exact SeqAt.EqAt.same _
  | bl b=>cases rx;exact SeqAt.EqAt.none_bool b
  | int b=>obtain⟨t,rfl⟩:=rx;exact SeqAt.EqAt.none_int b t
  | str b=>obtain⟨t,rfl⟩:=rx;exact SeqAt.EqAt.none_str b t
  | _=>exact absurd (show false=true from fx) Bool.false_ne_true
 | bl a =>
  cases ry;cases x with
  | non=>cases rx;exact SeqAt.EqAt.bool_none a
  | bl b=>cases rx;exact SeqAt.EqAt.bool_bool a b
  | int b=>obtain⟨t,rfl⟩:=rx;exact SeqAt.EqAt.bool_int a b t
  | str b=>obtain⟨t,rfl⟩:=rx;exact SeqAt.EqAt.bool_str a b t
  | _=>exact absurd (show false=true from fx) Bool.false_ne_true
 | int a =>
  obtain⟨t',rfl⟩:=ry;cases x with
  | non=>cases rx;exact SeqAt.EqAt.int_none a t'
  | bl b=>cases rx;exact SeqAt.EqAt.int_bool a t' b
  | int b=>obtain⟨t,rfl⟩:=rx;exact SeqAt.EqAt.int_int a t' b t
  | str b=>obtain⟨t,rfl⟩:=rx;exact SeqAt.EqAt.int_str a t' b t
  | _=>exact absurd (show false=true from fx) Bool.false_ne_true
 | str a =>
  obtain⟨t',rfl⟩:=ry;cases x with
  | non=>cases rx;exact SeqAt.EqAt.str_none a t'
  | bl b=>cases rx;exact SeqAt.EqAt.str_bool a t' b
  | int b=>obtain⟨t,rfl⟩:=rx;exact SeqAt.EqAt.str_int a t' b t
  | str b=>obtain⟨t,rfl⟩:=rx;exact SeqAt.EqAt.str_str a t' b t
  | _=>exact absurd (show false=true from fx) Bool.false_ne_true
 | _=>exact absurd (show false=true from fy) Bool.false_ne_true
def eqU (x:V) (u:Value):Bool:=match u with
 | .none=>eqV .non x
 | .bool b=>eqV (.bl b) x
 | .int i _=>eqV (.int i) x
 | .str z _=>eqV (.str z) x
 | _=>false
theorem ao7 {x y:V}{u:Value}(r:RelV y u) (f:ad4 y=true):eqU x u=eqV y x:=by
 cases y with
 | non=>cases r;rfl
 | bl b=>cases r;rfl
 | int i=>obtain⟨t,rfl⟩:=r;rfl
 | str z=>obtain⟨t,rfl⟩:=r;rfl
 | _=>exact absurd (show false=true from f) Bool.false_ne_true
theorem ag1 {x:V}:∀ {xs:List V}{us:List Value},Vals xs us->xs.all ad4=true->us.any (eqU x)=xs.any fun y=>eqV y x
 | _,_,.nil,_=>rfl
 | y::xs,u::us,.cons r t,f=>by
  rw[List.all_cons,Bool.and_eq_true] at f;rw[List.any_cons,List.any_cons,ao7 r f.1,ag1 t f.2]
theorem ae3 {A:Around}{s:Shared}{x:V}{v:Value}(rx:RelV x v) (fx:ad4 x=true):∀ {xs:List V}{us:List Value},Vals xs us->xs.all ad4=true->∀ u∈us,SeqAt.EqAt A s u v (eqU x u)
 | _,_,.nil,_=>fun u hu=>by cases hu
 | y::xs,u::us,.cons r t,f=>fun u' hu=>by
  rw[List.all_cons,Bool.and_eq_true] at f;rcases List.mem_cons.mp hu with rfl | hu
  ·rw[ao7 r f.1];exact atp r rx f.1 fx
  ·exact ae3 rx fx t f.2 u' hu
def inV (x:V) (xs:List V):Bool:=xs.any fun y=>eqV y x
def rIn (K:PySem.W.Frag) (neg:Bool):R2:=fun x y H Q=>∃ p xs,y = .ref p/\(SqL K H p xs\/SqT K H p xs)/\ad4 x=true/\xs.all ad4=true/\Q (.bl (if neg then !inV x xs else inV x xs)) H
theorem ad6:OpR X (compareOp .In) (rIn X.K false):=by
 intro pins s σ H x y v u Q I rx ry h;obtain⟨p,xs,rfl,hq,fx,fs,q⟩:=h;cases ry;rcases hq with hq | hq
 ·obtain⟨its,r,pl,hz⟩:=I.list hq;refine SeqAt.in_listAt (eqU x) pl.isList (fun w hw=>ae3 rx fx r fs w (by simpa using hw)) ⟨.bl _,H,I,rfl,?_⟩;rw[show its.toArray.any (eqU x)=its.any (eqU x) by simp,ag1 r fs];exact q
 ·obtain⟨its,r,pl,hz⟩:=I.tuple hq;refine SeqAt.in_tupleAt (eqU x) pl (fun w hw=>ae3 rx fx r fs w (by simpa using hw)) ⟨.bl _,H,I,rfl,?_⟩;rw[show its.toArray.any (eqU x)=its.any (eqU x) by simp,ag1 r fs];exact q
theorem af6:OpR X (compareOp .NotIn) (rIn X.K true):=by
 intro pins s σ H x y v u Q I rx ry h;obtain⟨p,xs,rfl,hq,fx,fs,q⟩:=h;cases ry;rcases hq with hq | hq
 ·obtain⟨its,r,pl,hz⟩:=I.list hq;refine SeqAt.notIn_listAt (eqU x) pl.isList (fun w hw=>ae3 rx fx r fs w (by simpa using hw)) ⟨.bl _,H,I,rfl,?_⟩;rw[show its.toArray.any (eqU x)=its.any (eqU x) by simp,ag1 r fs];exact q
 ·obtain⟨its,r,pl,hz⟩:=I.tuple hq;refine SeqAt.notIn_tupleAt (eqU x) pl (fun w hw=>ae3 rx fx r fs w (by simpa using hw)) ⟨.bl _,H,I,rfl,?_⟩;rw[show its.toArray.any (eqU x)=its.any (eqU x) by simp,ag1 r fs];exact q
theorem aap:ab6 X (.builtin "len") (fun xs H Q=>∃ p ys,xs=[.ref p]/\(SqL X.K H p ys\/SqT X.K H p ys)/\Q (.int ys.length) H):=by
 intro pins s σ H xs us Q I r h;obtain⟨p,ys,rfl,hq,q⟩:=h;obtain⟨u,rfl,rx⟩:=af0 r;cases rx;have hn:=ag0;rcases hq with hq | hq
 ·obtain⟨its,r',pl,hz⟩:=I.list hq;have hlen:=r'.length;exact Calls.call_len_list pl.isList (by simp only[List.size_toArray]<;>omega) ⟨.int ys.length,H,I.tok _,⟨s.toks+1,by rw[List.size_toArray,hlen]⟩,q⟩
 ·obtain⟨its,r',pl,hz⟩:=I.tuple hq;have hlen:=r'.length;exact len_tuple pl (by simp only[List.size_toArray]<;>omega) ⟨.int ys.length,H,I.tok _,⟨s.toks+1,by rw[List.size_toArray,hlen]⟩,q⟩
theorem adh:ab6 X (.builtin "len") (fun xs H Q=>∃ z,xs=[.str z]/\z.length<=sizeLine/\Q (.int z.length) H):=by
 intro pins s σ H xs us Q I r h;obtain⟨z,rfl,hz,q⟩:=h;obtain⟨u,rfl,t,rfl⟩:=af0 r;have hn:=ag0;exact len_str (by omega) ⟨.int z.length,H,I.tok _,⟨_,rfl⟩,q⟩
theorem ab6.or {f:Value}{r r':List V->Hp->VK->Prop}(h:ab6 X f r) (h':ab6 X f r'):ab6 X f (fun xs H Q=>r xs H Q\/r' xs H Q):=by
 intro pins s σ H xs us Q I rs q;rcases q with q | q
 ·exact h pins s σ H xs us Q I rs q
 ·exact h' pins s σ H xs us Q I rs q
theorem aev:ab6 X (.type "list") (fun xs H Q=>∃ p ys,xs=[.ref p]/\(SqL X.K H p ys\/SqT X.K H p ys)/\∀ l,H l=none->Q (.ref l) (upd H l (.lst ys))):=by
 intro pins s σ H xs us Q I r h;obtain⟨p,ys,rfl,hq,q⟩:=h;obtain⟨u,rfl,rx⟩:=af0 r;cases rx;have fin:∀ (its:List Value),Vals ys its->ys.length<=sizeLine->∀ (h':Heap) (c':Nat),(∀ b o',s.heap.get? b=some o'->h'.get? b=some o') ->
   h'.get? s.heap.objs.size=some { cls:=.type "list",dict:=none,data:=.seq its.toArray c',slots:=#[] }->EP X pins σ Q (.ref s.heap.objs.size) { s with heap:=h' }:=fun its r' hz h' c' kp e =>
  ⟨.ref s.heap.objs.size,_,I.laid (t':=s.toks) kp (Nat.le_refl _) (show ab7 X.prog X.w _ h' _ (.lst ys) from ⟨hz,its,c',r',e⟩),rfl,q _ (I.hok.fresh (Nat.le_refl _))⟩
 rcases hq with hq | hq
 ·obtain⟨its,r',pl,hz⟩:=I.list hq;have hlen:=r'.length;obtain⟨o,ho,hc,n,hd⟩:=pl.isList;exact call_list_seq p (.inl rfl) ho hc hd (fun h' c' kp e=>fin its r' hz h' c' kp e) (by simp only[List.size_toArray]<;>omega)
 ·obtain⟨its,r',pl,hz⟩:=I.tuple hq;have hlen:=r'.length;obtain⟨o,ho,hc,n,hd⟩:=pl;exact call_list_seq p (.inr rfl) ho hc hd (fun h' c' kp e=>fin its r' hz h' c' kp e) (by simp only[List.size_toArray]<;>omega)
theorem aau:ab6 X (.type "tuple") (fun xs H Q=>∃ p ys,xs=[.ref p]/\((SqL X.K H p ys/\∀ l,H l=none->Q (.ref l) (upd H l (.tup ys)))\/(SqT X.K H p ys/\Q (.ref p) H))):=by
 intro pins s σ H xs us Q I r h;obtain⟨p,ys,rfl,h⟩:=h;obtain⟨u,rfl,rx⟩:=af0 r;cases rx;rcases h with⟨hq,q⟩ | ⟨hq,q⟩
 ·obtain⟨its,r',pl,hz⟩:=I.list hq;have hlen:=r'.length;refine call_tuple_list pl.isList (fun h' kp=>?_) (by simp only[List.size_toArray]<;>omega);have I1:Inv X pins σ H { s with heap:=h' }:=I.kept (t':=s.toks) kp;have I2:Inv X pins σ (upd H h'.objs.size (.tup ys)) { s with heap:=h'.push { cls:=.type "tuple",data:=.seq its.toArray } } :=
   I1.laid (t':=s.toks) (fun b o e=>Heap.get?_push_of_some _ e) (Nat.le_refl _) (show ab7 X.prog X.w _ _ _ (.tup ys) from ⟨hz,its,r',af9.new _ _⟩)
  exact⟨.ref h'.objs.size,_,I2,rfl,q _ (I1.hok.fresh (Nat.le_refl _))⟩
 ·obtain⟨its,r',pl,hz⟩:=I.tuple hq;exact call_tuple_same pl ⟨.ref p,H,I,rfl,q⟩
def tyV (K:PySem.W.Frag) (T:String) (x:V) (H:Hp):Prop:=match x with
 | .str _=>T = "str"
 | .int _=>T = "int"
 | .ref p=>(T = "list" /\ ∃ xs,SqL K H p xs)\/(T = "tuple" /\ ∃ o,K.lookup p=some o/\o.cls = .type "tuple" /\ o.dict=none) \/
   (T = "dict" /\ ((∃ kvs,H p=some (.dK kvs))\/∃ kvs,H p=some (.dT kvs)))\/(T = "set" /\ ∃ S n,H p=some (.set S n))
 | _=>False
theorem atr {pins:List (Addr×Obj)}{σ:St}{H:Hp}{s:Shared}{T:String}{x:V}{v:Value}(I:Inv X pins σ H s) (r:RelV x v) (ty:tyV X.K T x H) :
  s.TypeIs v T/\∀ a,v = .ref a->∃ ob,s.heap.get? a=some ob/\ob.dict=none:=by
 cases x with
 | str z =>
  obtain⟨t,rfl⟩:=r;cases (show T = "str" from ty);exact⟨typeIs_str s z t,fun _ e=>nomatch e⟩
 | int i =>
  obtain⟨t,rfl⟩:=r;cases (show T = "int" from ty);exact⟨typeIs_int s i t,fun _ e=>nomatch e⟩
 | ref p =>
  cases r;rcases ty with⟨rfl,xs,hq⟩ | ⟨rfl,o,hk,hc,hd⟩ | ⟨rfl,hk⟩ | ⟨rfl,S,n,hk⟩
  ·obtain⟨its,_,pl,_⟩:=I.list hq;refine⟨pl.isList.typeIs,fun a e=>?_⟩;cases e;obtain⟨o,n,e,c,hd,_⟩:=pl;exact⟨o,e,hd⟩
  ·refine⟨⟨o,I.kIn p o hk,hc⟩,fun a e=>?_⟩;cases e;exact⟨o,I.kIn _ o hk,hd⟩
  ·have z:∃ o,s.heap.get? p=some o/\o.ExactDict:=by
    rcases hk with⟨kvs,hk⟩ | ⟨kvs,hk⟩
    ·obtain⟨_,_,_,_,o,_,_,e,ex,_⟩:=I.hok p _ hk;exact⟨o,e,ex⟩
    ·obtain⟨_,_,_,_,o,_,_,e,ex,_⟩:=I.hok p _ hk;exact⟨o,e,ex⟩
   obtain⟨o,e,ex⟩:=z;refine⟨⟨o,e,ex.1⟩,fun a e2=>?_⟩;cases e2;exact⟨o,e,ex.2.1⟩
  ·obtain⟨o,_,_,_,e,ex,_⟩:=I.hok p _ hk;refine⟨⟨o,e,ex.1⟩,fun a e2=>?_⟩;cases e2;exact⟨o,e,ex.2.1⟩
 | _=>exact False.elim ty
def tBM (K:PySem.W.Frag) (T:String) (r:V->List V->Hp->VK->Prop) (to:TE) (t:TA):TE:=fun σ H Q=>to σ H fun x H1=>tyV K T x H1/\t σ H1 fun xs H2=>r x xs H2 Q
variable {o e:Expr}{es:List Expr}{to:TE}{t:TA}{name:Str}{apos cpos:Pos}{T id:String}{r:V->List V->Hp->VK->Prop}
theorem aex (pa:PlainAttrs T) (slot:Slot T name id) (hty:typeOf (.builtin id)=pure (.type "method_descriptor")) (hm:MtR X id r) (ho:PE X o to) (ha:PA X (e::es) t)
  (hbase:attributeBase o name X.env (eval o X.env)=eval o X.env:=by rfl)
  (hfew:((backTo cpos (starEach (e::es) X.env)).all (fun x=>!x.1)&&(backToKw cpos (keywordEach [] X.env)).all (fun x=>x.1.isSome) && decide ((e::es).length+([]:List Keyword).length+(if ([]:List Keyword).isEmpty then 0 else 1)<30))=true:=by rfl)
  (hline:(apos.endLine == cpos.line)=true:=by rfl) (hs:starEach (e::es) X.env=(false,eval e X.env)::starEach es X.env:=by rfl) (hplain:(backTo cpos (starEach es X.env)).any (·.1)=false:=by rfl) :
  PE X (.Call (.Attribute o name apos) (e::es) [] cpos) (tBM X.K T r to t):=by
 intro pins s σ H Q I h;refine wpAny_Call_method_late hbase hfew hline rfl (thn (ho pins s σ H _ I h) fun v s1 ⟨x,H1,I1,r1,ty,q1⟩=>?_);obtain⟨h1,h2⟩:=atr I1 r1 ty;refine⟨T,id,pa,slot,hty,h1,h2,?_⟩;have hA:=ha cpos pins s1 σ H1 _ I1 q1;rw[hs] at hA ⊢;refine Calls.callWith_builtin (by show (false||(backTo cpos (starEach es X.env)).any (·.1))=false;rw[hplain]<;>rfl) (Calls.evalArgs_plain ?_);exact thn hA fun us s2 ⟨vs,H2,I2,r2,q2⟩=>hm pins s2 σ H2 x vs v us Q I2 r1 r2 q2
/- xs.append(e),list.index on a module's tuple .. are MtR facts of 06m -/
end
def MtM (X:Cx) (id:String) (r:V->List V->Hp->VK->Prop):Prop :=
 ∀ (pins:List (Addr×Obj)) (s:Shared) (σ:St) (H:Hp) (x:V) (xs:List V) (v:Value) (us:List Value) (Q:VK),Inv X pins σ H s->RelV x v->Vals xs us->r x xs H Q ->
  wpAny (model X.prog X.w) X.A (call (.builtin id) (v::us)) (EP X pins σ Q) X.xe s
theorem Vals.one:∀ {x:V}{us:List Value},Vals [x] us->∃ u,us=[u]/\RelV x u
 | _,_,.cons r .nil=>⟨_,rfl,r⟩
theorem Vals.eraseIdx:∀ {xs:List V}{us:List Value}(i:Nat),Vals xs us->Vals (xs.eraseIdx i) (us.eraseIdx i)
 | _,_,_,.nil=>.nil
 | _,_,0,.cons _ t=>t
 | _,_,i+1,.cons r t=>.cons r (Vals.eraseIdx i t)
theorem Vals.rep {xs:List V}{us:List Value}(h:Vals xs us):∀ k:Nat,Vals (List.replicate k xs).flatten (List.replicate k us).flatten
 | 0=>.nil
 | k+1=>by
  rw[List.replicate_succ,List.replicate_succ,List.flatten_cons,List.flatten_cons];exact Vals.append h (Vals.rep h k)
theorem akj {α:Type}:∀ (l:List α) (i:Nat),(l.eraseIdx i).length<=l.length
 | [],_=>Nat.le_refl _
 | _::_,0=>Nat.le_succ _
 | _::r,i+1=>Nat.succ_le_succ (akj r i)
theorem aj2 (its:List Value):∀ (k:Nat) (acc:List Value),
  List.foldl (fun x1 x2=>x1++x2) acc.toArray (List.replicate k its.toArray)=(acc++(List.replicate k its).flatten).toArray
 | 0,acc=>by simp
 | k+1,acc=>by
  have e:acc.toArray++its.toArray=(acc++its).toArray:=by simp
  have e2:(acc++its)++(List.replicate k its).flatten=acc++(List.replicate (k+1) its).flatten:=by
   rw[List.replicate_succ,List.flatten_cons,List.append_assoc]
  rw[← e2,← aj2 its k (acc++its),← e,List.replicate_succ,List.foldl_cons]
section
variable {X:Cx}{pins:List (Addr×Obj)}{σ:St}{H:Hp}{s:Shared}{l b:Addr}{xs ys zs:List V}
theorem Inv.lset {its its':List Value}{n:Nat}{f:Array Value->Array Value}{t':Nat}(I:Inv X pins σ H s) (hH:H l=some (.lst xs))
  (e:s.heap.get? l=some { cls:=.type "list",data:=.seq its.toArray n }) (hf:f its.toArray=its'.toArray) (hv:Vals ys its') (hz:ys.length<=sizeLine) :
  Inv X pins σ (upd H l (.lst ys)) { s with heap:=s.heap.update l (Obj.mapSeq f),toks:=t' }:=by
 have q:=PySem.IsL.update e f;rw[hf] at q;refine I.write (x:=l) (e:=l) (by rw[hH];exact trivial) (.inl rfl) (fun b' u hb hu=>(Heap.get?_update_other s.heap (Obj.mapSeq f) (Ne.symm hb)).trans hu) ⟨_,q⟩ ?_;exact⟨hz,its',_,hv,q⟩
theorem Inv.lnew {its:List Value}{t':Nat}(I:Inv X pins σ H s) (hv:Vals ys its) (hz:ys.length<=sizeLine) :
  Inv X pins σ (upd H s.heap.objs.size (.lst ys)) { s with heap:=s.heap.push { cls:=.type "list",data:=.seq its.toArray },toks:=t' } :=
 I.laid (fun _ _ q=>Heap.get?_push_of_some _ q) (Nat.le_refl _) ⟨hz,its,0,hv,Heap.get?_push_size _ rfl⟩
theorem Inv.fresh (I:Inv X pins σ H s):H s.heap.objs.size=none:=I.hok.fresh (Nat.le_refl _)
theorem Inv.lstM (I:Inv X pins σ H s) (hH:H l=some (.lst xs)):xs.length<=sizeLine/\∃ (its:List Value) (n:Nat),Vals xs its/\xs.length=its.length/\s.heap.get? l=some { cls:=.type "list",data:=.seq its.toArray n }:=by
 obtain⟨z,its,n,r,e⟩:=I.hok l _ hH;exact⟨z,its,n,r,r.length,e⟩
theorem asl {n:Nat}(h:n<=sizeLine):Builtin.List.listTooLong n=false:=by
 unfold Builtin.List.listTooLong;exact decide_eq_false (by omega)
end
section
variable {X:Cx}
def aq9:V->List V->Hp->VK->Prop:=fun x vs H Q=>∃ l xs y,x = .ref l/\vs=[y]/\H l=some (.lst xs)/\xs.length<sizeLine/\Q .non (upd H l (.lst (xs++[y])))
theorem acw:MtM X "list.append" aq9:=by
 intro pins s σ H x vs v us Q I rx rv h;obtain⟨l,xs,y,rfl,rfl,hH,hz,q⟩:=h;cases rx;obtain⟨u,rfl,ru⟩:=rv.one;obtain⟨z,its,n,r,hl,e⟩:=I.lstM hH;refine call_meets F.slot_list_append ⟨_,e,rfl⟩ F.entry_list_append (F.args_list_append_2 _ _) (PySem.list_append l its.toArray n u (by rw[List.size_toArray];omega)) ⟨e,?_⟩;refine⟨.non,_,I.lset (its':=its++[u]) hH e (by simp) (r.append (.cons ru .nil)) ?_,rfl,q⟩;rw[List.length_append,List.length_singleton];omega
def rExtend:V->List V->Hp->VK->Prop:=fun x vs H Q=>∃ l b xs zs,x = .ref l/\vs=[.ref b]/\H l=some (.lst xs)/\H b=some (.lst zs)/\xs.length+zs.length<=sizeLine/\Q .non (upd H l (.lst (xs++zs)))
def atq:V->List V->Hp->VK->Prop:=fun x vs H Q=>∃ l xs i k y,x = .ref l/\vs=[.int i]/\H l=some (.lst xs)/\-(2 ^ 63)<=i/\i<2 ^ 63/\seqIndex? i xs.length=some k/\xs[k]?=some y/\Q y (upd H l (.lst (xs.eraseIdx k)))
theorem ajv:MtM X "list.pop" atq:=by
 intro pins s σ H x vs v us Q I rx rv h;obtain⟨l,xs,i,k,y,rfl,rfl,hH,h1,h2,hk,hy,q⟩:=h;cases rx;obtain⟨u,rfl,ru⟩:=rv.one;obtain⟨t,rfl⟩:=ru;obtain⟨z,its,n,r,hl,e⟩:=I.lstM hH;obtain⟨w,hw,rw'⟩:=r.get hy;refine call_meets F.slot_list_pop ⟨_,e,rfl⟩ F.entry_list_pop (F.args_list_pop_2 _ _)
  (MeetsSeq.list_pop_at l its.toArray n i t k w (fitsIndex_both h1 h2) (by rw[List.size_toArray,← hl];exact hk) (by rw[← Array.getElem?_toList];exact hw) (by rw[List.size_toArray];omega)) ⟨e,?_⟩
 refine⟨y,_,I.lset (its':=its.eraseIdx k) hH e ?_ (r.eraseIdx k) ?_,rw',q⟩
 ·show its.toArray.eraseIdxIfInBounds k=(its.eraseIdx k).toArray;rw[List.eraseIdxIfInBounds_toArray]
 ·have:=akj xs k;omega
def rCat:R2:=fun x y H Q=>∃ l b xs zs,x = .ref l/\y = .ref b/\H l=some (.lst xs)/\H b=some (.lst zs)/\xs.length+zs.length<=sizeLine/\∀ p,H p=none->Q (.ref p) (upd H p (.lst (xs++zs)))
theorem ae9:OpR X (binaryOp .Add) rCat:=by
 intro pins s σ H x y v u Q I rx ry h;obtain⟨l,b,xs,zs,rfl,rfl,hH,hB,hz,q⟩:=h;cases rx;cases ry;obtain⟨z,its,n,r,hl,e⟩:=I.lstM hH;obtain⟨z2,its2,n2,r2,hl2,e2⟩:=I.lstM hB;refine PySem.P.add_list e e2 ?_ (by rw[List.size_toArray,List.size_toArray];omega);have ea:its.toArray++its2.toArray=(its++its2).toArray:=by simp
 rw[ea];exact⟨.ref _,_,I.lnew (t':=s.toks) (r.append r2) (by rw[List.length_append];omega),rfl,q _ I.fresh⟩
def rRep:R2:=fun x y H Q=>∃ l k xs,x = .ref l/\y = .int k/\H l=some (.lst xs)/\-(2 ^ 63)<=k/\k<2 ^ 63/\xs.length*k.toNat<=sizeLine /\
 ∀ p,H p=none->Q (.ref p) (upd H p (.lst (List.replicate k.toNat xs).flatten))
theorem auy {α:Type}(xs:List α) (k:Nat):(List.replicate k xs).flatten.length=k*xs.length:=by
 induction k with
 | zero=>simp
 | succ k ih=>rw[List.replicate_succ,List.flatten_cons,List.length_append,ih,Nat.succ_mul,Nat.add_comm]
theorem op_rep:OpR X (binaryOp .Mult) rRep:=by
 intro pins s σ H x y v u Q I rx ry h;obtain⟨l,k,xs,rfl,rfl,hH,h1,h2,hz,q⟩:=h;cases rx;obtain⟨t,rfl⟩:=ry;obtain⟨z,its,n,r,hl,e⟩:=I.lstM hH;have hlen:its.toArray.size*k.toNat<=sizeLine:=by rw[List.size_toArray,← hl];exact hz
 have hcap:¬ its.toArray.size*k.toNat>(2 ^ 63-1)/8:=by
  have:(sizeLine:Nat)<=(2 ^ 63-1)/8:=by decide
  omega
 have hfit:¬ (!Builtin.List.listFitsIndex k)=true:=by
  rw[fitsIndex_both h1 h2];exact Bool.false_ne_true
 have hlong:¬ Builtin.List.listTooLong (its.toArray.size*k.toNat)=true:=by
  rw[asl hlen];exact Bool.false_ne_true
 have hnew:List.foldl (fun x1 x2=>x1++x2) #[] (List.replicate (if its.toArray.isEmpty=true then 0 else k.toNat) its.toArray)=(List.replicate k.toNat its).flatten.toArray:=by
  have f0:∀ m:Nat,List.foldl (fun x1 x2=>x1++x2) #[] (List.replicate m its.toArray)=(List.replicate m its).flatten.toArray:=fun m=>by
   have:=aj2 its m [];rw[List.nil_append] at this;exact this
  rw[f0];cases its with
  | nil=>simp
  | cons a r'=>rw[if_neg (by simp)]
 refine wpAny_binaryOp_repeat_ref (T := "list") (U := "int") (by decide) ⟨_,e,rfl⟩ (fun s'=>typeIs_int s' k t) noFill_list_mul F.fills_int_mul F.slot_int_rmul repeat_list F.slot_int_index.lookup
  (call_meets F.slot_int_rmul (typeIs_int s k t) F.entry_int_rmul (F.args_int_rmul_2 _ _) (int___rmul___int_list k t l its.toArray n) ⟨e,rfl,⟨_,e,rfl⟩,call_meets F.slot_list_mul ⟨_,e,rfl⟩ F.entry_list_mul (F.args_list_mul_2 _ _) (AutoListH.list___mul___list_int_3 l its.toArray n k t hfit hcap hlong) ⟨e,?_⟩⟩)
 rw[hnew];exact⟨.ref _,_,I.lnew (t':=s.toks) (r.rep k.toNat) (by rw[auy,Nat.mul_comm];exact hz),rfl,q _ I.fresh⟩
end
section
variable {κ:Type} [DecidableEq κ]
def valV (kvs:List (κ×V)) (k:κ):Option V:=(kvs.find? fun kv=>decide (kv.1=k)).map (·.2)
def putK (kvs:List (κ×V)) (k:κ) (v:V):List (κ×V) :=
 if (kvs.any fun kv=>decide (kv.1=k))=true then kvs.map (fun kv=>if kv.1=k then (kv.1,v) else kv) else kvs++[(k,v)]
theorem ack {p:κ×V}{r:List (κ×V)}{k:κ}(e:p.1=k):valV (p::r) k=some p.2:=by simp[valV,List.find?_cons,e]
theorem acl {p:κ×V}{r:List (κ×V)}{k:κ}(e:¬ p.1=k):valV (p::r) k=valV r k:=by simp[valV,List.find?_cons,e]
theorem amn (k:κ):∀ kvs:List (κ×V),(kvs.any fun kv=>decide (kv.1=k))=(valV kvs k).isSome
 | []=>rfl
 | p::r=>by
  rw[List.any_cons];by_cases e:p.1=k
  ·simp only[ack e,decide_eq_true e,Bool.true_or,Option.isSome_some]
  ·rw[acl e,decide_eq_false e,Bool.false_or];exact amn k r
theorem ag8 (kvs:List (κ×V)) (k:κ) (v:V):(putK kvs k v).length<=kvs.length+1:=by
 unfold putK;split
 ·rw[List.length_map];omega
 ·rw[List.length_append,List.length_cons,List.length_nil];omega
theorem RelO.isSome_eq {o:Option V}{u:Option Value}(r:RelO o u):o.isSome=u.isSome:=by
 cases o with
 | none=>cases u with
  | none=>rfl
  | some _=>exact (show False from r).elim
 | some _=>cases u with
  | none=>exact (show False from r).elim
  | some _=>rfl
theorem RelO.getD {o:Option V}{u:Option Value}{d:V}{d':Value}(r:RelO o u) (rd:RelV d d'):RelV (o.getD d) (u.getD d'):=by
 cases o with
 | none=>cases u with
  | none=>exact rd
  | some _=>exact (show False from r).elim
 | some _=>cases u with
  | none=>exact (show False from r).elim
  | some _=>exact r
theorem KV.val {kvs:List (κ×V)}{vs:List (κ×Value)}(r:KV kvs vs) (k:κ):RelO (valV kvs k) (valueAt vs k):=by
 unfold KV at r;induction r with
 | nil=>exact True.intro
 | @cons p q ps qs h t ih =>
  obtain⟨h1,h2⟩:=h;by_cases e:p.1=k
  ·have e':q.1=k:=h1.symm.trans e;have b:valueAt (q::qs) k=some q.2:=by simp[valueAt,List.find?_cons,e']
   rw[ack e,b];exact h2
  ·have e':¬ q.1=k:=fun z=>e (h1.trans z)
   have b:valueAt (q::qs) k=valueAt qs k:=by simp[valueAt,List.find?_cons,e']
   rw[acl e,b];exact ih
theorem KV.any {kvs:List (κ×V)}{vs:List (κ×Value)}(r:KV kvs vs) (k:κ):(kvs.any fun kv=>decide (kv.1=k))=vs.any fun kv=>decide (kv.1=k):=by
 unfold KV at r;induction r with
 | nil=>rfl
 | cons h t ih=>rw[List.any_cons,List.any_cons,ih,h.1]
theorem KV.repl {kvs:List (κ×V)}{vs:List (κ×Value)}(r:KV kvs vs) (k:κ){y:V}{u:Value}(ry:RelV y u) :
  KV (kvs.map fun kv=>if kv.1=k then (kv.1,y) else kv) (vs.map fun kv=>if kv.1=k then (kv.1,u) else kv):=by
 unfold KV at r ⊢;induction r with
 | nil=>exact .nil
 | @cons p q ps qs h t ih =>
  rw[List.map_cons,List.map_cons];refine .cons ?_ ih;obtain⟨h1,h2⟩:=h;by_cases e:p.1=k
  ·rw[if_pos e,if_pos (h1.symm.trans e)];exact⟨h1,ry⟩
  ·rw[if_neg e,if_neg (fun z=>e (h1.trans z))];exact⟨h1,h2⟩
theorem KV.put {kvs:List (κ×V)}{vs:List (κ×Value)}(r:KV kvs vs) (k:κ){y:V}{u:Value}(ry:RelV y u):KV (putK kvs k y) (stored vs k u):=by
 unfold putK stored;rw[r.any k];by_cases e:(vs.any fun kv=>decide (kv.1=k))=true
 ·rw[if_pos e,if_pos e];exact r.repl k ry
 ·rw[if_neg e,if_neg e];exact Paired.snoc r ⟨rfl,ry⟩
theorem KV.length {kvs:List (κ×V)}{vs:List (κ×Value)}(r:KV kvs vs):kvs.length=vs.length:=Paired.length r
end
theorem alq {P:Program}{w:World}{k:Key}{u:Value}(r:RelV (kV k) u):(abh P w).is k u=true:=by
 cases k with
 | inl i=>obtain⟨t,e⟩:=(show ∃ t,u=Value.int i t from r);subst e;exact alk P w i t
 | inr x=>obtain⟨t,e⟩:=(show ∃ t,u=Value.str x t from r);subst e;exact agv P w x t
theorem akq {P:Program}{w:World}:∀ {ks:List Key}{us:List Value},Vals (ks.map kV) us->ItemsAre (abh P w) ks us
 | [],_,r=>by rw[List.map_nil] at r;cases r;exact .nil
 | k::ks,_,r=>by
  rw[List.map_cons] at r;cases r with
  | cons h t=>exact .cons (alq h) (akq t)
abbrev KT (H:Hp):List (List Key×V)->List (List Key×Addr×Value)->Prop:=Paired fun p q=>p.1=q.1/\H q.2.1=some (.tup (p.1.map kV))/\RelV p.2 q.2.2
theorem KT.val {H:Hp}{kvs:List (List Key×V)}{xs:List (List Key×Addr×Value)}(r:KT H kvs xs) (k:List Key):RelO (valV kvs k) ((atKey xs k).map (·.2)):=by
 induction r with
 | nil=>exact True.intro
 | @cons p q ps qs h t ih =>
  obtain⟨h1,_,h2⟩:=h;by_cases e:p.1=k
  ·have e':q.1=k:=h1.symm.trans e;have b:atKey (q::qs) k=some q.2:=by simp[atKey,List.find?_cons,e']
   rw[ack e,b];exact h2
  ·have e':¬ q.1=k:=fun z=>e (h1.trans z)
   have b:atKey (q::qs) k=atKey qs k:=by simp[atKey,List.find?_cons,e']
   rw[acl e,b];exact ih
theorem KT.repl {H:Hp}{kvs:List (List Key×V)}{xs:List (List Key×Addr×Value)}(r:KT H kvs xs) (k:List Key){y:V}{u:Value}(ry:RelV y u) :
  KT H (kvs.map fun kv=>if kv.1=k then (kv.1,y) else kv) (xs.map (putAt k u)):=by
 induction r with
 | nil=>exact .nil
 | @cons p q ps qs h t ih =>
  rw[List.map_cons,List.map_cons];refine .cons ?_ ih;obtain⟨h1,h2,h3⟩:=h;unfold putAt;by_cases e:p.1=k
  ·rw[if_pos e,if_pos (h1.symm.trans e)];exact⟨h1,h2,ry⟩
  ·rw[if_neg e,if_neg (fun z=>e (h1.trans z))];exact⟨h1,h2,h3⟩
theorem KT.put {H:Hp}{kvs:List (List Key×V)}{xs:List (List Key×Addr×Value)}(r:KT H kvs xs) (k:List Key){b:Addr}{y:V}{u:Value}(hb:H b=some (.tup (k.map kV))) (ry:RelV y u) :
  KT H (putK kvs k y) (storedH xs k b u):=by
 have e:(kvs.any fun kv=>decide (kv.1=k))=(atKey xs k).isSome:=by
  rw[amn,(r.val k).isSome_eq,Option.isSome_map]
 unfold putK storedH;rw[e];by_cases q:(atKey xs k).isSome=true
 ·rw[if_pos q,if_pos q];exact r.repl k ry
 ·rw[if_neg q,if_neg q];exact Paired.snoc r ⟨rfl,hb,ry⟩
theorem KT.keeps {H H':Hp}{kvs:List (List Key×V)}{xs:List (List Key×Addr×Value)}(r:KT H kvs xs) (ht:∀ b ys,H b=some (.tup ys)->H' b=some (.tup ys)):KT H' kvs xs :=
 Paired.mapP r fun _ _ z=>⟨z.1,ht _ _ z.2.1,z.2.2⟩
section
variable {P:Program}{w:World}{H:Hp}{h:Heap}{a:Addr}
theorem rd_of {u:HO}(ok:HOk P w H h) (e:Rd H a u):ab7 P w H h a u:=e.ok ok
theorem aog {kvs:List (Key×V)}(ok:HOk P w H h) (e:Rd H a (.dK kvs)):kvs.length<=sizeLine/\(a == sysModules)=false/\∃ vs,KV kvs vs/\h.DictOf (abh P w) a vs :=
 show ab7 P w H h a (.dK kvs) from rd_of ok e
theorem apv {kvs:List (Key×V)}(ok:HOk P w H h) (e:H a=some (.dK kvs)):kvs.length<=sizeLine/\(a == sysModules)=false/\∃ vs,KV kvs vs/\h.DictOf (abh P w) a vs:=aog ok (.inl e)
theorem akf {ks:List Key}(ok:HOk P w H h) (e:H a=some (.tup (ks.map kV))):(tupleKind (abh P w)).is h ks a:=by
 obtain⟨_,its,r,⟨o,h1,h2,n,h3⟩,_⟩:=(show ab7 P w H h a (.tup (ks.map kV)) from ok a _ e);exact⟨o,its.toArray,n,h1,h2,h3,by simpa using akq r⟩
theorem aq3 {kvs:List (List Key×V)}(ok:HOk P w H h) (e:Rd H a (.dT kvs)):kvs.length<=sizeLine/\(a == sysModules)=false /\
  ∃ xs,KT H kvs xs/\h.DictOfH (tupleKind (abh P w)) a xs:=by
 obtain⟨z,y,xs,r,o,es,ep,h1,h2,h3,h4,h5⟩:=(show ab7 P w H h a (.dT kvs) from rd_of ok e);refine⟨z,y,xs,r,o,es,ep,h1,h2,h3,h4,fun x hx=>?_,h5⟩;have all:∀ {l:List (List Key×V)} {m:List (List Key×Addr×Value)},KT H l m->∀ x∈m,(tupleKind (abh P w)).is h x.1 x.2.1:=by
  intro l m q;induction q with
  | nil=>intro x hx;exact nomatch hx
  | @cons p q ps qs hq t ih =>
   intro x hx;rcases List.mem_cons.mp hx with e | hx
   ·subst e;exact akf ok (by rw[← hq.1];exact hq.2.1)
   ·exact ih x hx
 exact all r x hx
theorem dt_of {kvs:List (List Key×V)}(ok:HOk P w H h) (e:H a=some (.dT kvs)):kvs.length<=sizeLine/\(a == sysModules)=false /\
  ∃ xs,KT H kvs xs/\h.DictOfH (tupleKind (abh P w)) a xs:=aq3 ok (.inl e)
end
def DGet (H:Hp) (a:Addr) (y:V) (r:Option V):Prop :=
 (∃ kvs k,Rd H a (.dK kvs)/\y=kV k/\r=valV kvs k)\/∃ kvs k b,Rd H a (.dT kvs)/\y = .ref b/\H b=some (.tup (k.map kV))/\r=valV kvs k
def DPut (H:Hp) (a:Addr) (y v:V) (H':Hp):Prop :=
 (∃ kvs k,H a=some (.dK kvs)/\y=kV k/\kvs.length<sizeLine/\H'=upd H a (.dK (putK kvs k v))) \/
 ∃ kvs k b,H a=some (.dT kvs)/\y = .ref b/\H b=some (.tup (k.map kV))/\kvs.length<sizeLine/\H'=upd H a (.dT (putK kvs k v))
theorem DGet.k {H:Hp}{a:Addr}{kvs:List (Key×V)}{k:Key}(e:H a=some (.dK kvs)):DGet H a (kV k) (valV kvs k):=.inl ⟨kvs,k,.inl e,rfl,rfl⟩
theorem DPut.k {H:Hp}{a:Addr}{kvs:List (Key×V)}{k:Key}{v:V}(e:H a=some (.dK kvs)) (hl:kvs.length<sizeLine):DPut H a (kV k) v (upd H a (.dK (putK kvs k v))):=.inl ⟨kvs,k,e,rfl,hl,rfl⟩
theorem DPut.t {H:Hp}{a b:Addr}{kvs:List (List Key×V)}{k:List Key}{v:V}(e:H a=some (.dT kvs)) (eb:H b=some (.tup (k.map kV))) (hl:kvs.length<sizeLine) :
  DPut H a (.ref b) v (upd H a (.dT (putK kvs k v))):=.inr ⟨kvs,k,b,e,rfl,eb,hl,rfl⟩
section
variable {X:Cx}{pins:List (Addr×Obj)}{σ:St}{H:Hp}{s:Shared}{a:Addr}{y v:V}{u r:Value}{o:Option V}{A:Around}{E:Value->Shared->Prop}
theorem arl {Q:Value->Shared->Prop}(hu:A.units+1<cLine) (I:Inv X pins σ H s) (g:DGet H a y (some v)) (ry:RelV y u) (h:∀ w' s',Inv X pins σ H s'->RelV v w'->Q w' s') :
  wpAny (model X.prog X.w) A (getItem (.ref a) u) Q E s:=by
 rcases g with⟨kvs,k,e,ey,l⟩ | ⟨kvs,k,b,e,ey,eb,l⟩
 ·subst ey;obtain⟨z,hd,vs,rel,dd⟩:=aog I.hok e;obtain⟨w',hw,rw'⟩:=RelO.some_of (v:=v) (o:=valueAt vs k) (by rw[l];exact rel.val k);exact wpAny_getItem_of (alq ry) dd.mapOf hw (h w' _ (I.tok _) rw')
 ·subst ey;cases (show u=Value.ref b from ry);obtain⟨z,hd,xs,rel,dd⟩:=aq3 I.hok e;obtain⟨w',hw,rw'⟩:=RelO.some_of (v:=v) (o:=(atKey xs k).map (·.2)) (by rw[l];exact rel.val k);obtain⟨p,hp,hp2⟩:=Option.map_eq_some_iff.mp hw;refine wpAny_getItem_heap (tupleKind_room_in1 hu) (akf I.hok eb) dd hp ?_;rw[hp2];exact h w' _ (I.tok _) rw'
theorem d_in {Q:Value->Shared->Prop}(hu:A.units+1<cLine) (I:Inv X pins σ H s) (g:DGet H a y o) (ry:RelV y u) (h:∀ s',Inv X pins σ H s'->Q (.bool o.isSome) s') :
  wpAny (model X.prog X.w) A (compareOp .In u (.ref a)) Q E s:=by
 rcases g with⟨kvs,k,e,ey,l⟩ | ⟨kvs,k,b,e,ey,eb,l⟩
 ·subst ey;obtain⟨z,hd,vs,rel,dd⟩:=aog I.hok e;refine wpAny_in_of (alq ry) hd dd.mapOf ?_;rw[← (rel.val k).isSome_eq,← l];exact h _ (I.tok _)
 ·subst ey;cases (show u=Value.ref b from ry);obtain⟨z,hd,xs,rel,dd⟩:=aq3 I.hok e;refine wpAny_in_heap (tupleKind_room_in1 hu) (akf I.hok eb) hd dd ?_;have q:=(rel.val k).isSome_eq;rw[Option.isSome_map] at q;rw[← q,← l];exact h _ (I.tok _)
theorem auc {Q:Value->Shared->Prop}(hu:A.units+1<cLine) (I:Inv X pins σ H s) (g:DGet H a y o) (ry:RelV y u) (h:∀ s',Inv X pins σ H s'->Q (.bool (!o.isSome)) s') :
  wpAny (model X.prog X.w) A (compareOp .NotIn u (.ref a)) Q E s:=by
 rcases g with⟨kvs,k,e,ey,l⟩ | ⟨kvs,k,b,e,ey,eb,l⟩
 ·subst ey;obtain⟨z,hd,vs,rel,dd⟩:=aog I.hok e;refine wpAny_notIn_of (alq ry) hd dd.mapOf ?_;rw[← (rel.val k).isSome_eq,← l];exact h _ (I.tok _)
 ·subst ey;cases (show u=Value.ref b from ry);obtain⟨z,hd,xs,rel,dd⟩:=aq3 I.hok e;refine wpAny_notIn_heap (tupleKind_room_in1 hu) (akf I.hok eb) hd dd ?_;have q:=(rel.val k).isSome_eq;rw[Option.isSome_map] at q;rw[← q,← l];exact h _ (I.tok _)
theorem aos {h':Heap}{t':Nat}{ob:HO}(I:Inv X pins σ H s) (mu:Mut (H a)) (hs:Heap.SameBut a s.heap h') (he:∃ q,h'.get? a=some q) (new:ab7 X.prog X.w (upd H a ob) h' a ob) :
  Inv X pins σ (upd H a ob) { s with heap:=h',toks:=t' } :=
 I.write (x:=a) (e:=a) mu (.inl rfl) (fun b q hb z=>(hs.2 b hb).trans z) he new
theorem dk_new {P:Program}{w:World}{H':Hp}{h':Heap}{kvs:List (Key×V)}{vs:List (Key×Value)}(z:kvs.length<=sizeLine) (hd:(a == sysModules)=false) (rel:KV kvs vs) (dd:h'.DictOf (abh P w) a vs) :
  ab7 P w H' h' a (.dK kvs):=⟨z,hd,vs,rel,dd⟩
theorem aqm {H':Hp}{Q:Unit->Shared->Prop}(hu:A.units+1<cLine) (I:Inv X pins σ H s) (g:DPut H a y v H') (ry:RelV y u) (rv:RelV v r) (h:∀ s',Inv X pins σ H' s'->Q () s') :
  wpAny (model X.prog X.w) A (setItem (.ref a) u r) Q E s:=by
 rcases g with⟨kvs,k,e,ey,l,eH⟩ | ⟨kvs,k,b,e,ey,eb,l,eH⟩
 ·subst ey eH;obtain⟨z,hd,vs,rel,dd⟩:=apv I.hok e;have hz:vs.length<=sizeLine:=by rw[← rel.length];exact z
  have hl:(putK kvs k v).length<=sizeLine:=by have:=ag8 kvs k v;omega
  refine wpAny_setItem_pairs (hsz:=hz) (alq ry) dd fun h' dd' hs=>h _ ?_
  have he:∃ q,h'.get? a=some q:=let ⟨q,_,_,hq,_⟩:=dd';⟨q,hq⟩;exact aos I (by rw[e];exact True.intro) hs he (dk_new hl hd (rel.put k rv) dd')
 ·subst ey eH;cases (show u=Value.ref b from ry);obtain⟨z,hd,xs,rel,dd⟩:=dt_of I.hok e;have hz:xs.length<=sizeLine:=by rw[← Paired.length rel];exact z
  have hl:(putK kvs k v).length<=sizeLine:=by have:=ag8 kvs k v;omega
  refine wpAny_setItem_heap (hsz:=hz) (tupleKind_room_in1 hu) (akf I.hok eb) dd fun h' dd' hs=>h _ ?_
  obtain⟨q,es,ep,hq,h2,h3,h4,_,h5⟩:=dd';refine aos I (by rw[e];exact True.intro) hs ⟨q,hq⟩ ⟨hl,hd,_,(rel.put k eb rv).keeps fun c ys ec=>?_,q,es,ep,hq,h2,h3,h4,h5⟩;rw[aac (aqv ec e (fun z=>nomatch z))];exact ec
end
section
variable {X:Cx}{pins:List (Addr×Obj)}{σ:St}{H:Hp}{s:Shared}{a:Addr}{kvs:List (Key×V)}{k:Key}{u:Value}{A:Around}{E:Value->Shared->Prop}
theorem d_len {Q:Value->Shared->Prop}(I:Inv X pins σ H s) (e:Rd H a (.dK kvs)) (h:∀ t s',Inv X pins σ H s'->Q (.int kvs.length t) s'):wpAny (model X.prog X.w) A (call (.builtin "len") [.ref a]) Q E s:=by
 obtain⟨z,hd,vs,rel,dd⟩:=aog I.hok e;refine call_len_dict hd dd (by rw[← rel.length];rw[sizeLine_eq] at z;omega) ?_;rw[← rel.length];exact h _ _ (I.tok _)
end
theorem ag4 {X:Cx}{pins:List (Addr×Obj)}{σ:St}{H:Hp}{s:Shared}{a:Addr}{y:V}{o:Option V}(I:Inv X pins σ H s) (g:DGet H a y o):s.TypeIs (.ref a) "dict" := by
 rcases g with⟨kvs,k,e,_,_⟩ | ⟨kvs,k,b,e,_,_,_⟩
 ·obtain⟨_,_,vs,_,dd⟩:=aog I.hok e;exact dd.typeIs
 ·obtain⟨_,_,xs,_,dd⟩:=aq3 I.hok e;exact dd.typeIs
structure M2 (X:Cx) (o:Expr) (m:Str) (apos:Pos) (e f:Expr) (cpos:Pos):Prop where
 base:attributeBase o m X.env (eval o X.env)=eval o X.env
 few:((backTo cpos (starEach [e,f] X.env)).all (fun x=>!x.1)&&(backToKw cpos (keywordEach [] X.env)).all (fun x=>x.1.isSome) && decide (([e,f]:List Expr).length+([]:List Keyword).length+(if ([]:List Keyword).isEmpty then 0 else 1)<30))=true
 line:(apos.endLine == cpos.line)=true
 trees:backTo cpos (starEach [e,f] X.env)=[(false,eval e X.env),(false,eval f X.env)]
end L2
namespace Att
open PySem PySem.W PySem.Calls PyProof.Rows
theorem ag3 {P:Params}{h:Heap}:∀ (ns:List Int) (vs:List Value),WellAll P h vs (ns.map WData.int)->IntsAre vs ns:=by
 intro ns;induction ns with
 | nil =>
  intro vs w;rw[List.map_nil] at w;cases w;exact .nil
 | cons n ns ih =>
  intro vs w;rw[List.map_cons] at w;cases w with
  | cons a b =>
   cases a;exact .cons _ _ (ih _ b)
theorem aqi {l:OpenLaw}{n:Nat}(hn:l.most=some n){P:Params}{h:Heap}{args:List WData}{vals:List Value}
  (hpre:l.row.toRowW.claim.pre args=true) (hwl:WellAll P h vals args) :
  ∃ a vs ns,vals=[Value.ref a]/\args=[WData.list (ns.map WData.int)]/\h.get? a=some { cls:=.type "list",data:=.seq vs.toArray }/\IntsAre vs ns/\ns.length<=n:=by
 have hsh:WShape.hasAll [] args [.list .int]=true:=(pre_splitW hpre).1;have hc:l.pre.holds [] { args:=args }=true:=(pre_splitW hpre).2;obtain⟨d,r,rfl,h1,h2⟩:=hasAllW_cons hsh;obtain rfl:=hasAllW_nil h2;obtain⟨xs,rfl,h3⟩:=hasW_list h1;obtain⟨ns,rfl⟩:=items_int h3;have hlen:ns.length<=n:=by
  unfold OpenLaw.pre at hc;have h4:(WTm.not (.lt (.lit (.int (n:Int))) (.len (.arg 0)))).holds [] { args:=[.list (ns.map .int)] }=true:=by
   have h4:=(holds_andW hc).1;rw[hn] at h4;exact h4
  have h5:=condW_of h4 (w_not (w_lt w_lit (w_len_list (w_arg rfl))));rw[List.length_map] at h5;refine Nat.le_of_not_lt fun q=>?_
  have q':(n:Int)<((ns.length:Nat):Int):=by omega
  first
   | (rw[decide_eq_true q'] at h5;exact absurd h5 (by decide))
   | (simp at h5;omega)
 cases hwl with
 | cons w1 w2 =>
  cases w2;cases w1 with
  | list ho hall=>exact⟨_,_,ns,rfl,rfl,ho,ag3 ns _ hall,hlen⟩
theorem aqr (l:OpenLaw) (args:List WData):l.row.toRowW.claim.post args (.bool true) args=true :=
 postW_of (r:=l.row.toRowW) (X:=(true == true))
  (show WShape.has [] (.bool true) .bool=true by first | rfl | decide | simp[WShape.has,WShape.arms,WShape.armsAll])
  (show (WTm.eq .res (.lit (.bool true))).value [] { args:=args,res:=some (.bool true),after:=args }=some (.bool (true == true)) from w_eq_bool (w_res rfl) w_lit) rfl
theorem attach_call {l:OpenLaw}{n:Nat}{q:Program}{loose:List Str}{XP:(Str->Option Value)->Heap->Prop}{YP:World->Heap->Prop}{d:DefRec}
  (hn:l.most=some n) (hdf:d.params.defaults=[])
  (call:∀ (w:World) (s₀ s₁:Shared) (mg mb:Str->Option Value) (fa:Addr) (o:Obj) (pm cd doc:Value) (a:Addr) (vs:List Value) (ns:List Int),Ground q loose [] XP w s₀ mg mb s₁.heap->YP w s₁.heap ->s₁.heap.get? fa=some o->o.data = .func (docDef d.name d.params d.body d.scope pm cd doc)->s₁.heap.CodeRec cd d.name->mg d.name=some (.ref fa) ->s₁.heap.get? a=some { cls:=.type "list",data:=.seq vs.toArray }->IntsAre vs ns->ns.length<=n->s₁.gens=#[] ->
   codeAny (model l.prog w) callerA (.call (.ref fa) ⟨[.ref a],[]⟩) (fun r s'=>r = .ok (.ret (.bool true))/\OldK s₁.heap s'.heap/\s'.os=s₁.os/\AllBare s'.gens) s₁) :
  WalkO q loose XP YP l.row.toRowW d [] (fun f vs=>PySem.call f vs):=by
 intro w s₀ s₁ mg mb G Y fa o pm cd doc dV kV ho hd hcd hD hmg hg args vals as hpre hlay hrd hwl hlo;obtain rfl:dV = .none:=Dflts.none hD hdf;obtain rfl:kV = .none:=Dflts.noKw hD;obtain⟨a,vs,ns,rfl,rfl,hobj,hints,hlen⟩:=aqi hn hpre hwl;refine enter_call (codeAny_mono (call w s₀ s₁ mg mb fa o pm cd doc a vs ns G Y ho (fd_plain hd) hcd hmg hobj hints hlen hg) fun r s' hq=>?_);obtain⟨rfl,h2,h3,h4⟩:=hq;exact⟨.inl ⟨.bool true,.bool true,[],rfl,fun _=>rfl,.bool true,aqr l _,fun _=>⟨List.Pairwise.nil,fun _ hm=>(nomatch hm)⟩⟩,h2,h3,h4⟩
end Att
namespace L2
open PySem PySem.Spec PyProof.Rows
theorem akx:∀ {vs:List Value}{ns:List Int},IntsAre vs ns->Vals (ns.map V.int) vs
 | _,_,.nil=>.nil
 | _,_,.cons n t h=>.cons ⟨t,rfl⟩ (akx h)
def Only (H:Hp):Prop:=∀ b,H b=none\/∃ o xs,H b=some (.frz o (.lst xs))
theorem aru {P:Program}{w:World}{K:PySem.W.Frag}{mg mb:Str->Option Value}{CX:CXT}{k:Nat}{fa a:Addr}{fd:FuncData}{x:Str}{sp:Sp}{s₁:Shared}{vs:List Value}{ns:List Int}
  (KX:K.In s₁.heap) (hns:s₁.heap.Ns mainGlobals mg) (hb:s₁.heap.Ns builtinsNs mb) (hbb:∀ x:Str,x ≠ "__name__" -> mb x=bootBuiltins x) (hlim:s₁.heap.NoLimit) (hg:s₁.gens=#[])
  (ha:s₁.heap.get? a=some { cls:=.type "list",data:=.seq vs.toArray }) (hi:IntsAre vs ns) (hl:ns.length<=sizeLine) (hr:Room k callerA)
  (F:∀ base:Heap,K.In base->base.Ns mainGlobals mg->FnOk P w K mg base CX k fa fd [x] sp) (hbind:∀ (s:Shared) (u:Value),BindsTo s fd ⟨[u],[]⟩ [(x,u)])
  (hsp:∀ H:Hp,Only H->SqL K H a (ns.map V.int)->sp [.ref a] H (fun v _=>v = .bl true) fun _ _ _=>False)
  (hCX:∀ H e s',CX [] H s₁ (fun _ _ _=>False) e s'->False) :
  codeAny (model P w) callerA (.call (.ref fa) ⟨[.ref a],[]⟩) (fun r s'=>r = .ok (.ret (.bool true))/\OldK s₁.heap s'.heap/\s'.os=s₁.os/\AllBare s'.gens) s₁:=by
 have rv:=akx hi;have lenV:=hi.length;have core:∀ H:Hp,Only H->SqL K H a (ns.map V.int)->HOk P w H s₁.heap->(∀ b,H b≠none->b=a)->(H a≠none->K.lookup a=none) ->
   codeAny (model P w) callerA (.call (.ref fa) ⟨[.ref a],[]⟩) (fun r s'=>r = .ok (.ret (.bool true))/\OldK s₁.heap s'.heap/\s'.os=s₁.os/\AllBare s'.gens) s₁:=by
  intro H hO hS hok hA hK;have base_of:∀ {b:Addr} {o:Obj},s₁.heap.get? b=some o->H b=none->(hidT s₁.heap H).get? b=some o:=fun e n=>asi e n
  have noA:∀ {b:Addr} {o:Obj} {es:Array DictEntry} {ep:Nat},s₁.heap.get? b=some o->o.data = .dict es ep->H b=none:=fun {b o es ep} e d=>by
   cases q:H b with
   | none=>rfl
   | some u =>
    have e':b=a:=hA b (by rw[q];simp);subst e';rw[ha] at e;cases e;have d':Data.seq vs.toArray _=Data.dict es ep:=d;cases d'
  have nsK:∀ {b:Addr} {m:Str->Option Value},s₁.heap.Ns b m->(hidT s₁.heap H).Ns b m:=fun {b m} ⟨o,es,ep,e,d,r⟩=>⟨o,es,ep,base_of e (noA e d),d,r⟩
  have hKb:K.In (hidT s₁.heap H):=fun b o e=>base_of (KX b o e) (by
   cases q:H b with
   | none=>rfl
   | some u =>
    have e':b=a:=hA b (by rw[q];simp);subst e';rw[hK (by rw[q];simp)] at e;cases e)
  have hM:Mod K mg (hidT s₁.heap H):=⟨hKb,nsK hns,⟨mb,nsK hb,hbb⟩,let ⟨mc,h1,h2⟩:=hlim;⟨mc,nsK h1,h2⟩⟩;have e0:Env0 P w K mg (hidT s₁.heap H) callerA [] s₁ H:=⟨rfl,hM,fun b o e=>avw e,Nat.le_of_eq (ap5 _ _),trivial,fun b hb=>absurd (show b∈([]:List Addr) from hb) (by simp),hok,.of_eq hg⟩;refine codeAny_mono ((F _ hKb (nsK hns)).run callerA [] s₁ H ⟨[.ref a],[]⟩ [.ref a] [.ref a] _ _ hr e0 (hbind s₁ (.ref a)) (.cons rfl .nil) (hsp H hO hS)) fun r s' h=>?_
  cases r with
  | error e=>exact (hCX H e s' h).elim
  | ok fl =>
   cases fl with
   | next=>exact False.elim h
   | brk=>exact False.elim h
   | cont=>exact False.elim h
   | ret u =>
    obtain⟨v,H',os,bare,un,hok',r',q⟩:=h;have q':v = .bl true:=q;subst q';obtain rfl:u=Value.bool true:=r';refine⟨rfl,OldK.of_keep fun b o e=>?_,os,bare⟩;cases q:H b with
    | none=>exact un.keep b o e q (by intro z;exact absurd (show b∈([]:List Addr) from z) (by simp)) (by simp)
    | some u =>
     rcases hO b with z | ⟨ob,xs,z⟩
     ·rw[q] at z;cases z
     ·have z2:=un.frzs b ob _ z;obtain⟨e1,_⟩:=hok b _ z;obtain⟨e2,_⟩:=hok' b _ z2;rw[e] at e1;cases e1;exact e2
 cases hk:K.lookup a with
 | some o =>
  have e:=KX a o hk;rw[ha] at e;cases e;refine core (fun _=>none) (fun _=>.inl rfl) (.inr ⟨_,vs.toArray,_,hk,rfl,rfl,rfl,by rw[List.size_toArray,lenV];exact hl,by simpa using rv⟩) (fun b u z=>by have z':(none:Option HO)=some u:=z;cases z') (fun b z=>absurd rfl z) fun z=>absurd rfl z
 | none =>
  refine core (fun b=>if b=a then some (.frz { cls:=.type "list",data:=.seq vs.toArray } (.lst (ns.map V.int))) else none) (fun b=>?_) (.inl (.inr ⟨{ cls:=.type "list",data:=.seq vs.toArray },if_pos rfl⟩)) (fun b u z=>?_) (fun b z=>?_) fun _=>hk
  ·by_cases hb:b=a
   ·exact .inr ⟨_,_,if_pos hb⟩
   ·exact .inl (if_neg hb)
  ·by_cases hb:b=a
   ·have z':=(if_pos hb).symm.trans z;cases z';subst hb;exact⟨ha,by rw[List.length_map];exact hl,vs,_,rv,ha⟩
   ·have z':=(if_neg hb).symm.trans z;cases z'
  ·by_cases hb:b=a
   ·exact hb
   ·exact absurd (if_neg hb) z
theorem walk_of {l:PySem.W.OpenLaw}{n k:Nat}{q:Program}{loose:List Str}{XP:(Str->Option Value)->Heap->Prop}{YP:World->Heap->Prop}{d:DefRec}{K:Params->PySem.W.Frag}{CX:World->CXT}{sp:World->Sp}{x:Str}
  (hn:l.most=some n) (hn2:n<=sizeLine) (hdf:d.params.defaults=[]) (hr:Room k callerA)
  (hY:∀ (w:World) (h:Heap),YP w h->(K w.params).In h)
  (F:∀ (w:World) (mg:Str->Option Value) (fa:Addr) (h:Heap),(K w.params).In h->h.Ns mainGlobals mg->mg d.name=some (.ref fa) ->∃ fd:FuncData,(∀ (s:Shared) (u:Value),BindsTo s fd ⟨[u],[]⟩ [(x,u)]) /\ ∀ base:Heap,(K w.params).In base->base.Ns mainGlobals mg->FnOk l.prog w (K w.params) mg base (CX w) k fa fd [x] (sp w))
  (hsp:∀ (w:World) (H:Hp) (a:Addr) (ns:List Int),ns.length<=n->Only H->SqL (K w.params) H a (ns.map V.int)->sp w [.ref a] H (fun v _=>v = .bl true) fun _ _ _=>False)
  (hCX:∀ (w:World) (H:Hp) (s:Shared) (e:Value) (s':Shared),CX w [] H s (fun _ _ _=>False) e s'->False) :
  PySem.W.WalkO q loose XP YP l.row.toRowW d [] (fun f vs=>PySem.call f vs):=by
 refine Att.attach_call hn hdf fun w s₀ s₁ mg mb fa o pm cd doc a vs ns G Y ho hd hcd hmg hobj hints hlen hg=>?_
 have KX:=hY w _ Y;obtain⟨fd,hb,hF⟩:=F w mg fa _ KX G.T.g hmg;exact aru KX G.T.g G.T.b G.T.builtins G.T.nolimit hg hobj hints (Nat.le_trans hlen hn2) hr hF hb (fun H hO hS=>hsp w H a ns hlen hO hS) fun H e s'=>hCX w H s₁ e s'
def aey (s:Stmt):Arguments:=match s with
 | .FunctionDef _ a _ _ _ _ _ _ _ _=>a
 | _=>{ posonlyargs:=[],args:=[],vararg:=none,kwonlyargs:=[],kw_defaults:=[],kwarg:=none,defaults:=[] }
def acy (s:Stmt):List Stmt:=match s with
 | .FunctionDef _ _ b _ _ _ _ _ _ _=>b
 | _=>[]
def aae (s:Stmt):Scope:=match s with
 | .FunctionDef _ _ _ _ _ _ sc _ _ _=>sc
 | _=>{ kind:=.function,names:=[],isGenerator:=false,isCoroutine:=false }
abbrev CX0:CXT:=fun _ _ _ _ _ _=>False
abbrev E0:XK:=fun _ _ _=>False
theorem aa7 {X:Cx}:agb CX0 X E0:=fun _ _ _ _ _ _ _ h=>h.elim
structure Fun (K:PySem.W.Frag) (x qual:Str) (st:Stmt) (f:Addr) (fd:FuncData):Prop where
 ex:∃ (oc:Value) (od:Option Addr) (kV doc pm:Value) (an:Option Addr) (cdv ct:Value) (osl:Array (Option Value)),
  fd=PySem.W.fnOf x qual (aey st) (acy st) (aae st) .none kV doc pm an cdv ct/\K.lookup f=some ⟨oc,od,.func fd,osl⟩/\PySem.W.codeIn K cdv qual=true
 kp:PySem.W.keepIn K (.ref f)=true
section
variable {P:Program}{w:World}{K:PySem.W.Frag}{mg:Str->Option Value}{base:Heap}
theorem Fun.ok {x qual:Str}{st:Stmt}{f:Addr}{fd:FuncData}{N ps:List Str}{k:Nat}{sp:Sp}(F:Fun K x qual st f fd) (S:FnScope N ps (aae st)) (len:∀ vs H Q E,sp vs H Q E->vs.length=ps.length)
  (hbody:∀ (cdv:Value) (A:Around) (outer:List Env) (s:Shared) (H:Hp) (vs:List V) (Q:VK) (E:XK),Room k (A.deeper (envOfC qual (aae st) s.heap.objs.size f cdv))->sp vs H Q E ->∃ t,PSs (cxOf CX0 P w K mg base N qual (aae st) f cdv A outer s H E).nox (acy st) t/\t { nx:=fun _ H'=>Q .non H',rt:=Q } (start N vs) H):FnOk P w K mg base CX0 (k+1) f fd ps sp:=by
 obtain⟨oc,od,kV,doc,pm,an,cdv,ct,osl,rfl,lk,hcd⟩:=F.ex;refine fn_of lk hcd S len fun A outer s H vs Q E hr hsp=>?_
 obtain⟨t,h,q⟩:=hbody cdv A outer s H vs Q E hr hsp;exact⟨t,h.nox,q⟩
theorem Fun.binds {x qual:Str}{st:Stmt}{f:Addr}{fd:FuncData}{ps:List Str}(F:Fun K x qual st f fd)
  (h:∀ (kV doc pm:Value) (an:Option Addr) (cdv ct:Value) (us:List Value),us.length=ps.length->bindArgs (PySem.W.fnOf x qual (aey st) (acy st) (aae st) .none kV doc pm an cdv ct) ⟨us,[]⟩=pure (ps.zip us)):aeg K fd ps []:=by
 obtain⟨oc,od,kV,doc,pm,an,cdv,ct,osl,rfl,lk,hcd⟩:=F.ex;exact .all (h kV doc pm an cdv ct)
theorem abb {x qual:Str}{st:Stmt}{f:Addr}{oc:Value}{od an:Option Addr}{osl:Array (Option Value)}{kV doc pm cdv ct:Value}(l:K.lookup f=some ⟨oc,od,.func (PySem.W.fnOf x qual (aey st) (acy st) (aae st) .none kV doc pm an cdv ct),osl⟩)
  (c:PySem.W.codeIn K cdv qual=true) (k:PySem.W.keepIn K (.ref f)=true):Fun K x qual st f (PySem.W.fnOf x qual (aey st) (acy st) (aae st) .none kV doc pm an cdv ct):=⟨⟨oc,od,kV,doc,pm,an,cdv,ct,osl,rfl,l,c⟩,k⟩
end
theorem ajf {A:Around}{k:Nat}(hr:Room k A):A.units+1<cLine:=Nat.lt_of_le_of_lt (Nat.add_le_add_left (by decide:1<=64) _) hr.units
section
variable {X:Cx}
theorem pv (i:Nat){x:Str}{pos:Pos}(hN:X.N[i]?=some x:=by rfl) (hv:Vis X.env.scope x:=by first | exact Or.inl rfl | exact Or.inr (Or.inl rfl) | exact Or.inr (Or.inr rfl)) (hd:(x == ("__debug__" : Str))=false:=by decide)
  (hcd:(x == ("__classdict__" : Str))=false:=by decide):PE X (.Name x pos) (tVar i):=ap2 hN hv hd hcd
theorem aot:ab6 X (.builtin "len") (fun xs H Q=>∃ a kvs,xs=[V.ref a]/\H a=some (.dK kvs)/\Q (.int kvs.length) H):=by
 intro pins s σ H xs us Q I r h;obtain⟨a,kvs,rfl,ha,q⟩:=h;obtain⟨u,rfl,ru⟩:=af0 r;cases ru;exact d_len I (.inl ha) fun t s' I'=>⟨.int kvs.length,H,I',⟨t,rfl⟩,q⟩
end
theorem iteF {A B:Prop}(h:B):if false=true then A else B:=by
 rw[if_neg Bool.false_ne_true];exact h
theorem iteT {A B:Prop}(h:A):if true=true then A else B:=by
 rw[if_pos rfl];exact h
theorem ite2 {c A B:Prop} [Decidable c] (h1:c->A) (h2:¬ c->B):if c then A else B:=by
 by_cases h:c
 ·rw[if_pos h];exact h1 h
 ·rw[if_neg h];exact h2 h
def Same (H H':Hp):Prop:=∀ b o,H b=some o->H' b=some o
theorem Same.refl (H:Hp):Same H H:=fun _ _ h=>h
theorem Same.trans {H H1 H2:Hp}(a:Same H H1) (b:Same H1 H2):Same H H2:=fun c o h=>b c o (a c o h)
theorem Same.free {H H':Hp}(e:Same H H'){l:Addr}(h:H' l=Option.none):H l=Option.none:=by
 cases q:H l with
 | none=>rfl
 | some o =>
  rw[e l o q] at h;cases h
theorem Same.seq {K:PySem.W.Frag}{H H':Hp}{a:Addr}{xs:List V}(e:Same H H') (h:SqL K H a xs):SqL K H' a xs:=by
 rcases h with (h | ⟨o,h⟩) | h
 ·exact .inl (.inl (e _ _ h))
 ·exact .inl (.inr ⟨o,e _ _ h⟩)
 ·exact .inr h
section
variable {κ:Type} [DecidableEq κ]
theorem aoj:∀ {l:List κ}{k:κ},l.Nodup->¬ k∈l->(l++[k]).Nodup
 | [],k,_,_=>by simp
 | a::r,k,h,hk=>by
  obtain⟨h1,h2⟩:=List.nodup_cons.mp h;show (a::(r++[k])).Nodup;refine List.nodup_cons.mpr ⟨fun m=>?_,aoj h2 fun m=>hk (List.mem_cons.mpr (Or.inr m))⟩;rcases List.mem_append.mp m with q | q
  ·exact h1 q
  ·exact hk (List.mem_cons.mpr (Or.inl (List.mem_singleton.mp q).symm))
end
end L2
namespace PySem
structure XAt (h:Heap) (e:Addr) (cls:Value) (od:Option Addr) (T:Addr) (fl:Value):Prop where
 ex:∃ oe vs oT ts,h.get? e=some oe/\oe.cls=cls/\oe.dict=od/\oe.data = .fields vs/\vs[1]?=some (.ref T)/\T≠e/\h.get? T=some oT/\oT.data = .fields ts/\ts[3]?=some fl
structure XKeep (fs xs:List Addr) (h h':Heap):Prop where
 keep:∀ b o,h.get? b=some o->b∉xs->b∉fs->h'.get? b=some o
 slot:∀ b o,h.get? b=some o->b∉xs->∃ sl,h'.get? b=some { o with slots:=sl }
 there:∀ b o,h.get? b=some o->∃ o',h'.get? b=some o'
theorem XKeep.trans {fs xs:List Addr}{h h1 h2:Heap}(a:XKeep fs xs h h1) (b:XKeep fs xs h1 h2):XKeep fs xs h h2 where
 keep:=fun c o e n1 n2=>b.keep c o (a.keep c o e n1 n2) n1 n2
 slot:=fun c o e n1=>by
  obtain⟨s1,e1⟩:=a.slot c o e n1;obtain⟨s2,e2⟩:=b.slot c _ e1 n1;exact⟨s2,e2⟩
 there:=fun c o e=>by
  obtain⟨o1,e1⟩:=a.there c o e;exact b.there c o1 e1
theorem XKeep.more {fs xs ys:List Addr}{h h':Heap}(a:XKeep fs xs h h') (hs:∀ b∈xs,b∈ys):XKeep fs ys h h' :=
 ⟨fun c o e n1 n2=>a.keep c o e (fun z=>n1 (hs _ z)) n2,fun c o e n1=>a.slot c o e fun z=>n1 (hs _ z),a.there⟩
section
variable {M:Model}{A:Around}{E:Value->Shared->Prop}{s:Shared}
abbrev frOf (l:List Env):List Addr:=l.filterMap (·.frame)
theorem agg {h base:Heap}{l:List Env}(hl:h.FunFrames base l){e:Addr}{oe:Obj}{vs:Array Value}(he:h.get? e=some oe) (hd:oe.data = .fields vs):e∉frOf l:=fun hm=>by
 obtain⟨_,o,ho,hnf⟩:=hl.mem hm;have:=ho.symm.trans he;cases this;exact hnf vs hd
theorem aqu {base:Heap}{env:Env}{outer:List Env}{L e:Addr}{oe:Obj}{vs:Array Value}{head:Value}{had:Bool}{Q:Unit->Shared->Prop}
  (hfr:A.frames=some (env::outer)) (hl:s.heap.FunFrames base (env::outer)) (hf:env.frame=some L) (he:s.heap.get? e=some oe) (hd:oe.data = .fields vs) (hsz:1<vs.size)
  (k:∀ h' T,XKeep (frOf (env::outer)) [e] s.heap h'->XAt h' e oe.cls oe.dict T (rawInt L)->s.heap.objs.size<=T->Q () { s with heap:=h' }) :
  wpAny M A (do let a ← frameOf env;let pl ← entryPlaceOf L had;let b ← EntryCells.newEntry head a .none (rawInt L) .none pl;setField (.ref e) 1 b) Q E s:=by
 have hne:=agg hl he hd;refine wpAny_bind (wpAny_frameOf_fun hfr hl hf fun g so=>wpAny_bind (wpAny_entryPlaceOf fun pl hpl=>?_));unfold EntryCells.newEntry newFields;have ge:g.get? e=some oe:=by rw[so.2.1 e hne];exact he
 have hTe:g.objs.size≠e:=fun z=>absurd (Heap.lt_size ge) (by rw[z];exact Nat.lt_irrefl _)
 refine wpAny_bind (wpAny_newObj_type ?_ (hpl.sizeOk5 _ _ _ _ _));generalize hob:({ cls:=.type "traceback",dict:=none,data:=.fields _ }:Obj)=ob;refine wpAny_setField (Heap.get?_push_of_some ob ge) hd hsz (k _ g.objs.size ?_ ?_ ?_)
 ·have st:∀ b o,g.get? b=some o->b≠e->((g.push ob).update e (Obj.mapFields (·.setIfInBounds 1 (Value.ref g.objs.size)))).get? b=some o:=fun b o hb n=>by
   rw[Heap.get?_update_other _ _ (Ne.symm n)];exact Heap.get?_push_of_some _ hb
  refine⟨fun b o hb n1 n2=>st b o (by rw[so.2.1 b n2];exact hb) (by simpa using n1),fun b o hb n1=>?_,fun b o hb=>?_⟩
  ·obtain⟨sl,q⟩:=so.2.2 b o hb;exact⟨sl,st b _ q (by simpa using n1)⟩
  ·obtain⟨sl,q⟩:=so.2.2 b o hb;by_cases n:b=e
   ·subst n;exact⟨_,Heap.get?_update_self _ (Heap.get?_push_of_some ob ge) (Obj.isFreed_of_fields (Obj.data_mapFields hd _))⟩
   ·exact⟨_,st b _ q n⟩
 ·refine⟨_,_,ob,_,Heap.get?_update_self _ (Heap.get?_push_of_some ob ge) (Obj.isFreed_of_fields (Obj.data_mapFields hd _)),Obj.cls_mapFields _ _,?_,Obj.data_mapFields hd _,by simp[hsz],hTe,?_,by rw[← hob],?_⟩
  ·obtain⟨c,dc,dt,sl⟩:=oe;simp only at hd;subst hd;rfl
  ·rw[Heap.get?_update_other _ _ (Ne.symm hTe)];exact Heap.get?_push_size g (by rw[← hob];rfl)
  ·rcases hpl with rfl | ⟨_,_,_,_,_,_,_,rfl⟩<;>simp
 ·rw[so.1];exact Nat.le_refl _
theorem agp {e T:Addr}{cls fl:Value}{od:Option Addr}{Q:Unit->Shared->Prop}(x:XAt s.heap e cls od T fl)
  (k:∀ h',XKeep [] [T] s.heap h'->XAt h' e cls od T .none->Q () { s with heap:=h' }):wpAny M A (setFlight (.ref e) none) Q E s:=by
 obtain⟨oe,vs,oT,ts,he,hc,hdi,hd,h1,hTe,hT,hdT,h3⟩:=x.ex;have z3:3<ts.size:=(Array.getElem?_eq_some_iff.mp h3).1;unfold setFlight;refine wpAny_bind (wpAny_field he hd h1 ?_);rw[if_pos (by simp)];refine wpAny_setField hT hdT z3 (k _ ?_ ?_)
 ·have ot:∀ b o,s.heap.get? b=some o->b≠T->(s.heap.update T (Obj.mapFields (·.setIfInBounds 3 ((none:Option Addr).elim Value.none fun f=>rawInt f)))).get? b=some o:=fun b o hb n=>by
   rw[Heap.get?_update_other _ _ (Ne.symm n)];exact hb
  refine⟨fun b o hb n1 _=>ot b o hb (by simpa using n1),fun b o hb n1=>⟨o.slots,ot b o hb (by simpa using n1)⟩,fun b o hb=>?_⟩;by_cases n:b=T
  ·subst n;exact⟨_,Heap.get?_update_self _ hT (Obj.isFreed_of_fields (Obj.data_mapFields hdT _))⟩
  ·exact⟨o,ot b o hb n⟩
 ·exact⟨oe,vs,_,_,by rw[Heap.get?_update_other _ _ hTe];exact he,hc,hdi,hd,h1,hTe,Heap.get?_update_self _ hT (Obj.isFreed_of_fields (Obj.data_mapFields hdT _)),Obj.data_mapFields hdT _,by simp[z3]⟩
theorem avm {base:Heap}{env:Env}{outer:List Env}{L e:Addr}{oe:Obj}{vs:Array Value}{Q:Unit->Shared->Prop}
  (hfr:A.frames=some (env::outer)) (hl:s.heap.FunFrames base (env::outer)) (hf:env.frame=some L) (he:s.heap.get? e=some oe) (hd:oe.data = .fields vs) (h1:vs[1]?=some .none)
  (k:∀ h' T,XKeep (frOf (env::outer)) [e] s.heap h'->XAt h' e oe.cls oe.dict T (rawInt L)->s.heap.objs.size<=T->Q () { s with heap:=h' }):wpAny M A (noteFrame (.ref e) env) Q E s:=by
 unfold noteFrame;simp only[hf];refine wpAny_bind (wpAny_field he hd h1 ?_);rw[if_neg (by decide)];exact aqu hfr hl hf he hd (Array.getElem?_eq_some_iff.mp h1).1 k
theorem aop {base:Heap}{env:Env}{outer:List Env}{L e T:Addr}{cls:Value}{od:Option Addr}{Q:Unit->Shared->Prop}
  (hfr:A.frames=some (env::outer)) (hl:s.heap.FunFrames base (env::outer)) (hf:env.frame=some L) (x:XAt s.heap e cls od T .none)
  (k:∀ h' T',XKeep (frOf (env::outer)) [e,T] s.heap h'->XAt h' e cls od T' (rawInt L)->s.heap.objs.size<=T'->Q () { s with heap:=h' }):wpAny M A (noteFrame (.ref e) env) Q E s:=by
 obtain⟨oe,vs,oT,ts,he,hc,hdi,hd,h1,hTe,hT,hdT,h3⟩:=x.ex;subst hc hdi;unfold noteFrame;simp only[hf];refine wpAny_bind (wpAny_field he hd h1 ?_);rw[if_pos (by simp)];refine wpAny_bind (wpAny_field hT hdT h3 ?_);rw[if_neg (by simp[rawInt])];refine wpAny_bind (wpAny_setField hT hdT (Array.getElem?_eq_some_iff.mp h3).1 ?_);have ot:∀ b o,s.heap.get? b=some o->b≠T->(s.heap.update T (Obj.mapFields (·.setIfInBounds 3 Value.none))).get? b=some o:=fun b o hb n=>by
  rw[Heap.get?_update_other _ _ (Ne.symm n)];exact hb
 have kp:XKeep (frOf (env::outer)) [e,T] s.heap (s.heap.update T (Obj.mapFields (·.setIfInBounds 3 Value.none))):=by
  refine⟨fun b o hb n1 _=>ot b o hb (fun z=>n1 (by simp[z])),fun b o hb n1=>⟨o.slots,ot b o hb (fun z=>n1 (by simp[z]))⟩,fun b o hb=>?_⟩;by_cases n:b=T
  ·subst n;exact⟨_,Heap.get?_update_self _ hT (Obj.isFreed_of_fields (Obj.data_mapFields hdT _))⟩
  ·exact⟨o,ot b o hb n⟩
 refine aqu hfr (hl.of_keeps fun b o hb nf=>⟨o,ot b o hb fun z=>?_,rfl⟩) hf (ot e oe he (Ne.symm hTe)) hd (Array.getElem?_eq_some_iff.mp h1).1 fun h' T' kp' x' n'=>k h' T' (kp.trans (kp'.more fun b z=>by simp at z;simp[z])) x' ?_
 ·subst z;have:=hb.symm.trans hT;cases this;exact nf ts hdT
 ·rw[Heap.size_update] at n';exact n'
theorem asm {base:Heap}{env:Env}{outer:List Env}{L e:Addr}{oe:Obj}{vs:Array Value}{Q:Unit->Shared->Prop}
  (hfr:A.frames=some (env::outer)) (hl:s.heap.FunFrames base (env::outer)) (hf:env.frame=some L) (he:s.heap.get? e=some oe) (hd:oe.data = .fields vs) (h1:vs[1]?=some .none)
  (k:∀ h' T,XKeep (frOf (env::outer)) [e] s.heap h'->XAt h' e oe.cls oe.dict T .none->s.heap.objs.size<=T->Q () { s with heap:=h' }):wpAny M A (leaving env (.ref e)) Q E s:=by
 unfold leaving;refine wpAny_bind (avm hfr hl hf he hd h1 fun h1' T kp x nT'=>have nT:=Heap.get?_none_of_le nT';agp x fun h2 kp2 x2=>k h2 T ⟨fun b o e1 n1 n2=>?_,fun b o e1 n1=>?_,fun b o e1=>?_⟩ x2 nT')
 ·exact kp2.keep b o (kp.keep b o e1 n1 n2) (fun z=>by simp at z;subst z;rw[nT] at e1;cases e1) (by simp)
 ·obtain⟨s1,q1⟩:=kp.slot b o e1 n1;exact⟨s1,kp2.keep b _ q1 (fun z=>by simp at z;subst z;rw[nT] at e1;cases e1) (by simp)⟩
 ·obtain⟨o1,q1⟩:=kp.there b o e1;exact kp2.there b o1 q1
theorem asx {base:Heap}{env:Env}{outer:List Env}{L e T:Addr}{cls:Value}{od:Option Addr}{Q:Unit->Shared->Prop}
  (hfr:A.frames=some (env::outer)) (hl:s.heap.FunFrames base (env::outer)) (hf:env.frame=some L) (x:XAt s.heap e cls od T .none)
  (k:∀ h' T',XKeep (frOf (env::outer)) [e,T] s.heap h'->XAt h' e cls od T' .none->s.heap.objs.size<=T'->Q () { s with heap:=h' }):wpAny M A (leaving env (.ref e)) Q E s:=by
 unfold leaving;refine wpAny_bind (aop hfr hl hf x fun h1' T' kp x' nT'=>have nT:=Heap.get?_none_of_le nT';agp x' fun h2 kp2 x2=>k h2 T' ⟨fun b o e1 n1 n2=>?_,fun b o e1 n1=>?_,fun b o e1=>?_⟩ x2 nT')
 ·exact kp2.keep b o (kp.keep b o e1 n1 n2) (fun z=>by simp at z;subst z;rw[nT] at e1;cases e1) (by simp)
 ·obtain⟨s1,q1⟩:=kp.slot b o e1 n1;exact⟨s1,kp2.keep b _ q1 (fun z=>by simp at z;subst z;rw[nT] at e1;cases e1) (by simp)⟩
 ·obtain⟨o1,q1⟩:=kp.there b o e1;exact kp2.there b o1 q1
end
section
variable {prog:Program}{w:World}{A:Around}{E:Value->Shared->Prop}{h:Heap}{g:Array GenState}{d:Drawn}{t:Nat}{os:OsState}
variable {nm q:Str}{C N:Addr}{bs bm bmB:List Value}{hdct:Bool}{sn:List Str}{sub:List Value}{ab:Bool}{col:Option Bool}{dd:Option Addr}{k0 k1 k2 k3 k5:Option Value}{B Bn newId nid initId inN:String}{bmN:List Value}
abbrev xTup (args:List Value):Obj:={ cls:=.type "tuple",data:=.seq args.toArray }
abbrev xNew (C t:Addr):Obj:={ cls:=.ref C,data:=.fields #[.ref t,.none,.none,.none,.bool false,.none] }
theorem x_made (Fn:ExcBaseFacts Bn newId inN bmN) (hBn:bmB.contains (.type Bn)=true) (F:ExcBaseFacts B nid initId bmB) (T:OwnTail h bmB bm){mN:Str->Option Value}{args:List Value}{fI:Addr}{oI:Obj}{Q:Fin->Shared->Prop}
  (cC:h.get? C=some (excClassObj nm q C N bs bm hdct sn sub ab col dd k0 k1 k2 k3 k5 newId)) (cN:h.Ns N mN) (ci:mN "__init__" = some (.ref fI)) (cf:h.get? fI=some oI) (ct:oI.cls = .type "function") (hz:args.length<=sizeLine)
  (k:∀ h' e,h.objs.size<=e->Heap.MadeExcOf h h' e (.ref C) args->wpAny (model prog w) A (call (.ref fI) (.ref e::args)) (fun r s'=>r = .none/\Q (.done (.ret (.ref e))) s') E ⟨h',g,d,t,os⟩) :
  wpAny (model prog w) A (Builtin.«type.__call__» ⟨.ref C::args,[]⟩) Q E ⟨h,g,d,t,os⟩:=by
 repeat (first | with_reducible refine wpAny_loadPart_at cC ?_ | with_reducible refine wpAny_madeBy_exc cC ?_ | wp_step)
 refine codeAny_call_builtin_code (Code.quiet_builtin _ Fn.quiet) (wpAny_check_new_subU Fn hBn T cC (codeAny_exc_new_subU Fn hBn F T cC ?_ hz));show wpAny _ _ _ _ _ _;have up:∀ b o,h.get? b=some o->((h.push (xTup args)).push (xNew C h.objs.size)).get? b=some o:=fun b o z=>Heap.get?_push_of_some _ (Heap.get?_push_of_some _ z)
 have ge:((h.push (xTup args)).push (xNew C h.objs.size)).get? (h.objs.size+1)=some (xNew C h.objs.size):=Heap.get?_push_at (by rw[Heap.size_push]) rfl;have gt:((h.push (xTup args)).push (xNew C h.objs.size)).get? h.objs.size=some (xTup args):=Heap.get?_push_of_some _ (Heap.get?_push_at rfl rfl);have cC1:=up C _ cC;have cN1:((h.push (xTup args)).push (xNew C h.objs.size)).Ns N mN:=let ⟨o,es,ep,e,r⟩:=cN;⟨o,es,ep,up _ _ e,r⟩;have own:(Value.ref C::bm).contains (.ref C)=true:=by simp
 unfold isInstance
 repeat (first | with_reducible refine wpAny_loadPart_at ge ?_ | (with_reducible refine wpAny_isSubtype_exc cC1 ?_;rw[own]) | wp_step)
 show wpAny _ _ (typeLookup (.ref C) _) _ _ _;refine wpAny_typeLookup_tail cC1 cN1 (T.keeps up) F.mroIs F.init.lookup ?_;rw[ci];refine wpAny_holding (wpAny_bind ?_);unfold bindSpecial;refine wpAny_bind (wpAny_typeOf (T := "function") ⟨_,up _ _ cf,ct⟩ ?_);rw[if_pos (by decide)];refine wpAny_pure (wpAny_bind (wpAny_mono (k _ (h.objs.size+1) (Nat.le_succ _) ⟨up,Heap.get?_none_of_le (Nat.le_succ _),h.objs.size,ge,Heap.get?_none_of_le (Nat.le_refl _),gt⟩) (fun r s' hr=>?_) fun _ _ z=>z));obtain⟨rfl,hQ⟩:=hr
 wp_walk
 exact hQ
theorem x_call (Fn:ExcBaseFacts Bn newId inN bmN) (hBn:bmB.contains (.type Bn)=true) (F:ExcBaseFacts B nid initId bmB) (T:OwnTail h bmB bm){mN:Str->Option Value}{args:List Value}{fI:Addr}{oI:Obj}{Q:Value->Shared->Prop}
  (cC:h.get? C=some (excClassObj nm q C N bs bm hdct sn sub ab col dd k0 k1 k2 k3 k5 newId)) (cN:h.Ns N mN) (ci:mN "__init__" = some (.ref fI)) (cf:h.get? fI=some oI) (ct:oI.cls = .type "function") (hz:args.length<=sizeLine)
  (k:∀ h' e,h.objs.size<=e->Heap.MadeExcOf h h' e (.ref C) args->wpAny (model prog w) (A.under (.builtin "type.__call__" ⟨.ref C::args,[]⟩)) (call (.ref fI) (.ref e::args)) (fun r s'=>r = .none/\Q (.ref e) s') E ⟨h',g,d,t,os⟩) :
  wpAny (model prog w) A (call (.ref C) args) Q E ⟨h,g,d,t,os⟩:=by
 have l1:=tc_lookup;have l2:=tc_bind (.ref C);have l3:(⟨h,g,d,t,os⟩:Shared).TypeIs (.ref C) "type" := ⟨_,cC,rfl⟩;refine wpAny_call (codeAny_of_tree ?_);show wpAny _ _ (callAny (.ref C) _) _ _ _
 repeat (any_goals (first | assumption | with_reducible refine wpAny_loadPart_at cC ?_ | wp_step))
 refine⟨rfl,codeAny_call_builtin_at (Code.quiet_builtin _ (by decide +kernel)) entry_typeCall (wpAny_check_type_call_sub cC (x_made Fn hBn F T cC cN ci cf ct hz fun h' e hl hm=>k h' e hl hm))⟩
theorem avb {env:Env}{s:Shared}{x:Sem Value}{Q:Flow->Shared->Prop}(hh:A.handled=none)
  (k:wpAny (model prog w) A x (fun v s1=>∃ (e:Addr) (oe:Obj) (vs:Array Value) (C N:Addr) (bm:List Value) (nm q:Str) (bs:List Value) (hdct:Bool) (sn:List Str) (sub:List Value) (ab:Bool) (col:Option Bool) (dd:Option Addr) (k0 k1 k2 k3 k5:Option Value) (newId:String),v = .ref e /\ s1.heap.get? C=some (excClassObj nm q C N bs bm hdct sn sub ab col dd k0 k1 k2 k3 k5 newId)/\bm.contains (.type "BaseException")=true/\s1.heap.get? e=some oe/\oe.cls = .ref C/\oe.data = .fields vs/\vs[1]?=some .none/\E (.ref e) s1) E s) :
  wpAny (model prog w) A (raiseStmt env (some x) none) Q E s:=by
 unfold raiseStmt;refine wpAny_bind (wpAny_mono k (fun v s1 z=>?_) fun _ _ z=>z);obtain⟨e,oe,vs,C,N,bm,nm,q,bs,hdct,sn,sub,ab,col,dd,k0,k1,k2,k3,k5,newId,rfl,cC,hB,he,hc,hd,h1,hE⟩:=z;have isB:(Value.ref C::bm).contains (.type "BaseException")=true:=by rw[List.contains_cons,hB,Bool.or_true]
 obtain⟨hp,g1,d1,tk,os1⟩:=s1;obtain⟨oc,od,odt,osl⟩:=oe;simp only at hc hd;subst hc hd
 repeat (first | with_reducible refine wpAny_loadPart_at he ?_ | with_reducible refine wpAny_loadPart_at cC ?_ | (with_reducible refine wpAny_isSubtype_exc cC ?_;rw[isB]) | wp_step)
 rw[h1];refine wpAny_pure ?_;rw[if_neg (by decide)];exact wpAny_pure (wpAny_raiseNew_none hh hE)
end
end PySem
namespace L2
open PySem PySem.Spec PyProof.Rows
def ExC (e:Addr) (C:Value) (od:Option Addr):HO:=.ext fun h=>∃ oe vs,h.get? e=some oe/\oe.cls=C/\oe.dict=od/\oe.data = .fields vs
def AnyO (a:Addr):HO:=.ext fun h=>∃ o,h.get? a=some o
theorem at6 {P:Program}{w:World}{H:Hp}{h:Heap}{e:Addr}{C:Value}{od:Option Addr}{oe:Obj}{vs:Array Value}(he:h.get? e=some oe) (h1:oe.cls=C) (h2:oe.dict=od) (h3:oe.data = .fields vs):ab7 P w H h e (ExC e C od) :=
 ⟨⟨oe,vs,he,h1,h2,h3⟩,⟨_,he⟩,fun _ _ ⟨oe,vs,z,r⟩ k=>⟨oe,vs,k _ z,r⟩⟩
theorem al0 {P:Program}{w:World}{H:Hp}{h:Heap}{a:Addr}{o:Obj}(he:h.get? a=some o):ab7 P w H h a (AnyO a):=⟨⟨o,he⟩,⟨_,he⟩,fun _ _ ⟨o,z⟩ k=>⟨o,k _ z⟩⟩
theorem xat_ok {P:Program}{w:World}{H:Hp}{h:Heap}{e T:Addr}{C fl:Value}{od:Option Addr}(x:XAt h e C od T fl):ab7 P w H h e (ExC e C od):=by
 obtain⟨oe,vs,oT,ts,he,hc,hdi,hd,_⟩:=x.ex;exact at6 he hc hdi hd
theorem avj {P:Program}{w:World}{H:Hp}{h:Heap}{e T:Addr}{C fl:Value}{od:Option Addr}(x:XAt h e C od T fl):ab7 P w H h T (AnyO T):=by
 obtain⟨oe,vs,oT,ts,_,_,_,_,_,_,hT,_⟩:=x.ex;exact al0 hT
theorem aiw {P:Program}{w:World}{H:Hp}{h h':Heap}{fs xs:List Addr}{e T:Addr}{C fl:Value}{od:Option Addr}(hok:HOk P w H h) (k:XKeep fs xs h h') (hf:∀ b∈fs,H b=none) (he:H e=some (ExC e C od)) (hx:∀ b∈xs,b=e\/H b=some (AnyO b)) (x:XAt h' e C od T fl) (hT:H T=none) :
  HOk P w (upd H T (AnyO T)) h':=fun a o q=>by
 by_cases n:a=T
 ·subst n;rw[aaa] at q;cases q;exact avj x
 rw[aac n] at q;by_cases ne:a=e
 ·subst ne;rw[he] at q;cases q;exact xat_ok x
 by_cases nx:a∈xs
 ·rcases hx a nx with z | z
  ·exact absurd z ne
  ·rw[z] at q;cases q;obtain⟨⟨o,ho⟩,_⟩:=hok a _ z;obtain⟨o',ho'⟩:=k.there a o ho;exact al0 ho'
 refine (hok a o q).stay (fun b u hb r=>k.keep b u r (fun z=>?_) fun z=>?_) (fun b r=>?_) fun b ys r=>?_
 ·rcases hb with rfl | hb
  ·exact nx z
  ·rcases hx b z with y | y
   ·rw[y,he] at hb;cases hb
   ·rw[y] at hb;cases hb
 ·have:=hf b z;rcases hb with rfl | hb
  ·rw[q] at this;cases this
  ·rw[hb] at this;cases this
 ·rw[aac (fun z=>by rw[z,hT] at r;cases r)];exact r
 ·rw[aac (fun z=>by rw[z,hT] at r;cases r)];exact r
theorem alg {fs fs' xs:List Addr}{H0 H:Hp}{h0 h h':Heap}{T:Addr}{o:HO}(u:Un fs [] H0 H h0 h) (k:XKeep fs' xs h h') (hf:∀ b o,h0.get? b=some o->b∈fs'->b∈fs) (hx:∀ b∈xs,H b≠none) (hT:H T=none) (lT:h.objs.size<=T):Un fs [] H0 (upd H T o) h0 h' where
 keep:=fun b v q n nf nx=>k.keep b v (u.keep b v q n nf nx) (fun z=>hx b z (u.free b v q n nx)) fun z=>nf (hf b v q z)
 slot:=fun b v q n hb nx=>by
  obtain⟨sl,e⟩:=u.slot b v q n hb nx;obtain⟨sl2,e2⟩:=k.slot b _ e fun z=>hx b z (u.free b v q n nx)
  exact⟨sl2,e2⟩
 free:=fun b v q n nx=>by
  obtain⟨o',e⟩:=u.there b v q nx;rw[aac (fun z=>absurd (Heap.lt_size e) (by rw[z];exact Nat.not_lt.mpr lT))];exact u.free b v q n nx
 there:=fun b v q nx=>let ⟨o',e⟩:=u.there b v q nx;k.there b o' e
 tups:=fun b ys q=>by
  have:=u.tups b ys q;rw[aac (fun z=>by rw[z,hT] at this;cases this)];exact this
 frzs:=fun b v x q=>by
  have:=u.frzs b v x q;rw[aac (fun z=>by rw[z,hT] at this;cases this)];exact this
 tbls:=fun b ps q=>by
  obtain⟨m,e⟩:=u.tbls b ps q;rw[aac (fun z=>by rw[z,hT] at e;cases e)];exact⟨m,e⟩
def CXe (P:Program) (w:World):CXT:=fun outer H s E ev s'=>∃ (e T:Addr) (C:Value) (od:Option Addr) (H':Hp),ev = .ref e/\s'.os=s.os/\AllBare s'.gens/\Un (frs outer) [] H H' s.heap s'.heap/\HOk P w H' s'.heap /\
 XAt s'.heap e C od T .none/\H' e=some (ExC e C od)/\H' T=some (AnyO T)/\E C od H'
section
variable {P:Program}{w:World}{K:PySem.W.Frag}{mg:Str->Option Value}{base:Heap}{N:List Str}{qual:Str}{scope:Scope}{f:Addr}{cd:Value}{A:Around}{outer:List Env}{s0:Shared}{H0:Hp}{E E1:XK}
theorem at9 {b:Addr}{o:Obj}(q:s0.heap.get? b=some o) (hb:b∈frOf (envOfC qual scope s0.heap.objs.size f cd::outer)):b∈frs outer:=by
 unfold frOf at hb;rw[List.filterMap_cons] at hb;rcases List.mem_cons.mp hb with z | z
 ·have:=Heap.lt_size q;rw[z] at this;exact absurd this (Nat.lt_irrefl _)
 ·exact z
theorem passX (hE:∀ C od H e T',E1 C od H->H e=some (ExC e C od)->H T'=none->E C od (upd H T' (AnyO T'))):agb (CXe P w) (cxOf (CXe P w) P w K mg base N qual scope f cd A outer s0 H0 E) E1:=by
 intro pins σ H s ev s' I h;obtain⟨e,T,C,od,H',rfl,hos,hb,un,hok,xa,te,tT,h1⟩:=h;have I':Inv (cxOf (CXe P w) P w K mg base N qual scope f cd A outer s0 H0 E) pins σ H' s':=I.call' (ch:=[]) hos un hok hb (fun b z=>absurd z (by simp));refine asx (base:=base) (env:=envOfC qual scope s0.heap.objs.size f cd) (outer:=outer) (L:=s0.heap.objs.size) I'.ok.frames I'.stack rfl xa fun h' T' kp x' nT'=>?_
 have hT':H' T'=none:=hok.fresh nT';have ne:T'≠e:=fun z=>by rw[z,te] at hT';cases hT'
 have hx:∀ b∈[e,T],b=e\/H' b=some (AnyO b):=fun b z=>by
  rcases List.mem_cons.mp z with z | z
  ·exact .inl z
  ·rw[List.mem_singleton.mp z];exact .inr tT
 refine⟨e,T',C,od,upd H' T' (AnyO T'),rfl,I'.os,I'.bare,alg I'.base kp (fun b o q z=>at9 q z) (fun b z=>?_) hT' nT',aiw hok kp I'.stkFree te hx x' hT',x',by rw[aac ne.symm];exact te,aaa,hE C od H' e T' h1 te hT'⟩;rcases hx b z with y | y
 ·rw[y,te];simp
 ·rw[y];simp
end
end L2
namespace PySem.W
open PySem PySem.Calls PyProof.Rows Builtin Builtin.ObjectAttr
section
variable {prog:Program}{w:World}{A:Around}{E:Value->Shared->Prop}{s:Shared}{K:Frag}{x C:Addr}{ox:Obj}{od:Option Obj}{name:Str}{expr:Bool}{Q:Value->Shared->Prop}
theorem amp:builtinKind "BaseException.__getattribute__" = some .slot:=by decide +kernel
theorem ako:splitId "BaseException.__getattribute__" = some ("BaseException","__getattribute__"):=by decide +kernel
theorem ara (x v:Value):slotArgs "__getattribute__" 1 ⟨[x,v],[]⟩=pure (x,[v]):=by kernel_rfl
theorem x_attr {v:Value}(X:K.In s.heap) (I:InstAt s.heap x ox C od) (hga:findIn K (.ref C) "__getattribute__" = some (some (.builtin "BaseException.__getattribute__"))) (hk:findIn K (.ref C) "__getattr__" = some none)
  (hB:mroIn K C (.type "BaseException")=some true) (hf:findObj K C od name=some (.value v)) (hh:handedIn v=true) (h:Q v { s with toks:=s.toks+1 }):wpAny (model prog w) A (getAttr (.ref x) name expr) Q E s:=by
 obtain⟨hp,g,d,t,os⟩:=s;have L0:=I.type (M:=model prog w);have L1:=looks_findIn (M:=model prog w) X hga;have L2:Looks (model prog w) hp (hookBefore (.ref C)) none:=looks_hook X hk;have L3:=looks_find (M:=model prog w) X I hf;have L4:Looks (model prog w) hp (isInstance (.ref x) (.type "BaseException")) true:=L0.andThen (looks_mroIn X hB);have nb:(onTheHeap (Value.ref C)&&Value.builtin "BaseException.__getattribute__" == Value.builtin "object.__getattribute__")=false:=by
  rw[show (Value.builtin "BaseException.__getattribute__" == Value.builtin "object.__getattribute__")=false by decide +kernel];rfl
 have ne:(expr&&onTheHeap (Value.builtin "BaseException.__getattribute__"))=false:=by cases expr<;>rfl
 unfold getAttr getAttrBy;refine wpAny_bind (wpAny_mkText (wpAny_holding (wpAny_bind (L0.at (wpAny_bind (L1.at ?_))))));simp only[nb,Bool.false_eq_true,if_false];unfold getAttrByItsOwn;refine wpAny_bind (L2.at (wpAny_bind (wpAny_attempt (wpAny_holding ?_))));unfold callGetattribute;simp only[ne,Bool.false_eq_true,if_false];unfold boundAndCalled;rw[PySem.F.excAttr_ValueError.ga.bind];refine wpAny_bind (wpAny_pure ?_);show wpAny _ _ (call (Value.builtin "BaseException.__getattribute__") [Value.ref x,Value.str name t]) _ _ _;refine wpAny_call (codeAny_call_builtin PySem.F.excAttr_ValueError.ga.plain PySem.F.entry_bexc_ga (@check_slot (model prog w) _ _ ⟨hp,g,d,t+1,os⟩ "BaseException.__getattribute__" "BaseException" "__getattribute__" (.ref x) [.str name t] [] _ amp ako L4 (PySem.F.args_bexc_ga (.ref x) (.str name t)) ?_));unfold Builtin.«object.__getattribute__»;rw[ara];refine wpAny_bind (wpAny_pure ?_);show wpAny _ _ (attrName (Value.str name t) >>= _) _ _ _;rw[show attrName (Value.str name t)=pure name from rfl];refine wpAny_bind (wpAny_pure (wpAny_bind (L0.at (wpAny_bind (L3.at (wpAny_pure ?_))))));show wpAny _ _ (handedOut v) _ _ _;rw[handedOut_of hh];exact wpAny_pure h
end
section
variable {prog:Program}{w:World}{A:Around}{E:Value->Shared->Prop}{s:Shared}{K:Frag}{x C:Addr}{ox:Obj}{name:Str}
theorem x_set {cd:ClassData}{v:Value}{vs:Array Value}{Q:Unit->Shared->Prop}(X:K.In s.heap) (hx:s.heap.get? x=some ox) (hc:ox.cls = .ref C) (hd:ox.dict=none) (hda:ox.data = .fields vs)
  (hsa:findIn K (.ref C) "__setattr__" = some (some (.builtin "object.__setattr__"))) (hcl:clsIn K C=some cd) (hh:cd.hasDict=true) (hO:mroIn K C (.type "object")=some true) (hp:refuseLoop (.ref x) "__setattr__" cd.mro=pure ()) (hn:findIn K (.ref C) name=some none)
  (k:∀ h' tk',h'.get? x=some { ox with dict:=some s.heap.objs.size }->h'.Ns1 s.heap.objs.size (fun y=>if y=name then some v else none)->(∀ b o,b≠x->s.heap.get? b=some o->h'.get? b=some o)->Q () { s with heap:=h',toks:=tk' }) :
  wpAny (model prog w) A (setAttr (.ref x) name v) Q E s:=by
 obtain⟨h0,g,d,t,os⟩:=s;have SF:=PySem.F.store_ValueError;have I:InstAt h0 x ox C none:=⟨hx,hc,by unfold notCls;rw[hda],by rw[hd];trivial⟩;have L0:=I.type (M:=model prog w);have L1:=looks_findIn (M:=model prog w) X hsa;have L2:Looks (model prog w) h0 (isInstance (.ref x) (.type "object")) true:=L0.andThen (looks_mroIn X hO);have L3:Looks (model prog w) h0 (mroOf (.ref C)) cd.mro:=(looks_clsIn X hcl).andThen .now;have L4:=looks_findIn (M:=model prog w) X hn;unfold setAttr;refine wpAny_bind (wpAny_mkText ?_);refine wpAny_bind (wpAny_bind (wpAny_bind (L0.at (L1.at (wpAny_holding (wpAny_bind ?_))))));rw[SF.slot.bind];refine wpAny_pure (wpAny_bind ?_);show wpAny _ _ (call (Value.builtin "object.__setattr__") [Value.ref x,Value.str name t,v]) _ _ _;refine wpAny_call (codeAny_call_builtin SF.slot.plain SF.entry (@check_slot (model prog w) _ _ ⟨h0,g,d,t+1,os⟩ "object.__setattr__" "object" "__setattr__" (.ref x) [.str name t,v] [] _ SF.kind SF.split L2 (SF.args (.ref x) (.str name t) v) ?_));rw[osa_eq,refuse_eq];refine wpAny_bind (wpAny_bind (L0.at (wpAny_bind (L3.at ?_))));rw[hp];refine wpAny_pure (wpAny_bind (L0.at (wpAny_bind (L4.at (wpAny_bind (wpAny_pure ?_))))));show wpAny _ _ (storeInOwnDict (.ref x) (.ref C) (.str name t) name v _) _ _ _;obtain⟨oc,odi,oda,osl⟩:=ox;simp only at hc hd hda;subst hc hd hda;have hne:x≠h0.objs.size:=Nat.ne_of_lt (Heap.lt_size hx);unfold storeInOwnDict;refine wpAny_bind (wpAny_pure ?_);show wpAny _ _ (ownDictForStores (.ref x) >>= _) _ _ _;refine wpAny_bind ?_;unfold ownDictForStores instanceDict;refine wpAny_bind (wpAny_loadPart hx ?_);dsimp only;refine wpAny_bind ((looks_clsIn X hcl).at ?_);rw[hh];refine wpAny_bind (wpAny_alloc' ?_);have hx1:(h0.push { cls:=.type "dict",data:=.dict #[] }).get? x=some { cls:=.ref C,dict:=none,data:=.fields vs,slots:=osl }:=Heap.get?_push_of_some _ hx;refine wpAny_bind (wpAny_update' hx1 ?_);refine wpAny_pure ?_;have gx:((h0.push { cls:=.type "dict",data:=.dict #[] }).update x fun o=>{ o with dict:=some h0.objs.size }).get? x=some { cls:=.ref C,dict:=some h0.objs.size,data:=.fields vs,slots:=osl }:=Heap.get?_update_self _ hx1 rfl;have gd:((h0.push { cls:=.type "dict",data:=.dict #[] }).update x fun o=>{ o with dict:=some h0.objs.size }).get? h0.objs.size=some { cls:=.type "dict",data:=.dict #[] }:=(Heap.get?_update_ne _ _ _ _ hne.symm).trans (Heap.get?_push_at rfl rfl);have nd:((h0.push { cls:=.type "dict",data:=.dict #[] }).update x fun o=>{ o with dict:=some h0.objs.size }).Ns h0.objs.size (fun _=>none):=⟨_,#[],_,gd,rfl,fun e he=>absurd he (by simp),fun _=>rfl⟩;show wpAny _ _ (storeInDict h0.objs.size (.str name t) name v) _ _ _;unfold storeInDict newKeyGuard;refine wpAny_bind (wpAny_pure (wpAny_bind (wpAny_nsSet1 (Heap.Ns1.of_empty nd) fun h' hn' hs=>?_)));obtain⟨oD,eD,pD,h1,h2,h3⟩:=hn'.count (Within.cons name v Within.nil);refine wpAny_bind (wpAny_lookBehind h1 (by rw[h2];exact pastItsLine_dict (Nat.le_trans h3 (by rw[List.length_cons,List.length_nil,sizeLine_eq];omega))) ?_);refine wpAny_pure ?_;refine wpAny_pure (wpAny_pure (k h' _ ((hs.2 x hne).trans gx) ?_ fun b o nb hb=>?_))
 ·obtain⟨o',es,ep,e1,e2,e3,eu,e4⟩:=hn';exact⟨o',es,ep,e1,e2,e3,eu,fun y=>by rw[e4 y]⟩
 ·exact (hs.2 b (Nat.ne_of_lt (Heap.lt_size hb))).trans ((Heap.get?_update_ne _ _ _ _ nb).trans (Heap.get?_push_of_some _ hb))
end
end PySem.W
namespace PySem
section
variable {prog:Program}{w:World}{A:Around}{E:Value->Shared->Prop}{h:Heap}{g:Array GenState}{d:Drawn}{t:Nat}{os:OsState}
variable {nm q:Str}{C N:Addr}{bs bm bmB:List Value}{hdct:Bool}{sn:List Str}{sub:List Value}{ab:Bool}{col:Option Bool}{dd:Option Addr}{k0 k1 k2 k3 k5:Option Value}{B Bn newId nid initId inN:String}{bmN:List Value}
theorem x_init (F:ExcBaseFacts B nid initId bmB) (T:OwnTail h bmB bm){e t0:Addr}{args:List Value}{Q:Value->Shared->Prop}(hz:args.length<=sizeLine)
  (cC:h.get? C=some (excClassObj nm q C N bs bm hdct sn sub ab col dd k0 k1 k2 k3 k5 newId)) (he:h.get? e=some (xNew C t0))
  (k:∀ h' t',h'.get? e=some (xNew C t')->(∀ b o,b≠e->h.get? b=some o->h'.get? b=some o)->Q .none ⟨h',g,d,t,os⟩) :
  wpAny (model prog w) A (call (.builtin initId) (.ref e::args)) Q E ⟨h,g,d,t,os⟩:=by
 refine wpAny_call (codeAny_call_builtin F.init.plain F.initEntry (wpAny_check_init_subU F T cC he rfl ?_));have hes:=Heap.lt_size he
 wp_walk
 refine k _ h.objs.size ?_ fun b o nb hb=>?_
 ·rw[Heap.get?_update_self _ (Heap.get?_push_of_some _ he) rfl];rfl
 ·rw[Heap.get?_update_other _ _ (Ne.symm nb)];exact Heap.get?_push_of_some _ hb
end
end PySem
namespace L2
open PySem PySem.Spec PyProof.Rows
section
variable {X:Cx}
theorem afy {K:PySem.W.Frag}:∀ {ns:List Int}{its:List Value},Vals (ns.map V.int) its->∃ xs:Array (Int×Tok),its.toArray=intItems xs/\ns=xs.toList.map (·.1)
 | [],_,.nil=>⟨#[],by simp[intItems],rfl⟩
 | n::ns,_,.cons r rr=>by
  obtain⟨t,rfl⟩:=r;obtain⟨xs,e1,e2⟩:=afy (K:=K) rr;refine⟨(⟨(n,t)::xs.toList⟩:Array (Int×Tok)),?_,by rw[e2];rfl⟩;have:(intItems xs).toList=_:=(congrArg Array.toList e1).symm;unfold intItems at this ⊢;refine Array.toList_inj.mp ?_;simp only[Array.toList_map] at this ⊢;rw[List.map_cons,this]
theorem aty {ys:Array (Int×Tok)}{ns:List Int}(en:ns=ys.toList.map (·.1)){j:Nat}(hj:j<ys.size):∃ h:j<ns.length,numAt ys j=ns[j]:=by
 subst en;refine⟨by simpa using hj,?_⟩;simp[numAt,hj]
theorem as3 (hc:X.calm=true):ab6 X (.builtin "sum") (fun xs H Q=>∃ (p:Addr) (ns:List Int),xs=[.ref p]/\SqL X.K H p (ns.map V.int)/\Q (.int ns.sum) H):=by
 intro pins s σ H xs us Q I r h;obtain⟨p,ns,rfl,hq,q⟩:=h;obtain⟨u,rfl,rx⟩:=af0 r;cases rx;obtain⟨its,r',pl,hz⟩:=I.list hq;obtain⟨ys,e,en⟩:=afy (K:=X.K) r';refine sum_intListG (xs:=ys) (I.ok.hd hc) (e▸pl.isList) fun h' tk t' hk=>⟨.int ns.sum,H,I.kept hk,⟨t',?_⟩,q⟩
 rw[preSum_eq,List.take_of_length_le (by simp),en]
theorem aqs (hc:X.calm=true):ab6 X (.builtin "max") (fun xs H Q=>∃ (p:Addr) (ns:List Int),xs=[.ref p]/\SqL X.K H p (ns.map V.int)/\ns≠[]/\∀ m:Int,m∈ns->(∀ a∈ns,a<=m)->Q (.int m) H):=by
 intro pins s σ H xs us Q I r h;obtain⟨p,ns,rfl,hq,hne,q⟩:=h;obtain⟨u,rfl,rx⟩:=af0 r;cases rx;obtain⟨its,r',pl,hz⟩:=I.list hq;obtain⟨ys,e,en⟩:=afy (K:=X.K) r';have hsz:0<ys.size:=by
  rcases Nat.eq_zero_or_pos ys.size with z | z
  ·exfalso;apply hne;rw[en];simp[Array.size_eq_zero_iff.mp z]
  ·exact z
 refine max_intList (xs:=ys) (I.ok.hd hc) (e▸pl.isList) hsz fun v h' tk hv hk=>?_
 obtain⟨t,rfl⟩:=intItems_at (xs:=ys) hv;have best:=argBest_gt (numAt ys) (ys.size-1);obtain⟨p1,e1⟩:=aty en (Nat.lt_of_le_of_lt best.1 (show ys.size-1<ys.size by omega));refine⟨.int _,H,I.kept hk,⟨t,rfl⟩,q _ (e1▸List.getElem_mem p1) fun a ha=>?_⟩;obtain⟨j,p2,rfl⟩:=List.getElem_of_mem ha;have lj:j<ys.size:=by rw[en] at p2;simpa using p2
 obtain⟨p3,e3⟩:=aty en lj;exact e3▸best.2 j (by omega)
def rIndex (K:PySem.W.Frag):V->List V->Hp->VK->Prop:=fun x vs H Q=>∃ (l:Addr) (xs:List V) (y:V) (j:Nat),x = .ref l/\vs=[y]/\SqL K H l xs/\xs.all ad4=true/\ad4 y=true/\j<xs.length /\
 (∀ z,xs[j]?=some z->eqV z y=true)/\(∀ (m:Nat) z,m<j->xs[m]?=some z->eqV z y=false)/\Q (.int j) H
theorem arn:MtR X "list.index" (rIndex X.K):=by
 intro pins s σ H x vs v us Q I rx rv h;obtain⟨l,xs,y,j,rfl,rfl,hq,fx,fy,hj,h1,h2,q⟩:=h;cases rx;obtain⟨u,rfl,ru⟩:=rv.one;obtain⟨its,r,pl,hz⟩:=I.list hq;have hlen:=r.length;obtain⟨⟨cls,dd,data,sl⟩,ho,hc,n,hd⟩:=pl.isList;simp only at hc hd;subst hc hd;have hu:∀ (i:Nat) (hi:i<its.toArray.size),∃ z,xs[i]?=some z/\eqU y its.toArray[i]=eqV z y:=fun i hi=>by
  have hi':i<its.length:=by simpa using hi
  have hx:xs[i]?=some (xs[i]'(by omega)):=List.getElem?_eq_getElem (by omega);obtain⟨w',hw,rw'⟩:=r.get hx;have e:its.toArray[i]=w':=by
   rw[List.getElem?_eq_getElem hi'] at hw
   simpa using Option.some.inj hw
  refine⟨_,hx,?_⟩;rw[e];exact ao7 rw' (List.all_eq_true.mp fx _ (List.mem_of_getElem? hx))
 have hjs:j<its.toArray.size:=by rw[List.size_toArray];omega
 have hline:sizeLine<2 ^ 63-1:=by decide
 refine call_meets PySem.F.slot_list_index ⟨_,ho,rfl⟩ PySem.F.entry_list_index (PySem.F.args_list_index_2 _ _)
  (SeqAt.list_indexAt l its.toArray n dd sl u (eqU y) j hjs (by omega) ?_ ?_) ⟨ho,fun w' hw=>ae3 ru fy r fx w' (by simpa using hw),⟨.int j,H,I.tok _,⟨_,rfl⟩,q⟩⟩
 ·obtain⟨z,hz',ez⟩:=hu j hjs;show eqU y its.toArray[j]=true;rw[ez];exact h1 z hz'
 ·intro m hm hlt;obtain⟨z,hz',ez⟩:=hu m hm;show eqU y its.toArray[m]=false;rw[ez];exact h2 m z hlt hz'
theorem ai1:∀ {ys:List Str}{its:List Value},Vals (ys.map V.str) its->StrsAre its ys:=by
 intro ys;induction ys with
 | nil=>intro its r;cases r;exact .nil
 | cons y r ih =>
  intro its h;cases h with
  | cons a b =>
   obtain⟨t,rfl⟩:=a;exact .cons _ _ (ih b)
def av2 (K:PySem.W.Frag):V->List V->Hp->VK->Prop:=fun x vs H Q=>∃ (z:Str) (l:Addr) (ys:List Str),x = .str z/\vs=[.ref l]/\(SqL K H l (ys.map V.str)\/SqT K H l (ys.map V.str)) /\
 (ys.map (·.length)).sum+ys.length*z.length<=16777216/\Q (.str (Txt.join z ys)) H
theorem aha:MtR X "str.join" (av2 X.K):=by
 intro pins s σ H x vs v us Q I rx rv h;obtain⟨z,l,ys,rfl,rfl,hq,hz,q⟩:=h;obtain⟨t,rfl⟩:=rx;obtain⟨u,rfl,ru⟩:=rv.one;cases ru;rcases hq with hq | hq
 ·obtain⟨its,r,pl,_⟩:=I.list hq;exact join_list pl.isList (by simpa using ai1 r) hz fun t' k=>⟨.str _,H,I.tok _,⟨_,rfl⟩,q⟩
 ·obtain⟨its,r,pl,_⟩:=I.tuple hq;exact join_tuple pl (by simpa using ai1 r) hz fun t' k=>⟨.str _,H,I.tok _,⟨_,rfl⟩,q⟩
end
mutual
inductive DatV (K:PySem.W.Frag) (H:Hp):V->PyData->Prop where
 | non:DatV K H .non .none
 | bl (b:Bool):DatV K H (.bl b) (.bool b)
 | int (i:Int):DatV K H (.int i) (.int i)
 | str (x:Str):DatV K H (.str x) (.str x)
 | lst {a:Addr} {xs:List V} {ds:List PyData}:SqL K H a xs->DatVs K H xs ds->DatV K H (.ref a) (.list ds)
 | tup {a:Addr} {xs:List V} {ds:List PyData}:SqT K H a xs->DatVs K H xs ds->DatV K H (.ref a) (.tuple ds)
inductive DatVs (K:PySem.W.Frag) (H:Hp):List V->List PyData->Prop where
 | nil:DatVs K H [] []
 | cons {x:V} {d:PyData} {xs:List V} {ds:List PyData}:DatV K H x d->DatVs K H xs ds->DatVs K H (x::xs) (d::ds)
end
section
variable {X:Cx}{pins:List (Addr×Obj)}{σ:St}{H:Hp}{s:Shared}
mutual
theorem DatV.reads (I:Inv X pins σ H s):∀ {x:V}{d:PyData}{u:Value},DatV X.K H x d->RelV x u->∃ as,Reads s.heap u d as
 | _,_,_,.non,r=>by cases r;exact⟨_,.none⟩
 | _,_,_,.bl b,r=>by cases r;exact⟨_,.bool b⟩
 | _,_,_,.int i,r=>by obtain⟨t,rfl⟩:=r;exact⟨_,.int i t⟩
 | _,_,_,.str x,r=>by obtain⟨t,rfl⟩:=r;exact⟨_,.str x t⟩
 | _,_,_,.lst hq hs,r=>by
  cases r;obtain⟨its,rv,⟨o,n,e,c,_,d⟩,_⟩:=I.list hq;obtain⟨as,h⟩:=DatVs.reads I hs rv;exact⟨_,.list e c d (by simpa using h)⟩
 | _,_,_,.tup hq hs,r=>by
  cases r;obtain⟨its,rv,⟨o,e,c,n,d⟩,_⟩:=I.tuple hq;obtain⟨as,h⟩:=DatVs.reads I hs rv;exact⟨_,.tuple e c d (by simpa using h)⟩
theorem DatVs.reads (I:Inv X pins σ H s):∀ {xs:List V}{ds:List PyData}{us:List Value},DatVs X.K H xs ds->Vals xs us->∃ as,ReadsAll s.heap us ds as
 | _,_,_,.nil,.nil=>⟨_,.nil⟩
 | _,_,_,.cons h hs,.cons r rs=>by
  obtain⟨as,h1⟩:=DatV.reads I h r;obtain⟨bs,h2⟩:=DatVs.reads I hs rs;exact⟨_,.cons h1 h2⟩
end
end
section
variable {X:Cx}
def rEqD (K:PySem.W.Frag) (neg:Bool):R2:=fun x y H Q=>∃ da db,DatV K H x da/\DatV K H y db/\da.canLay0=true/\db.canLay0=true/\min da.depth db.depth<=60/\Q (.bl (if neg then !PyData.eqv da db else PyData.eqv da db)) H
theorem atv (hu:X.A.units+64<cLine):OpR X (compareOp .Eq) (rEqD X.K false):=by
 intro pins s σ H x y v u Q I rx ry h;obtain⟨da,db,h1,h2,l1,l2,dp,q⟩:=h;obtain⟨as,r1⟩:=h1.reads I rx;obtain⟨bs,r2⟩:=h2.reads I ry;exact SeqAt.compareEq_reads r1 r2 l1 l2 (by omega) ⟨.bl _,H,I,rfl,q⟩
theorem op_neD (hu:X.A.units+64<cLine):OpR X (compareOp .NotEq) (rEqD X.K true):=by
 intro pins s σ H x y v u Q I rx ry h;obtain⟨da,db,h1,h2,l1,l2,dp,q⟩:=h;obtain⟨as,r1⟩:=h1.reads I rx;obtain⟨bs,r2⟩:=h2.reads I ry;exact SeqAt.compareNe_reads r1 r2 l1 l2 (by omega) ⟨.bl _,H,I,rfl,q⟩
def ao8 (K:PySem.W.Frag) (neg:Bool):R2:=fun x y H Q=>∃ (a b:Addr) (xs:List V),x = .ref a/\y = .ref b/\SqL K H a xs/\SqL K H b []/\Q (.bl (if neg then !xs.isEmpty else xs.isEmpty)) H
theorem ajb (hu:X.A.units+64<cLine):OpR X (compareOp .Eq) (ao8 X.K false):=by
 intro pins s σ H x y v u Q I rx ry h;obtain⟨a,b,xs,rfl,rfl,h1,h2,q⟩:=h;cases rx;cases ry;obtain⟨its,r1,p1,_⟩:=I.list h1;obtain⟨its2,r2,p2,_⟩:=I.list h2;cases r2;have q':∀ b',b'=xs.isEmpty->EP X pins σ Q (.bool b') s:=fun b' e=>⟨.bl b',H,I,rfl,by subst e;exact q⟩
 cases r1 with
 | nil=>exact SeqAt.RcAt.lists (e:=fun _=>true) p1.isList p2.isList rfl (by omega) (fun i h1 _=>by simp at h1) X.prog X.w _ _ (q' _ (by simp))
 | cons r rr=>exact SeqAt.RcAt.lists_lengths p1.isList p2.isList (by simp) (by omega) X.prog X.w _ _ (q' _ rfl)
end
end L2
namespace L2
open PySem PySem.Spec PyProof.Rows
section
variable {X:Cx}
def cutS (z:Str) (lo hi:Option Int):Str:=⟨((z.cps.toList.drop (HT.sIx z.length 0 lo)).take (HT.sIx z.length z.length hi-HT.sIx z.length 0 lo)).toArray⟩
theorem alz (lo hi:Option Int) (n:Nat):Builtin.Str.strSliceIndices lo hi 1 n=(List.range (HT.sIx n n hi-HT.sIx n 0 lo)).map (HT.sIx n 0 lo+·):=by
 unfold Builtin.Str.strSliceIndices;rw[← sliceRange_one];have h1:∀ (v:Option Int) (d:Nat),d<=n->(match v with | none=>((d:Nat):Int) | some i=>if (1:Int)>0 then max 0 (min (if i<0 then i+(n:Int) else i) (n:Int)) else max (-1) (min (if i<0 then i+(n:Int) else i) ((n:Int)-1)))=((HT.sIx n d v:Nat):Int):=by
  intro v d hd;cases v with
  | none=>rfl
  | some i =>
   simp only[HT.sIx,show (1:Int)>0 by decide,if_true];by_cases h:i<0
   ·simp only[h,if_true]<;>omega
   ·simp only[h,if_false]<;>omega
 have e1:=h1 lo 0 (Nat.zero_le _);have e2:=h1 hi n (Nat.le_refl _);simp only[show (1:Int)>0 by decide,if_true] at e1 e2 ⊢;rw[← e1,← e2];cases lo<;>cases hi<;>rfl
def rSlS:V->Option Int->Option Int->Hp->VK->Prop:=fun x lo hi H Q=>∃ z:Str,x = .str z/\z.length<=sizeLine/\Q (.str (cutS z lo hi)) H
theorem aj5 {v:Value}{o:Option Int}(p:IsPart v o):∃ l:Option (Int×Tok),v=partValue l/\o=l.map (·.1):=by
 cases p with
 | none=>exact⟨none,rfl,rfl⟩
 | int i t=>exact⟨some (i,t),rfl,rfl⟩
theorem aba (z:Str):z.cps.toList.length=z.length:=by
 rw[Array.length_toList];rfl
theorem ahk {a b:Str}(h:a.cps.toList=b.cps.toList):a=b:=by
 obtain⟨a⟩:=a;obtain⟨b⟩:=b
 congr
 exact Array.toList_inj.mp h
theorem arf:SlR X rSlS:=by
 intro pins s σ H x v vl vu lo hi sl Q I rx hs pl pu h;obtain⟨z,rfl,hz,q⟩:=h;obtain⟨t,rfl⟩:=rx;obtain⟨l,rfl,rfl⟩:=aj5 pl;obtain⟨u,rfl,rfl⟩:=aj5 pu;refine⟨"str",_,PySem.F.slot_str_getitem.lookup,typeIs_str _ z t,?_⟩;refine wpAny_getItem_str_slice (l:=l) (u:=u) (st:=none) hs rfl ?_;have e:slicePicked z l u none=(List.range (HT.sIx z.length z.length (u.map (·.1))-HT.sIx z.length 0 (l.map (·.1)))).map (HT.sIx z.length 0 (l.map (·.1))+·):=alz _ _ _;have e2:(⟨((slicePicked z l u none).filterMap (z.cps[·]?)).toArray⟩:Str)=cutS z (l.map (·.1)) (u.map (·.1)):=by
  rw[e,pick_run];rfl
 have hle:=HT.sIx_le z.length z.length (Nat.le_refl _) (u.map (·.1));have hle0:=HT.sIx_le z.length 0 (Nat.zero_le _) (l.map (·.1));unfold sliceMade;split
 ·rename_i hc
  have hc':(slicePicked z l u none).length=z.length:=by
   have:=(Bool.and_eq_true _ _).mp hc;exact eq_of_beq this.2
  have e3:cutS z (l.map (·.1)) (u.map (·.1))=z:=by
   rw[e,List.length_map,List.length_range] at hc';apply ahk;show ((z.cps.toList.drop _).take _)=z.cps.toList;have h0:HT.sIx z.length 0 (l.map (·.1))=0:=by omega
   rw[h0] at hc' ⊢;rw[List.drop_zero,List.take_of_length_le];rw[aba];omega
  rw[e3] at q;exact⟨.str z,H,I,⟨t,rfl⟩,q⟩
 ·rw[e2];refine⟨?_,.str _,H,I.tok _,⟨_,rfl⟩,q⟩;have:(cutS z (l.map (·.1)) (u.map (·.1))).length<=z.length:=by
   show ((z.cps.toList.drop _).take _).toArray.size<=_;rw[List.size_toArray,List.length_take,List.length_drop,aba];omega
  omega
theorem as7:ab6 X (.builtin "isinstance") (fun xs H Q=>∃ (x c:V) (t cv:Value) (b:Bool),xs=[x,c]/\RelV c cv/\TyOf X.K H x t/\PySem.W.kitOne X.K t cv=some b/\Q (.bl b) H):=by
 intro pins s σ H xs us Q I r h;obtain⟨x,c,t,cv,b,rfl,rc,ty,e,q⟩:=h;obtain⟨u,w',rfl,r1,r2⟩:=am6 r;have:w'=cv:=by
  cases c with
  | ref a=>cases rc;cases r2;rfl
  | ty n=>cases rc;cases r2;rfl
  | non=>cases rc;cases r2;rfl
  | bl b=>cases rc;cases r2;rfl
  | int i=>obtain⟨z,rfl⟩:=rc;exact absurd e (by unfold PySem.W.kitOne PySem.W.kitCls;cases ty<;>simp)
  | str i=>obtain⟨z,rfl⟩:=rc;exact absurd e (by unfold PySem.W.kitOne PySem.W.kitCls;cases ty<;>simp)
  | byt i=>obtain⟨z,rfl⟩:=rc;exact absurd e (by unfold PySem.W.kitOne PySem.W.kitCls;cases ty<;>simp)
  | flt i=>obtain⟨z,rfl⟩:=rc;exact absurd e (by unfold PySem.W.kitOne PySem.W.kitCls;cases ty<;>simp)
 subst this;exact api I r1 ty e fun tk=>⟨.bl b,H,I.tok _,rfl,q⟩
end
def Its (z:Str):It:=⟨fun i _=>i<z.length,fun i H x H'=>H'=H/\∃ c,z.cps[i]?=some c/\x = .str ⟨#[c]⟩,fun i _=>z.length<=i⟩
theorem al4 {P:Program}{w:World}{K:PySem.W.Frag}{tg:Expr}(z:Str) (t:Tok) (it:Addr):Turn P w K tg (Its z) [it] it (fun i h=>h.IsStrIter it "str_ascii_iterator" z t i) where
 mem:=by simp
 obj:=fun i h st b hb=>by
  have e:b=it:=by simpa using hb
  subst e;obtain⟨o,e,c,d⟩:=st;exact⟨o,e,fun v z=>by rw[d] at z;cases z⟩
 keep:=fun i h h' st k=>by
  obtain⟨o,e,r⟩:=st;exact⟨o,k it (by simp) o e,r⟩
 item:=by
  intro X hP hw hK hc i pins s σ H E I hf st hg;subst hP hw hK;have hg:i<z.length:=hg;obtain⟨f0,f1,f2,f3,f4,f5⟩:=hf it (by simp);have hz:z.cps[i]?=some (z.cps[i]'hg):=Array.getElem?_eq_getElem hg;refine wpAny_pyNext_ascii_item st hz fun h' st' sb=>?_
  have I1:Inv X pins σ H { s with heap:=h',toks:=s.toks+1 }:=I.turned (t':=s.toks+1) (fun b o hb e=>(sb.2 b hb).trans e) f0 f1 f3 f4 f5;obtain⟨o,e,c,d⟩:=id st';exact⟨_,rfl,ars (s:={ s with heap:=h',toks:=s.toks+1 }) e c d (by decide) ⟨.str ⟨#[z.cps[i]'hg]⟩,H,I1,⟨_,rfl⟩,⟨rfl,_,hz,rfl⟩,st',fun b hb=>(hf b hb).1⟩⟩
 done:=by
  intro X hP hw hK hc i pins s σ H E I hf st hg;subst hP hw hK;have hg:z.length<=i:=hg;obtain⟨f0,f1,f2,f3,f4,f5⟩:=hf it (by simp);exact wpAny_pyNext_ascii_end (I.ok.hd hc) st (Array.getElem?_eq_none (by exact hg)) fun h' eb=>⟨rfl,I.turned (t':=s.toks) (fun b o hb e=>eb b o hb e) f0 f1 f3 f4 f5⟩
 self:=fun _ _ _ _ _ st h=>wpAny_pyIter_striter_ascii st h
section
variable {X:Cx}{tg:Expr}
def iStr (tl:TE):TI:=fun σ H R=>tl σ H fun x H1=>∃ z:Str,x = .str z/\z.cps.all (·<128)=true/\R (Its z) H1
theorem atu {l:Expr}{tl:TE}(hl:PE X l tl):PI X tg l (iStr tl):=by
 intro pins s σ H R I h;refine thn (hl pins s σ H _ I h) fun v s1 ⟨x,H1,I1,r1,z,e1,ha,q⟩=>?_
 subst e1;obtain⟨t,rfl⟩:=r1;refine wpAny_pyIter_ascii ha ?_;have I2:Inv X pins σ H1 { s1 with heap:=s1.heap.push { cls:=.type "str_ascii_iterator",data:=.fields #[.str z t,.int 0 0] } }:=I1.kept (t':=s1.toks) fun b ob q=>Heap.get?_push_of_some _ q
 refine⟨s1.heap.objs.size,[s1.heap.objs.size],_,Its z,H1,rfl,I2,al4 z t _,⟨_,Heap.get?_push_size _ rfl,rfl,rfl⟩,fun b hb=>?_,q⟩;have e:b=s1.heap.objs.size:=by simpa using hb
 subst e;exact I1.fpOk (Nat.le_refl _) (I1.hok.fresh (Nat.le_refl _))
end
def dedS (acc:List Str) (x:Str):List Str:=if x∈acc then acc else acc++[x]
def ddS (l:List Str):List Str:=l.foldl dedS []
theorem aiy (l:List Str) (x:Str):ddS (l++[x])=dedS (ddS l) x:=by unfold ddS;rw[List.foldl_append];rfl
theorem asz (acc:List Str) (x y:Str):y∈dedS acc x↔y∈acc\/y=x:=by
 unfold dedS;split
 ·rename_i h
  constructor
  ·exact .inl
  ·rintro (q | q)
   ·exact q
   ·rw[q];exact h
 ·simp[List.mem_append]
theorem agl (acc:List Str) (x:Str):(dedS acc x).length=if x∈acc then acc.length else acc.length+1:=by
 unfold dedS;split<;>simp
theorem ato (l:List Str):∀ k,(ddS (l.take k)).length<=k:=by
 intro k;induction k with
 | zero=>simp[ddS]
 | succ k ih =>
  rw[List.take_add_one];cases e:l[k]? with
  | none=>simp;omega
  | some x =>
   simp only[Option.toList_some];rw[aiy,agl];split<;>omega
theorem apz (r:List Str):∀ acc,acc.length<=(r.foldl dedS acc).length/\(r.foldl dedS acc).length<=acc.length+r.length:=by
 induction r with
 | nil=>intro acc;simp
 | cons x r ih =>
  intro acc;have h:=ih (dedS acc x);rw[agl] at h;simp only[List.foldl_cons,List.length_cons];split at h<;>omega
theorem ann:∀ (r acc:List Str),acc.Nodup->(r.foldl dedS acc).length=acc.length+r.length->(acc++r).Nodup:=by
 intro r;induction r with
 | nil=>intro acc h _;simpa using h
 | cons x r ih =>
  intro acc h e;simp only[List.foldl_cons,List.length_cons] at e;have hb:=apz r (dedS acc x);rw[agl] at hb;by_cases hx:x∈acc
  ·rw[if_pos hx] at hb;omega
  ·have e1:dedS acc x=acc++[x]:=by unfold dedS;rw[if_neg hx]
   rw[e1] at e;have:=ih (acc++[x]) (aoj h hx) (by rw[e];simp;omega)
   simpa using this
theorem afl {l:List Str}(h:(ddS l).length=l.length):l.Nodup:=by
 have:=ann l [] List.nodup_nil (by simpa [ddS] using h)
 simpa using this
theorem aez {l:List Str}(h:l.Nodup):(ddS l).length=l.length:=by
 have:∀ (r acc:List Str),(acc++r).Nodup->r.foldl dedS acc=acc++r:=by
  intro r;induction r with
  | nil=>intro acc _;simp
  | cons x r ih =>
   intro acc hn;have hx:¬ x∈acc:=fun m=>by
    have:=(List.nodup_append.mp hn).2.2 x m x List.mem_cons_self;exact this rfl
   simp only[List.foldl_cons];have e1:dedS acc x=acc++[x]:=by unfold dedS;rw[if_neg hx]
   rw[e1,ih (acc++[x]) (by simpa using hn)];simp
 unfold ddS;rw[this l [] (by simpa using h)];simp
theorem af7 {P:Program}{w:World}{h:Heap}{a:Addr}{S S':Str->Bool}{n n':Nat}(z:h.SetOf (PySem.strKind P w) a S n) (e:∀ k,S k=S' k) (en:n=n'):h.SetOf (PySem.strKind P w) a S' n':=by
 have:S=S':=funext e;subst this en;exact z
section
variable {prog:Program}{w:World}{A:Around}{R:Result->Shared->Prop}{J:Addr}{fp wr:List Addr}{G:Array GenState->Array GenState->Prop}{n:Nat}{P:Nat->Value->Prop}{St:Nat->Shared->Prop}
theorem ao9 (W:WalksS prog w A.in1 J fp wr G n P St) (a:Addr) (haf:a∉fp) (ys:List Str) (hys:ys.length=n) (hp:∀ i v,P i v->∃ x t,ys[i]?=some x/\v = .str x t) (hb:n+1<scanBound) :
  ∀ (k i:Nat) (s:Shared),n-i=k->i<=n->St i s->s.heap.SetOf (PySem.strKind prog w) a (fun x=>decide (x∈ddS (ys.take i))) (ddS (ys.take i)).length ->
   (∀ s',Moved (a::wr) G s s'->s'.heap.SetOf (PySem.strKind prog w) a (fun x=>decide (x∈ddS ys)) (ddS ys).length->R (.ok (.ret .none)) s') ->
   codeAny (model prog w) A (.builtin "set.update.loop" ⟨[.ref a,.ref J],[]⟩) R s:=by
 have haw:a∉wr:=fun z=>haf (W.sub _ z)
 have hsub:∀ b∈wr,b∈a::wr:=fun b z=>List.mem_cons_of_mem _ z
 intro k;induction k with
 | zero =>
  intro i s hk hi st hS hR;have ei:i=n:=by omega
  subst ei;rw[List.take_of_length_le (by omega)] at hS;refine codeAny_builtin PyProof.Rows.F.entry_set_update_loop ?_;rw[Around.under_plainId PyProof.Rows.F.plain_set_update_loop _];show wpAny _ A.in1 (pyNext (.ref J) >>= _) _ _ s;refine wpAny_bind (W.done s _ _ st fun s' mv=>?_);show wpAny _ A.in1 (ret Value.none) _ _ s';obtain⟨o,es,ep,t,ho,rest⟩:=hS;exact wpAny_pure (hR s' (mv.mono hsub) ⟨o,es,ep,t,mv.heap a _ haw ho,rest⟩)
 | succ k ih =>
  intro i s hk hi st hS hR;have hlt:i<n:=by omega
  refine codeAny_builtin PyProof.Rows.F.entry_set_update_loop ?_;rw[Around.under_plainId PyProof.Rows.F.plain_set_update_loop _];show wpAny _ A.in1 (pyNext (.ref J) >>= _) _ _ s;refine wpAny_bind (W.item i s _ _ hlt st fun v s' hv st' mv=>?_);obtain⟨x,t,hx,rfl⟩:=hp i v hv;have hS1:s'.heap.SetOf (PySem.strKind prog w) a (fun x=>decide (x∈ddS (ys.take i))) (ddS (ys.take i)).length:=by
   obtain⟨o,es,ep,tb,ho,rest⟩:=hS;exact⟨o,es,ep,tb,mv.heap a _ haw ho,rest⟩
  show wpAny _ A.in1 (holding [Value.str x t] (setAdd a (.str x t)) >>= _) _ _ s';refine wpAny_bind (wpAny_holding ?_);unfold setAdd;refine wpAny_holding ?_;have hk':(PySem.strKind prog w).is x (.str x t)=true:=by simp[PySem.strKind,Value.isStrOf]
  refine wpAny_bind ((PySem.strKind prog w).pyHash (k:=x) hk' ?_);have hroom:(ddS (ys.take i)).length+1<scanBound:=by have:=ato ys i;omega
  refine wpAny_setAddHashed_of (knd:=strKind prog w) (s:={ s' with toks:=s'.toks+1 }) hk' rfl hS1 hroom fun h' sb hS2=>?_
  have et:ys.take (i+1)=ys.take i++[x]:=by rw[List.take_add_one,hx];rfl
  have hS3:h'.SetOf (PySem.strKind prog w) a (fun x=>decide (x∈ddS (ys.take (i+1)))) (ddS (ys.take (i+1))).length:=by
   refine af7 hS2 (fun y=>?_) ?_
   ·rw[et,aiy];have:=asz (ddS (ys.take i)) x y;by_cases h1:y∈ddS (ys.take i)<;>by_cases h2:y=x<;>simp only[h1,h2,true_or,or_true,or_false,false_or] at this<;>simp[this,h1,h2]
    all_goals (subst h2;simp[this])
   ·rw[et,aiy,agl];by_cases h1:x∈ddS (ys.take i)<;>simp[h1]
  refine wpAny_pure ⟨plainId_quiet PyProof.Rows.F.plain_set_update_loop _,ih (i+1) _ (by omega) hlt (W.frame _ s' _ _ st' (Nat.le_succ _) fun b hb o e=>?_) hS3 fun s'' mv'' hS''=>?_⟩
  ·rw[sb.2 b (fun z:b=a=>haf (by rw[← z];exact hb))];exact e
  ·refine hR s'' (Moved.trans W.gtrans ((mv.mono hsub).then_heap (Nat.le_succ _) fun b o hb e=>?_) mv'') hS'';rw[sb.2 b (fun z:b=a=>hb (by rw[z];exact List.mem_cons_self))];exact e
end
end L2
namespace PySem
open PyProof.Rows L2
section
variable {prog:Program}{w:World}{A:Around}
theorem ar2 {E:Value->Shared->Prop}{s:Shared}{x:Value}{Q:Value->Shared->Prop}
  (fill:∀ g,wpAny (model prog w) A.in1.in1 (Builtin.«set.__init__» ⟨[.ref s.heap.objs.size,x],[]⟩) (fun f s1=>f = .done (.ret .none)/\Q (.ref s.heap.objs.size) s1) E { s with heap:=s.heap.push { cls:=.type "set",dict:=none,data:=.set #[] 0 (.fresh 0 0 g) } }) :
  wpAny (model prog w) A (call (.type "set") [x]) Q E s:=by
 obtain⟨c,r,mro⟩:=F.called_set.mro;refine wpAny_call (codeAny_of_tree (wpAny_pure ⟨Code.quiet_builtin _ (by decide +kernel),codeAny_builtin F.entry_type_call ?_⟩));have it:=F.called_set;have body:wpAny (model prog w) A.in1 (Builtin.«type.__call__» ⟨[.type "set",x],[]⟩) (fun f s1=>match f with | .done f=>wants Q E (.ok f) s1 | .again c'=>c'.quiet=true/\codeAny (model prog w) A c' (wants Q E) s1) (fun e s1=>wants Q E (.error e) s1) s:=by
  unfold Builtin.«type.__call__»;dsimp only;rw[it.notType];simp only[Bool.false_eq_true,if_false,it.canCreate];refine wpAny_bind (wpAny_of_eq (F.typeCall_set_1 x) (wpAny_bind (wpAny_of_eq mro ?_)));rw[if_neg (show ¬ (c::r).isEmpty=true from Bool.false_ne_true)];refine wpAny_bind (wpAny_of_eq it.made (wpAny_bind (wpAny_pure (wpAny_bind (wpAny_holding (wpAny_call (code_set_new_1 x fun g=>?_)))))));have isSet:Shared.TypeIs { s with heap:=s.heap.push { cls:=.type "set",dict:=none,data:=.set #[] 0 (.fresh 0 0 g) } } (.ref s.heap.objs.size) "set" := ⟨_,Heap.get?_push_size _ rfl,rfl⟩;refine wpAny_bind (wpAny_isInstance isSet it.sub ?_);rw[if_neg (show ¬ (!true)=true from Bool.false_ne_true)];refine wpAny_bind (wpAny_holding (wpAny_callSpecial?_slot isSet it.init (wpAny_call (codeAny_call_builtin it.init.plain F.entry_set_init (check_set_init_1 isSet ?_)))));refine wpAny_mono (fill g) (fun f s1 q=>?_) fun _ _ q=>q
  obtain⟨rfl,q⟩:=q;exact wpAny_pure q
 exact body
theorem apj {E:Value->Shared->Prop}{s:Shared}{S l:Addr}{its:Array Value}{Q:Unit->Shared->Prop}(hl:s.heap.IsList l its)
  (loop:codeAny (model prog w) A (.builtin "set.update.loop" ⟨[.ref S,.ref s.heap.objs.size],[]⟩) (fun r s1=>match r with | .ok (.ret _)=>Q () s1 | .ok _=>False | .error e=>E e s1) { s with heap:=s.heap.push { cls:=.type "list_iterator",data:=.fields #[.ref l,.int 0 0] } }) :
  wpAny (model prog w) A (Builtin.Frozenset.updateFrom "set.__init__" S (.ref l)) Q E s:=by
 have noset:wpAny (model prog w) A (Builtin.Frozenset.isAnySet (.ref l)) (fun b s1=>b=false/\s1=s) E s :=
  wpAny_bind (wpAny_isInstance hl.typeIs F.sub_list_set (wpAny_isInstance hl.typeIs F.sub_list_frozenset ⟨rfl,rfl⟩))
 refine wpAny_bind (wpAny_mono noset (fun b s1 q=>?_) fun _ _ q=>q);obtain⟨rfl,rfl⟩:=q;refine wpAny_bind (wpAny_typeOf hl.typeIs (wpAny_bind (wpAny_pyIter_list hl (wpAny_bind (wpAny_runValue ?_)))));exact codeAny_mono loop fun r s1 q=>by
  match r,q with
  | .ok (.ret v),q=>exact wpAny_pure q
  | .error e,q=>exact q
abbrev ahg (g:Bool):Obj:={ cls:=.type "set",dict:=none,data:=.set #[] 0 (.fresh 0 0 g) }
theorem arc {E:Value->Shared->Prop}{s:Shared}{S:Addr}{g:Bool}{x:Value}{Q:Fin->Shared->Prop}(hS:s.heap.get? S=some (ahg g))
  (fill:wpAny (model prog w) A (Builtin.Frozenset.updateFrom "set.__init__" S x) (fun _ s1=>Q (.done (.ret .none)) s1) E s) :
  wpAny (model prog w) A (Builtin.«set.__init__» ⟨[.ref S,x],[]⟩) Q E s:=by
 unfold Builtin.«set.__init__»;generalize Builtin.Frozenset.updateFrom=up at fill ⊢
 wp_walk
 exact wpAny_mono fill (fun _ _ q=>wpAny_pure q) fun _ _ q=>q
theorem asn {us:List Value}{zs:List Str}(z:StrsAre us zs):zs.length=us.length:=by
 induction z with
 | nil=>rfl
 | cons _ _ _ ih=>rw[List.length_cons,List.length_cons,ih]
theorem ar5 {us:List Value}{zs:List Str}(z:StrsAre us zs):∀ {i:Nat}{v:Value},us[i]?=some v->∃ x t,zs[i]?=some x/\v = .str x t:=by
 induction z with
 | nil=>intro i v e;cases e
 | cons x t _ ih =>
  intro i v e
  match i,e with
  | 0,e=>exact⟨x,t,rfl,(Option.some.inj e).symm⟩
  | i+1,e=>exact ih (i:=i) e
theorem asa {s s':Shared}(a:s'.gens=s.gens) (b:s'.drawn=s.drawn) (c:s'.os=s.os):s'={ s with heap:=s'.heap,toks:=s'.toks }:=by
 cases s;cases s';cases a;cases b;cases c;rfl
set_option maxHeartbeats 800000 in
theorem aiz {E:Value->Shared->Prop}{s:Shared}{l:Addr}{items:Array Value}{ys:List Str}{Q:Value->Shared->Prop}(hh:A.handled=none) (hl:s.heap.IsList l items) (hi:StrsAre items.toList ys) (hb:items.size+1<scanBound)
  (h:∀ (h':Heap) (tk:Nat),h'.SetOf (PySem.strKind prog w) s.heap.objs.size (fun x=>decide (x∈ddS ys)) (ddS ys).length->(∀ b o,b<s.heap.objs.size->s.heap.get? b=some o->h'.get? b=some o) ->Q (.ref s.heap.objs.size) { s with heap:=h',toks:=tk }):wpAny (model prog w) A (call (.type "set") [.ref l]) Q E s:=by
 refine ar2 fun g=>arc (Heap.get?_push_size _ rfl) (apj (hl.push _) ?_)
 have two:(s.heap.push (ahg g)).objs.size=s.heap.objs.size+1:=Heap.size_push ..;have lt:l<s.heap.objs.size:=by
  obtain⟨o,e,_⟩:=hl;exact Heap.lt_size e
 have ne1:l≠(s.heap.push (ahg g)).objs.size:=by
  rw[two];exact Nat.ne_of_lt (Nat.lt_succ_of_lt lt)
 have ne2:s.heap.objs.size∉[(s.heap.push (ahg g)).objs.size,l]:=fun z=>by
  rw[two] at z;rcases List.mem_cons.mp z with q | q
  ·exact Nat.ne_of_lt (Nat.lt_succ_self _) q
  ·exact Nat.ne_of_gt lt (List.mem_singleton.mp q)
 have len:ys.length=items.size:=by rw[asn hi,Array.length_toList]
 have item:∀ (i:Nat) (v:Value),items[i]?=some v->∃ x t,ys[i]?=some x/\v = .str x t:=fun i v e=>ar5 hi (by rw[Array.getElem?_toList];exact e)
 have empty:((s.heap.push (ahg g)).push { cls:=.type "list_iterator",data:=.fields #[.ref l,.int 0 0] }).SetOf (PySem.strKind prog w) s.heap.objs.size (fun x=>decide (x∈ddS (ys.take 0))) (ddS (ys.take 0)).length :=
  af7 ((setObjOf_fresh (knd:=PySem.strKind prog w) g).setOf (Heap.get?_push_of_some _ (Heap.get?_push_size _ rfl)) (by unfold scanBound;omega)) (fun _=>by simp[ddS]) (by simp[ddS])
 refine ao9 ((Walks.list (by simp[hh]) _ l ne1 items).toS) s.heap.objs.size ne2 ys len item hb items.size 0 _ (by omega) (Nat.zero_le _) ⟨⟨_,Heap.get?_push_size _ rfl,rfl,rfl⟩,(hl.push _).push _⟩ empty fun s' mv fin=>?_
 have res:=h s'.heap s'.toks fin fun b o lb e=>mv.heap b o (fun z=>?_) (Heap.get?_push_of_some _ (Heap.get?_push_of_some _ e))
 ·rw[show s'={ s with heap:=s'.heap,toks:=s'.toks } from asa mv.gens mv.drawn mv.os];exact⟨rfl,res⟩
 ·rcases List.mem_cons.mp z with q | q
  ·exact Nat.ne_of_lt lb q
  ·have q:=List.mem_singleton.mp q;rw[two] at q;exact Nat.ne_of_lt (Nat.lt_succ_of_lt lb) q
end
end PySem
namespace L2
open PySem PySem.Spec PyProof.Rows
section
variable {X:Cx}
def SetN (P:Program) (w:World) (a:Addr) (n:Nat):HO:=.ext fun h=>∃ S,h.SetOf (PySem.strKind P w) a S n
theorem aff (hc:X.calm=true):ab6 X (.type "set") (fun xs H Q=>∃ (p:Addr) (ys:List Str),xs=[.ref p]/\SqL X.K H p (ys.map V.str)/\ys.length<=4000/\∀ a,H a=none->Q (.ref a) (upd H a (SetN X.prog X.w a (ddS ys).length))):=by
 intro pins s σ H xs us Q I r h;obtain⟨p,ys,rfl,hq,hz,q⟩:=h;obtain⟨u,rfl,ru⟩:=af0 r;cases ru;obtain⟨its,r',pl,_⟩:=I.list hq;have hlen:=r'.length;rw[List.length_map] at hlen;refine aiz (I.ok.hd hc) pl.isList (by simpa using ai1 r') (by rw[List.size_toArray];unfold scanBound;omega) fun h' tk hS hk=>?_
 have hex:∃ o,h'.get? s.heap.objs.size=some o:=by obtain⟨o,_,_,_,e,_⟩:=hS;exact⟨o,e⟩
 refine⟨.ref s.heap.objs.size,_,I.laid (a:=s.heap.objs.size) (o:=SetN X.prog X.w s.heap.objs.size (ddS ys).length) (t':=tk) (fun b o e=>hk b o (Heap.lt_size e) e) (Nat.le_refl _) ?_,rfl,q _ I.fresh⟩;refine⟨⟨_,hS⟩,hex,fun h1 h2 ⟨S,z⟩ k=>⟨S,?_⟩⟩;obtain⟨o,es,ep,t,e,rest⟩:=z;exact⟨o,es,ep,t,k o e,rest⟩
theorem afe:ab6 X (.builtin "len") (fun xs H Q=>∃ (a:Addr) (n:Nat),xs=[.ref a]/\H a=some (SetN X.prog X.w a n)/\Q (.int n) H):=by
 intro pins s σ H xs us Q I r h;obtain⟨a,n,rfl,ha,q⟩:=h;obtain⟨u,rfl,ru⟩:=af0 r;cases ru;obtain⟨⟨S,o,es,ep,t,e,ex,hd,_,_,hb,hf,rfl⟩,_⟩:=I.hok a _ ha;refine call_len_set e ex hd hf ?_ ⟨.int es.size,H,I.tok _,⟨_,rfl⟩,q⟩;have:scanBound=4096:=rfl;omega
end
def vMro:List Value:=[.type "ValueError",.type "Exception",.type "BaseException",.type "object"]
theorem aun {K:PySem.W.Frag}{h:Heap}{N:Addr}{mg:Str->Option Value}{n:Str}{v:Value}(X:K.In h) (G:h.Ns N mg) (e:PySem.W.nsIn K N n=some (some v)):mg n=some v:=by
 obtain⟨o,es,ep,ho,hd,_,hf⟩:=G;unfold PySem.W.nsIn at e;cases q:List.lookup N K with
 | none=>rw[q] at e;cases e
 | some o' =>
  rw[q] at e;have z:=X _ _ q;rw[ho] at z;cases z;obtain⟨c,d,da,sl⟩:=o;cases (show da = .dict es ep from hd);cases he:es.toList.find? (fun x=>x.key.isStr n) with
  | some en =>
   have e:=(show (match es.toList.find? (fun x=>x.key.isStr n) with | some e=>some (some e.val) | none=>if (es.toList.any fun x=>x.refKey)=true then none else some none)=some (some v) from e);rw[he] at e;cases e;rw[← hf];unfold nsFind findBy;rw[← Array.find?_toList,he];rfl
  | none =>
   have e:=(show (match es.toList.find? (fun x=>x.key.isStr n) with | some e=>some (some e.val) | none=>if (es.toList.any fun x=>x.refKey)=true then none else some none)=some (some v) from e);rw[he] at e;by_cases w:(es.toList.any fun x=>x.refKey)=true
   ·rw[show (match (none:Option DictEntry) with | some e=>some (some e.val) | none=>if (es.toList.any fun x=>x.refKey)=true then none else some none)=none from if_pos w] at e;cases e
   ·rw[show (match (none:Option DictEntry) with | some e=>some (some e.val) | none=>if (es.toList.any fun x=>x.refKey)=true then none else some none)=some none from if_neg w] at e;cases e
def xcIn (K:PySem.W.Frag) (C N:Addr) (bm:List Value) (init:Option Value):Bool:=match K.lookup C with
 | some o=>o.cls == .type "type" && (match o.data with
  | .cls cd=>cd.mro == .ref C::bm&&(o.slots.toList.length == 6&&(o.slots.toList[4]? == some (some (.builtin "ValueError.__new__"))&&(!cd.hasDel&&(cd.hasDict&&(cd.ns == N&&(PySem.W.tailIn K vMro bm&&(PySem.W.nsOkIn K N&&PySem.W.nsIn K N "__init__" == some init)))))))
  | _=>false)
 | none=>false
theorem xc_is {K:PySem.W.Frag}{C N:Addr}{bm:List Value}{init:Option Value}(q:xcIn K C N bm init=true):∃ dd cd sl,K.lookup C=some ⟨.type "type",dd,.cls cd,sl⟩/\cd.mro = .ref C::bm/\sl.toList.length=6/\sl.toList[4]?=some (some (.builtin "ValueError.__new__"))/\cd.hasDel=false/\cd.hasDict=true/\cd.ns=N /\
  PySem.W.tailIn K vMro bm=true/\PySem.W.nsOkIn K N=true/\PySem.W.nsIn K N "__init__" = some init:=by
 unfold xcIn at q;cases ho:K.lookup C with
 | none=>rw[ho] at q;cases q
 | some o =>
  rw[ho] at q;obtain⟨c,dd,da,sl⟩:=o;obtain⟨q1,q2⟩:=Bool.and_eq_true_iff.mp q;clear q;obtain rfl:c = .type "type" := beq_iff_eq.mp q1;cases da<;>first | (cases q2;done) | skip
  rename_i cd
  simp only[Bool.and_eq_true,beq_iff_eq,Bool.not_eq_true'] at q2;exact⟨dd,cd,sl,rfl,q2⟩
theorem len6 {α:Type}:∀ {l:List α}{x:α},l.length=6->l[4]?=some x->∃ a b c d f,l=[a,b,c,d,x,f]
 | [a,b,c,d,_,f],_,_,h=>⟨a,b,c,d,f,by cases h;rfl⟩
structure XCls (h:Heap) (C N:Addr) (bm:List Value) (init:Option Value):Prop where
 ex:∃ nm q bs sn sub ab col dd k0 k1 k2 k3 k5 mN,h.get? C=some (excClassObj nm q C N bs bm true sn sub ab col dd k0 k1 k2 k3 k5 "ValueError.__new__")/\h.Ns N mN/\mN "__init__" = init
 tail:OwnTail h vMro bm
theorem au3 {K:PySem.W.Frag}{h:Heap}{C N:Addr}{bm:List Value}{init:Option Value}(X:K.In h) (q:xcIn K C N bm init=true):XCls h C N bm init:=by
 obtain⟨dd,cd,sl,ho,hm,h6,h4,hdel,hdic,rfl,ht,hok,hni⟩:=xc_is q;obtain⟨k0,k1,k2,k3,k5,hs⟩:=len6 h6 h4
 ··obtain⟨nm,bs,mro,ns,qn,hd,sn,sub,ab,col,del⟩:=cd;dsimp only at hm hdel hok hni hdic ht;subst hm hdel hdic;obtain⟨l⟩:=sl;obtain rfl:l=_:=hs;refine (⟨⟨nm,qn,bs,sn,sub,ab,col,dd,k0,k1,k2,k3,k5,h.nsMap ns,X _ _ ho,.of_isNs (PySem.W.isNs_of_in X hok),?_⟩,PySem.W.tail_of_in X ht⟩:XCls h _ _ _ _);cases init with
   | none=>exact PySem.W.nsMap_none_of_in X hok hni
   | some v=>exact aun X (.of_isNs (PySem.W.isNs_of_in X hok)) hni
def ExN (e C:Addr):HO:=.ext fun h=>∃ t,h.get? e=some (xNew C t)
def ExD (e C dd:Addr):HO:=.ext fun h=>∃ t,h.get? e=some { xNew C t with dict:=some dd }
theorem at2 {H:Hp}{a:Addr}{o:HO}(h:H a=some o):upd H a o=H:=by
 funext b
 unfold upd;split
 ·rename_i z;rw[z];exact h.symm
 ·rfl
section
variable {X:Cx}
def tFstr (a b:Str) (te:TE):TE:=fun σ H Q=>te σ H fun y H1=>∃ x:Str,y = .str x/\(∀ c∈x.cps.toList,c<16 ^ 8)/\x.length<=1000/\∀ z:Str,Q (.str z) H1
theorem au2 {a b:Str}{e:Expr}{te:TE}{i j:Nat}{p1 p2 p3 pos:Pos}(he:PE X e te) (ha:a.length<=1000:=by decide +kernel) (hb:b.length<=1000:=by decide +kernel):PE X (.JoinedStr [.Constant (.str a) i p1,.FormattedValue e 114 none p2,.Constant (.str b) j p3] pos) (tFstr a b te):=by
 intro pins s σ H Q I h;have big:20000<=sizeLine:=by decide
 have e0:(Str.empty++a).length=a.length:=by rw[strLen_append];simp[Str.empty,Str.length]
 refine wpAny_JoinedStr ?_;refine Calls.Constant_str ⟨a,_,rfl,by omega,?_⟩;refine wpAny_FormattedValue_repr (thn (he pins _ σ H _ (I.tok _) h) fun u s1 ⟨y,H1,I1,ry,x,ey,hc,hx,q⟩=>?_);subst ey;obtain⟨t,rfl⟩:=ry;have hl:=StrLaws.reprText_len x hc;have e1:(Str.empty++a++reprText x).length=a.length+(reprText x).length:=by rw[strLen_append,e0]
 have e2:(Str.empty++a++reprText x++b).length=a.length+(reprText x).length+b.length:=by rw[strLen_append,e1]
 refine wpAny_pyReprObj_str (hsz:=by omega) (wpAny_formatField_str (hx:=by omega) ?_ ?_)
 ·refine⟨_,_,rfl,by omega,Calls.Constant_str ⟨b,_,rfl,by omega,⟨by omega,.str _,H1,?_,⟨_,rfl⟩,q _⟩⟩⟩;exact ((I1.tok _).tok _).tok _
 ·refine⟨_,_,rfl,by omega,Calls.Constant_str ⟨b,_,rfl,by omega,⟨by omega,.str _,H1,?_,⟨_,rfl⟩,q _⟩⟩⟩;exact (((I1.tok _).tok _).tok _).tok _
end
theorem atw {P:Program}{w:World}{H:Hp}{h:Heap}{e C t:Addr}(he:h.get? e=some (xNew C t)):ab7 P w H h e (ExN e C):=⟨⟨t,he⟩,⟨_,he⟩,fun _ _ ⟨t,z⟩ k=>⟨t,k _ z⟩⟩
theorem exD_ok {P:Program}{w:World}{H:Hp}{h:Heap}{e C t dd:Addr}(he:h.get? e=some { xNew C t with dict:=some dd }):ab7 P w H h e (ExD e C dd):=⟨⟨t,he⟩,⟨_,he⟩,fun _ _ ⟨t,z⟩ k=>⟨t,k _ z⟩⟩
section
variable {X:Cx}
def auh (K:PySem.W.Frag) (ts tf:TE):TE:=fun σ H Q=>ts σ H fun x H1=>tf σ H1 fun y H2=>∃ (e C N:Addr) (bm:List Value) (i:Option Value) (z:Str),x = .ref e/\y = .str z/\H2 e=some (ExN e C)/\xcIn K C N bm i=true/\Q .non H2
theorem akt {x:Str}{np apos pos:Pos}{es ef:Expr}{ts tf:TE}{CE:Addr}(hg:Gl X x) (hm:X.mg x=some (.ref CE)) (hgm:PySem.W.specialIn X.K (.ref CE) "__getattribute__" = some (some (.builtin "type.__getattribute__")))
  (hrd:PySem.W.readsIn X.K CE (.type "type")=true) (hfc:PySem.W.findCls X.K (.ref CE) (.type "type") "__init__" = some (.val (.builtin "ValueError.__init__"))) (hs:PE X es ts) (hf:PE X ef tf) (m:M2 X (.Name x np) "__init__" apos es ef pos)
  (hdb:(x == ("__debug__" : Str))=false:=by decide):PE X (.Call (.Attribute (.Name x np) "__init__" apos) [es,ef] [] pos) (auh X.K ts tf):=by
 intro pins s σ H Q I h;rw[arm_eval_Call,m.base];refine wpAny_bind (aec I hg hm ?_ hdb);refine wpAny_bind (wpAny_standAt ?_);have form:methodCallForm (([es,ef]:List Expr).length+([]:List Keyword).length) (backTo pos (starEach [es,ef] X.env)) (backToKw pos (keywordEach [] X.env))=true:=m.few;have hpos:methodCallPos true (.Name x np) X.env apos pos=pure pos:=by unfold methodCallPos;simp[m.line]
 unfold methodCall;rw[form];refine wpAny_bind (wpAny_holding ?_);refine PySem.W.method_cls I.kIn hgm (PySem.W.cls_value I.kIn hrd hfc rfl ?_);refine wpAny_bind (wpAny_of_eq hpos ?_);rw[m.trees];refine Calls.callWith_builtin rfl (Calls.evalArgs_plain (Calls.spliced_cons (thn (hs pins _ σ H _ (I.tok _) h) fun u s2 ⟨y,H2,I2,ry,q2⟩ =>Calls.spliced_cons (thn (hf pins s2 σ H2 _ I2 q2) fun fv s3 ⟨z,H3,I3,rz,e,C,N,bm,i,zz,ey,ez,he,xc,q3⟩=>Calls.spliced_nil ?_))));subst ey ez;obtain rfl:u=Value.ref e:=ry;obtain⟨⟨t0,het⟩,_,_⟩:=I3.hok e _ he;have xk:=au3 I3.kIn xc;obtain⟨nm,q,bs,sn,sub,ab,col,dd,k0,k1,k2,k3,k5,mN,cC,cN,ci⟩:=xk.ex;obtain⟨h3,g3,d3,t3,os3⟩:=s3;refine x_init PySem.F.excBase_ValueError xk.tail (show ([fv]:List Value).length<=sizeLine by show 1<=sizeLine;decide) cC het fun h' t' he' keep=>?_
 have I4:=I3.write (x:=e) (e:=e) (o:=ExN e C) (t':=t3) (by rw[he];exact True.intro) (.inl rfl) keep ⟨_,he'⟩ (atw he');rw[at2 he] at I4;exact⟨.non,H3,I4,rfl,q3⟩
def sXset (K:PySem.W.Frag) (to tv:TE) (f:Str):TS:=fun D σ H=>tv σ H fun y H1=>to σ H1 fun x H2=>∃ (e C N:Addr) (bm:List Value) (i:Option Value),x = .ref e/\H2 e=some (ExN e C)/\xcIn K C N bm i=true /\
 PySem.W.findIn K (.ref C) "__setattr__" = some (some (.builtin "object.__setattr__"))/\PySem.W.findIn K (.ref C) f=some none/\(∀ a,refuseLoop (.ref a) "__setattr__" (.ref C::bm)=pure ())/\bm.contains (.type "object")=true /\
 ∀ dd,H2 dd=none->D.nx σ (upd (upd H2 dd (.xd [(f,y)])) e (ExD e C dd))
theorem afv {K:PySem.W.Frag}{C N:Addr}{bm:List Value}{i:Option Value}(q:xcIn K C N bm i=true):∃ cd,PySem.W.clsIn K C=some cd/\cd.hasDict=true/\cd.mro = .ref C::bm:=by
 obtain⟨dd,cd,sl,ho,hm,h6,h4,hdel,hdic,_⟩:=xc_is q;refine⟨cd,?_,hdic,hm⟩;unfold PySem.W.clsIn;rw[ho]
theorem aol {o value:Expr}{f:Str}{to tv:TE}{pos' pos:Pos}(ho:PE X o to) (hv:PE X value tv) (hs:swapsWith value (some (.Attribute o f pos')) pos.line X.env=pure false):PS X (.Assign [.Attribute o f pos'] value pos) (sXset X.K to tv f):=by
 intro pins s σ H D I h;refine plainObj_wpAny_Assign_Attribute (thn (hv pins s σ H _ I h) fun u s1 ⟨y,H1,I1,ry,q⟩=>thn (ho pins s1 σ H1 _ I1 q) fun ov s2 hz=>?_) hs;obtain⟨x,H2,I2,rx,e,C,N,bm,i,ex,he,xc,fs,fn,rf,hob,q2⟩:=hz;subst ex;obtain rfl:ov=Value.ref e:=rx;obtain⟨⟨t0,het⟩,_,_⟩:=I2.hok e _ he;obtain⟨cd,hcl,hdi,hmr⟩:=afv xc;have hO:PySem.W.mroIn X.K C (.type "object")=some true:=by
  unfold PySem.W.mroIn;rw[hcl,Option.bind_some,hmr,if_neg (by simp),List.contains_cons,hob,Bool.or_true]
 refine PySem.W.x_set I2.kIn het rfl rfl rfl fs hcl hdi hO (by rw[hmr];exact rf e) fn fun h' tk' g1 g2 g3=>?_
 have ne:s2.heap.objs.size≠e:=fun z=>absurd (Heap.lt_size het) (by rw[← z];exact Nat.lt_irrefl _)
 have u1:(h'.update e fun _=>xNew C t0).get? e=some (xNew C t0):=Heap.get?_update_self _ g1 rfl;have u2:∀ b,b≠e->(h'.update e fun _=>xNew C t0).get? b=h'.get? b:=fun b n=>Heap.get?_update_other _ _ (Ne.symm n)
 have hnd:=I2.hok.fresh (Nat.le_refl s2.heap.objs.size);have I3:=I2.laid (a:=s2.heap.objs.size) (o:=.xd [(f,y)]) (h':=h'.update e fun _=>xNew C t0) (t':=tk') (fun b v q=>?_) (Nat.le_refl _) ?_
 rotate_left
 ·by_cases n:b=e
  ·subst n;rw[het] at q;cases q;exact u1
  ·rw[u2 b n];exact g3 b v n q
 ·obtain⟨o',es,ep,e1,e2⟩:=g2;refine⟨_,⟨o',es,ep,by rw[u2 _ ne];exact e1,e2⟩,fun f'=>?_⟩;by_cases n:f'=f
  ·subst n;simp only[List.lookup_cons,beq_self_eq_true,if_true];exact ry
  ·have:(f' == f)=false:=beq_eq_false_iff_ne.mpr n;simp only[List.lookup_cons,this,if_neg n,List.lookup_nil]
   trivial
 have I4:=I3.write (x:=e) (e:=e) (o:=ExD e C s2.heap.objs.size) (h':=h') (t':=tk') (by rw[aac ne.symm,he];exact True.intro) (.inl rfl) (fun b v n q=>by rw[← u2 b n];exact q) ⟨_,g1⟩ (exD_ok g1);exact⟨σ,_,I4,q2 _ hnd⟩
end
section
variable {X:Cx}{k:Nat}{f C N:Addr}{bm:List Value}{fd:FuncData}{ps:List Str}{sp:Sp}{x:Str}{p pos:Pos}{e:Expr}{es:List Expr}{t:TA}
def tXmake (C:Addr) (sp:Sp) (t:TA):TE:=fun σ H Q=>t σ H fun vs H1=>vs.length<=10/\∀ a,H1 a=none->sp (.ref a::vs) (upd H1 a (ExN a C)) (fun v H2=>v = .non/\Q (.ref a) H2) E0
theorem aed (xc:xcIn X.K C N bm (some (.ref f))=true) (hkC:PySem.W.keepIn X.K (.ref C)=true){oI:Obj}(hf:X.K.lookup f=some oI) (hfc:oI.cls = .type "function") (F:FnOk X.prog X.w X.K X.mg X.base CX0 k f fd ps sp) (hr:Room (k+1) X.A) (hg:Gl X x) (hm:X.mg x=some (.ref C)) (hb:aeg X.K fd ps [])
  (ha:PA X (e::es) t) (hdb:(x == ("__debug__" : Str))=false:=by decide) (he:starEach (e::es) X.env=(false,eval e X.env)::starEach es X.env:=by rfl) (hpl:(backTo pos (starEach es X.env)).any (·.1)=false:=by rfl) :
  PE X (.Call (.Name x p) (e::es) [] pos) (tXmake C sp t):=by
 intro pins s σ H Q I h;refine wpAny_Call_Name_kw (aec I hg hm ?_ hdb);refine PySem.W.callWith_K (h₀:=X.base) I.ok.mod.kin hkC (thn (ha pos pins s σ H _ I h) fun us s1 ⟨vs,H1,I1,r,hl,q⟩=>⟨I1.kIn,?_⟩) he hpl;have xk:=au3 I1.kIn xc;obtain⟨nm,qn,bs,sn,sub,ab,col,dd,k0,k1,k2,k3,k5,mN,cC,cN,ci⟩:=xk.ex;have hz:us.length<=sizeLine:=by rw[← r.length];exact Nat.le_trans hl (by decide)
 obtain⟨h1,g1,d1,t1,os1⟩:=s1;refine x_call PySem.F.excBase_ValueError PySem.F.excBase_ValueError.hasB PySem.F.excBase_ValueError xk.tail cC cN ci (I1.kIn _ _ hf) hfc hz fun h' a la mk=>?_
 obtain⟨ta,ea,nta,eta⟩:=mk.there;have na:H1 a=none:=I1.hok.fresh la;have q1:=q a na;have I2:Inv X pins σ (upd H1 a (ExN a C)) ⟨h',g1,d1,t1,os1⟩:=I1.laid (a:=a) (o:=ExN a C) (t':=t1) mk.keeps la (atw ea);have r2:Vals (V.ref a::vs) (Value.ref a::us):=.cons rfl r;have hlen:(Value.ref a::us++[]).length=ps.length:=by
  rw[List.append_nil,← r2.length];exact F.len _ _ _ _ q1
 have bb:=hb _ (Value.ref a::us) I2.kIn hlen;rw[List.append_nil] at bb;refine wpAny_call (codeAny_mono (F.run _ X.stack _ _ ⟨Value.ref a::us,[]⟩ (Value.ref a::us) _ _ E0 (hr.make C us []) (I2.env0.make C us []) bb r2 q1) fun rr s' hq'=>?_);cases rr with
 | error ev=>exact hq'.elim
 | ok fl =>
  cases fl with
  | ret u =>
   obtain⟨v,H',I3,rv,ev,q3⟩:=I2.after hq';subst ev;exact⟨rv,⟨V.ref a,H',I3,rfl,q3⟩⟩
  | next=>exact False.elim hq'
  | brk=>exact False.elim hq'
  | cont=>exact False.elim hq'
end
section
variable {P:Program}{w:World}{K:PySem.W.Frag}{mg:Str->Option Value}{base:Heap}{Nm:List Str}{qual:Str}{scope:Scope}{f:Addr}{cd:Value}{A:Around}{outer:List Env}{s0:Shared}{H0:Hp}{E:XK}
def tRaise (K:PySem.W.Frag) (E:XK) (t:TE):TS:=fun _ σ H=>t σ H fun v H1=>∃ (e C N dd:Addr) (bm:List Value) (i:Option Value),v = .ref e/\H1 e=some (ExD e C dd)/\xcIn K C N bm i=true/\bm.contains (.type "BaseException")=true /\
 ∀ T,H1 T=none->E (.ref C) (some dd) (upd (upd H1 e (ExC e (.ref C) (some dd))) T (AnyO T))
theorem aeu {ec:Expr}{pos:Pos}{t:TE}(he:PE (cxOf (CXe P w) P w K mg base Nm qual scope f cd A outer s0 H0 E) ec t):PS (cxOf (CXe P w) P w K mg base Nm qual scope f cd A outer s0 H0 E) (.Raise (some ec) none pos) (tRaise K E t):=by
 intro pins s σ H D I h;rw[arm_exec_Raise];refine wpAny_bind (wpAny_standAt ?_);refine avb (I.ok.hd rfl) (wpAny_bind (thn (he pins s σ H _ I h) fun u s1 z=>wpAny_bind (wpAny_standAt (wpAny_pure ?_))));obtain⟨v,H1,I1,rv,e,C,N,dd,bm,i,ev,hx,xc,hB,hE⟩:=z;subst ev;obtain rfl:u=Value.ref e:=rv;have xk:=au3 I1.kIn xc;obtain⟨nm,qn,bs,sn,sub,ab,col,ddc,k0,k1,k2,k3,k5,mN,cC,cN,ci⟩:=xk.ex;obtain⟨⟨t0,het⟩,_,_⟩:=I1.hok e _ hx;refine⟨e,_,_,C,N,bm,nm,qn,bs,true,sn,sub,ab,col,ddc,k0,k1,k2,k3,k5,_,rfl,cC,hB,het,rfl,rfl,rfl,?_⟩;have I2:=I1.write (x:=e) (e:=e) (o:=ExC e (.ref C) (some dd)) (h':=s1.heap) (t':=s1.toks) (by rw[hx];exact True.intro) (.inl rfl) (fun _ _ _ q=>q) ⟨_,het⟩ (at6 het rfl rfl rfl);refine asm (base:=base) (env:=envOfC qual scope s0.heap.objs.size f cd) (outer:=outer) (L:=s0.heap.objs.size) I1.ok.frames I1.stack rfl het rfl rfl fun h' T kp xa nT=>?_
 have te:(upd H1 e (ExC e (.ref C) (some dd))) e=some (ExC e (.ref C) (some dd)):=aaa;have hT:(upd H1 e (ExC e (.ref C) (some dd))) T=none:=I2.hok.fresh nT;have hT1:H1 T=none:=I1.hok.fresh nT;have ne:T≠e:=fun z=>by rw[z,te] at hT;cases hT
 exact⟨e,T,.ref C,some dd,_,rfl,I2.os,I2.bare,alg I2.base kp (fun b o q z=>at9 q z) (fun b z=>by rw[List.mem_singleton.mp z,te];simp) hT nT,aiw I2.hok kp I2.stkFree te (fun b z=>.inl (List.mem_singleton.mp z)) xa hT,xa,by rw[aac ne.symm];exact te,aaa,hE T hT1⟩
end
theorem arj {K:PySem.W.Frag}{M:Model}{A:Around}{E:Value->Shared->Prop}{s:Shared}{e:Addr}{oe:Obj}{cls c:Value}{b:Bool}{Q:Bool->Shared->Prop}(X:K.In s.heap) (he:s.heap.get? e=some oe) (hc:oe.cls=cls) (h:PySem.W.exmOne K cls c=some b) (q:Q b s) :
  wpAny M A (excMatches (.ref e) c) Q E s:=by
 obtain⟨L1,L2⟩:=PySem.W.exm_cls (M:=M) X h;have L3:=PySem.W.exm_ty (M:=M) X h;have L4:PySem.W.Looks M s.heap (typeOf (.ref e)) cls:=hc▸(PySem.W.Looks.ld he).andThen .now;unfold excMatches;refine wpAny_bind (L3.here ?_);simp only[Bool.false_eq_true,if_false];refine wpAny_bind (wpAny_pure ?_);simp only[List.forIn_cons,List.forIn_nil];refine wpAny_bind (wpAny_bind (wpAny_bind (L1.here ?_)));simp only[Bool.not_true,Bool.false_eq_true,if_false];refine wpAny_pure (wpAny_pure (wpAny_bind (L4.here (wpAny_bind (wpAny_bind (wpAny_bind (L2.here ?_)))))));cases b
 ·simp only[Bool.false_eq_true,if_false];exact wpAny_pure (wpAny_pure (wpAny_pure q))
 ·simp only[if_true];exact wpAny_pure (wpAny_pure (wpAny_pure q))
section
variable {X:Cx}{pins:List (Addr×Obj)}{σ:St}{H:Hp}{s:Shared}
theorem avq {M:Model}{A:Around}{E:Value->Shared->Prop}{j:Nat}{n:Str}{pos:Pos}{Q:Unit->Shared->Prop}(I:Inv X pins σ H s) (hN:X.N.Nodup) (hj:X.N[j]?=some n) (hl:X.env.scope.names.lookup n=some .local)
  (h:∀ s',Inv X pins (σ.set j none) H s'->Q () s'):wpAny M A (do bindName X.env n .none;unbindBehindTheSuite X.env n pos) Q E s:=by
 obtain⟨m,hn,hv⟩:=id I.loc;refine wpAny_nameGoes_keeps hl hn (by rw[I.ok.kind];rfl) fun h' v hn' sb=>h _ ?_
 have keep:∀ b o,b≠X.env.locals->s.heap.get? b=some o->h'.get? b=some o:=fun b o nb q=>(sb.2 b nb).trans q
 refine⟨I.ok,I.os,I.bare,?_,⟨_,hn',fun i x w hi hσ hvis=>?_⟩,fun x c hc=>?_,I.free,I.freeC,fun p hp=>?_,fun a o e=>?_,by rw[List.length_set];exact I.len⟩
 ·have neL:∀ b o,X.s₀.heap.get? b=some o->b≠X.env.locals:=fun b o e=>Nat.ne_of_lt (Nat.lt_of_lt_of_le (Heap.lt_size e) I.ok.above)
  refine⟨fun b o q z nf nx=>keep b o (neL b o q) (I.base.keep b o q z nf nx),fun b o q z hb nx=>?_,I.base.free,fun b o q nx=>?_,I.base.tups,I.base.frzs,I.base.tbls⟩
  ·obtain⟨sl,r⟩:=I.base.slot b o q z hb nx;exact⟨sl,keep b _ (neL b o q) r⟩
  ·obtain⟨o',r⟩:=I.base.there b o q nx;exact⟨o',keep b _ (neL b o q) r⟩
 ·by_cases ij:j=i
  ·subst ij;by_cases hlt:j<σ.length
   ·rw[List.getElem?_set_self hlt] at hσ;cases hσ
   ·rw[List.getElem?_eq_none (by rw[List.length_set];omega)] at hσ;cases hσ
  rw[List.getElem?_set_ne ij] at hσ;have xn:x≠n:=fun z=>by
   subst z;have l1:=(List.getElem?_eq_some_iff.mp hi);have l2:=(List.getElem?_eq_some_iff.mp hj);exact ij ((List.getElem_inj (hN)).mp (l2.2.trans l1.2.symm))
  obtain⟨u,ru,lk⟩:=hv i x w hi hσ hvis;refine⟨u,ru,?_⟩;rcases lk with⟨k1,k2⟩ | ⟨k1,c,k2,o,k3,k4⟩
  ·exact .inl ⟨k1,by show (if x=n then v else m x)=some u;rw[if_neg xn];exact k2⟩
  ·exact .inr ⟨k1,c,k2,o,keep c o (I.cne x c k2) k3,k4⟩
 ·obtain⟨v',o,k3,k4⟩:=I.cell x c hc;exact⟨v',o,keep c o (I.cne x c hc) k3,k4⟩
 ·obtain⟨a1,a2,a3,a4⟩:=I.pin p hp;exact⟨keep _ _ a3 a1,a2,a3,a4⟩
 ·refine (I.hok a o e).stay (fun b u hb q=>keep b u (fun z=>?_) q) (fun _ q=>q) fun _ _ q=>q
  have:=I.free;rcases hb with rfl | hb
  ·rw[z,this] at e;cases e
  ·rw[z,this] at hb;cases hb
abbrev Cx.marked (X:Cx) (e:Addr) (E:Value->Shared->Prop):Cx:={ X with A:=X.A.mark (some (.ref e)),calm:=false,xe:=E }
theorem Inv.marked (I:Inv X pins σ H s) (e:Addr) (E:Value->Shared->Prop):Inv (X.marked e E) pins σ H s:=by
 obtain⟨ok,a1,a2,a3,a4,a5,a6,a7,a8,a9,a10⟩:=I;obtain⟨b1,b2,b3,b4,b5,b6,b7,b8,b9,b10,b11,b12,b13,b14,b15,b16,b17,b18⟩:=ok;exact⟨⟨b1,b2,b3,b4,b5,b6,b7,b8,(fun z=>by cases z),b10,b11,b12,b13,b14,b15,b16,b17,b18⟩,a1,a2,a3,a4,a5,a6,a7,a8,a9,a10⟩
theorem Inv.unmarked {e:Addr}{E:Value->Shared->Prop}(ok:X.Ok) (I:Inv (X.marked e E) pins σ H s):Inv X pins σ H s:=by
 obtain⟨_,a1,a2,a3,a4,a5,a6,a7,a8,a9,a10⟩:=I;exact⟨ok,a1,a2,a3,a4,a5,a6,a7,a8,a9,a10⟩
end
theorem ast {X:Cx}{pins:List (Addr×Obj)}{σ:St}{H:Hp}{s:Shared}{h':Heap}{xs:List Addr}{e T:Addr}{C fl:Value}{od:Option Addr}(I:Inv X pins σ H s) (k:XKeep (frOf X.stack) xs s.heap h') (te:H e=some (ExC e C od)) (hx:∀ b∈xs,b=e\/H b=some (AnyO b)) (x:XAt h' e C od T fl) (hT:s.heap.objs.size<=T) :
  Inv X pins σ (upd H T (AnyO T)) { s with heap:=h' }:=by
 have nT:=I.hok.fresh hT;refine I.call (g':=s.gens) (d':=s.drawn) (t':=s.toks) (ch:=[]) (alg Un.refl k (fun b o _ z=>z) (fun b z=>?_) nT hT) (aiw I.hok k I.stkFree te hx x nT) I.bare (fun b z=>absurd z (by simp));rcases hx b z with y | y
 ·rw[y,te];simp
 ·rw[y];simp
theorem am5 {X:Cx}{pins:List (Addr×Obj)}{σ:St}{H:Hp}{s:Shared}{h':Heap}{T:Addr}(I:Inv X pins σ H s) (k:XKeep [] [T] s.heap h') (tT:H T=some (AnyO T)):Inv X pins σ H { s with heap:=h' }:=by
 obtain⟨⟨o,ho⟩,_⟩:=I.hok T _ tT;obtain⟨o',ho'⟩:=k.there T o ho;have J:=I.write (x:=T) (e:=T) (o:=AnyO T) (t':=s.toks) (by rw[tT];exact True.intro) (.inl rfl) (fun b u n q=>k.keep b u q (by simpa using n) (by simp)) ⟨_,ho'⟩ (al0 ho');rw[at2 tT] at J;exact J
section
variable {X:Cx}{P:Program}{w:World}{K:PySem.W.Frag}{k:Nat}{f CE:Addr}{fd:FuncData}{ps:List Str}{sp:Sp}{ta:TA}
def tTry (K:PySem.W.Frag) (CE:Addr) (i j l:Nat) (sp:Sp) (ta:TA):TS:=fun D σ H=>ta σ H fun vs H1=>sp vs H1 (fun v H2=>D.nx (σ.set i (some v)) H2)
 (fun C od H2=>∀ e T,H2 e=some (ExC e C od)->H2 T=none->PySem.W.exmOne K C (.ref CE)=some true/\D.nx (((σ.set j (some (.ref e))).set l (some (.ref e))).set j none) (upd H2 T (AnyO T)))
theorem asy {i j l:Nat}{fx g cx en ct:Str}{e0:Expr}{es:List Expr}{fp gp cpos ap cp tp ep sp' hp pos:Pos}{f:Addr}
  (F:FnOk X.prog X.w X.K X.mg X.base (CXe X.prog X.w) k f fd ps sp) (hr:Room k X.A) (hgf:Gl X g) (hmf:X.mg g=some (.ref f)) (hkf:PySem.W.keepIn X.K (.ref f)=true) (hb:aeg X.K fd ps []) (ha:PA X.nox (e0::es) ta)
  (hgc:Gl X cx) (hmc:X.mg cx=some (.ref CE)) (hN:X.N.Nodup) (hi:X.N[i]?=some fx) (hj:X.N[j]?=some en) (hl:X.N[l]?=some ct) (lf:Loc X.env.scope fx) (le:X.env.scope.names.lookup en=some .local) (lc:X.env.scope.names.lookup ct=some .local)
  (hff:X.fn fx=true) (hst:X.stack=X.env::X.outer) (hfl:X.env.frame=some X.env.locals) (hc:X.calm=true) (hex:X.ex=[])
  (hd1:(g == ("__debug__" : Str))=false:=by decide) (hd2:(cx == ("__debug__" : Str))=false:=by decide) (hd3:(en == ("__debug__" : Str))=false:=by decide) (hd4:(en == ("__classdict__" : Str))=false:=by decide)
  (he:starEach (e0::es) X.env=(false,eval e0 X.env)::starEach es X.env:=by rfl) (hpl:(backTo cpos (starEach es X.env)).any (·.1)=false:=by rfl)
  (hs1:swapsWith (.Call (.Name g gp) (e0::es) [] cpos) (some (.Name fx fp)) ap.line X.env=pure false:=by rfl) (hs2:swapsWith (.Name en ep) (some (.Name ct tp)) sp'.line X.env=pure false:=by rfl) :
  PS X (.Try [.Assign [.Name fx fp] (.Call (.Name g gp) (e0::es) [] cpos) ap] [.ExceptHandler (some (.Name cx cp)) (some en) [.Assign [.Name ct tp] (.Name en ep) sp'] hp] [] [] pos) (tTry X.K CE i j l sp ta):=by
 intro pins s σ H D I h;refine wpAny_Try_except ?_;refine wpAny_execs_cons (wpAny_Assign_Name (wpAny_Call_Name_kw (aec I hgf hmf ?_ hd1)) hs1);refine PySem.W.callWith_K (h₀:=X.base) I.ok.mod.kin hkf (wpAny_mono (ha cpos pins s σ H _ (I.wish _) h) (fun us s1 z=>?_) fun _ _ z=>z.elim) he hpl;obtain⟨vs,H1,I1w,r,q⟩:=z;have I1:Inv X pins σ H1 s1:=I1w.unwish;refine⟨I1.kIn,?_⟩;have hlen:(us++[]).length=ps.length:=by rw[List.append_nil,← r.length];exact F.len _ _ _ _ q
 have bb:=hb s1 us I1.kIn hlen;rw[List.append_nil] at bb;refine wpAny_call (codeAny_mono (F.run X.A X.stack s1 H1 ⟨us,[]⟩ us vs _ _ hr I1.env0 bb r q) fun rr s' hq=>?_);cases rr with
 | ok fl =>
  cases fl with
  | ret u =>
   obtain⟨v,H2,I2,rv,q2⟩:=I1.after hq;exact agn I2 hN hi lf rv (fun s3 I3=>wpAny_execs_nil (wpAny_execs_nil ⟨_,H2,I3,q2⟩)) (.inl hff)
  | next=>exact False.elim hq
  | brk=>exact False.elim hq
  | cont=>exact False.elim hq
 | error ev =>
  obtain⟨e,T,C,od,H2,rfl,hos,hbare,un,hok,xa,te,tT,hE⟩:=hq;have I2:Inv X pins σ H2 s':=I1.call' (ch:=[]) hos un hok hbare (fun b z=>absurd z (by simp));have frm:X.A.frames=some (X.env::X.outer):=by rw[← hst];exact I2.ok.frames
  refine aop (base:=X.base) frm (by rw[← hst];exact I2.stack) hfl xa fun h3 T3 kp3 x3 n3=>?_
  refine agp x3 fun h4 kp4 x4=>?_
  have nT3:=Heap.get?_none_of_le n3;have kp:XKeep (frOf X.stack) [e,T] s'.heap h4:=by
   rw[hst];refine⟨fun b o e1 n1 n2=>?_,fun b o e1 n1=>?_,fun b o e1=>?_⟩
   ·exact kp4.keep b o (kp3.keep b o e1 n1 n2) (fun z=>by simp at z;subst z;rw[nT3] at e1;cases e1) (by simp)
   ·obtain⟨y1,q1⟩:=kp3.slot b o e1 n1;exact⟨y1,kp4.keep b _ q1 (fun z=>by simp at z;subst z;rw[nT3] at e1;cases e1) (by simp)⟩
   ·obtain⟨o1,q1⟩:=kp3.there b o e1;exact kp4.there b o1 q1
  have hT3:H2 T3=none:=hok.fresh n3;have I4:Inv X pins σ (upd H2 T3 (AnyO T3)) { s' with heap:=h4 }:=ast I2 kp te (fun b z=>by
   rcases List.mem_cons.mp z with z | z
   ·exact .inl z
   ·rw[List.mem_singleton.mp z];exact .inr tT) x4 n3
  obtain⟨hm,hD⟩:=hE e T3 te hT3;obtain⟨oe,vs',oT,ts,he4,hc4,_⟩:=id x4.ex;refine wpAny_handleBy_cons (codeAny_handlers_test (aec (X:=X.marked e (notedBy (model X.prog X.w) (X.A.mark (some (.ref e))) X.env (cameBackBy (model X.prog X.w) X.A X.env X.xe))) (I4.marked e _) hgc hmc ?_ hd2)) (by intro z;cases z);refine arj I4.kIn he4 hc4 hm ?_;refine codeAny_handlers_suite_as (agp x4 fun h5 kp5 x5=>?_);have I5:=am5 (s:={ s' with heap:=h4 }) I4 kp5 aaa;refine agn (v:=V.ref e) I5 hN hj (Or.inl le) (show RelV (V.ref e) (Value.ref e) from rfl) (fun s6 I6=>?_) (.inr le);have hjl:j<σ.length:=by rw[I5.len];exact (List.getElem?_eq_some_iff.mp hj).1
  have suite:PSs (X.marked e (fun _ _=>False)) [.Assign [.Name ct tp] (.Name en ep) sp'] (tAsg (tVar j) (ac8 l)):=aah (aan (X:=X.marked e (fun _ _=>False)) (i:=l) hN hl (Or.inl lc) (ap2 (X:=X.marked e (fun _ _=>False)) hj (Or.inl le) hd3 hd4) hs2 (.inr lc));refine wpAny_mono (suite pins s6 _ _ { nx:=fun σ' H'=>σ'=((σ.set j (some (.ref e))).set l (some (.ref e)))/\H'=upd H2 T3 (AnyO T3),rt:=fun _ _=>False } (I6.marked e (fun _ _=>False)) ⟨.ref e,by rw[List.getElem?_set_self hjl],rfl,rfl⟩) (fun fl s7 z=>?_) fun _ _ z=>z.elim
  cases fl with
  | next =>
   obtain⟨σ7,H7,I7,rfl,rfl⟩:=z;exact avq (I7.unmarked I.ok) hN hj le fun s8 I8=>⟨_,_,I8,hD⟩
  | ret u=>obtain⟨_,_,_,_,_,z⟩:=z;exact z.elim
  | brk=>obtain⟨_,_,_,z⟩:=z;exact z.elim
  | cont=>obtain⟨_,_,_,z⟩:=z;exact z.elim
end
end L2
namespace PySem.W
open PySem PySem.Calls PyProof.Rows Builtin Builtin.ObjectAttr
structure XFacts (K:Frag) (C:Addr):Prop where
 ga:findIn K (.ref C) "__getattribute__" = some (some (.builtin "BaseException.__getattribute__"))
 gh:findIn K (.ref C) "__getattr__" = some none
 mb:mroIn K C (.type "BaseException")=some true
 mo:mroIn K C (.type "object")=some true
 cl:findIn K (.ref C) "__class__" = some (some (.builtin "object.__class__"))
 cg:specialIn K (.builtin "object.__class__") "__get__" = some (some (.builtin "getset_descriptor.__get__"))
 ct:takesIn K (.builtin "object.__class__")=some true
section
variable {prog:Program}{w:World}{A:Around}{E:Value->Shared->Prop}{s:Shared}{K:Frag}{x C:Addr}{ox:Obj}{od:Option Obj}
theorem XFacts.cls (F:XFacts K C):∃ cd,clsIn K C=some cd:=by
 have:=F.mb;unfold mroIn at this;cases h:clsIn K C with
 | none=>rw[h] at this;cases this
 | some cd=>exact⟨cd,rfl⟩
theorem aur {Q:Option Value->Shared->Prop}(F:XFacts K C) (X:K.In s.heap) (I:InstAt s.heap x ox C od) (h:Q (some (.ref C)) { s with toks:=s.toks+1 }):wpAny (model prog w) A (getAttr? (.ref x) "__class__") Q E s:=by
 obtain⟨hp,g,d,t,os⟩:=s;obtain⟨cd,hcd⟩:=F.cls;have hf:findObj K C od "__class__" = some (.bind (.builtin "getset_descriptor.__get__") (.builtin "object.__class__")):=by
  unfold findObj;rw[hcd,F.cl];simp only[Option.bind_some,F.cg,F.ct]
 have L0:=I.type (M:=model prog w);have L1:=looks_findIn (M:=model prog w) X F.ga;have L2:Looks (model prog w) hp (hookBefore (.ref C)) none:=looks_hook X F.gh;have L3:=looks_find (M:=model prog w) X I hf;have L4:Looks (model prog w) hp (isInstance (.ref x) (.type "BaseException")) true:=L0.andThen (looks_mroIn X F.mb);have nb:(onTheHeap (Value.ref C)&&Value.builtin "BaseException.__getattribute__" == Value.builtin "object.__getattribute__")=false:=by
  rw[show (Value.builtin "BaseException.__getattribute__" == Value.builtin "object.__getattribute__")=false by decide +kernel];rfl
 unfold getAttr? getAttrBy? getAttrBy;refine wpAny_bind (wpAny_mkText (wpAny_bind (wpAny_attempt (wpAny_holding (wpAny_bind (L0.at (wpAny_bind (L1.at ?_))))))));simp only[nb,Bool.false_eq_true,if_false];unfold getAttrByItsOwn;refine wpAny_bind (L2.at (wpAny_bind (wpAny_attempt (wpAny_holding ?_))));unfold callGetattribute;simp only[Bool.false_and,Bool.false_eq_true,if_false];unfold boundAndCalled;rw[PySem.F.excAttr_ValueError.ga.bind];refine wpAny_bind (wpAny_pure ?_);show wpAny _ _ (call (Value.builtin "BaseException.__getattribute__") [Value.ref x,Value.str "__class__" t]) _ _ _;refine wpAny_call (codeAny_call_builtin PySem.F.excAttr_ValueError.ga.plain PySem.F.entry_bexc_ga (@check_slot (model prog w) _ _ ⟨hp,g,d,t+1,os⟩ "BaseException.__getattribute__" "BaseException" "__getattribute__" (.ref x) [.str "__class__" t] [] _ amp ako L4 (PySem.F.args_bexc_ga (.ref x) (.str "__class__" t)) ?_));unfold Builtin.«object.__getattribute__»;rw[ara];refine wpAny_bind (wpAny_pure ?_);show wpAny _ _ (attrName (Value.str "__class__" t) >>= _) _ _ _;rw[show attrName (Value.str "__class__" t)=pure "__class__" from rfl];refine wpAny_bind (wpAny_pure (wpAny_bind (L0.at (wpAny_bind (L3.at ?_)))));show wpAny _ _ (bindTo (.builtin "getset_descriptor.__get__") (.builtin "object.__class__") (.ref x) (.ref C)) _ _ _;unfold bindTo;refine wpAny_bind (wpAny_holding (wpAny_call (class_get X I F.mo ?_)));refine wpAny_pure ?_;show wpAny _ _ (handedOut (.ref C)) _ _ _;exact wpAny_pure (wpAny_pure h)
theorem aip {K:Frag}{C:Addr}{cd:ClassData}(h:clsIn K C=some cd):∃ c dd sl,K.lookup C=some ⟨c,dd,.cls cd,sl⟩:=by
 unfold clsIn at h;cases ho:List.lookup C K with
 | none=>rw[ho] at h;cases h
 | some o =>
  rw[ho] at h;obtain⟨c,dd,da,sl⟩:=o;cases da<;>first | (cases h;done) | skip
  cases h;exact⟨c,dd,sl,rfl⟩
theorem kitx_exc (F:XFacts K C):KitX K (.ref x) (.ref C) (fun h=>∃ ox od,InstAt h x ox C od) where
 ty:=fun _ _ _ ⟨_,_,I⟩=>I.type
 it:=fun _ _ X _=>by
  obtain⟨cd,hc⟩:=F.cls;obtain⟨_,_,_,ho⟩:=aip hc;intro A' Q' E' s' k q;unfold isType loadHead;exact wpAny_bind (wpAny_loadPart (k _ _ (X _ _ ho)) (wpAny_pure q))
 ne:=fun h tp dd its n sl X htp=>by
  obtain⟨cd,hc⟩:=F.cls;refine Bool.eq_false_iff.mpr fun q=>?_
  obtain rfl:C=tp:=Value.ref.inj (beq_iff_eq.mp q);obtain⟨_,_,_,ho⟩:=aip hc;have z:=(X _ _ ho).symm.trans htp;cases z
 ca:=fun X ⟨_,_,I⟩ k=>aur F X I k
end
end PySem.W
namespace L2
open PySem PySem.Spec PyProof.Rows
section
variable {X:Cx}
theorem amf {P:Program}{w:World}{H:Hp}{h:Heap}{e C:Addr}{od:Option Addr}(hok:HOk P w H h) (he:H e=some (ExC e (.ref C) od)) (hd:∀ dd,od=some dd->∃ fs,H dd=some (.xd fs)):∃ ox odo,PySem.W.InstAt h e ox C odo:=by
 obtain⟨⟨oe,vs,h1,h2,h3,h4⟩,_⟩:=hok e _ he;cases od with
 | none=>exact⟨oe,none,h1,h2,by unfold PySem.W.notCls;rw[h4],by rw[h3];trivial⟩
 | some dd =>
  obtain⟨fs,hx⟩:=hd dd rfl;obtain⟨mA,⟨o,es,ep,e1,_⟩,_⟩:=hok dd _ hx;exact⟨oe,some o,h1,h2,by unfold PySem.W.notCls;rw[h4],by rw[h3];exact e1⟩
def rIsx (K:PySem.W.Frag):List V->Hp->VK->Prop:=fun xs H Q=>∃ (e C:Addr) (od:Option Addr) (c:V) (cv:Value) (b:Bool),xs=[.ref e,c]/\((∃ a,c = .ref a/\cv = .ref a)\/∃ n,c = .ty n/\cv = .type n)/\H e=some (ExC e (.ref C) od)/\(∀ dd,od=some dd->∃ fs,H dd=some (.xd fs))/\PySem.W.XFacts K C/\PySem.W.kitOne K (.ref C) cv=some b/\Q (.bl b) H
theorem as2:ab6 X (.builtin "isinstance") (rIsx X.K):=by
 intro pins s σ H xs us Q I r h;obtain⟨e,C,od,c,cv,b,rfl,rc,he,hd,F,hk,q⟩:=h;obtain⟨u,w',rfl,r1,r2⟩:=am6 r;cases r1;obtain rfl:w'=cv:=by
  rcases rc with⟨a,rfl,rfl⟩ | ⟨n,rfl,rfl⟩
  ·exact r2
  ·exact r2
 exact PySem.W.kia_one (PySem.W.kitx_exc F) I.kIn (amf I.hok he hd) hk (fun z=>nomatch z) fun tk=>⟨.bl b,H,I.tok _,rfl,q⟩
theorem aj3:∀ {as:List Addr}{us:List Value},Vals (as.map V.ref) us->us=as.map Value.ref
 | [],_,r=>by cases r;rfl
 | a::as,_,r=>by
  cases r with
  | cons r1 r2 =>
   cases r1;rw[aj3 r2];rfl
def rIsxT (K:PySem.W.Frag):List V->Hp->VK->Prop:=fun xs H Q=>∃ (e C tp:Addr) (od:Option Addr) (as:List Addr) (b:Bool),xs=[.ref e,.ref tp]/\H tp=some (.tup (as.map V.ref))/\H e=some (ExC e (.ref C) od)/\(∀ dd,od=some dd->∃ fs,H dd=some (.xd fs))/\PySem.W.XFacts K C/\PySem.W.kitAny K (.ref C) (as.map Value.ref)=some b/\Q (.bl b) H
theorem aqt:ab6 X (.builtin "isinstance") (rIsxT X.K):=by
 intro pins s σ H xs us Q I r h;obtain⟨e,C,tp,od,as,b,rfl,ht,he,hd,F,hk,q⟩:=h;obtain⟨u,w',rfl,r1,r2⟩:=am6 r;cases r1;cases r2;obtain⟨_,its,rv,⟨o,e1,e2,n,e3⟩,_⟩:=I.hok tp _ ht;obtain⟨oc,od',odt,osl⟩:=o;simp only at e2 e3;subst e2 e3;rw[aj3 rv] at e1;exact PySem.W.kia_tup (PySem.W.kitx_exc F) I.kIn (amf I.hok he hd) e1 hk (fun z=>nomatch z) fun tk=>⟨.bl b,H,I.tok _,rfl,q⟩
theorem ahx {h:Heap}{a:Addr}{mA:Str->Option Value}{o:Obj}{name:Str}{u:Value}(hn:h.Ns1 a mA) (ho:h.get? a=some o) (hu:mA name=some u):PySem.W.lookIn name o=some (some u):=by
 obtain⟨o',es,ep,e1,e2,e3,e4,e5⟩:=hn;rw[ho] at e1;cases e1;have z:=e5 name;rw[hu] at z;unfold nsFind findBy at z;rw[← Array.find?_toList] at z;unfold PySem.W.lookIn;rw[e2];cases hf:es.toList.find? (fun e=>e.key.isStr name) with
 | none=>rw[hf] at z;cases z
 | some en=>rw[hf] at z;simp only[Option.map_some,Option.some.injEq] at z;simp only[hf,z]
theorem aio {v:V}{u:Value}(r:RelV v u):PySem.W.handedIn u=true:=by
 cases v with
 | non=>cases r;rfl
 | bl _=>cases r;rfl
 | int _=>obtain⟨t,rfl⟩:=r;rfl
 | str _=>obtain⟨t,rfl⟩:=r;rfl
 | byt _=>obtain⟨t,rfl⟩:=r;rfl
 | flt _=>obtain⟨t,rfl⟩:=r;rfl
 | ref _=>cases r;rfl
 | ty _=>cases r;rfl
def atd (K:PySem.W.Frag) (te:TE) (f:Str):TE:=fun σ H Q=>te σ H fun x H1=>∃ (e C N dd:Addr) (bm:List Value) (i:Option Value) (fs:List (Str×V)) (v:V),x = .ref e/\H1 e=some (ExC e (.ref C) (some dd))/\H1 dd=some (.xd fs)/\fs.lookup f=some v/\PySem.W.XFacts K C/\xcIn K C N bm i=true/\PySem.W.findIn K (.ref C) f=some none/\Q v H1
theorem ash {e:Expr}{te:TE}{f:Str}{pos:Pos}(he:PE X e te) (hb:attributeBase e f X.env (eval e X.env)=eval e X.env):PE X (.Attribute e f pos) (atd X.K te f):=by
 intro pins s σ H Q I h;refine Attribute_any_ (thn (he pins s σ H _ I h) fun u s1 hz=>?_) (by rw[arm_eval_Attribute,hb]);obtain⟨x,H1,I1,rx,ea,C,N,dd,bm,i,fs,v,ex,h1,h2,h3,F,xc,fn,q⟩:=hz;subst ex;obtain rfl:u=Value.ref ea:=rx;obtain⟨⟨oe,vs,g1,g2,g3,g4⟩,_⟩:=I1.hok ea _ h1;obtain⟨mA,hns,hrel⟩:=I1.hok dd _ h2;have hr:=hrel f;rw[h3] at hr;obtain⟨y,ey,ry⟩:=hr.some_of;obtain⟨o,es,ep,e1,erest⟩:=id hns;have lk:=ahx hns e1 ey;obtain⟨cd,hcl,hdi,hmr⟩:=afv xc;have inst:PySem.W.InstAt s1.heap ea oe C (some o):=⟨g1,g2,by unfold PySem.W.notCls;rw[g4],by rw[g3];exact e1⟩;have hf:PySem.W.findObj X.K C (some o) f=some (.value y):=by
  unfold PySem.W.findObj PySem.W.ownOf;rw[hcl,fn];simp only[Option.bind_some,hdi,if_true,lk]
 exact PySem.W.x_attr I1.kIn inst F.ga F.gh F.mb hf (aio ry) ⟨v,H1,I1.tok _,ry,q⟩
end
def lcOk (N:List Str) (kind:Str->Option NameKind) (scope:Scope) (T capN:List Str) (caps:List Nat):Bool :=
 scope.names.all (fun p=>p.2 != .cell)&&scope.names.all (fun p=>p.2 != .free||kind p.1 == some .cell) &&
 scope.names.all (fun p=>p.2 != .local||scope.names.lookup p.1 == some .local) &&
 (capN.zip caps).all (fun p=>decide (N[p.2]?=some p.1)&&scope.names.lookup p.1 == some .free)&&capN.length == caps.length
def lcs (T:List Str) (caps:List Nat) (σ:St):St:=T.map (fun _=>none)++caps.map (fun i=>(σ[i]?).join)
def lcx (X:Cx) (N':List Str) (scope:Scope) (cl:List (Str×Addr)) (C:Addr) (s₀:Shared) (H₀:Hp) (fp:List Addr):Cx :=
 { prog:=X.prog,w:=X.w,K:=X.K,mg:=X.mg,base:=X.base,A:=X.A,N:=N',s₀:=s₀,H₀:=H₀,env:=compEnvC scope cl C X.env,outer:=X.stack,stack:=X.stack,ex:=fp, fn:=fun x=>(cl.lookup x).isNone,calm:=X.calm,pn:=[],xe:=fun _ _=>False }
def PIfs (X:Cx) (ifs:List Expr) (t:TT):Prop :=
 ∀ (pins:List (Addr×Obj)) (s:Shared) (σ:St) (H:Hp) (Q:Bool->Hp->Prop),Inv X pins σ H s->t σ H Q ->
  wpAny (model X.prog X.w) X.A (forIn ifs true fun c r=>if r=true then do let ok ← isTrue c X.env (eval c X.env);pure (ForInStep.yield ok) else pure (ForInStep.yield r)) (TP X pins σ Q) X.xe s
def tYes:TT:=fun _ H Q=>Q true H
theorem acd {X:Cx}:PIfs X [] tYes:=fun pins s σ H Q I h=>wpAny_tests_nil ⟨H,I,h⟩
theorem ams {X:Cx}{c:Expr}{t:TT}(h:PT X c t):PIfs X [c] t:=fun pins s σ H Q I hw=>wpAny_tests_one (h pins s σ H Q I hw)
def LCW (T:List Str) (caps:List Nat) (J:It) (g:TG) (tt:TT) (te:TE) (σ:St) (H1:Hp) (Q:VK) (D:Addr):Prop :=
 ∃ W:Nat->Nat->List V->St->Hp->Prop,(∃ m,W 0 m [] (lcs T caps σ) (upd H1 D (.lst [])))/\∀ i m ys σ' H',W i m ys σ' H' ->
  (J.stop i H'/\Q (.ref D) H')\/(J.go i H'/\∃ (N:St->V->Hp->Prop) (F:St->Hp->Prop),(∀ σ2 v H5,N σ2 v H5->H5 D=some (.lst ys)/\ys.length<sizeLine/\∃ m',m'<m/\W (i+1) m' (ys++[v]) σ2 (upd H5 D (.lst (ys++[v]))))/\(∀ σ2 H4,F σ2 H4->∃ m',m'<m/\W (i+1) m' ys σ2 H4) /\ ∀ x H2,J.yld i H' x H2->g x σ' H2 fun σ2 H3=>tt σ2 H3 fun b H4=>if b=true then te σ2 H4 (N σ2) else F σ2 H4)
def tLC (T:List Str) (caps:List Nat) (wi:TI) (g:TG) (tt:TT) (te:TE):TE:=fun σ H Q=>wi σ H fun J H1=>∀ D,H1 D=none->LCW T caps J g tt te σ H1 Q D
theorem afz {env:Env}:∀ (names:List (Str×NameKind)) (acc:List (Str×Addr)),(∀ p∈names,p.2 = .free->∃ c,env.cells.lookup p.1=some c) ->
  (∀ x c,acc.lookup x=some c->env.cells.lookup x=some c) ->
  ∃ cl,(forIn names acc fun x r=>if (x.2 == NameKind.free)=true then (cellOf env x.1 >>= fun a=>pure (ForInStep.yield ((x.1,a)::r))) else pure (ForInStep.yield r):Sem (List (Str×Addr)))=pure cl /\
   (∀ x c,cl.lookup x=some c->env.cells.lookup x=some c)/\(∀ x,(x,NameKind.free)∈names->(cl.lookup x).isSome=true)/\(∀ x,(acc.lookup x).isSome=true->(cl.lookup x).isSome=true)
 | [],acc,_,ha=>⟨acc,rfl,ha,fun x h=>by simp at h,fun _ h=>h⟩
 | (n,k)::r,acc,hf,ha=>by
  by_cases hk:k = .free
  ·subst hk;obtain⟨c,hc⟩:=hf (n,.free) List.mem_cons_self rfl;have ha':∀ x c',((n,c)::acc).lookup x=some c'->env.cells.lookup x=some c':=by
    intro x c' h;rw[List.lookup_cons] at h;cases e:x == n with
    | true=>rw[e] at h;have:=beq_iff_eq.mp e;subst this;cases h;exact hc
    | false=>rw[e] at h;exact ha x c' h
   obtain⟨cl,e1,h1,h2,h3⟩:=afz r ((n,c)::acc) (fun p hp=>hf p (List.mem_cons_of_mem _ hp)) ha';have hn:(((n,c)::acc).lookup n).isSome=true:=by rw[List.lookup_cons];simp
   refine⟨cl,?_,h1,fun x hx=>?_,fun x hx=>h3 x ?_⟩
   ·rw[List.forIn_cons];simp only[beq_self_eq_true,if_true];have:cellOf env n=pure c:=by unfold cellOf;rw[hc]
    rw[this];exact e1
   ·rcases List.mem_cons.mp hx with q | q
    ·cases q;exact h3 _ hn
    ·exact h2 x q
   ·rw[List.lookup_cons];cases e:x == n with
    | true=>rfl
    | false=>exact hx
  ·obtain⟨cl,e1,h1,h2,h3⟩:=afz r acc (fun p hp=>hf p (List.mem_cons_of_mem _ hp)) ha;refine⟨cl,?_,h1,fun x hx=>?_,h3⟩
   ·rw[List.forIn_cons];have:(k == NameKind.free)=false:=by simpa using hk
    simp only[this,Bool.false_eq_true,if_false];exact e1
   ·rcases List.mem_cons.mp hx with q | q
    ·cases q;exact absurd rfl hk
    ·exact h2 x q
theorem afh {scope:Scope}{env:Env}(hf:∀ p∈scope.names,p.2 = .free->∃ c,env.cells.lookup p.1=some c) :
  ∃ cl,closureFor scope env=pure cl/\(∀ x c,cl.lookup x=some c->env.cells.lookup x=some c)/\(∀ x,(x,NameKind.free)∈scope.names->(cl.lookup x).isSome=true):=by
 obtain⟨cl,e,h1,h2,_⟩:=afz (env:=env) scope.names [] hf (fun x c h=>by simp at h);refine⟨cl,?_,h1,h2⟩;simp only[closureFor];have e':(forIn scope.names [] fun x r=>if (x.2 == NameKind.free)=true then (cellOf env x.1 >>= fun a=>pure (ForInStep.yield ((x.1,a)::r))) else pure (ForInStep.yield r):Sem (List (Str×Addr)))=pure cl:=e
 first
  | exact e'
  | (simp only[bind_pure];exact e')
theorem adm {scope:Scope}{env:Env}{x:Str}{k:NameKind}(h:scope.names.lookup x=some k):∃ k',(relabel scope env).names.lookup x=some k'/\(k'=k\/(k = .free/\k' = .cell)):=by
 have:∀ names:List (Str×NameKind),names.lookup x=some k->∃ k',(names.map fun (p:Str×NameKind)=>match p with | (n,k)=>if (k == NameKind.free&&env.scope.kind == .function&&env.kindOf n == some .cell) then (n,NameKind.cell) else (n,k)).lookup x=some k'/\(k'=k\/(k = .free/\k' = .cell)):=by
  intro names;induction names with
  | nil=>intro h;simp at h
  | cons p r ih =>
   obtain⟨n,k0⟩:=p;intro h;rw[List.map_cons];by_cases hc:(k0 == NameKind.free&&env.scope.kind == .function&&env.kindOf n == some .cell)=true
   ·simp only[hc,if_true];rw[List.lookup_cons] at h ⊢;cases e:x == n with
    | true =>
     rw[e] at h;cases h;have:k=NameKind.free:=by
      have:=(Bool.and_eq_true _ _).mp ((Bool.and_eq_true _ _).mp hc).1;exact beq_iff_eq.mp this.1
     exact⟨_,rfl,.inr ⟨this,rfl⟩⟩
    | false=>rw[e] at h;exact ih h
   ·simp only[hc,if_false];rw[if_neg (by simp)];rw[List.lookup_cons] at h ⊢;cases e:x == n with
    | true=>rw[e] at h;cases h;exact⟨_,rfl,.inl rfl⟩
    | false=>rw[e] at h;exact ih h
 exact this scope.names h
theorem ad9 {scope:Scope}{env:Env}{x:Str}{k:NameKind}(h:(relabel scope env).names.lookup x=some k) (hk:k = .cell\/k = .free) (hc:∀ p∈scope.names,p.2 ≠ .cell):scope.names.lookup x=some .free:=by
 cases e:scope.names.lookup x with
 | none =>
  exfalso;have:∀ names:List (Str×NameKind),names.lookup x=none->(names.map fun (p:Str×NameKind)=>match p with | (n,k)=>if (k == NameKind.free&&env.scope.kind == .function&&env.kindOf n == some .cell) then (n,NameKind.cell) else (n,k)).lookup x=none:=by
   intro names;induction names with
   | nil=>intro _;rfl
   | cons p r ih =>
    obtain⟨n,k0⟩:=p;intro h;rw[List.map_cons];have h2:(x == n)=false/\r.lookup x=none:=by
     rw[List.lookup_cons] at h;cases e:x == n with
     | true=>rw[e] at h;cases h
     | false=>rw[e] at h;exact⟨rfl,h⟩
    dsimp only;split<;>(rw[List.lookup_cons,h2.1];exact ih h2.2)
  have q:=this scope.names e;have h':(relabel scope env).names.lookup x=none:=q;rw[h'] at h;cases h
 | some k0 =>
  obtain⟨k',e1,e2⟩:=adm (env:=env) e;rw[h] at e1;cases e1;have hm:=PySem.mem_of_lookup e;rcases e2 with q | ⟨q,_⟩
  ·subst q;rcases hk with z | z
   ·subst z;exact absurd rfl (hc _ hm)
   ·rw[z]
  ·rw[q]
theorem ac9 {prog:Program}{w:World}{A:Around}{R:Result->Shared->Prop}{s:Shared}{elt target iter:Expr}{ifs:List Expr}{scope:Scope}{pos:Pos}{it acc:Value}{env:Env}(I:Nat->Shared->Prop)
  (turn:∀ n s,I n s->wpAny (model prog w) A (pyNext it) (fun r s₁=>match r with
   | none=>R (.ok .next) s₁
   | some v=>wpAny (model prog w) A (letOwnedTupleGo target it v) (fun _ s₁'=>wpAny (model prog w) A (assign target env v) (fun _ s₂ =>
     wpAny (model prog w) A (forIn ifs true fun c r=>if r=true then do let ok ← isTrue c env (eval c env);pure (ForInStep.yield ok) else pure (ForInStep.yield r)) (fun ok s₃ =>if ok=true then wpAny (model prog w) A (eval elt env) (fun x s₄ =>wpAny (model prog w) A (call (.builtin "list.append") [acc,x]) (fun _ s₅=>∃ m,m<n/\I m s₅) (fun _ _=>False) s₄) (fun _ _=>False) s₃ else ∃ m,m<n/\I m s₃) (fun _ _=>False) s₂) (fun _ _=>False) s₁') (fun _ _=>False) s₁) (fun _ _=>False) s)
  (n:Nat) (h:I n s) :
  codeAny (model prog w) A (.compLoop (.ListComp elt [⟨target,iter,ifs,0⟩] scope pos) 0 it acc env) R s:=by
 refine codeAny_loop rfl I (fun n s hI=>?_) n h;show wpAny _ A ((compTurn (.ListComp elt [⟨target,iter,ifs,0⟩] scope pos) 0 it acc env).onRaise (fun x=>do noteFrame x env;theTreesLotGoes x)) _ _ s;refine wpAny_noted ?_;rw[compTurn_list];refine wpAny_bind (wpAny_standAt (wpAny_bind (wpAny_mono (turn n s hI) (fun r s₁ h₁=>?_) fun _ _ h'=>h'.elim)));cases r with
 | none=>exact wpAny_pure h₁
 | some v =>
  refine wpAny_bind (wpAny_mono h₁ (fun _ s₁' h₁'=>?_) fun _ _ h'=>h'.elim);refine wpAny_bind (wpAny_mono h₁' (fun _ s₂ h₂=>wpAny_bind (wpAny_mono h₂ (fun ok s₃ h₃=>?_) fun _ _ h'=>h'.elim)) fun _ _ h'=>h'.elim);cases ok with
  | false=>exact wpAny_pure ⟨rfl,h₃⟩
  | true =>
   exact wpAny_bind (wpAny_bind (wpAny_mono h₃ (fun x s₄ h₄=>wpAny_bind (wpAny_mono h₄ (fun _ s₅ h₅=>wpAny_pure (wpAny_pure ⟨rfl,h₅⟩)) fun _ _ h'=>h'.elim)) fun _ _ h'=>h'.elim))
structure LcOk (N:List Str) (kind:Str->Option NameKind) (scope:Scope) (capN:List Str) (caps:List Nat):Prop where
 nocell:∀ p∈scope.names,p.2 ≠ .cell
 free:∀ p∈scope.names,p.2 = .free->kind p.1=some .cell
 loc:∀ p∈scope.names,p.2 = .local->scope.names.lookup p.1=some .local
 cap:∀ (j:Nat) (x:Str),capN[j]?=some x->∃ i:Nat,caps[j]?=some i/\N[i]?=some x/\scope.names.lookup x=some .free
 len:capN.length=caps.length
theorem aqw {N:List Str}{kind:Str->Option NameKind}{scope:Scope}{T capN:List Str}{caps:List Nat}(h:lcOk N kind scope T capN caps=true):LcOk N kind scope capN caps:=by
 unfold lcOk at h;simp only[Bool.and_eq_true] at h;obtain⟨⟨⟨⟨h1,h2⟩,h3⟩,h4⟩,h5⟩:=h;have hl:capN.length=caps.length:=beq_iff_eq.mp h5;refine⟨fun p hp=>?_,fun p hp e=>?_,fun p hp e=>?_,fun j x e=>?_,hl⟩
 ·simpa using List.all_eq_true.mp h1 p hp
 ·have:=List.all_eq_true.mp h2 p hp;rw[e] at this
  simpa using this
 ·have:=List.all_eq_true.mp h3 p hp;rw[e] at this
  simpa using this
 ·have hj:j<capN.length:=(List.getElem?_eq_some_iff.mp e).1;have e2:caps[j]?=some (caps[j]'(by omega)):=List.getElem?_eq_getElem (by omega);have hm:(x,caps[j]'(by omega))∈capN.zip caps:=by
   refine List.mem_of_getElem? (i:=j) ?_;rw[List.getElem?_zip_eq_some];exact⟨e,e2⟩
  have:=List.all_eq_true.mp h4 _ hm;simp only[Bool.and_eq_true,decide_eq_true_eq,beq_iff_eq] at this;exact⟨_,e2,this.1,this.2⟩
section
variable {X:Cx}
set_option maxHeartbeats 1000000 in
theorem agy {elt tg iter:Expr}{ifs:List Expr}{scope:Scope}{pos:Pos}{wi:TI}{g:TG}{tt:TT}{te:TE}(T capN:List Str) (caps:List Nat) (hc:X.calm=true) (hi:PI X tg iter wi)
  (hk:scope.kind = .function) (ho:lcOk X.N X.env.kindOf scope T capN caps=true)
  (hg:∀ s₀ H₀ C cl fp,PG (lcx X (T++capN) scope cl C s₀ H₀ fp) tg g)
  (ht:∀ s₀ H₀ C cl fp,PIfs (lcx X (T++capN) scope cl C s₀ H₀ fp) ifs tt)
  (he:∀ s₀ H₀ C cl fp,PE (lcx X (T++capN) scope cl C s₀ H₀ fp) elt te)
  (hs:∀ x,foldedSetIterable iter X.env x=pure x:=by intro _;rfl) :
  PE X (.ListComp elt [⟨tg,iter,ifs,0⟩] scope pos) (tLC T caps wi g tt te):=by
 intro pins s σ H Q I h;have O:=aqw ho;have hfree:∀ p∈scope.names,p.2 = .free->∃ c,X.env.cells.lookup p.1=some c:=fun p hp e=>I.ok.has p.1 (.inl (O.free p hp e))
 obtain⟨cl,hclos,cl1,cl2⟩:=afh hfree;rw[eval_ListComp];refine wpAny_comprehension_free (use:=none) rfl hs hclos hk O.loc (thn (hi pins s σ H _ I h) fun v s1 h1=>thn h1 fun itv s2 h2=>?_);obtain⟨it,fp,tn,J,H2,rfl,I2,TT',st2,f2,hD⟩:=h2;refine wpAny_newObj_type ?_;have I3:Inv X pins σ (upd H2 s2.heap.objs.size (.lst [])) { s2 with heap:=s2.heap.push { cls:=.type "list",data:=.seq ([]:List Value).toArray } }:=I2.lnew (t':=s2.toks) (its:=[]) (ys:=[]) .nil (Nat.zero_le _);have fD:H2 s2.heap.objs.size=none:=I2.fresh;obtain⟨W,⟨m0,w0⟩,turn⟩:=hD s2.heap.objs.size fD;generalize hDd:s2.heap.objs.size=D at I3 fD w0 turn ⊢;have st3:tn 0 (s2.heap.push { cls:=.type "list",data:=.seq ([]:List Value).toArray }):=TT'.keep _ _ _ st2 fun b _ o e=>Heap.get?_push_of_some _ e
 have hfpD:∀ b∈fp,b<D:=fun b hb=>by
  obtain⟨o,e,_⟩:=TT'.obj _ _ st2 b hb;rw[← hDd];exact Heap.lt_size e
 generalize hs3:({ s2 with heap:=s2.heap.push { cls:=.type "list",data:=.seq ([]:List Value).toArray } }:Shared)=s3 at I3 ⊢;have st3':tn 0 s3.heap:=by rw[← hs3];exact st3
 generalize hH3:upd H2 D (.lst [])=H3 at I3 w0;have f3:∀ b∈fp,FpOk X pins H3 b:=fun b hb=>by
  obtain⟨z0,z⟩:=f2 b hb;exact⟨by rw[← hH3,aac (Nat.ne_of_lt (hfpD b hb))];exact z0,z⟩
 refine wpAny_newFunctionEnv O.nocell (by intro y hy;simp at hy) (fun h₁ hns₁ hsb₁=>?_) hk;have hCn:H3 s3.heap.objs.size=none:=I3.fresh;have old:∀ b o,s3.heap.get? b=some o->h₁.get? b=some o:=fun b o e=>hsb₁.extBut b o (Nat.ne_of_lt (Heap.lt_size e)) (Heap.get?_push_of_some _ e)
 generalize hC:s3.heap.objs.size=C at hns₁ hsb₁ hCn ⊢;have hltC:∀ b o,s3.heap.get? b=some o->b≠C:=fun b o e=>by rw[← hC];exact Nat.ne_of_lt (Heap.lt_size e)
 have fpC:∀ b∈fp,b≠C:=fun b hb=>by
  obtain⟨o,e,_⟩:=TT'.obj _ _ st3' b hb;exact hltC b o e
 have fpS:∀ b∈fp,b∉frs X.stack:=fun b hb z=>by
  rcases List.mem_cons.mp (I3.stkSub b z) with q | q
  ·exact (f3 b hb).2.1 q
  ·exact (f3 b hb).2.2.1 q
 have fpCl:∀ b∈fp,∀ x c,cl.lookup x=some c->c≠b:=fun b hb x c e=>(f3 b hb).2.2.2.2.1 x c (cl1 x c e)
 have hXok:(lcx X (T++capN) scope cl C s3 H3 fp).Ok:=by
  refine⟨I3.ok.mod,hk,I3.ok.glob,I3.ok.blt,Nat.le_of_eq hC,fun x y c e1 e2=>I3.ok.inj x y c (cl1 x c e1) (cl1 y c e2),fun x hx=>?_,fun x c e1 e2=>?_,I3.ok.hd,I3.ok.frames,.inl rfl,fun b hb=>⟨fpC b hb,fun x c e=>fpCl b hb x c e⟩,fun b o e=>I3.bs b o e,?_,fun b o e z=>?_,fun b hb=>fpS b hb,I3.stack,I3.stkFree⟩
  ·have hx':(relabel scope X.env).names.lookup x=some .cell\/(relabel scope X.env).names.lookup x=some .free:=hx;have hf:scope.names.lookup x=some .free:=by
    rcases hx' with q | q
    ·exact ad9 q (.inl rfl) O.nocell
    ·exact ad9 q (.inr rfl) O.nocell
   exact Option.isSome_iff_exists.mp (cl2 x (PySem.mem_of_lookup hf))
  ·have e1:(cl.lookup x).isNone=true:=e1;have e2:cl.lookup x=some c:=e2;rw[e2] at e1;cases e1
  ·exact Nat.le_trans I3.ok.bsz I3.sz
  ·obtain⟨z0,z1,z2,z3,_⟩:=f3 b z;rcases z3 with q | q
   ·exact I3.ok.noex b o e q
   ·exact absurd (Nat.lt_of_lt_of_le (Heap.lt_size e) (Nat.le_trans I3.ok.bsz q)) (Nat.lt_irrefl _)
 have I4:Inv (lcx X (T++capN) scope cl C s3 H3 fp) [] (lcs T caps σ) H3 { s3 with heap:=h₁,toks:=s3.toks+([]:List (Str×Value)).length }:=by
  refine⟨hXok,rfl,I3.bare,Un.kept old,⟨_,hns₁,fun i x v e1 e2 e3=>?_⟩,fun x c e=>?_,hCn,fun x c e=>I3.freeC x c (cl1 x c e),fun p hp=>absurd (show p∈([]:List (Addr×Obj)) from hp) (by simp),I3.hok.kept old,?_⟩
  ·have e1:(T++capN)[i]?=some x:=e1;unfold lcs at e2;by_cases hi:i<T.length
   ·rw[List.getElem?_append_left (by simpa using hi),List.getElem?_map] at e2;cases q:T[i]? with
    | none=>rw[q] at e2;cases e2
    | some z=>rw[q] at e2;cases e2
   ·rw[List.getElem?_append_right (by omega)] at e1;rw[List.getElem?_append_right (by simpa using hi),List.getElem?_map,List.length_map] at e2;obtain⟨k,k1,k2,k3⟩:=O.cap _ x e1;rw[k1] at e2;have e2:(σ[k]?).join=some v:=Option.some.inj e2;have e2':σ[k]?=some (some v):=by
     cases q:σ[k]? with
     | none=>rw[q] at e2;cases e2
     | some z=>rw[q] at e2;exact congrArg some e2
    have hcell:X.env.kindOf x=some .cell:=O.free (x,.free) (PySem.mem_of_lookup k3) rfl;obtain⟨m,hn,hl⟩:=I3.loc;obtain⟨u,r,l⟩:=hl k x v k2 e2' (.inr (.inl hcell));refine⟨u,r,.inr ⟨?_,?_⟩⟩
    ·obtain⟨k',e5,e6⟩:=adm (env:=X.env) k3;rcases e6 with z | ⟨_,z⟩
     ·subst z;exact .inr e5
     ·subst z;exact .inl e5
    ·rcases l with⟨l1,_⟩ | ⟨_,c,e7,o,ho1,ho2⟩
     ·rw[hcell] at l1;cases l1
     ·obtain⟨c',e8⟩:=Option.isSome_iff_exists.mp (cl2 x (PySem.mem_of_lookup k3));have:=cl1 x c' e8;rw[e7] at this;cases this;exact⟨c,e8,o,old c o ho1,ho2⟩
  ·obtain⟨v,o,ho1,ho2⟩:=I3.cell x c (cl1 x c e);exact⟨v,o,old c o ho1,ho2⟩
  ·show (lcs T caps σ).length=(T++capN).length;unfold lcs;rw[List.length_append,List.length_append,List.length_map,List.length_map,O.len]
 have fpX:∀ {H':Hp},(∀ b∈fp,H' b=none)->∀ b∈fp,FpOk (lcx X (T++capN) scope cl C s3 H3 fp) [] H' b:=fun hn b hb =>
  ⟨hn b hb,fpC b hb,fpS b hb,.inl hb,fun x c e=>fpCl b hb x c e,fun p hp=>absurd (show p∈([]:List (Addr×Obj)) from hp) (by simp)⟩
 have st4:tn 0 h₁:=TT'.keep _ _ _ st3' fun b _ o e=>old b o e
 have w0':W 0 m0 [] (lcs T caps σ) H3:=w0;have loop:codeAny (model X.prog X.w) X.A (.compLoop (.ListComp elt [⟨tg,iter,ifs,0⟩] scope pos) 0 (.ref it) (.ref D) (compEnvC scope cl C X.env))
   (compPost (model X.prog X.w) X.A X.xe none (EP X pins σ Q) (.ref D) C) { s3 with heap:=h₁,toks:=s3.toks+([]:List (Str×Value)).length }:=by
  refine ac9 (fun n s'=>∃ i ys σ' H',Inv (lcx X (T++capN) scope cl C s3 H3 fp) [] σ' H' s'/\tn i s'.heap/\(∀ b∈fp,H' b=none)/\W i n ys σ' H') ?_ m0 ⟨0,[],lcs T caps σ,H3,I4,st4,fun b hb=>(f3 b hb).1,w0'⟩;rintro n s5 ⟨i,ys,σ5,H5,I5,st5,fr5,w5⟩;rcases turn i n ys σ5 H5 w5 with⟨stop,qn⟩ | ⟨go,N,F,hN,hF,step⟩
  ·refine thn (TT'.done (lcx X (T++capN) scope cl C s3 H3 fp) rfl rfl rfl hc i [] s5 σ5 H5 _ I5 (fpX fr5) st5 stop) fun r s6 ⟨hr,I6⟩=>?_
   subst hr;obtain⟨m6,hn6,_⟩:=I6.loc;refine⟨m6,hn6,fun h' hsb=>?_⟩;have hfC:H5 C=none:=I6.free;have hok':HOk X.prog X.w H5 h':=fun b u e=>by
    have neb:∀ c u',H5 c=some u'->c≠C:=fun c u' e' z=>by subst z;rw[hfC] at e';cases e'
    refine (I6.hok b u e).stay (fun c v hc' q=>hsb.extBut c v ?_ q) (fun _ q=>q) fun _ _ q=>q
    rcases hc' with z | z
    ·rw[z];exact neb b u e
    ·exact neb c _ z
   have ub:=I6.base;refine⟨.ref D,H5,Inv.call' (s':={ s6 with heap:=h' }) (ch:=fp) I3 I6.os ?_ hok' I6.bare (fun b hb=>⟨(f3 b hb).2.2.2.1,(f3 b hb).2.1,(f3 b hb).2.2.2.2.1,(f3 b hb).2.2.2.2.2⟩),rfl,qn⟩;exact⟨fun b o q n hb hx=>hsb.extBut b o (hltC b o q) (ub.keep b o q n hb hx),fun b o q n hb hx=>let ⟨sl,e⟩:=ub.slot b o q n hb hx;⟨sl,hsb.extBut b _ (hltC b o q) e⟩,ub.free,fun b o q hx=>let ⟨o',e⟩:=ub.there b o q hx;⟨o',hsb.extBut b _ (hltC b o q) e⟩,ub.tups,ub.frzs,ub.tbls⟩
  ·refine thn (TT'.item (lcx X (T++capN) scope cl C s3 H3 fp) rfl rfl rfl hc i [] s5 σ5 H5 _ I5 (fpX fr5) st5 go) fun r s6 ⟨u,hr,h6⟩=>?_
   subst hr;refine thn h6 fun _ s7 ⟨x,H7,I7,r7,y7,st7,fr7⟩=>?_
   have I7':=I7.pinned (fpX fr7) (TT'.obj _ _ st7);have keepT:∀ {σ8:St} {H8:Hp} {s8:Shared},Inv (lcx X (T++capN) scope cl C s3 H3 fp) ([]++aij fp s7.heap) σ8 H8 s8->tn (i+1) s8.heap/\(∀ b∈fp,H8 b=none):=fun {σ8 H8 s8} I8=>by
    refine⟨TT'.keep _ _ _ st7 fun b hb o e=>(I8.pin (b,o) (List.mem_append_right _ (List.mem_append_right _ (ac5 hb e)))).1,fun b hb=>?_⟩;obtain⟨o,e,d⟩:=TT'.obj _ _ st7 b hb;exact (I8.pin (b,o) (List.mem_append_right _ (List.mem_append_right _ (ac5 hb e)))).2.1
   refine thn (hg s3 H3 C cl fp _ s7 σ5 H7 x u _ I7' r7 (step x H7 y7)) fun _ s8 ⟨σ8,H8,I8,q8⟩=>?_
   refine thn (ht s3 H3 C cl fp _ s8 σ8 H8 _ I8 q8) fun ok s9 ⟨H9,I9,q9⟩=>?_
   cases ok with
   | false =>
    rw[if_neg (by simp)] at q9;rw[if_neg (by simp)];obtain⟨m',hm,w9⟩:=hF _ _ q9;exact⟨m',hm,i+1,ys,σ8,H9,I9.unpinned,(keepT I9).1,(keepT I9).2,w9⟩
   | true =>
    rw[if_pos rfl] at q9;rw[if_pos rfl];refine thn (he s3 H3 C cl fp _ s9 σ8 H9 _ I9 q9) fun vv s10 ⟨v,H10,I10,r10,n10⟩=>?_
    obtain⟨a10,z10,m',hm,w10⟩:=hN _ _ _ n10;refine thn (acw (X:=lcx X (T++capN) scope cl C s3 H3 fp) _ s10 σ8 H10 (.ref D) [v] (.ref D) [vv] (fun _ H11=>W (i+1) m' (ys++[v]) σ8 H11) I10 rfl (.cons r10 .nil) ⟨D,ys,v,rfl,rfl,a10,z10,w10⟩) fun _ s11 ⟨_,H11,I11,_,w11⟩=>?_
    exact⟨m',hm,i+1,ys++[v],σ8,H11,I11.unpinned,(keepT I11).1,(keepT I11).2,w11⟩
 exact codeAny_compStart_list loop (TT'.self _ 0 _ _ _ st4 loop)
end
structure Yields (J:It) (xs:List V) (R:Hp->Prop):Prop where
 go:∀ i H,i<xs.length->R H->J.go i H
 yld:∀ i H x H',i<xs.length->R H->J.yld i H x H'->H'=H/\xs[i]?=some x
 stop:∀ i H,i=xs.length->R H->J.stop i H
theorem aee {K:PySem.W.Frag}{a:Addr}{xs:List V}:Yields (Itl K a) xs (fun H=>SqL K H a xs) :=
 ⟨fun i H hi r=>⟨xs,xs[i],r,List.getElem?_eq_getElem hi⟩,fun i H x H' hi r y=>⟨y.1,y.2 xs r⟩,fun i H e r=>⟨xs,r,by omega⟩⟩
theorem ail {K:PySem.W.Frag}{a:Addr}{xs:List V}:Yields (Itt K a) xs (fun H=>SqT K H a xs) :=
 ⟨fun i H hi r=>⟨xs,xs[i],r,List.getElem?_eq_getElem hi⟩,fun i H x H' hi r y=>⟨y.1,y.2 xs r⟩,fun i H e r=>⟨xs,r,by omega⟩⟩
theorem af4 {lo:Int}{n:Nat}:Yields (Itr lo n) ((List.range n).map fun (i:Nat)=>V.int (lo+(i:Int))) (fun _=>True) :=
 ⟨fun i H hi _=>by simpa [Itr] using hi,fun i H x H' hi _ y=>⟨y.1,by rw[y.2];simp at hi;simp[hi]⟩,fun i H e _=>by simp[Itr,e]⟩
def adb (z:Str):List V:=z.cps.toList.map fun c=>V.str ⟨#[c]⟩
theorem ahs {z:Str}:Yields (Its z) (adb z) (fun _=>True) :=
 ⟨fun i H hi _=>by simpa [Its,adb,Str.length] using hi,
  fun i H x H' hi _ y=>by
   obtain⟨e,c,hc,rfl⟩:=y;refine⟨e,?_⟩;unfold adb;rw[List.getElem?_map,Array.getElem?_toList,hc];rfl,
  fun i H e _=>by simp[Its,e,adb,Str.length]⟩
def LcN (cs:St) (D:Addr) (Pv:Nat->List V->Hp->Prop) (i:Nat) (ys:List V) (σ2:St):VK:=fun v H5=>(∃ t,σ2=t::cs)/\H5 D=some (.lst ys)/\ys.length<sizeLine/\Pv (i+1) (ys++[v]) (upd H5 D (.lst (ys++[v])))
def LcF (cs:St) (Pv:Nat->List V->Hp->Prop) (i:Nat) (ys:List V) (σ2:St) (H4:Hp):Prop:=(∃ t,σ2=t::cs)/\Pv (i+1) ys H4
theorem lc1 {J:It}{xs:List V}{R:Hp->Prop}{nm:Str}{caps:List Nat}{tt:TT}{te:TE}{σ:St}{H1:Hp}{Q:VK}{D:Addr}(Y:Yields J xs R) (Pv:Nat->List V->Hp->Prop)
  (h0:Pv 0 [] (upd H1 D (.lst []))) (hR:∀ i ys H,i<=xs.length->Pv i ys H->R H)
  (hs:∀ i x ys H,xs[i]?=some x->Pv i ys H->tt (some x::caps.map (fun i=>(σ[i]?).join)) H fun b H4 =>if b=true then te (some x::caps.map (fun i=>(σ[i]?).join)) H4 (LcN (caps.map (fun i=>(σ[i]?).join)) D Pv i ys (some x::caps.map (fun i=>(σ[i]?).join))) else LcF (caps.map (fun i=>(σ[i]?).join)) Pv i ys (some x::caps.map (fun i=>(σ[i]?).join)) H4)
  (hd:∀ ys H,Pv xs.length ys H->Q (.ref D) H):LCW [nm] caps J (ac8 0) tt te σ H1 Q D:=by
 refine⟨fun i m ys σ' H=>m=xs.length-i/\i<=xs.length/\(∃ t,σ'=t::caps.map (fun i=>(σ[i]?).join))/\Pv i ys H,⟨xs.length,by simp,Nat.zero_le _,⟨none,rfl⟩,h0⟩,?_⟩;rintro i m ys σ' H' ⟨rfl,hi,⟨t,rfl⟩,p⟩;by_cases hlt:i<xs.length
 ·refine .inr ⟨Y.go i H' hlt (hR i ys H' hi p),LcN (caps.map (fun i=>(σ[i]?).join)) D Pv i ys,LcF (caps.map (fun i=>(σ[i]?).join)) Pv i ys,?_,?_,fun x H2 y=>?_⟩
  ·rintro σ2 v H5 ⟨ht,a1,a2,a3⟩;exact⟨a1,a2,xs.length-(i+1),by omega,rfl,hlt,ht,a3⟩
  ·rintro σ2 H4 ⟨ht,a3⟩;exact⟨xs.length-(i+1),by omega,rfl,hlt,ht,a3⟩
  ·obtain⟨rfl,hx⟩:=Y.yld i H' x H2 hlt (hR i ys H' hi p) y;exact hs i x ys H2 hx p
 ·have e:i=xs.length:=by omega
  subst e;exact .inl ⟨Y.stop _ _ rfl (hR _ ys H' hi p),hd ys H' p⟩
def LcN3 (cs:St) (D:Addr) (Pv:Nat->List V->Hp->Prop) (i:Nat) (ys:List V) (σ2:St):VK:=fun v H5=>(∃ t u w,σ2=t::u::w::cs)/\H5 D=some (.lst ys)/\ys.length<sizeLine/\Pv (i+1) (ys++[v]) (upd H5 D (.lst (ys++[v])))
theorem lc3 {J:It}{xs:List V}{R:Hp->Prop}{n1 n2 n3:Str}{caps:List Nat}{te:TE}{σ:St}{H1:Hp}{Q:VK}{D:Addr}{K:PySem.W.Frag}(Y:Yields J xs R) (Pv:Nat->List V->Hp->Prop)
  (h0:Pv 0 [] (upd H1 D (.lst []))) (hR:∀ i ys H,i<=xs.length->Pv i ys H->R H)
  (hs:∀ i x ys H,xs[i]?=some x->Pv i ys H->∃ a x1 x2 x3,x = .ref a/\SqT K H a [x1,x2,x3]/\te (some x1::some x2::some x3::caps.map (fun i=>(σ[i]?).join)) H (LcN3 (caps.map (fun i=>(σ[i]?).join)) D Pv i ys (some x1::some x2::some x3::caps.map (fun i=>(σ[i]?).join))))
  (hd:∀ ys H,Pv xs.length ys H->Q (.ref D) H):LCW [n1,n2,n3] caps J (gTup K 3 (ae6 (ac8 0) (ae6 (ac8 1) (ae6 (ac8 2) gNil)))) tYes te σ H1 Q D:=by
 refine⟨fun i m ys σ' H=>m=xs.length-i/\i<=xs.length/\(∃ t u w,σ'=t::u::w::caps.map (fun i=>(σ[i]?).join))/\Pv i ys H,⟨xs.length,by simp,Nat.zero_le _,⟨none,none,none,rfl⟩,h0⟩,?_⟩;rintro i m ys σ' H' ⟨rfl,hi,⟨t,u,w,rfl⟩,p⟩;by_cases hlt:i<xs.length
 ·refine .inr ⟨Y.go i H' hlt (hR i ys H' hi p),LcN3 (caps.map (fun i=>(σ[i]?).join)) D Pv i ys,fun _ _=>False,?_,fun _ _ z=>z.elim,fun x H2 y=>?_⟩
  ·rintro σ2 v H5 ⟨ht,a1,a2,a3⟩;exact⟨a1,a2,xs.length-(i+1),by omega,rfl,hlt,ht,a3⟩
  ·obtain⟨rfl,hx⟩:=Y.yld i H' x H2 hlt (hR i ys H' hi p) y;obtain⟨a,x1,x2,x3,rfl,hq,ht⟩:=hs i x ys H2 hx p;refine⟨a,_,rfl,hq,rfl,_,_,rfl,_,_,rfl,_,_,rfl,rfl,?_⟩;show if (true:Bool)=true then te (some x1::some x2::some x3::caps.map (fun i=>(σ[i]?).join)) H2 (LcN3 (caps.map (fun i=>(σ[i]?).join)) D Pv i ys (some x1::some x2::some x3::caps.map (fun i=>(σ[i]?).join))) else False
   exact iteT ht
 ·have e:i=xs.length:=by omega
  subst e;exact .inl ⟨Y.stop _ _ rfl (hR _ ys H' hi p),hd ys H' p⟩
def ah1:Expr->Bool
 | .Starred _ _=>false
 | _=>true
theorem ajr {env:Env}{e:Expr}{es:List Expr}(h:ah1 e=true):starEach (e::es) env=(false,eval e env)::starEach es env:=by
 cases e<;>first | rfl | (cases h;done)
section
variable {X:Cx}{e:Expr}{es:List Expr}{te:TE}{t:TA}
theorem pa_c (ha:PE X e te) (hr:PA X es t) (h:ah1 e=true:=by rfl):PA X (e::es) (ajo te t):=adr ha hr (ajr h)
def tStrs (xs:List Str):TA:=fun _ H Q=>Q (xs.map V.str) H
theorem adp:∀ (l:List (Str×Nat×Pos)),PA X (l.map fun p=>.Constant (.str p.1) p.2.1 p.2.2) (tStrs (l.map (·.1)))
 | []=>aad
 | a::r=>fun pos pins s σ H Q I h=>pa_c (abe (x:=a.1) (j:=a.2.1) (pos:=a.2.2)) (adp r) (by rfl) pos pins s σ H Q I h
end
theorem lc1y {J:It}{xs:List V}{R:Hp->Prop}{nm:Str}{caps:List Nat}{te:TE}{σ:St}{H1:Hp}{Q:VK}{D:Addr}(Y:Yields J xs R) (Pv:Nat->List V->Hp->Prop)
  (h0:Pv 0 [] (upd H1 D (.lst []))) (hR:∀ i ys H,i<=xs.length->Pv i ys H->R H)
  (hs:∀ i x ys H,xs[i]?=some x->Pv i ys H->te (some x::caps.map (fun i=>(σ[i]?).join)) H (LcN (caps.map (fun i=>(σ[i]?).join)) D Pv i ys (some x::caps.map (fun i=>(σ[i]?).join))))
  (hd:∀ ys H,Pv xs.length ys H->Q (.ref D) H):LCW [nm] caps J (ac8 0) tYes te σ H1 Q D:=by
 refine lc1 Y Pv h0 hR (fun i x ys H hx p=>?_) hd;unfold tYes;dsimp only;rw[if_pos rfl];exact hs i x ys H hx p
theorem lcMap {J:It}{xs:List V}{R:Hp->Prop}{nm:Str}{caps:List Nat}{te:TE}{σ:St}{H1:Hp}{Q:VK}{D:Addr}(Y:Yields J xs R) (f:V->V) (nD:H1 D=none) (hR:∀ H,Same H1 H->R H) (hl:xs.length<=1000)
  (hs:∀ (i:Nat) x H (k:VK),xs[i]?=some x->Same H1 H->k (f x) H->te (some x::caps.map (fun i=>(σ[i]?).join)) H k)
  (hd:Q (.ref D) (upd H1 D (.lst (xs.map f)))):LCW [nm] caps J (ac8 0) tYes te σ H1 Q D:=by
 have sm:∀ o,Same H1 (upd H1 D o):=fun o b u e=>by rw[aac (aab e nD)];exact e
 refine lc1y Y (fun i ys H=>i<=xs.length/\ys=(xs.take i).map f/\H=upd H1 D (.lst ys)) ⟨Nat.zero_le _,by simp,rfl⟩ (fun i ys H _ p=>hR H (by rw[p.2.2];exact sm _)) ?_ ?_
 ·rintro i x ys H hx ⟨hi,rfl,rfl⟩;have hlt:=(List.getElem?_eq_some_iff.mp hx).1;have et:xs.take (i+1)=xs.take i++[x]:=by rw[List.take_add_one,hx];rfl
  refine hs i x _ _ hx (sm _) ⟨⟨_,rfl⟩,aaa,?_,hlt,?_,?_⟩
  ·rw[List.length_map,List.length_take];exact Nat.lt_of_le_of_lt (show min i xs.length<=1000 by omega) (by decide)
  ·rw[et,List.map_append];rfl
  ·rw[ajl]
 ·rintro ys H ⟨_,rfl,rfl⟩;rw[List.take_of_length_le (Nat.le_refl _)];exact hd
theorem abu {X:Cx}{st:Stmt}{rest:List Stmt}{D:Ends}{σ:St}{H:Hp}(I:St->Hp->Prop) (g:∀ u:TS,(∀ σ' H',I σ' H'->u D σ' H')->∃ t,PS X st t/\t { D with nx:=u D } σ H)
  (h:∀ σ' H',I σ' H'->∃ u,PSs X rest u/\u D σ' H'):∃ t,PSs X (st::rest) t/\t D σ H:=by
 let u:TS:=fun D' σ' H'=>∃ u0,PSs X rest u0/\u0 D' σ' H'
 have pu:PSs X rest u:=fun pins s σ' H' D' I' ⟨u0,p0,h0⟩=>p0 pins s σ' H' D' I' h0
 obtain⟨t,pt,ht⟩:=g u h;exact⟨tSeq t u,aai pt pu,ht⟩
theorem abw {X:Cx}{st:Stmt}{rest:List Stmt}{D:Ends}{σ:St}{H:Hp}(t:TS) (p:PS X st t) (h:t { D with nx:=fun σ' H'=>∃ u,PSs X rest u/\u D σ' H' } σ H):∃ t,PSs X (st::rest) t/\t D σ H:=by
 let u:TS:=fun D' σ' H'=>∃ u0,PSs X rest u0/\u0 D' σ' H'
 have pu:PSs X rest u:=fun pins s σ' H' D' I' ⟨u0,p0,h0⟩=>p0 pins s σ' H' D' I' h0
 exact⟨tSeq t u,aai p pu,h⟩
section
variable {X:Cx}{o e:Expr}{es:List Expr}{to:TE}{t:TA}{name:Str}{apos cpos:Pos}{T id:String}{r:V->List V->Hp->VK->Prop}
def rLenK (K:PySem.W.Frag):List V->Hp->VK->Prop:=fun xs H Q=>∃ p ys,xs=[.ref p]/\(SqL K H p ys\/SqT K H p ys)/\Q (.int ys.length) H
theorem aqj (K:PySem.W.Frag) (hK:X.K=K:=by rfl):ab6 X (.builtin "len") (rLenK K):=by subst hK;exact aap
theorem apf (K:PySem.W.Frag) (pa:PlainAttrs T) (slot:Slot T name id) (hty:typeOf (.builtin id)=pure (.type "method_descriptor")) (hm:MtR X id r) (ho:PE X o to) (ha:PA X (e::es) t) (hK:X.K=K:=by rfl)
  (hbase:attributeBase o name X.env (eval o X.env)=eval o X.env:=by rfl)
  (hfew:((backTo cpos (starEach (e::es) X.env)).all (fun x=>!x.1)&&(backToKw cpos (keywordEach [] X.env)).all (fun x=>x.1.isSome) && decide ((e::es).length+([]:List Keyword).length+(if ([]:List Keyword).isEmpty then 0 else 1)<30))=true:=by rfl)
  (hline:(apos.endLine == cpos.line)=true:=by rfl) (hs:starEach (e::es) X.env=(false,eval e X.env)::starEach es X.env:=by rfl) (hplain:(backTo cpos (starEach es X.env)).any (·.1)=false:=by rfl) :
  PE X (.Call (.Attribute o name apos) (e::es) [] cpos) (tBM K T r to t):=by
 subst hK;exact aex pa slot hty hm ho ha hbase hfew hline hs hplain
end
section
variable {X:Cx}
def tInts (xs:List Int):TA:=fun _ H Q=>Q (xs.map V.int) H
theorem ahj:∀ (l:List (Int×Nat×Pos)),PA X (l.map fun p=>.Constant (.int p.1) p.2.1 p.2.2) (tInts (l.map (·.1)))
 | []=>aad
 | a::r=>fun pos pins s σ H Q I h=>pa_c (aag (i:=a.1) (j:=a.2.1) (pos:=a.2.2)) (ahj r) (by rfl) pos pins s σ H Q I h
end
section
variable {X:Cx}
theorem asf (hu:X.A.units+64<cLine):OpR X (compareOp .NotEq) (ao8 X.K true):=by
 intro pins s σ H x y v u Q I rx ry h;obtain⟨a,b,xs,rfl,rfl,h1,h2,q⟩:=h;cases rx;cases ry;obtain⟨its,r1,p1,_⟩:=I.list h1;obtain⟨its2,r2,p2,_⟩:=I.list h2;cases r2;have q':∀ b',b' = !xs.isEmpty->EP X pins σ Q (.bool b') s:=fun b' e=>⟨.bl b',H,I,rfl,by subst e;exact q⟩
 cases r1 with
 | nil=>exact SeqAt.RcNeAt.lists (e:=fun _=>true) p1.isList p2.isList rfl (by omega) (fun i h1 _=>by simp at h1) X.prog X.w _ _ (q' _ (by simp))
 | cons r rr=>exact SeqAt.RcNeAt.lists_lengths p1.isList p2.isList (by simp) (by omega) X.prog X.w _ _ (q' _ rfl)
def rIsi (K:PySem.W.Frag):List V->Hp->VK->Prop:=fun xs H Q=>∃ (x c:V) (t cv:Value) (b:Bool),xs=[x,c]/\RelV c cv/\TyOf K H x t/\PySem.W.kitOne K t cv=some b/\Q (.bl b) H
theorem ap4 (K:PySem.W.Frag) (hK:X.K=K:=by rfl):ab6 X (.builtin "isinstance") (rIsi K):=by subst hK;exact as7
end
section
variable {X:Cx}
theorem bl_get {bs:List Bool}{us:List Value}(r:Vals (bs.map V.bl) us){i:Nat}{v:Value}(h:us[i]?=some v):∃ b,bs[i]?=some b/\v = .bool b:=by
 have hl:=r.length;rw[List.length_map] at hl;have hi:i<us.length:=(List.getElem?_eq_some_iff.mp h).1;have hb:bs[i]?=some (bs[i]'(by omega)):=List.getElem?_eq_getElem (by omega);obtain⟨u,hu,ru⟩:=r.get (i:=i) (x:=V.bl (bs[i]'(by omega))) (by rw[List.getElem?_map,hb];rfl);rw[h] at hu;cases hu;exact⟨_,hb,ru⟩
theorem aq1 (bs:List Bool):((List.range bs.length).all fun i=>(bs[i]?).getD true)=bs.all id:=by
 have e:(List.range bs.length).map (fun i=>(bs[i]?).getD true)=bs:=by
  apply List.ext_getElem (by simp);intro i p q;simp[q]
 calc ((List.range bs.length).all fun i=>(bs[i]?).getD true)=((List.range bs.length).map fun i=>(bs[i]?).getD true).all id:=by rw[List.all_map];rfl
  _=bs.all id:=by rw[e]
def rAll (K:PySem.W.Frag):List V->Hp->VK->Prop:=fun xs H Q=>∃ (p:Addr) (bs:List Bool),xs=[.ref p]/\SqL K H p (bs.map V.bl)/\Q (.bl (bs.all id)) H
theorem ajp (hc:X.calm=true):ab6 X (.builtin "all") (rAll X.K):=by
 intro pins s σ H xs us Q I r h;obtain⟨p,bs,rfl,hq,q⟩:=h;obtain⟨u,rfl,ru⟩:=af0 r;cases ru;obtain⟨its,rv,pl,_⟩:=I.list hq;have hl:=pl.isList;have hlen:=rv.length;rw[List.length_map] at hlen;have hlt:p<s.heap.objs.size:=by obtain⟨_,e,_⟩:=id hl;exact Heap.lt_size e
 refine call_all_walk (wpAny_pyIter_list hl ?_);refine⟨s.heap.objs.size,[s.heap.objs.size,p],[s.heap.objs.size],its.toArray.size,_,_,fun i=>(bs[i]?).getD true,rfl,Walks.list (A:=X.A.in1) (I.ok.hd hc) _ p (Nat.ne_of_lt hlt) its.toArray,⟨⟨_,Heap.get?_push_size _ rfl,rfl,rfl⟩,hl.push _⟩,fun i v s' Q' E' hP hQ=>?_,fun h' tk hk=>?_⟩
 ·obtain⟨b,e,rfl⟩:=bl_get rv (by simpa using hP);simp only[e,Option.getD_some] at hQ;exact wpAny_truthy_bool hQ
 ·have e:((List.range its.toArray.size).all fun i=>(bs[i]?).getD true)=bs.all id:=by
   rw[List.size_toArray,← hlen];exact aq1 bs
  rw[e];exact⟨.bl _,H,I.kept fun b x e=>hk b x (fun hm=>by rw[List.mem_singleton.mp hm] at e;exact Nat.lt_irrefl _ (Heap.lt_size e)) (Heap.get?_push_of_some _ e),rfl,q⟩
def at5:V->List V->Hp->VK->Prop:=fun x vs H Q=>∃ (z y:Str),x = .str z/\vs=[.str y]/\y.length≠0/\z.length<=1000000/\∀ p,H p=none->Q (.ref p) (upd H p (.lst ((Txt.split z y).map V.str)))
theorem ajx:∀ (l:List (Str×Tok)),Vals ((l.map (·.1)).map V.str) (strValues l)
 | []=>.nil
 | a::r=>.cons ⟨a.2,rfl⟩ (ajx r)
theorem aci:MtR X "str.split" at5:=by
 intro pins s σ H x vs v us Q I rx rv h;obtain⟨z,y,rfl,rfl,hy,hz,q⟩:=h;obtain⟨t,rfl⟩:=rx;obtain⟨u,rfl,t',rfl⟩:=rv.one;have hy0:(y.length == 0)=false:=by simpa using hy
 have fin:∀ (l:List (Str×Tok)) (tk:Nat),l.map (·.1)=Txt.split z y->l.length<=sizeLine->EP X pins σ Q (.ref s.heap.objs.size) { s with heap:=s.heap.push { cls:=.type "list",data:=.seq (strValues l).toArray },toks:=tk }:=by
  intro l tk e hl;refine⟨.ref _,_,I.lnew (its:=strValues l) (ys:=(Txt.split z y).map V.str) (t':=tk) (by rw[← e];exact ajx l) ?_,rfl,q _ I.fresh⟩;rw[List.length_map,← e,List.length_map];exact hl
 have hn:(Builtin.Str.partsBetween z (Builtin.Str.occurrences z y 0 z.length (z.length+1)) y.length).length<=sizeLine:=by
  have e1:=StrLaws.occ_length_le z y 0 z.length (z.length+1);rw[length_partsBetween,sizeLine_eq];omega
 cases g1:(decide (z.length<y.length)||decide (Builtin.Str.strKind z<Builtin.Str.strKind y)) with
 | false =>
  cases g2:(Builtin.Str.occurrences z y 0 z.length (z.length+1)).isEmpty with
  | false =>
   refine call_meets PySem.F.slot_str_split (typeIs_str _ _ _) PySem.F.entry_str_split (PySem.F.args_str_split_2 _ _) (meets_str_split_sep z y t t' g1 hy0 g2 (by rw[sizeLine_eq];omega) hn) ?_;show wants _ _ _ { s with toks:=_,heap:=s.heap.push { cls:=.type "list",data:=.seq (strsFrom s.toks (Builtin.Str.partsBetween z (Builtin.Str.occurrences z y 0 z.length (z.length+1)) y.length)).toArray } };rw[strsFrom_eq];have e9:(numbered s.toks (Builtin.Str.partsBetween z (Builtin.Str.occurrences z y 0 z.length (z.length+1)) y.length)).map (·.1)=Txt.split z y:=(numbered_texts _ _).trans ((if_neg (ne_true_of_eq_false g1)).trans (if_neg (ne_true_of_eq_false g2))).symm;refine fin _ _ e9 ?_;have:=congrArg List.length (numbered_texts s.toks (Builtin.Str.partsBetween z (Builtin.Str.occurrences z y 0 z.length (z.length+1)) y.length));rw[List.length_map] at this;rw[this];exact hn
  | true =>
   exact call_meets PySem.F.slot_str_split (typeIs_str _ _ _) PySem.F.entry_str_split (PySem.F.args_str_split_2 _ _) (meets_str_split_not_found z y t t' g1 hy0 g2)
    (fin [(z,t)] s.toks ((if_neg (ne_true_of_eq_false g1)).trans (if_pos g2)).symm (by show 1<=sizeLine;decide))
 | true =>
  exact call_meets PySem.F.slot_str_split (typeIs_str _ _ _) PySem.F.entry_str_split (PySem.F.args_str_split_2 _ _) (meets_str_split_cannot_occur z y t t' g1)
   (fin [(z,t)] s.toks (if_pos g1).symm (by show 1<=sizeLine;decide))
end
section
variable {X:Cx}{pins:List (Addr×Obj)}{σ:St}{H:Hp}{s:Shared}{h':Heap}
theorem Inv.moved {t':Nat}{fp:List Addr}(I:Inv X pins σ H s) (hf:∀ b∈fp,FpOk X pins H b) (k:∀ b o,b∉fp->s.heap.get? b=some o->h'.get? b=some o):Inv X pins σ H { s with heap:=h',toks:=t' }:=by
 have nit:∀ b u,H b=some u->b∉fp:=fun b u e z=>by rw[(hf b z).1] at e;cases e
 refine I.step (g':=s.gens) (d':=s.drawn) (ch:=fp) (fun b hb=>⟨(hf b hb).2.2.2.1,(hf b hb).2.1,(hf b hb).2.2.2.2.1,(hf b hb).2.2.2.2.2⟩) (fun b o _ _ hc e _=>k b o hc e) (fun b o _ _ hc e _=>⟨o.slots,k b o hc e⟩) (fun _ _ _ _ n=>n)
  (fun b o hc e=>⟨o,k b o hc e⟩) (fun _ _ e=>e) (fun _ _ _ e=>e) (fun b ps e=>⟨#[],by rw[e];simp⟩) (fun m hm=>?_) (fun b u e=>?_) I.bare
 ·obtain⟨o,es,ep,ho,r⟩:=hm;exact⟨o,es,ep,k _ o (fun z=>(hf _ z).2.1 rfl) ho,r⟩
 ·refine (I.hok b u e).stay (fun c v hc q=>k c v ?_ q) (fun _ q=>q) fun _ _ q=>q
  rcases hc with z | z
  ·rw[z];exact nit b u e
  ·exact nit c _ z
theorem Inv.movedT {t':Nat}{fp:List Addr}{ys:List V}{its:List Value}(I:Inv X pins σ H s) (hf:∀ b∈fp,FpOk X pins H b) (k:∀ b o,b∉fp->s.heap.get? b=some o->h'.get? b=some o)
  (new:af9 h' s.heap.objs.size its.toArray) (rv:Vals ys its) (hz:ys.length<=sizeLine):Inv X pins σ (upd H s.heap.objs.size (.tup ys)) { s with heap:=h',toks:=t' }:=by
 have hn:=I.fresh;have nit:∀ b u,H b=some u->b∉fp:=fun b u e z=>by rw[(hf b z).1] at e;cases e
 have lt:∀ b o,s.heap.get? b=some o->b≠s.heap.objs.size:=fun b o e=>Nat.ne_of_lt (Heap.lt_size e)
 refine I.step (g':=s.gens) (d':=s.drawn) (ch:=fp) (fun b hb=>⟨(hf b hb).2.2.2.1,(hf b hb).2.1,(hf b hb).2.2.2.2.1,(hf b hb).2.2.2.2.2⟩) (fun b o _ _ hc e _=>k b o hc e) (fun b o _ _ hc e _=>⟨o.slots,k b o hc e⟩) (fun b o _ e n=>by rw[aac (lt b o e)];exact n)
  (fun b o hc e=>⟨o,k b o hc e⟩) (fun b xs e=>by rw[aac (aab e hn)];exact e) (fun b o u e=>by rw[aac (aab e hn)];exact e) (fun b ps e=>⟨#[],by rw[aac (aab e hn),e];simp⟩) (fun m hm=>?_) (fun b u e=>?_) I.bare
 ·obtain⟨o,es,ep,ho,r⟩:=hm;exact⟨o,es,ep,k _ o (fun z=>(hf _ z).2.1 rfl) ho,r⟩
 ·by_cases hb:b=s.heap.objs.size
  ·subst hb;rw[aaa] at e;cases e;exact⟨hz,its,rv,new⟩
  ·rw[aac hb] at e;refine (I.hok b u e).stay (fun c v hc q=>k c v ?_ q) (fun c q=>by rw[aac (aab q hn)];exact q) fun c xs q=>by rw[aac (aab q hn)];exact q
   rcases hc with z | z
   ·rw[z];exact nit b u e
   ·exact nit c _ z
end
def Itz (K:PySem.W.Frag) (a b:Addr):It :=
 ⟨fun i H=>∃ xs ys x y,SqL K H a xs/\SqL K H b ys/\xs[i]?=some x/\ys[i]?=some y,fun i H v H'=>∃ p x y,H p=none/\v = .ref p/\H'=upd H p (.tup [x,y])/\(∀ xs,SqL K H a xs->xs[i]?=some x)/\(∀ ys,SqL K H b ys->ys[i]?=some y),fun i H=>∃ xs ys,SqL K H a xs/\SqL K H b ys/\(xs.length<=i\/ys.length<=i)⟩
def ZipSt (a b z TI TO i1 i2:Addr) (i:Nat) (h:Heap):Prop:=IsZip h z TI TO .none/\IsPair h TI (.ref i1) (.ref i2)/\(∃ u v,IsPair h TO u v)/\h.IsListIter i1 a i/\h.IsListIter i2 b i
theorem asw {P:Program}{w:World}{K:PySem.W.Frag}{elts:List Expr}{x1:Nat}{pos:Pos}{a b z TI TO i1 i2:Addr}(D:ZipApart z TI TO i1 i2 a b) :
  Turn P w K (.Tuple elts x1 pos) (Itz K a b) [z,TI,TO,i1,i2] z (ZipSt a b z TI TO i1 i2) where
 mem:=by simp
 obj:=fun i h st c hc=>by
  obtain⟨s1,s2,⟨u,v,s3⟩,⟨o4,s4,c4,d4⟩,⟨o5,s5,c5,d5⟩⟩:=st;simp only[List.mem_cons,List.not_mem_nil,or_false] at hc;rcases hc with e | e | e | e | e<;>subst e
  ·exact⟨_,s1,fun v z=>nomatch z⟩
  ·exact⟨_,s2,fun v z=>nomatch z⟩
  ·exact⟨_,s3,fun v z=>nomatch z⟩
  ·exact⟨_,s4,fun v z=>by rw[d4] at z;cases z⟩
  ·exact⟨_,s5,fun v z=>by rw[d5] at z;cases z⟩
 keep:=fun i h h' st k=>by
  obtain⟨s1,s2,⟨u,v,s3⟩,s4,s5⟩:=st;exact⟨k z (by simp) _ s1,k TI (by simp) _ s2,⟨u,v,k TO (by simp) _ s3⟩,s4.at fun o e=>k i1 (by simp) o e,s5.at fun o e=>k i2 (by simp) o e⟩
 item:=by
  intro X hP hw hK hc i pins s σ H E I hf st hg;subst hP hw hK;obtain⟨s1,s2,⟨u,v,s3⟩,s4,s5⟩:=st;obtain⟨xs,ys,x,y,qx,qy,hx,hy⟩:=hg;obtain⟨itx,rx,px,_⟩:=I.list qx;obtain⟨ity,ry,py,_⟩:=I.list qy;obtain⟨ux,hux,rux⟩:=rx.get hx;obtain⟨uy,huy,ruy⟩:=ry.get hy;refine wpAny_pyNext_zip_item D s1 s2 s3 s4 s5 px.isList py.isList (x:=ux) (y:=uy) (by simpa using hux) (by simpa using huy) fun h' n1 n2 n3 n4 n5 n6 n7=>?_
  refine⟨_,rfl,wpAny_letOwnedTupleGo_zip n1 fun h2 m1 sb=>?_⟩;have kp:∀ c o,c∉[z,TI,TO,i1,i2]->s.heap.get? c=some o->h2.get? c=some o:=fun c o hcc e=>by
   simp only[List.mem_cons,List.not_mem_nil,or_false,not_or] at hcc;obtain⟨e1,e2,e3,e4,e5⟩:=hcc;exact sb.extBut c o e1 (n7 c o e1 e3 e4 e5 e)
  have zs:s.heap.objs.size≠z:=fun e=>Nat.lt_irrefl _ (by have:=Heap.lt_size s1;rw[← e] at this;exact this)
  have nt:af9 h2 s.heap.objs.size [ux,uy].toArray:=⟨⟨_,sb.extBut _ _ zs n5,rfl,_,rfl⟩,_,sb.extBut _ _ zs n5,rfl⟩;have I2:=I.movedT (t':=s.toks) (ys:=[x,y]) hf kp nt (.cons rux (.cons ruy .nil)) (by show 2<=sizeLine;decide);refine⟨.ref s.heap.objs.size,_,I2,rfl,⟨_,x,y,I.fresh,rfl,rfl,fun xs' q'=>by rw[I.list_inj q' qx];exact hx,fun ys' q'=>by rw[I.list_inj q' qy];exact hy⟩,⟨m1,?_,⟨ux,uy,?_⟩,?_,?_⟩,fun c hcc=>?_⟩
  ·exact sb.extBut _ _ D.TIz (n7 TI _ D.TIz D.TITO D.TIi1 D.TIi2 s2)
  ·exact sb.extBut _ _ D.TOz n2
  ·exact n3.at fun o e=>sb.extBut _ o D.i1z e
  ·exact n4.at fun o e=>sb.extBut _ o D.i2z e
  ·rw[aac]
   ·exact (hf c hcc).1
   ·intro e;obtain⟨o,ho⟩:∃ o,s.heap.get? c=some o:=by
     obtain⟨o4,s4',_⟩:=s4;obtain⟨o5,s5',_⟩:=s5;simp only[List.mem_cons,List.not_mem_nil,or_false] at hcc;rcases hcc with q | q | q | q | q<;>rw[q]
     ·exact⟨_,s1⟩
     ·exact⟨_,s2⟩
     ·exact⟨_,s3⟩
     ·exact⟨_,s4'⟩
     ·exact⟨_,s5'⟩
    have:=Heap.lt_size ho;rw[e] at this;exact Nat.lt_irrefl _ this
 done:=by
  intro X hP hw hK hc i pins s σ H E I hf st hg;subst hP hw hK;obtain⟨s1,s2,⟨u,v,s3⟩,s4,s5⟩:=st;obtain⟨xs,ys,qx,qy,hend⟩:=hg;obtain⟨itx,rx,px,_⟩:=I.list qx;obtain⟨ity,ry,py,_⟩:=I.list qy;have lx:=rx.length;have ly:=ry.length;refine wpAny_pyNext_zip_end (I.ok.hd hc) D s1 s2 s3 s4 s5 px.isList py.isList ?_ fun h' k=>⟨rfl,I.moved (t':=s.toks) hf fun c o hcc e=>?_⟩
  ·rcases hend with q | q
   ·exact .inl (by simp;omega)
   ·exact .inr (by simp;omega)
  ·simp only[List.mem_cons,List.not_mem_nil,or_false,not_or] at hcc;obtain⟨e1,e2,e3,e4,e5⟩:=hcc;exact k c o e1 e3 e4 e5 e
 self:=fun _ _ _ _ _ st h=>wpAny_pyIter_zip st.1 h
section
variable {X:Cx}
def iZip (K:PySem.W.Frag) (ta:TA):TI:=fun σ H R=>ta σ H fun vs H1=>∃ a b,vs=[.ref a,.ref b]/\(∃ xs,SqL K H1 a xs)/\(∃ ys,SqL K H1 b ys)/\R (Itz K a b) H1
theorem pi_zip {elts:List Expr}{x1:Nat}{ps:Pos}{e1 e2:Expr}{ta:TA}{p pos:Pos}(hg:Gl X "zip") (hm:X.mg "zip" = none) (ha:PA X [e1,e2] ta) (hs:starEach [e1,e2] X.env=(false,eval e1 X.env)::starEach [e2] X.env:=by rfl)
  (hpl:(backTo pos (starEach [e2] X.env)).any (·.1)=false:=by rfl):PI X (.Tuple elts x1 ps) (.Call (.Name "zip" p) [e1,e2] [] pos) (iZip X.K ta):=by
 intro pins s σ H R I h;refine Call_ (ah7 I hg hm boot_zip (PyProof.Rows.callWith_type1 (thn (ha pos pins s σ H _ I h) fun us s1 ⟨vs,H1,I1,r1,q1⟩=>?_) hs hpl));obtain⟨a,b,rfl,⟨xs,qx⟩,⟨ys,qy⟩,q⟩:=q1;obtain⟨u,v,rfl,ru,rv⟩:=am6 r1;cases ru;cases rv;obtain⟨itx,rx,px,_⟩:=I1.list qx;obtain⟨ity,ry,py,_⟩:=I1.list qy;have la:a<s1.heap.objs.size:=by obtain⟨_,e,_⟩:=px.isList;exact Heap.lt_size e
 have lb:b<s1.heap.objs.size:=by obtain⟨_,e,_⟩:=py.isList;exact Heap.lt_size e
 refine call_zip_2 px.isList py.isList fun h' n1 n2 n3 n4 n5 n6 n7=>?_
 have I2:Inv X pins σ H1 { s1 with heap:=h' }:=I1.kept (t':=s1.toks) n7;refine wpAny_pyIter_zip n1 ⟨_,[_,_,_,_,_],_,_,H1,rfl,I2,asw (a:=a) (b:=b) (i1:=s1.heap.objs.size) (i2:=s1.heap.objs.size+1) (z:=s1.heap.objs.size+4) (TI:=s1.heap.objs.size+2) (TO:=s1.heap.objs.size+3) ?_,⟨n1,n2,⟨_,_,n3⟩,n4,n5⟩,fun c hc=>?_,q⟩
 ·constructor<;>first | exact Nat.ne_of_lt la | exact Nat.ne_of_lt lb | exact Nat.ne_of_lt (Nat.lt_of_lt_of_le la (Nat.le_add_right _ _)) | exact Nat.ne_of_lt (Nat.lt_of_lt_of_le lb (Nat.le_add_right _ _)) | exact Nat.ne_of_gt la | exact Nat.ne_of_gt lb | exact Nat.ne_of_gt (Nat.lt_of_lt_of_le la (Nat.le_add_right _ _)) | exact Nat.ne_of_gt (Nat.lt_of_lt_of_le lb (Nat.le_add_right _ _)) | exact (by show (_:Nat)≠_;omega)
 ·simp only[List.mem_cons,List.not_mem_nil,or_false] at hc;rcases hc with e | e | e | e | e<;>(subst e;exact I1.fpOk (by omega) (I1.hok.fresh (by omega)))
end
def KDct (K:PySem.W.Frag) (w:World) (a:Addr) (kvs:List (Key×V)):Prop:=(a == sysModules)=false/\∀ (P:Program) (h:Heap),K.In h->∃ vs,KV kvs vs/\h.DictOf (abh P w) a vs
theorem aoa (P:Program) (w:World){es:List DictEntry}{D:List (Str×V×Value)}(h:KTD.Rows (fun (d:V×Value) v=>v=d.2) es D) (hr:∀ p∈D,RelV p.2.1 p.2.2):es.map (·.hash)=D.map (fun p=>hashStr w p.1) ->
  (∀ e∈es,∃ k,(abh P w).is k e.key=true/\e.hash=(abh P w).hash k)/\Pairs (abh P w) es (D.map fun p=>((.inr p.1:Key),p.2.2))/\KV (D.map fun p=>((.inr p.1:Key),p.2.1)) (D.map fun p=>((.inr p.1:Key),p.2.2)):=by
 induction h with
 | nil=>exact fun _=>⟨(fun _ h=>nomatch h),.nil,.nil⟩
 | @cons e x t d es D hkey hv _ ih =>
  intro hh;simp only[List.map_cons,List.cons.injEq] at hh;obtain⟨h1,h2,h3⟩:=ih (fun p hp=>hr p (List.mem_cons_of_mem _ hp)) hh.2;have hi:(abh P w).is (.inr x:Key) e.key=true:=by rw[hkey];exact agv P w x t
  refine⟨fun e' he'=>?_,.cons hi hv h2,.cons ⟨rfl,hr (x,d) (List.mem_cons_self ..)⟩ h3⟩;rcases List.mem_cons.mp he' with he' | he'
  ·rw[he'];exact⟨.inr x,hi,hh.1⟩
  ·exact h1 e' he'
theorem av8 {K:PySem.W.Frag}{w:World}{a:Addr}{D:List (Str×V×Value)}(hr:∀ p∈D,RelV p.2.1 p.2.2) (hl:KTD.tabLook (fun (d:V×Value) v=>v == d.2) (fun b=>K.lookup b) a D=true) (hn:(D.map (·.1)).Nodup)
  (hh:KTD.hashesOf (fun b=>K.lookup b) a=D.map fun p=>hashStr w p.1):KDct K w a (D.map fun p=>(.inr p.1,p.2.1)):=by
 simp only[KTD.tabLook,Bool.and_eq_true] at hl;obtain⟨h0,hl⟩:=hl;refine⟨by simpa using h0,fun P h hK=>?_⟩;split at hl
 ·rename_i o ho
  simp only[Bool.and_eq_true] at hl;obtain⟨⟨⟨e1,e2⟩,e3⟩,e4⟩:=hl;split at e4
  ·rename_i es ep hd
   have hh':es.toList.map (·.hash)=D.map fun p=>hashStr w p.1:=by
    rw[← hh];unfold KTD.hashesOf;simp only[ho,hd]
   obtain⟨hk,hp,hf⟩:=aoa P w (KTD.rows_of_look (R:=fun (d:V×Value) v=>v=d.2) (fun d v e=>beq_iff_eq.mp e) e4) hr hh';refine⟨_,hf,o,es,ep,hK _ _ ho,⟨beq_iff_eq.mp e1,by simpa using e2,by simpa using e3⟩,hd,fun e he=>hk e (by simpa using he),hp,?_⟩;rw[List.map_map];have:(D.map ((fun (x:Key×Value)=>x.1)∘fun p=>((.inr p.1:Key),p.2.2)))=(D.map (·.1)).map (Sum.inr:Str->Key):=by rw[List.map_map];rfl
   rw[this];exact hn.map _ (fun a b hab e=>hab (Sum.inr.inj e))
  ·cases e4
 ·cases hl
section
variable {X:Cx}
def rInK (K:PySem.W.Frag) (w:World) (neg:Bool):R2:=fun x y H Q=>∃ (z:Str) (a:Addr) (kvs:List (Key×V)),x = .str z/\y = .ref a/\KDct K w a kvs/\Q (.bl (if neg then !(valV kvs (.inr z)).isSome else (valV kvs (.inr z)).isSome)) H
theorem apn:OpR X (compareOp .NotIn) (rInK X.K X.w true):=by
 intro pins s σ H x y v u Q I rx ry h;obtain⟨z,a,kvs,rfl,rfl,⟨hd,kd⟩,q⟩:=h;cases ry;obtain⟨vs,rel,dd⟩:=kd X.prog s.heap I.kIn;refine wpAny_notIn_of (alq (k:=.inr z) rx) hd dd.mapOf ?_;rw[← (rel.val (.inr z)).isSome_eq];exact⟨.bl _,H,I.tok _,rfl,q⟩
def tDGetK (K:PySem.W.Frag) (w:World) (td ty tx:TE):TE:=fun σ H Q=>td σ H fun x H1=>∃ (a:Addr) (kvs:List (Key×V)),x = .ref a/\KDct K w a kvs/\ty σ H1 fun y H2=>tx σ H2 fun z H3=>∃ k:Str,y = .str k/\Q ((valV kvs (.inr k)).getD z) H3
theorem arw {o e f:Expr}{apos cpos:Pos}{td ty tx:TE}(ho:PE X o td) (he:PE X e ty) (hf:PE X f tx) (m:M2 X o "get" apos e f cpos):PE X (.Call (.Attribute o "get" apos) [e,f] [] cpos) (tDGetK X.K X.w td ty tx):=by
 intro pins s σ H Q I h;refine wpAny_Call_method m.base m.few m.line PySem.F.plainAttrs_dict PySem.F.slot_dict_get PySem.F.type_dict_get (thn (ho pins s σ H _ I h) fun u s1 ⟨x,H1,I1,rx,a,kvs,ex,⟨hd,kd⟩,q1⟩=>?_);subst ex;obtain rfl:u=Value.ref a:=rx;obtain⟨vs1,_,dd1⟩:=kd X.prog s1.heap I1.kIn;refine⟨dd1.typeIs,fun b q=>?_,?_⟩
 ·cases q;obtain⟨ob,_,_,h1,h2,_⟩:=dd1;exact⟨ob,h1,h2.2.1⟩
 rw[m.trees];refine Calls.callWith_builtin rfl (Calls.evalArgs_plain (Calls.spliced_cons (thn (he pins s1 σ H1 _ I1 q1) fun iv s2 ⟨y,H2,I2,ry,q2⟩ =>Calls.spliced_cons (thn (hf pins s2 σ H2 _ I2 q2) fun fv s3 ⟨z,H3,I3,rz,k,ek,q3⟩=>Calls.spliced_nil ?_))));subst ek;obtain⟨vs,rel,dd⟩:=kd X.prog s3.heap I3.kIn;refine call_meetsIn PySem.F.slot_dict_get dd.typeIs PySem.F.entry_dict_get (PySem.F.args_dict_get_3 _ _ _) (meets_dict_get_default (abh X.prog X.w) a (alq (k:=.inr k) ry) hd fv) ⟨_,dd.mapOf,?_⟩;exact⟨_,H3,I3.tok _,(rel.val (.inr k)).getD rz,q3⟩
end
section
variable {X:Cx}
set_option maxHeartbeats 1000000 in
theorem auq {elt tg iter:Expr}{ifs:List Expr}{scope:Scope}{pos:Pos}{wi:TI}{g:TG}{tt:TT}{te:TE}(T capN:List Str) (caps:List Nat) (hc:X.calm=true) (hi:PI X tg iter wi)
  (hk:scope.kind = .function) (ho:lcOk X.N X.env.kindOf scope T capN caps=true)
  (hg:∀ s₀ H₀ C cl fp,PG (lcx X (T++capN) scope cl C s₀ H₀ fp) tg g)
  (ht:∀ s₀ H₀ C cl fp,PIfs (lcx X (T++capN) scope cl C s₀ H₀ fp) ifs tt)
  (he:∀ s₀ H₀ C cl fp,PE (lcx X (T++capN) scope cl C s₀ H₀ fp) elt te)
  (hs:∀ x,foldedSetIterable iter X.env x=pure x:=by intro _;rfl)
  {use:Option (Value->Sem Unit)}{Qs:Value->Shared->Prop}{pins:List (Addr×Obj)}{s:Shared}{σ:St}{H:Hp}{Q:VK}(I:Inv X pins σ H s) (h:tLC T caps wi g tt te σ H Q)
  (fin:∀ (C D:Addr) (s6:Shared) (H5:Hp),Inv X pins σ H5 s6->Q (.ref D) H5->FpOk X pins H5 C->(∃ m,s6.heap.Ns C m)->compPost (model X.prog X.w) X.A X.xe use Qs (.ref D) C (.ok .next) s6) :
  wpAny (model X.prog X.w) X.A (comprehension (.ListComp elt [⟨tg,iter,ifs,0⟩] scope pos) scope X.env (firstIterPos [⟨tg,iter,ifs,0⟩] pos) (newList []) (firstAsync [⟨tg,iter,ifs,0⟩]) (firstIter [⟨tg,iter,ifs,0⟩] X.env) use) Qs X.xe s:=by
 have O:=aqw ho;have hfree:∀ p∈scope.names,p.2 = .free->∃ c,X.env.cells.lookup p.1=some c:=fun p hp e=>I.ok.has p.1 (.inl (O.free p hp e))
 obtain⟨cl,hclos,cl1,cl2⟩:=afh hfree;refine wpAny_comprehension_free (use:=use) rfl hs hclos hk O.loc (thn (hi pins s σ H _ I h) fun v s1 h1=>thn h1 fun itv s2 h2=>?_);obtain⟨it,fp,tn,J,H2,rfl,I2,TT',st2,f2,hD⟩:=h2;refine wpAny_newObj_type ?_;have I3:Inv X pins σ (upd H2 s2.heap.objs.size (.lst [])) { s2 with heap:=s2.heap.push { cls:=.type "list",data:=.seq ([]:List Value).toArray } }:=I2.lnew (t':=s2.toks) (its:=[]) (ys:=[]) .nil (Nat.zero_le _);have fD:H2 s2.heap.objs.size=none:=I2.fresh;obtain⟨W,⟨m0,w0⟩,turn⟩:=hD s2.heap.objs.size fD;generalize hDd:s2.heap.objs.size=D at I3 fD w0 turn ⊢;have st3:tn 0 (s2.heap.push { cls:=.type "list",data:=.seq ([]:List Value).toArray }):=TT'.keep _ _ _ st2 fun b _ o e=>Heap.get?_push_of_some _ e
 have hfpD:∀ b∈fp,b<D:=fun b hb=>by
  obtain⟨o,e,_⟩:=TT'.obj _ _ st2 b hb;rw[← hDd];exact Heap.lt_size e
 generalize hs3:({ s2 with heap:=s2.heap.push { cls:=.type "list",data:=.seq ([]:List Value).toArray } }:Shared)=s3 at I3 ⊢;have st3':tn 0 s3.heap:=by rw[← hs3];exact st3
 generalize hH3:upd H2 D (.lst [])=H3 at I3 w0;have f3:∀ b∈fp,FpOk X pins H3 b:=fun b hb=>by
  obtain⟨z0,z⟩:=f2 b hb;exact⟨by rw[← hH3,aac (Nat.ne_of_lt (hfpD b hb))];exact z0,z⟩
 refine wpAny_newFunctionEnv O.nocell (by intro y hy;simp at hy) (fun h₁ hns₁ hsb₁=>?_) hk;have hCn:H3 s3.heap.objs.size=none:=I3.fresh;have old:∀ b o,s3.heap.get? b=some o->h₁.get? b=some o:=fun b o e=>hsb₁.extBut b o (Nat.ne_of_lt (Heap.lt_size e)) (Heap.get?_push_of_some _ e)
 generalize hC:s3.heap.objs.size=C at hns₁ hsb₁ hCn ⊢;have hltC:∀ b o,s3.heap.get? b=some o->b≠C:=fun b o e=>by rw[← hC];exact Nat.ne_of_lt (Heap.lt_size e)
 have fpC:∀ b∈fp,b≠C:=fun b hb=>by
  obtain⟨o,e,_⟩:=TT'.obj _ _ st3' b hb;exact hltC b o e
 have fpS:∀ b∈fp,b∉frs X.stack:=fun b hb z=>by
  rcases List.mem_cons.mp (I3.stkSub b z) with q | q
  ·exact (f3 b hb).2.1 q
  ·exact (f3 b hb).2.2.1 q
 have fpCl:∀ b∈fp,∀ x c,cl.lookup x=some c->c≠b:=fun b hb x c e=>(f3 b hb).2.2.2.2.1 x c (cl1 x c e)
 have hXok:(lcx X (T++capN) scope cl C s3 H3 fp).Ok:=by
  refine⟨I3.ok.mod,hk,I3.ok.glob,I3.ok.blt,Nat.le_of_eq hC,fun x y c e1 e2=>I3.ok.inj x y c (cl1 x c e1) (cl1 y c e2),fun x hx=>?_,fun x c e1 e2=>?_,I3.ok.hd,I3.ok.frames,.inl rfl,fun b hb=>⟨fpC b hb,fun x c e=>fpCl b hb x c e⟩,fun b o e=>I3.bs b o e,?_,fun b o e z=>?_,fun b hb=>fpS b hb,I3.stack,I3.stkFree⟩
  ·have hx':(relabel scope X.env).names.lookup x=some .cell\/(relabel scope X.env).names.lookup x=some .free:=hx;have hf:scope.names.lookup x=some .free:=by
    rcases hx' with q | q
    ·exact ad9 q (.inl rfl) O.nocell
    ·exact ad9 q (.inr rfl) O.nocell
   exact Option.isSome_iff_exists.mp (cl2 x (PySem.mem_of_lookup hf))
  ·have e1:(cl.lookup x).isNone=true:=e1;have e2:cl.lookup x=some c:=e2;rw[e2] at e1;cases e1
  ·exact Nat.le_trans I3.ok.bsz I3.sz
  ·obtain⟨z0,z1,z2,z3,_⟩:=f3 b z;rcases z3 with q | q
   ·exact I3.ok.noex b o e q
   ·exact absurd (Nat.lt_of_lt_of_le (Heap.lt_size e) (Nat.le_trans I3.ok.bsz q)) (Nat.lt_irrefl _)
 have I4:Inv (lcx X (T++capN) scope cl C s3 H3 fp) [] (lcs T caps σ) H3 { s3 with heap:=h₁,toks:=s3.toks+([]:List (Str×Value)).length }:=by
  refine⟨hXok,rfl,I3.bare,Un.kept old,⟨_,hns₁,fun i x v e1 e2 e3=>?_⟩,fun x c e=>?_,hCn,fun x c e=>I3.freeC x c (cl1 x c e),fun p hp=>absurd (show p∈([]:List (Addr×Obj)) from hp) (by simp),I3.hok.kept old,?_⟩
  ·have e1:(T++capN)[i]?=some x:=e1;unfold lcs at e2;by_cases hi:i<T.length
   ·rw[List.getElem?_append_left (by simpa using hi),List.getElem?_map] at e2;cases q:T[i]? with
    | none=>rw[q] at e2;cases e2
    | some z=>rw[q] at e2;cases e2
   ·rw[List.getElem?_append_right (by omega)] at e1;rw[List.getElem?_append_right (by simpa using hi),List.getElem?_map,List.length_map] at e2;obtain⟨k,k1,k2,k3⟩:=O.cap _ x e1;rw[k1] at e2;have e2:(σ[k]?).join=some v:=Option.some.inj e2;have e2':σ[k]?=some (some v):=by
     cases q:σ[k]? with
     | none=>rw[q] at e2;cases e2
     | some z=>rw[q] at e2;exact congrArg some e2
    have hcell:X.env.kindOf x=some .cell:=O.free (x,.free) (PySem.mem_of_lookup k3) rfl;obtain⟨m,hn,hl⟩:=I3.loc;obtain⟨u,r,l⟩:=hl k x v k2 e2' (.inr (.inl hcell));refine⟨u,r,.inr ⟨?_,?_⟩⟩
    ·obtain⟨k',e5,e6⟩:=adm (env:=X.env) k3;rcases e6 with z | ⟨_,z⟩
     ·subst z;exact .inr e5
     ·subst z;exact .inl e5
    ·rcases l with⟨l1,_⟩ | ⟨_,c,e7,o,ho1,ho2⟩
     ·rw[hcell] at l1;cases l1
     ·obtain⟨c',e8⟩:=Option.isSome_iff_exists.mp (cl2 x (PySem.mem_of_lookup k3));have:=cl1 x c' e8;rw[e7] at this;cases this;exact⟨c,e8,o,old c o ho1,ho2⟩
  ·obtain⟨v,o,ho1,ho2⟩:=I3.cell x c (cl1 x c e);exact⟨v,o,old c o ho1,ho2⟩
  ·show (lcs T caps σ).length=(T++capN).length;unfold lcs;rw[List.length_append,List.length_append,List.length_map,List.length_map,O.len]
 have fpX:∀ {H':Hp},(∀ b∈fp,H' b=none)->∀ b∈fp,FpOk (lcx X (T++capN) scope cl C s3 H3 fp) [] H' b:=fun hn b hb =>
  ⟨hn b hb,fpC b hb,fpS b hb,.inl hb,fun x c e=>fpCl b hb x c e,fun p hp=>absurd (show p∈([]:List (Addr×Obj)) from hp) (by simp)⟩
 have st4:tn 0 h₁:=TT'.keep _ _ _ st3' fun b _ o e=>old b o e
 have w0':W 0 m0 [] (lcs T caps σ) H3:=w0;have loop:codeAny (model X.prog X.w) X.A (.compLoop (.ListComp elt [⟨tg,iter,ifs,0⟩] scope pos) 0 (.ref it) (.ref D) (compEnvC scope cl C X.env))
   (compPost (model X.prog X.w) X.A X.xe use Qs (.ref D) C) { s3 with heap:=h₁,toks:=s3.toks+([]:List (Str×Value)).length }:=by
  refine ac9 (fun n s'=>∃ i ys σ' H',Inv (lcx X (T++capN) scope cl C s3 H3 fp) [] σ' H' s'/\tn i s'.heap/\(∀ b∈fp,H' b=none)/\W i n ys σ' H') ?_ m0 ⟨0,[],lcs T caps σ,H3,I4,st4,fun b hb=>(f3 b hb).1,w0'⟩;rintro n s5 ⟨i,ys,σ5,H5,I5,st5,fr5,w5⟩;rcases turn i n ys σ5 H5 w5 with⟨stop,qn⟩ | ⟨go,N,F,hN,hF,step⟩
  ·refine thn (TT'.done (lcx X (T++capN) scope cl C s3 H3 fp) rfl rfl rfl hc i [] s5 σ5 H5 _ I5 (fpX fr5) st5 stop) fun r s6 ⟨hr,I6⟩=>?_
   subst hr;obtain⟨m6,hn6,_⟩:=I6.loc;have hfC:H5 C=none:=I6.free;have ub:=I6.base;have hstat:=I3.fpOk (Nat.le_of_eq hC) hCn;refine fin C D s6 H5 (Inv.call' (s':=s6) (ch:=fp) I3 I6.os ?_ I6.hok I6.bare (fun b hb=>⟨(f3 b hb).2.2.2.1,(f3 b hb).2.1,(f3 b hb).2.2.2.2.1,(f3 b hb).2.2.2.2.2⟩)) qn ⟨hfC,hstat.2⟩ ⟨m6,hn6⟩;exact⟨fun b o q n hb hx=>ub.keep b o q n hb hx,fun b o q n hb hx=>ub.slot b o q n hb hx,ub.free,fun b o q hx=>ub.there b o q hx,ub.tups,ub.frzs,ub.tbls⟩
  ·refine thn (TT'.item (lcx X (T++capN) scope cl C s3 H3 fp) rfl rfl rfl hc i [] s5 σ5 H5 _ I5 (fpX fr5) st5 go) fun r s6 ⟨u,hr,h6⟩=>?_
   subst hr;refine thn h6 fun _ s7 ⟨x,H7,I7,r7,y7,st7,fr7⟩=>?_
   have I7':=I7.pinned (fpX fr7) (TT'.obj _ _ st7);have keepT:∀ {σ8:St} {H8:Hp} {s8:Shared},Inv (lcx X (T++capN) scope cl C s3 H3 fp) ([]++aij fp s7.heap) σ8 H8 s8->tn (i+1) s8.heap/\(∀ b∈fp,H8 b=none):=fun {σ8 H8 s8} I8=>by
    refine⟨TT'.keep _ _ _ st7 fun b hb o e=>(I8.pin (b,o) (List.mem_append_right _ (List.mem_append_right _ (ac5 hb e)))).1,fun b hb=>?_⟩;obtain⟨o,e,d⟩:=TT'.obj _ _ st7 b hb;exact (I8.pin (b,o) (List.mem_append_right _ (List.mem_append_right _ (ac5 hb e)))).2.1
   refine thn (hg s3 H3 C cl fp _ s7 σ5 H7 x u _ I7' r7 (step x H7 y7)) fun _ s8 ⟨σ8,H8,I8,q8⟩=>?_
   refine thn (ht s3 H3 C cl fp _ s8 σ8 H8 _ I8 q8) fun ok s9 ⟨H9,I9,q9⟩=>?_
   cases ok with
   | false =>
    rw[if_neg (by simp)] at q9;rw[if_neg (by simp)];obtain⟨m',hm,w9⟩:=hF _ _ q9;exact⟨m',hm,i+1,ys,σ8,H9,I9.unpinned,(keepT I9).1,(keepT I9).2,w9⟩
   | true =>
    rw[if_pos rfl] at q9;rw[if_pos rfl];refine thn (he s3 H3 C cl fp _ s9 σ8 H9 _ I9 q9) fun vv s10 ⟨v,H10,I10,r10,n10⟩=>?_
    obtain⟨a10,z10,m',hm,w10⟩:=hN _ _ _ n10;refine thn (acw (X:=lcx X (T++capN) scope cl C s3 H3 fp) _ s10 σ8 H10 (.ref D) [v] (.ref D) [vv] (fun _ H11=>W (i+1) m' (ys++[v]) σ8 H11) I10 rfl (.cons r10 .nil) ⟨D,ys,v,rfl,rfl,a10,z10,w10⟩) fun _ s11 ⟨_,H11,I11,_,w11⟩=>?_
    exact⟨m',hm,i+1,ys++[v],σ8,H11,I11.unpinned,(keepT I11).1,(keepT I11).2,w11⟩
 exact codeAny_compStart_list loop (TT'.self _ 0 _ _ _ st4 loop)
theorem am2 {i:Nat}{x:Str}{pos' spos:Pos}{elt tg iter:Expr}{ifs:List Expr}{scope:Scope}{pos:Pos}{wi:TI}{g:TG}{tt:TT}{te:TE}(T capN:List Str) (caps:List Nat) (hN:X.N.Nodup) (hi':X.N[i]?=some x) (hx:Loc X.env.scope x)
  (hc:X.calm=true) (hi:PI X tg iter wi) (hk:scope.kind = .function) (ho:lcOk X.N X.env.kindOf scope T capN caps=true)
  (hg:∀ s₀ H₀ C cl fp,PG (lcx X (T++capN) scope cl C s₀ H₀ fp) tg g)
  (ht:∀ s₀ H₀ C cl fp,PIfs (lcx X (T++capN) scope cl C s₀ H₀ fp) ifs tt)
  (he:∀ s₀ H₀ C cl fp,PE (lcx X (T++capN) scope cl C s₀ H₀ fp) elt te)
  (hsw:swapsWith (.ListComp elt [⟨tg,iter,ifs,0⟩] scope pos) (some (.Name x pos')) spos.line X.env=pure true:=by rfl)
  (hs:∀ x,foldedSetIterable iter X.env x=pure x:=by intro _;rfl)
  (hf:X.fn x=true\/X.env.scope.names.lookup x=some .local:=by first | exact .inl rfl | exact .inr rfl | assumption) :
  PS X (.Assign [.Name x pos'] (.ListComp elt [⟨tg,iter,ifs,0⟩] scope pos) spos) (tAsg (tLC T caps wi g tt te) (ac8 i)):=by
 intro pins s σ H D I h;rw[exec_Assign_Name_used _ _ _ _ hsw];refine wpAny_bind (wpAny_standAt (wpAny_bind ?_));show wpAny _ _ (comprehension _ _ _ _ _ _ _ _ >>= fun _=>pure ()) _ _ _;refine wpAny_bind (auq T capN caps hc hi hk ho hg ht he hs I h fun C D0 s6 H5 I6 q fp ⟨m,hn⟩=>?_);show wpAny _ _ (assign (.Name x pos') X.env (.ref D0)) _ _ _;refine wpAny_assign_Name (ak3 I6 hN hi' hx (v:=.ref D0) rfl (fun s' I' hsb=>?_) hf);obtain⟨a,sb,ha⟩:=hsb;have hCa:C≠a:=by
  rcases ha with z | z
  ·rw[z];exact fp.2.1
  ·exact (fp.2.2.2.2.1 x a z).symm
 refine⟨m,hn.sameBut sb hCa,fun h' sb'=>wpAny_pure (wpAny_pure ⟨_,H5,I'.moved (t':=s'.toks) (fp:=[C]) (fun b hb=>?_) (fun b o hb e=>?_),q⟩)⟩
 ·rw[List.mem_singleton.mp hb];exact fp
 ·exact sb'.extBut b o (fun z=>hb (List.mem_singleton.mpr z)) e
end
theorem atx {J:It}{xs:List V}{R:Hp->Prop}{n1 n2 n3:Str}{caps:List Nat}{te:TE}{σ:St}{H1:Hp}{Q:VK}{D:Addr}{K:PySem.W.Frag}(Y:Yields J xs R) (f:Nat->V) (nD:H1 D=none) (hR:∀ H,Same H1 H->R H) (hl:xs.length<=1000)
  (hs:∀ (i:Nat) x H,xs[i]?=some x->Same H1 H->∃ a x1 x2 x3,x = .ref a/\SqT K H a [x1,x2,x3]/\∀ k:VK,k (f i) H->te (some x1::some x2::some x3::caps.map (fun i=>(σ[i]?).join)) H k)
  (hd:Q (.ref D) (upd H1 D (.lst ((List.range xs.length).map f)))):LCW [n1,n2,n3] caps J (gTup K 3 (ae6 (ac8 0) (ae6 (ac8 1) (ae6 (ac8 2) gNil)))) tYes te σ H1 Q D:=by
 have sm:∀ o,Same H1 (upd H1 D o):=fun o b u e=>by rw[aac (aab e nD)];exact e
 refine lc3 Y (fun i ys H=>i<=xs.length/\ys=(List.range i).map f/\H=upd H1 D (.lst ys)) ⟨Nat.zero_le _,rfl,rfl⟩ (fun i ys H _ p=>hR H (by rw[p.2.2];exact sm _)) ?_ ?_
 ·rintro i x ys H hx ⟨hi,rfl,rfl⟩;have hlt:=(List.getElem?_eq_some_iff.mp hx).1;obtain⟨a,x1,x2,x3,e,hq,ht⟩:=hs i x _ hx (sm _);refine⟨a,x1,x2,x3,e,hq,ht _ ⟨⟨_,_,_,rfl⟩,aaa,?_,hlt,?_,?_⟩⟩
  ·rw[List.length_map,List.length_range];exact Nat.lt_of_le_of_lt (show i<=1000 by omega) (by decide)
  ·rw[List.range_succ,List.map_append];rfl
  ·rw[ajl]
 ·rintro ys H ⟨_,rfl,rfl⟩;exact hd
def LcN2 (cs:St) (D:Addr) (Pv:Nat->List V->Hp->Prop) (i:Nat) (ys:List V) (σ2:St):VK:=fun v H5=>(∃ t u,σ2=t::u::cs)/\H5 D=some (.lst ys)/\ys.length<sizeLine/\Pv (i+1) (ys++[v]) (upd H5 D (.lst (ys++[v])))
theorem lcZip {a b:Addr}{xs ys:List V}{n1 n2:Str}{caps:List Nat}{te:TE}{σ:St}{H1:Hp}{Q:VK}{D:Addr}{K:PySem.W.Frag}(hl:xs.length=ys.length) (Pv:Nat->List V->Hp->Prop)
  (h0:Pv 0 [] (upd H1 D (.lst []))) (hR:∀ i zs H,i<=xs.length->Pv i zs H->SqL K H a xs/\SqL K H b ys)
  (hs:∀ i x y zs H p,xs[i]?=some x->ys[i]?=some y->Pv i zs H->H p=none->te (some x::some y::caps.map (fun i=>(σ[i]?).join)) (upd H p (.tup [x,y])) (LcN2 (caps.map (fun i=>(σ[i]?).join)) D Pv i zs (some x::some y::caps.map (fun i=>(σ[i]?).join))))
  (hd:∀ zs H,Pv xs.length zs H->Q (.ref D) H):LCW [n1,n2] caps (Itz K a b) (gTup K 2 (ae6 (ac8 0) (ae6 (ac8 1) gNil))) tYes te σ H1 Q D:=by
 refine⟨fun i m zs σ' H=>m=xs.length-i/\i<=xs.length/\(∃ t u,σ'=t::u::caps.map (fun i=>(σ[i]?).join))/\Pv i zs H,⟨xs.length,by simp,Nat.zero_le _,⟨none,none,rfl⟩,h0⟩,?_⟩;rintro i m zs σ' H' ⟨rfl,hi,⟨t,u,rfl⟩,p⟩;obtain⟨r1,r2⟩:=hR i zs H' hi p;by_cases hlt:i<xs.length
 ·refine .inr ⟨⟨xs,ys,xs[i],ys[i]'(by omega),r1,r2,List.getElem?_eq_getElem hlt,List.getElem?_eq_getElem (by omega)⟩,LcN2 (caps.map (fun i=>(σ[i]?).join)) D Pv i zs,fun _ _=>False,?_,fun _ _ z=>z.elim,fun x H2 y=>?_⟩
  ·rintro σ2 v H5 ⟨ht,a1,a2,a3⟩;exact⟨a1,a2,xs.length-(i+1),by omega,rfl,hlt,ht,a3⟩
  ·obtain⟨q,v,z,nq,rfl,rfl,e1,e2⟩:=y;have hx:=e1 xs r1;have hy:=e2 ys r2;refine⟨q,_,rfl,.inl (.inl aaa),rfl,_,_,rfl,_,_,rfl,rfl,?_⟩;show if (true:Bool)=true then te (some v::some z::caps.map (fun i=>(σ[i]?).join)) (upd H' q (.tup [v,z])) (LcN2 (caps.map (fun i=>(σ[i]?).join)) D Pv i zs (some v::some z::caps.map (fun i=>(σ[i]?).join))) else False
   exact iteT (hs i v z zs H' q hx hy p nq)
 ·have e:i=xs.length:=by omega
  subst e;exact .inl ⟨⟨xs,ys,r1,r2,.inl (Nat.le_refl _)⟩,hd zs H' p⟩
inductive D where
 | non | bl (b:Bool) | int (i:Int) | str (x:Str) | raw (v:V)
 | tup (xs:List D) | lst (xs:List D)
 | dK (kvs:List (Key×D)) | dT (kvs:List (List Key×D))
 | scr (xs:List D)
 | con (xs:List D)
def SqC (K:PySem.W.Frag) (a:Addr) (xs:List V):Prop:=∃ (o:Obj) (its:Array Value) (n:Nat),K.lookup a=some o/\o.cls = .type "tuple" /\ o.data = .seq its n/\its.size<=sizeLine/\Vals xs its.toList
theorem SqC.sqT {K:PySem.W.Frag}{H:Hp}{a:Addr}{xs:List V}(h:SqC K a xs):SqT K H a xs:=.inr h
def SqF (K:PySem.W.Frag) (H:Hp) (a:Addr) (xs:List V):Prop:=(∃ o,H a=some (.frz o (.lst xs))) \/
 ∃ (o:Obj) (its:Array Value) (n:Nat),K.lookup a=some o/\o.cls = .type "list" /\ o.dict=none/\o.data = .seq its n/\its.size<=sizeLine/\Vals xs its.toList
theorem SqF.sqL {K:PySem.W.Frag}{H:Hp}{a:Addr}{xs:List V}(h:SqF K H a xs):SqL K H a xs:=h.elim (fun h=>.inl (.inr h)) .inr
mutual
inductive Rep (K:PySem.W.Frag) (A:Addr->Prop) (H:Hp):D->V->Prop where
 | non:Rep K A H .non .non
 | bl (b:Bool):Rep K A H (.bl b) (.bl b)
 | int (i:Int):Rep K A H (.int i) (.int i)
 | str (x:Str):Rep K A H (.str x) (.str x)
 | raw (v:V):Rep K A H (.raw v) v
 | tup {a:Addr} {vs:List V} {ds:List D}:H a=some (.tup vs)->Reps K A H ds vs->Rep K A H (.tup ds) (.ref a)
 | con {a:Addr} {vs:List V} {ds:List D}:SqC K a vs->Reps K A H ds vs->Rep K A H (.con ds) (.ref a)
 | lst {a:Addr} {vs:List V} {ds:List D}:A a->H a=some (.lst vs)->Reps K A H ds vs->Rep K A H (.lst ds) (.ref a)
 | scr {a:Addr} {vs:List V} {ds:List D}:SqF K H a vs->Reps K A H ds vs->Rep K A H (.scr ds) (.ref a)
 | dK {a:Addr} {kvs:List (Key×V)} {ds:List (Key×D)}:A a->H a=some (.dK kvs)->ds.map (·.1)=kvs.map (·.1)->Reps K A H (ds.map (·.2)) (kvs.map (·.2))->Rep K A H (.dK ds) (.ref a)
 | dT {a:Addr} {kvs:List (List Key×V)} {ds:List (List Key×D)}:A a->Rd H a (.dT kvs)->ds.map (·.1)=kvs.map (·.1)->Reps K A H (ds.map (·.2)) (kvs.map (·.2))->Rep K A H (.dT ds) (.ref a)
inductive Reps (K:PySem.W.Frag) (A:Addr->Prop) (H:Hp):List D->List V->Prop where
 | nil:Reps K A H [] []
 | cons {d:D} {v:V} {ds:List D} {vs:List V}:Rep K A H d v->Reps K A H ds vs->Reps K A H (d::ds) (v::vs)
end
def tupO:HO->Bool
 | .tup _=>true
 | .frz _ _=>true
 | _=>false
def Kp (A A':Addr->Prop) (H H':Hp):Prop:=(∀ a o,A a->H a=some o->A' a/\H' a=some o)/\∀ a o,tupO o=true->H a=some o->H' a=some o
section
variable {K:PySem.W.Frag}{A A':Addr->Prop}{H H':Hp}
theorem Kp.sqF (k:Kp A A' H H'){a:Addr}{vs:List V}(h:SqF K H a vs):SqF K H' a vs:=by
 rcases h with⟨o,h⟩ | h
 ·exact .inl ⟨o,k.2 _ _ rfl h⟩
 ·exact .inr h
theorem Kp.rd (k:Kp A A' H H'){a:Addr}{u:HO}(ha:A a) (h:Rd H a u):A' a/\Rd H' a u:=by
 rcases h with h | ⟨o,h⟩
 ·exact⟨(k.1 _ _ ha h).1,.inl (k.1 _ _ ha h).2⟩
 ·exact⟨(k.1 _ _ ha h).1,.inr ⟨o,(k.1 _ _ ha h).2⟩⟩
theorem Rep.mono (k:Kp A A' H H'){d:D}{v:V}(h:Rep K A H d v):Rep K A' H' d v :=
 Rep.rec (motive_1:=fun d v _=>Rep K A' H' d v) (motive_2:=fun ds vs _=>Reps K A' H' ds vs) .non .bl .int .str .raw (fun h _ r=>.tup (k.2 _ _ rfl h) r) (fun h _ r=>.con h r)
  (fun ha h _ r=>.lst (k.1 _ _ ha h).1 (k.1 _ _ ha h).2 r) (fun h _ r=>.scr (k.sqF h) r) (fun ha h e _ r=>.dK (k.1 _ _ ha h).1 (k.1 _ _ ha h).2 e r) (fun ha h e _ r=>.dT (k.rd ha h).1 (k.rd ha h).2 e r) .nil (fun _ _ h r=>.cons h r) h
theorem Reps.mono (k:Kp A A' H H'){ds:List D}{vs:List V}(h:Reps K A H ds vs):Reps K A' H' ds vs:=by
 induction ds generalizing vs with
 | nil=>cases h;exact .nil
 | cons d ds ih=>cases h with | cons g r=>exact .cons (g.mono k) (ih r)
theorem Kp.all (h:∀ a,A a->A' a):Kp A A' H H:=⟨fun a o ha e=>⟨h a ha,e⟩,fun _ _ _ e=>e⟩
theorem Kp.trans {A'':Addr->Prop}{H'':Hp}(a:Kp A A' H H') (b:Kp A' A'' H' H''):Kp A A'' H H'':=⟨fun x o hx e=>let ⟨p,q⟩:=a.1 x o hx e;b.1 x o p q,fun x o t e=>b.2 x o t (a.2 x o t e)⟩
theorem Kp.laid {p:Addr}{o:HO}(hp:H p=none) (h:∀ a,A a->a≠p->A' a):Kp A A' H (upd H p o) :=
 ⟨fun a u ha e=>⟨h a ha (aab e hp),by rw[aac (aab e hp)];exact e⟩,fun a u _ e=>by rw[aac (aab e hp)];exact e⟩
theorem Kp.same (s:Same H H') (h:∀ a,A a->A' a):Kp A A' H H':=⟨fun a o ha e=>⟨h a ha,s a o e⟩,fun a o _ e=>s a o e⟩
theorem Kp.write {p:Addr}{o u:HO}(hp:H p=some u) (hu:tupO u=false) (hn:¬ A p):Kp A A H (upd H p o):=by
 refine⟨fun a w ha e=>⟨ha,?_⟩,fun a w t e=>?_⟩
 ·rw[aac (fun z:a=p=>hn (by rw[← z];exact ha))];exact e
 ·rw[aac (fun z=>?_)]
  ·exact e
  ·subst z;rw[hp] at e;cases e;rw[t] at hu;cases hu
theorem Reps.length {ds:List D}{vs:List V}(h:Reps K A H ds vs):ds.length=vs.length:=by
 induction ds generalizing vs with
 | nil=>cases h;rfl
 | cons d ds ih=>cases h with | cons g r=>exact congrArg (·+1) (ih r)
theorem Reps.get {ds:List D}{vs:List V}{i:Nat}{d:D}(h:Reps K A H ds vs) (e:ds[i]?=some d):∃ v,vs[i]?=some v/\Rep K A H d v:=by
 induction ds generalizing vs i with
 | nil=>cases e
 | cons c ds ih =>
  cases h with
  | cons g r =>
   cases i with
   | zero=>cases e;exact⟨_,rfl,g⟩
   | succ i=>exact ih r (i:=i) e
theorem Reps.getV {ds:List D}{vs:List V}{i:Nat}{v:V}(h:Reps K A H ds vs) (e:vs[i]?=some v):∃ d,ds[i]?=some d/\Rep K A H d v:=by
 induction ds generalizing vs i with
 | nil=>cases h;cases e
 | cons c ds ih =>
  cases h with
  | cons g r =>
   cases i with
   | zero=>cases e;exact⟨_,rfl,g⟩
   | succ i=>exact ih r (i:=i) e
theorem Reps.append {ds es:List D}{vs us:List V}(h:Reps K A H ds vs) (s:Reps K A H es us):Reps K A H (ds++es) (vs++us):=by
 induction ds generalizing vs with
 | nil=>cases h;exact s
 | cons d ds ih=>cases h with | cons g r=>exact .cons g (ih r)
theorem Reps.take:∀ {ds:List D}{vs:List V}(n:Nat),Reps K A H ds vs->Reps K A H (ds.take n) (vs.take n)
 | _,_,0,_=>by rw[List.take_zero,List.take_zero];exact .nil
 | _,_,n+1,.nil=>.nil
 | _,_,n+1,.cons h r=>.cons h (Reps.take n r)
theorem Reps.drop:∀ {ds:List D}{vs:List V}(n:Nat),Reps K A H ds vs->Reps K A H (ds.drop n) (vs.drop n)
 | _,_,0,h=>h
 | _,_,n+1,.nil=>.nil
 | _,_,n+1,.cons h r=>Reps.drop n r
theorem Reps.set {d:D}{v:V}(h:Rep K A H d v):∀ {ds:List D}{vs:List V}(i:Nat),Reps K A H ds vs->Reps K A H (ds.set i d) (vs.set i v)
 | _,_,_,.nil=>.nil
 | _,_,0,.cons _ r=>.cons h r
 | _,_,i+1,.cons g r=>.cons g (Reps.set h i r)
theorem Reps.erase:∀ {ds:List D}{vs:List V}(i:Nat),Reps K A H ds vs->Reps K A H (ds.eraseIdx i) (vs.eraseIdx i)
 | _,_,_,.nil=>.nil
 | _,_,0,.cons _ r=>r
 | _,_,i+1,.cons g r=>.cons g (Reps.erase i r)
theorem Reps.nil_iff {ds:List D}{vs:List V}(h:Reps K A H ds vs):vs=[]↔ds=[]:=by
 cases h<;>simp
theorem Rep.int_inv {i:Int}{v:V}(h:Rep K A H (.int i) v):v = .int i:=by cases h;rfl
theorem Rep.str_inv {i:Str}{v:V}(h:Rep K A H (.str i) v):v = .str i:=by cases h;rfl
theorem Rep.bl_inv {i:Bool}{v:V}(h:Rep K A H (.bl i) v):v = .bl i:=by cases h;rfl
theorem Rep.non_inv {v:V}(h:Rep K A H .non v):v = .non:=by cases h;rfl
theorem Rep.raw_inv {u v:V}(h:Rep K A H (.raw u) v):v=u:=by cases h;rfl
theorem Rep.tup_inv {ds:List D}{v:V}(h:Rep K A H (.tup ds) v):∃ a vs,v = .ref a/\H a=some (.tup vs)/\Reps K A H ds vs:=by
 cases h with | tup h r=>exact⟨_,_,rfl,h,r⟩
theorem Rep.lst_inv {ds:List D}{v:V}(h:Rep K A H (.lst ds) v):∃ a vs,v = .ref a/\A a/\H a=some (.lst vs)/\Reps K A H ds vs:=by
 cases h with | lst ha h r=>exact⟨_,_,rfl,ha,h,r⟩
theorem Rep.con_inv {ds:List D}{v:V}(h:Rep K A H (.con ds) v):∃ a vs,v = .ref a/\SqC K a vs/\Reps K A H ds vs:=by
 cases h with | con h r=>exact⟨_,_,rfl,h,r⟩
theorem Rep.scr_inv {ds:List D}{v:V}(h:Rep K A H (.scr ds) v):∃ a vs,v = .ref a/\SqF K H a vs/\Reps K A H ds vs:=by
 cases h with | scr h r=>exact⟨_,_,rfl,h,r⟩
end
mutual
def imm:D->Bool
 | .tup xs=>immL xs
 | .scr xs=>immL xs
 | .con xs=>immL xs
 | .lst _=>false
 | .dK _=>false
 | .dT _=>false
 | _=>true
def immL:List D->Bool
 | []=>true
 | d::ds=>imm d&&immL ds
end
section
variable {K:PySem.W.Frag}{A A':Addr->Prop}{H:Hp}
theorem Rep.imm {d:D}{v:V}(h:Rep K A H d v):imm d=true->Rep K A' H d v :=
 Rep.rec (motive_1:=fun d v _=>L2.imm d=true->Rep K A' H d v) (motive_2:=fun ds vs _=>immL ds=true->Reps K A' H ds vs) (fun _=>.non) (fun b _=>.bl b) (fun i _=>.int i) (fun x _=>.str x) (fun v _=>.raw v) (fun h _ r e=>.tup h (r e)) (fun h _ r e=>.con h (r e))
  (fun _ _ _ _ e=>Bool.noConfusion (show false=true from e)) (fun h _ r e=>.scr h (r e)) (fun _ _ _ _ _ e=>Bool.noConfusion (show false=true from e)) (fun _ _ _ _ _ e=>Bool.noConfusion (show false=true from e)) (fun _=>.nil) (fun _ _ h r e=>.cons (h (Bool.and_eq_true_iff.mp e).1) (r (Bool.and_eq_true_iff.mp e).2)) h
theorem Reps.imm {ds:List D}{vs:List V}(h:Reps K A H ds vs) (e:immL ds=true):Reps K A' H ds vs:=by
 induction ds generalizing vs with
 | nil=>cases h;exact .nil
 | cons d ds ih=>cases h with | cons g r=>exact .cons (g.imm (Bool.and_eq_true_iff.mp e).1) (ih r (Bool.and_eq_true_iff.mp e).2)
end
end L2
namespace Lw
open PySem L2
structure DeckAt (H:Hp) (d c:Addr):Prop where
 ex:∃ (ns:List Int) (p:Int),H d=some (.lst [.ref c,.int p])/\H c=some (.lst (ns.map V.int))/\0<ns.length/\ns.length<=100
def Keep (d c:Addr) (H H':Hp):Prop:=∀ b o,H b=some o->b≠d->b≠c->H' b=some o
theorem Keep.trans {d c:Addr}{H H1 H2:Hp}(a:Keep d c H H1) (b:Keep d c H1 H2):Keep d c H H2:=fun x o e h1 h2=>b x o (a x o e h1 h2) h1 h2
theorem Keep.new {d c p:Addr}{H:Hp}{o:HO}(h:H p=none):Keep d c H (upd H p o):=fun b u e _ _=>by rw[aac (aab e h)];exact e
theorem DeckAt.ne {H:Hp}{d c:Addr}(D:DeckAt H d c):d≠c:=by
 obtain⟨ns,p,h1,h2,h3,_⟩:=D.ex;intro e;subst e;rw[h1] at h2;injection h2 with h2;injection h2 with h2;cases ns with
 | nil=>simp at h3
 | cons a r=>simp at h2
theorem DeckAt.upd_other {H:Hp}{d c p:Addr}{o:HO}(D:DeckAt H d c) (hd:p≠d) (hc:p≠c):DeckAt (upd H p o) d c:=by
 obtain⟨ns,q,h1,h2,h3,h4⟩:=D.ex;exact⟨ns,q,by rw[aac hd.symm];exact h1,by rw[aac hc.symm];exact h2,h3,h4⟩
theorem DeckAt.ned {H:Hp}{d c p:Addr}(D:DeckAt H d c) (h:H p=none):p≠d/\p≠c:=by
 obtain⟨ns,q,h1,h2,_⟩:=D.ex;exact⟨(aab h1 h).symm,(aab h2 h).symm⟩
theorem DeckAt.new {H:Hp}{d c p:Addr}{o:HO}(D:DeckAt H d c) (h:H p=none):DeckAt (upd H p o) d c:=D.upd_other (D.ned h).1 (D.ned h).2
theorem DeckAt.ne_some {H:Hp}{d c p:Addr}{o:HO}(D:DeckAt H d c) (h:H p=some o) (n1:∀ xs,o ≠ .lst xs):p≠d/\p≠c:=by
 obtain⟨ns,q,h1,h2,_⟩:=D.ex;exact⟨aqv h h1 (n1 _),aqv h h2 (n1 _)⟩
end Lw
namespace L2
open PySem PySem.Spec PyProof.Rows Lw
inductive Sl where
 | no | val (d:D) | own (d:D)
abbrev Ents:=List (Sl×Option V)
def Dk (dk:List Addr) (H:Hp):Prop:=dk=[]\/∃ d c,dk=[d,c]/\DeckAt H d c
theorem Dk.some {dk:List Addr}{H:Hp}(h:Dk dk H){a:Addr}(ha:a∈dk):∃ xs,H a=some (.lst xs):=by
 rcases h with rfl | ⟨d,c,rfl,h⟩
 ·cases ha
 ·obtain⟨ns,p,h1,h2,_⟩:=h.ex;rcases List.mem_cons.mp ha with rfl | ha
  ·exact⟨_,h1⟩
  ·rcases List.mem_cons.mp ha with rfl | ha
   ·exact⟨_,h2⟩
   ·cases ha
theorem Dk.keep {dk:List Addr}{H H':Hp}(h:Dk dk H) (k:∀ a∈dk,H' a=H a):Dk dk H':=by
 rcases h with rfl | ⟨d,c,rfl,h⟩
 ·exact .inl rfl
 ·refine .inr ⟨d,c,rfl,?_⟩;obtain⟨ns,p,h1,h2,h3⟩:=h.ex;exact⟨ns,p,by rw[k d (by simp)];exact h1,by rw[k c (by simp)];exact h2,h3⟩
theorem Dk.upd {dk:List Addr}{H:Hp}(h:Dk dk H){p:Addr}{o:HO}(hp:p∉dk):Dk dk (upd H p o):=h.keep fun a ha=>aac fun z=>hp (z▸ha)
def ana:Sl×Option V->Option Addr
 | (.own _,some (.ref a))=>some a
 | _=>none
def aaf (L:Ents):List Addr:=L.filterMap ana
structure Bs where
 dk:List Addr
 A0:Addr->Prop
 H0:Hp
def Al (B:Bs) (R:List Addr) (a:Addr):Prop:=a∉B.dk/\a∉R/\(B.A0 a\/B.H0 a=none)
def Root (K:PySem.W.Frag) (A:Addr->Prop) (H:Hp) (a:Addr):D->Prop
 | .lst ds=>∃ vs,H a=some (.lst vs)/\Reps K A H ds vs
 | .dK ds=>∃ kvs,H a=some (.dK kvs)/\ds.map (·.1)=kvs.map (·.1)/\Reps K A H (ds.map (·.2)) (kvs.map (·.2))
 | .dT ds=>∃ kvs,H a=some (.dT kvs)/\ds.map (·.1)=kvs.map (·.1)/\Reps K A H (ds.map (·.2)) (kvs.map (·.2))
 | _=>False
def SlOk (K:PySem.W.Frag) (A:Addr->Prop) (H:Hp):Sl->Option V->Prop
 | .no,_=>True
 | .val d,x=>∃ v,x=some v/\Rep K A H d v
 | .own d,x=>∃ a,x=some (.ref a)/\Root K A H a d
structure DS (K:PySem.W.Frag) (B:Bs) (L:Ents) (H:Hp):Prop where
 fr:∀ b o,B.H0 b=some o->b∉B.dk->H b=some o
 dk:Dk B.dk H
 nd:(aaf L).Nodup
 new:∀ a∈aaf L,B.H0 a=none/\a∉B.dk
 ok:∀ p∈L,SlOk K (Al B (aaf L)) H p.1 p.2
section
variable {K:PySem.W.Frag}{A A':Addr->Prop}{B:Bs}{H H':Hp}{L L1 L2:Ents}{x:Sl×Option V}{d:D}{v:V}{a:Addr}
theorem Root.mono (k:Kp A A' H H') (ha:∀ o,H a=some o->H' a=some o):∀ {d:D},Root K A H a d->Root K A' H' a d
 | .lst _,⟨vs,h,r⟩=>⟨vs,ha _ h,r.mono k⟩
 | .dK _,⟨vs,h,e,r⟩=>⟨vs,ha _ h,e,r.mono k⟩
 | .dT _,⟨vs,h,e,r⟩=>⟨vs,ha _ h,e,r.mono k⟩
theorem Root.some:∀ {d:D},Root K A H a d->∃ o,H a=some o/\tupO o=false
 | .lst _,⟨vs,h,r⟩=>⟨_,h,rfl⟩
 | .dK _,⟨vs,h,e,r⟩=>⟨_,h,rfl⟩
 | .dT _,⟨vs,h,e,r⟩=>⟨_,h,rfl⟩
theorem Root.rep (hA:∀ b,A b->A' b) (ha:A' a):∀ {d:D},Root K A H a d->Rep K A' H d (.ref a)
 | .lst _,⟨vs,h,r⟩=>.lst ha h (r.mono (.all hA))
 | .dK _,⟨vs,h,e,r⟩=>.dK ha h e (r.mono (.all hA))
 | .dT _,⟨vs,h,e,r⟩=>.dT ha (.inl h) e (r.mono (.all hA))
theorem SlOk.mono (k:Kp A A' H H'){s:Sl}{y:Option V}(h:SlOk K A H s y) (hr:∀ a,ana (s,y)=some a->∀ o,H a=some o->H' a=some o):SlOk K A' H' s y:=by
 cases s with
 | no=>trivial
 | val d=>obtain⟨v,e,r⟩:=h;exact⟨v,e,r.mono k⟩
 | own d=>obtain⟨a,rfl,r⟩:=h;exact⟨a,rfl,r.mono k (hr a rfl)⟩
theorem aa4:aaf (L1++L2)=aaf L1++aaf L2:=List.filterMap_append
theorem aco:a∈aaf L↔∃ p∈L,ana p=some a:=List.mem_filterMap
theorem abg:aaf (L1++x::L2)=aaf L1++((ana x).toList++aaf L2):=by
 unfold aaf;rw[List.filterMap_append,List.filterMap_cons];cases ana x<;>rfl
theorem DS.live (h:DS K B L H) (ha:a∈aaf L):∃ o,H a=some o/\tupO o=false:=by
 obtain⟨p,hp,e⟩:=aco.mp ha;have:=h.ok p hp;obtain⟨s,y⟩:=p;cases s with
 | no=>cases e
 | val d=>cases e
 | own d =>
  obtain⟨b,rfl,r⟩:=this;cases e;exact r.some
theorem DS.drop (h:DS K B (L1++x::L2) H):DS K B (L1++L2) H:=by
 have e:=abg (L1:=L1) (x:=x) (L2:=L2);have hm:∀ a,a∈aaf (L1++L2)->a∈aaf (L1++x::L2):=fun a ha=>by
  rw[aa4] at ha;rw[e];simp only[List.mem_append] at ha ⊢;rcases ha with q | q
  ·exact .inl q
  ·exact .inr (.inr q)
 refine⟨h.fr,h.dk,?_,fun a ha=>h.new a (hm a ha),fun p hp=>?_⟩
 ·have n:=h.nd;rw[e] at n;rw[aa4];obtain⟨n1,n2,n3⟩:=List.nodup_append.mp n;exact List.nodup_append.mpr ⟨n1,(List.nodup_append.mp n2).2.1,fun a ha b hb=>n3 a ha b (List.mem_append_right _ hb)⟩
 ·refine (h.ok p (by simp only[List.mem_append,List.mem_cons] at hp ⊢;rcases hp with q | q;exact .inl q;exact .inr (.inr q))).mono (.all fun a z=>⟨z.1,fun q=>z.2.1 (hm a q),z.2.2⟩) (fun _ _ _ q=>q)
theorem DS.at (h:DS K B (L1++x::L2) H):SlOk K (Al B (aaf (L1++x::L2))) H x.1 x.2:=h.ok x (List.mem_append_right _ List.mem_cons_self)
theorem DS.valAt (h:DS K B (L1++(.val d,some v)::L2) H):Rep K (Al B (aaf (L1++L2))) H d v:=by
 obtain⟨u,e,r⟩:=h.at;cases e;have:aaf (L1++(Sl.val d,some v)::L2)=aaf (L1++L2):=by rw[abg,aa4];rfl
 rw[this] at r;exact r
theorem DS.push (h:DS K B (L1++L2) H) (r:Rep K (Al B (aaf (L1++L2))) H d v):DS K B (L1++(.val d,some v)::L2) H:=by
 have e:aaf (L1++(Sl.val d,some v)::L2)=aaf (L1++L2):=by rw[abg,aa4];rfl
 refine⟨h.fr,h.dk,by rw[e];exact h.nd,by rw[e];exact h.new,fun p hp=>?_⟩;rw[e];simp only[List.mem_append,List.mem_cons] at hp;rcases hp with q | q | q
 ·exact h.ok p (List.mem_append_left _ q)
 ·subst q;exact⟨v,rfl,r⟩
 ·exact h.ok p (List.mem_append_right _ q)
theorem DS.pushN (h:DS K B (L1++L2) H) (y:Option V):DS K B (L1++(.no,y)::L2) H:=by
 have e:aaf (L1++(Sl.no,y)::L2)=aaf (L1++L2):=by rw[abg,aa4];rfl
 refine⟨h.fr,h.dk,by rw[e];exact h.nd,by rw[e];exact h.new,fun p hp=>?_⟩;rw[e];simp only[List.mem_append,List.mem_cons] at hp;rcases hp with q | q | q
 ·exact h.ok p (List.mem_append_left _ q)
 ·subst q;trivial
 ·exact h.ok p (List.mem_append_right _ q)
theorem DS.grow (h:DS K B L H) (s:Same H H') (dk:Dk B.dk H'):DS K B L H' :=
 ⟨fun b o e n=>s b o (h.fr b o e n),dk,h.nd,h.new,fun p hp=>(h.ok p hp).mono (.same s fun _ z=>z) (fun _ _ o q=>s _ o q)⟩
theorem DS.free (h:DS K B L H) (hp:H a=none):B.H0 a=none/\a∉B.dk/\a∉aaf L:=by
 have n:a∉B.dk:=fun z=>by obtain⟨xs,e⟩:=h.dk.some z;rw[e] at hp;cases hp
 refine⟨?_,n,fun z=>by obtain⟨o,e,_⟩:=h.live z;rw[e] at hp;cases hp⟩;cases e:B.H0 a with
 | none=>rfl
 | some o=>rw[h.fr a o e n] at hp;cases hp
theorem DS.laid (h:DS K B L H){o:HO}(hp:H a=none):DS K B L (upd H a o) :=
 h.grow (fun b u e=>by rw[aac (aab e hp)];exact e) (h.dk.upd (h.free hp).2.1)
theorem DS.tup (h:DS K B (L1++L2) H){ds:List D}{vs:List V}(hp:H a=none) (r:Reps K (Al B (aaf (L1++L2))) H ds vs):DS K B (L1++(.val (.tup ds),some (.ref a))::L2) (upd H a (.tup vs)) :=
 (h.laid hp).push (.tup aaa (r.mono (.laid hp fun _ z _=>z)))
theorem DS.make (h:DS K B (L1++L2) H){o:HO}(hp:H a=none) (r:∀ A',Kp (Al B (aaf (L1++L2))) A' H (upd H a o)->Root K A' (upd H a o) a d):DS K B (L1++(.own d,some (.ref a))::L2) (upd H a o):=by
 obtain⟨f1,f2,f3⟩:=h.free hp;have e:aaf (L1++(Sl.own d,some (.ref a))::L2)=aaf L1++a::aaf L2:=abg;have hm:∀ b,b∈aaf L1++a::aaf L2↔b=a\/b∈aaf (L1++L2):=fun b=>by
  rw[aa4];simp only[List.mem_append,List.mem_cons];constructor
  ·rintro (q | q | q)
   ·exact .inr (.inl q)
   ·exact .inl q
   ·exact .inr (.inr q)
  ·rintro (q | q | q)
   ·exact .inr (.inl q)
   ·exact .inl q
   ·exact .inr (.inr q)
 have kp:Kp (Al B (aaf (L1++L2))) (Al B (aaf L1++a::aaf L2)) H (upd H a o):=.laid hp fun b z n=>⟨z.1,fun q=>(hm b).mp q |>.elim n z.2.1,z.2.2⟩
 refine⟨fun b u q n=>by rw[aac (aab (h.fr b u q n) hp)];exact h.fr b u q n,h.dk.upd f2,?_,fun b hb=>?_,fun p hp'=>?_⟩
 ·rw[e];have n:=h.nd;rw[aa4] at n f3;obtain⟨n1,n2,n3⟩:=List.nodup_append.mp n;refine List.nodup_append.mpr ⟨n1,List.nodup_cons.mpr ⟨fun z=>f3 (List.mem_append_right _ z),n2⟩,fun b hb c hc=>?_⟩;rcases List.mem_cons.mp hc with q | q
  ·intro z;subst z;subst q;exact f3 (List.mem_append_left _ hb)
  ·exact n3 b hb c q
 ·rw[e] at hb;rcases (hm b).mp hb with q | q
  ·subst q;exact⟨f1,f2⟩
  ·exact h.new b q
 ·rw[e];simp only[List.mem_append,List.mem_cons] at hp';have old:∀ p∈L1++L2,SlOk K (Al B (aaf L1++a::aaf L2)) (upd H a o) p.1 p.2:=fun p hp'=>(h.ok p hp').mono kp fun b hb w q=>by rw[aac (aab q hp)];exact q
  rcases hp' with q | q | q
  ·exact old p (List.mem_append_left _ q)
  ·subst q;exact⟨a,rfl,r _ kp⟩
  ·exact old p (List.mem_append_right _ q)
theorem DS.freeze (h:DS K B (L1++(.own d,some v)::L2) H):DS K B (L1++(.val d,some v)::L2) H:=by
 obtain⟨a,e,r⟩:=h.at;cases e;have e1:aaf (L1++(Sl.own d,some (V.ref a))::L2)=aaf L1++a::aaf L2:=abg;have hd:=h.drop;have nw:=h.new a (by rw[e1];simp);refine hd.push (r.rep (fun b z=>⟨z.1,fun q=>z.2.1 ?_,z.2.2⟩) ⟨nw.2,fun q=>?_,.inr nw.1⟩)
 ·rw[e1];rw[aa4] at q;simp only[List.mem_append,List.mem_cons] at q ⊢;rcases q with q | q
  ·exact .inl q
  ·exact .inr (.inr q)
 ·have n:=h.nd;rw[e1] at n;rw[aa4] at q;obtain⟨n1,n2,n3⟩:=List.nodup_append.mp n;rcases List.mem_append.mp q with q | q
  ·exact n3 a q a List.mem_cons_self rfl
  ·exact (List.nodup_cons.mp n2).1 q
theorem DS.write (h:DS K B (L1++(.own d,some (.ref a))::L2) H){o:HO}{d':D}(r:∀ A',Kp (Al B (aaf L1++a::aaf L2)) A' H (upd H a o)->Root K A' (upd H a o) a d'):DS K B (L1++(.own d',some (.ref a))::L2) (upd H a o):=by
 have e1:∀ d,aaf (L1++(Sl.own d,some (V.ref a))::L2)=aaf L1++a::aaf L2:=fun d=>abg
 have nw:=h.new a (by rw[e1];simp);obtain⟨u,hu,tu⟩:=h.live (a:=a) (by rw[e1];simp);have kp:Kp (Al B (aaf L1++a::aaf L2)) (Al B (aaf L1++a::aaf L2)) H (upd H a o):=.write hu tu fun z=>z.2.1 (by simp)
 have n:=h.nd;rw[e1] at n;have na:∀ b,b∈aaf L1\/b∈aaf L2->b≠a:=fun b hb z=>by
  subst z;obtain⟨n1,n2,n3⟩:=List.nodup_append.mp n;rcases hb with hb | hb
  ·exact n3 b hb b List.mem_cons_self rfl
  ·exact (List.nodup_cons.mp n2).1 hb
 refine⟨fun b w q m=>?_,h.dk.upd nw.2,by rw[e1];exact n,fun b hb=>h.new b (by rw[e1] at hb ⊢;exact hb),fun p hp'=>?_⟩
 ·have:b≠a:=fun z=>by subst z;rw[nw.1] at q;cases q
  rw[aac this];exact h.fr b w q m
 ·rw[e1];have old:∀ p,p∈L1\/p∈L2->SlOk K (Al B (aaf L1++a::aaf L2)) (upd H a o) p.1 p.2:=fun p hp=>by
   have:=h.ok p (by simp only[List.mem_append,List.mem_cons];rcases hp with q | q;exact .inl q;exact .inr (.inr q));rw[e1] at this;refine this.mono kp fun b hb w q=>?_
   rw[aac (na b ?_)]
   ·exact q
   ·rcases hp with z | z
    ·exact .inl (aco.mpr ⟨p,z,hb⟩)
    ·exact .inr (aco.mpr ⟨p,z,hb⟩)
  simp only[List.mem_append,List.mem_cons] at hp';rcases hp' with q | q | q
  ·exact old p (.inl q)
  ·subst q;exact⟨a,rfl,r _ kp⟩
  ·exact old p (.inr q)
theorem DS.ownAt (h:DS K B (L1++(.own d,some v)::L2) H):∃ a,v = .ref a/\Root K (Al B (aaf L1++a::aaf L2)) H a d:=by
 obtain⟨a,e,r⟩:=h.at;cases e;rw[show aaf (L1++(Sl.own d,some (V.ref a))::L2)=aaf L1++a::aaf L2 from abg] at r;exact⟨a,rfl,r⟩
theorem DS.perm (h:DS K B L H){M:Ents}(p:L.Perm M):DS K B M H:=by
 have e:(aaf L).Perm (aaf M):=p.filterMap ana;refine⟨h.fr,h.dk,e.nodup_iff.mp h.nd,fun a ha=>h.new a (e.mem_iff.mpr ha),fun q hq=>(h.ok q (p.mem_iff.mpr hq)).mono (.all fun a z=>⟨z.1,fun w=>z.2.1 (e.mem_iff.mpr w),z.2.2⟩) fun _ _ _ w=>w⟩
end
section
theorem afi {ρ:List Sl}{σ:St}(hl:ρ.length=σ.length){i:Nat}{s:Sl}(h:ρ[i]?=some s):∃ l1 y l2,σ[i]?=some y/\l1.length=i/\ρ.zip σ=l1++(s,y)::l2/\∀ s' y',(ρ.set i s').zip (σ.set i y')=l1++(s',y')::l2:=by
 induction ρ generalizing σ i with
 | nil=>simp at h
 | cons r ρ ih =>
  cases σ with
  | nil=>simp at hl
  | cons z σ =>
   cases i with
   | zero=>simp at h;subst h;exact⟨[],z,ρ.zip σ,rfl,rfl,rfl,fun _ _=>rfl⟩
   | succ i =>
    obtain⟨l1,y,l2,h1,h2,h3,h4⟩:=ih (σ:=σ) (by simpa using hl) (i:=i) (by simpa using h);exact⟨(r,z)::l1,y,l2,by simpa using h1,by simp[h2],by simp[h3],fun s' y'=>by simp[h4]⟩
theorem afm {σ:St}{i:Nat}{y:Option V}(h:σ[i]?=some y):σ.set i y=σ:=by
 obtain⟨hi,rfl⟩:=List.getElem?_eq_some_iff.mp h;exact List.set_getElem_self hi
end
abbrev TEd:=List Addr->List Sl->(Sl->List Sl->Prop)->Prop
abbrev TTd:=List Addr->List Sl->(Bool->List Sl->Prop)->Prop
def dE (K:PySem.W.Frag) (τ:TEd):TE:=fun σ H Q=>∃ (B:Bs) (ρ:List Sl) (T:Ents) (Φ:Sl->List Sl->Prop),ρ.length=σ.length/\DS K B (ρ.zip σ++T) H/\τ B.dk ρ Φ /\
 ∀ r ρ' v H',ρ'.length=σ.length->DS K B (ρ'.zip σ++(r,some v)::T) H'->Φ r ρ'->Q v H'
def dTt (K:PySem.W.Frag) (τ:TTd):TT:=fun σ H Q=>∃ (B:Bs) (ρ:List Sl) (T:Ents) (Φ:Bool->List Sl->Prop),ρ.length=σ.length/\DS K B (ρ.zip σ++T) H/\τ B.dk ρ Φ /\
 ∀ b ρ' H',ρ'.length=σ.length->DS K B (ρ'.zip σ++T) H'->Φ b ρ'->Q b H'
theorem dE.elim {K:PySem.W.Frag}{τ:TEd}{σ:St}{H:Hp}{Q:VK}{P:Prop}(h:dE K τ σ H Q) (f:∀ (B:Bs) (ρ:List Sl) (T:Ents) (Φ:Sl->List Sl->Prop),ρ.length=σ.length->DS K B (ρ.zip σ++T) H->τ B.dk ρ Φ ->(∀ r ρ' v H',ρ'.length=σ.length->DS K B (ρ'.zip σ++(r,some v)::T) H'->Φ r ρ'->Q v H')->P):P:=by
 obtain⟨B,ρ,T,Φ,hl,hd,ht,k⟩:=h;exact f B ρ T Φ hl hd ht k
theorem dTt.elim {K:PySem.W.Frag}{τ:TTd}{σ:St}{H:Hp}{Q:Bool->Hp->Prop}{P:Prop}(h:dTt K τ σ H Q) (f:∀ (B:Bs) (ρ:List Sl) (T:Ents) (Φ:Bool->List Sl->Prop),ρ.length=σ.length->DS K B (ρ.zip σ++T) H->τ B.dk ρ Φ ->(∀ b ρ' H',ρ'.length=σ.length->DS K B (ρ'.zip σ++T) H'->Φ b ρ'->Q b H')->P):P:=by
 obtain⟨B,ρ,T,Φ,hl,hd,ht,k⟩:=h;exact f B ρ T Φ hl hd ht k
abbrev PD (X:Cx) (e:Expr) (τ:TEd):Prop:=PE X e (dE X.K τ)
abbrev PDt (X:Cx) (e:Expr) (τ:TTd):Prop:=PT X e (dTt X.K τ)
abbrev PDw (X:Cx) (e:Expr) (τ:TTd):Prop:=PW X e (dTt X.K τ)
theorem PE.mono {X:Cx}{e:Expr}{t t':TE}(h:PE X e t) (k:∀ σ H Q,t' σ H Q->t σ H Q):PE X e t':=fun pins s σ H Q I q=>h pins s σ H Q I (k σ H Q q)
theorem PT.mono {X:Cx}{e:Expr}{t t':TT}(h:PT X e t) (k:∀ σ H Q,t' σ H Q->t σ H Q):PT X e t':=fun pins s σ H Q I q=>h pins s σ H Q I (k σ H Q q)
theorem PW.mono {X:Cx}{e:Expr}{t t':TT}(h:PW X e t) (k:∀ σ H Q,t' σ H Q->t σ H Q):PW X e t':=fun wh pins s σ H Q I q=>h wh pins s σ H Q I (k σ H Q q)
def sd:Sl->Option D
 | .val d=>some d
 | .own d=>some d
 | .no=>none
section
variable {K:PySem.W.Frag}{B:Bs}{H:Hp}{L L1 L2 T:Ents}{x:Sl×Option V}{d e:D}{r r':Sl}{v u:V}
theorem ag9 {y:Option V}:aaf (L1++(Sl.val d,y)::L2)=aaf (L1++L2):=by rw[abg,aa4];rfl
theorem DS.thaw (h:DS K B (L1++(r,some v)::L2) H) (e:sd r=some d):DS K B (L1++(.val d,some v)::L2) H:=by
 cases r with
 | no=>cases e
 | val c=>cases e;exact h
 | own c=>cases e;exact h.freeze
theorem DS.one (h:DS K B (L++(r,some v)::T) H) (e:sd r=some d):DS K B (L++T) H/\Rep K (Al B (aaf (L++T))) H d v:=by
 have h':=h.thaw e;exact⟨h'.drop,h'.valAt⟩
theorem DS.two (h:DS K B (L++(r',some u)::(r,some v)::T) H) (e1:sd r=some d) (e2:sd r'=some e):DS K B (L++T) H/\Rep K (Al B (aaf (L++T))) H d v/\Rep K (Al B (aaf (L++T))) H e u:=by
 have h1:=h.thaw e2;have h2:DS K B ((L++[(Sl.val e,some u)])++(r,some v)::T) H:=by simpa using h1
 have h3:=h2.thaw e1;have h4:DS K B (L++(Sl.val e,some u)::(.val d,some v)::T) H:=by simpa using h3
 have q1:=h4.valAt;have q2:=h3.valAt;have e3:aaf (L++(Sl.val d,some v)::T)=aaf (L++T):=by rw[abg,aa4];rfl
 have e4:aaf ((L++[(Sl.val e,some u)])++T)=aaf (L++T):=by
  rw[List.append_assoc];show aaf (L++(Sl.val e,some u)::T)=_;rw[abg,aa4];rfl
 rw[e3] at q1;rw[e4] at q2;exact⟨h4.drop.drop,q2,q1⟩
theorem DS.mid (h:DS K B (x::(L++T)) H):DS K B (L++x::T) H:=h.perm List.perm_middle.symm
theorem DS.front (h:DS K B (L++x::T) H):DS K B (x::(L++T)) H:=h.perm List.perm_middle
theorem DS.pushF (h:DS K B L H) (r:Rep K (Al B (aaf L)) H d v):DS K B ((.val d,some v)::L) H:=DS.push (L1:=[]) h r
theorem DS.tupF (h:DS K B L H){a:Addr}{ds:List D}{vs:List V}(hp:H a=none) (r:Reps K (Al B (aaf L)) H ds vs):DS K B ((.val (.tup ds),some (.ref a))::L) (upd H a (.tup vs)):=DS.tup (L1:=[]) h hp r
theorem DS.lstF (h:DS K B L H){a:Addr}{ds:List D}{vs:List V}(hp:H a=none) (r:Reps K (Al B (aaf L)) H ds vs):DS K B ((.own (.lst ds),some (.ref a))::L) (upd H a (.lst vs)) :=
 DS.make (L1:=[]) h hp fun A' k=>⟨vs,aaa,r.mono k⟩
end
def Peek (K:PySem.W.Frag) (A:Addr->Prop) (H:Hp):D->V->Prop
 | .lst ds,v=>∃ a vs,v = .ref a/\H a=some (.lst vs)/\Reps K A H ds vs
 | .dK ds,v=>∃ a kvs,v = .ref a/\H a=some (.dK kvs)/\ds.map (·.1)=kvs.map (·.1)/\Reps K A H (ds.map (·.2)) (kvs.map (·.2))
 | .dT ds,v=>∃ a kvs,v = .ref a/\Rd H a (.dT kvs)/\ds.map (·.1)=kvs.map (·.1)/\Reps K A H (ds.map (·.2)) (kvs.map (·.2))
 | .non,v=>Rep K A H .non v
 | .bl b,v=>Rep K A H (.bl b) v
 | .int b,v=>Rep K A H (.int b) v
 | .str b,v=>Rep K A H (.str b) v
 | .raw b,v=>Rep K A H (.raw b) v
 | .tup b,v=>Rep K A H (.tup b) v
 | .con b,v=>Rep K A H (.con b) v
 | .scr b,v=>Rep K A H (.scr b) v
section
variable {K:PySem.W.Frag}{A A':Addr->Prop}{B:Bs}{H:Hp}
theorem Rep.peek {d:D}{v:V}(h:Rep K A H d v):Peek K A H d v:=by
 cases h with
 | lst _ h r=>exact⟨_,_,rfl,h,r⟩
 | dK _ h e r=>exact⟨_,_,rfl,h,e,r⟩
 | dT _ h e r=>exact⟨_,_,rfl,h,e,r⟩
 | non=>exact .non
 | bl=>exact .bl _
 | int=>exact .int _
 | str=>exact .str _
 | raw=>exact .raw _
 | tup h r=>exact .tup h r
 | con h r=>exact .con h r
 | scr h r=>exact .scr h r
theorem Root.peek {a:Addr}:∀ {d:D},Root K A H a d->Peek K A H d (.ref a)
 | .lst _,⟨vs,h,r⟩=>⟨_,vs,rfl,h,r⟩
 | .dK _,⟨vs,h,e,r⟩=>⟨_,vs,rfl,h,e,r⟩
 | .dT _,⟨vs,h,e,r⟩=>⟨_,vs,rfl,.inl h,e,r⟩
theorem Peek.lst_inv {ds:List D}{v:V}(h:Peek K A H (.lst ds) v):∃ a vs,v = .ref a/\H a=some (.lst vs)/\Reps K A H ds vs:=h
theorem Peek.dK_inv {ds:List (Key×D)}{v:V}(h:Peek K A H (.dK ds) v):∃ a kvs,v = .ref a/\H a=some (.dK kvs)/\ds.map (·.1)=kvs.map (·.1)/\Reps K A H (ds.map (·.2)) (kvs.map (·.2)):=h
theorem Peek.dT_inv {ds:List (List Key×D)}{v:V}(h:Peek K A H (.dT ds) v):∃ a kvs,v = .ref a/\Rd H a (.dT kvs)/\ds.map (·.1)=kvs.map (·.1)/\Reps K A H (ds.map (·.2)) (kvs.map (·.2)):=h
theorem Peek.tup_inv {ds:List D}{v:V}(h:Peek K A H (.tup ds) v):∃ a vs,v = .ref a/\H a=some (.tup vs)/\Reps K A H ds vs:=Rep.tup_inv h
theorem Peek.con_inv {ds:List D}{v:V}(h:Peek K A H (.con ds) v):∃ a vs,v = .ref a/\SqC K a vs/\Reps K A H ds vs:=Rep.con_inv h
theorem Peek.scr_inv {ds:List D}{v:V}(h:Peek K A H (.scr ds) v):∃ a vs,v = .ref a/\SqF K H a vs/\Reps K A H ds vs:=Rep.scr_inv h
theorem Peek.int_inv {i:Int}{v:V}(h:Peek K A H (.int i) v):v = .int i:=Rep.int_inv h
theorem Peek.str_inv {i:Str}{v:V}(h:Peek K A H (.str i) v):v = .str i:=Rep.str_inv h
theorem Peek.bl_inv {i:Bool}{v:V}(h:Peek K A H (.bl i) v):v = .bl i:=Rep.bl_inv h
theorem Peek.non_inv {v:V}(h:Peek K A H .non v):v = .non:=Rep.non_inv h
def at? (ρ:List Sl) (i:Nat):Option D:=(ρ[i]?).bind sd
theorem DS.peek {ρ:List Sl}{σ:St}{T:Ents}(hl:ρ.length=σ.length) (h:DS K B (ρ.zip σ++T) H){i:Nat}{d:D}(e:at? ρ i=some d):∃ v,σ[i]?=some (some v)/\Peek K (Al B (aaf (ρ.zip σ++T))) H d v:=by
 unfold at? at e;cases e1:ρ[i]? with
 | none=>rw[e1] at e;cases e
 | some s =>
  rw[e1] at e;obtain⟨l1,y,l2,hy,_,hz,_⟩:=afi hl e1;have hd':=h;rw[hz] at hd';have:=hd'.ok (s,y) (by simp);rw[← hz] at this;cases s with
  | no=>cases e
  | val c=>cases e;obtain⟨v,rfl,r⟩:=this;exact⟨v,hy,r.peek⟩
  | own c=>cases e;obtain⟨a,rfl,r⟩:=this;exact⟨_,hy,r.peek⟩
end
def vd (i:Nat):TEd:=fun _ ρ Φ=>match ρ[i]? with
 | some (.val d)=>Φ (.val d) ρ
 | some (.own d)=>Φ (.val d) (ρ.set i (.val d))
 | _=>False
def cd (d:D):TEd:=fun _ ρ Φ=>Φ (.val d) ρ
section
variable {X:Cx}{a b c:Expr}{ta tb tc:TEd}{pos:Pos}
theorem pd_v (i:Nat){x:Str}(h:PE X (.Name x pos) (tVar i)):PD X (.Name x pos) (vd i):=h.mono fun σ H Q hq0=>hq0.elim fun B ρ T Φ hl hd ht k=>by
 unfold vd at ht;cases e:ρ[i]? with
 | none=>rw[e] at ht;exact ht.elim
 | some s =>
  rw[e] at ht;obtain⟨l1,y,l2,hy,_,hz,hset⟩:=afi hl e;have hd':DS X.K B (l1++(s,y)::(l2++T)) H:=by rw[hz] at hd;simpa using hd
  cases s with
  | no=>exact ht.elim
  | val d =>
   obtain⟨v,rfl,_⟩:=hd'.at;refine⟨v,hy,k _ _ v H hl ?_ ht⟩;refine hd.push ?_;have:=hd'.valAt;rw[hz];have e3:aaf ((l1++(Sl.val d,some v)::l2)++T)=aaf (l1++(l2++T)):=by
    rw[List.append_assoc,List.cons_append,ag9]
   rw[e3];exact this
  | own d =>
   obtain⟨a,rfl,_⟩:=hd'.at;have hf:=hd'.freeze;have hs:(ρ.set i (.val d)).zip σ=l1++(.val d,some (.ref a))::l2:=by
    have:=hset (.val d) (some (.ref a));rw[afm hy] at this;exact this
   have hd2:DS X.K B ((ρ.set i (.val d)).zip σ++T) H:=by rw[hs];simpa using hf
   refine⟨.ref a,hy,k _ _ _ H (by rw[List.length_set];exact hl) ?_ ht⟩;refine hd2.push ?_;have:=hf.valAt;rw[hs];have e3:aaf ((l1++(Sl.val d,some (V.ref a))::l2)++T)=aaf (l1++(l2++T)):=by
    rw[List.append_assoc,List.cons_append,ag9]
   rw[e3];exact this
theorem pd_c {d:D}{v:V}{e:Expr}(h:PE X e (tC v)) (r:∀ K A H,Rep K A H d v):PD X e (cd d):=h.mono fun σ H Q hq0=>hq0.elim fun B ρ T Φ hl hd ht k=>k _ ρ v H hl (hd.push (r _ _ _)) ht
theorem aaj {i:Int}{j:Nat}:PD X (.Constant (.int i) j pos) (cd (.int i)):=pd_c aag fun _ _ _=>.int i
theorem abm {x:Str}{j:Nat}:PD X (.Constant (.str x) j pos) (cd (.str x)):=pd_c abe fun _ _ _=>.str x
theorem pd_bl {x:Bool}{j:Nat}:PD X (.Constant (.bool x) j pos) (cd (.bl x)):=pd_c ahq fun _ _ _=>.bl x
theorem pd_non {j:Nat}:PD X (.Constant .none j pos) (cd .non):=pd_c aqh fun _ _ _=>.non
abbrev O2:=D->D->(Sl->Prop)->Prop
def OpD (K:PySem.W.Frag) (r:R2) (f:O2):Prop:=∀ (B:Bs) (L:Ents) (H:Hp) (d e:D) (x y:V) (Φ:Sl->Prop) (Q:VK),DS K B L H->Peek K (Al B (aaf L)) H d x->Peek K (Al B (aaf L)) H e y->f d e Φ ->
 (∀ s v H',Φ s->DS K B ((s,some v)::L) H'->Q v H')->r x y H Q
def d2 (f:O2) (ta tb:TEd):TEd:=fun dk ρ Φ=>ta dk ρ fun ra ρ1=>tb dk ρ1 fun rb ρ2=>match sd ra,sd rb with
 | some d,some e=>f d e fun r=>Φ r ρ2
 | _,_=>False
theorem aja {f:O2}{r:R2}(hf:OpD X.K r f){σ:St}{H:Hp}{Q:VK}(h:dE X.K (d2 f ta tb) σ H Q):dE X.K ta σ H fun x H1=>dE X.K tb σ H1 fun y H2=>r x y H2 Q:=by
 obtain⟨B,ρ,T,Φ,hl,hd,ht,k⟩:=h;refine⟨B,ρ,T,_,hl,hd,ht,fun ra ρ1 x H1 l1 d1 h1=>⟨B,ρ1,(ra,some x)::T,_,l1,d1,h1,fun rb ρ2 y H2 l2 d2 h2=>?_⟩⟩;cases e1:sd ra with
 | none=>rw[e1] at h2;exact h2.elim
 | some d =>
  cases e2:sd rb with
  | none=>rw[e1,e2] at h2;exact h2.elim
  | some e =>
   rw[e1,e2] at h2;obtain⟨q1,q2,q3⟩:=d2.two e1 e2;exact hf B _ H2 d e x y _ Q q1 q2.peek q3.peek h2 fun s v H' hs hd'=>k s ρ2 v H' l2 hd'.mid hs
def d2s (f:O2) (i:Nat) (tb:TEd):TEd:=fun dk ρ Φ=>(at? ρ i).isSome=true/\tb dk ρ fun rb ρ2=>match at? ρ2 i,sd rb with
 | some d,some e=>f d e fun r=>Φ r ρ2
 | _,_=>False
def d2t (f:O2) (ta:TEd) (i:Nat):TEd:=fun dk ρ Φ=>ta dk ρ fun ra ρ1=>match sd ra,at? ρ1 i with
 | some d,some e=>f d e fun r=>Φ r ρ1
 | _,_=>False
theorem agk {f:O2}{r:R2}(hf:OpD X.K r f){i:Nat}{σ:St}{H:Hp}{Q:VK}(h:dE X.K (d2s f i tb) σ H Q):tVar i σ H fun x H1=>dE X.K tb σ H1 fun y H2=>r x y H2 Q:=by
 obtain⟨B,ρ,T,Φ,hl,hd,⟨hi,ht⟩,k⟩:=h;obtain⟨d0,h0⟩:=Option.isSome_iff_exists.mp hi;obtain⟨x,hx,_⟩:=hd.peek hl h0;refine⟨x,hx,B,ρ,T,_,hl,hd,ht,fun rb ρ2 y H2 l2 d2 h2=>?_⟩;cases e1:at? ρ2 i with
 | none=>rw[e1] at h2;exact h2.elim
 | some d =>
  cases e2:sd rb with
  | none=>rw[e1,e2] at h2;exact h2.elim
  | some e =>
   rw[e1,e2] at h2;obtain⟨q1,q3⟩:=d2.one e2;obtain⟨x',hx',px⟩:=q1.peek l2 e1;rw[hx] at hx';cases hx';exact hf B _ H2 d e x y _ Q q1 px q3.peek h2 fun s v H' hs hd'=>k s ρ2 v H' l2 hd'.mid hs
theorem arv {f:O2}{r:R2}(hf:OpD X.K r f){i:Nat}{σ:St}{H:Hp}{Q:VK}(h:dE X.K (d2t f ta i) σ H Q):dE X.K ta σ H fun x H1=>tVar i σ H1 fun y H2=>r x y H2 Q:=by
 obtain⟨B,ρ,T,Φ,hl,hd,ht,k⟩:=h;refine⟨B,ρ,T,_,hl,hd,ht,fun ra ρ1 x H1 l1 d1 h1=>?_⟩;cases e1:sd ra with
 | none=>rw[e1] at h1;exact h1.elim
 | some d =>
  cases e2:at? ρ1 i with
  | none=>rw[e1,e2] at h1;exact h1.elim
  | some e =>
   rw[e1,e2] at h1;obtain⟨q1,q3⟩:=d1.one e1;obtain⟨y,hy,py⟩:=q1.peek l1 e2;exact⟨y,hy,hf B _ H1 d e x y _ Q q1 q3.peek py h1 fun s v H' hs hd'=>k s ρ1 v H' l1 hd'.mid hs⟩
theorem aeq {op:Operator}{f:O2}{r:R2}{i:Nat}(ho:OpR X (binaryOp op) r) (hf:OpD X.K r f) (ha:PE X a (tVar i)) (hb:PD X b tb):PD X (.BinOp a op b pos) (d2s f i tb):=(aat ho ha hb).mono fun _ _ _ h=>agk hf h
theorem ajt {op:CmpOp}{f:O2}{r:R2}{i:Nat}(ho:OpR X (compareOp op) r) (hf:OpD X.K r f) (ha:PE X a (tVar i)) (hb:PD X b tb) (hm:behindInMarks op b=false:=by first | exact acj _ | (with_unfolding_all rfl)):PD X (.Compare a [op] [b] pos) (d2s f i tb) :=
 (acq ho ha hb hm).mono fun _ _ _ h=>agk hf h
theorem afg {op:Operator}{f:O2}{r:R2}(ho:OpR X (binaryOp op) r) (hf:OpD X.K r f) (ha:PD X a ta) (hb:PD X b tb):PD X (.BinOp a op b pos) (d2 f ta tb):=(aat ho ha hb).mono fun _ _ _ h=>aja hf h
theorem afk {op:CmpOp}{f:O2}{r:R2}(ho:OpR X (compareOp op) r) (hf:OpD X.K r f) (ha:PD X a ta) (hb:PD X b tb) (hm:behindInMarks op b=false:=by first | exact acj _ | (with_unfolding_all rfl)):PD X (.Compare a [op] [b] pos) (d2 f ta tb) :=
 (acq ho ha hb hm).mono fun _ _ _ h=>aja hf h
def tstB (t:TEd):TTd:=fun dk ρ Φ=>t dk ρ fun r ρ'=>match r with
 | .val (.bl b)=>Φ b ρ'
 | _=>False
theorem ag5 {t:TEd}{σ:St}{H:Hp}{Q:Bool->Hp->Prop}(h:dTt X.K (tstB t) σ H Q):dE X.K t σ H fun x H'=>∃ k,x = .bl k/\Q k H':=by
 obtain⟨B,ρ,T,Φ,hl,hd,ht,k⟩:=h;refine⟨B,ρ,T,_,hl,hd,ht,fun r ρ' v H' l1 d1 h1=>?_⟩;cases r with
 | no=>exact h1.elim
 | own d=>exact h1.elim
 | val d =>
  cases d with
  | bl b=>exact⟨b,d1.valAt.bl_inv,k b ρ' H' l1 d1.drop h1⟩
  | _=>exact h1.elim
theorem ab0 {op:CmpOp}{f:O2}{r:R2}{i:Nat}(ho:OpR X (compareOp op) r) (hf:OpD X.K r f) (ha:PE X a (tVar i)) (hb:PD X b tb) (hm:behindInMarks op b=false:=by first | exact acj _ | (with_unfolding_all rfl)):PDt X (.Compare a [op] [b] pos) (tstB (d2s f i tb)) :=
 (acg ho ha hb hm).mono fun σ H Q h=>agk hf (ag5 h)
theorem ajs {op:CmpOp}{f:O2}{r:R2}{i:Nat}(ho:OpR X (compareOp op) r) (hf:OpD X.K r f) (ha:PD X a ta) (hb:PE X b (tVar i)) (hm:behindInMarks op b=false:=by first | exact acj _ | (with_unfolding_all rfl)):PDt X (.Compare a [op] [b] pos) (tstB (d2t f ta i)) :=
 (acg ho ha hb hm).mono fun σ H Q h=>arv hf (ag5 h)
theorem adc {op:CmpOp}{f:O2}{r:R2}(ho:OpR X (compareOp op) r) (hf:OpD X.K r f) (ha:PD X a ta) (hb:PD X b tb) (hm:behindInMarks op b=false:=by first | exact acj _ | (with_unfolding_all rfl)):PDt X (.Compare a [op] [b] pos) (tstB (d2 f ta tb)) :=
 (acg ho ha hb hm).mono fun σ H Q h=>by
  have:=ag5 h;exact aja hf this
end
section
variable {κ:Type} [DecidableEq κ]
def valD (kvs:List (κ×D)) (k:κ):Option D:=(kvs.find? fun kv=>decide (kv.1=k)).map (·.2)
def putD (kvs:List (κ×D)) (k:κ) (d:D):List (κ×D):=if kvs.any (fun kv=>decide (kv.1=k)) then kvs.map (fun kv=>if kv.1=k then (kv.1,d) else kv) else kvs++[(k,d)]
theorem asv {k:κ}:valD ([]:List (κ×D)) k=none:=rfl
theorem apq {k j:κ}{d:D}{r:List (κ×D)}:valD ((j,d)::r) k=if j=k then some d else valD r k:=by
 unfold valD;rw[List.find?_cons];by_cases h:j=k<;>simp[h]
end
section
variable {κ:Type} [DecidableEq κ] {K:PySem.W.Frag}{A:Addr->Prop}{H:Hp}
theorem agj:∀ {ds:List (κ×D)}{kvs:List (κ×V)},ds.map (·.1)=kvs.map (·.1)->Reps K A H (ds.map (·.2)) (kvs.map (·.2))->∀ k,(∀ d,valD ds k=some d->∃ v,valV kvs k=some v/\Rep K A H d v)/\(valD ds k=none->valV kvs k=none)
 | [],[],_,_,k=>⟨fun d h=>by simp[asv] at h,fun _=>rfl⟩
 | [],_::_,e,_,_=>by simp at e
 | _::_,[],e,_,_=>by simp at e
 | (i,d)::ds,(j,v)::kvs,e,r,k=>by
  simp only[List.map_cons,List.cons.injEq] at e;obtain⟨e1,e2⟩:=e;subst e1;cases r with
  | cons h r =>
   have ih:=agj e2 r k;rw[apq];by_cases z:i=k
   ·rw[if_pos z,ack z];exact⟨fun d' q=>by cases q;exact⟨v,rfl,h⟩,fun q=>by cases q⟩
   ·rw[if_neg z,acl z];exact ih
theorem am1 {ds:List (κ×D)}{kvs:List (κ×V)}(e:ds.map (·.1)=kvs.map (·.1)) (r:Reps K A H (ds.map (·.2)) (kvs.map (·.2))){k:κ}{d:D}{v:V}(h:Rep K A H d v) :
  (putD ds k d).map (·.1)=(putK kvs k v).map (·.1)/\Reps K A H ((putD ds k d).map (·.2)) ((putK kvs k v).map (·.2)):=by
 have ha:∀ (ds:List (κ×D)) (kvs:List (κ×V)),ds.map (·.1)=kvs.map (·.1)->(ds.any fun kv=>decide (kv.1=k))=kvs.any fun kv=>decide (kv.1=k):=by
  intro ds;induction ds with
  | nil=>intro kvs e;cases kvs with
   | nil=>rfl
   | cons _ _=>simp at e
  | cons p ds ih=>intro kvs e;cases kvs with
   | nil=>simp at e
   | cons q kvs =>
    simp only[List.map_cons,List.cons.injEq] at e;rw[List.any_cons,List.any_cons,ih kvs e.2,e.1]
 have hm:∀ (ds:List (κ×D)) (kvs:List (κ×V)),ds.map (·.1)=kvs.map (·.1)->Reps K A H (ds.map (·.2)) (kvs.map (·.2)) ->
   (ds.map fun kv=>if kv.1=k then (kv.1,d) else kv).map (·.1)=(kvs.map fun kv=>if kv.1=k then (kv.1,v) else kv).map (·.1) /\
   Reps K A H ((ds.map fun kv=>if kv.1=k then (kv.1,d) else kv).map (·.2)) ((kvs.map fun kv=>if kv.1=k then (kv.1,v) else kv).map (·.2)):=by
  intro ds;induction ds with
  | nil=>intro kvs e r;cases kvs with
   | nil=>exact⟨rfl,.nil⟩
   | cons _ _=>simp at e
  | cons p ds ih=>intro kvs e r;cases kvs with
   | nil=>simp at e
   | cons q kvs =>
    simp only[List.map_cons,List.cons.injEq] at e;cases r with
    | cons g r =>
     obtain⟨i1,i2⟩:=ih kvs e.2 r;obtain⟨i,d0⟩:=p;obtain⟨j,v0⟩:=q;obtain⟨rfl,e2⟩:=e;by_cases z:i=k
     ·simp only[List.map_cons,z,if_true];exact⟨by rw[i1],.cons h i2⟩
     ·simp only[List.map_cons,z,if_false];exact⟨by rw[i1],.cons g i2⟩
 unfold putD putK;rw[ha ds kvs e];by_cases z:(kvs.any fun kv=>decide (kv.1=k))=true
 ·rw[if_pos z,if_pos z];exact hm ds kvs e r
 ·rw[if_neg z,if_neg z];simp only[List.map_append,List.map_cons,List.map_nil];exact⟨by rw[e],r.append (.cons h .nil)⟩
end
section
variable {X:Cx}{K:PySem.W.Frag}
def atc (K:PySem.W.Frag):R2:=fun x y H Q=>∃ a b ys,x = .ref a/\y = .ref b/\SqT K H a []/\SqT K H b ys/\Q (.ref b) H
theorem asr:OpR X (binaryOp .Add) (atc X.K):=by
 intro pins s σ H x y v u Q I rx ry h;obtain⟨a,b,ys,rfl,rfl,ha,hb,q⟩:=h;cases rx;cases ry;obtain⟨its,r1,p1,_⟩:=I.tuple ha;obtain⟨its2,r2,p2,_⟩:=I.tuple hb;cases r1;obtain⟨⟨c1,dd,da,sl⟩,ho,hc,n,hd⟩:=id p1;obtain⟨⟨c2,dd2,da2,sl2⟩,ho2,hc2,n2,hd2⟩:=id p2;simp only at hc hd hc2 hd2;subst hc hd hc2 hd2;exact concat_meets ⟨_,ho,rfl⟩ ⟨_,ho2,rfl⟩ noFill_tuple_add seq_tuple_add PySem.F.slot_tuple_add PySem.F.entry_tuple_add (PySem.F.args_tuple_add_2 _ _)
  (tuple_addW0 a b _ _ n n2 dd dd2 sl sl2 (by simp)) ⟨ho,ho2,⟨.ref b,H,I,rfl,q⟩⟩
def rPlus (K:PySem.W.Frag):R2:=fun x y H Q=>(rI0 fun i j=>.int (i+j)) x y H Q\/(∃ i j,x = .str i/\y = .str j/\i.length+j.length<=sizeLine/\Q (.str (i++j)) H)\/rCat x y H Q\/aum K x y H Q\/atc K x y H Q
theorem aa3:OpR X (binaryOp .Add) (rPlus X.K):=adg.or (aay.or (ae9.or (al1.or asr)))
theorem ags {n:Nat}(h:n<=100000):n<=sizeLine:=Nat.le_trans h (by decide)
def fAdd:O2
 | .int i,.int j,Φ=>Φ (.val (.int (i+j)))
 | .str i,.str j,Φ=>i.length+j.length<=100000/\Φ (.val (.str (i++j)))
 | .lst xs,.lst ys,Φ=>xs.length+ys.length<=100000/\Φ (.own (.lst (xs++ys)))
 | .tup xs,.tup ys,Φ=>xs.length+ys.length<=100000/\Φ (.val (.tup (xs++ys)))
 | _,_,_=>False
theorem aby:OpD K (rPlus K) fAdd:=by
 intro B L H d e x y Φ Q hd rx ry hf k;cases d<;>first | exact False.elim hf | skip<;>cases e<;>first | exact False.elim hf | skip
 ·cases rx;cases ry;exact .inl ⟨_,_,rfl,rfl,k _ _ H hf (hd.pushF (.int _))⟩
 ·cases rx;cases ry;exact .inr (.inl ⟨_,_,rfl,rfl,ags hf.1,k _ _ H hf.2 (hd.pushF (.str _))⟩)
 ·obtain⟨a,vs,rfl,h1,r1⟩:=rx.tup_inv;obtain⟨b,us,rfl,h2,r2⟩:=ry.tup_inv;have hl:vs.length+us.length<=100000:=by rw[← r1.length,← r2.length];exact hf.1
  by_cases z:vs=[]
  ·subst z;have:=r1.nil_iff.mp rfl;subst this;exact .inr (.inr (.inr (.inr ⟨a,b,us,rfl,rfl,SqT.of h1,SqT.of h2,k _ _ H hf.2 (hd.pushF ry)⟩)))
  ·refine .inr (.inr (.inr (.inl ⟨a,b,vs,us,rfl,rfl,SqT.of h1,SqT.of h2,z,ags hl,fun q=>?_,fun _ p hp=>k _ _ _ hf.2 (hd.tupF hp (r1.append r2))⟩)));subst q;have:=r2.nil_iff.mp rfl;subst this;exact k _ _ H hf.2 (by rw[List.append_nil];exact hd.pushF rx)
 ·obtain⟨a,vs,rfl,h1,r1⟩:=rx.lst_inv;obtain⟨b,us,rfl,h2,r2⟩:=ry.lst_inv;have hl:vs.length+us.length<=100000:=by rw[← r1.length,← r2.length];exact hf.1
  exact .inr (.inr (.inl ⟨a,b,vs,us,rfl,rfl,h1,h2,ags hl,fun p hp=>k _ _ _ hf.2 (hd.lstF hp (r1.append r2))⟩))
def fI0 (g:Int->Int->D):O2
 | .int i,.int j,Φ=>Φ (.val (g i j))
 | _,_,_=>False
theorem aly {g:Int->Int->D}{g':Int->Int->V}(hg:∀ A H i j,Rep K A H (g i j) (g' i j)):OpD K (rI0 g') (fI0 g):=by
 intro B L H d e x y Φ Q hd rx ry hf k;cases d<;>first | exact False.elim hf | skip<;>cases e<;>first | exact False.elim hf | skip
 cases rx;cases ry;exact⟨_,_,rfl,rfl,k _ _ H hf (hd.pushF (hg _ _ _ _))⟩
abbrev fSub:O2:=fI0 fun i j=>.int (i-j)
theorem od_sub:OpD K (rI0 fun i j=>.int (i-j)) fSub:=aly fun _ _ _ _=>.int _
def ate:R2:=fun x y H Q=>(rI CMul fun i j=>.int (i*j)) x y H Q\/rRep x y H Q
theorem ar3:OpR X (binaryOp .Mult) ate:=afj.or op_rep
def fMul:O2
 | .int i,.int j,Φ=>((-(2 ^ 64)<i/\i<2 ^ 64)\/(-(2 ^ 64)<j/\j<2 ^ 64))/\Φ (.val (.int (i*j)))
 | .lst xs,.int k,Φ=>0<=k/\k<=1000/\xs.length<=100/\Φ (.own (.lst (List.replicate k.toNat xs).flatten))
 | _,_,_=>False
theorem amm {A:Addr->Prop}{H:Hp}{ds:List D}{vs:List V}(r:Reps K A H ds vs):∀ k:Nat,Reps K A H (List.replicate k ds).flatten (List.replicate k vs).flatten
 | 0=>.nil
 | k+1=>by rw[List.replicate_succ,List.replicate_succ,List.flatten_cons,List.flatten_cons];exact r.append (amm r k)
theorem od_mul:OpD K ate fMul:=by
 intro B L H d e x y Φ Q hd rx ry hf k;cases d<;>first | exact False.elim hf | skip<;>cases e<;>first | exact False.elim hf | skip
 ·cases rx;cases ry;exact .inl ⟨_,_,rfl,rfl,hf.1,k _ _ H hf.2 (hd.pushF (.int _))⟩
 ·cases ry
  rename_i n
  obtain⟨a,vs,rfl,h1,r1⟩:=rx.lst_inv;obtain⟨k0,k1,hl,hf⟩:=hf;have hl':vs.length<=100:=by rw[← r1.length];exact hl
  refine .inr ⟨a,n,vs,rfl,rfl,h1,by omega,by omega,Nat.le_trans (Nat.mul_le_mul hl' (show n.toNat<=1000 by omega)) (by decide),fun p hp=>?_⟩;exact k _ _ _ hf (hd.lstF hp (amm r1 _))
abbrev fLt:O2:=fI0 fun i j=>.bl (decide (i<j))
theorem anv:OpD K (rI0 fun i j=>.bl (decide (i<j))) fLt:=aly fun _ _ _ _=>.bl _
abbrev fGt:O2:=fI0 fun i j=>.bl (decide (j<i))
theorem ar1:OpD K (rI0 fun i j=>.bl (decide (j<i))) fGt:=aly fun _ _ _ _=>.bl _
end
def alo:D->Option Key
 | .int i=>some (.inl i)
 | .str x=>some (.inr x)
 | _=>none
def ahc:List D->Option (List Key)
 | []=>some []
 | d::ds=>match alo d,ahc ds with
  | some k,some ks=>some (k::ks)
  | _,_=>none
def nb (neg b:Bool):Bool:=if neg then !b else b
section
variable {X:Cx}{K:PySem.W.Frag}{A:Addr->Prop}{H:Hp}
theorem ahi {d:D}{k:Key}{v:V}(h:alo d=some k) (r:Peek K A H d v):v=kV k:=by
 cases d<;>cases h
 ·exact r.int_inv
 ·exact r.str_inv
theorem ah4 {ds:List D}{ks:List Key}{vs:List V}(h:ahc ds=some ks) (rs:Reps K A H ds vs):vs=ks.map kV:=by
 induction ds generalizing ks vs with
 | nil=>cases rs;cases h;rfl
 | cons d ds ih =>
  cases rs with
  | cons r rs =>
  have h:=(show (match alo d,ahc ds with | some k,some ks=>some (k::ks) | _,_=>none)=some ks from h);cases e1:alo d with
  | none=>rw[e1] at h;cases h
  | some k =>
   cases e2:ahc ds with
   | none=>rw[e1,e2] at h;cases h
   | some ks' =>
    rw[e1,e2] at h;cases h;rw[ahi e1 r.peek,ih e2 rs];rfl
def aoi:D->D->Option (Option D)
 | .dK kvs,d=>(alo d).map (valD kvs)
 | .dT kvs,.tup xs=>(ahc xs).map (valD kvs)
 | _,_=>none
theorem aks {d e:D}{o:Option D}{x y:V}(h:aoi d e=some o) (rx:Peek K A H d x) (ry:Peek K A H e y):∃ a w,x = .ref a/\DGet H a y w/\(∀ c,o=some c->∃ v,w=some v/\Rep K A H c v)/\(o=none->w=none):=by
 cases d with
 | dK kvs =>
  obtain⟨a,vs,rfl,h1,e1,r1⟩:=rx.dK_inv;obtain⟨k,hk,rfl⟩:=Option.map_eq_some_iff.mp h;rw[ahi hk ry];obtain⟨q1,q2⟩:=agj e1 r1 k;exact⟨a,_,rfl,DGet.k h1,fun c hc=>q1 c hc,q2⟩
 | dT kvs =>
  obtain⟨a,vs,rfl,h1,e1,r1⟩:=rx.dT_inv;cases e with
  | tup xs =>
   obtain⟨b,us,rfl,h2,r2⟩:=ry.tup_inv;obtain⟨k,hk,rfl⟩:=Option.map_eq_some_iff.mp h;rw[ah4 hk r2] at h2;obtain⟨q1,q2⟩:=agj e1 r1 k;exact⟨a,_,rfl,.inr ⟨vs,k,b,h1,rfl,h2,rfl⟩,fun c hc=>q1 c hc,q2⟩
  | _=>cases h
 | _=>cases h
def rGetD:R2:=fun x y H Q=>∃ a v,x = .ref a/\DGet H a y (some v)/\Q v H
theorem avv (hu:X.A.units+1<cLine):IxR X rGetD:=by
 intro value slice pins s σ H x y v u Q I rx ry h hs;obtain⟨a,w,rfl,g,q⟩:=h;cases rx;unfold subscriptTail;refine wpAny_bind ?_;rw[getitemInPython_of_ne (ag4 I g).not_modules];refine wpAny_bind (wpAny_specialOf (ag4 I g) PySem.F.slot_dict_getitem.lookup ?_);have fin:wpAny (model X.prog X.w) X.A (subscripted slice false (.ref a) u) (fun r s₃=>wpAny (model X.prog X.w) X.A (letTemporaryGo value (.ref a) r >>= fun _=>pure r) (EP X pins σ Q) X.xe s₃) X.xe s:=by
  rw[hs];exact wpAny_operating (arl hu I g ry fun w' s3 I3 rw'=>wpAny_bind (wpAny_letTemporaryGo (wpAny_pure ⟨w,H,I3,rw',q⟩)))
 first
  | exact wpAny_pure (wpAny_bind fin)
  | exact wpAny_bind (wpAny_pure (wpAny_bind fin))
  | exact wpAny_bind fin
def rIxA (K:PySem.W.Frag):R2:=fun x y H Q=>rIx K x y H Q\/rGetD x y H Q
theorem ati (hu:X.A.units+1<cLine):IxR X (rIxA X.K):=ix_seq.or (avv hu)
def fIx:O2:=fun d e Φ=>match d,e with
 | .lst xs,.int i=>∃ c,atI xs i=some c/\Φ (.val c)
 | .tup xs,.int i=>∃ c,atI xs i=some c/\Φ (.val c)
 | .con xs,.int i=>∃ c,atI xs i=some c/\Φ (.val c)
 | .scr xs,.int i=>∃ c,atI xs i=some c/\Φ (.val c)
 | .str z,.int i=>z.length<=100000/\∃ c,atI z.cps.toList i=some c/\Φ (.val (.str ⟨#[c]⟩))
 | d,e=>∃ c,aoi d e=some (some c)/\Φ (.val c)
theorem ajm {ds:List D}{vs:List V}{i:Int}{c:D}(r:Reps K A H ds vs) (h:atI ds i=some c):∃ v,atI vs i=some v/\Rep K A H c v:=by
 unfold atI at h ⊢;rw[← r.length];cases e:ixN ds.length i with
 | none=>rw[e] at h;cases h
 | some j =>
  rw[e] at h;obtain⟨v,h1,h2⟩:=r.get (i:=j) h;exact⟨v,h1,h2⟩
theorem od_ix:OpD K (rIxA K) fIx:=by
 intro B L H d e x y Φ Q hd rx ry hf k;have dct:(∃ c,aoi d e=some (some c)/\Φ (.val c))->rIxA K x y H Q:=fun ⟨c,hc,hf⟩=>by
  obtain⟨a,w,rfl,g,h1,_⟩:=aks hc rx ry;obtain⟨v,rfl,rv⟩:=h1 c rfl;exact .inr ⟨a,v,rfl,g,k _ _ H hf (hd.pushF rv)⟩
 cases d<;>first | exact dct hf | skip
 ·cases e<;>first | exact dct hf | skip
  cases ry;cases rx;obtain⟨hz,c,hc,hf⟩:=hf;exact .inl (.inr (.inr ⟨_,_,c,rfl,rfl,ags hz,hc,k _ _ H hf (hd.pushF (.str _))⟩))
 ·obtain⟨a,vs,rfl,h1,r1⟩:=rx.tup_inv;cases e<;>first | exact dct hf | skip
  cases ry;obtain⟨c,hc,hf⟩:=hf;obtain⟨v,hv,rv⟩:=ajm r1 hc;exact .inl (.inr (.inl ⟨a,vs,_,v,rfl,rfl,SqT.of h1,hv,k _ _ H hf (hd.pushF rv)⟩))
 ·obtain⟨a,vs,rfl,h1,r1⟩:=rx.lst_inv;cases e<;>first | exact dct hf | skip
  cases ry;obtain⟨c,hc,hf⟩:=hf;obtain⟨v,hv,rv⟩:=ajm r1 hc;exact .inl (.inl ⟨a,vs,_,v,rfl,rfl,SqL.of h1,hv,k _ _ H hf (hd.pushF rv)⟩)
 ·obtain⟨a,vs,rfl,h1,r1⟩:=rx.scr_inv;cases e<;>first | exact dct hf | skip
  cases ry;obtain⟨c,hc,hf⟩:=hf;obtain⟨v,hv,rv⟩:=ajm r1 hc;exact .inl (.inl ⟨a,vs,_,v,rfl,rfl,h1.sqL,hv,k _ _ H hf (hd.pushF rv)⟩)
 ·obtain⟨a,vs,rfl,h1,r1⟩:=rx.con_inv;cases e<;>first | exact dct hf | skip
  cases ry;obtain⟨c,hc,hf⟩:=hf;obtain⟨v,hv,rv⟩:=ajm r1 hc;exact .inl (.inr (.inl ⟨a,vs,_,v,rfl,rfl,h1.sqT,hv,k _ _ H hf (hd.pushF rv)⟩))
theorem as0 {a b:Expr}{ta tb:TEd}{pos:Pos}(hu:X.A.units+1<cLine) (ha:PD X a ta) (hb:PD X b tb) (hs:alm b:=by exact fun _ _=>rfl):PD X (.Subscript a b pos) (d2 fIx ta tb) :=
 (abd (ati hu) ha hb hs).mono fun _ _ _ h=>aja od_ix h
def rInD (neg:Bool):R2:=fun y x H Q=>∃ a o,x = .ref a/\DGet H a y o/\Q (.bl (nb neg o.isSome)) H
theorem op_inD (hu:X.A.units+1<cLine):OpR X (compareOp .In) (rInD false):=by
 intro pins s σ H x y v u Q I rx ry h;obtain⟨a,o,rfl,g,q⟩:=h;cases ry;exact d_in hu I g rx fun s3 I3=>⟨.bl o.isSome,H,I3,rfl,q⟩
theorem aq5 (hu:X.A.units+1<cLine):OpR X (compareOp .NotIn) (rInD true):=by
 intro pins s σ H x y v u Q I rx ry h;obtain⟨a,o,rfl,g,q⟩:=h;cases ry;exact auc hu I g rx fun s3 I3=>⟨.bl (!o.isSome),H,I3,rfl,q⟩
def rInS (neg:Bool):R2:=fun x y H Q=>∃ i j,x = .str i/\y = .str j/\Q (.bl (nb neg (!(Builtin.Str.occurrences j i 0 j.length 1).isEmpty))) H
def rInA (K:PySem.W.Frag) (neg:Bool):R2:=fun x y H Q=>rIn K neg x y H Q\/rInS neg x y H Q\/rInD neg x y H Q
theorem ah3 (hu:X.A.units+1<cLine):OpR X (compareOp .In) (rInA X.K false):=ad6.or ((show OpR X (compareOp .In) (rInS false) from akd).or (op_inD hu))
theorem ahd (hu:X.A.units+1<cLine):OpR X (compareOp .NotIn) (rInA X.K true):=af6.or ((show OpR X (compareOp .NotIn) (rInS true) from aka).or (aq5 hu))
def air:D->Option V
 | .non=>some .non
 | .bl b=>some (.bl b)
 | .int i=>some (.int i)
 | .str x=>some (.str x)
 | _=>none
def af5:List D->Option (List V)
 | []=>some []
 | d::ds=>match air d,af5 ds with
  | some v,some vs=>some (v::vs)
  | _,_=>none
theorem aim {α:Type}{f:α->D}{g:α->V}(h:∀ x,air (f x)=some (g x)):∀ xs:List α,af5 (xs.map f)=some (xs.map g)
 | []=>rfl
 | x::xs=>by
  show (match air (f x),af5 (xs.map f) with | some v,some vs=>some (v::vs) | _,_=>none)=_;rw[h x,aim h xs];rfl
theorem afn {d:D}{u v:V}(h:air d=some u) (r:Peek K A H d v):v=u/\ad4 u=true:=by
 cases d<;>cases h<;>cases r<;>exact⟨rfl,rfl⟩
theorem am3 {ds:List D}{us vs:List V}(h:af5 ds=some us) (rs:Reps K A H ds vs):vs=us/\us.all ad4=true:=by
 induction ds generalizing us vs with
 | nil=>cases rs;cases h;exact⟨rfl,rfl⟩
 | cons d ds ih =>
  cases rs with
  | cons r rs =>
  have h:=(show (match air d,af5 ds with | some v,some vs=>some (v::vs) | _,_=>none)=some us from h);cases e1:air d with
  | none=>rw[e1] at h;cases h
  | some k =>
   cases e2:af5 ds with
   | none=>rw[e1,e2] at h;cases h
   | some ks' =>
    rw[e1,e2] at h;cases h;obtain⟨h1,h2⟩:=afn e1 r.peek;obtain⟨h3,h4⟩:=ih e2 rs;exact⟨by rw[h1,h3],by rw[List.all_cons,h2,h4];rfl⟩
def fInL (neg:Bool) (d:D) (xs:List D) (Φ:Sl->Prop):Prop:=∃ v vs,air d=some v/\af5 xs=some vs/\Φ (.val (.bl (nb neg (inV v vs))))
def fIn (neg:Bool):O2:=fun d e Φ=>match e with
 | .lst xs=>fInL neg d xs Φ
 | .tup xs=>fInL neg d xs Φ
 | .con xs=>fInL neg d xs Φ
 | .str j=>∃ i,d = .str i/\Φ (.val (.bl (nb neg (!(Builtin.Str.occurrences j i 0 j.length 1).isEmpty))))
 | e=>∃ o,aoi e d=some o/\Φ (.val (.bl (nb neg o.isSome)))
theorem aiu (neg:Bool):OpD K (rInA K neg) (fIn neg):=by
 intro B L H d e x y Φ Q hd rx ry hf k;have seq:∀ (a:Addr) (xs:List D) (us:List V),fInL neg d xs Φ->y = .ref a->(SqL K H a us\/SqT K H a us)->Reps K (Al B (aaf L)) H xs us->rInA K neg x y H Q:=by
  rintro a xs us ⟨v,vs,h1,h2,h3⟩ rfl hs r;obtain⟨q1,q2⟩:=afn h1 rx;obtain⟨q3,q4⟩:=am3 h2 r;subst q1 q3;exact .inl ⟨a,us,rfl,hs,q2,q4,k _ _ H h3 (hd.pushF (.bl _))⟩
 have dct:(∃ o,aoi e d=some o/\Φ (.val (.bl (nb neg o.isSome))))->rInA K neg x y H Q:=fun ⟨o,ho,hf⟩=>by
  obtain⟨a,w,rfl,g,h1,h2⟩:=aks ho ry rx;have e:o.isSome=w.isSome:=by
   cases o with
   | none=>rw[h2 rfl];rfl
   | some c=>obtain⟨v,rfl,_⟩:=h1 c rfl;rfl
  exact .inr (.inr ⟨a,w,rfl,g,by rw[← e];exact k _ _ H hf (hd.pushF (.bl _))⟩)
 cases e<;>first | exact dct hf | skip
 ·obtain⟨i,rfl,hf⟩:=hf;cases rx;cases ry;exact .inr (.inl ⟨_,_,rfl,rfl,k _ _ H hf (hd.pushF (.bl _))⟩)
 ·obtain⟨a,vs,e1,h1,r1⟩:=ry.tup_inv;exact seq a _ vs hf e1 (.inr (SqT.of h1)) r1
 ·obtain⟨a,vs,e1,h1,r1⟩:=ry.lst_inv;exact seq a _ vs hf e1 (.inl (SqL.of h1)) r1
 ·obtain⟨a,vs,e1,h1,r1⟩:=ry.con_inv;exact seq a _ vs hf e1 (.inr h1.sqT) r1
end
mutual
def py:D->PyData
 | .non=>.none
 | .bl b=>.bool b
 | .int i=>.int i
 | .str x=>.str x
 | .tup xs=>.tuple (pyL xs)
 | .lst xs=>.list (pyL xs)
 | .con xs=>.tuple (pyL xs)
 | .scr xs=>.list (pyL xs)
 | _=>.none
def pyL:List D->List PyData
 | []=>[]
 | d::ds=>py d::pyL ds
end
mutual
def layD:D->Bool
 | .non=>true
 | .bl _=>true
 | .int _=>true
 | .str x=>PyData.strOk x
 | .tup xs=>layL xs
 | .lst xs=>layL xs
 | .con xs=>layL xs
 | .scr xs=>layL xs
 | _=>false
def layL:List D->Bool
 | []=>true
 | d::ds=>layD d&&layL ds
end
section
variable {X:Cx}{K:PySem.W.Frag}{A:Addr->Prop}{H:Hp}
mutual
theorem aom:∀ {d:D}{v:V},Rep K A H d v->layD d=true->DatV K H v (py d)
 | _,_,.non,_=>.non
 | _,_,.bl b,_=>.bl b
 | _,_,.int i,_=>.int i
 | _,_,.str x,_=>.str x
 | _,_,.raw v,e=>by simp[layD] at e
 | _,_,.tup h r,e=>.tup (SqT.of h) (ae1 r (by simpa [layD] using e))
 | _,_,.con h r,e=>.tup h.sqT (ae1 r (by simpa [layD] using e))
 | _,_,.lst _ h r,e=>.lst (SqL.of h) (ae1 r (by simpa [layD] using e))
 | _,_,.scr h r,e=>.lst h.sqL (ae1 r (by simpa [layD] using e))
 | _,_,.dK _ _ _ _,e=>by simp[layD] at e
 | _,_,.dT _ _ _ _,e=>by simp[layD] at e
theorem ae1:∀ {ds:List D}{vs:List V},Reps K A H ds vs->layL ds=true->DatVs K H vs (pyL ds)
 | _,_,.nil,_=>.nil
 | _,_,.cons h r,e=>by
  rw[layL,Bool.and_eq_true] at e;exact .cons (aom h e.1) (ae1 r e.2)
end
theorem am0 {d:D}{v:V}(h:Peek K A H d v) (e:layD d=true):DatV K H v (py d):=by
 cases d with
 | lst _=>obtain⟨a,vs,rfl,h,r⟩:=h.lst_inv;exact .lst (SqL.of h) (ae1 r (by simpa [layD] using e))
 | dK _=>simp[layD] at e
 | dT _=>simp[layD] at e
 | _=>exact aom h e
mutual
theorem ale:∀ {d:D},layD d=true->(py d).canLay0=true
 | .non,_=>rfl
 | .bl _,_=>rfl
 | .int _,_=>rfl
 | .str x,e=>by simpa [py,PyData.canLay0,layD] using e
 | .tup xs,e=>by simp only[py,PyData.canLay0];exact afd (by simpa [layD] using e)
 | .con xs,e=>by simp only[py,PyData.canLay0];exact afd (by simpa [layD] using e)
 | .lst xs,e=>by simp only[py,PyData.canLay0];exact afd (by simpa [layD] using e)
 | .scr xs,e=>by simp only[py,PyData.canLay0];exact afd (by simpa [layD] using e)
 | .raw _,e=>by simp[layD] at e
 | .dK _,e=>by simp[layD] at e
 | .dT _,e=>by simp[layD] at e
theorem afd:∀ {ds:List D},layL ds=true->PyData.canLayAll0 (pyL ds)=true
 | [],_=>rfl
 | d::ds,e=>by
  rw[layL,Bool.and_eq_true] at e;simp only[pyL,PyData.canLayAll0,ale e.1,afd e.2,Bool.and_self]
end
def aul (v:Bool):R2:=fun x y H Q=>∃ (a b:Addr) (kvs kws:List (Key×V)),x = .ref a/\y = .ref b/\H a=some (.dK kvs)/\H b=some (.dK kws)/\kvs.length=kws.length /\
 (∀ p∈kvs,∃ w,valV kws p.1=some w/\ad4 p.2=true/\ad4 w=true/\eqV p.2 w=true)/\Q (.bl v) H
theorem ai0 {A:Around}{s:Shared}{kws:List (Key×V)}{kb:List (Key×Value)}(rb:KV kws kb):∀ (r:List (Key×V)) (ka:List (Key×Value)),KV r ka ->
  (∀ p∈r,∃ w,valV kws p.1=some w/\ad4 p.2=true/\ad4 w=true/\eqV p.2 w=true)->PySem.W.KeqHits A s kb ka true
 | [],_,.nil,_=>.nil
 | (k,v)::r,(k',v')::ka,.cons ⟨e,rv⟩ h2,hf=>by
  have e:k=k':=e;subst e;obtain⟨w,hw,f1,f2,f3⟩:=hf (k,v) List.mem_cons_self;have hr:=rb.val k;rw[hw] at hr;obtain⟨y,ey,ry⟩:=hr.some_of;have hE:SeqAt.EqAt A s v' y (eqV v w):=atp rv ry f1 f2;rw[f3] at hE;have:=PySem.W.KeqHits.hit ey hE (ai0 rb r ka h2 fun p hp=>hf p (List.mem_cons_of_mem _ hp));rw[Bool.true_and] at this;exact this
theorem av4 (hu:X.A.units<cLine):OpR X (compareOp .Eq) (aul true):=by
 intro pins s σ H x y v u Q I rx ry h;obtain⟨a,b,kvs,kws,rfl,rfl,h1,h2,hl,hf,q⟩:=h;cases rx;cases ry;obtain⟨z1,d1,va,ra,da⟩:=apv I.hok h1;obtain⟨z2,d2,vb,rb,db⟩:=apv I.hok h2;have hl:va.length=vb.length:=by rw[← ra.length,← rb.length];exact hl
 refine PySem.W.keq_eq d1 d2 da db hu (fun _=>ai0 rb kvs va ra hf) ⟨.bl _,H,I,rfl,?_⟩;rw[hl];simpa using q
theorem aux (hu:X.A.units<cLine):OpR X (compareOp .NotEq) (aul false):=by
 intro pins s σ H x y v u Q I rx ry h;obtain⟨a,b,kvs,kws,rfl,rfl,h1,h2,hl,hf,q⟩:=h;cases rx;cases ry;obtain⟨z1,d1,va,ra,da⟩:=apv I.hok h1;obtain⟨z2,d2,vb,rb,db⟩:=apv I.hok h2;have hl:va.length=vb.length:=by rw[← ra.length,← rb.length];exact hl
 refine PySem.W.keq_ne d1 d2 da db hu (fun _=>ai0 rb kvs va ra hf) ⟨.bl _,H,I,rfl,?_⟩;rw[hl];simpa using q
def avf (neg:Bool):R2:=fun x y H Q=>scal x y=true/\Q (.bl (nb neg (decide (x=y)))) H
def rEqA (K:PySem.W.Frag) (neg:Bool):R2:=fun x y H Q=>avf neg x y H Q\/ao8 K neg x y H Q\/aul (!neg) x y H Q\/rEqD K neg x y H Q
theorem acp (hu:X.A.units+64<cLine):OpR X (compareOp .Eq) (rEqA X.K false):=(show OpR X (compareOp .Eq) (avf false) from aho).or ((ajb hu).or ((av4 (by omega)).or (atv hu)))
theorem apb (hu:X.A.units+64<cLine):OpR X (compareOp .NotEq) (rEqA X.K true):=(show OpR X (compareOp .NotEq) (avf true) from op_ne).or ((asf hu).or ((aux (by omega)).or (op_neD hu)))
def SameK (xs ys:List (Key×D)):Prop:=xs.length=ys.length/\∀ p∈xs,∃ e v w,valD ys p.1=some e/\air p.2=some v/\air e=some w/\eqV v w=true
def fEq (neg:Bool):O2:=fun d e Φ=>match d,e with
 | .int i,.int j=>Φ (.val (.bl (nb neg (decide (i=j)))))
 | .str i,.str j=>Φ (.val (.bl (nb neg (decide (i=j)))))
 | .bl i,.bl j=>Φ (.val (.bl (nb neg (decide (i=j)))))
 | .lst xs,.lst []=>Φ (.val (.bl (nb neg xs.isEmpty)))
 | .dK xs,.dK ys=>SameK xs ys/\Φ (.val (.bl (!neg)))
 | d,e=>layD d=true/\layD e=true/\min (py d).depth (py e).depth<=60/\Φ (.val (.bl (nb neg (PyData.eqv (py d) (py e)))))
theorem aqd {xs ys:List (Key×D)}{kvs kws:List (Key×V)}(h:SameK xs ys) (e1:xs.map (·.1)=kvs.map (·.1)) (r1:Reps K A H (xs.map (·.2)) (kvs.map (·.2))) (e2:ys.map (·.1)=kws.map (·.1)) (r2:Reps K A H (ys.map (·.2)) (kws.map (·.2))) :
  kvs.length=kws.length/\∀ p∈kvs,∃ w,valV kws p.1=some w/\ad4 p.2=true/\ad4 w=true/\eqV p.2 w=true:=by
 refine⟨by have a:=congrArg List.length e1;have b:=congrArg List.length e2;have c:=h.1;simp only[List.length_map] at a b;omega,fun p hp=>?_⟩;have:∀ (xs:List (Key×D)) (kvs:List (Key×V)),xs.map (·.1)=kvs.map (·.1)->Reps K A H (xs.map (·.2)) (kvs.map (·.2))->p∈kvs->∃ q∈xs,q.1=p.1/\Rep K A H q.2 p.2:=by
  intro xs;induction xs with
  | nil=>intro kvs e _ hp;cases kvs with
   | nil=>cases hp
   | cons _ _=>simp at e
  | cons q xs ih=>intro kvs e r hp;cases kvs with
   | nil=>cases hp
   | cons k kvs =>
    simp only[List.map_cons,List.cons.injEq] at e;cases r with
    | cons g r =>
     rcases List.mem_cons.mp hp with z | z
     ·subst z;exact⟨q,List.mem_cons_self,e.1,g⟩
     ·obtain⟨q',h1,h2⟩:=ih kvs e.2 r z;exact⟨q',List.mem_cons_of_mem _ h1,h2⟩
 obtain⟨q,hq,eq1,rq⟩:=this xs kvs e1 r1 hp;obtain⟨e,v,w,h1,h2,h3,h4⟩:=h.2 q hq;rw[eq1] at h1;obtain⟨w',hw,rw'⟩:=(agj e2 r2 p.1).1 e h1;obtain⟨z1,z2⟩:=afn h2 rq.peek;obtain⟨z3,z4⟩:=afn h3 rw'.peek;subst z1 z3;exact⟨w',hw,z2,z4,h4⟩
theorem adw (neg:Bool):OpD K (rEqA K neg) (fEq neg):=by
 intro B L H d e x y Φ Q hd rx ry hf k;unfold fEq at hf;split at hf
 ·cases rx;cases ry
  rename_i i j
  have e1:decide (V.int i=V.int j)=decide (i=j):=by simp
  exact .inl ⟨rfl,by rw[e1];exact k _ _ H hf (hd.pushF (.bl _))⟩
 ·cases rx;cases ry
  rename_i i j
  have e1:decide (V.str i=V.str j)=decide (i=j):=by simp
  exact .inl ⟨rfl,by rw[e1];exact k _ _ H hf (hd.pushF (.bl _))⟩
 ·cases rx;cases ry
  rename_i i j
  have e1:decide (V.bl i=V.bl j)=decide (i=j):=by simp
  exact .inl ⟨rfl,by rw[e1];exact k _ _ H hf (hd.pushF (.bl _))⟩
 ·rename_i xs
  obtain⟨a,vs,rfl,h1,r1⟩:=rx.lst_inv;obtain⟨b,us,rfl,h2,r2⟩:=ry.lst_inv;cases r2;have e1:xs.isEmpty=vs.isEmpty:=by cases r1<;>rfl
  refine .inr (.inl ⟨a,b,vs,rfl,rfl,SqL.of h1,SqL.of h2,?_⟩);rw[← e1];exact k _ _ H hf (hd.pushF (.bl _))
 ·obtain⟨a,kvs,rfl,h1,e1,r1⟩:=rx.dK_inv;obtain⟨b,kws,rfl,h2,e2,r2⟩:=ry.dK_inv;obtain⟨q1,q2⟩:=aqd hf.1 e1 r1 e2 r2;exact .inr (.inr (.inl ⟨a,b,kvs,kws,rfl,rfl,h1,h2,q1,q2,k _ _ H hf.2 (hd.pushF (.bl _))⟩))
 ·obtain⟨l1,l2,dp,hf⟩:=hf;exact .inr (.inr (.inr ⟨_,_,am0 rx l1,am0 ry l2,ale l1,ale l2,dp,k _ _ H hf (hd.pushF (.bl _))⟩))
end
end L2
namespace L2
open PySem PySem.Spec PyProof.Rows Lw
def cutD (xs:List D) (lo hi:Option Int):List D:=(xs.drop (HT.sIx xs.length 0 lo)).take (HT.sIx xs.length xs.length hi-HT.sIx xs.length 0 lo)
def pt (o:Option TEd):List Addr->List Sl->(Option Int->List Sl->Prop)->Prop:=fun dk ρ k=>match o with
 | none=>k none ρ
 | some t=>t dk ρ fun r ρ'=>match r with
  | .val (.int i)=>k (some i) ρ'
  | _=>False
def als (K:PySem.W.Frag):Option TEd->TO
 | none=>apo
 | some t=>tPart (dE K t)
abbrev O3:=D->Option Int->Option Int->(Sl->Prop)->Prop
def dSl (f:O3) (ta:TEd) (lo hi:Option TEd):TEd:=fun dk ρ Φ=>ta dk ρ fun ra ρ1=>pt lo dk ρ1 fun l ρ2=>pt hi dk ρ2 fun u ρ3=>match sd ra with
 | some d=>f d l u fun r=>Φ r ρ3
 | none=>False
def dSlS (f:O3) (i:Nat) (lo hi:Option TEd):TEd:=fun dk ρ Φ=>(at? ρ i).isSome=true/\pt lo dk ρ fun l ρ2=>pt hi dk ρ2 fun u ρ3=>match at? ρ3 i with
 | some d=>f d l u fun r=>Φ r ρ3
 | none=>False
abbrev R3:=V->Option Int->Option Int->Hp->VK->Prop
def SlD (K:PySem.W.Frag) (r:R3) (f:O3):Prop:=∀ (B:Bs) (L:Ents) (H:Hp) (d:D) (lo hi:Option Int) (x:V) (Φ:Sl->Prop) (Q:VK),DS K B L H->Peek K (Al B (aaf L)) H d x->f d lo hi Φ ->
 (∀ s v H',Φ s->DS K B ((s,some v)::L) H'->Q v H')->r x lo hi H Q
section
variable {X:Cx}{K:PySem.W.Frag}{a b c:Expr}{ta tb tc:TEd}{pos p2:Pos}{lo hi:Option Expr}
theorem aiv {o:Option TEd}{B:Bs}{ρ:List Sl}{σ:St}{T:Ents}{H:Hp}{k:Option Int->List Sl->Prop}{Q:Option Int->Hp->Prop}(hl:ρ.length=σ.length) (hd:DS K B (ρ.zip σ++T) H) (h:pt o B.dk ρ k)
  (hk:∀ i ρ' H',ρ'.length=σ.length->DS K B (ρ'.zip σ++T) H'->k i ρ'->Q i H'):als K o σ H Q:=by
 cases o with
 | none=>exact hk none ρ H hl hd h
 | some t =>
  refine⟨B,ρ,T,_,hl,hd,h,fun r ρ' v H' l1 d1 h1=>?_⟩;cases r with
  | no=>exact h1.elim
  | own d=>exact h1.elim
  | val d =>
   cases d with
   | int i=>exact⟨i,d1.valAt.int_inv,hk (some i) ρ' H' l1 d1.drop h1⟩
   | _=>exact h1.elim
theorem po_n:PO X none (als X.K none):=acm
theorem po_s {e:Expr}{t:TEd}(h:PD X e t):PO X (some e) (als X.K (some t)):=ace h
theorem ase {f:O3}{r:R3}{ol oh:Option TEd}(hr:SlR X r) (hf:SlD X.K r f) (ha:PD X a ta) (h1:PO X lo (als X.K ol)) (h2:PO X hi (als X.K oh)):PD X (.Subscript a (.Slice lo hi none p2) pos) (dSl f ta ol oh) :=
 (abr hr ha h1 h2).mono fun σ H Q hq0=>hq0.elim fun B ρ T Φ hl hd ht k=>⟨B,ρ,T,_,hl,hd,ht,fun ra ρ1 x H1 l1 d1 q1=>aiv l1 d1 q1 fun l ρ2 H2 l2 d2 q2=>aiv l2 d2 q2 fun u ρ3 H3 l3 d3 q3=>by
  cases e1:sd ra with
  | none=>rw[e1] at q3;exact q3.elim
  | some d =>
   rw[e1] at q3;obtain⟨z1,z2⟩:=d3.one e1;exact hf B _ H3 d l u x _ Q z1 z2.peek q3 fun s v H' hs hd'=>k s ρ3 v H' l3 hd'.mid hs⟩
theorem ac7 {f:O3}{r:R3}{ol oh:Option TEd}{i:Nat}(hr:SlR X r) (hf:SlD X.K r f) (ha:PE X a (tVar i)) (h1:PO X lo (als X.K ol)) (h2:PO X hi (als X.K oh)):PD X (.Subscript a (.Slice lo hi none p2) pos) (dSlS f i ol oh) :=
 (abr hr ha h1 h2).mono fun σ H Q hq0=>hq0.elim fun B ρ T Φ hl hd ⟨hi',ht⟩ k=>by
  obtain⟨d0,h0⟩:=Option.isSome_iff_exists.mp hi';obtain⟨x,hx,_⟩:=hd.peek hl h0;refine⟨x,hx,aiv hl hd ht fun l ρ2 H2 l2 d2 q2=>aiv l2 d2 q2 fun u ρ3 H3 l3 d3 q3=>?_⟩;cases e1:at? ρ3 i with
  | none=>rw[e1] at q3;exact q3.elim
  | some d =>
   rw[e1] at q3;obtain⟨x',hx',px⟩:=d3.peek l3 e1;rw[hx] at hx';cases hx';exact hf B _ H3 d l u x _ Q d3 px q3 fun s v H' hs hd'=>k s ρ3 v H' l3 hd'.mid hs
def rSlA (K:PySem.W.Frag):R3:=fun x lo hi H Q=>rSlL K x lo hi H Q\/rSlT K x lo hi H Q\/rSlS x lo hi H Q
theorem ach:SlR X (rSlA X.K):=acz.or (sl_tup.or arf)
def fSl:O3
 | .lst xs,lo,hi,Φ=>Φ (.own (.lst (cutD xs lo hi)))
 | .scr xs,lo,hi,Φ=>Φ (.own (.lst (cutD xs lo hi)))
 | .tup xs,lo,hi,Φ=>¬ (HT.sIx xs.length 0 lo=0/\HT.sIx xs.length xs.length hi=xs.length)/\Φ (.val (.tup (cutD xs lo hi)))
 | .str z,lo,hi,Φ=>z.length<=100000/\Φ (.val (.str (cutS z lo hi)))
 | _,_,_,_=>False
theorem ais {A:Addr->Prop}{H:Hp}{ds:List D}{vs:List V}(r:Reps K A H ds vs) (lo hi:Option Int):Reps K A H (cutD ds lo hi) (cutV vs lo hi):=by
 unfold cutD cutV;rw[r.length];exact (r.drop _).take _
theorem aeb:SlD K (rSlA K) fSl:=by
 intro B L H d lo hi x Φ Q hd rx hf k;cases d<;>first | exact False.elim hf | skip
 ·cases rx;exact .inr (.inr ⟨_,rfl,ags hf.1,k _ _ _ hf.2 (hd.pushF (.str _))⟩)
 ·obtain⟨a,vs,rfl,h1,r1⟩:=rx.tup_inv;exact .inr (.inl ⟨a,vs,rfl,SqT.of h1,by rw[← r1.length];exact hf.1,fun p hp=>k _ _ _ hf.2 (hd.tupF hp (ais r1 lo hi))⟩)
 ·obtain⟨a,vs,rfl,h1,r1⟩:=rx.lst_inv;exact .inl ⟨a,vs,rfl,SqL.of h1,fun p hp=>k _ _ _ hf (hd.lstF hp (ais r1 lo hi))⟩
 ·obtain⟨a,vs,rfl,h1,r1⟩:=rx.scr_inv;exact .inl ⟨a,vs,rfl,h1.sqL,fun p hp=>k _ _ _ hf (hd.lstF hp (ais r1 lo hi))⟩
abbrev O1:=D->(Sl->Prop)->Prop
abbrev R1:=V->Hp->VK->Prop
def UnD (K:PySem.W.Frag) (r:R1) (f:O1):Prop:=∀ (B:Bs) (L:Ents) (H:Hp) (d:D) (x:V) (Φ:Sl->Prop) (Q:VK),DS K B L H->Peek K (Al B (aaf L)) H d x->f d Φ->(∀ s v H',Φ s->DS K B ((s,some v)::L) H'->Q v H')->r x H Q
def d1 (f:O1) (ta:TEd):TEd:=fun dk ρ Φ=>ta dk ρ fun ra ρ1=>match sd ra with
 | some d=>f d fun r=>Φ r ρ1
 | none=>False
theorem av6 {f:O1}{r:R1}(hf:UnD X.K r f){σ:St}{H:Hp}{Q:VK}(h:dE X.K (d1 f ta) σ H Q):dE X.K ta σ H fun x H1=>r x H1 Q:=by
 obtain⟨B,ρ,T,Φ,hl,hd,ht,k⟩:=h;refine⟨B,ρ,T,_,hl,hd,ht,fun ra ρ1 x H1 l1 d1 h1=>?_⟩;cases e1:sd ra with
 | none=>rw[e1] at h1;exact h1.elim
 | some d =>
  rw[e1] at h1;obtain⟨q1,q2⟩:=d1.one e1;exact hf B _ H1 d x _ Q q1 q2.peek h1 fun s v H' hs hd'=>k s ρ1 v H' l1 hd'.mid hs
def fNeg:O1
 | .int i,Φ=>Φ (.val (.int (-i)))
 | _,_=>False
theorem ath (ha:PD X a ta):PD X (.UnaryOp .USub a pos) (d1 fNeg ta):=(pe_un un_neg ha).mono fun _ _ _ h=>av6 (f:=fNeg) (fun B L H d x Φ Q hd rx hf k=>by
 cases d<;>first | exact False.elim hf | skip
 cases rx;exact⟨_,rfl,k _ _ H hf (hd.pushF (.int _))⟩) h
def truD:D->Option Bool
 | .non=>some false
 | .bl b=>some b
 | .int i=>some (i != 0)
 | .str x=>some ((x.length:Int) != 0)
 | .lst xs=>some (!xs.isEmpty)
 | .tup xs=>some (!xs.isEmpty)
 | .dK xs=>some (!xs.isEmpty)
 | _=>none
def strS:D->Bool
 | .str x=>decide (x.length<=100000)
 | _=>true
theorem ass {A:Addr->Prop}{H:Hp}{d:D}{x:V}{k:Bool}(h:Peek K A H d x) (e:truD d=some k) (hs:strS d=true):TruV K x H k:=by
 cases d<;>simp only[truD,reduceCtorEq,Option.some.injEq] at e<;>subst e
 ·have:=h.non_inv;subst this;rfl
 ·have:=h.bl_inv;subst this;rfl
 ·have:=h.int_inv;subst this;rfl
 ·have:=h.str_inv;subst this;exact⟨ags (of_decide_eq_true hs),rfl⟩
 ·obtain⟨a,vs,rfl,h,r⟩:=h.tup_inv;exact .inr (.inl ⟨vs,SqT.of h,by cases r<;>rfl⟩)
 ·obtain⟨a,vs,rfl,h,r⟩:=h.lst_inv;exact .inl ⟨vs,SqL.of h,by cases r<;>rfl⟩
 ·rename_i kvs
  obtain⟨a,vs,rfl,h,e,r⟩:=h.dK_inv;refine .inr (.inr ⟨vs,h,?_⟩);cases kvs<;>cases vs<;>simp at e ⊢
def tst (t:TEd):TTd:=fun dk ρ Φ=>t dk ρ fun r ρ'=>match sd r with
 | some d=>strS d=true/\∃ b,truD d=some b/\Φ b ρ'
 | none=>False
theorem aut (ha:PD X a ta) (he:∀ whole,isTrue a X.env whole=(do let v ← whole;standAt a.pos;holding [v] (truthy v)):=by intro _;rfl):PDt X a (tst ta) :=
 (ary ha he).mono fun σ H Q hq0=>hq0.elim fun B ρ T Φ hl hd ht k=>⟨B,ρ,T,_,hl,hd,ht,fun r ρ' v H' l1 d1 h1=>by
  cases e1:sd r with
  | none=>rw[e1] at h1;exact h1.elim
  | some d =>
   rw[e1] at h1;obtain⟨hs,b,hb,h1⟩:=h1;obtain⟨q1,q2⟩:=d1.one e1;exact⟨b,ass q2.peek hb hs,k b ρ' H' l1 q1 h1⟩⟩
def tAndD (t u:TTd):TTd:=fun dk ρ Φ=>t dk ρ fun c ρ1=>if c=true then u dk ρ1 Φ else Φ false ρ1
def tOrD (t u:TTd):TTd:=fun dk ρ Φ=>t dk ρ fun c ρ1=>if c=true then Φ true ρ1 else u dk ρ1 Φ
def tNotD (t:TTd):TTd:=fun dk ρ Φ=>t dk ρ fun c ρ1=>Φ (!c) ρ1
variable {tA tB':TTd}{rest:List Expr}
theorem aix (h:PDt X a tA):PDw X (.BoolOp .And [a] pos) tA:=ap9 h
theorem ajk (h:PDt X a tA):PDw X (.BoolOp .Or [a] pos) tA:=aik h
theorem alv (ha:PDt X a tA) (hb:PDw X (.BoolOp .And (b::rest) pos) tB'):PDw X (.BoolOp .And (a::b::rest) pos) (tAndD tA tB') :=
 (atn ha hb).mono fun σ H Q hq0=>hq0.elim fun B ρ T Φ hl hd ht k=>⟨B,ρ,T,_,hl,hd,ht,fun c ρ1 H1 l1 d1 h1=>by
  cases c with
  | true=>exact (if_pos rfl).mpr ⟨B,ρ1,T,Φ,l1,d1,(if_pos rfl).mp h1,k⟩
  | false=>exact iteF (k false ρ1 H1 l1 d1 ((if_neg (by decide)).mp h1))⟩
theorem ah0 (ha:PDt X a tA) (hb:PDw X (.BoolOp .Or (b::rest) pos) tB'):PDw X (.BoolOp .Or (a::b::rest) pos) (tOrD tA tB') :=
 (ak9 ha hb).mono fun σ H Q hq0=>hq0.elim fun B ρ T Φ hl hd ht k=>⟨B,ρ,T,_,hl,hd,ht,fun c ρ1 H1 l1 d1 h1=>by
  cases c with
  | true=>exact (if_pos rfl).mpr (k true ρ1 H1 l1 d1 ((if_pos rfl).mp h1))
  | false=>exact iteF ⟨B,ρ1,T,Φ,l1,d1,(if_neg (by decide)).mp h1,k⟩⟩
theorem al2 (h:PDw X a tA):PDt X a tA:=PW.pt h
theorem ald (h:PDt X a tA):PDt X (.UnaryOp .Not a pos) (tNotD tA):=(add h).mono fun σ H Q hq0=>hq0.elim fun B ρ T Φ hl hd ht k=>⟨B,ρ,T,_,hl,hd,ht,fun c ρ1 H1 l1 d1 h1=>k _ ρ1 H1 l1 d1 h1⟩
def akv (t u:TEd):TEd:=fun dk ρ Φ=>t dk ρ fun r ρ1=>match r with
 | .val (.bl true)=>u dk ρ1 Φ
 | .val (.bl false)=>Φ (.val (.bl false)) ρ1
 | _=>False
def avh (t u:TEd):TEd:=fun dk ρ Φ=>t dk ρ fun r ρ1=>match r with
 | .val (.bl true)=>Φ (.val (.bl true)) ρ1
 | .val (.bl false)=>u dk ρ1 Φ
 | _=>False
theorem aer {op:BoolOp}(h:PD X a ta):PD X (.BoolOp op [a] pos) ta:=ah6 h
theorem aia (ha:PD X a ta) (hb:PD X (.BoolOp .And (b::rest) pos) tb):PD X (.BoolOp .And (a::b::rest) pos) (akv ta tb) :=
 (af8 ha hb).mono fun σ H Q hq0=>hq0.elim fun B ρ T Φ hl hd ht k=>⟨B,ρ,T,_,hl,hd,ht,fun r ρ1 v H1 l1 d1 h1=>by
  cases r with
  | no=>exact h1.elim
  | own d=>exact h1.elim
  | val d =>
   cases d with
   | bl c =>
    have:=d1.valAt.bl_inv;subst this;refine⟨c,rfl,?_⟩;cases c with
    | true=>exact (if_pos rfl).mpr ⟨B,ρ1,T,Φ,l1,d1.drop,h1,k⟩
    | false=>exact iteF (k _ ρ1 _ H1 l1 (d1.drop.push (.bl _)) h1)
   | _=>exact h1.elim⟩
theorem avy (ha:PD X a ta) (hb:PD X (.BoolOp .Or (b::rest) pos) tb):PD X (.BoolOp .Or (a::b::rest) pos) (avh ta tb) :=
 (pe_or ha hb).mono fun σ H Q hq0=>hq0.elim fun B ρ T Φ hl hd ht k=>⟨B,ρ,T,_,hl,hd,ht,fun r ρ1 v H1 l1 d1 h1=>by
  cases r with
  | no=>exact h1.elim
  | own d=>exact h1.elim
  | val d =>
   cases d with
   | bl c =>
    have:=d1.valAt.bl_inv;subst this;refine⟨c,rfl,?_⟩;cases c with
    | true=>exact (if_pos rfl).mpr (k _ ρ1 _ H1 l1 (d1.drop.push (.bl _)) h1)
    | false=>exact iteF ⟨B,ρ1,T,Φ,l1,d1.drop,h1,k⟩
   | _=>exact h1.elim⟩
end
inductive Ar where
 | t (d:D) | al (i:Nat)
abbrev TAd:=List Addr->List Sl->(List Ar->List Sl->Prop)->Prop
def ada:List Ar->List V->Ents
 | .t d::as,v::vs=>(.val d,some v)::ada as vs
 | .al _::as,_::vs=>ada as vs
 | _,_=>[]
inductive ArOk (σ:St):List Ar->List V->Prop where
 | nil:ArOk σ [] []
 | t {d:D} {v:V} {as:List Ar} {vs:List V}:ArOk σ as vs->ArOk σ (.t d::as) (v::vs)
 | al {i:Nat} {v:V} {as:List Ar} {vs:List V}:σ[i]?=some (some v)->ArOk σ as vs->ArOk σ (.al i::as) (v::vs)
def arDs (ρ:List Sl):List Ar->Option (List D)
 | []=>some []
 | .t d::as=>(arDs ρ as).map (d::·)
 | .al i::as=>match at? ρ i,arDs ρ as with
  | some d,some ds=>some (d::ds)
  | _,_=>none
def arTs:List Ar->Option (List D)
 | []=>some []
 | .t d::as=>(arTs as).map (d::·)
 | .al _::_=>none
def noAl:List Ar->Bool
 | []=>true
 | .t _::as=>noAl as
 | .al _::_=>false
def dA (K:PySem.W.Frag) (τ:TAd):TA:=fun σ H Q=>∃ (B:Bs) (ρ:List Sl) (T:Ents) (Φ:List Ar->List Sl->Prop),ρ.length=σ.length/\DS K B (ρ.zip σ++T) H/\τ B.dk ρ Φ /\
 ∀ as ρ' vs H',ρ'.length=σ.length->ArOk σ as vs->DS K B (ρ'.zip σ++(ada as vs++T)) H'->Φ as ρ'->Q vs H'
theorem dA.elim {K:PySem.W.Frag}{τ:TAd}{σ:St}{H:Hp}{Q:List V->Hp->Prop}{P:Prop}(h:dA K τ σ H Q) (f:∀ (B:Bs) (ρ:List Sl) (T:Ents) (Φ:List Ar->List Sl->Prop),ρ.length=σ.length->DS K B (ρ.zip σ++T) H->τ B.dk ρ Φ ->(∀ as ρ' vs H',ρ'.length=σ.length->ArOk σ as vs->DS K B (ρ'.zip σ++(ada as vs++T)) H'->Φ as ρ'->Q vs H')->P):P:=by
 obtain⟨B,ρ,T,Φ,hl,hd,ht,k⟩:=h;exact f B ρ T Φ hl hd ht k
abbrev PAd (X:Cx) (es:List Expr) (τ:TAd):Prop:=PA X es (dA X.K τ)
def aNil:TAd:=fun _ ρ Φ=>Φ [] ρ
def aC (te:TEd) (tr:TAd):TAd:=fun dk ρ Φ=>te dk ρ fun r ρ1=>tr dk ρ1 fun as ρ2=>match sd r with
 | some d=>Φ (.t d::as) ρ2
 | none=>False
def aS (i:Nat) (tr:TAd):TAd:=fun dk ρ Φ=>(at? ρ i).isSome=true/\tr dk ρ fun as ρ2=>Φ (.al i::as) ρ2
theorem PA.mono {X:Cx}{es:List Expr}{t t':TA}(h:PA X es t) (k:∀ σ H Q,t' σ H Q->t σ H Q):PA X es t':=fun p pins s σ H Q I q=>h p pins s σ H Q I (k σ H Q q)
def Am (B:Bs) (a:Addr):Prop:=a∉B.dk/\(B.A0 a\/B.H0 a=none)
inductive Peeks (K:PySem.W.Frag) (A:Addr->Prop) (H:Hp):List D->List V->Prop where
 | nil:Peeks K A H [] []
 | cons {d:D} {v:V} {ds:List D} {vs:List V}:Peek K A H d v->Peeks K A H ds vs->Peeks K A H (d::ds) (v::vs)
section
variable {X:Cx}{K:PySem.W.Frag}{B:Bs}{H H':Hp}{L T:Ents}{ρ:List Sl}{σ:St}{e:Expr}{es:List Expr}{te:TEd}{ta:TAd}{pos:Pos}
theorem pa_n:PAd X [] aNil:=aad.mono fun σ H Q hq0=>hq0.elim fun B ρ T Φ hl hd ht k=>k [] ρ [] H hl .nil hd ht
theorem pa_k (ha:PD X e te) (hr:PAd X es ta) (h:ah1 e=true:=by rfl):PAd X (e::es) (aC te ta):=(pa_c ha hr h).mono fun σ H Q hq0=>hq0.elim fun B ρ T Φ hl hd ht k =>
 ⟨B,ρ,T,_,hl,hd,ht,fun r ρ1 x H1 l1 d1 h1=>⟨B,ρ1,(r,some x)::T,_,l1,d1,h1,fun as ρ2 vs H2 l2 ok d2 h2=>by
  cases e1:sd r with
  | none=>rw[e1] at h2;exact h2.elim
  | some d =>
   rw[e1] at h2;refine k (.t d::as) ρ2 (x::vs) H2 l2 (.t ok) ?_ h2;have d3:DS X.K B ((ρ2.zip σ++ada as vs)++(r,some x)::T) H2:=by simpa using d2
   have d4:=(d3.thaw e1).front;exact DS.mid (by simpa using d4)⟩⟩
theorem pa_s {i:Nat}(ha:PE X e (tVar i)) (hr:PAd X es ta) (h:ah1 e=true:=by rfl):PAd X (e::es) (aS i ta):=(pa_c ha hr h).mono fun σ H Q hq0=>hq0.elim fun B ρ T Φ hl hd ⟨hi,ht⟩ k=>by
 obtain⟨d0,h0⟩:=Option.isSome_iff_exists.mp hi;obtain⟨x,hx,_⟩:=hd.peek hl h0;exact⟨x,hx,B,ρ,T,_,hl,hd,ht,fun as ρ2 vs H2 l2 ok d2 h2=>k (.al i::as) ρ2 (x::vs) H2 l2 (.al hx ok) d2 h2⟩
theorem DS.rmArgs:∀ {as:List Ar}{vs:List V},DS K B (L++(ada as vs++T)) H->DS K B (L++T) H
 | [],_,h=>h
 | .t d::as,[],h=>h
 | .al _::as,[],h=>h
 | .t d::as,v::vs,h=>DS.rmArgs (as:=as) (vs:=vs) (DS.drop (L1:=L) (L2:=ada as vs++T) h)
 | .al _::as,v::vs,h=>DS.rmArgs (as:=as) (vs:=vs) h
theorem ae4:∀ {as:List Ar}{vs:List V},aaf (L++(ada as vs++T))=aaf (L++T)
 | [],_=>rfl
 | .t d::as,[]=>rfl
 | .al _::as,[]=>rfl
 | .t d::as,v::vs=>(show aaf (L++(Sl.val d,some v)::(ada as vs++T))=_ from ag9).trans (ae4 (as:=as) (vs:=vs))
 | .al _::as,v::vs=>ae4 (as:=as) (vs:=vs)
theorem DS.temps {as:List Ar}{vs:List V}(h:DS K B (L++(ada as vs++T)) H) (ok:ArOk σ as vs):∀ ds,arTs as=some ds->Reps K (Al B (aaf (L++T))) H ds vs:=by
 have key:∀ p∈ada as vs,SlOk K (Al B (aaf (L++T))) H p.1 p.2:=fun p hp=>by
  have:=h.ok p (by simp[hp]);rw[ae4] at this;exact this
 clear h;induction ok with
 | nil=>intro ds e;cases e;exact .nil
 | @t d v as vs ok ih =>
  intro ds e;obtain⟨ds',e1,rfl⟩:=Option.map_eq_some_iff.mp e;obtain⟨u,e2,r⟩:=key (.val d,some v) List.mem_cons_self;cases e2;exact .cons r (ih (fun p hp=>key p (List.mem_cons_of_mem _ hp)) ds' e1)
 | al _ _ _=>intro ds e;cases e
theorem DS.argsP {as:List Ar}{vs:List V}(hl:ρ.length=σ.length) (h:DS K B (ρ.zip σ++(ada as vs++T)) H) (ok:ArOk σ as vs):∀ ds,arDs ρ as=some ds ->
  Peeks K (Al B (aaf (ρ.zip σ++T))) H ds vs/\Reps K (Am B) H ds vs/\(noAl as=true->Reps K (Al B (aaf (ρ.zip σ++T))) H ds vs):=by
 have key:∀ p∈ada as vs,SlOk K (Al B (aaf (ρ.zip σ++T))) H p.1 p.2:=fun p hp=>by
  have:=h.ok p (by simp[hp]);rw[ae4] at this;exact this
 have h0:=h.rmArgs;have am:∀ a,Al B (aaf (ρ.zip σ++T)) a->Am B a:=fun a z=>⟨z.1,z.2.2⟩
 clear h;induction ok with
 | nil=>intro ds e;cases e;exact⟨.nil,.nil,fun _=>.nil⟩
 | @t d v as vs ok ih =>
  intro ds e;obtain⟨ds',e1,rfl⟩:=Option.map_eq_some_iff.mp e;obtain⟨u,e2,r⟩:=key (.val d,some v) List.mem_cons_self;cases e2;obtain⟨p1,p2,p3⟩:=ih (fun p hp=>key p (List.mem_cons_of_mem _ hp)) ds' e1;exact⟨.cons r.peek p1,.cons (r.mono (.all am)) p2,fun n=>.cons r (p3 n)⟩
 | @al i v as vs hi ok ih =>
  intro ds e;have e:=(show (match at? ρ i,arDs ρ as with | some d,some ds=>some (d::ds) | _,_=>none)=some ds from e);cases e1:at? ρ i with
  | none=>rw[e1] at e;cases e
  | some d =>
   cases e2:arDs ρ as with
   | none=>rw[e1,e2] at e;cases e
   | some ds' =>
    rw[e1,e2] at e;cases e;obtain⟨p1,p2,p3⟩:=ih (fun p hp=>key p hp) ds' e2;obtain⟨v',hv',pv⟩:=h0.peek hl e1;rw[hi] at hv';cases hv';have rv:Rep K (Am B) H d v:=by
     unfold at? at e1;cases e3:ρ[i]? with
     | none=>rw[e3] at e1;cases e1
     | some s =>
      rw[e3] at e1;obtain⟨l1,y,l2,hy,_,hz,_⟩:=afi hl e3;rw[hi] at hy;cases hy;have hm:(s,some v)∈ρ.zip σ++T:=by rw[hz];simp
      have:=h0.ok _ hm;cases s with
      | no=>cases e1
      | val c=>cases e1;obtain⟨u,e4,r⟩:=this;cases e4;exact r.mono (.all am)
      | own c =>
       cases e1;obtain⟨a,e4,r⟩:=this;cases e4;have nw:=h0.new a (aco.mpr ⟨_,hm,rfl⟩);exact r.rep am ⟨nw.2,.inr nw.1⟩
    exact⟨.cons pv p1,.cons rv p2,fun n=>by simp[noAl] at n⟩
def dTup (ta:TAd):TEd:=fun dk ρ Φ=>ta dk ρ fun as ρ'=>match arTs as with
 | some ds=>ds.length<=1000/\Φ (.val (.tup ds)) ρ'
 | none=>False
def dLst (ta:TAd):TEd:=fun dk ρ Φ=>ta dk ρ fun as ρ'=>match arTs as with
 | some ds=>ds.length<=1000/\Φ (.own (.lst ds)) ρ'
 | none=>False
theorem ao1 {n:Nat}(h:n<=1000):n<=sizeLine:=Nat.le_trans h (by decide)
theorem aqk {x1:Nat}(h:PAd X es ta):PD X (.Tuple es x1 pos) (dTup ta):=(adz h).mono fun σ H Q hq0=>hq0.elim fun B ρ T Φ hl hd ht k=>⟨B,ρ,T,_,hl,hd,ht,fun as ρ1 vs H1 l1 ok d1 h1=>by
 cases e1:arTs as with
 | none=>rw[e1] at h1;exact h1.elim
 | some ds =>
  rw[e1] at h1;have r:=d1.temps ok ds e1;exact⟨ao1 (by rw[← r.length];exact h1.1),fun p hp=>k _ ρ1 _ _ l1 (d1.rmArgs.tup hp r) h1.2⟩⟩
theorem adf (h:PAd X es ta):PD X (.List es pos) (dLst ta):=(aaz h).mono fun σ H Q hq0=>hq0.elim fun B ρ T Φ hl hd ht k=>⟨B,ρ,T,_,hl,hd,ht,fun as ρ1 vs H1 l1 ok d1 h1=>by
 cases e1:arTs as with
 | none=>rw[e1] at h1;exact h1.elim
 | some ds =>
  rw[e1] at h1;have r:=d1.temps ok ds e1;exact⟨ao1 (by rw[← r.length];exact h1.1),fun p hp=>k _ ρ1 _ _ l1 (d1.rmArgs.lstF hp r).mid h1.2⟩⟩
abbrev OC:=List D->(Sl->Prop)->Prop
def ajh (K:PySem.W.Frag) (r:List V->Hp->VK->Prop) (f:OC):Prop:=∀ (B:Bs) (L:Ents) (H:Hp) (ds:List D) (xs:List V) (Φ:Sl->Prop) (Q:VK),DS K B L H->Peeks K (Al B (aaf L)) H ds xs->f ds Φ ->
 (∀ s v H',Φ s->DS K B ((s,some v)::L) H'->Q v H')->r xs H Q
def dC (f:OC) (ta:TAd):TEd:=fun dk ρ Φ=>ta dk ρ fun as ρ'=>match arDs ρ' as with
 | some ds=>f ds fun r=>Φ r ρ'
 | none=>False
theorem apg {f:OC}{r:List V->Hp->VK->Prop}(hf:ajh X.K r f){σ:St}{H:Hp}{Q:VK}(h:dE X.K (dC f ta) σ H Q):dA X.K ta σ H fun vs H1=>r vs H1 Q:=by
 obtain⟨B,ρ,T,Φ,hl,hd,ht,k⟩:=h;refine⟨B,ρ,T,_,hl,hd,ht,fun as ρ1 vs H1 l1 ok d1 h1=>?_⟩;cases e1:arDs ρ1 as with
 | none=>rw[e1] at h1;exact h1.elim
 | some ds =>
  rw[e1] at h1;exact hf B _ H1 ds vs _ Q d1.rmArgs (d1.argsP l1 ok ds e1).1 h1 fun s v H' hs hd'=>k s ρ1 v H' l1 hd'.mid hs
variable {x:Str}{p:Pos}{id:String}{f:OC}{r:List V->Hp->VK->Prop}
theorem aa0 (hc:ab6 X (.builtin id) r) (hf:ajh X.K r f) (hg:Gl X x) (hm:X.mg x=none) (hv:bootBuiltins x=some (.builtin id)) (ha:PAd X (e::es) ta) (hn:x ≠ "__name__" := by decide) (hdb:(x == ("__debug__" : Str))=false:=by decide)
  (he:starEach (e::es) X.env=(false,eval e X.env)::starEach es X.env:=by rfl) (hpl:(backTo pos (starEach es X.env)).any (·.1)=false:=by rfl):PD X (.Call (.Name x p) (e::es) [] pos) (dC f ta) :=
 (aam hc hg hm hv ha hn hdb he hpl).mono fun _ _ _ h=>apg hf h
theorem ad5 (hc:ab6 X (.type id) r) (hf:ajh X.K r f) (hg:Gl X x) (hm:X.mg x=none) (hv:bootBuiltins x=some (.type id)) (ha:PAd X (e::es) ta) (hn:x ≠ "__name__" := by decide) (hdb:(x == ("__debug__" : Str))=false:=by decide)
  (he:starEach (e::es) X.env=(false,eval e X.env)::starEach es X.env:=by rfl) (hpl:(backTo pos (starEach es X.env)).any (·.1)=false:=by rfl):PD X (.Call (.Name x p) (e::es) [] pos) (dC f ta) :=
 (aa5 hc hg hm hv ha hn hdb he hpl).mono fun _ _ _ h=>apg hf h
end
def immS:Sl->Bool
 | .val d=>imm d
 | .own (.lst xs)=>immL xs
 | .own (.dK kvs)=>immL (kvs.map (·.2))
 | .own (.dT kvs)=>immL (kvs.map (·.2))
 | _=>false
def RV (K:PySem.W.Frag) (dk:List Addr) (A:Addr->Prop) (H:Hp) (s:Sl) (v:V) (H':Hp):Prop:=match s with
 | .no=>True
 | .val d=>Rep K (fun a=>a∉dk/\(A a\/H a=none)) H' d v
 | .own d=>∃ a,v = .ref a/\H a=none/\a∉dk/\Root K (fun b=>b∉dk/\b≠a/\(A b\/H b=none)) H' a d
def Frm (dk:List Addr) (H H':Hp):Prop:=∀ b o,H b=some o->b∉dk->H' b=some o
abbrev RD:=List Addr->List D->(Sl->Prop)->Prop
def spD (K:PySem.W.Frag) (R:RD):Sp:=fun vs H Q _=>∃ (dk:List Addr) (A:Addr->Prop) (ds:List D) (Φ:Sl->Prop),Dk dk H/\(∀ a,A a->a∉dk)/\Reps K A H ds vs/\R dk ds Φ /\
 ∀ s v H',Φ s->Frm dk H H'->Dk dk H'->RV K dk A H s v H'->Q v H'
section
variable {K:PySem.W.Frag}{A A':Addr->Prop}{B:Bs}{H H':Hp}{L:Ents}{d:D}{a:Addr}
theorem Root.immR:∀ {d:D},Root K A H a d->immS (.own d)=true->Root K A' H a d
 | .lst _,⟨vs,h,r⟩,e=>⟨vs,h,r.imm e⟩
 | .dK _,⟨vs,h,k,r⟩,e=>⟨vs,h,k,r.imm e⟩
 | .dT _,⟨vs,h,k,r⟩,e=>⟨vs,h,k,r.imm e⟩
theorem Kp.frm {dk:List Addr}(f:Frm dk H H') (hk:Dk dk H) (h:∀ a,A a->a∉dk/\A' a):Kp A A' H H':=by
 refine⟨fun a o ha e=>⟨(h a ha).2,f a o e (h a ha).1⟩,fun a o t e=>f a o e fun z=>?_⟩;obtain⟨xs,q⟩:=hk.some z;rw[e] at q;cases q;cases t
theorem DS.call (h:DS K B L H) (f:Frm B.dk H H') (hk:Dk B.dk H'):DS K B L H' :=
 ⟨fun b o e n=>f b o (h.fr b o e n) n,hk,h.nd,h.new,fun p hp=>(h.ok p hp).mono (.frm f h.dk fun a z=>⟨z.1,z⟩) fun b hb o q=>f b o q (h.new b (aco.mpr ⟨p,hp,hb⟩)).2⟩
theorem DS.adopt (h:DS K B L H) (f:Frm B.dk H H') (hk:Dk B.dk H') (hn:H a=none) (r:Root K (Al B (a::aaf L)) H' a d):DS K B ((.own d,some (.ref a))::L) H':=by
 obtain⟨f1,f2,f3⟩:=h.free hn;have kp:Kp (Al B (aaf L)) (Al B (a::aaf L)) H H':=by
  refine⟨fun b o hb e=>⟨⟨hb.1,fun z=>?_,hb.2.2⟩,f b o e hb.1⟩,fun b o t e=>f b o e fun z=>?_⟩
  ·rcases List.mem_cons.mp z with q | q
   ·subst q;rw[hn] at e;cases e
   ·exact hb.2.1 q
  ·obtain⟨xs,q⟩:=h.dk.some z;rw[e] at q;cases q;cases t
 have e1:aaf ((Sl.own d,some (V.ref a))::L)=a::aaf L:=rfl;refine⟨fun b o e n=>f b o (h.fr b o e n) n,hk,by rw[e1];exact List.nodup_cons.mpr ⟨f3,h.nd⟩,fun b hb=>?_,fun p hp=>?_⟩
 ·rw[e1] at hb;rcases List.mem_cons.mp hb with q | q
  ·subst q;exact⟨f1,f2⟩
  ·exact h.new b q
 ·rw[e1];rcases List.mem_cons.mp hp with q | q
  ·subst q;exact⟨a,rfl,r⟩
  ·exact (h.ok p q).mono kp fun b hb o w=>f b o w (h.new b (aco.mpr ⟨p,q,hb⟩)).2
theorem DS.result {s:Sl}{v:V}{A1:Addr->Prop}(h:DS K B L H) (f:Frm B.dk H H') (hk:Dk B.dk H') (r:RV K B.dk A1 H s v H') (hA:(∀ a,A1 a->Al B (aaf L) a)\/immS s=true):DS K B ((s,some v)::L) H':=by
 have fresh:∀ b,b∉B.dk->H b=none->Al B (aaf L) b:=fun b n e=>⟨n,(h.free e).2.2,.inr (h.free e).1⟩
 cases s with
 | no=>exact (h.call f hk).pushN (L1:=[]) _
 | val d =>
  refine (h.call f hk).pushF ?_;rcases hA with hA | hA
  ·exact (show Rep K _ H' d v from r).mono (.all fun b z=>z.2.elim (hA b) (fresh b z.1))
  ·exact (show Rep K _ H' d v from r).imm hA
 | own d =>
  obtain⟨a,rfl,hn,hd,r⟩:=r;refine h.adopt f hk hn ?_;rcases hA with hA | hA
  ·refine r.mono (.all fun b z=>?_) fun _ q=>q
   have:=z.2.2.elim (hA b) (fresh b z.1);exact⟨this.1,fun q=>(List.mem_cons.mp q).elim z.2.1 this.2.1,this.2.2⟩
  ·exact r.immR hA
end
def anu (R:RD) (ta:TAd):TEd:=fun dk ρ Φ=>ta dk ρ fun as ρ'=>match arDs ρ' as with
 | some ds=>R dk ds fun s=>(noAl as=true\/immS s=true)/\Φ s ρ'
 | none=>False
section
variable {X:Cx}{k:Nat}{f:Addr}{fd:FuncData}{ps:List Str}{R:RD}{x:Str}{p pos:Pos}{e:Expr}{es:List Expr}{ta:TAd}
theorem am4 {σ:St}{H:Hp}{Q:VK}(h:dE X.K (anu R ta) σ H Q):dA X.K ta σ H fun vs H1=>spD X.K R (vs++[]) H1 Q E0:=by
 obtain⟨B,ρ,T,Φ,hl,hd,ht,k⟩:=h;refine⟨B,ρ,T,_,hl,hd,ht,fun as ρ1 vs H1 l1 ok d1 h1=>?_⟩;cases e1:arDs ρ1 as with
 | none=>rw[e1] at h1;exact h1.elim
 | some ds =>
  rw[e1] at h1;obtain⟨_,q2,q3⟩:=d1.argsP l1 ok ds e1;have d2:=d1.rmArgs;rw[List.append_nil];by_cases na:noAl as=true
  ·exact⟨B.dk,_,ds,_,d2.dk,fun a z=>z.1,q3 na,h1,fun s v H' hs f hk r=>k s ρ1 v H' l1 (d2.result f hk r (.inl fun a z=>z)).mid hs.2⟩
  ·exact⟨B.dk,_,ds,_,d2.dk,fun a z=>z.1,q2,h1,fun s v H' hs f hk r=>k s ρ1 v H' l1 (d2.result f hk r (.inr (hs.1.resolve_left na))).mid hs.2⟩
theorem abp (F:FnOk X.prog X.w X.K X.mg X.base CX0 k f fd ps (spD X.K R)) (hr:Room k X.A) (hg:Gl X x) (hm:X.mg x=some (.ref f)) (hk:PySem.W.keepIn X.K (.ref f)=true) (hb:aeg X.K fd ps [])
  (ha:PAd X (e::es) ta) (hdb:(x == ("__debug__" : Str))=false:=by decide) (he:starEach (e::es) X.env=(false,eval e X.env)::starEach es X.env:=by rfl) (hpl:(backTo pos (starEach es X.env)).any (·.1)=false:=by rfl) :
  PD X (.Call (.Name x p) (e::es) [] pos) (anu R ta):=(aak F hr hg hm hk hb .nil aa7 ha hdb he hpl).mono fun _ _ _ h=>am4 h
end
structure DEnds where
 nx:List Sl->Prop
 rt:Sl->Prop
 bk:List Sl->Prop:=fun _=>False
 ct:List Sl->Prop:=fun _=>False
abbrev TSd:=List Addr->DEnds->List Sl->Prop
def Lnk (K:PySem.W.Frag) (B:Bs) (T:Ents) (n:Nat) (De:DEnds) (Dn:Ends):Prop :=
 (∀ ρ' σ' H',ρ'.length=σ'.length->σ'.length=n->DS K B (ρ'.zip σ'++T) H'->(De.nx ρ'->Dn.nx σ' H')/\(De.bk ρ'->Dn.bk σ' H')/\(De.ct ρ'->Dn.ct σ' H')) /\
 ∀ (r:Sl) (v:V) (ρ':List Sl) (σ':St) (H':Hp),ρ'.length=σ'.length->DS K B (ρ'.zip σ'++(r,some v)::T) H'->De.rt r->Dn.rt v H'
def dS (K:PySem.W.Frag) (τ:TSd):TS:=fun Dn σ H=>∃ (B:Bs) (ρ:List Sl) (T:Ents) (De:DEnds),ρ.length=σ.length/\DS K B (ρ.zip σ++T) H/\τ B.dk De ρ/\Lnk K B T σ.length De Dn
theorem dS.elim {K:PySem.W.Frag}{τ:TSd}{Dn:Ends}{σ:St}{H:Hp}{P:Prop}(h:dS K τ Dn σ H) (f:∀ (B:Bs) (ρ:List Sl) (T:Ents) (De:DEnds),ρ.length=σ.length->DS K B (ρ.zip σ++T) H->τ B.dk De ρ->Lnk K B T σ.length De Dn->P):P:=by
 obtain⟨B,ρ,T,Φ,hl,hd,ht,k⟩:=h;exact f B ρ T Φ hl hd ht k
abbrev PSd (X:Cx) (st:Stmt) (τ:TSd):Prop:=PS X st (dS X.K τ)
abbrev PSsd (X:Cx) (st:List Stmt) (τ:TSd):Prop:=PSs X st (dS X.K τ)
theorem PS.mono {X:Cx}{st:Stmt}{t t':TS}(h:PS X st t) (k:∀ D σ H,t' D σ H->t D σ H):PS X st t':=fun pins s σ H D I q=>h pins s σ H D I (k D σ H q)
theorem PSs.mono {X:Cx}{st:List Stmt}{t t':TS}(h:PSs X st t) (k:∀ D σ H,t' D σ H->t D σ H):PSs X st t':=fun pins s σ H D I q=>h pins s σ H D I (k D σ H q)
def sNil:TSd:=fun _ De ρ=>De.nx ρ
def sSeq (t u:TSd):TSd:=fun dk De ρ=>t dk { De with nx:=u dk De } ρ
def sRet (te:TEd):TSd:=fun dk De ρ=>te dk ρ fun r _=>De.rt r
def avt (te:TEd):TSd:=fun dk De ρ=>te dk ρ fun _ ρ'=>De.nx ρ'
def sIf (c:TTd) (t u:TSd):TSd:=fun dk De ρ=>c dk ρ fun b ρ'=>if b=true then t dk De ρ' else u dk De ρ'
def sSet (i:Nat) (te:TEd):TSd:=fun dk De ρ=>te dk ρ fun r ρ'=>De.nx (ρ'.set i r)
section
variable {X:Cx}{K:PySem.W.Frag}{B:Bs}{H:Hp}{st:Stmt}{rest a b:List Stmt}{t u:TSd}{pos:Pos}{e c:Expr}{te:TEd}{tc:TTd}{T:Ents}{n:Nat}{De:DEnds}{Dn:Ends}
theorem Lnk.seq (h:Lnk K B T n De Dn){P:List Sl->Prop}{N:St->Hp->Prop}(k:∀ ρ' σ' H',ρ'.length=σ'.length->σ'.length=n->DS K B (ρ'.zip σ'++T) H'->P ρ'->N σ' H'):Lnk K B T n { De with nx:=P } { Dn with nx:=N } :=
 ⟨fun ρ' σ' H' l1 l2 d=>⟨k ρ' σ' H' l1 l2 d,(h.1 ρ' σ' H' l1 l2 d).2⟩,h.2⟩
theorem aej:PSsd X [] sNil:=abi.mono fun Dn σ H hq0=>hq0.elim fun B ρ T De hl hd ht lk=>(lk.1 ρ σ H hl rfl hd).1 ht
theorem aal (h1:PSd X st t) (h2:PSsd X rest u):PSsd X (st::rest) (sSeq t u):=(aai h1 h2).mono fun Dn σ H hq0=>hq0.elim fun B ρ T De hl hd ht lk =>
 ⟨B,ρ,T,_,hl,hd,ht,lk.seq fun ρ' σ' H' l1 l2 d q=>⟨B,ρ',T,De,l1,d,q,by rw[l2];exact lk⟩⟩
theorem abc (h:PSd X st t):PSsd X [st] t:=aah h
theorem ad0 (h:PD X e te):PSd X (.Return (some e) pos) (sRet te):=(aa6 h).mono fun Dn σ H hq0=>hq0.elim fun B ρ T De hl hd ht lk=>⟨B,ρ,T,_,hl,hd,ht,fun r ρ' v H' l1 d1 h1=>lk.2 r v ρ' σ H' l1 d1 h1⟩
theorem aoq (h:PD X e te) (hs:swapsWith e none pos.line X.env=pure false:=by rfl):PSd X (.Expr e pos) (avt te):=(adu h hs).mono fun Dn σ H hq0=>hq0.elim fun B ρ T De hl hd ht lk=>⟨B,ρ,T,_,hl,hd,ht,fun r ρ' v H' l1 d1 h1=>(lk.1 ρ' σ H' l1 rfl d1.drop).1 h1⟩
theorem s_if (hc:PDt X c tc) (ha:PSsd X a t) (hb:PSsd X b u):PSd X (.If c a b pos) (sIf tc t u):=(adn hc ha hb).mono fun Dn σ H hq0=>hq0.elim fun B ρ T De hl hd ht lk=>⟨B,ρ,T,_,hl,hd,ht,fun c ρ' H' l1 d1 h1=>by
 cases c with
 | true=>exact (if_pos rfl).mpr ⟨B,ρ',T,De,l1,d1,(if_pos rfl).mp h1,lk⟩
 | false=>exact iteF ⟨B,ρ',T,De,l1,d1,(if_neg (by decide)).mp h1,lk⟩⟩
theorem DS.assign {ρ:List Sl}{σ:St}{r:Sl}{v:V}(hl:ρ.length=σ.length) (h:DS K B (ρ.zip σ++(r,some v)::T) H) (i:Nat):DS K B ((ρ.set i r).zip (σ.set i (some v))++T) H:=by
 by_cases hi:i<ρ.length
 ·obtain⟨l1,y,l2,_,_,hz,hset⟩:=afi hl (List.getElem?_eq_getElem hi);rw[hset r (some v)];rw[hz] at h;have h2:DS K B (l1++(l2++(r,some v)::T)) H:=DS.drop (L1:=l1) (x:=(ρ[i],y)) (by simpa using h);have h3:DS K B ((l1++l2)++(r,some v)::T) H:=by simpa using h2
  have h4:=h3.front;have h5:DS K B ((r,some v)::(l1++(l2++T))) H:=by simpa using h4
  simpa using h5.mid
 ·rw[List.set_eq_of_length_le (by omega),List.set_eq_of_length_le (by omega)];exact h.drop
theorem ac2 {i:Nat}{x:Str}{pos':Pos}(hN:X.N.Nodup) (hi:X.N[i]?=some x) (hx:Loc X.env.scope x) (he:PD X e te) (hs:swapsWith e (some (.Name x pos')) pos.line X.env=pure false:=by rfl)
  (hf:X.fn x=true\/X.env.scope.names.lookup x=some .local:=by first | exact .inl rfl | exact .inr rfl | assumption):PSd X (.Assign [.Name x pos'] e pos) (sSet i te) :=
 (aan hN hi hx he hs hf).mono fun Dn σ H hq0=>hq0.elim fun B ρ T De hl hd ht lk=>⟨B,ρ,T,_,hl,hd,ht,fun r ρ' v H' l1 d1 h1=>(lk.1 _ _ H' (by rw[List.length_set,List.length_set];exact l1) (List.length_set ..) (d1.assign l1 i)).1 h1⟩
end
def ini (N:List Str) (ds:List D):List Sl:=ds.map .val++List.replicate (N.length-ds.length) .no
section
variable {P:Program}{w:World}{K:PySem.W.Frag}{mg:Str->Option Value}{base:Heap}
theorem aqq:∀ {ds:List D}{vs:List V}(n:Nat),ds.length=vs.length->(ds.map Sl.val++List.replicate n Sl.no).zip (vs.map some++List.replicate n none)=(ds.zip vs).map (fun p=>(Sl.val p.1,some p.2))++List.replicate n (Sl.no,none)
 | [],[],n,_=>by simp
 | [],_::_,_,e=>by simp at e
 | _::_,[],_,e=>by simp at e
 | d::ds,v::vs,n,e=>by
  simp only[List.map_cons,List.cons_append,List.zip_cons_cons,List.cons.injEq,true_and];exact aqq n (by simpa using e)
theorem arq {A:Addr->Prop}{H:Hp}{ds:List D}{vs:List V}(rs:Reps K A H ds vs):∀ p∈ds.zip vs,Rep K A H p.1 p.2:=by
 induction ds generalizing vs with
 | nil=>intro p hp;cases hp
 | cons d ds ih =>
  cases rs with
  | cons h r =>
  intro p hp;rw[List.zip_cons_cons] at hp;rcases List.mem_cons.mp hp with rfl | q
  ·exact h
  ·exact ih r p q
theorem Fun.okD {x qual:Str}{st:Stmt}{f:Addr}{fd:FuncData}{N ps:List Str}{k:Nat}{R:RD}(F:Fun K x qual st f fd) (S:FnScope N ps (aae st)) (hlen:∀ dk ds Φ,R dk ds Φ->ds.length=ps.length) (hps:ps.length<=N.length)
  (hbody:∀ (cdv:Value) (A:Around) (outer:List Env) (s:Shared) (H:Hp) (E:XK) (dk:List Addr) (ds:List D) (Φ:Sl->Prop),Room k (A.deeper (envOfC qual (aae st) s.heap.objs.size f cdv))->R dk ds Φ ->∃ t,PSsd (cxOf CX0 P w K mg base N qual (aae st) f cdv A outer s H E).nox (acy st) t/\t dk { nx:=fun _=>Φ (.val .non),rt:=Φ } (ini N ds)):FnOk P w K mg base CX0 (k+1) f fd ps (spD K R):=by
 refine F.ok S (fun vs H Q E ⟨dk,A,ds,Φ,_,_,r,hR,_⟩=>by rw[← r.length];exact hlen _ _ _ hR) fun cdv A outer s H vs Q E hr ⟨dk,A1,ds,Φ,hdk,hA,r,hR,hq⟩=>?_
 obtain⟨t,ht,hb⟩:=hbody cdv A outer s H E dk ds Φ hr hR;have el:ds.length=vs.length:=r.length;have dl:ds.length=ps.length:=hlen _ _ _ hR;refine⟨_,ht,⟨dk,A1,H⟩,ini N ds,[],_,?_,?_,hb,?_,?_⟩
 ·unfold ini start;rw[List.length_append,List.length_append,List.length_map,List.length_map,List.length_replicate,List.length_replicate,el]
 ·have e0:(ini N ds).zip (start N vs)=(ds.zip vs).map (fun p=>(Sl.val p.1,some p.2))++List.replicate (N.length-ds.length) (Sl.no,none):=by
   unfold ini start;rw[← el];exact aqq _ el
  have e1:aaf ((ini N ds).zip (start N vs))=[]:=by
   rw[e0];refine List.eq_nil_iff_forall_not_mem.mpr fun a ha=>?_
   obtain⟨q,hq',e⟩:=aco.mp ha;rcases List.mem_append.mp hq' with z | z
   ·obtain⟨p,_,rfl⟩:=List.mem_map.mp z;cases e
   ·rw[(List.mem_replicate.mp z).2] at e;cases e
  rw[List.append_nil];refine⟨fun b o e _=>e,hdk,by rw[e1];exact List.nodup_nil,(fun a ha=>by rw[e1] at ha;exact absurd ha List.not_mem_nil),fun q hq'=>?_⟩;rw[e1];rw[e0] at hq';rcases List.mem_append.mp hq' with z | z
  ·obtain⟨p,hp,rfl⟩:=List.mem_map.mp z;exact⟨p.2,rfl,(arq r p hp).mono (.all fun a ha=>⟨hA a ha,List.not_mem_nil,.inl ha⟩)⟩
  ·rw[(List.mem_replicate.mp z).2];trivial
 ·intro ρ' σ' H' l1 l2 d1;refine⟨fun h=>hq _ _ H' h d1.fr d1.dk .non,fun h=>h.elim,fun h=>h.elim⟩
 ·intro s' v ρ' σ' H' l1 d1 h;refine hq s' v H' h d1.fr d1.dk ?_;cases s' with
  | no=>trivial
  | val d=>exact d1.valAt.mono (.all fun a z=>⟨z.1,z.2.2⟩)
  | own d =>
   obtain⟨a,rfl,r'⟩:=d1.ownAt;have nw:=d1.new a (by rw[abg];exact List.mem_append_right _ List.mem_cons_self);exact⟨a,rfl,nw.1,nw.2,r'.mono (.all fun b z=>⟨z.1,fun q=>z.2.1 (by simp[q]),z.2.2⟩) fun _ q=>q⟩
end
abbrev TGd:=D->List Sl->(List Sl->Prop)->Prop
abbrev TGsd:=List D->List Sl->(List Sl->Prop)->Prop
def ads (ds:List D) (vs:List V):Ents:=(ds.zip vs).map fun p=>(Sl.val p.1,some p.2)
def dG (K:PySem.W.Frag) (n:Nat) (γ:TGd):TG:=fun v σ H Q=>∃ (B:Bs) (ρ:List Sl) (T:Ents) (d:D) (Φ:List Sl->Prop),ρ.length=σ.length/\DS K B (ρ.zip σ++(.val d,some v)::T) H/\γ d ρ Φ /\
 ∀ (ρ':List Sl) (σ':St) (H':Hp),ρ'.length=σ'.length->σ'.length=σ.length->(∀ j,n<=j->σ'[j]?=σ[j]?)->DS K B (ρ'.zip σ'++T) H'->Φ ρ'->Q σ' H'
theorem dG.elim {K:PySem.W.Frag}{n:Nat}{γ:TGd}{v:V}{σ:St}{H:Hp}{Q:St->Hp->Prop}{P:Prop}(h:dG K n γ v σ H Q) (f:∀ (B:Bs) (ρ:List Sl) (T:Ents) (d:D) (Φ:List Sl->Prop),ρ.length=σ.length->DS K B (ρ.zip σ++(.val d,some v)::T) H->γ d ρ Φ ->(∀ (ρ':List Sl) (σ':St) (H':Hp),ρ'.length=σ'.length->σ'.length=σ.length->(∀ j,n<=j->σ'[j]?=σ[j]?)->DS K B (ρ'.zip σ'++T) H'->Φ ρ'->Q σ' H')->P):P:=by
 obtain⟨B,ρ,T,d,Φ,hl,hd,ht,k⟩:=h;exact f B ρ T d Φ hl hd ht k
abbrev PGd (X:Cx) (n:Nat) (e:Expr) (γ:TGd):Prop:=PG X e (dG X.K n γ)
theorem PG.mono {X:Cx}{e:Expr}{t t':TG}(h:PG X e t) (k:∀ v σ H Q,t' v σ H Q->t v σ H Q):PG X e t':=fun pins s σ H v u Q I r q=>h pins s σ H v u Q I r (k v σ H Q q)
def gN (i:Nat):TGd:=fun d ρ Φ=>Φ (ρ.set i (.val d))
def gTp (n:Nat) (gs:TGsd):TGd:=fun d ρ Φ=>match d with
 | .tup ds=>ds.length=n/\gs ds ρ Φ
 | _=>False
section
variable {X:Cx}{K:PySem.W.Frag}{B:Bs}{H:Hp}{L T:Ents}{pos:Pos}{e:Expr}{es:List Expr}{g:TGd}{gs:TGsd}{m:Nat}
theorem g_n {i:Nat}{x:Str}(hN:X.N.Nodup) (hi:X.N[i]?=some x) (hx:Loc X.env.scope x) (hm:i<m:=by decide) (hf:X.fn x=true\/X.env.scope.names.lookup x=some .local:=by first | exact .inl rfl | exact .inr rfl | assumption):PGd X m (.Name x pos) (gN i) :=
 (aa1 hN hi hx hf).mono fun v σ H Q hq0=>hq0.elim fun B ρ T d Φ hl hd ht k=>k _ _ H (by rw[List.length_set,List.length_set];exact hl) (List.length_set ..) (fun j hj=>List.getElem?_set_ne (by omega)) (hd.assign hl i) ht
end
def setD:D->D->D->Option D
 | .lst xs,.int i,d=>(ixN xs.length i).map fun j=>.lst (xs.set j d)
 | .dK kvs,k,d=>if kvs.length<100000 then (alo k).map fun k=>.dK (putD kvs k d) else none
 | .dT kvs,.tup ks,d=>if kvs.length<100000 then (ahc ks).map fun k=>.dT (putD kvs k d) else none
 | _,_,_=>none
def sSub (i:Nat) (ti tv:TEd):TSd:=fun dk De ρ=>tv dk ρ fun rv ρ1=>(at? ρ1 i).isSome=true/\ti dk ρ1 fun rk ρ2=>match sd rv,sd rk,ρ2[i]? with
 | some d,some k,some (.own c)=>∃ c',setD c k d=some c'/\De.nx (ρ2.set i (.own c'))
 | _,_,_=>False
section
variable {X:Cx}{K:PySem.W.Frag}{B:Bs}{H:Hp}{L T:Ents}{pos pos':Pos}{e o i:Expr}{te tv ti:TEd}{g:TGd}
def rSetA:TSet:=fun o i v H Q=>asj o i v H Q\/∃ a H',o = .ref a/\DPut H a i v H'/\Q H'
theorem aug (hu:X.A.units+1<cLine):PSet X rSetA:=by
 intro pins s σ H o i v ov iv u Q I ro ri rv h;rcases h with h | ⟨a,H',rfl,g,q⟩
 ·exact adi pins s σ H o i v ov iv u Q I ro ri rv h
 ·cases ro;exact aqm hu I g ri rv fun s' I'=>⟨H',I',q⟩
theorem DS.slotW {ρ:List Sl}{σ:St}(hl:ρ.length=σ.length) (h:DS K B (ρ.zip σ++T) H){i:Nat}{c:D}(e:ρ[i]?=some (.own c)):∃ a,σ[i]?=some (some (.ref a))/\Root K (Al B (aaf (ρ.zip σ++T))) H a c /\
  ∀ (o:HO) (c':D),(∀ A',Kp (Al B (aaf (ρ.zip σ++T))) A' H (upd H a o)->Root K A' (upd H a o) a c')->DS K B ((ρ.set i (.own c')).zip σ++T) (upd H a o):=by
 obtain⟨l1,y,l2,hy,_,hz,hset⟩:=afi hl e;have h':DS K B (l1++(.own c,y)::(l2++T)) H:=by rw[hz] at h;simpa using h
 obtain⟨a,rfl,_⟩:=h'.at;have er:aaf (ρ.zip σ++T)=aaf l1++a::aaf (l2++T):=by rw[hz,List.append_assoc,List.cons_append,abg];rfl
 obtain⟨a',e',r⟩:=h'.ownAt;cases e';refine⟨a,hy,by rw[er];exact r,fun o c' hr=>?_⟩;rw[er] at hr;have h2:=h'.write (o:=o) (d':=c') hr;have:=hset (.own c') (some (.ref a));rw[afm hy] at this;rw[this]
 simpa using h2
theorem avk {c k d c':D}{a:Addr}{y v:V}{A:Addr->Prop}{Q:Hp->Prop}(h:setD c k d=some c') (r:Root K A H a c) (ry:Peek K A H k y) (rv:Rep K A H d v)
  (hq:∀ o,(∀ A',Kp A A' H (upd H a o)->Root K A' (upd H a o) a c')->Q (upd H a o)):rSetA (.ref a) y v H Q:=by
 cases c with
 | lst xs =>
  cases k with
  | int i =>
   obtain⟨vs,h1,r1⟩:=r;obtain⟨j,hj,rfl⟩:=Option.map_eq_some_iff.mp h;have:=ry.int_inv;subst this;exact .inl ⟨a,vs,i,j,rfl,rfl,h1,by rw[← r1.length];exact hj,hq _ fun A' kp=>⟨_,aaa,(r1.set rv j).mono kp⟩⟩
  | _=>cases h
 | dK kvs =>
  obtain⟨vs,h1,e1,r1⟩:=r;have h:=(show (if kvs.length<100000 then (alo k).map fun j=>D.dK (putD kvs j d) else none)=some c' from h);by_cases hlt:kvs.length<100000
  ·rw[if_pos hlt] at h;obtain⟨j,hj,rfl⟩:=Option.map_eq_some_iff.mp h;rw[ahi hj ry];obtain⟨q1,q2⟩:=am1 e1 r1 (k:=j) rv;have hl:vs.length<sizeLine:=by
    have:=congrArg List.length e1;simp only[List.length_map] at this;exact Nat.lt_of_lt_of_le (show vs.length<100000 by omega) (by decide)
   exact .inr ⟨a,_,rfl,DPut.k h1 hl,hq _ fun A' kp=>⟨_,aaa,q1,q2.mono kp⟩⟩
  ·rw[if_neg hlt] at h;cases h
 | dT kvs =>
  cases k with
  | tup ks =>
   obtain⟨vs,h1,e1,r1⟩:=r;have h:=(show (if kvs.length<100000 then (ahc ks).map fun j=>D.dT (putD kvs j d) else none)=some c' from h);by_cases hlt:kvs.length<100000
   ·rw[if_pos hlt] at h;obtain⟨j,hj,rfl⟩:=Option.map_eq_some_iff.mp h;obtain⟨b,us,rfl,h2,r2⟩:=ry.tup_inv;rw[ah4 hj r2] at h2;obtain⟨q1,q2⟩:=am1 e1 r1 (k:=j) rv;have hl:vs.length<sizeLine:=by
     have:=congrArg List.length e1;simp only[List.length_map] at this;exact Nat.lt_of_lt_of_le (show vs.length<100000 by omega) (by decide)
    exact .inr ⟨a,_,rfl,DPut.t h1 h2 hl,hq _ fun A' kp=>⟨_,aaa,q1,q2.mono kp⟩⟩
   ·rw[if_neg hlt] at h;cases h
  | _=>cases h
 | _=>cases h
theorem s_sub {n:Nat}(hu:X.A.units+1<cLine) (hv:PD X e tv) (ho:PE X o (tVar n)) (hi:PD X i ti)
  (ha:∀ v,assign (.Subscript o i pos') X.env v=(do
   let ov ← holding [v] (eval o X.env);let iv ← holding [v,ov] (eval i X.env)
   standAt pos'
   holding [v,ov,iv] (setItem ov iv v)
   release [v,ov,iv] []):=by intro _;rfl)
  (hs:swapsWithSole [.Subscript o i pos'] e pos.line X.env=pure false:=by rfl) (hw:swappedStores [.Subscript o i pos'] e X.env=pure none:=by rfl)
  (h1:(assignEach [.Subscript o i pos'] X.env).map (·.2)=[assign (.Subscript o i pos') X.env]:=by rfl):PSd X (.Assign [.Subscript o i pos'] e pos) (sSub n ti tv) :=
 (ahu hv (agc ho hi (aug hu) ha) hs hw h1).mono fun Dn σ H hq0=>hq0.elim fun B ρ T De hl hd ht lk=>⟨B,ρ,T,_,hl,hd,ht,fun rv ρ1 v H1 l1 d1 ⟨hi,h1⟩=>by
  obtain⟨d0,h0⟩:=Option.isSome_iff_exists.mp hi;obtain⟨x,hx,_⟩:=d1.peek l1 h0;refine⟨x,hx,B,ρ1,(rv,some v)::T,_,l1,d1,h1,fun rk ρ2 y H2 l2 d2 h2=>?_⟩;cases e1:sd rv with
  | none=>rw[e1] at h2;exact h2.elim
  | some d =>
   cases e2:sd rk with
   | none=>rw[e1,e2] at h2;exact h2.elim
   | some k =>
    cases e3:ρ2[n]? with
    | none=>rw[e1,e2,e3] at h2;exact h2.elim
    | some s =>
     cases s with
     | no=>rw[e1,e2,e3] at h2;exact h2.elim
     | val c=>rw[e1,e2,e3] at h2;exact h2.elim
     | own c =>
      rw[e1,e2,e3] at h2;obtain⟨c',hc,h2⟩:=h2;obtain⟨q1,q2,q3⟩:=d2.two e1 e2;obtain⟨a,ha,ra,wr⟩:=q1.slotW l2 e3;rw[hx] at ha;cases ha;exact avk hc ra q3.peek q2 fun o hr=>(lk.1 _ _ _ (by rw[List.length_set];exact l2) rfl (wr o c' hr)).1 h2⟩
end
section
variable {X:Cx}{tg:Expr}
def WalkV (K:PySem.W.Frag) (R:It->Hp->Prop) (x:V) (H:Hp):Prop:=(∃ a,x = .ref a/\(∃ xs,SqL K H a xs)/\R (Itl K a) H)\/(∃ a,x = .ref a/\(∃ xs,SqT K H a xs)/\R (Itt K a) H)\/∃ z:Str,x = .str z/\z.cps.all (·<128)=true/\R (Its z) H
def iAny (K:PySem.W.Frag) (tl:TE):TI:=fun σ H R=>tl σ H fun x H1=>WalkV K R x H1
theorem pi_any {l:Expr}{tl:TE}(hl:PE X l tl):PI X tg l (iAny X.K tl):=by
 intro pins s σ H R I h;refine thn (hl pins s σ H _ I h) fun v s1 ⟨x,H1,I1,r1,q1⟩=>?_
 have fp:∀ b∈[s1.heap.objs.size],FpOk X pins H1 b:=fun b hb=>by
  have e:b=s1.heap.objs.size:=by simpa using hb
  subst e;exact I1.fpOk (Nat.le_refl _) (I1.hok.fresh (Nat.le_refl _))
 rcases q1 with⟨a,rfl,⟨xs,hq⟩,q⟩ | ⟨a,rfl,⟨xs,hq⟩,q⟩ | ⟨z,rfl,ha,q⟩
 ·cases r1;obtain⟨its,rv,p,hz⟩:=I1.list hq;exact wpAny_pyIter_list p.isList ⟨s1.heap.objs.size,[s1.heap.objs.size],_,_,H1,rfl,I1.kept (t':=s1.toks) fun b o e=>Heap.get?_push_of_some _ e,ak8 a _,⟨_,Heap.get?_push_size _ rfl,rfl,rfl⟩,fp,q⟩
 ·cases r1;obtain⟨its,rv,p,hz⟩:=I1.tuple hq;exact wpAny_pyIter_tuple (show s1.heap.IsTuple a its.toArray from p) ⟨s1.heap.objs.size,[s1.heap.objs.size],_,_,H1,rfl,I1.kept (t':=s1.toks) fun b o e=>Heap.get?_push_of_some _ e,aig a _,⟨_,Heap.get?_push_size _ rfl,rfl,rfl⟩,fp,q⟩
 ·obtain⟨t,rfl⟩:=r1;exact wpAny_pyIter_ascii ha ⟨s1.heap.objs.size,[s1.heap.objs.size],_,Its z,H1,rfl,I1.kept (t':=s1.toks) fun b ob q=>Heap.get?_push_of_some _ q,al4 z t _,⟨_,Heap.get?_push_size _ rfl,rfl,rfl⟩,fp,q⟩
end
def EOk (K:PySem.W.Frag) (A:Addr->Prop) (H:Hp) (E:Ents):Prop:=∀ p∈E,SlOk K A H p.1 p.2
structure YD (K:PySem.W.Frag) (J:It) (ds:List D) (E:Ents):Prop where
 vals:aaf E=[]
 go:∀ i H A,i<ds.length->EOk K A H E->J.go i H
 yld:∀ i H A x H',i<ds.length->EOk K A H E->J.yld i H x H'->∃ d,ds[i]?=some d/\((H'=H/\Rep K A H d x)\/∃ p es vs,H p=none/\x = .ref p/\H'=upd H p (.tup vs)/\d = .tup es/\Reps K A H es vs)
 stop:∀ i H A,i=ds.length->EOk K A H E->J.stop i H
abbrev TId:=List Addr->List Sl->(List D->List Sl->Prop)->Prop
def dI (K:PySem.W.Frag) (ι:TId):TI:=fun σ H R=>∃ (B:Bs) (ρ:List Sl) (T:Ents) (Ψ:List D->List Sl->Prop),ρ.length=σ.length/\DS K B (ρ.zip σ++T) H/\ι B.dk ρ Ψ /\
 ∀ (J:It) (ds:List D) (ρ':List Sl) (E:Ents) (H':Hp),ρ'.length=σ.length->DS K B (ρ'.zip σ++(E++T)) H'->YD K J ds E->Ψ ds ρ'->R J H'
theorem dI.elim {K:PySem.W.Frag}{ι:TId}{σ:St}{H:Hp}{R:It->Hp->Prop}{P:Prop}(h:dI K ι σ H R) (f:∀ (B:Bs) (ρ:List Sl) (T:Ents) (Ψ:List D->List Sl->Prop),ρ.length=σ.length->DS K B (ρ.zip σ++T) H->ι B.dk ρ Ψ ->(∀ (J:It) (ds:List D) (ρ':List Sl) (E:Ents) (H':Hp),ρ'.length=σ.length->DS K B (ρ'.zip σ++(E++T)) H'->YD K J ds E->Ψ ds ρ'->R J H')->P):P:=by
 obtain⟨B,ρ,T,Ψ,hl,hd,ht,k⟩:=h;exact f B ρ T Ψ hl hd ht k
abbrev PId (X:Cx) (tg iter:Expr) (ι:TId):Prop:=PI X tg iter (dI X.K ι)
theorem PI.mono {X:Cx}{tg iter:Expr}{w w':TI}(h:PI X tg iter w) (k:∀ σ H R,w' σ H R->w σ H R):PI X tg iter w':=fun pins s σ H R I q=>h pins s σ H R I (k σ H R q)
def ahb (z:Str):List D:=z.cps.toList.map fun c=>D.str ⟨#[c]⟩
def walkD:D->Option (List D)
 | .lst xs=>some xs
 | .tup xs=>some xs
 | .con xs=>some xs
 | .scr xs=>some xs
 | .str z=>if z.cps.all (·<128) then some (ahb z) else none
 | _=>none
def iV (te:TEd):TId:=fun dk ρ Ψ=>te dk ρ fun r ρ'=>match (sd r).bind walkD with
 | some ds=>Ψ ds ρ'
 | none=>False
def agh (lo:Int) (n:Nat):List D:=(List.range n).map fun (i:Nat)=>D.int (lo+i)
def iR1 (te:TEd):TId:=fun dk ρ Ψ=>te dk ρ fun r ρ'=>match r with
 | .val (.int j)=>-(2 ^ 62)<=j/\j<2 ^ 62/\Ψ (agh 0 j.toNat) ρ'
 | _=>False
def iR2 (ta tb:TEd):TId:=fun dk ρ Ψ=>ta dk ρ fun r ρ1=>tb dk ρ1 fun r' ρ2=>match r,r' with
 | .val (.int i),.val (.int j)=>(-(2 ^ 62)<=i/\i<2 ^ 62/\-(2 ^ 62)<=j/\j<2 ^ 62)/\Ψ (agh i (j-i).toNat) ρ2
 | _,_=>False
section
variable {X:Cx}{K:PySem.W.Frag}{tg e a b:Expr}{te ta tb:TEd}{pos p:Pos}
theorem au0 {a:Addr}{ds:List D}:YD K (Itl K a) ds [(.val (.lst ds),some (.ref a))] where
 vals:=rfl
 go:=fun i H A hi ok=>by
  obtain⟨v,e,r⟩:=ok _ List.mem_cons_self;cases e;obtain⟨a',vs,e,_,h1,r1⟩:=r.lst_inv;cases e;exact⟨vs,vs[i]'(by rw[← r1.length];exact hi),SqL.of h1,List.getElem?_eq_getElem _⟩
 yld:=fun i H A x H' hi ok y=>by
  obtain⟨v,e,r⟩:=ok _ List.mem_cons_self;cases e;obtain⟨a',vs,e,_,h1,r1⟩:=r.lst_inv;cases e;obtain⟨d,hd,rd⟩:=r1.getV (y.2 vs (SqL.of h1));exact⟨d,hd,.inl ⟨y.1,rd⟩⟩
 stop:=fun i H A hi ok=>by
  obtain⟨v,e,r⟩:=ok _ List.mem_cons_self;cases e;obtain⟨a',vs,e,_,h1,r1⟩:=r.lst_inv;cases e;exact⟨vs,SqL.of h1,by rw[← r1.length];omega⟩
theorem yd_scr {a:Addr}{ds:List D}:YD K (Itl K a) ds [(.val (.scr ds),some (.ref a))] where
 vals:=rfl
 go:=fun i H A hi ok=>by
  obtain⟨v,e,r⟩:=ok _ List.mem_cons_self;cases e;obtain⟨a',vs,e,h1,r1⟩:=r.scr_inv;cases e;exact⟨vs,vs[i]'(by rw[← r1.length];exact hi),h1.sqL,List.getElem?_eq_getElem _⟩
 yld:=fun i H A x H' hi ok y=>by
  obtain⟨v,e,r⟩:=ok _ List.mem_cons_self;cases e;obtain⟨a',vs,e,h1,r1⟩:=r.scr_inv;cases e;obtain⟨d,hd,rd⟩:=r1.getV (y.2 vs h1.sqL);exact⟨d,hd,.inl ⟨y.1,rd⟩⟩
 stop:=fun i H A hi ok=>by
  obtain⟨v,e,r⟩:=ok _ List.mem_cons_self;cases e;obtain⟨a',vs,e,h1,r1⟩:=r.scr_inv;cases e;exact⟨vs,h1.sqL,by rw[← r1.length];omega⟩
theorem atj {a:Addr}{d:D}{ds:List D}(hd:d = .tup ds\/d = .con ds):YD K (Itt K a) ds [(.val d,some (.ref a))]:=by
 have key:∀ A H,EOk K A H [(.val d,some (.ref a))]->∃ vs,SqT K H a vs/\Reps K A H ds vs:=fun A H ok=>by
  obtain⟨v,e,r⟩:=ok _ List.mem_cons_self;cases e;rcases hd with rfl | rfl
  ·obtain⟨a',vs,e,h1,r1⟩:=r.tup_inv;cases e;exact⟨vs,SqT.of h1,r1⟩
  ·obtain⟨a',vs,e,h1,r1⟩:=r.con_inv;cases e;exact⟨vs,h1.sqT,r1⟩
 refine⟨rfl,fun i H A hi ok=>?_,fun i H A x H' hi ok y=>?_,fun i H A hi ok=>?_⟩
 ·obtain⟨vs,h1,r1⟩:=key A H ok;exact⟨vs,vs[i]'(by rw[← r1.length];exact hi),h1,List.getElem?_eq_getElem _⟩
 ·obtain⟨vs,h1,r1⟩:=key A H ok;obtain⟨d,hd,rd⟩:=r1.getV (y.2 vs h1);exact⟨d,hd,.inl ⟨y.1,rd⟩⟩
 ·obtain⟨vs,h1,r1⟩:=key A H ok;exact⟨vs,h1,by rw[← r1.length];omega⟩
theorem yd_str {z:Str}:YD K (Its z) (ahb z) [] where
 vals:=rfl
 go:=fun i H A hi _=>by simpa [Its,ahb,Str.length] using hi
 yld:=fun i H A x H' hi _ y=>by
  obtain⟨e,c,hc,rfl⟩:=y;refine⟨.str ⟨#[c]⟩,?_,.inl ⟨e,.str _⟩⟩;unfold ahb;rw[List.getElem?_map,Array.getElem?_toList,hc];rfl
 stop:=fun i H A hi _=>by simp[Its,hi,ahb,Str.length]
theorem as4 {lo:Int}{n:Nat}:YD K (Itr lo n) (agh lo n) [] where
 vals:=rfl
 go:=fun i H A hi _=>by simpa [Itr,agh] using hi
 yld:=fun i H A x H' hi _ y=>by
  have hi':i<n:=by simpa [agh] using hi
  refine⟨.int (lo+i),by simp[agh,hi'],.inl ⟨y.1,?_⟩⟩;rw[y.2];exact .int _
 stop:=fun i H A hi _=>by simp[Itr,agh,hi]
theorem i_v (he:PD X e te):PId X tg e (iV te):=(pi_any he).mono fun σ H R hq0=>hq0.elim fun B ρ T Ψ hl hd ht k=>⟨B,ρ,T,_,hl,hd,ht,fun r ρ' v H' l1 d1 h1=>by
 cases e1:sd r with
 | none=>rw[e1] at h1;exact h1.elim
 | some d =>
  rw[e1] at h1;have d2:=d1.thaw e1;have rv:=d2.valAt;cases d with
  | lst xs=>obtain⟨a,vs,rfl,_,h2,r2⟩:=rv.lst_inv;exact .inl ⟨a,rfl,⟨vs,SqL.of h2⟩,k _ xs ρ' [_] H' l1 d2 au0 h1⟩
  | scr xs=>obtain⟨a,vs,rfl,h2,r2⟩:=rv.scr_inv;exact .inl ⟨a,rfl,⟨vs,h2.sqL⟩,k _ xs ρ' [_] H' l1 d2 yd_scr h1⟩
  | tup xs=>obtain⟨a,vs,rfl,h2,r2⟩:=rv.tup_inv;exact .inr (.inl ⟨a,rfl,⟨vs,SqT.of h2⟩,k _ xs ρ' [_] H' l1 d2 (atj (.inl rfl)) h1⟩)
  | con xs=>obtain⟨a,vs,rfl,h2,r2⟩:=rv.con_inv;exact .inr (.inl ⟨a,rfl,⟨vs,h2.sqT⟩,k _ xs ρ' [_] H' l1 d2 (atj (.inr rfl)) h1⟩)
  | str z =>
   have:=rv.str_inv;subst this;have h1:=(show (match (if z.cps.all (·<128)=true then some (ahb z) else none:Option (List D)) with | some ds=>Ψ ds ρ' | none=>False) from h1);by_cases hz:z.cps.all (·<128)=true
   ·rw[if_pos hz] at h1;exact .inr (.inr ⟨z,rfl,hz,k _ _ ρ' [] H' l1 d2.drop yd_str h1⟩)
   ·rw[if_neg hz] at h1;exact h1.elim
  | _=>exact h1.elim⟩
theorem i_r2 (hg:Gl X "range") (hm:X.mg "range" = none) (ha:PD X a ta) (hb:PD X b tb) (hs:starEach [a,b] X.env=[(false,eval a X.env),(false,eval b X.env)]:=by rfl) (hs2:starEach [b] X.env=[(false,eval b X.env)]:=by rfl) (hn:ah1 a=true:=by rfl) (hn2:ah1 b=true:=by rfl):PId X tg (.Call (.Name "range" p) [a,b] [] pos) (iR2 ta tb) :=
 (akr hg hm (pa_c ha (pa_c hb aad hn2) hn) hs hs2).mono fun σ H R hq0=>hq0.elim fun B ρ T Ψ hl hd ht k=>⟨B,ρ,T,_,hl,hd,ht,fun r ρ1 v H1 l1 d1 h1=>⟨B,ρ1,(r,some v)::T,_,l1,d1,h1,fun r' ρ2 u H2 l2 d2 h2=>by
  split at h2
  ·obtain⟨q1,q2,q3⟩:=d2.two rfl rfl;have e1:=q2.int_inv;have e2:=q3.int_inv;subst e1 e2;exact⟨_,_,rfl,h2.1,k _ _ ρ2 [] H2 l2 q1 as4 h2.2⟩
  ·exact h2.elim⟩⟩
def sFor (ι:TId) (g:TGd) (tb:TSd):TSd:=fun dk De ρ=>ι dk ρ fun ds ρ1=>∃ Pv:Nat->List Sl->Prop,Pv 0 ρ1 /\
 (∀ i d ρ',ds[i]?=some d->Pv i ρ'->g d ρ' fun ρ2=>tb dk { nx:=Pv (i+1),ct:=Pv (i+1),bk:=De.nx,rt:=De.rt } ρ2)/\∀ ρ',Pv ds.length ρ'->De.nx ρ'
theorem DS.rmE {B:Bs}{H:Hp}{L T:Ents}:∀ {E:Ents},DS K B (L++(E++T)) H->DS K B (L++T) H
 | [],h=>h
 | x::E,h=>DS.rmE (E:=E) (DS.drop (L1:=L) (x:=x) (by simpa using h))
theorem s_for {iter:Expr}{m:Nat}{body:List Stmt}{ι:TId}{g:TGd}{tb:TSd}(hp:PassesOwn (model X.prog X.w) X.A X.env X.xe) (hc:X.calm=true) (hi:PId X tg iter ι) (hg:PGd X m tg g) (hb:PSsd X body tb)
  (hs:∀ x,foldedSetIterable iter X.env x=pure x:=by intro _;rfl):PSd X (.For tg iter body [] pos) (sFor ι g tb) :=
 (ael hp hc hi hg hb hs).mono fun Dn σ H hq0=>hq0.elim fun B ρ T De hl hd ht lk=>⟨B,ρ,T,_,hl,hd,ht,fun J ds ρ1 E H1 l1 d1 Y ⟨Pv,p0,step,fin⟩=>by
  refine⟨fun i m σ' H'=>m=ds.length-i/\i<=ds.length/\∃ ρ',ρ'.length=σ'.length/\σ'.length=σ.length/\DS X.K B (ρ'.zip σ'++(E++T)) H'/\Pv i ρ',⟨_,rfl,Nat.zero_le _,ρ1,l1,rfl,d1,p0⟩,?_⟩;rintro i m σ' H' ⟨rfl,hi',ρ',m1,m2,d',pv⟩;have eok:EOk X.K (Al B (aaf (ρ'.zip σ'++(E++T)))) H' E:=fun q hq=>d'.ok q (by simp[hq])
  by_cases hlt:i<ds.length
  ·refine .inr ⟨Y.go i H' _ hlt eok,fun σ2 H2=>∃ ρ2,ρ2.length=σ2.length/\σ2.length=σ.length/\DS X.K B (ρ2.zip σ2++(E++T)) H2/\Pv (i+1) ρ2,fun σ2 H2 ⟨ρ2,q1,q2,q3,q4⟩=>⟨_,(by omega:ds.length-(i+1)<_),rfl,hlt,ρ2,q1,q2,q3,q4⟩,fun x H2 y=>?_⟩;obtain⟨d,hdi,alt⟩:=Y.yld i H' _ x H2 hlt eok y;have d2:DS X.K B (ρ'.zip σ'++(.val d,some x)::(E++T)) H2:=by
    rcases alt with⟨rfl,rx⟩ | ⟨p,es,vs,hp',rfl,rfl,rfl,rr⟩
    ·exact d'.push rx
    ·exact d'.tup hp' rr
   refine⟨B,ρ',E++T,d,_,m1,d2,step i d ρ' hdi pv,fun ρ2 σ2 H3 n1 n2 _ d3 q3=>⟨B,ρ2,E++T,_,n1,d3,q3,?_,?_⟩⟩
   ·intro ρ4 σ4 H4 a1 a2 a3;refine⟨fun z=>⟨ρ4,a1,by omega,a3,z⟩,fun z=>?_,fun z=>⟨ρ4,a1,by omega,a3,z⟩⟩;exact (lk.1 ρ4 σ4 H4 a1 (by omega) a3.rmE).1 z
   ·intro r v ρ4 σ4 H4 a1 a3 z;refine lk.2 r v ρ4 σ4 H4 a1 ?_ z;have:DS X.K B ((ρ4.zip σ4++[(r,some v)])++(E++T)) H4:=by simpa using a3
    simpa using this.rmE
  ·have ei:i=ds.length:=by omega
   subst ei;exact .inl ⟨Y.stop _ H' _ rfl eok,(lk.1 ρ' σ' H' m1 m2 d'.rmE).1 (fin ρ' pv)⟩⟩
end
def pinB (B:Bs) (D:Addr) (ys:List V):Bs:=⟨B.dk,fun a=>(B.A0 a\/B.H0 a=none)/\a≠D,fun a=>if a=D then some (.lst ys) else B.H0 a⟩
section
variable {K:PySem.W.Frag}{B:Bs}{H:Hp}{L R:Ents}{D:Addr}{ys ys':List V}
theorem ag2 {R:List Addr}{a:Addr}:Al (pinB B D ys) R a↔Al B R a/\a≠D:=by
 unfold Al pinB;constructor
 ·rintro ⟨h1,h2,h3 | h3⟩
  ·exact⟨⟨h1,h2,h3.1⟩,h3.2⟩
  ·dsimp only at h3;by_cases z:a=D
   ·rw[if_pos z] at h3;cases h3
   ·rw[if_neg z] at h3;exact⟨⟨h1,h2,.inr h3⟩,z⟩
 ·rintro ⟨⟨h1,h2,h3⟩,h4⟩;exact⟨h1,h2,.inl ⟨h3,h4⟩⟩
theorem DS.pin (h:DS K B L H) (hD:H D=none):DS K (pinB B D []) L (upd H D (.lst [])):=by
 obtain⟨f1,f2,f3⟩:=h.free hD;refine⟨fun b o e n=>?_,h.dk.upd f2,h.nd,fun a ha=>?_,fun p hp=>(h.ok p hp).mono (.laid hD fun a z n=>ag2.mpr ⟨z,n⟩) fun b hb o q=>by rw[aac (aab q hD)];exact q⟩
 ·by_cases z:b=D
  ·subst z;simp only[pinB,if_true] at e;cases e;exact aaa
  ·simp only[pinB,if_neg z] at e;rw[aac z];exact h.fr b o e n
 ·have:=h.new a ha;have z:a≠D:=fun q=>f3 (q▸ha)
  exact⟨by simp only[pinB,if_neg z];exact this.1,this.2⟩
theorem DS.pinAt (h:DS K (pinB B D ys) L H) (hn:D∉B.dk):H D=some (.lst ys):=h.fr D _ (by simp[pinB]) hn
theorem DS.pinW (h:DS K (pinB B D ys) L H) (hn:D∉B.dk):DS K (pinB B D ys') L (upd H D (.lst ys')):=by
 have hD:=h.pinAt hn;have kp:Kp (Al (pinB B D ys) (aaf L)) (Al (pinB B D ys') (aaf L)) H (upd H D (.lst ys')) :=
  (Kp.write (A:=Al (pinB B D ys) (aaf L)) hD rfl fun z=>(ag2.mp z).2 rfl).trans (.all fun a z=>ag2.mpr (ag2.mp z))
 refine⟨fun b o e n=>?_,h.dk.upd hn,h.nd,fun a ha=>?_,fun p hp=>(h.ok p hp).mono kp fun b hb o q=>?_⟩
 ·by_cases z:b=D
  ·subst z;simp only[pinB,if_true] at e;cases e;exact aaa
  ·simp only[pinB,if_neg z] at e;rw[aac z];exact h.fr b o (by simp only[pinB,if_neg z];exact e) n
 ·have:=h.new a ha;have z:a≠D:=fun q=>by subst q;simp[pinB] at this
  simp only[pinB,if_neg z] at this ⊢;exact this
 ·have:=(h.new b (aco.mpr ⟨p,hp,hb⟩)).1;have z:b≠D:=fun w=>by subst w;simp[pinB] at this
  rw[aac z];exact q
theorem DS.unpin {yd:List L2.D}(h:DS K (pinB B D ys) L H) (r:Reps K (Al (pinB B D ys) (aaf L)) H yd ys) (h0:B.H0 D=none) (hn:D∉B.dk):DS K B ((.own (.lst yd),some (.ref D))::L) H:=by
 have hD:=h.pinAt hn;have nr:D∉aaf L:=fun z=>by have:=(h.new D z).1;simp[pinB] at this
 have e1:aaf ((Sl.own (.lst yd),some (V.ref D))::L)=D::aaf L:=rfl;have al:∀ a,Al (pinB B D ys) (aaf L) a->Al B (D::aaf L) a:=fun a z=>by
  obtain⟨z1,z2⟩:=ag2.mp z;exact⟨z1.1,fun q=>(List.mem_cons.mp q).elim z2 z1.2.1,z1.2.2⟩
 refine⟨fun b o e n=>?_,h.dk,by rw[e1];exact List.nodup_cons.mpr ⟨nr,h.nd⟩,fun a ha=>?_,fun p hp=>?_⟩
 ·have z:b≠D:=fun q=>by subst q;rw[h0] at e;cases e
  exact h.fr b o (by simp only[pinB,if_neg z];exact e) n
 ·rw[e1] at ha;rcases List.mem_cons.mp ha with q | q
  ·subst q;exact⟨h0,hn⟩
  ·have:=h.new a q;have z:a≠D:=fun w=>nr (w▸q)
   simp only[pinB,if_neg z] at this;exact this
 ·rw[e1];rcases List.mem_cons.mp hp with q | q
  ·subst q;exact⟨D,rfl,ys,hD,r.mono (.all al)⟩
  ·exact (h.ok p q).mono (.all al) fun _ _ _ w=>w
theorem DS.lend1 {ρ:List Sl}{σ:St}(hl:ρ.length=σ.length) (h:DS K B (ρ.zip σ++R) H) (i:Nat):DS K B ((ρ.set i .no).zip σ++((ρ[i]?).getD .no,(σ[i]?).join)::R) H:=by
 by_cases hi:i<ρ.length
 ·obtain⟨l1,y,l2,hy,_,hz,hset⟩:=afi hl (List.getElem?_eq_getElem hi);rw[hz] at h;have h1:DS K B (l1++(ρ[i],y)::(l2++R)) H:=by simpa using h
  have h2:=h1.front;have h3:DS K B (((ρ[i],y)::l1)++(.no,y)::(l2++R)) H:=DS.pushN (L1:=(ρ[i],y)::l1) (by simpa using h2) y;have e:=hset .no y;rw[afm hy] at e;rw[e,List.getElem?_eq_getElem hi,hy];have h4:DS K B ((ρ[i],y)::((l1++(Sl.no,y)::l2)++R)) H:=by simpa using h3
  exact h4.mid
 ·rw[List.set_eq_of_length_le (by omega),List.getElem?_eq_none (by omega),List.getElem?_eq_none (by omega)];exact h.pushN _
theorem DS.back1 {ρ:List Sl}{σ:St}{s:Sl}{y:Option V}(hl:ρ.length=σ.length) (h:DS K B (ρ.zip σ++(s,y)::R) H){i:Nat}(hy:(σ[i]?).join=y):DS K B ((ρ.set i s).zip σ++R) H:=by
 by_cases hi:i<ρ.length
 ·obtain⟨l1,y',l2,hy',_,hz,hset⟩:=afi hl (List.getElem?_eq_getElem hi);rw[hy'] at hy;have hy:y'=y:=hy;subst hy;have e:=hset s y';rw[afm hy'] at e;rw[e];rw[hz] at h;have h2:DS K B (l1++(l2++(s,y')::R)) H:=DS.drop (L1:=l1) (x:=(ρ[i],y')) (by simpa using h);have h3:DS K B ((l1++l2)++(s,y')::R) H:=by simpa using h2
  have h4:DS K B ((s,y')::(l1++(l2++R))) H:=by simpa using h3.front
  simpa using h4.mid
 ·rw[List.set_eq_of_length_le (by omega)];exact h.drop
def capS (caps:List Nat) (ρ:List Sl):List Sl:=caps.map fun i=>(ρ[i]?).getD .no
def capV (caps:List Nat) (σ:St):St:=caps.map fun i=>(σ[i]?).join
def lent (caps:List Nat) (ρ:List Sl):List Sl:=caps.foldl (fun ρ i=>ρ.set i .no) ρ
def ad3:List Nat->List Sl->List Sl->List Sl
 | i::caps,s::cs,ρ=>ad3 caps cs (ρ.set i s)
 | _,_,ρ=>ρ
theorem ajg:∀ (caps:List Nat) (ρ:List Sl),(lent caps ρ).length=ρ.length
 | [],_=>rfl
 | i::caps,ρ=>by show (lent caps (ρ.set i .no)).length=_;rw[ajg caps,List.length_set]
theorem amq:∀ (caps:List Nat) (cs:List Sl) (ρ:List Sl),(ad3 caps cs ρ).length=ρ.length
 | [],_,_=>rfl
 | _::_,[],_=>rfl
 | i::caps,s::cs,ρ=>(amq caps cs (ρ.set i s)).trans (List.length_set ..)
theorem DS.lend {σ:St}:∀ {caps:List Nat}{ρ:List Sl}{R:Ents},caps.Nodup->ρ.length=σ.length->DS K B (ρ.zip σ++R) H->DS K B ((lent caps ρ).zip σ++((capS caps ρ).zip (capV caps σ)++R)) H
 | [],ρ,R,_,hl,h=>h
 | i::caps,ρ,R,hn,hl,h=>by
  obtain⟨n1,n2⟩:=List.nodup_cons.mp hn;have h1:=DS.lend (caps:=caps) (R:=((ρ[i]?).getD .no,(σ[i]?).join)::R) n2 (by rw[List.length_set];exact hl) (h.lend1 hl i);have e:capS caps (ρ.set i .no)=capS caps ρ:=List.map_congr_left fun j hj=>by rw[List.getElem?_set_ne (fun z:i=j=>n1 (by rw[z];exact hj))]
  rw[e] at h1;show DS K B ((lent caps (ρ.set i .no)).zip σ++((((ρ[i]?).getD .no,(σ[i]?).join)::(capS caps ρ).zip (capV caps σ))++R)) H;refine h1.perm (List.Perm.append_left _ ?_);rw[List.cons_append];exact List.perm_middle
theorem DS.back {σ:St}:∀ {caps:List Nat}{cs:List Sl}{ρ:List Sl}{R:Ents},cs.length=caps.length->ρ.length=σ.length->DS K B (ρ.zip σ++(cs.zip (capV caps σ)++R)) H->DS K B ((ad3 caps cs ρ).zip σ++R) H
 | [],[],ρ,R,_,hl,h=>h
 | [],_::_,_,_,e,_,_=>by simp at e
 | _::_,[],_,_,e,_,_=>by simp at e
 | i::caps,s::cs,ρ,R,e,hl,h=>by
  have h1:DS K B (ρ.zip σ++(s,(σ[i]?).join)::(cs.zip (capV caps σ)++R)) H:=h;exact DS.back (caps:=caps) (cs:=cs) (by simpa using e) (by rw[List.length_set];exact hl) (h1.back1 hl rfl)
theorem aq4 (caps:List Nat):∀ (cs:List Sl) (ρ:List Sl),cs.length=caps.length->caps.Nodup->ad3 caps cs (lent caps ρ)=ad3 caps cs ρ:=by
 have ext:∀ (caps:List Nat) (cs:List Sl) (ρ ρ':List Sl),cs.length=caps.length->ρ.length=ρ'.length->(∀ j,j∉caps->ρ[j]?=ρ'[j]?)->ad3 caps cs ρ=ad3 caps cs ρ':=by
  intro caps;induction caps with
  | nil=>intro cs ρ ρ' _ _ h;cases cs<;>exact List.ext_getElem? fun j=>h j List.not_mem_nil
  | cons i caps ih =>
   intro cs ρ ρ' e hl h;cases cs with
   | nil=>simp at e
   | cons s cs =>
    show ad3 caps cs (ρ.set i s)=ad3 caps cs (ρ'.set i s);refine ih cs _ _ (by simpa using e) (by simp[hl]) fun j hj=>?_
    by_cases z:j=i
    ·subst z;rw[List.getElem?_set,List.getElem?_set,hl,if_pos rfl,if_pos rfl]
    ·rw[List.getElem?_set_ne (Ne.symm z),List.getElem?_set_ne (Ne.symm z)];exact h j fun q=>(List.mem_cons.mp q).elim z hj
 intro cs ρ e _;refine ext caps cs _ _ e (ajg caps ρ) fun j hj=>?_
 have:∀ (caps:List Nat) (ρ:List Sl),j∉caps->(lent caps ρ)[j]?=ρ[j]?:=by
  intro caps;induction caps with
  | nil=>intro ρ _;rfl
  | cons i caps ih =>
   intro ρ hj;show (lent caps (ρ.set i .no))[j]?=_;rw[ih _ (fun z=>hj (List.mem_cons_of_mem _ z)),List.getElem?_set_ne (fun z=>hj (by simp[z]))]
 exact this caps ρ hj
theorem agd {A:Addr->Prop}:∀ {yd:List L2.D}{ys:List V},yd.length=ys.length->(∀ p∈ads yd ys,SlOk K A H p.1 p.2)->Reps K A H yd ys
 | [],[],_,_=>.nil
 | [],_::_,e,_=>by simp at e
 | _::_,[],e,_=>by simp at e
 | c::yd,y::ys,e,key=>by
  obtain⟨u,e1,r⟩:=key (.val c,some y) (by simp[ads]);cases e1;exact .cons r (agd (by simpa using e) fun p hp=>key p (by simp only[ads,List.zip_cons_cons,List.map_cons,List.mem_cons] at hp ⊢;exact .inr hp))
theorem DS.forget {ρ:List Sl}{σ:St}(n:Nat) (hl:ρ.length=σ.length) (hn:n<=ρ.length) (h:DS K B (ρ.zip σ++R) H):DS K B ((List.replicate n Sl.no++ρ.drop n).zip σ++R) H:=by
 induction n generalizing ρ σ R with
 | zero=>simpa using h
 | succ n ih =>
  cases ρ with
  | nil=>simp at hn
  | cons r ρ =>
   cases σ with
   | nil=>simp at hl
   | cons y σ =>
    have h1:DS K B (ρ.zip σ++R) H:=DS.drop (L1:=[]) (x:=(r,y)) h;have h2:=ih (ρ:=ρ) (σ:=σ) (R:=R) (by simpa using hl) (by simpa using hn) h1;rw[List.replicate_succ,List.cons_append,List.drop_succ_cons,List.zip_cons_cons];exact DS.pushN (L1:=[]) h2 y
end
def yesD:TTd:=fun _ ρ Φ=>Φ true ρ
def eLC (n:Nat) (caps:List Nat) (ι:TId) (g:TGd) (tt:TTd) (te:TEd):TEd:=fun dk ρ Φ=>ι dk ρ fun ds ρ1=>∃ Pv:Nat->List D->List Sl->Prop,Pv 0 [] (capS caps ρ1) /\
 (∀ i d ys cs,ds[i]?=some d->cs.length=caps.length->Pv i ys cs->g d (List.replicate n Sl.no++cs) fun ρ2=>tt dk ρ2 fun b ρ3=>if b=true then te dk ρ3 fun r ρ4=>match sd r with
  | some c=>ys.length<100000/\Pv (i+1) (ys++[c]) (ρ4.drop n)
  | none=>False
  else Pv (i+1) ys (ρ3.drop n)) /\
 ∀ ys cs,cs.length=caps.length->Pv ds.length ys cs->Φ (.own (.lst ys)) (ad3 caps cs ρ1)
section
variable {X:Cx}
theorem aq7:PIfs X [] (dTt X.K yesD):=fun pins s σ H Q I hq0=>hq0.elim fun B ρ T Φ hl hd ht k=>acd pins s σ H Q I (k true ρ H hl hd ht)
theorem aph {c:Expr}{t:TTd}(h:PDt X c t):PIfs X [c] (dTt X.K t):=ams h
theorem apu {T:List Str}{caps:List Nat}{ι:TId}{g:TGd}{tt:TTd}{te:TEd}{K:PySem.W.Frag}(hcap:caps.Nodup){σ:St}{H:Hp}{Q:VK}(h:dE K (eLC T.length caps ι g tt te) σ H Q) :
  tLC T caps (dI K ι) (dG K T.length g) (dTt K tt) (dE K te) σ H Q:=by
 obtain⟨B,ρ,Tm,Φ,hl,hd,ht,k⟩:=h;refine⟨B,ρ,Tm,_,hl,hd,ht,fun J ds ρ1 E H1 l1 d1 Y ⟨Pv,p0,step,fin⟩ D hD=>?_⟩;obtain⟨f1,f2,f3⟩:=d1.free hD;refine⟨fun i m ys σ' H'=>m=ds.length-i/\i<=ds.length/\σ'.length=T.length+caps.length/\(∀ j,T.length<=j->σ'[j]?=(lcs T caps σ)[j]?)/\∃ (yd:List L2.D) (cs:List Sl),cs.length=caps.length/\yd.length=ys.length /\ DS K (pinB B D ys) ((List.replicate T.length Sl.no++cs).zip σ'++((lent caps ρ1).zip σ++(ads yd ys++(E++Tm)))) H'/\Pv i yd cs,?_,?_⟩
 ·refine⟨_,rfl,Nat.zero_le _,by simp[lcs],fun _ _=>rfl,[],capS caps ρ1,by simp[capS],rfl,?_,p0⟩;have h2:=(d1.lend hcap l1).pin hD;have e:(List.replicate T.length Sl.no++capS caps ρ1).zip (lcs T caps σ)=List.replicate T.length (Sl.no,none)++(capS caps ρ1).zip (capV caps σ):=by
   have:∀ n,(List.replicate n Sl.no++capS caps ρ1).zip (List.replicate n none++capV caps σ)=List.replicate n (Sl.no,none)++(capS caps ρ1).zip (capV caps σ):=by
    intro n;induction n with
    | zero=>rfl
    | succ n ih=>simp only[List.replicate_succ,List.cons_append,List.zip_cons_cons,ih]
   have e2:lcs T caps σ=List.replicate T.length none++capV caps σ:=by unfold lcs capV;rw[List.map_const']
   rw[e2];exact this _
  rw[e];have h3:DS K (pinB B D []) ((capS caps ρ1).zip (capV caps σ)++((lent caps ρ1).zip σ++(E++Tm))) (upd H1 D (.lst [])):=h2.perm (by
   rw[← List.append_assoc,← List.append_assoc (as:=(capS caps ρ1).zip (capV caps σ))];exact List.perm_append_comm.append_right _)
  have:∀ n,DS K (pinB B D []) (List.replicate n (Sl.no,none)++((capS caps ρ1).zip (capV caps σ)++((lent caps ρ1).zip σ++(E++Tm)))) (upd H1 D (.lst [])):=by
   intro n;induction n with
   | zero=>exact h3
   | succ n ih=>rw[List.replicate_succ];exact DS.pushN (L1:=[]) ih none
  have e3:ads ([]:List L2.D) ([]:List V)=[]:=rfl;rw[e3]
  simpa using this T.length
 ·rintro i m ys σ' H' ⟨rfl,hi,ls,fs,yd,cs,lc,ly,d',pv⟩;have eok:EOk K (Al (pinB B D ys) (aaf ((List.replicate T.length Sl.no++cs).zip σ'++((lent caps ρ1).zip σ++(ads yd ys++(E++Tm)))))) H' E:=fun q hq=>d'.ok q (by simp[hq])
  by_cases hlt:i<ds.length
  ·refine .inr ⟨Y.go i H' _ hlt eok,fun σ2 v H5=>σ2.length=T.length+caps.length/\(∀ j,T.length<=j->σ2[j]?=(lcs T caps σ)[j]?)/\ys.length<100000/\∃ (c:L2.D) (ρ4:List Sl),ρ4.length=σ2.length/\DS K (pinB B D ys) (ρ4.zip σ2++(.val c,some v)::((lent caps ρ1).zip σ++(ads yd ys++(E++Tm)))) H5/\Pv (i+1) (yd++[c]) (ρ4.drop T.length),fun σ2 H4=>σ2.length=T.length+caps.length/\(∀ j,T.length<=j->σ2[j]?=(lcs T caps σ)[j]?)/\∃ ρ4:List Sl,ρ4.length=σ2.length/\DS K (pinB B D ys) (ρ4.zip σ2++((lent caps ρ1).zip σ++(ads yd ys++(E++Tm)))) H4/\Pv (i+1) yd (ρ4.drop T.length),?_,?_,fun x H2 y=>?_⟩
   ·rintro σ2 v H5 ⟨q1,q2,q3,c,ρ4,q4,q5,q6⟩;refine⟨q5.pinAt f2,Nat.lt_of_lt_of_le q3 (by decide),ds.length-(i+1),by omega,rfl,hlt,q1,q2,yd++[c],ρ4.drop T.length,by rw[List.length_drop];omega,by simp[ly],?_,q6⟩;have w1:=(q5.pinW (ys':=ys++[v]) f2).forget T.length q4 (by omega);refine w1.perm (List.Perm.append_left _ ?_);have ev:ads (yd++[c]) (ys++[v])=ads yd ys++[(.val c,some v)]:=by unfold ads;rw[List.zip_append ly,List.map_append];rfl
    rw[ev];have p1:((Sl.val c,some v)::((lent caps ρ1).zip σ++(ads yd ys++(E++Tm)))).Perm ((lent caps ρ1).zip σ++(ads yd ys++((Sl.val c,some v)::(E++Tm)))):=by
     rw[← List.append_assoc,← List.append_assoc (as:=(lent caps ρ1).zip σ)];exact List.perm_middle.symm
    simpa using p1
   ·rintro σ2 H4 ⟨q1,q2,ρ4,q4,q5,q6⟩;exact⟨ds.length-(i+1),by omega,rfl,hlt,q1,q2,yd,ρ4.drop T.length,by rw[List.length_drop];omega,ly,q5.forget T.length q4 (by omega),q6⟩
   ·obtain⟨d,hdi,alt⟩:=Y.yld i H' _ x H2 hlt eok y;have d2:DS K (pinB B D ys) ((List.replicate T.length Sl.no++cs).zip σ'++(.val d,some x)::((lent caps ρ1).zip σ++(ads yd ys++(E++Tm)))) H2:=by
     rcases alt with⟨rfl,rx⟩ | ⟨p,es,vs,hp',rfl,rfl,rfl,rr⟩
     ·exact d'.push rx
     ·exact d'.tup hp' rr
    refine⟨pinB B D ys,_,_,d,_,by simp[lc,ls],d2,step i d yd cs hdi lc pv,fun ρ2 σ2 H3 n1 n2 fr d3 q3=>⟨pinB B D ys,ρ2,_,_,n1,d3,q3,fun b ρ3 H4 m1 d4 q4=>?_⟩⟩;have fr2:∀ j,T.length<=j->σ2[j]?=(lcs T caps σ)[j]?:=fun j hj=>(fr j hj).trans (fs j hj)
    cases b with
    | false=>exact iteF ⟨by omega,fr2,ρ3,m1,d4,(if_neg (by decide)).mp q4⟩
    | true =>
     refine (if_pos rfl).mpr ⟨pinB B D ys,ρ3,_,_,m1,d4,(if_pos rfl).mp q4,fun r ρ4 v H5 m4 d5 q5=>?_⟩;cases e1:sd r with
     | none=>rw[e1] at q5;exact q5.elim
     | some c =>
      rw[e1] at q5;exact⟨by omega,fr2,by rw[← ly];exact q5.1,c,ρ4,m4,d5.thaw e1,q5.2⟩
  ·have ei:i=ds.length:=by omega
   subst ei;refine .inl ⟨Y.stop _ H' _ rfl eok,?_⟩;have es:σ'=σ'.take T.length++capV caps σ:=by
    apply List.ext_getElem?;intro j;by_cases hj:j<T.length
    ·rw[List.getElem?_append_left (by rw[List.length_take];omega),List.getElem?_take_of_lt hj]
    ·rw[List.getElem?_append_right (by rw[List.length_take];omega),List.length_take,fs j (by omega)];have e2:lcs T caps σ=List.replicate T.length none++capV caps σ:=by unfold lcs capV;rw[List.map_const']
     rw[e2,List.getElem?_append_right (by rw[List.length_replicate];omega),List.length_replicate]
     congr 1
     omega
   have ez:(List.replicate T.length Sl.no++cs).zip σ'=(List.replicate T.length Sl.no).zip (σ'.take T.length)++cs.zip (capV caps σ):=by
    conv=>lhs;rw[es]
    exact List.zip_append (by rw[List.length_replicate,List.length_take];omega)
   have rr:Reps K (Al (pinB B D ys) (aaf ((ad3 caps cs (lent caps ρ1)).zip σ++Tm))) H' yd ys/\DS K (pinB B D ys) ((ad3 caps cs (lent caps ρ1)).zip σ++Tm) H':=by
    have g1:DS K (pinB B D ys) (cs.zip (capV caps σ)++((lent caps ρ1).zip σ++(ads yd ys++(E++Tm)))) H':=by
     rw[ez,List.append_assoc] at d';exact DS.rmE (L:=[]) (E:=(List.replicate T.length Sl.no).zip (σ'.take T.length)) d'
    have g2:DS K (pinB B D ys) ((lent caps ρ1).zip σ++(cs.zip (capV caps σ)++(ads yd ys++(E++Tm)))) H':=g1.perm (by
     rw[← List.append_assoc,← List.append_assoc (as:=(lent caps ρ1).zip σ)];exact List.perm_append_comm.append_right _)
    have g3:=g2.back lc (by rw[ajg];exact l1);have g4:DS K (pinB B D ys) ((ad3 caps cs (lent caps ρ1)).zip σ++(ads yd ys++Tm)) H':=by
     have:DS K (pinB B D ys) (((ad3 caps cs (lent caps ρ1)).zip σ++ads yd ys)++(E++Tm)) H':=by simpa using g3
     simpa using this.rmE
    refine⟨?_,g4.rmE⟩;have er:aaf ((ad3 caps cs (lent caps ρ1)).zip σ++(ads yd ys++Tm))=aaf ((ad3 caps cs (lent caps ρ1)).zip σ++Tm):=by
     have:aaf (ads yd ys)=[]:=by
      refine List.eq_nil_iff_forall_not_mem.mpr fun a ha=>?_
      obtain⟨q,hq,e⟩:=aco.mp ha;obtain⟨p,_,rfl⟩:=List.mem_map.mp hq;cases e
     rw[aa4,aa4,aa4,this,List.nil_append]
    have key:∀ p∈ads yd ys,SlOk K (Al (pinB B D ys) (aaf ((ad3 caps cs (lent caps ρ1)).zip σ++Tm))) H' p.1 p.2:=fun p hp=>by
     have:=g4.ok p (by simp[hp]);rw[er] at this;exact this
    clear g1 g2 g3 g4 er d' eok ez es;revert key ly;generalize Al (pinB B D ys) (aaf ((ad3 caps cs (lent caps ρ1)).zip σ++Tm))=AA;intro ly key;exact agd ly key
   have u:=DS.unpin rr.2 rr.1 f1 f2;rw[aq4 caps cs ρ1 lc hcap] at u;exact k _ _ _ H' (by rw[amq];exact l1) u.mid (fin yd cs lc pv)
theorem ano {elt tg iter:Expr}{ifs:List Expr}{scope:Scope}{pos:Pos}{ι:TId}{g:TGd}{tt:TTd}{te:TEd}(T capN:List Str) (caps:List Nat) (hc:X.calm=true) (hi:PId X tg iter ι)
  (hk:scope.kind = .function) (ho:lcOk X.N X.env.kindOf scope T capN caps=true)
  (hg:∀ s₀ H₀ C cl fp,PGd (lcx X (T++capN) scope cl C s₀ H₀ fp) T.length tg g)
  (ht:∀ s₀ H₀ C cl fp,PIfs (lcx X (T++capN) scope cl C s₀ H₀ fp) ifs (dTt X.K tt))
  (he:∀ s₀ H₀ C cl fp,PD (lcx X (T++capN) scope cl C s₀ H₀ fp) elt te)
  (hcap:caps.Nodup:=by decide) (hs:∀ x,foldedSetIterable iter X.env x=pure x:=by intro _;rfl):PD X (.ListComp elt [⟨tg,iter,ifs,0⟩] scope pos) (eLC T.length caps ι g tt te) :=
 (agy T capN caps hc hi hk ho hg ht he hs).mono fun _ _ _ h=>apu hcap h
theorem aiq {i:Nat}{x:Str}{pos' spos:Pos}{elt tg iter:Expr}{ifs:List Expr}{scope:Scope}{pos:Pos}{ι:TId}{g:TGd}{tt:TTd}{te:TEd}(T capN:List Str) (caps:List Nat) (hN:X.N.Nodup) (hi':X.N[i]?=some x) (hx:Loc X.env.scope x)
  (hc:X.calm=true) (hi:PId X tg iter ι) (hk:scope.kind = .function) (ho:lcOk X.N X.env.kindOf scope T capN caps=true)
  (hg:∀ s₀ H₀ C cl fp,PGd (lcx X (T++capN) scope cl C s₀ H₀ fp) T.length tg g)
  (ht:∀ s₀ H₀ C cl fp,PIfs (lcx X (T++capN) scope cl C s₀ H₀ fp) ifs (dTt X.K tt))
  (he:∀ s₀ H₀ C cl fp,PD (lcx X (T++capN) scope cl C s₀ H₀ fp) elt te)
  (hcap:caps.Nodup:=by decide)
  (hsw:swapsWith (.ListComp elt [⟨tg,iter,ifs,0⟩] scope pos) (some (.Name x pos')) spos.line X.env=pure true:=by rfl)
  (hs:∀ x,foldedSetIterable iter X.env x=pure x:=by intro _;rfl)
  (hf:X.fn x=true\/X.env.scope.names.lookup x=some .local:=by first | exact .inl rfl | exact .inr rfl | assumption) :
  PSd X (.Assign [.Name x pos'] (.ListComp elt [⟨tg,iter,ifs,0⟩] scope pos) spos) (sSet i (eLC T.length caps ι g tt te)) :=
 (am2 T capN caps hN hi' hx hc hi hk ho hg ht he hsw hs hf).mono fun Dn σ H hq0=>hq0.elim fun B ρ Tm De hl hd ht lk=>apu hcap ⟨B,ρ,Tm,_,hl,hd,ht,fun r ρ' v H' l1 d1 h1=>(lk.1 _ _ H' (by rw[List.length_set,List.length_set];exact l1) (List.length_set ..) (d1.assign l1 i)).1 h1⟩
end
section
variable {X:Cx}{K:PySem.W.Frag}
theorem afa {A:Addr->Prop}{H:Hp}{d:D}{xs:List V}(h:Peeks K A H [d] xs):∃ x,xs=[x]/\Peek K A H d x:=by
 cases h with | cons h r=>cases r;exact⟨_,rfl,h⟩
theorem peeks2 {A:Addr->Prop}{H:Hp}{d e:D}{xs:List V}(h:Peeks K A H [d,e] xs):∃ x y,xs=[x,y]/\Peek K A H d x/\Peek K A H e y:=by
 cases h with | cons h r=>cases r with | cons g r=>cases r;exact⟨_,_,rfl,h,g⟩
def lenD:D->Option Nat
 | .lst xs=>some xs.length
 | .tup xs=>some xs.length
 | .con xs=>some xs.length
 | .scr xs=>some xs.length
 | .str z=>some z.length
 | .dK kvs=>some kvs.length
 | _=>none
def fLen:OC:=fun ds Φ=>match ds with
 | [d]=>strS d=true/\∃ n,lenD d=some n/\Φ (.val (.int n))
 | _=>False
def rLenA (K:PySem.W.Frag):List V->Hp->VK->Prop:=fun xs H Q=>(∃ p ys,xs=[.ref p]/\(SqL K H p ys\/SqT K H p ys)/\Q (.int ys.length) H)\/(∃ z,xs=[.str z]/\z.length<=sizeLine/\Q (.int z.length) H)\/∃ a kvs,xs=[V.ref a]/\H a=some (.dK kvs)/\Q (.int kvs.length) H
theorem aaw:ab6 X (.builtin "len") (rLenA X.K):=aap.or (adh.or aot)
theorem acn:ajh K (rLenA K) fLen:=by
 intro B L H ds xs Φ Q hd hp hf k;cases ds with
 | nil=>exact False.elim hf
 | cons d ds =>
 cases ds with
 | cons _ _=>exact False.elim hf
 | nil =>
 obtain⟨x,rfl,px⟩:=afa hp;obtain⟨hs,n,hn,hf⟩:=hf;have fin:Q (.int n) H:=k _ _ H hf (hd.pushF (.int _));cases d<;>first | (cases hn;done) | skip
 ·cases hn;have:=px.str_inv;subst this;exact .inr (.inl ⟨_,rfl,ags (of_decide_eq_true hs),fin⟩)
 ·cases hn;obtain⟨a,vs,rfl,h,r⟩:=px.tup_inv;exact .inl ⟨a,vs,rfl,.inr (SqT.of h),by rw[← r.length];exact fin⟩
 ·cases hn;obtain⟨a,vs,rfl,h,r⟩:=px.lst_inv;exact .inl ⟨a,vs,rfl,.inl (SqL.of h),by rw[← r.length];exact fin⟩
 ·cases hn;obtain⟨a,vs,rfl,h,e,r⟩:=px.dK_inv;refine .inr (.inr ⟨a,vs,rfl,h,?_⟩);have:=congrArg List.length e;rw[List.length_map,List.length_map] at this;rw[← this];exact fin
 ·cases hn;obtain⟨a,vs,rfl,h,r⟩:=px.scr_inv;exact .inl ⟨a,vs,rfl,.inl h.sqL,by rw[← r.length];exact fin⟩
 ·cases hn;obtain⟨a,vs,rfl,h,r⟩:=px.con_inv;exact .inl ⟨a,vs,rfl,.inr h.sqT,by rw[← r.length];exact fin⟩
def aih:List D->Option (List Int)
 | []=>some []
 | .int i::ds=>(aih ds).map (i::·)
 | _=>none
theorem aib:∀ (ns:List Int),aih (ns.map D.int)=some ns
 | []=>rfl
 | n::ns=>by
  show (aih (ns.map D.int)).map (n::·)=_;rw[aib ns];rfl
theorem anl {A:Addr->Prop}{H:Hp}{ds:List D}{ns:List Int}{vs:List V}(h:aih ds=some ns) (rs:Reps K A H ds vs):vs=ns.map V.int:=by
 induction ds generalizing ns vs with
 | nil=>cases rs;cases h;rfl
 | cons d ds ih =>
  cases rs with
  | cons r rs =>
  cases d with
  | int i =>
   obtain⟨ms,h1,rfl⟩:=Option.map_eq_some_iff.mp h;rw[r.int_inv,ih h1 rs];rfl
  | _=>cases h
def fMin:OC:=fun ds Φ=>match ds with
 | [.lst xs]=>∃ ns,aih xs=some ns/\ns≠[]/\∀ m:Int,m∈ns->(∀ a∈ns,m<=a)->Φ (.val (.int m))
 | [.int i,.int j]=>∀ m:Int,(m=i\/m=j)->m<=i->m<=j->Φ (.val (.int m))
 | _=>False
def fMax:OC:=fun ds Φ=>match ds with
 | [.lst xs]=>∃ ns,aih xs=some ns/\ns≠[]/\∀ m:Int,m∈ns->(∀ a∈ns,a<=m)->Φ (.val (.int m))
 | [.int i,.int j]=>∀ m:Int,(m=i\/m=j)->i<=m->j<=m->Φ (.val (.int m))
 | _=>False
def rMaxA (K:PySem.W.Frag):List V->Hp->VK->Prop:=fun xs H Q=>(∃ (p:Addr) (ns:List Int),xs=[.ref p]/\SqL K H p (ns.map V.int)/\ns≠[]/\∀ m:Int,m∈ns->(∀ a∈ns,a<=m)->Q (.int m) H)\/∃ i j,xs=[.int i,.int j]/\Q (.int (if j>i then j else i)) H
theorem aql (hc:X.calm=true):ab6 X (.builtin "max") (rMaxA X.K):=(aqs hc).or (ao0 hc)
theorem cd_max:ajh K (rMaxA K) fMax:=by
 intro B L H ds xs Φ Q hd hp hf k;cases ds with
 | nil=>exact False.elim hf
 | cons d ds =>
 cases d<;>first | exact False.elim hf | skip
 ·cases ds with
  | nil=>exact False.elim hf
  | cons e ds =>
  cases e<;>first | exact False.elim hf | skip
  cases ds with
  | cons _ _=>exact False.elim hf
  | nil =>
  obtain⟨x,y,rfl,px,py⟩:=peeks2 hp;have:=px.int_inv;have:=py.int_inv;subst_vars
  rename_i i j
  refine .inr ⟨_,_,rfl,?_⟩;by_cases z:j>i
  ·rw[if_pos z];exact k _ _ H (hf _ (.inr rfl) (by omega) (by omega)) (hd.pushF (.int _))
  ·rw[if_neg z];exact k _ _ H (hf _ (.inl rfl) (by omega) (by omega)) (hd.pushF (.int _))
 ·cases ds with
  | cons _ _=>exact False.elim hf
  | nil =>
  obtain⟨x,rfl,px⟩:=afa hp;obtain⟨ns,hn,h0,hf⟩:=hf;obtain⟨a,vs,rfl,h,r⟩:=px.lst_inv;rw[anl hn r] at h;exact .inl ⟨a,ns,rfl,SqL.of h,h0,fun m h1 h2=>k _ _ H (hf m h1 h2) (hd.pushF (.int _))⟩
def seqD:D->Option (List D)
 | .lst xs=>some xs
 | .tup xs=>some xs
 | .con xs=>some xs
 | .scr xs=>some xs
 | _=>none
theorem amk {A:Addr->Prop}{H:Hp}{d:D}{xs:List D}{x:V}(h:seqD d=some xs) (p:Peek K A H d x):∃ a vs,x = .ref a/\(SqL K H a vs\/SqT K H a vs)/\Reps K A H xs vs:=by
 cases d<;>cases h
 ·obtain⟨a,vs,rfl,h,r⟩:=p.tup_inv;exact⟨a,vs,rfl,.inr (SqT.of h),r⟩
 ·obtain⟨a,vs,rfl,h,r⟩:=p.lst_inv;exact⟨a,vs,rfl,.inl (SqL.of h),r⟩
 ·obtain⟨a,vs,rfl,h,r⟩:=p.scr_inv;exact⟨a,vs,rfl,.inl h.sqL,r⟩
 ·obtain⟨a,vs,rfl,h,r⟩:=p.con_inv;exact⟨a,vs,rfl,.inr h.sqT,r⟩
def fList:OC:=fun ds Φ=>match ds with
 | [d]=>∃ xs,seqD d=some xs/\Φ (.own (.lst xs))
 | _=>False
theorem aui:ajh K (fun xs H Q=>∃ p ys,xs=[.ref p]/\(SqL K H p ys\/SqT K H p ys)/\∀ l,H l=none->Q (.ref l) (upd H l (.lst ys))) fList:=by
 intro B L H ds xs Φ Q hd hp hf k;cases ds with
 | nil=>exact False.elim hf
 | cons d ds =>
 cases ds with
 | cons _ _=>exact False.elim hf
 | nil =>
 obtain⟨x,rfl,px⟩:=afa hp;obtain⟨xs,hx,hf⟩:=hf;obtain⟨a,vs,rfl,hs,r⟩:=amk hx px;exact⟨a,vs,rfl,hs,fun l hl=>k _ _ _ hf (hd.lstF hl r)⟩
def fTup:OC:=fun ds Φ=>match ds with
 | [.lst xs]=>Φ (.val (.tup xs))
 | [.tup xs]=>Φ (.val (.tup xs))
 | _=>False
theorem amj:ajh K (fun xs H Q=>∃ p ys,xs=[.ref p]/\((SqL K H p ys/\∀ l,H l=none->Q (.ref l) (upd H l (.tup ys)))\/(SqT K H p ys/\Q (.ref p) H))) fTup:=by
 intro B L H ds xs Φ Q hd hp hf k;cases ds with
 | nil=>exact False.elim hf
 | cons d ds =>
 cases d<;>first | exact False.elim hf | skip<;>cases ds<;>first | exact False.elim hf | skip
 ·obtain⟨x,rfl,px⟩:=afa hp;have px':=px;obtain⟨a,vs,rfl,h,r⟩:=px.tup_inv;exact⟨a,vs,rfl,.inr ⟨SqT.of h,k _ _ _ hf (hd.pushF px')⟩⟩
 ·obtain⟨x,rfl,px⟩:=afa hp;obtain⟨a,vs,rfl,h,r⟩:=px.lst_inv;exact⟨a,vs,rfl,.inl ⟨SqL.of h,fun l hl=>k _ _ _ hf (hd.tupF hl r)⟩⟩
def fInt:OC:=fun ds Φ=>match ds with
 | [.int i]=>Φ (.val (.int i))
 | [.bl b]=>Φ (.val (.int (if b then 1 else 0)))
 | _=>False
theorem cd_int:ajh K (fun xs H Q=>(∃ i,xs=[.int i]/\Q (.int i) H)\/∃ k,xs=[.bl k]/\Q (.int (if k then 1 else 0)) H) fInt:=by
 intro B L H ds xs Φ Q hd hp hf k;cases ds with
 | nil=>exact False.elim hf
 | cons d ds =>
 cases d<;>first | exact False.elim hf | skip<;>cases ds<;>first | exact False.elim hf | skip
 ·obtain⟨x,rfl,px⟩:=afa hp;have:=px.bl_inv;subst this;exact .inr ⟨_,rfl,k _ _ H hf (hd.pushF (.int _))⟩
 ·obtain⟨x,rfl,px⟩:=afa hp;have:=px.int_inv;subst this;exact .inl ⟨_,rfl,k _ _ H hf (hd.pushF (.int _))⟩
end
def tyD (T:String):D->Bool
 | .str _=>T == "str"
 | .lst _=>T == "list"
 | .scr _=>T == "list"
 | .dK _=>T == "dict"
 | _=>false
section
variable {X:Cx}{K:PySem.W.Frag}{A:Addr->Prop}{H:Hp}
theorem ai4 {T:String}{d:D}{x:V}(h:tyD T d=true) (p:Peek K A H d x):tyV K T x H:=by
 cases d<;>first | (cases h;done) | skip
 all_goals (have h:=eq_of_beq h;subst h)
 ·have:=p.str_inv;subst this;rfl
 ·obtain⟨a,vs,rfl,h,r⟩:=p.lst_inv;exact .inl ⟨rfl,vs,SqL.of h⟩
 ·obtain⟨a,vs,rfl,h,e,r⟩:=p.dK_inv;exact .inr (.inr (.inl ⟨rfl,.inl ⟨vs,h⟩⟩))
 ·obtain⟨a,vs,rfl,h,r⟩:=p.scr_inv;exact .inl ⟨rfl,vs,h.sqL⟩
abbrev OM:=D->List D->(Sl->Prop)->Prop
abbrev RM:=V->List V->Hp->VK->Prop
def MtD (K:PySem.W.Frag) (r:RM) (f:OM):Prop:=∀ (B:Bs) (L:Ents) (H:Hp) (d:D) (ds:List D) (x:V) (xs:List V) (Φ:Sl->Prop) (Q:VK),DS K B L H->Peek K (Al B (aaf L)) H d x->Peeks K (Al B (aaf L)) H ds xs->f d ds Φ ->
 (∀ s v H',Φ s->DS K B ((s,some v)::L) H'->Q v H')->r x xs H Q
def dM (T:String) (f:OM) (to:TEd) (ta:TAd):TEd:=fun dk ρ Φ=>to dk ρ fun r ρ1=>match sd r with
 | some d=>tyD T d=true/\ta dk ρ1 fun as ρ2=>match arDs ρ2 as with
  | some ds=>f d ds fun s=>Φ s ρ2
  | none=>False
 | none=>False
def dMs (T:String) (f:OM) (i:Nat) (ta:TAd):TEd:=fun dk ρ Φ=>(match at? ρ i with | some d=>tyD T d=true | none=>False)/\ta dk ρ fun as ρ2=>match at? ρ2 i,arDs ρ2 as with
 | some d,some ds=>f d ds fun s=>Φ s ρ2
 | _,_=>False
variable {o e:Expr}{es:List Expr}{to:TEd}{ta:TAd}{name:Str}{apos cpos:Pos}{T id:String}{r:RM}{f:OM}{i:Nat}
theorem pd_m (pa:PlainAttrs T) (slot:Slot T name id) (hty:typeOf (.builtin id)=pure (.type "method_descriptor")) (hm:MtR X id r) (hf:MtD X.K r f) (ho:PD X o to) (ha:PAd X (e::es) ta)
  (hbase:attributeBase o name X.env (eval o X.env)=eval o X.env:=by rfl)
  (hfew:((backTo cpos (starEach (e::es) X.env)).all (fun x=>!x.1)&&(backToKw cpos (keywordEach [] X.env)).all (fun x=>x.1.isSome) && decide ((e::es).length+([]:List Keyword).length+(if ([]:List Keyword).isEmpty then 0 else 1)<30))=true:=by rfl)
  (hline:(apos.endLine == cpos.line)=true:=by rfl) (hs:starEach (e::es) X.env=(false,eval e X.env)::starEach es X.env:=by rfl) (hplain:(backTo cpos (starEach es X.env)).any (·.1)=false:=by rfl) :
  PD X (.Call (.Attribute o name apos) (e::es) [] cpos) (dM T f to ta) :=
 (aex pa slot hty hm ho ha hbase hfew hline hs hplain).mono fun σ H Q hq0=>hq0.elim fun B ρ Tm Φ hl hd ht k=>⟨B,ρ,Tm,_,hl,hd,ht,fun rr ρ1 x H1 l1 d1 h1=>by
  cases e1:sd rr with
  | none=>rw[e1] at h1;exact h1.elim
  | some d =>
   rw[e1] at h1;refine⟨ai4 h1.1 (d1.one e1).2.peek,B,ρ1,(rr,some x)::Tm,_,l1,d1,h1.2,fun as ρ2 vs H2 l2 ok d2 h2=>?_⟩;cases e2:arDs ρ2 as with
   | none=>rw[e2] at h2;exact h2.elim
   | some ds =>
    rw[e2] at h2;have d3:=d2.rmArgs;obtain⟨q1,q2⟩:=d3.one e1;have q3:=((show DS X.K B (ρ2.zip σ++(ada as vs++Tm)) H2 from by
     have:DS X.K B ((ρ2.zip σ++ada as vs)++(rr,some x)::Tm) H2:=by simpa using d2
     simpa using (this.one e1).1).argsP l2 ok ds e2).1
    exact hf B _ H2 d ds x vs _ Q q1 q2.peek q3 h2 fun s v H' hs hd'=>k s ρ2 v H' l2 hd'.mid hs⟩
theorem alu (pa:PlainAttrs T) (slot:Slot T name id) (hty:typeOf (.builtin id)=pure (.type "method_descriptor")) (hm:MtR X id r) (hf:MtD X.K r f) (ho:PE X o (tVar i)) (ha:PAd X (e::es) ta)
  (hbase:attributeBase o name X.env (eval o X.env)=eval o X.env:=by rfl)
  (hfew:((backTo cpos (starEach (e::es) X.env)).all (fun x=>!x.1)&&(backToKw cpos (keywordEach [] X.env)).all (fun x=>x.1.isSome) && decide ((e::es).length+([]:List Keyword).length+(if ([]:List Keyword).isEmpty then 0 else 1)<30))=true:=by rfl)
  (hline:(apos.endLine == cpos.line)=true:=by rfl) (hs:starEach (e::es) X.env=(false,eval e X.env)::starEach es X.env:=by rfl) (hplain:(backTo cpos (starEach es X.env)).any (·.1)=false:=by rfl) :
  PD X (.Call (.Attribute o name apos) (e::es) [] cpos) (dMs T f i ta) :=
 (aex pa slot hty hm ho ha hbase hfew hline hs hplain).mono fun σ H Q hq0=>hq0.elim fun B ρ Tm Φ hl hd ⟨hi,ht⟩ k=>by
  cases e1:at? ρ i with
  | none=>rw[e1] at hi;exact hi.elim
  | some d0 =>
   rw[e1] at hi;obtain⟨x,hx,px⟩:=hd.peek hl e1;refine⟨x,hx,ai4 hi px,B,ρ,Tm,_,hl,hd,ht,fun as ρ2 vs H2 l2 ok d2 h2=>?_⟩;cases e2:at? ρ2 i with
   | none=>rw[e2] at h2;exact h2.elim
   | some d =>
    cases e3:arDs ρ2 as with
    | none=>rw[e2,e3] at h2;exact h2.elim
    | some ds =>
     rw[e2,e3] at h2;have d3:=d2.rmArgs;obtain⟨x',hx',px'⟩:=d3.peek l2 e2;rw[hx] at hx';cases hx';exact hf B _ H2 d ds x vs _ Q d3 px' (d2.argsP l2 ok ds e3).1 h2 fun s v H' hs hd'=>k s ρ2 v H' l2 hd'.mid hs
abbrev OW:=D->List D->(D->D->Prop)->Prop
def MtW (K:PySem.W.Frag) (r:RM) (f:OW):Prop:=∀ (A:Addr->Prop) (H:Hp) (a:Addr) (c:D) (ds:List D) (vs:List V) (Φ:D->D->Prop) (Q:VK),¬ A a->Root K A H a c->Reps K A H ds vs->f c ds Φ ->
 (∀ d v o c',Φ d c'->Rep K A H d v->(∀ A',Kp A A' H (upd H a o)->Root K A' (upd H a o) a c')->Q v (upd H a o))->r (.ref a) vs H Q
def dW (T:String) (f:OW) (i:Nat) (ta:TAd):TEd:=fun dk ρ Φ=>(match at? ρ i with | some d=>tyD T d=true | none=>False)/\ta dk ρ fun as ρ2=>match ρ2[i]?,arTs as with
 | some (.own c),some ds=>f c ds fun d c'=>Φ (.val d) (ρ2.set i (.own c'))
 | _,_=>False
theorem avz {f:OW}(hf:MtW X.K r f){σ:St}{H:Hp}{Q:VK}(h:dE X.K (dW T f i ta) σ H Q):tVar i σ H fun x H1=>tyV X.K T x H1/\dA X.K ta σ H1 fun xs H2=>r x xs H2 Q:=by
 obtain⟨B,ρ,Tm,Φ,hl,hd,⟨hi,ht⟩,k⟩:=h;cases e1:at? ρ i with
 | none=>rw[e1] at hi;exact hi.elim
 | some d0 =>
  rw[e1] at hi;obtain⟨x,hx,px⟩:=hd.peek hl e1;refine⟨x,hx,ai4 hi px,B,ρ,Tm,_,hl,hd,ht,fun as ρ2 vs H2 l2 ok d2 h2=>?_⟩;cases e2:ρ2[i]? with
  | none=>rw[e2] at h2;exact h2.elim
  | some s =>
   cases s with
   | no=>rw[e2] at h2;exact h2.elim
   | val c=>rw[e2] at h2;exact h2.elim
   | own c =>
    cases e3:arTs as with
    | none=>rw[e2,e3] at h2;exact h2.elim
    | some ds =>
     rw[e2,e3] at h2;have rds:=d2.temps ok ds e3;have d3:=d2.rmArgs;obtain⟨a,ha,ra,wr⟩:=d3.slotW l2 e2;rw[hx] at ha;cases ha;obtain⟨u,hu,tu⟩:=ra.some;have na:¬ Al B (aaf (ρ2.zip σ++Tm)) a:=fun z=>z.2.1 (by
      obtain⟨l1,y,l2',hy,_,hz,_⟩:=afi l2 e2;rw[hx] at hy;cases hy;rw[hz,List.append_assoc,List.cons_append,abg];exact List.mem_append_right _ List.mem_cons_self)
     refine hf _ H2 a c ds vs _ Q na ra rds h2 fun d v o c' hΦ rd hr=>k _ _ v _ (by rw[List.length_set];exact l2) ?_ hΦ
     refine (wr o c' hr).push ?_;have er:aaf ((ρ2.set i (.own c')).zip σ++Tm)=aaf (ρ2.zip σ++Tm):=by
      obtain⟨l1,y,l2',hy,_,hz,hset⟩:=afi l2 e2;rw[hx] at hy;cases hy;have:=hset (.own c') (some (.ref a));rw[afm hx] at this;rw[this,hz,List.append_assoc,List.append_assoc,List.cons_append,List.cons_append,abg,abg];rfl
     rw[er];exact rd.mono (.write hu tu na)
theorem pd_w {f:OW}(pa:PlainAttrs T) (slot:Slot T name id) (hty:typeOf (.builtin id)=pure (.type "method_descriptor")) (hm:MtR X id r) (hf:MtW X.K r f) (ho:PE X o (tVar i)) (ha:PAd X (e::es) ta)
  (hbase:attributeBase o name X.env (eval o X.env)=eval o X.env:=by rfl)
  (hfew:((backTo cpos (starEach (e::es) X.env)).all (fun x=>!x.1)&&(backToKw cpos (keywordEach [] X.env)).all (fun x=>x.1.isSome) && decide ((e::es).length+([]:List Keyword).length+(if ([]:List Keyword).isEmpty then 0 else 1)<30))=true:=by rfl)
  (hline:(apos.endLine == cpos.line)=true:=by rfl) (hs:starEach (e::es) X.env=(false,eval e X.env)::starEach es X.env:=by rfl) (hplain:(backTo cpos (starEach es X.env)).any (·.1)=false:=by rfl) :
  PD X (.Call (.Attribute o name apos) (e::es) [] cpos) (dW T f i ta):=(aex pa slot hty hm ho ha hbase hfew hline hs hplain).mono fun _ _ _ h=>avz hf h
def mApp:OW:=fun c ds Φ=>match c,ds with
 | .lst xs,[d]=>xs.length<100000/\Φ .non (.lst (xs++[d]))
 | _,_=>False
def mPop:OW:=fun c ds Φ=>match c,ds with
 | .lst xs,[.int i]=>∃ k y,-(2 ^ 63)<=i/\i<2 ^ 63/\seqIndex? i xs.length=some k/\xs[k]?=some y/\Φ y (.lst (xs.eraseIdx k))
 | _,_=>False
theorem mw_pop:MtW K atq mPop:=by
 intro A H a c ds vs Φ Q _ ra rd hf k;cases c<;>first | exact False.elim hf | skip
 cases rd with
 | nil=>exact False.elim hf
 | cons r1 rd =>
 rename_i d _ _ _
 cases d<;>first | exact False.elim hf | skip
 cases rd with
 | cons _ _=>exact False.elim hf
 | nil =>
 ·obtain⟨us,h,r⟩:=ra
  ·have:=r1.int_inv;subst this;obtain⟨j,y,h1,h2,h3,h4,hf⟩:=hf;obtain⟨v,hv,rv⟩:=r.get h4;exact⟨a,us,_,j,v,rfl,rfl,h,h1,h2,by rw[← r.length];exact h3,hv,k _ _ _ _ hf rv fun A' kp=>⟨_,aaa,(r.erase j).mono kp⟩⟩
def akk:List D->Option (List Str)
 | []=>some []
 | .str b::ds=>(akk ds).map (b::·)
 | _=>none
theorem ah9:∀ (ns:List Str),akk (ns.map D.str)=some ns
 | []=>rfl
 | n::ns=>by
  show (akk (ns.map D.str)).map (n::·)=_;rw[ah9 ns];rfl
theorem anr {ds:List D}{ns:List Str}{vs:List V}(h:akk ds=some ns) (rs:Reps K A H ds vs):vs=ns.map V.str:=by
 induction ds generalizing ns vs with
 | nil=>cases rs;cases h;rfl
 | cons d ds ih =>
  cases rs with
  | cons r rs =>
  cases d with
  | str i =>
   obtain⟨ms,h1,rfl⟩:=Option.map_eq_some_iff.mp h;rw[r.str_inv,ih h1 rs];rfl
  | _=>cases h
def fJoin:OM:=fun d ds Φ=>match d,ds with
 | .str z,[c]=>∃ xs ys,seqD c=some xs/\akk xs=some ys/\(ys.map (·.length)).sum+ys.length*z.length<=16777216/\Φ (.val (.str (Txt.join z ys)))
 | _,_=>False
theorem aue:MtD K (av2 K) fJoin:=by
 intro B L H d ds x xs Φ Q hd px ps hf k;unfold fJoin at hf;split at hf
 ·obtain⟨y,rfl,py⟩:=afa ps;obtain⟨xs,ys,h1,h2,h3,hf⟩:=hf;have:=px.str_inv;subst this;obtain⟨a,vs,rfl,hs,r⟩:=amk h1 py;rw[anr h2 r] at hs;exact⟨_,a,ys,rfl,rfl,hs,h3,k _ _ H hf (hd.pushF (.str _))⟩
 ·exact hf.elim
def ata:OM:=fun d ds Φ=>match d,ds with
 | .str z,[.str y]=>y.length≠0/\z.length<=1000000/\Φ (.own (.lst ((Txt.split z y).map D.str)))
 | _,_=>False
theorem aky:∀ (ys:List Str),Reps K A H (ys.map D.str) (ys.map V.str)
 | []=>.nil
 | y::ys=>.cons (.str y) (aky ys)
theorem adj:MtD K at5 ata:=by
 intro B L H d ds x xs Φ Q hd px ps hf k;unfold ata at hf;split at hf
 ·obtain⟨y,rfl,py⟩:=afa ps;have:=px.str_inv;have:=py.str_inv;subst_vars;exact⟨_,_,rfl,rfl,hf.1,hf.2.1,fun p hp=>k _ _ _ hf.2.2 (hd.lstF hp (aky _))⟩
 ·exact hf.elim
end
section
variable {X:Cx}{a b:Expr}{tb:TEd}{pos:Pos}{i:Nat}
theorem ab8 (hu:X.A.units+1<cLine) (ha:PE X a (tVar i)) (hb:PD X b tb) (hs:alm b:=by exact fun _ _=>rfl):PD X (.Subscript a b pos) (d2s fIx i tb) :=
 (abd (ati hu) ha hb hs).mono fun _ _ _ h=>agk od_ix h
end
section
variable {X:Cx}{K:PySem.W.Frag}
theorem apl:ab6 X (.type "int") (fun xs H Q=>∃ (x:Str) (n:Int),xs=[.str x]/\intText? x=some n/\x.length<=640/\Q (.int n) H):=by
 intro pins s σ H xs us Q I r h;obtain⟨x,n,rfl,h1,h2,q⟩:=h;obtain⟨u,rfl,ru⟩:=af0 r;obtain⟨t,rfl⟩:=ru;exact PySem.W.KIN.call_text h1 h2 ⟨.int n,H,I.kept (t':=s.toks+1) fun b o e=>e,⟨_,rfl⟩,q⟩
def fIntT:OC:=fun ds Φ=>match ds with
 | [.str x]=>∃ n,intText? x=some n/\x.length<=640/\Φ (.val (.int n))
 | ds=>fInt ds Φ
def auz:List V->Hp->VK->Prop:=fun xs H Q=>((∃ i,xs=[.int i]/\Q (.int i) H)\/∃ k,xs=[.bl k]/\Q (.int (if k then 1 else 0)) H)\/∃ (x:Str) (n:Int),xs=[.str x]/\intText? x=some n/\x.length<=640/\Q (.int n) H
theorem apm:ab6 X (.type "int") auz:=aqo.or apl
theorem ava:ajh K auz fIntT:=by
 intro B L H ds xs Φ Q hd hp hf k;have two:fInt ds Φ->auz xs H Q:=fun hf=>.inl (cd_int B L H ds xs Φ Q hd hp hf k)
 cases ds with
 | nil=>exact two hf
 | cons d ds =>
 cases d<;>first | exact two hf | skip
 cases ds with
 | cons _ _=>exact two hf
 | nil =>
 obtain⟨x,rfl,px⟩:=afa hp;have:=px.str_inv;subst this;obtain⟨n,h1,h2,hf⟩:=hf;exact .inr ⟨_,n,rfl,h1,h2,k _ _ H hf (hd.pushF (.int _))⟩
end
section
variable {n:Nat}{caps:List Nat}{ι:TId}{g:TGd}{te:TEd}{tt:TTd}{dk:List Addr}{ρ:List Sl}{Φ:Sl->List Sl->Prop}{α:Type}
theorem am7 (xs:List α) (enc out:α->D) (p:α->Bool) (ρ1:List Sl) (hι:∀ Ψ:List D->List Sl->Prop,Ψ (xs.map enc) ρ1->ι dk ρ Ψ) (hl:xs.length<=100000)
  (hs:∀ (i:Nat) x (ys:List D) (Nx:List D->List Sl->Prop),xs[i]?=some x->ys.length<100000->(p x=true->Nx (ys++[out x]) (capS caps ρ1))->(p x=false->Nx ys (capS caps ρ1))->g (enc x) (List.replicate n Sl.no++capS caps ρ1) fun ρ2=>tt dk ρ2 fun b ρ3=>if b=true then te dk ρ3 fun r ρ4=>match sd r with
   | some c=>ys.length<100000/\Nx (ys++[c]) (ρ4.drop n)
   | none=>False
   else Nx ys (ρ3.drop n))
  (hΦ:Φ (.own (.lst ((xs.filter p).map out))) (ad3 caps (capS caps ρ1) ρ1)):eLC n caps ι g tt te dk ρ Φ:=by
 refine hι _ ⟨fun i ys cs=>ys=((xs.take i).filter p).map out/\cs=capS caps ρ1,⟨by simp,rfl⟩,?_,?_⟩
 ·rintro i d ys cs hd _ ⟨e1,e2⟩;rw[List.getElem?_map] at hd;cases e:xs[i]? with
  | none=>rw[e] at hd;cases hd
  | some x =>
   rw[e] at hd;cases hd;obtain⟨hi,_⟩:=List.getElem?_eq_some_iff.mp e;have tk:(xs.take (i+1)).filter p=(xs.take i).filter p++(if p x=true then [x] else []):=by
    rw[List.take_add_one,e,List.filter_append];by_cases q:p x=true<;>simp[q]
   have len:ys.length<100000:=by
    rw[e1,List.length_map];have h1:=List.length_filter_le p (xs.take i);rw[List.length_take] at h1;omega
   rw[e2];refine hs i x ys (fun ys cs=>ys=((xs.take (i+1)).filter p).map out/\cs=capS caps ρ1) e len (fun q=>⟨?_,rfl⟩) fun q=>⟨?_,rfl⟩
   ·rw[tk,if_pos q,e1,List.map_append];rfl
   ·rw[tk,if_neg (by rw[q];decide),List.append_nil];exact e1
 ·rintro ys cs _ ⟨e1,e2⟩;rw[e1,e2,List.length_map,List.take_length];exact hΦ
theorem ajw (xs:List α) (enc out:α->D) (ρ1:List Sl) (hι:∀ Ψ:List D->List Sl->Prop,Ψ (xs.map enc) ρ1->ι dk ρ Ψ) (hl:xs.length<=100000)
  (hs:∀ (i:Nat) x (ys:List D) (Nx:List D->List Sl->Prop),xs[i]?=some x->ys.length<100000->Nx (ys++[out x]) (capS caps ρ1)->g (enc x) (List.replicate n Sl.no++capS caps ρ1) fun ρ2=>te dk ρ2 fun r ρ4=>match sd r with
   | some c=>ys.length<100000/\Nx (ys++[c]) (ρ4.drop n)
   | none=>False)
  (hΦ:Φ (.own (.lst (xs.map out))) (ad3 caps (capS caps ρ1) ρ1)):eLC n caps ι g yesD te dk ρ Φ:=by
 refine am7 xs enc out (fun _=>true) ρ1 hι hl (fun i x ys Nx e h1 h2 _=>hs i x ys Nx e h1 (h2 rfl)) ?_;have:xs.filter (fun _=>true)=xs:=List.filter_eq_self.mpr fun _ _=>rfl
 rw[this];exact hΦ
end
end L2
namespace Lw
open PySem L2
def top (i:Nat):Stmt:=PySem.Challenge.pw_laidcells_k02_no_cell.main.body.getD i (.Pass ⟨0,0,0,0⟩)
abbrev afb:Stmt:=top 11
abbrev ahv:Stmt:=top 12
abbrev anz:Stmt:=top 14
abbrev ah5:Stmt:=top 15
abbrev afu:Stmt:=top 16
abbrev ad2:Stmt:=top 17
abbrev ag6:Stmt:=top 18
abbrev ala:Stmt:=top 19
abbrev ang:Stmt:=top 21
abbrev afs:Stmt:=top 22
abbrev alx:Stmt:=top 23
abbrev aoe:Stmt:=top 24
abbrev aid:Stmt:=top 25
abbrev anx:Stmt:=top 26
abbrev anj:Stmt:=top 27
abbrev anb:Stmt:=top 28
abbrev abo:Stmt:=top 29
abbrev ab3:Stmt:=top 30
abbrev acu:Stmt:=top 31
abbrev ab2:Stmt:=top 32
abbrev abv:Stmt:=top 33
abbrev acr:Stmt:=top 34
abbrev ab4:Stmt:=top 35
abbrev acs:Stmt:=top 36
abbrev aa9:Stmt:=top 37
abbrev ab9:Stmt:=top 38
abbrev alc:Stmt:=top 39
def apk:Stmt->List Stmt
 | .ClassDef _ _ _ b ..=>b
 | _=>[]
abbrev aie:Stmt:=(apk (top 4)).getD 0 (.Pass ⟨0,0,0,0⟩)
abbrev an0:Stmt:=(apk (top 5)).getD 0 (.Pass ⟨0,0,0,0⟩)
structure Txt (mg:Str->Option Value):Prop where
 len:mg "len" = none
 range:mg "range" = none
 sum:mg "sum" = none
 min:mg "min" = none
 max:mg "max" = none
 tuple:mg "tuple" = none
 list:mg "list" = none
 set:mg "set" = none
 dict:mg "dict" = none
 int:mg "int" = none
 str:mg "str" = none
 zip:mg "zip" = none
 enumerate:mg "enumerate" = none
 all:mg "all" = none
 any:mg "any" = none
 isinstance:mg "isinstance" = none
 sorted:mg "sorted" = none
 abs:mg "abs" = none
 reversed:mg "reversed" = none
 bool:mg "bool" = none
structure Gd (K:PySem.W.Frag) (mg:Str->Option Value) (x:Str) (st:Stmt) (ps:List Str) (f:Addr) (fd:FuncData):Prop where
 F:Fun K x x st f fd
 m:mg x=some (.ref f)
 k:PySem.W.keepIn K (.ref f)=true
 b:aeg K fd ps []
def ahl:Sp:=fun vs H Q _=>∃ (d c:Addr) (m:Int),vs=[.ref d,.int m]/\DeckAt H d c/\0<m/\m<1000000/\∀ (r:Int) (H':Hp),0<=r->r<m->DeckAt H' d c->Keep d c H H'->Q (.int r) H'
section
variable {P:Program}{w:World}{K:PySem.W.Frag}{mg:Str->Option Value}{base:Heap}
theorem aov:FnScope ["deck","many","at","cell"] ["deck","many"] (aae afs):=⟨rfl,rfl,rfl,by decide +kernel,rfl,by decide +kernel,by decide +kernel⟩
set_option maxHeartbeats 1000000 in
theorem ai9 {f:Addr}{fd:FuncData}(F:Fun K "_law_take" "_law_take" afs f fd) (T:Txt mg):FnOk P w K mg base CX0 1 f fd ["deck","many"] ahl:=by
 refine F.ok aov (fun vs H Q E h=>?_) (fun cdv A outer s H vs Q E hr h=>?_)
 ·obtain⟨d,c,m,rfl,_⟩:=h;rfl
 ·obtain⟨d,c,m,rfl,D,hm0,hm,k⟩:=h;obtain⟨ns,p,h1,h2,h3,h4⟩:=id D.ex;have hdc:=D.ne;refine⟨_,aai (aan (i:=2) aov.nd rfl (Or.inl rfl) (aat adl (abd aas (pv 0) aag (fun _ _=>rfl)) (aam aap (by rfl) T.len PySem.boot_len (adr (abd aas (pv 0) aag (fun _ _=>rfl)) aad)))) (aai (ahu (aat adg (abd aas (pv 0) aag (fun _ _=>rfl)) aag) (agc (pv 0) aag adi)) (aai (aan (i:=3) aov.nd rfl (Or.inl rfl) (abd aas (abd aas (pv 0) aag (fun _ _=>rfl)) (pv 2) (fun _ _=>rfl))) (aai (ahu (aat apr (pv 3) (pv 1)) (agc (abd aas (pv 0) aag (fun _ _=>rfl)) (pv 2) adi)) (aah (aa6 (aat adl (pv 3) (pv 1))))))),?_⟩;refine⟨_,rfl,d,_,_,_,rfl,rfl,SqL.of h1,rfl,_,rfl,d,_,_,_,rfl,rfl,SqL.of h1,rfl,c,_,rfl,.inl (SqL.of h2),_,_,rfl,rfl,?_,?_⟩
  ·rw[List.length_map];omega
  ·rw[List.length_map];have b0:=Int.emod_nonneg p (show (ns.length:Int)≠0 by omega);have b1:=Int.emod_lt_of_pos p (show (0:Int)<ns.length by omega);obtain⟨j,hj⟩:=Int.eq_ofNat_of_zero_le b0;have hjl:j<ns.length:=by omega
   have hat:(ns.map V.int)[j]?=some (V.int ns[j]):=by simp[hjl]
   refine⟨_,rfl,d,_,_,_,rfl,rfl,SqL.of h1,rfl,_,_,rfl,rfl,_,rfl,d,_,_,1,rfl,rfl,h1,rfl,?_⟩;have g1:upd H d (.lst ([V.ref c,V.int p].set 1 (V.int (p+1)))) d=some (.lst [.ref c,.int (p+1)]):=aaa;have g2:upd H d (.lst ([V.ref c,V.int p].set 1 (V.int (p+1)))) c=some (.lst (ns.map V.int)):=by rw[aac hdc.symm];exact h2
   refine⟨_,rfl,d,_,_,_,rfl,rfl,SqL.of g1,rfl,_,rfl,c,_,_,V.int ns[j],rfl,rfl,SqL.of g2,(by rw[hj];exact aaq hat),?_⟩
   ·refine⟨_,rfl,_,rfl,_,_,rfl,rfl,⟨hm0,by omega⟩,_,rfl,d,_,_,_,rfl,rfl,SqL.of g1,rfl,_,rfl,c,_,_,j,rfl,rfl,g2,?_,?_⟩
    ·rw[hj,List.length_map];unfold ixN;rw[if_pos (by omega),if_pos (by omega)];simp
    ·refine⟨_,rfl,_,rfl,_,_,rfl,rfl,hm0,?_⟩;refine k _ _ (Int.emod_nonneg _ (by omega)) (Int.emod_lt_of_pos _ hm0) ⟨ns.set j (ns[j]/m),p+1,?_,?_,by rw[List.length_set];exact h3,by rw[List.length_set];exact h4⟩ ?_
     ·rw[aac hdc];exact g1
     ·rw[aaa,List.map_set]
     ·intro b o e n1 n2;rw[aac n2,aac n1];exact e
end
theorem Same.new {p:Addr}{H:Hp}{o:HO}(h:H p=none):Same H (upd H p o):=fun b u e=>by rw[aac (aab e h)];exact e
theorem ark (ns:List Int) (lo hi:Option Int):∃ ms:List Int,cutV (ns.map V.int) lo hi=ms.map V.int/\ms.length<=ns.length:=by
 refine⟨(ns.drop (HT.sIx ns.length 0 lo)).take (HT.sIx ns.length ns.length hi-HT.sIx ns.length 0 lo),?_,?_⟩
 ·unfold cutV;rw[List.length_map,List.map_take,List.map_drop]
 ·rw[List.length_take,List.length_drop];omega
def at8 (K:PySem.W.Frag):Sp:=fun vs H Q _=>∃ (a:Addr) (ns:List Int),vs=[.ref a]/\SqL K H a (ns.map V.int)/\ns.length<=63/\∀ (d c:Addr) (H':Hp),DeckAt H' d c->H d=none->H c=none->Same H H'->Q (.ref d) H'
section
variable {P:Program}{w:World}{K:PySem.W.Frag}{mg:Str->Option Value}{base:Heap}
theorem aj9:FnScope ["script","cells","k","mixed"] ["script"] (aae ang):=⟨rfl,rfl,rfl,by decide +kernel,rfl,by decide +kernel,by decide +kernel⟩
set_option maxHeartbeats 2000000 in
theorem avp {f:Addr}{fd:FuncData}(F:Fun K "_law_deck" "_law_deck" ang f fd) (T:Txt mg):FnOk P w K mg base CX0 1 f fd ["script"] (at8 K):=by
 refine F.ok aj9 (fun vs H Q E h=>?_) (fun cdv A outer s H vs Q E hr h=>?_)
 ·obtain⟨a,ns,rfl,_⟩:=h;rfl
 ·obtain⟨a,ns,rfl,hS,hlen,k⟩:=h;refine⟨_,aai (aan (i:=1) aj9.nd rfl (Or.inl rfl) (aat ae9 (abr acz (pv 0) acm (ace aag)) (aaz (adr (aam aap (by rfl) T.len PySem.boot_len (adr (pv 0) aad)) aad)))) (aai (adn (acg aho (aat adl (aam (as3 rfl) (by rfl) T.sum PyProof.Rows.boot_sum (adr (abr acz (pv 0) acm (ace aag)) aad)) aag) aag (acj _)) (aah (ael PassesOwn.never rfl (ade rfl T.range (adr (aam aap (by rfl) T.len PySem.boot_len (adr (pv 1) aad)) aad)) (aa1 (i:=2) aj9.nd rfl (Or.inl rfl)) (aai (aan (i:=3) aj9.nd rfl (Or.inl rfl) (aat adl (aat afj (aat adg (aat adg (aat adl (abd aas (pv 1) (pv 2) (fun _ _=>rfl)) aag) (aat afj aag (pv 2))) aag) aag) aag)) (aai (aan (i:=3) aj9.nd rfl (Or.inl rfl) (aat adl (aat afj (aat adl (aat adg (aat afj (pv 3) (pv 3)) (aat afj aag (pv 2))) aag) aag) aag)) (aah (ahu (aat adg (aat afj (aat afj (pv 3) (pv 3)) aag) (aat adl (aat afj (pv 3) aag) aag)) (agc (pv 1) (pv 2) adi))))))) abi) (aah (aa6 (aaz (adr (pv 1) (adr aag aad)))))),?_⟩;obtain⟨ms,em,hms⟩:=ark ns none (some 63);refine⟨_,rfl,_,rfl,a,_,rfl,hS,fun p1 n1=>?_⟩;have s1:Same H (upd H p1 (.lst (cutV (ns.map V.int) none (some 63)))):=Same.new n1;rw[em] at s1 ⊢;refine⟨_,rfl,a,_,rfl,.inl (s1.seq hS),(by show 1<=sizeLine;decide),fun p2 n2=>?_⟩;have s2:=s1.trans (Same.new (o:=.lst [V.int ((ns.map V.int).length:Nat)]) n2);have q1:upd (upd H p1 (.lst (ms.map V.int))) p2 (.lst [V.int ((ns.map V.int).length:Nat)]) p1=some (.lst (ms.map V.int)):=by rw[aac (aab aaa n2)];exact aaa
  refine⟨p1,p2,_,_,rfl,rfl,q1,aaa,?_,fun c nc=>?_⟩
  ·rw[List.length_map];exact Nat.le_trans (show ms.length+1<=64 by omega) (by decide)
  have s3:=s2.trans (Same.new (o:=.lst (ms.map V.int++[V.int ((ns.map V.int).length:Nat)])) nc);have ec:ms.map V.int++[V.int ((ns.map V.int).length:Nat)]=(ms++[((ns.map V.int).length:Int)]).map V.int:=by simp
  rw[ec] at s3 ⊢;generalize hcs:ms++[((ns.map V.int).length:Int)]=cs at s3;have hcl:0<cs.length/\cs.length<=64:=by rw[← hcs,List.length_append,List.length_singleton];omega
  have hc0:H c=none:=s2.free nc;generalize hH3:upd (upd (upd H p1 (.lst (ms.map V.int))) p2 (.lst [V.int ((ns.map V.int).length:Nat)])) c (.lst (cs.map V.int))=H3 at s3;have c3:H3 c=some (.lst (cs.map V.int)):=by rw[← hH3];exact aaa
  have fin:∀ (cs':List Int) (v2 v3:Option V) (H4:Hp),Same H H4->H4 c=some (.lst (cs'.map V.int))->0<cs'.length->cs'.length<=64 ->
    (tRet (tLst (ajo (tVar 1) (ajo (tC (.int 0)) tNil)))) { nx:=fun _ H'=>Q .non H',rt:=Q } [some (.ref a),some (.ref c),v2,v3] H4:=by
   intro cs' v2 v3 H4 s4 c4 l1 l2;refine⟨_,rfl,(by show 2<=sizeLine;decide),fun d nd=>?_⟩;refine k d c _ ⟨cs',0,aaa,by rw[aac (aab c4 nd)];exact c4,l1,by omega⟩ (s4.free nd) hc0 (s4.trans (Same.new nd))
  refine⟨_,rfl,_,rfl,a,_,rfl,s3.seq hS,fun p4 n4=>?_⟩;rw[em];have s4:=s3.trans (Same.new (o:=.lst (ms.map V.int)) n4);have c4:upd H3 p4 (.lst (ms.map V.int)) c=some (.lst (cs.map V.int)):=by rw[aac (aab c3 n4)];exact c3
  refine⟨p4,ms,rfl,SqL.of aaa,_,_,rfl,rfl,(by show (0:Int)<2;decide),rfl,_,rfl,?_⟩;refine ite2 (fun _=>?_) (fun _=>?_)
  ·refine⟨_,rfl,c,_,rfl,.inl (SqL.of c4),_,rfl,by omega,by rw[List.length_map];omega,?_⟩;rw[List.length_map,Int.toNat_natCast];refine adx (lo:=0) (n:=cs.length) (fun i σ H5=>∃ (cs':List Int) (v2 v3:Option V),σ=[some (.ref a),some (.ref c),v2,v3]/\Same H H5/\H5 c=some (.lst (cs'.map V.int))/\cs'.length=cs.length)
    ⟨cs,none,none,rfl,s4,c4,rfl⟩ ?_ ?_
   ·rintro i σ H5 hi ⟨cs',v2,v3,rfl,s5,c5,hl⟩;have hat:(cs'.map V.int)[i]?=some (V.int (cs'[i]'(by omega))):=by simp[hl,hi]
    refine⟨_,rfl,_,rfl,c,_,_,V.int (cs'[i]'(by omega)),rfl,rfl,SqL.of c5,(by rw[Int.zero_add];exact aaq hat),_,_,rfl,rfl,(by show (0:Int)<2147483587;decide),_,rfl,_,_,rfl,rfl,.inl (by decide),_,_,rfl,rfl,_,_,rfl,rfl,_,_,rfl,rfl,.inr (by decide),_,_,rfl,rfl,(by show (0:Int)<2147483629;decide),?_⟩;refine⟨_,rfl,_,rfl,_,_,rfl,rfl,.inl ?_,_,rfl,_,_,rfl,rfl,.inl (by decide),_,_,rfl,rfl,_,_,rfl,rfl,(by show (0:Int)<2147483563;decide),_,_,rfl,rfl,.inr (by decide),_,_,rfl,rfl,(by show (0:Int)<2147483549;decide),?_⟩
    ·have b0:=Int.emod_nonneg ((cs'[i]'(by omega)%2147483587+853*(0+(i:Int))+11)*69621) (show (2147483629:Int)≠0 by decide);have b1:=Int.emod_lt_of_pos ((cs'[i]'(by omega)%2147483587+853*(0+(i:Int))+11)*69621) (show (0:Int)<2147483629 by decide);exact⟨by omega,by omega⟩
    generalize hM:((cs'[i]'(by omega)%2147483587+853*(0+(i:Int))+11)*69621%2147483629)=M;have b0:=Int.emod_nonneg ((M*M+31*(0+(i:Int)))%2147483563*16807) (show (2147483549:Int)≠0 by decide);have b1:=Int.emod_lt_of_pos ((M*M+31*(0+(i:Int)))%2147483563*16807) (show (0:Int)<2147483549 by decide);refine⟨_,rfl,_,rfl,_,_,rfl,rfl,.inl ?_,_,_,rfl,rfl,.inr (by decide),_,rfl,_,_,rfl,rfl,.inl ?_,_,_,rfl,rfl,(by show (0:Int)<2147483579;decide),_,_,rfl,rfl,_,rfl,_,rfl,c,_,_,i,rfl,rfl,c5,?_,?_⟩
    ·exact⟨by omega,by omega⟩
    ·exact⟨by omega,by omega⟩
    ·rw[List.length_map];unfold ixN;rw[if_pos (by omega),if_pos (by omega)]
     congr 1
     omega
    ·refine⟨cs'.set i _,_,_,rfl,?_,by rw[aaa,List.map_set],by rw[List.length_set];exact hl⟩;intro b o e;rw[aac (aab e hc0)];exact s5 b o e
   ·rintro σ H5 ⟨cs',v2,v3,rfl,s5,c5,hl⟩;exact fin cs' v2 v3 H5 s5 c5 (by omega) (by omega)
  ·exact fin cs none none _ s4 c4 hcl.1 hcl.2
end
structure LS (n m:Nat) (x:Str):Prop where
 az:∀ c∈x.cps.toList,97<=c/\c<=122
 lo:n<=x.length
 hi:x.length<=m
theorem abt (x y:Str):(x++y).cps.toList=x.cps.toList++y.cps.toList:=by
 show (x.cps++y.cps).toList=_;simp
theorem agr (x y:Str):(x++y).length=x.length+y.length:=by
 show (x.cps++y.cps).size=_;simp[Str.length]
theorem LS.app {a b c d:Nat}{x y:Str}(h:LS a b x) (g:LS c d y):LS (a+c) (b+d) (x++y) :=
 ⟨fun z hz=>by rw[abt] at hz;exact (List.mem_append.mp hz).elim (h.az z) (g.az z),by rw[agr];have:=h.lo;have:=g.lo;omega,by rw[agr];have:=h.hi;have:=g.hi;omega⟩
theorem LS.weak {a b c d:Nat}{x:Str}(h:LS a b x) (h1:c<=a) (h2:b<=d):LS c d x:=⟨h.az,Nat.le_trans h1 h.lo,Nat.le_trans h.hi h2⟩
def lsB (n m:Nat) (x:Str):Bool:=x.cps.toList.all (fun c=>decide (97<=c)&&decide (c<=122))&&decide (n<=x.length)&&decide (x.length<=m)
theorem LS.of {n m:Nat}{x:Str}(h:lsB n m x=true):LS n m x:=by
 unfold lsB at h;simp only[Bool.and_eq_true,List.all_eq_true,decide_eq_true_eq] at h;exact⟨h.1.1,h.1.2,h.2⟩
theorem LS.cutL {n:Nat}{z:Str}(h:LS n n z){k:Nat}(hk:k<=n):LS k k (cutS z none (some (k:Int))):=by
 have e:z.length=n:=Nat.le_antisymm h.hi h.lo;have e1:HT.sIx z.length z.length (some (k:Int))=k:=by rw[HT.sIx_nat];omega
 have e2:(cutS z none (some (k:Int))).cps.toList=z.cps.toList.take k:=by
  show ((z.cps.toList.drop (HT.sIx z.length 0 none)).take _).toArray.toList=_;rw[e1,HT.sIx_none];simp
 have el:(cutS z none (some (k:Int))).length=k:=by
  rw[← aba,e2,List.length_take,aba];omega
 exact⟨fun c hc=>by rw[e2] at hc;exact h.az c (List.mem_of_mem_take hc),by omega,by omega⟩
theorem LS.cutR {n:Nat}{z:Str}(h:LS n n z){k:Nat}(hk:k<=n):LS (n-k) (n-k) (cutS z (some (k:Int)) none):=by
 have e:z.length=n:=Nat.le_antisymm h.hi h.lo;have e1:HT.sIx z.length 0 (some (k:Int))=k:=by rw[HT.sIx_nat];omega
 have e2:(cutS z (some (k:Int)) none).cps.toList=z.cps.toList.drop k:=by
  show ((z.cps.toList.drop (HT.sIx z.length 0 (some (k:Int)))).take _).toArray.toList=_;rw[e1,HT.sIx_none];simp only[List.toList_toArray];rw[List.take_of_length_le];rw[List.length_drop,aba];omega
 have el:(cutS z (some (k:Int)) none).length=n-k:=by
  rw[← aba,e2,List.length_drop,aba];omega
 exact⟨fun c hc=>by rw[e2] at hc;exact h.az c (List.mem_of_mem_drop hc),by omega,by omega⟩
theorem LS.sign {c:Nat}(h:97<=c/\c<=122):LS 1 1 ⟨#[c]⟩:=⟨fun d hd=>by simp at hd;subst hd;exact h,Nat.le_refl _,Nat.le_refl _⟩
theorem ah8:∀ (ys:List Str),(∀ y∈ys,LS 1 1 y)->LS ys.length ys.length (Str.join "" ys)
 | [],_=>⟨fun c hc=>(nomatch hc),Nat.le_refl _,Nat.le_refl _⟩
 | [x],h=>h x List.mem_cons_self
 | x::y::r,h=>by
  have h1:=h x List.mem_cons_self;have h2:=ah8 (y::r) fun z hz=>h z (List.mem_cons_of_mem _ hz)
  have e0:LS 0 0 (Str.ofString ""):=LS.of (by decide +kernel);have:=(h1.app e0).app h2;show LS _ _ (x++(Str.ofString "")++Str.join "" (y::r));exact this.weak (by simp;omega) (by simp;omega)
theorem at_in {α:Type}{xs:List α}{i:Int}(h0:0<=i) (h1:i<xs.length):∃ v,atI xs i=some v/\v∈xs:=by
 obtain⟨j,rfl⟩:=Int.eq_ofNat_of_zero_le h0;have hj:j<xs.length:=by omega
 exact⟨xs[j],aaq (List.getElem?_eq_getElem hj),List.getElem_mem hj⟩
theorem amt {xs:List Str}{i:Int}(h0:0<=i) (h1:i<xs.length):∃ x,atI (xs.map V.str) i=some (V.str x)/\x∈xs:=by
 obtain⟨j,rfl⟩:=Int.eq_ofNat_of_zero_le h0;have hj:j<xs.length:=by omega
 exact⟨xs[j],aaq (by simp[hj]),List.getElem_mem hj⟩
def lettersS:Str := "abcdefghijklmnopqrstuvwxyz"
theorem afc:lettersS.length=26:=by decide +kernel
theorem afx {i:Int}(h0:0<=i) (h1:i<26):∃ c,atI lettersS.cps.toList i=some c/\97<=c/\c<=122:=by
 obtain⟨c,e,m⟩:=at_in (xs:=lettersS.cps.toList) h0 (by rw[aba,afc];exact h1);have h:LS 26 26 lettersS:=LS.of (by decide +kernel);exact⟨c,e,h.az c m⟩
def aen:List Str:=["and","or","odd","most","not","one","nil","in","out"]
theorem auk {x:Str}(h:x∈aen):LS 2 4 x:=by
 have:aen.all (lsB 2 4)=true:=by decide +kernel
 exact LS.of (List.all_eq_true.mp this x h)
structure GoodName (x:Str):Prop where
 ls:LS 1 8 x
 nk:x∉aen
def aqg:Sp:=fun vs H Q _=>vs=[]/\∀ l,H l=none->Q (.ref l) (upd H l (.lst (aen.map V.str)))
def as9:Sp:=fun vs H Q _=>∃ (d c:Addr) (m:Nat),vs=[.ref d,.int m]/\DeckAt H d c/\m<=40/\∀ (l:Addr) (xs:List Str) (H':Hp),H l=none->H' l=some (.lst (xs.map V.str))->xs.length=m->(∀ x∈xs,LS 1 8 x) ->
 DeckAt H' d c->Keep d c H H'->Q (.ref l) H'
theorem Keep.free {d c l:Addr}{H H':Hp}(k:Keep d c H H') (h1:l≠d) (h2:l≠c) (h:H' l=none):H l=none:=by
 cases e:H l with
 | none=>rfl
 | some o=>rw[k l o e h1 h2] at h;cases h
theorem ae2 {ys:List Str}{n m:Nat}(h:∀ y∈ys,y.length<=m) (hn:ys.length<=n):(ys.map (·.length)).sum<=n*m:=by
 have:∀ ys:List Str,(∀ y∈ys,y.length<=m)->(ys.map (·.length)).sum<=ys.length*m:=by
  intro ys;induction ys with
  | nil=>intro _;simp
  | cons a r ih =>
   intro h;have h1:=h a List.mem_cons_self;have h2:=ih fun y hy=>h y (List.mem_cons_of_mem _ hy)
   simp only[List.map_cons,List.sum_cons,List.length_cons,Nat.add_mul,Nat.one_mul];omega
 exact Nat.le_trans (this ys h) (Nat.mul_le_mul_right m hn)
theorem abj {n:Nat}(h:n<=1000):n<=sizeLine:=Nat.le_trans h (by decide)
section
variable {P:Program}{w:World}{K:PySem.W.Frag}{mg:Str->Option Value}{base:Heap}
theorem scKept:FnScope [] [] (aae alx):=⟨rfl,rfl,rfl,by decide +kernel,rfl,by decide +kernel,by decide +kernel⟩
theorem aps {f:Addr}{fd:FuncData}(F:Fun K "_law_kept" "_law_kept" alx f fd):FnOk P w K mg base CX0 1 f fd [] aqg:=by
 refine F.ok scKept (fun vs H Q E h=>?_) (fun cdv A outer s H vs Q E hr h=>?_)
 ·obtain⟨rfl,_⟩:=h;rfl
 ·obtain⟨rfl,k⟩:=h;refine⟨_,@aah _ _ _ (@aa6 _ _ _ _ (@aaz _ _ _ _ (@adp _ [("and",_,_),("or",_,_),("odd",_,_),("most",_,_),("not",_,_),("one",_,_),("nil",_,_),("in",_,_),("out",_,_)]))),?_⟩;have hz:9<=sizeLine:=by decide
  refine⟨hz,?_⟩;exact k
theorem ae0:FnScope ["deck","many","letters","base","at","shift","way","names","k","sign","word","name"] ["deck","many"] (aae aoe):=⟨rfl,rfl,rfl,by decide +kernel,rfl,by decide +kernel,by decide +kernel⟩
theorem ndMade:(["k","letters","deck"]:List Str).Nodup:=by decide +kernel
theorem q01 {i:Int}(h0:0<=i) (h1:i<2) (q:Str) (hq:LS 0 1 q):∃ x,atI [V.str "",V.str q] i=some (V.str x)/\LS 0 1 x:=by
 have:i=0\/i=1:=by omega
 rcases this with rfl | rfl
 ·exact⟨"",rfl,LS.of (by decide +kernel)⟩
 ·exact⟨q,rfl,hq⟩
set_option maxHeartbeats 4000000 in
theorem av1 {f fT fK:Addr}{fd fdT fdK:FuncData}(F:Fun K "_law_made_names" "_law_made_names" aoe f fd) (T:Txt mg) (gT:Gd K mg "_law_take" afs ["deck","many"] fT fdT) (gK:Gd K mg "_law_kept" alx [] fK fdK) :
  FnOk P w K mg base CX0 2 f fd ["deck","many"] as9:=by
 have GT:FnOk P w K mg base CX0 1 fT fdT ["deck","many"] ahl:=ai9 gT.F T;have GK:FnOk P w K mg base CX0 1 fK fdK [] aqg:=aps gK.F;refine F.ok ae0 (fun vs H Q E h=>?_) (fun cdv A outer s H vs Q E hr h=>?_)
 ·obtain⟨d,c,m,rfl,_⟩:=h;rfl
 ·obtain⟨d,c,m,rfl,D,hm,k⟩:=h;refine⟨_,aai (aan (i:=2) ae0.nd rfl (Or.inr rfl) abe) (aai (aan (i:=3) ae0.nd rfl (Or.inl rfl) (aex PySem.F.plainAttrs_str PySem.F.slot_str_join PySem.F.type_str_join aha abe (pa_c (agy ["k"] ["letters","deck"] [2,0] rfl (ade rfl T.range (pa_c (aak GT hr rfl gT.m gT.k gT.b .nil aa7 (pa_c (pv 0) (pa_c aag aad))) aad)) rfl rfl (fun s₀ H₀ C cl fp=>aa1 (i:=0) ndMade rfl (Or.inl rfl)) (fun s₀ H₀ C cl fp=>acd) (fun s₀ H₀ C cl fp=>abd al5 (pv 1) (aak GT hr rfl gT.m gT.k gT.b .nil aa7 (pa_c (pv 2) (pa_c aag aad))) (fun _ _=>rfl))) aad))) (aai (aan (i:=4) ae0.nd rfl (Or.inl rfl) (aak GT hr rfl gT.m gT.k gT.b .nil aa7 (pa_c (pv 0) (pa_c (aat adg (aam adh (by rfl) T.len PySem.boot_len (pa_c (pv 3) aad)) aag) aad)))) (aai (aan (i:=5) ae0.nd rfl (Or.inl rfl) (aak GT hr rfl gT.m gT.k gT.b .nil aa7 (pa_c (pv 0) (pa_c aag aad)))) (aai (aan (i:=6) ae0.nd rfl (Or.inl rfl) (aak GT hr rfl gT.m gT.k gT.b .nil aa7 (pa_c (pv 0) (pa_c aag aad)))) (aai (aan (i:=7) ae0.nd rfl (Or.inl rfl) (aaz aad)) (aai (ael PassesOwn.never rfl (ade rfl T.range (pa_c (pv 1) aad)) (aa1 (i:=8) ae0.nd rfl (Or.inl rfl)) (aai (aan (i:=9) ae0.nd rfl (Or.inl rfl) (abd al5 (pv 2) (aat adl (aat adg (pv 5) (pv 8)) aag) (fun _ _=>rfl))) (aai (aan (i:=10) ae0.nd rfl (Or.inl rfl) (abd aas (ame GK hr rfl gK.m gK.k gK.b .nil aa7) (aat adl (aat adg (pv 5) (pv 8)) aag) (fun _ _=>rfl))) (aai (aan (i:=11) ae0.nd rfl (Or.inl rfl) (aat aay (aat aay (aat aay (aat aay (abr arf (pv 3) acm (ace (pv 4))) (pv 9)) (abd aas (aaz (pa_c abe (pa_c abe aad))) (aat adl (pv 8) aag) (fun _ _=>rfl))) (abr arf (pv 3) (ace (pv 4)) acm)) (abd aas (aaz (pa_c abe (pa_c abe aad))) (aat apr (pv 8) aag) (fun _ _=>rfl)))) (aah (adu (aex PySem.F.plainAttrs_list PySem.F.slot_list_append PySem.F.type_list_append acw (pv 7) (pa_c (abd aas (aaz (pa_c (pv 11) (pa_c (aat aay (pv 9) (pv 10)) (pa_c (aat aay (pv 10) (pv 9)) (pa_c (aat aay (aat aay (pv 9) (pv 10)) (abd al5 (pv 2) (aat adl (pv 8) aag) (fun _ _=>rfl))) aad))))) (pv 6) (fun _ _=>rfl)) aad)))))))) (aah (aa6 (pv 7))))))))),?_⟩;refine⟨rfl,_,rfl,d,c,6,rfl,D,by decide,by decide,fun r1 H1 a0 a1 D1 k1=>⟨_,rfl,by omega,by omega,fun D0 nD0=>?_⟩⟩;have nd0:=D1.ned nD0;have hHD:H D0=none:=k1.free nd0.1 nd0.2 nD0;refine lc1y af4 (fun i ys H2=>∃ zs:List Str,ys=zs.map V.str/\zs.length=i/\(∀ z∈zs,LS 1 1 z)/\DeckAt H2 d c/\Keep d c H H2/\H2 D0=some (.lst ys))
   ⟨[],rfl,rfl,(fun z hz=>nomatch hz),D1.new nD0,k1.trans (Keep.new nD0),aaa⟩ (fun _ _ _ _ _=>True.intro) ?_ ?_
  ·rintro i x ys H2 hx ⟨zs,rfl,hl,hzs,D2,k2,hD⟩;have hi:i<6:=by
    have:=(List.getElem?_eq_some_iff.mp hx).1;simp at this;omega
   refine⟨_,rfl,_,rfl,d,c,26,rfl,D2,by decide,by decide,fun r H3 b0 b1 D3 k3=>?_⟩;obtain⟨cc,hat,hcc⟩:=afx b0 b1;have hD3:=k3 D0 _ hD nd0.1 nd0.2;refine⟨lettersS,_,cc,rfl,rfl,(by rw[afc];decide),hat,⟨_,rfl⟩,hD3,(by rw[List.length_map];exact Nat.lt_of_lt_of_le (show zs.length<1000 by omega) (by decide)),zs++[⟨#[cc]⟩],by simp,by simp[hl],fun z hz=>?_,D3.upd_other nd0.1 nd0.2,?_,aaa⟩
   ·rcases List.mem_append.mp hz with q | q
    ·exact hzs z q
    ·rw[List.mem_singleton.mp q];exact LS.sign hcc
   ·exact fun b o e h1 h2=>by rw[aac (aab e hHD)];exact k3 b o (k2 b o e h1 h2) h1 h2
  ·rintro ys H2 ⟨zs,rfl,hl,hz,D2,k2,hD⟩;rw[List.length_map,List.length_range] at hl;have hB:=ah8 zs hz;have hBl:zs.length<=5:=by omega
   refine⟨"",D0,zs,rfl,rfl,.inl (SqL.of hD),?_,?_⟩
   ·have h1:=ae2 (m:=1) (fun y hy=>(hz y hy).hi) hBl;have h2:(Str.ofString "").length=0:=by decide +kernel
    rw[h2];omega
   have ej:Txt.join (Str.ofString "") zs=Str.join (Str.ofString "") zs:=StrLaws.glued_eq_join _ _;rw[ej];generalize Str.join (Str.ofString "") zs=B at hB;have eB:B.length=zs.length:=Nat.le_antisymm hB.hi hB.lo;refine⟨_,rfl,_,rfl,B,rfl,abj (by omega),_,_,rfl,rfl,d,c,_,rfl,D2,by omega,by omega,fun r2 H3 b0 b1 D3 k3=>?_⟩;refine⟨_,rfl,d,c,26,rfl,D3,by decide,by decide,fun r3 H4 c0 c1 D4 k4=>?_⟩;refine⟨_,rfl,d,c,4,rfl,D4,by decide,by decide,fun r4 H5 d0 d1 D5 k5=>?_⟩;refine⟨(by show 0<=sizeLine;decide),fun l nl=>?_⟩;have kk:Keep d c H H5:=((k2.trans k3).trans k4).trans k5;have nl2:=D5.ned nl;have hHl:H l=none:=kk.free nl2.1 nl2.2 nl;obtain⟨at',rfl⟩:=Int.eq_ofNat_of_zero_le b0;refine⟨_,rfl,_,rfl,by omega,by omega,?_⟩;rw[Int.toNat_natCast];refine adx (lo:=0) (n:=m) (fun i σ H6=>∃ (xs:List Str) (v8 v9 v10 v11:Option V),σ=[some (.ref d),some (.int m),some (.str lettersS),some (.str B),some (.int at'),some (.int r3),some (.int r4),some (.ref l),v8,v9,v10,v11] /\ xs.length=i/\(∀ x∈xs,LS 1 8 x)/\H6 l=some (.lst (xs.map V.str))/\DeckAt H6 d c/\Keep d c H H6)
    ⟨[],none,none,none,none,rfl,rfl,(fun z hz=>nomatch hz),aaa,D5.new nl,kk.trans (Keep.new nl)⟩ ?_ ?_
   ·rintro i σ H6 hi ⟨xs,v8,v9,v10,v11,rfl,hl6,hx6,h6,D6,k6⟩;have e26:∀ z:Int,0<=z%26/\z%26<26:=fun z=>⟨Int.emod_nonneg z (by decide),Int.emod_lt_of_pos z (by decide)⟩
    have e9:∀ z:Int,0<=z%9/\z%9<9:=fun z=>⟨Int.emod_nonneg z (by decide),Int.emod_lt_of_pos z (by decide)⟩
    have e2:∀ z:Int,0<=z%2/\z%2<2:=fun z=>⟨Int.emod_nonneg z (by decide),Int.emod_lt_of_pos z (by decide)⟩
    obtain⟨cc,hat1,hcc⟩:=afx (e26 (r3+(0+(i:Int)))).1 (e26 _).2;obtain⟨wd,hat2,hwd⟩:=amt (xs:=aen) (e9 (r3+(0+(i:Int)))).1 (by exact (e9 _).2);obtain⟨x1,hat3,hx1⟩:=q01 (e2 (0+(i:Int))).1 (e2 _).2 "q" (LS.of (by decide +kernel));obtain⟨x2,hat4,hx2⟩:=q01 (i:=(0+(i:Int))/26) (by omega) (by omega) "w" (LS.of (by decide +kernel));obtain⟨c5,hat5,hc5⟩:=afx (e26 (0+(i:Int))).1 (e26 _).2;have hS:=LS.sign hcc;have hW:=auk hwd;have hatn:at'<=zs.length:=by omega
    have hP:=hB.cutL hatn;have hR:=hB.cutR hatn;have n1:=hP.app hS;have n2:=n1.app hx1;have n3:=n2.app hR;have n4:=n3.app hx2;have w1:=hS.app hW;have w2:=hW.app hS;have w3:=w1.app (LS.sign hc5);have sz:∀ {a b c' d':Nat} {x y:Str},LS a b x->LS c' d' y->b+d'<=100->x.length+y.length<=sizeLine:=fun g1 g2 hb=>abj (by have:=g1.hi;have:=g2.hi;omega)
    have lsz:lettersS.length<=sizeLine:=by rw[afc];decide
    have bsz:B.length<=sizeLine:=abj (by omega);refine⟨_,rfl,_,rfl,_,rfl,_,_,rfl,rfl,_,_,rfl,rfl,(by show (0:Int)<26;decide),lettersS,_,cc,rfl,rfl,lsz,hat1,?_⟩;refine⟨rfl,fun p np=>?_⟩;have D7:DeckAt (upd H6 p (.lst (aen.map V.str))) d c:=D6.new np;refine⟨_,rfl,_,rfl,_,_,rfl,rfl,_,_,rfl,rfl,(by show (0:Int)<9;decide),p,_,_,.str wd,rfl,rfl,SqL.of aaa,hat2,?_⟩;have k7:Keep d c H (upd H6 p (.lst (aen.map V.str))):=k6.trans (Keep.new np);have h7:upd H6 p (.lst (aen.map V.str)) l=some (.lst (xs.map V.str)):=by rw[aac (aab h6 np)];exact h6
    generalize upd H6 p (.lst (aen.map V.str))=H7 at D7 k7 h7 ⊢;refine⟨_,rfl,_,rfl,_,rfl,B,rfl,bsz,_,rfl,_,_,rfl,rfl,sz hP hS (by omega),(by show 2<=sizeLine;decide),fun p2 np2=>?_⟩;have D8:=D7.new (o:=.lst [V.str (Str.ofString ""),V.str (Str.ofString "q")]) np2;have k8:=k7.trans (Keep.new (d:=d) (c:=c) (o:=.lst [V.str (Str.ofString ""),V.str (Str.ofString "q")]) np2);have h8:upd H7 p2 (.lst [V.str (Str.ofString ""),V.str (Str.ofString "q")]) l=some (.lst (xs.map V.str)):=by rw[aac (aab h7 np2)];exact h7
    refine⟨_,rfl,_,_,rfl,rfl,(by show (0:Int)<2;decide),p2,_,_,.str x1,rfl,rfl,SqL.of aaa,hat3,_,_,rfl,rfl,sz n1 hx1 (by omega),_,rfl,_,rfl,_,rfl,B,rfl,bsz,_,_,rfl,rfl,sz n2 hR (by omega),(by show 2<=sizeLine;decide),fun p3 np3=>?_⟩;generalize upd H7 p2 (.lst [V.str (Str.ofString ""),V.str (Str.ofString "q")])=H8 at D8 k8 h8 np3 ⊢;have D9:=D8.new (o:=.lst [V.str (Str.ofString ""),V.str (Str.ofString "w")]) np3;have k9:=k8.trans (Keep.new (d:=d) (c:=c) (o:=.lst [V.str (Str.ofString ""),V.str (Str.ofString "w")]) np3);have h9:upd H8 p3 (.lst [V.str (Str.ofString ""),V.str (Str.ofString "w")]) l=some (.lst (xs.map V.str)):=by rw[aac (aab h8 np3)];exact h8
    refine⟨_,rfl,_,_,rfl,rfl,⟨by decide,by decide⟩,p3,_,_,.str x2,rfl,rfl,SqL.of aaa,hat4,_,_,rfl,rfl,sz n3 hx2 (by omega),?_⟩;generalize upd H8 p3 (.lst [V.str (Str.ofString ""),V.str (Str.ofString "w")])=H9 at D9 k9 h9 ⊢;generalize hNm:(cutS B none (some (at':Int))++(⟨#[cc]⟩:Str)++x1++cutS B (some (at':Int)) none++x2)=nm at n4;refine⟨_,rfl,.inl ⟨rfl,_,SqL.of h9⟩,_,rfl,_,rfl,_,rfl,_,_,rfl,rfl,sz hS hW (by omega),_,rfl,_,rfl,_,_,rfl,rfl,sz hW hS (by omega),_,rfl,_,rfl,_,_,rfl,rfl,sz hS hW (by omega),_,rfl,_,rfl,_,_,rfl,rfl,(by show (0:Int)<26;decide),lettersS,_,c5,rfl,rfl,lsz,hat5,_,_,rfl,rfl,sz w1 (LS.sign hc5) (by omega),(by show 4<=sizeLine;decide),fun p4 np4=>?_⟩;obtain⟨z,hat6,hz6⟩:=amt (xs:=[nm,(⟨#[cc]⟩:Str)++wd,wd++(⟨#[cc]⟩:Str),(⟨#[cc]⟩:Str)++wd++(⟨#[c5]⟩:Str)]) d0 (by exact d1);have hzl:LS 1 8 z:=by
     simp only[List.mem_cons,List.not_mem_nil,or_false] at hz6;rcases hz6 with rfl | rfl | rfl | rfl
     ·exact n4.weak (by omega) (by omega)
     ·exact w1.weak (by omega) (by omega)
     ·exact w2.weak (by omega) (by omega)
     ·exact w3.weak (by omega) (by omega)
    have h10:∀ o4,upd H9 p4 o4 l=some (.lst (xs.map V.str)):=fun o4=>by rw[aac (aab h9 np4)];exact h9
    refine⟨_,rfl,p4,_,_,.str z,rfl,rfl,SqL.of aaa,hat6,l,xs.map V.str,.str z,rfl,rfl,?_,?_,xs++[z],_,_,_,_,rfl,by simp[hl6],?_,?_,?_,?_⟩
    ·exact h10 _
    ·rw[List.length_map];exact Nat.lt_of_lt_of_le (show xs.length<1000 by omega) (by decide)
    ·intro y hy;rcases List.mem_append.mp hy with q | q
     ·exact hx6 y q
     ·rw[List.mem_singleton.mp q];exact hzl
    ·rw[aaa];simp
    ·exact (D9.new np4).upd_other nl2.1 nl2.2
    ·exact fun b o e g1 g2=>by rw[aac (aab e hHl)];exact (k9.trans (Keep.new np4)) b o e g1 g2
   ·rintro σ H6 ⟨xs,v8,v9,v10,v11,rfl,hl6,hx6,h6,D6,k6⟩;exact⟨_,rfl,k l xs H6 hHl h6 hl6 hx6 D6 k6⟩
end
def aek:List Str:=["cell","along","lay","judge","late","gates","ways","show"]
def age:List Str:=["andx","orb","oddly","mosts","nots","ones","nila","inn","outer","aa","ab","ba"]
def amx:List Str:=["abcdefgh","abcdefgi","zzzzzzzz","names","judged","rowsofx"]
def ac0 (z:Str):List Str:=z.cps.toList.map fun c=>(⟨#[c]⟩:Str)
def ag7:List Str:=ac0 lettersS++aek++age++amx
theorem alf:ag7.Nodup:=by decide +kernel
theorem ap1:ag7.length=52:=by decide +kernel
theorem anf:∀ x∈ag7,GoodName x:=by
 have h:ag7.all (fun x=>lsB 1 8 x && !aen.contains x)=true:=by decide +kernel
 intro x hx;have:=List.all_eq_true.mp h x hx;rw[Bool.and_eq_true] at this;refine⟨LS.of this.1,fun m=>?_⟩;have h2:=this.2;rw[List.contains_iff_mem.mpr m] at h2;cases h2
def aq6:Sp:=fun vs H Q _=>∃ (d c:Addr) (m:Nat),vs=[.ref d,.int m]/\DeckAt H d c/\m<=40/\∀ (l:Addr) (xs:List Str) (H':Hp),H l=none->H' l=some (.lst (xs.map V.str))->xs.length=m->xs.Nodup->(∀ x∈xs,GoodName x) ->
 DeckAt H' d c->Keep d c H H'->Q (.ref l) H'
theorem ai5:∀ {sp:List Str}{k:Nat}{y:Str},sp[k]?=some y->(y::sp.eraseIdx k).Perm sp
 | [],k,y,h=>by simp at h
 | a::r,0,y,h=>by
  simp at h;subst h;exact List.Perm.refl _
 | a::r,k+1,y,h=>by
  have h':r[k]?=some y:=by simpa using h
  show (y::a::r.eraseIdx k).Perm (a::r);exact (List.Perm.swap a y _).trans ((ai5 h').cons a)
theorem ahm {α β:Type}(f:α->β):∀ (l:List α) (k:Nat),(l.map f).eraseIdx k=(l.eraseIdx k).map f
 | [],_=>rfl
 | _::_,0=>rfl
 | a::r,k+1=>by simp[ahm f r k]
theorem afw (x:Str) (ys:List Str):inV (.str x) (ys.map V.str)=decide (x∈ys):=by
 unfold inV;induction ys with
 | nil=>rfl
 | cons y r ih =>
  rw[List.map_cons,List.any_cons,ih];have:eqV (V.str y) (V.str x)=decide (y=x):=by
   simp only[eqV];exact Bool.beq_eq_decide_eq y x
  rw[this];by_cases h:x=y
  ·subst h;simp
  ·have h':¬ y=x:=fun e=>h e.symm
   simp[h,h']
theorem ad1 (ys:List Str):(ys.map V.str).all ad4=true:=by
 rw[List.all_eq_true];intro v hv;obtain⟨y,_,rfl⟩:=List.mem_map.mp hv;rfl
section
variable {P:Program}{w:World}{K:PySem.W.Frag}{mg:Str->Option Value}{base:Heap}
theorem afr:FnScope ["deck","many","letters","names","spare"] ["deck","many"] (aae aid):=⟨rfl,rfl,rfl,by decide +kernel,rfl,by decide +kernel,by decide +kernel⟩
theorem nd1 (x:Str):([x]:List Str).Nodup:=by simp
theorem avx:(["k","spare","deck"]:List Str).Nodup:=by decide +kernel
set_option maxHeartbeats 4000000 in
theorem asd {f fT fK fM:Addr}{fd fdT fdK fdM:FuncData}(F:Fun K "_law_names" "_law_names" aid f fd) (T:Txt mg) (gT:Gd K mg "_law_take" afs ["deck","many"] fT fdT) (gK:Gd K mg "_law_kept" alx [] fK fdK)
  (gM:Gd K mg "_law_made_names" aoe ["deck","many"] fM fdM):FnOk P w K mg base CX0 3 f fd ["deck","many"] aq6:=by
 have GT:FnOk P w K mg base CX0 1 fT fdT ["deck","many"] ahl:=ai9 gT.F T;have GK:FnOk P w K mg base CX0 1 fK fdK [] aqg:=aps gK.F;have GM:FnOk P w K mg base CX0 2 fM fdM ["deck","many"] as9:=av1 gM.F T gT gK;refine F.ok afr (fun vs H Q E h=>?_) (fun cdv A outer s H vs Q E hr h=>?_)
 ·obtain⟨d,c,m,rfl,_⟩:=h;rfl
 ·obtain⟨d,c,m,rfl,D,hm,k⟩:=h;have hr1:Room 1 _:=hr.mono (by decide);have hu:=hr.units;refine abw _ (aan (i:=2) afr.nd rfl (Or.inl rfl) abe) ?_;refine abu (fun σ H4=>∃ v3,σ=[some (.ref d),some (.int m),some (.str lettersS),v3,none]/\DeckAt H4 d c/\Keep d c H H4) (fun u hu'=>?_) ?_
  ·-- if _law_take(deck,2) == 1
   refine⟨_,adn (acg aho (aak GT hr1 rfl gT.m gT.k gT.b .nil aa7 (pa_c (pv 0) (pa_c aag aad))) aag (acj _)) (aai (aan (i:=3) afr.nd rfl (Or.inl rfl) (aak GM hr rfl gM.m gM.k gM.b .nil aa7 (pa_c (pv 0) (pa_c (pv 1) aad)))) (aah (adn (PW.pt (atn (acg aho (aam afe (by rfl) T.len PySem.boot_len (pa_c (aa5 (aff rfl) (by rfl) T.set PyProof.Rows.boot_set (pa_c (pv 3) aad)) aad)) (pv 1) (acj _)) (ap9 (acg (ajb hu) (agy ["name"] [] [] rfl (ad8 (pv 3)) rfl rfl (fun s₀ H₀ C cl fp=>aa1 (i:=0) (nd1 _) rfl (Or.inl rfl)) (fun s₀ H₀ C cl fp=>ams (acg (r:=rIn K false) ad6 (pv 0) (ame GK hr1 rfl gK.m gK.k gK.b .nil aa7) rfl)) (fun s₀ H₀ C cl fp=>pv 0)) (aaz aad) (acj _))))) (aah (aa6 (pv 3))) abi))) abi,?_⟩;refine⟨_,rfl,d,c,2,rfl,D,by decide,by decide,fun r1 H1 a0 a1 D1 k1=>⟨rfl,_,rfl,?_⟩⟩;refine ite2 (fun _=>?_) (fun _=>hu' _ _ ⟨none,rfl,D1,k1⟩);refine⟨_,rfl,_,rfl,d,c,m,rfl,D1,hm,fun l xs H2 nl hl hlen hls D2 k2=>?_⟩;have kk:Keep d c H H2:=k1.trans k2;have nl1:=D1.ned nl;have hHl:H l=none:=k1.free nl1.1 nl1.2 nl;refine⟨_,rfl,l,xs,rfl,SqL.of hl,by omega,fun p np=>?_⟩;have k3:=kk.trans (Keep.new (d:=d) (c:=c) (o:=SetN P w p (ddS xs).length) np);have D3:=D2.new (o:=SetN P w p (ddS xs).length) np;have hl3:upd H2 p (SetN P w p (ddS xs).length) l=some (.lst (xs.map V.str)):=by rw[aac (aab hl np)];exact hl
   refine⟨p,_,rfl,aaa,_,rfl,rfl,_,rfl,?_⟩;refine ite2 (fun hdd=>?_) (fun _=>iteF (hu' _ _ ⟨_,rfl,D3,k3⟩));have hnd:xs.Nodup:=by
    have:=of_decide_eq_true hdd;injection this with this;exact afl (by omega)
   refine⟨_,rfl,l,rfl,⟨_,SqL.of hl3⟩,fun D0 nD0=>?_⟩;have nd0:=D3.ned nD0;have hHD:H D0=none:=k3.free nd0.1 nd0.2 nD0;have lD:l≠D0:=aab hl3 nD0;refine lc1 aee (fun i ys H4=>∃ zs:List Str,ys=zs.map V.str/\zs.length<=i/\((∃ x∈xs.take i,x∈aen)->zs≠[])/\((∀ x∈xs.take i,x∉aen)->zs=[])/\DeckAt H4 d c/\Keep d c H H4/\H4 D0=some (.lst ys)/\H4 l=some (.lst (xs.map V.str)))
    ⟨[],rfl,Nat.le_refl _,(fun ⟨x,hx,_⟩=>by simp at hx),(fun _=>rfl),D3.new nD0,k3.trans (Keep.new nD0),aaa,by rw[aac lD];exact hl3⟩ (fun i ys H4 _ ⟨_,_,_,_,_,_,_,_,h⟩=>SqL.of h) ?_ ?_
   ·rintro i x ys H4 hx ⟨zs,rfl,hz1,hz2,hz3,D4,k4,hD4,hl4⟩;obtain⟨y,hy,rfl⟩:∃ y,xs[i]?=some y/\V.str y=x:=by
     rw[List.getElem?_map] at hx;cases e:xs[i]? with
     | none=>rw[e] at hx;cases hx
     | some y=>rw[e] at hx;exact⟨y,rfl,Option.some.inj hx⟩
    have hi:i<xs.length:=(List.getElem?_eq_some_iff.mp hy).1;have et:xs.take (i+1)=xs.take i++[y]:=by rw[List.take_add_one,hy];rfl
    refine⟨_,rfl,rfl,fun q nq=>?_⟩;have nq1:=D4.ned nq;refine⟨q,_,rfl,.inl (SqL.of aaa),rfl,ad1 _,_,rfl,?_⟩;have D5:=D4.new (o:=.lst (aen.map V.str)) nq;have k5:=k4.trans (Keep.new (d:=d) (c:=c) (o:=.lst (aen.map V.str)) nq);have hD5:upd H4 q (.lst (aen.map V.str)) D0=some (.lst (zs.map V.str)):=by rw[aac (aab hD4 nq)];exact hD4
    have hl5:upd H4 q (.lst (aen.map V.str)) l=some (.lst (xs.map V.str)):=by rw[aac (aab hl4 nq)];exact hl4
    rw[afw];refine ite2 (fun hk=>?_) (fun hk=>?_)
    ·have hk':y∈aen:=of_decide_eq_true hk;refine⟨_,rfl,⟨_,rfl⟩,hD5,?_,zs++[y],by simp,by simp;omega,fun _=>by simp,fun h=>absurd hk' (h y (by rw[et];simp)),D5.upd_other nd0.1 nd0.2,?_,aaa,?_⟩
     ·rw[List.length_map];exact Nat.lt_of_lt_of_le (show zs.length<1000 by omega) (by decide)
     ·exact fun b o e g1 g2=>by rw[aac (aab e hHD)];exact k5 b o e g1 g2
     ·rw[aac lD];exact hl5
    ·have hk':y∉aen:=fun z=>hk (decide_eq_true z)
     refine⟨⟨_,rfl⟩,zs,rfl,by omega,?_,?_,D5,k5,hD5,hl5⟩
     ·rintro ⟨z,hz,hzk⟩;rw[et] at hz;rcases List.mem_append.mp hz with q' | q'
      ·exact hz2 ⟨z,q',hzk⟩
      ·rw[List.mem_singleton.mp q'] at hzk;exact absurd hzk hk'
     ·exact fun h=>hz3 fun z hz=>h z (by rw[et];exact List.mem_append_left _ hz)
   ·rintro ys H4 ⟨zs,rfl,hz1,hz2,hz3,D4,k4,hD4,hl4⟩;rw[List.length_map] at hz1 hz2 hz3;rw[List.take_of_length_le (Nat.le_refl _)] at hz2 hz3;refine⟨(by show 0<=sizeLine;decide),fun q nq=>?_⟩;have D5:=D4.new (o:=.lst []) nq;have k5:=k4.trans (Keep.new (d:=d) (c:=c) (o:=.lst []) nq);have hD5:upd H4 q (.lst []) D0=some (.lst (zs.map V.str)):=by rw[aac (aab hD4 nq)];exact hD4
    have hl5:upd H4 q (.lst []) l=some (.lst (xs.map V.str)):=by rw[aac (aab hl4 nq)];exact hl4
    refine⟨D0,q,_,rfl,rfl,SqL.of hD5,SqL.of aaa,_,rfl,?_⟩;refine ite2 (fun he=>?_) (fun _=>hu' _ _ ⟨_,rfl,D5,k5⟩);have hz0:zs=[]:=by
     cases zs with
     | nil=>rfl
     | cons a r=>simp at he
    refine⟨_,rfl,k l xs _ hHl hl5 hlen hnd (fun x hx=>⟨hls x hx,fun hk=>hz2 ⟨x,hx,hk⟩ hz0⟩) D5 k5⟩
  ·rintro σ H4 ⟨v3,rfl,D4,k4⟩;refine abu (fun σ H7=>∃ p2,σ=[some (.ref d),some (.int m),some (.str lettersS),v3,some (.ref p2)]/\H7 p2=some (.lst ((ac0 lettersS++aek).map V.str))/\DeckAt H7 d c/\Keep d c H H7/\H p2=none) (fun u hu'=>?_) ?_
   ·refine⟨_,aan (i:=4) afr.nd rfl (Or.inr rfl) (aat ae9 (agy ["sign"] [] [] rfl (atu (pv 2)) rfl rfl (fun s₀ H₀ C cl fp=>aa1 (i:=0) (nd1 _) rfl (Or.inl rfl)) (fun s₀ H₀ C cl fp=>acd) (fun s₀ H₀ C cl fp=>pv 0)) (@aaz _ _ _ _ (@adp _ [("cell",_,_),("along",_,_),("lay",_,_),("judge",_,_),("late",_,_),("gates",_,_),("ways",_,_),("show",_,_)]))),?_⟩;refine⟨_,rfl,lettersS,rfl,by decide +kernel,fun D0 nD0=>?_⟩;refine lcMap ahs id nD0 (fun _ _=>True.intro) (by rw[show (adb lettersS).length=26 by decide +kernel];decide) (fun i x H5 kk hx _ h=>⟨_,rfl,h⟩) ?_;have e1:(adb lettersS).map id=(ac0 lettersS).map V.str:=by rw[List.map_id];unfold adb ac0;rw[List.map_map];rfl
    rw[e1];refine⟨(by show 8<=sizeLine;decide),fun p1 n1=>?_⟩;have h0:upd (upd H4 D0 (.lst ((ac0 lettersS).map V.str))) p1 (.lst (aek.map V.str)) D0=some (.lst ((ac0 lettersS).map V.str)):=by rw[aac (aab aaa n1)];exact aaa
    refine⟨D0,p1,_,_,rfl,rfl,h0,aaa,(by rw[List.length_map,show (ac0 lettersS).length=26 by decide +kernel];show 26+8<=sizeLine;decide),fun p2 n2=>?_⟩;have D7:=((D4.new (o:=.lst ((ac0 lettersS).map V.str)) nD0).new (o:=.lst (aek.map V.str)) n1);have k7:=(k4.trans (Keep.new (d:=d) (c:=c) (o:=.lst ((ac0 lettersS).map V.str)) nD0)).trans (Keep.new (d:=d) (c:=c) (o:=.lst (aek.map V.str)) n1);have np2:=D7.ned n2;refine hu' _ _ ⟨p2,rfl,?_,D7.new n2,k7.trans (Keep.new n2),k7.free np2.1 np2.2 n2⟩;rw[aaa,List.map_append];rfl
   rintro σ H7 ⟨p2,rfl,h7,D7,k7,z7⟩;refine abu (fun σ H8=>∃ p3,σ=[some (.ref d),some (.int m),some (.str lettersS),v3,some (.ref p3)]/\H8 p3=some (.lst ((ac0 lettersS++aek++age).map V.str))/\DeckAt H8 d c/\Keep d c H H8/\H p3=none) (fun u hu'=>?_) ?_
   ·refine⟨_,aan (i:=4) afr.nd rfl (Or.inr rfl) (aat ae9 (pv 4) (@aaz _ _ _ _ (@adp _ [("andx",_,_),("orb",_,_),("oddly",_,_),("mosts",_,_),("nots",_,_),("ones",_,_),("nila",_,_),("inn",_,_),("outer",_,_),("aa",_,_),("ab",_,_),("ba",_,_)]))),?_⟩;refine⟨_,rfl,(by show 12<=sizeLine;decide),fun p1 n1=>?_⟩;have h0:upd H7 p1 (.lst (age.map V.str)) p2=some (.lst ((ac0 lettersS++aek).map V.str)):=by rw[aac (aab h7 n1)];exact h7
    refine⟨p2,p1,_,_,rfl,rfl,h0,aaa,(by rw[List.length_map,show (ac0 lettersS++aek).length=34 by decide +kernel];show 34+12<=sizeLine;decide),fun p3 n3=>?_⟩;have D8:=D7.new (o:=.lst (age.map V.str)) n1;have k8:=k7.trans (Keep.new (d:=d) (c:=c) (o:=.lst (age.map V.str)) n1);have np3:=D8.ned n3;refine hu' _ _ ⟨p3,rfl,?_,D8.new n3,k8.trans (Keep.new n3),k8.free np3.1 np3.2 n3⟩;rw[aaa,List.map_append (l₁:=ac0 lettersS++aek)];rfl
   rintro σ H8 ⟨p3,rfl,h8,D8,k8,z8⟩;refine abu (fun σ H9=>∃ p4,σ=[some (.ref d),some (.int m),some (.str lettersS),v3,some (.ref p4)]/\H9 p4=some (.lst (ag7.map V.str))/\DeckAt H9 d c/\Keep d c H H9/\H p4=none) (fun u hu'=>?_) ?_
   ·refine⟨_,aan (i:=4) afr.nd rfl (Or.inr rfl) (aat ae9 (pv 4) (@aaz _ _ _ _ (@adp _ [("abcdefgh",_,_),("abcdefgi",_,_),("zzzzzzzz",_,_),("names",_,_),("judged",_,_),("rowsofx",_,_)]))),?_⟩;refine⟨_,rfl,(by show 6<=sizeLine;decide),fun p1 n1=>?_⟩;have h0:upd H8 p1 (.lst (amx.map V.str)) p3=some (.lst ((ac0 lettersS++aek++age).map V.str)):=by rw[aac (aab h8 n1)];exact h8
    refine⟨p3,p1,_,_,rfl,rfl,h0,aaa,(by rw[List.length_map,show (ac0 lettersS++aek++age).length=46 by decide +kernel];show 46+6<=sizeLine;decide),fun p4 n4=>?_⟩;have D9:=D8.new (o:=.lst (amx.map V.str)) n1;have k9:=k8.trans (Keep.new (d:=d) (c:=c) (o:=.lst (amx.map V.str)) n1);have np4:=D9.ned n4;refine hu' _ _ ⟨p4,rfl,?_,D9.new n4,k9.trans (Keep.new n4),k9.free np4.1 np4.2 n4⟩;unfold ag7;rw[aaa,List.map_append (l₁:=ac0 lettersS++aek++age)];rfl
   rintro σ H9 ⟨p4,rfl,h9,D9,k9,z9⟩;refine⟨_,aah (aa6 (agy ["k"] ["spare","deck"] [4,0] rfl (ade rfl T.range (pa_c (pv 1) aad)) rfl rfl (fun s₀ H₀ C cl fp=>aa1 (i:=0) avx rfl (Or.inl rfl)) (fun s₀ H₀ C cl fp=>acd) (fun s₀ H₀ C cl fp=>apf K PySem.F.plainAttrs_list PySem.F.slot_list_pop PySem.F.type_list_pop ajv (pv 1) (pa_c (aak GT hr1 rfl gT.m gT.k gT.b .nil aa7 (pa_c (pv 2) (pa_c (aam (aqj K) (by rfl) T.len PySem.boot_len (pa_c (pv 1) aad)) aad))) aad)))),?_⟩;refine⟨_,rfl,_,rfl,by omega,by omega,fun D0 nD0=>?_⟩;have nd0:=D9.ned nD0;have hHD:H D0=none:=k9.free nd0.1 nd0.2 nD0;have np4:p4≠d/\p4≠c:=D.ned z9;have p4D:p4≠D0:=aab h9 nD0;refine lc1y af4 (fun i ys H10=>∃ zs sp:List Str,ys=zs.map V.str/\zs.length=i/\sp.length+i=52/\(zs++sp).Nodup/\(∀ x∈zs++sp,GoodName x)/\H10 p4=some (.lst (sp.map V.str))/\DeckAt H10 d c/\Keep d c H H10/\H10 D0=some (.lst ys))
    ⟨[],ag7,rfl,rfl,ap1,alf,anf,by rw[aac p4D];exact h9,D9.new nD0,k9.trans (Keep.new nD0),aaa⟩ (fun _ _ _ _ _=>True.intro) ?_ ?_
   ·rintro i x ys H10 hx ⟨zs,sp,rfl,hzl,hsl,hnd,hg,h10,D10,k10,hD10⟩;have hi:i<40:=by
     have:=(List.getElem?_eq_some_iff.mp hx).1;simp at this;omega
    refine⟨_,rfl,.inl ⟨rfl,_,SqL.of h10⟩,_,rfl,_,rfl,p4,_,rfl,.inl (SqL.of h10),d,c,_,rfl,D10,by rw[List.length_map];omega,by rw[List.length_map];omega,fun r H11 b0 b1 D11 k11=>?_⟩;rw[List.length_map] at b1;obtain⟨j,rfl⟩:=Int.eq_ofNat_of_zero_le b0;have hj:j<sp.length:=by omega
    have h11:=k11 p4 _ h10 np4.1 np4.2;have hD11:=k11 D0 _ hD10 nd0.1 nd0.2;have hy:sp[j]?=some sp[j]:=List.getElem?_eq_getElem hj;have pm:=ai5 hy;have pm2:((zs++[sp[j]])++sp.eraseIdx j).Perm (zs++sp):=by
     rw[List.append_assoc];exact List.Perm.append_left zs pm
    have hel:(sp.eraseIdx j).length+1=sp.length:=by
     rw[List.length_eraseIdx,if_pos hj];omega
    refine⟨p4,_,_,j,.str sp[j],rfl,rfl,h11,by omega,by omega,?_,by simp[hj],⟨_,rfl⟩,by rw[aac p4D.symm];exact hD11,?_,zs++[sp[j]],sp.eraseIdx j,by simp,by simp[hzl],by omega,pm2.symm.nodup hnd,fun x hx=>hg x (pm2.mem_iff.mp hx),?_,?_,?_,aaa⟩
    ·rw[List.length_map];exact PySem.StrLaws.seqIndex_nonneg (by omega) (by omega)
    ·rw[List.length_map];exact Nat.lt_of_lt_of_le (show zs.length<1000 by omega) (by decide)
    ·rw[aac p4D,aaa,ahm]
    ·exact (D11.upd_other np4.1 np4.2).upd_other nd0.1 nd0.2
    ·exact fun b o e g1 g2=>by rw[aac (aab e hHD),aac (aab e z9)];exact k11 b o (k10 b o e g1 g2) g1 g2
   ·rintro ys H10 ⟨zs,sp,rfl,hzl,hsl,hnd,hg,h10,D10,k10,hD10⟩;rw[List.length_map,List.length_range] at hzl;exact k D0 zs H10 hHD hD10 (by omega) (List.Nodup.sublist (List.sublist_append_left zs sp) hnd) (fun x hx=>hg x (List.mem_append_left _ hx)) D10 k10
end
end Lw
namespace L2
open PySem PySem.Spec PyProof.Rows
theorem aua {J:It}{xs:List V}{R:Hp->Prop}{nm:Str}{caps:List Nat}{te:TE}{σ:St}{H1:Hp}{Q:VK}{D:Addr}(Y:Yields J xs R) (f:V->V) (nD:H1 D=none) (hR:∀ H,Same H1 H->R H) (hl:xs.length<=4000)
  (hs:∀ (i:Nat) x H (k:VK),xs[i]?=some x->Same H1 H->k (f x) H->te (some x::caps.map (fun i=>(σ[i]?).join)) H k)
  (hd:Q (.ref D) (upd H1 D (.lst (xs.map f)))):LCW [nm] caps J (ac8 0) tYes te σ H1 Q D:=by
 have sm:∀ o,Same H1 (upd H1 D o):=fun o b u e=>by rw[aac (aab e nD)];exact e
 refine lc1y Y (fun i ys H=>i<=xs.length/\ys=(xs.take i).map f/\H=upd H1 D (.lst ys)) ⟨Nat.zero_le _,by simp,rfl⟩ (fun i ys H _ p=>hR H (by rw[p.2.2];exact sm _)) ?_ ?_
 ·rintro i x ys H hx ⟨hi,rfl,rfl⟩;have hlt:=(List.getElem?_eq_some_iff.mp hx).1;have et:xs.take (i+1)=xs.take i++[x]:=by rw[List.take_add_one,hx];rfl
  refine hs i x _ _ hx (sm _) ⟨⟨_,rfl⟩,aaa,?_,hlt,?_,?_⟩
  ·rw[List.length_map,List.length_take];exact Nat.lt_of_le_of_lt (show min i xs.length<=4000 by omega) (by decide)
  ·rw[et,List.map_append];rfl
  ·rw[ajl]
 ·rintro ys H ⟨_,rfl,rfl⟩;rw[List.take_of_length_le (Nat.le_refl _)];exact hd
end L2
namespace Lw
open PySem L2
def aqf:List Str:=["in","out"]
def aao (z:Str):Option (List Int) :=
 if z = "and" \/ z = "or" \/ z = "odd" then some [2,3] else if z = "most" then some [3] else if z = "not" then some [1] else if z = "one" \/ z = "nil" then some [0] else none
structure Tops (K:PySem.W.Frag) (w:World) (mg:Str->Option Value):Prop where
 lets:∃ t,mg "LETTERS" = some (.str lettersS t)
 long:∃ t,mg "LONGEST_NAME" = some (.int 8 t)
 side:∃ a,mg "SIDE_WORDS" = some (.ref a)/\∀ H,SqT K H a (aqf.map V.str)
 cnt:∃ a kvs,mg "NAME_COUNTS" = some (.ref a)/\KDct K w a kvs/\∀ z:Str,(valV kvs (Sum.inr z)=none/\aao z=none)\/∃ t ns,valV kvs (Sum.inr z)=some (.ref t)/\aao z=some ns/\∀ H,SqT K H t (ns.map V.int)
 all:mg "all" = none
def ae5 (c:Nat):Bool:=!(Builtin.Str.occurrences lettersS ⟨#[c]⟩ 0 lettersS.length 1).isEmpty
def isNm (z:Str):Bool:=z.cps.toList.all ae5&&(decide ((1:Int)<=z.length)&&decide ((z.length:Int)<=8)) && !(aao z).isSome && !decide (z∈aqf)
def aje:Sp:=fun vs H Q _=>∃ z:Str,vs=[.str z]/\z.cps.all (·<128)=true/\z.length<=4000/\∀ H',Same H H'->Q (.bl (isNm z)) H'
def aoz:Sp:=fun vs H Q _=>∃ (z:Str) (n:Int),vs=[.str z,.int n]/\∀ H',Same H H'->Q (.bl (decide (n∈(aao z).getD []))) H'
theorem arb (z:Str):∀ (f:V->V),(∀ c,f (.str ⟨#[c]⟩) = .bl (ae5 c))->(adb z).map f=(z.cps.toList.map ae5).map V.bl:=by
 intro f hf;unfold adb;rw[List.map_map,List.map_map];refine List.map_congr_left fun c _=>hf c
def fLet:V->V
 | .str x=>.bl (!(Builtin.Str.occurrences lettersS x 0 lettersS.length 1).isEmpty)
 | v=>v
section
variable {P:Program}{w:World}{K:PySem.W.Frag}{mg:Str->Option Value}{base:Heap}
theorem aso:FnScope ["text"] ["text"] (aae afb):=⟨rfl,rfl,rfl,by decide +kernel,rfl,by decide +kernel,by decide +kernel⟩
set_option maxHeartbeats 2000000 in
theorem ak4 {f:Addr}{fd:FuncData}(F:Fun K "is_name" "is_name" afb f fd) (T:Txt mg) (O:Tops K w mg):FnOk P w K mg base CX0 1 f fd ["text"] aje:=by
 refine F.ok aso (fun vs H Q E h=>?_) (fun cdv A outer s H vs Q E hr h=>?_)
 ·obtain⟨z,rfl,_⟩:=h;rfl
 ·obtain⟨z,rfl,ha,hl,k⟩:=h;obtain⟨tl,el⟩:=O.lets;obtain⟨t8,e8⟩:=O.long;obtain⟨sa,es,hs⟩:=O.side;obtain⟨ca,kvs,ec,kd,hc⟩:=O.cnt;have rl:RelV (.str lettersS) (.str lettersS tl):=⟨tl,rfl⟩;have r8:RelV (.int 8) (.int 8 t8):=⟨t8,rfl⟩;have rs:RelV (.ref sa) (.ref sa):=rfl;have rc:RelV (.ref ca) (.ref ca):=rfl;refine⟨_,aai (adn (add (ac1 (aam (ajp rfl) (by rfl) O.all PyProof.Rows.boot_all (pa_c (agy ["sign"] [] [] rfl (atu (pv 0)) rfl rfl (fun s₀ H₀ C cl fp=>aa1 (i:=0) (nd1 _) rfl (Or.inl rfl)) (fun s₀ H₀ C cl fp=>acd) (fun s₀ H₀ C cl fp=>acq akd (pv 0) (aef (by rfl) el rl) rfl)) aad)))) (aah (aa6 ahq)) abi) (aah (aa6 (af8 (ar9 op_le op_le aag (aam adh (by rfl) T.len PySem.boot_len (pa_c (pv 0) aad)) (aef (by rfl) e8 r8)) (af8 (acq apn (pv 0) (aef (by rfl) ec rc) rfl) (ah6 (acq af6 (pv 0) (aef (by rfl) es rs) rfl)))))),?_⟩;refine⟨_,rfl,z,rfl,ha,fun D0 nD0=>?_⟩;have s1:Same H (upd H D0 (.lst ((adb z).map fLet))):=Same.new nD0;refine aua ahs fLet nD0 (fun _ _=>True.intro) ?_ ?_ ?_
  ·unfold adb;rw[List.length_map,aba];exact hl
  ·rintro i x H2 kk hx sm q;obtain⟨c,rfl⟩:∃ c,x=V.str ⟨#[c]⟩:=by
    unfold adb at hx;rw[List.getElem?_map] at hx;cases e:z.cps.toList[i]? with
    | none=>rw[e] at hx;cases hx
    | some c=>rw[e] at hx;exact⟨c,(Option.some.inj hx).symm⟩
   exact⟨_,rfl,_,_,rfl,rfl,q⟩
  ·have em:=arb z fLet fun c=>rfl
   refine⟨D0,z.cps.toList.map ae5,rfl,SqL.of (by rw[aaa,em]),_,rfl,?_⟩;have eall:(z.cps.toList.map ae5).all id=z.cps.toList.all ae5:=by rw[List.all_map];rfl
   rw[eall];refine ite2 (fun h=>?_) (fun h=>?_)
   ·have h0:z.cps.toList.all ae5=false:=by simpa using h
    refine (?_:Q _ _);have:=k _ s1;unfold isNm at this;rw[h0] at this
    simpa using this
   ·have h0:z.cps.toList.all ae5=true:=by simpa using h
    have hz:z.length<=sizeLine:=(Nat.le_trans hl (by decide));have fin:∀ b,b=((decide ((1:Int)<=z.length)&&decide ((z.length:Int)<=8)) && !(aao z).isSome && !decide (z∈aqf))->Q (.bl b) (upd H D0 (.lst ((adb z).map fLet))):=by
     intro b eb;have:=k _ s1;unfold isNm at this;rw[h0,Bool.true_and] at this;rw[eb];exact this
    have hcs:(valV kvs (Sum.inr z)).isSome=(aao z).isSome:=by
     rcases hc z with⟨e1,e2⟩ | ⟨t,ns,e1,e2,_⟩<;>rw[e1,e2]<;>rfl
    refine⟨_,rfl,z,rfl,hz,_,_,rfl,rfl,_,rfl,?_⟩;have tail:∀ c:Bool,c=(decide ((1:Int)<=z.length)&&decide ((z.length:Int)<=8))->(if c=true then tAndV (tOp (rInK K w true) (tVar 0) (tC (V.ref ca))) (tOp (rIn K true) (tVar 0) (tC (V.ref sa))) (L2.start ["text"] [V.str z]) (upd H D0 (.lst ((adb z).map fLet))) Q else Q (.bl false) (upd H D0 (.lst ((adb z).map fLet)))):=by
     intro c ec;refine ite2 (fun h1=>?_) (fun h1=>?_)
     ·refine⟨_,rfl,z,ca,kvs,rfl,rfl,kd,_,rfl,?_⟩;rw[hcs];refine ite2 (fun h2=>?_) (fun h2=>?_)
      ·refine⟨_,rfl,sa,_,rfl,.inr (hs _),rfl,ad1 _,?_⟩;refine fin _ ?_;rw[afw,← ec,h1];have h2':(!(aao z).isSome)=true:=h2;rw[h2'];rfl
      ·refine fin _ ?_;have h2':(!(aao z).isSome)=false:=Bool.eq_false_iff.mpr h2;rw[h2'];simp
     ·refine fin _ ?_;rw[← ec];have:c=false:=by simpa using h1
      rw[this];simp
    refine ite2 (fun h1=>?_) (fun h1=>?_)
    ·refine⟨_,_,rfl,rfl,_,rfl,tail _ ?_⟩;rw[h1,Bool.true_and]
    ·refine⟨_,rfl,tail _ ?_⟩;have:decide ((1:Int)<=(z.length:Int))=false:=by simpa using h1
     rw[this];rfl
theorem auf:FnScope ["word","count"] ["word","count"] (aae ahv):=⟨rfl,rfl,rfl,by decide +kernel,rfl,by decide +kernel,by decide +kernel⟩
theorem auv (n:Int) (ns:List Int):inV (.int n) (ns.map V.int)=decide (n∈ns):=by
 unfold inV;induction ns with
 | nil=>rfl
 | cons y r ih =>
  rw[List.map_cons,List.any_cons,ih];have:eqV (V.int y) (V.int n)=decide (y=n):=by
   simp only[eqV];exact Bool.beq_eq_decide_eq y n
  rw[this];by_cases h:n=y
  ·subst h;simp
  ·have h':¬ y=n:=fun e=>h e.symm
   simp[h,h']
theorem apx (ys:List Int):(ys.map V.int).all ad4=true:=by
 rw[List.all_eq_true];intro v hv;obtain⟨y,_,rfl⟩:=List.mem_map.mp hv;rfl
set_option maxHeartbeats 2000000 in
theorem ar6 {f:Addr}{fd:FuncData}(F:Fun K "word_takes" "word_takes" ahv f fd) (T:Txt mg) (O:Tops K w mg):FnOk P w K mg base CX0 1 f fd ["word","count"] aoz:=by
 refine F.ok auf (fun vs H Q E h=>?_) (fun cdv A outer s H vs Q E hr h=>?_)
 ·obtain⟨z,n,rfl,_⟩:=h;rfl
 ·obtain⟨z,n,rfl,k⟩:=h;obtain⟨ca,kvs,ec,kd,hc⟩:=O.cnt;have rc:RelV (.ref ca) (.ref ca):=rfl;refine⟨_,aah (aa6 (acq ad6 (pv 1) (arw (aef (by rfl) ec rc) (pv 0) (adz aad) ⟨rfl,rfl,rfl,rfl⟩) rfl)),?_⟩;refine⟨_,rfl,ca,kvs,rfl,kd,_,rfl,Nat.zero_le _,fun p np=>⟨z,rfl,?_⟩⟩;have s1:Same H (upd H p (.tup [])):=Same.new np;rcases hc z with⟨e1,e2⟩ | ⟨t,ns,e1,e2,hS⟩
  ·rw[e1];refine⟨p,[],rfl,.inr (.inl (.inl aaa)),rfl,rfl,?_⟩;have:=k _ s1;rw[e2] at this
   simpa [inV] using this
  ·rw[e1];refine⟨t,_,rfl,.inr (hS _),rfl,apx ns,?_⟩;have:=k _ s1;rw[e2] at this;rw[auv];exact this
end
def two3:List Str:=["and","or","odd"]
structure ArOk (w:Str) (n:Nat):Prop where
 ok:(w∈two3/\(n=2\/n=3))\/(w = "most" /\ n=3)\/(w = "not" /\ n=1)\/(w = "one" /\ n=0)\/(w = "nil" /\ n=0)
def ait:List Str:=["and","or","odd","most","not","one","nil","and","odd","most"]
def aeo:List Str:=["most","not","one","nil"]
def aku:List Int:=[3,1,0,0]
theorem alr {w:Str}(h:w∈ait) (h2:w∉two3):w = "most" \/ w = "not" \/ w = "one" \/ w = "nil" := by
 unfold ait at h;unfold two3 at h2;simp only[List.mem_cons,List.not_mem_nil,or_false,not_or] at h h2;obtain⟨g1,g2,g3⟩:=h2;rcases h with q | q | q | q | q | q | q | q | q | q
 ·exact absurd q g1
 ·exact absurd q g2
 ·exact absurd q g3
 ·exact .inl q
 ·exact .inr (.inl q)
 ·exact .inr (.inr (.inl q))
 ·exact .inr (.inr (.inr q))
 ·exact absurd q g1
 ·exact absurd q g3
 ·exact .inl q
theorem idx4 {w:Str}(h:w = "most" \/ w = "not" \/ w = "one" \/ w = "nil"):∃ (j:Nat) (n:Nat),j<4/\(∀ z,(aeo.map V.str)[j]?=some z->eqV z (.str w)=true)/\(∀ (m:Nat) z,m<j->(aeo.map V.str)[m]?=some z->eqV z (.str w)=false) /\
  atI (aku.map V.int) (j:Int)=some (.int n)/\ArOk w n:=by
 have go:∀ (j:Nat) (n:Nat),j<4->aeo[j]?=some w->atI (aku.map V.int) (j:Int)=some (.int n)->(∀ m,m<j->∀ y,aeo[m]?=some y->¬ y=w)->ArOk w n->∃ (j:Nat) (n:Nat),j<4/\(∀ z,(aeo.map V.str)[j]?=some z->eqV z (.str w)=true)/\(∀ (m:Nat) z,m<j->(aeo.map V.str)[m]?=some z->eqV z (.str w)=false) /\
   atI (aku.map V.int) (j:Int)=some (.int n)/\ArOk w n:=by
  intro j n hj hw ha hn ho;refine⟨j,n,hj,fun z hz=>?_,fun m z hm hz=>?_,ha,ho⟩
  ·rw[List.getElem?_map,hw] at hz;cases hz;show (w == w)=true;exact beq_self_eq_true w
  ·rw[List.getElem?_map] at hz;cases e:aeo[m]? with
   | none=>rw[e] at hz;cases hz
   | some y =>
    rw[e] at hz;cases hz;show (y == w)=false;exact beq_eq_false_iff_ne.mpr (hn m hm y e)
 have bd:∀ {a b:Nat},a<b->b<=4->a=0\/a=1\/a=2\/a=3:=fun h1 h2=>by omega
 rcases h with rfl | rfl | rfl | rfl
 ·exact go 0 3 (by decide) rfl rfl (fun m hm=>absurd hm (Nat.not_lt_zero _)) ⟨.inr (.inl ⟨rfl,rfl⟩)⟩
 ·refine go 1 1 (by decide) rfl rfl (fun m hm y hy=>?_) ⟨.inr (.inr (.inl ⟨rfl,rfl⟩))⟩;obtain rfl:m=0:=by omega
  cases hy;decide +kernel
 ·refine go 2 0 (by decide) rfl rfl (fun m hm y hy=>?_) ⟨.inr (.inr (.inr (.inl ⟨rfl,rfl⟩)))⟩;rcases (show m=0\/m=1 by omega) with rfl | rfl<;>(cases hy;decide +kernel)
 ·refine go 3 0 (by decide) rfl rfl (fun m hm y hy=>?_) ⟨.inr (.inr (.inr (.inr ⟨rfl,rfl⟩)))⟩;rcases (show m=0\/m=1\/m=2 by omega) with rfl | rfl | rfl<;>(cases hy;decide +kernel)
def at4:Sp:=fun vs H Q _=>∃ (d c kn:Addr) (ks:List Str),vs=[.ref d,.ref kn]/\DeckAt H d c/\H kn=some (.lst (ks.map V.str))/\kn≠d/\kn≠c/\ks.length<=100 /\
 ∀ (t q:Addr) (wd:Str) (ps:List Str) (H':Hp),H t=none->H q=none->H' t=some (.tup [.str wd,.ref q])->H' q=some (.tup (ps.map V.str))->ArOk wd ps.length->(∀ p∈ps,p∈ks)->DeckAt H' d c->Keep d c H H'->Q (.ref t) H'
section
variable {P:Program}{w:World}{K:PySem.W.Frag}{mg:Str->Option Value}{base:Heap}
theorem aga:FnScope ["deck","known","word","many","parts","k","at"] ["deck","known"] (aae anx):=⟨rfl,rfl,rfl,by decide +kernel,rfl,by decide +kernel,by decide +kernel⟩
set_option maxHeartbeats 4000000 in
theorem au8 {f fT:Addr}{fd fdT:FuncData}(F:Fun K "_law_gate" "_law_gate" anx f fd) (T:Txt mg) (gT:Gd K mg "_law_take" afs ["deck","many"] fT fdT):FnOk P w K mg base CX0 2 f fd ["deck","known"] at4:=by
 have GT:FnOk P w K mg base CX0 1 fT fdT ["deck","many"] ahl:=ai9 gT.F T;refine F.ok aga (fun vs H Q E h=>?_) (fun cdv A outer s H vs Q E hr h=>?_)
 ·obtain⟨d,c,kn,ks,rfl,_⟩:=h;rfl
 ·obtain⟨d,c,kn,ks,rfl,D,hkn,knd,knc,hks,k⟩:=h;have hu:=hr.units;refine abu (fun σ H1=>∃ wd,σ=[some (.ref d),some (.ref kn),some (.str wd),none,none,none,none]/\wd∈ait/\DeckAt H1 d c/\Keep d c H H1) (fun u hu'=>?_) ?_
  ·refine⟨_,@aan _ _ 2 _ _ _ _ aga.nd rfl (Or.inl rfl) (@abd _ _ _ _ _ _ _ aas (@aaz _ _ _ _ (@adp _ [("and",_,_),("or",_,_),("odd",_,_),("most",_,_),("not",_,_),("one",_,_),("nil",_,_),("and",_,_),("odd",_,_),("most",_,_)])) (aak GT hr rfl gT.m gT.k gT.b .nil aa7 (pa_c (pv 0) (pa_c aag aad))) (fun _ _=>rfl)) (by rfl) (.inl rfl),?_⟩;refine⟨(by show 10<=sizeLine;decide),fun p np=>⟨_,rfl,d,c,10,rfl,D.new np,by decide,by decide,fun r H1 a0 a1 D1 k1=>?_⟩⟩;have np1:=D.ned np;have h1:=k1 p _ aaa np1.1 np1.2;obtain⟨wd,hat,hw⟩:=amt (xs:=ait) a0 (by exact a1);exact⟨p,_,_,.str wd,rfl,rfl,SqL.of h1,hat,hu' _ _ ⟨wd,rfl,hw,D1,(Keep.new np).trans k1⟩⟩
  rintro σ H1 ⟨wd,rfl,hw,D1,k1⟩;refine abu (fun σ H2=>∃ n:Int,σ=[some (.ref d),some (.ref kn),some (.str wd),some (.int n),none,none,none]/\DeckAt H2 d c/\Keep d c H H2) (fun u hu'=>?_) ?_
  ·refine⟨_,@aan _ _ 3 _ _ _ _ aga.nd rfl (Or.inl rfl) (@abd _ _ _ _ _ _ _ aas (@aaz _ _ _ _ (@ahj _ [(2,_,_),(2,_,_),(2,_,_),(3,_,_),(1,_,_),(0,_,_),(0,_,_),(3,_,_),(3,_,_),(3,_,_)])) (aak GT hr rfl gT.m gT.k gT.b .nil aa7 (pa_c (pv 0) (pa_c aag aad))) (fun _ _=>rfl)) (by rfl) (.inl rfl),?_⟩;refine⟨(by show 10<=sizeLine;decide),fun p np=>⟨_,rfl,d,c,10,rfl,D1.new np,by decide,by decide,fun r H2 a0 a1 D2 k2=>?_⟩⟩;have np1:=D1.ned np;have h2:=k2 p _ aaa np1.1 np1.2;obtain⟨j,rfl⟩:=Int.eq_ofNat_of_zero_le a0;have hj:j<([2,2,2,3,1,0,0,3,3,3]:List Int).length:=by show j<10;omega
   have hat:atI (([2,2,2,3,1,0,0,3,3,3]:List Int).map V.int) ((j:Nat):Int)=some (V.int ([2,2,2,3,1,0,0,3,3,3]:List Int)[j]):=aaq (by rw[List.getElem?_map,List.getElem?_eq_getElem hj];rfl);exact⟨p,_,_,_,rfl,rfl,SqL.of h2,hat,hu' _ _ ⟨_,rfl,D2,k1.trans ((Keep.new np).trans k2)⟩⟩
  rintro σ H2 ⟨n0,rfl,D2,k2⟩;refine abu (fun σ H3=>∃ n:Nat,σ=[some (.ref d),some (.ref kn),some (.str wd),some (.int n),none,none,none]/\ArOk wd n/\n<=3/\DeckAt H3 d c/\Keep d c H H3) (fun u hu'=>?_) ?_
  ·refine⟨_,adn (acg ad6 (pv 2) (@aaz _ _ _ _ (@adp _ [("and",_,_),("or",_,_),("odd",_,_)])) rfl) (aah (@aan _ _ 3 _ _ _ _ aga.nd rfl (Or.inl rfl) (@abd _ _ _ _ _ _ _ aas (@aaz _ _ _ _ (@ahj _ [(2,_,_),(3,_,_)])) (aat adl (pv 3) aag) (fun _ _=>rfl)) (by rfl) (.inl rfl))) (aah (@aan _ _ 3 _ _ _ _ aga.nd rfl (Or.inl rfl) (@abd _ _ _ _ _ _ _ aas (@aaz _ _ _ _ (@ahj _ [(3,_,_),(1,_,_),(0,_,_),(0,_,_)])) (aex PySem.F.plainAttrs_list PySem.F.slot_list_index PySem.F.type_list_index arn (@aaz _ _ _ _ (@adp _ [("most",_,_),("not",_,_),("one",_,_),("nil",_,_)])) (pa_c (pv 2) aad)) (fun _ _=>rfl)) (by rfl) (.inl rfl))),?_⟩;refine⟨_,rfl,(by show 3<=sizeLine;decide),fun p np=>⟨p,two3.map V.str,rfl,.inl (SqL.of aaa),rfl,ad1 _,_,rfl,?_⟩⟩;have D3:=D2.new (o:=.lst (two3.map V.str)) np;have k3:=k2.trans (Keep.new (d:=d) (c:=c) (o:=.lst (two3.map V.str)) np);rw[afw];refine ite2 (fun hk=>?_) (fun hk=>?_)
   ·have hk':wd∈two3:=of_decide_eq_true hk;refine⟨(by show 2<=sizeLine;decide),fun p2 np2=>⟨_,rfl,_,_,rfl,rfl,(by show (0:Int)<2;decide),?_⟩⟩;have b0:=Int.emod_nonneg n0 (show (2:Int)≠0 by decide);have b1:=Int.emod_lt_of_pos n0 (show (0:Int)<2 by decide);have D4:=D3.new (o:=.lst [V.int 2,V.int 3]) np2;have k4:=k3.trans (Keep.new (d:=d) (c:=c) (o:=.lst [V.int 2,V.int 3]) np2);rcases (show n0%2=0\/n0%2=1 by omega) with e | e
    ·exact⟨p2,_,_,.int 2,rfl,rfl,SqL.of aaa,by rw[e];rfl,hu' _ _ ⟨2,rfl,⟨.inl ⟨hk',.inl rfl⟩⟩,by decide,D4,k4⟩⟩
    ·exact⟨p2,_,_,.int 3,rfl,rfl,SqL.of aaa,by rw[e];rfl,hu' _ _ ⟨3,rfl,⟨.inl ⟨hk',.inr rfl⟩⟩,by decide,D4,k4⟩⟩
   ·have hk':wd∉two3:=fun z=>hk (decide_eq_true z)
    obtain⟨j,n,hj,i1,i2,hat,ho⟩:=idx4 (alr hw hk');refine⟨(by show 4<=sizeLine;decide),fun p2 np2=>⟨(by show 4<=sizeLine;decide),fun p3 np3=>⟨.inl ⟨rfl,_,SqL.of aaa⟩,_,rfl,?_⟩⟩⟩;have D4:=(D3.new (o:=.lst (aku.map V.int)) np2).new (o:=.lst (aeo.map V.str)) np3;have k4:=(k3.trans (Keep.new (d:=d) (c:=c) (o:=.lst (aku.map V.int)) np2)).trans (Keep.new (d:=d) (c:=c) (o:=.lst (aeo.map V.str)) np3);refine⟨p3,aeo.map V.str,.str wd,j,rfl,rfl,SqL.of aaa,ad1 _,rfl,hj,i1,i2,?_⟩;have h2:upd (upd (upd H2 p (.lst (two3.map V.str))) p2 (.lst (aku.map V.int))) p3 (.lst (aeo.map V.str)) p2=some (.lst (aku.map V.int)):=by rw[aac (aab aaa np3)];exact aaa
    refine⟨p2,aku.map V.int,_,.int n,rfl,rfl,SqL.of h2,hat,hu' _ _ ⟨n,rfl,ho,?_,D4,k4⟩⟩;rcases ho.ok with⟨_,q | q⟩ | ⟨_,q⟩ | ⟨_,q⟩ | ⟨_,q⟩ | ⟨_,q⟩<;>omega
  rintro σ H3 ⟨n,rfl,ho,hn,D3,k3⟩;have hkn3:=k3 kn _ hkn knd knc;refine abu (fun σ H4=>∃ a:Nat,σ=[some (.ref d),some (.ref kn),some (.str wd),some (.int n),none,none,none]/\0<ks.length/\DeckAt H4 d c/\Keep d c H H4) (fun u hu'=>?_) ?_
  ·refine⟨_,adn (acg (ajb hu) (pv 1) (aaz aad) (acj _)) (aah (aa6 (adz (pa_c (abd aas (aaz (pa_c abe (pa_c abe aad))) (aat adl (pv 3) aag) (fun _ _=>rfl)) (pa_c (adz aad) aad))))) abi,?_⟩;refine⟨_,rfl,(by show 0<=sizeLine;decide),fun p np=>?_⟩;have D4:=D3.new (o:=.lst []) np;have k4:=k3.trans (Keep.new (d:=d) (c:=c) (o:=.lst []) np);have hkn4:upd H3 p (.lst []) kn=some (.lst (ks.map V.str)):=by rw[aac (aab hkn3 np)];exact hkn3
   refine⟨kn,p,_,rfl,rfl,SqL.of hkn4,SqL.of aaa,_,rfl,?_⟩;refine ite2 (fun he=>?_) (fun he=>hu' _ _ ⟨0,rfl,?_,D4,k4⟩)
   ·refine⟨(by show 2<=sizeLine;decide),fun p2 np2=>⟨_,rfl,_,_,rfl,rfl,(by show (0:Int)<2;decide),?_⟩⟩;have b0:=Int.emod_nonneg (n:Int) (show (2:Int)≠0 by decide);have b1:=Int.emod_lt_of_pos (n:Int) (show (0:Int)<2 by decide);have D5:=D4.new (o:=.lst [V.str (Str.ofString "one"),V.str (Str.ofString "nil")]) np2;have k5:=k4.trans (Keep.new (d:=d) (c:=c) (o:=.lst [V.str (Str.ofString "one"),V.str (Str.ofString "nil")]) np2);have fin:∀ w2:Str,ArOk w2 0->∀ q,upd (upd H3 p (.lst [])) p2 (.lst [V.str (Str.ofString "one"),V.str (Str.ofString "nil")]) q=none ->
      ∀ t,upd (upd (upd H3 p (.lst [])) p2 (.lst [V.str (Str.ofString "one"),V.str (Str.ofString "nil")])) q (.tup []) t=none ->
      Q (.ref t) (upd (upd (upd (upd H3 p (.lst [])) p2 (.lst [V.str (Str.ofString "one"),V.str (Str.ofString "nil")])) q (.tup [])) t (.tup [.str w2,.ref q])):=by
     intro w2 ho2 q nq t nt;have D6:=D5.new (o:=.tup []) nq;have k6:=k5.trans (Keep.new (d:=d) (c:=c) (o:=.tup []) nq);have nq1:=D5.ned nq;have nt1:=D6.ned nt;exact k t q w2 [] _ (k6.free nt1.1 nt1.2 nt) (k5.free nq1.1 nq1.2 nq) aaa (by rw[aac (aab aaa nt)];exact aaa) ho2 (fun p hp=>nomatch hp) (D6.new nt) (k6.trans (Keep.new nt))
    rcases (show (n:Int)%2=0\/(n:Int)%2=1 by omega) with e | e
    ·refine⟨p2,_,_,.str "one",rfl,rfl,SqL.of aaa,by rw[e];rfl,(by show 0<=sizeLine;decide),fun q nq=>⟨(by show 2<=sizeLine;decide),fun t nt=>?_⟩⟩;exact fin "one" ⟨.inr (.inr (.inr (.inl ⟨rfl,rfl⟩)))⟩ q nq t nt
    ·refine⟨p2,_,_,.str "nil",rfl,rfl,SqL.of aaa,by rw[e];rfl,(by show 0<=sizeLine;decide),fun q nq=>⟨(by show 2<=sizeLine;decide),fun t nt=>?_⟩⟩;exact fin "nil" ⟨.inr (.inr (.inr (.inr ⟨rfl,rfl⟩)))⟩ q nq t nt
   ·cases ks with
    | nil=>simp at he
    | cons a r=>simp
  rintro σ H4 ⟨_,rfl,hk0,D4,k4⟩;refine⟨_,aai (aan (i:=4) aga.nd rfl (Or.inl rfl) (aaz aad)) (aai (ael PassesOwn.never rfl (ade rfl T.range (pa_c (pv 3) aad)) (aa1 (i:=5) aga.nd rfl (Or.inl rfl)) (aai (aan (i:=6) aga.nd rfl (Or.inl rfl) (abd aas (aaz (pa_c (aak GT hr rfl gT.m gT.k gT.b .nil aa7 (pa_c (pv 0) (pa_c (aam aap (by rfl) T.len PySem.boot_len (pa_c (pv 1) aad)) aad))) (pa_c (aat ao6 (aat ao6 (aam aap (by rfl) T.len PySem.boot_len (pa_c (pv 1) aad)) aag) (aak GT hr rfl gT.m gT.k gT.b .nil aa7 (pa_c (pv 0) (pa_c (aam (akh rfl) (by rfl) T.min PyProof.Rows.boot_min (pa_c aag (pa_c (aam aap (by rfl) T.len PySem.boot_len (pa_c (pv 1) aad)) aad))) aad)))) aad))) (aak GT hr rfl gT.m gT.k gT.b .nil aa7 (pa_c (pv 0) (pa_c aag aad))) (fun _ _=>rfl))) (aah (adu (aex PySem.F.plainAttrs_list PySem.F.slot_list_append PySem.F.type_list_append acw (pv 4) (pa_c (abd aas (pv 1) (pv 6) (fun _ _=>rfl)) aad)))))) (aah (aa6 (adz (pa_c (pv 2) (pa_c (aa5 aau (by rfl) T.tuple PyProof.Rows.boot_tuple (pa_c (pv 4) aad)) aad)))))),?_⟩;refine⟨(by show 0<=sizeLine;decide),fun l nl=>?_⟩;have nl1:=D4.ned nl;have hHl:H l=none:=k4.free nl1.1 nl1.2 nl;have lk:l≠kn:=(aab hkn hHl).symm;refine⟨_,rfl,_,rfl,by omega,by omega,?_⟩;rw[Int.toNat_natCast];refine adx (lo:=0) (n:=n) (fun i σ H5=>∃ (ps:List Str) (v5 v6:Option V),σ=[some (.ref d),some (.ref kn),some (.str wd),some (.int n),some (.ref l),v5,v6]/\ps.length=i/\(∀ p∈ps,p∈ks)/\H5 l=some (.lst (ps.map V.str))/\DeckAt H5 d c/\Keep d c H H5)
   ⟨[],none,none,rfl,rfl,(fun p hp=>nomatch hp),aaa,D4.new nl,k4.trans (Keep.new nl)⟩ ?_ ?_
  ·rintro i σ H5 hi ⟨ps,v5,v6,rfl,hl5,hp5,h5,D5,k5⟩;have hkn5:=k5 kn _ hkn knd knc;have hml:(if ((ks.map V.str).length:Int)<4 then ((ks.map V.str).length:Int) else 4)=(if (ks.length:Int)<4 then (ks.length:Int) else 4):=by rw[List.length_map]
   refine⟨_,rfl,_,rfl,kn,_,rfl,.inl (SqL.of hkn5),d,c,_,rfl,D5,by rw[List.length_map];omega,by rw[List.length_map];omega,fun r1 H6 a0 a1 D6 k6=>?_⟩;have hkn6:=k6 kn _ hkn5 knd knc;refine⟨_,rfl,kn,_,rfl,.inl (SqL.of hkn6),_,_,rfl,rfl,_,rfl,_,rfl,kn,_,rfl,.inl (SqL.of hkn6),_,_,rfl,d,c,_,rfl,D6,?_,?_,fun r2 H7 b0 b1 D7 k7=>?_⟩
   ·rw[hml];split<;>omega
   ·rw[hml];split<;>omega
   have b1':r2<ks.length:=by
    rw[hml] at b1;split at b1<;>omega
   refine⟨_,_,rfl,rfl,(by show 2<=sizeLine;decide),fun p np=>?_⟩;have D8:=D7.new (o:=.lst [V.int r1,V.int (((ks.map V.str).length:Int)-1-r2)]) np;refine⟨_,rfl,d,c,2,rfl,D8,by decide,by decide,fun r3 H9 c0 c1 D9 k9=>?_⟩;have np1:=D7.ned np;have h9:=k9 p _ aaa np1.1 np1.2;have k8:Keep d c H5 H9:=((k6.trans k7).trans (Keep.new np)).trans k9;have hkn9:=k8 kn _ hkn5 knd knc;have nl2:l≠d/\l≠c:=nl1;have hl9:=k8 l _ h5 nl2.1 nl2.2;rw[List.length_map] at a1;have fin:∀ a:Int,0<=a->a<ks.length->∃ x,atI (ks.map V.str) a=some (V.str x)/\x∈ks:=fun a g0 g1=>amt g0 g1
   have go:∀ a:Int,0<=a->a<ks.length->atI [V.int r1,V.int (((ks.map V.str).length:Int)-1-r2)] r3=some (V.int a)->rIxL K (.ref p) (.int r3) H9 fun x H1=>ac8 6 x [some (.ref d),some (.ref kn),some (.str wd),some (.int n),some (.ref l),some (.int (0+i)),v6] H1 fun σ' H' =>
     (tDrop (tBM K "list" aq9 (tVar 4) (ajo (tOp (rIxL K) (tVar 1) (tVar 6)) tNil))) { nx:=fun σ H5=>∃ (ps:List Str) (v5 v6:Option V),σ=[some (.ref d),some (.ref kn),some (.str wd),some (.int n),some (.ref l),v5,v6]/\ps.length=i+1/\(∀ p∈ps,p∈ks)/\H5 l=some (.lst (ps.map V.str))/\DeckAt H5 d c/\Keep d c H H5,rt:=Q } σ' H':=by
    intro a g0 g1 hat;obtain⟨x,hx,hm⟩:=fin a g0 g1;refine⟨p,_,_,.int a,rfl,rfl,SqL.of h9,hat,_,rfl,.inl ⟨rfl,_,SqL.of hl9⟩,_,rfl,_,rfl,kn,_,_,.str x,rfl,rfl,SqL.of hkn9,hx,l,_,.str x,rfl,rfl,hl9,?_,ps++[x],_,_,rfl,by simp[hl5],?_,?_,D9.upd_other nl2.1 nl2.2,?_⟩
    ·rw[List.length_map];exact Nat.lt_of_lt_of_le (show ps.length<1000 by omega) (by decide)
    ·intro y hy;rcases List.mem_append.mp hy with q | q
     ·exact hp5 y q
     ·rw[List.mem_singleton.mp q];exact hm
    ·rw[aaa];simp
    ·exact fun b o e g1 g2=>by rw[aac (aab e hHl)];exact (k5.trans k8) b o e g1 g2
   rcases (show r3=0\/r3=1 by omega) with e | e
   ·exact go r1 a0 a1 (by rw[e];rfl)
   ·exact go (((ks.map V.str).length:Int)-1-r2) (by rw[List.length_map];omega) (by rw[List.length_map];omega) (by rw[e];rfl)
  ·rintro σ H5 ⟨ps,v5,v6,rfl,hl5,hp5,h5,D5,k5⟩;refine⟨_,rfl,_,rfl,l,_,rfl,.inl ⟨SqL.of h5,fun q nq=>⟨(by show 2<=sizeLine;decide),fun t nt=>?_⟩⟩⟩;have nq1:=D5.ned nq;have D6:=D5.new (o:=.tup (ps.map V.str)) nq;have k6:=k5.trans (Keep.new (d:=d) (c:=c) (o:=.tup (ps.map V.str)) nq);have nt1:=D6.ned nt;exact k t q wd ps _ (k6.free nt1.1 nt1.2 nt) (k5.free nq1.1 nq1.2 nq) aaa (by rw[aac (aab aaa nt)];exact aaa) (by rw[hl5];exact ho) hp5 (D6.new nt) (k6.trans (Keep.new nt))
end
structure Cel where
 ins:List Str
 gates:List (Str×Str×List Str)
 outs:List Str
def Cel.names (C:Cel):List Str:=C.ins++C.gates.map (·.1)
def ao4 (H:Hp) (a:Addr) (g:Str×Str×List Str):Prop:=∃ q,H a=some (.tup [.str g.1,.str g.2.1,.ref q])/\H q=some (.tup (g.2.2.map V.str))
abbrev abq (H:Hp):List Addr->List (Str×Str×List Str)->Prop:=Paired (ao4 H)
structure CellAt (H:Hp) (a:Addr) (C:Cel):Prop where
 ex:∃ (i g o:Addr) (as:List Addr),H a=some (.tup [.ref i,.ref g,.ref o])/\H i=some (.tup (C.ins.map V.str))/\H g=some (.tup (as.map V.ref))/\H o=some (.tup (C.outs.map V.str))/\abq H as C.gates
def Tups (H H':Hp):Prop:=∀ b xs,H b=some (.tup xs)->H' b=some (.tup xs)
theorem Tups.trans {H H1 H2:Hp}(a:Tups H H1) (b:Tups H1 H2):Tups H H2:=fun x xs e=>b x xs (a x xs e)
theorem Tups.of_keep {d c:Addr}{H H':Hp}(D:DeckAt H d c) (k:Keep d c H H'):Tups H H':=fun b xs e=>by
 have:=D.ne_some e (fun ys z=>nomatch z);exact k b _ e this.1 this.2
theorem Tups.of_same {H H':Hp}(s:Same H H'):Tups H H':=fun b xs e=>s b _ e
theorem Tups.new {H:Hp}{p:Addr}{o:HO}(h:H p=none):Tups H (upd H p o):=fun b xs e=>by rw[aac (aab e h)];exact e
theorem Tups.lst {H:Hp}{p:Addr}{o:HO}{ys:List V}(h:H p=some (.lst ys)):Tups H (upd H p o):=fun b xs e=>by rw[aac (aqv e h (fun z=>nomatch z))];exact e
theorem abq.mono {H H':Hp}(t:Tups H H'):∀ {as:List Addr}{gs:List (Str×Str×List Str)},abq H as gs->abq H' as gs
 | _,_,.nil=>.nil
 | _,_,.cons ⟨q,h1,h2⟩ r=>.cons ⟨q,t _ _ h1,t _ _ h2⟩ (abq.mono t r)
theorem CellAt.mono {H H':Hp}{a:Addr}{C:Cel}(t:Tups H H') (h:CellAt H a C):CellAt H' a C:=by
 obtain⟨i,g,o,as,h1,h2,h3,h4,h5⟩:=h.ex;exact⟨i,g,o,as,t _ _ h1,t _ _ h2,t _ _ h3,t _ _ h4,h5.mono t⟩
def adq:List Str->List (Str×Str×List Str)->Prop
 | _,[]=>True
 | kn,g::r=>ArOk g.2.1 g.2.2.length/\(∀ p∈g.2.2,p∈kn)/\adq (kn++[g.1]) r
theorem adq.snoc:∀ {gs:List (Str×Str×List Str)}{kn:List Str}{g:Str×Str×List Str},adq kn gs->ArOk g.2.1 g.2.2.length->(∀ p∈g.2.2,p∈kn++gs.map (·.1))->adq kn (gs++[g])
 | [],kn,g,_,h1,h2=>⟨h1,by simpa using h2,True.intro⟩
 | a::r,kn,g,h,h1,h2=>⟨h.1,h.2.1,adq.snoc h.2.2 h1 (by simpa using h2)⟩
structure Good (C:Cel):Prop where
 nd:C.names.Nodup
 nm:∀ x∈C.names,GoodName x
 gt:adq C.ins C.gates
 os:∀ o∈C.outs,o∈C.names
 ond:C.outs.Nodup
 li:C.ins.length<=6
 lg:C.gates.length<=24
 lo:C.outs.length<=6
theorem aea {α β:Type}{F:α->β->Prop}:∀ {l₁:List α}{l₂:List β}{a:α}{b:β},Paired F l₁ l₂->F a b->Paired F (l₁++[a]) (l₂++[b])
 | _,_,_,_,.nil,h=>.cons h .nil
 | _,_,_,_,.cons x r,h=>.cons x (aea r h)
def at7:Sp:=fun vs H Q _=>∃ (d c:Addr) (a b:Nat),vs=[.ref d,.int a,.int b]/\DeckAt H d c/\a<=6/\b<=24/\∀ (ce:Addr) (C:Cel) (H':Hp),H ce=none->CellAt H' ce C->Good C->DeckAt H' d c->Keep d c H H'->Q (.ref ce) H'
theorem akm {α:Type}{c:α}:∀ {a b x y:List α},c∉a->c∉b->a++c::x=b++c::y->a=b/\x=y
 | [],[],x,y,_,_,h=>⟨rfl,(List.cons.inj h).2⟩
 | [],b::bs,x,y,_,hb,h=>by have:=(List.cons.inj h).1;exact absurd (this▸List.mem_cons_self) hb
 | a::as,[],x,y,ha,_,h=>by have:=(List.cons.inj h).1;exact absurd (this▸List.mem_cons_self) ha
 | a::as,b::bs,x,y,ha,hb,h=>by
  obtain⟨h1,h2⟩:=List.cons.inj h;obtain⟨e1,e2⟩:=akm (fun z=>ha (List.mem_cons_of_mem _ z)) (fun z=>hb (List.mem_cons_of_mem _ z)) h2;exact⟨by rw[h1,e1],e2⟩
theorem abl (sep x y:Str) (r:List Str):(Str.join sep (x::y::r)).cps.toList=x.cps.toList++(sep.cps.toList++(Str.join sep (y::r)).cps.toList):=by
 show (x++sep++Str.join sep (y::r)).cps.toList=_;rw[abt,abt,List.append_assoc]
theorem amv (c:Nat):∀ {ys zs:List Str},ys≠[]->zs≠[]->(∀ y∈ys,c∉y.cps.toList)->(∀ z∈zs,c∉z.cps.toList)->Str.join ⟨#[c]⟩ ys=Str.join ⟨#[c]⟩ zs->ys=zs
 | [],_,h,_,_,_,_=>absurd rfl h
 | _,[],_,h,_,_,_=>absurd rfl h
 | [y],[z],_,_,_,_,e=>by rw[show y=z from e]
 | [y],z::z2::r,_,_,hy,_,e=>by
  have e':=congrArg (fun s:Str=>s.cps.toList) e;have:c∈y.cps.toList:=by
   have e2:y.cps.toList=(Str.join ⟨#[c]⟩ (z::z2::r)).cps.toList:=e';rw[e2,abl];simp
  exact absurd this (hy y List.mem_cons_self)
 | y::y2::r,[z],_,_,_,hz,e=>by
  have e':=congrArg (fun s:Str=>s.cps.toList) e;have:c∈z.cps.toList:=by
   have e2:(Str.join ⟨#[c]⟩ (y::y2::r)).cps.toList=z.cps.toList:=e';rw[← e2,abl];simp
  exact absurd this (hz z List.mem_cons_self)
 | y::y2::r,z::z2::q,_,_,hy,hz,e=>by
  have e':=congrArg (fun s:Str=>s.cps.toList) e;have e2:(Str.join ⟨#[c]⟩ (y::y2::r)).cps.toList=(Str.join ⟨#[c]⟩ (z::z2::q)).cps.toList:=e';rw[abl,abl] at e2;obtain⟨e3,e4⟩:=akm (hy y List.mem_cons_self) (hz z List.mem_cons_self) e2;have:=amv c (ys:=y2::r) (zs:=z2::q) (by simp) (by simp) (fun x hx=>hy x (List.mem_cons_of_mem _ hx)) (fun x hx=>hz x (List.mem_cons_of_mem _ hx)) (ahk e4);rw[ahk e3,this]
theorem aht (c:Nat){ys:List Str}(h:ys≠[]) (hf:∀ y∈ys,c∉y.cps.toList):Txt.split (Str.join ⟨#[c]⟩ ys) ⟨#[c]⟩=ys:=by
 refine amv c ?_ h (StrLaws.split_free _ c) hf (StrLaws.join_split _ _);intro e;have:=PyProof.Rows.split_pos (Str.join ⟨#[c]⟩ ys) ⟨#[c]⟩;rw[e] at this;simp at this
def ab5 (C:Cel):List (List Str):=(("in" : Str)::C.ins)::(C.gates.map (fun g=>g.1::g.2.1::g.2.2)++[("out" : Str)::C.outs])
def spS:Str := " "
def nlS:Str := "\n"
def ahy (C:Cel):Str:=Str.join nlS ((ab5 C).map (Str.join spS))
theorem amu:nlS=⟨#[10]⟩:=by decide +kernel
theorem aj1:spS=⟨#[32]⟩:=by decide +kernel
theorem auw {w:Str}{n:Nat}(h:ArOk w n):LS 1 8 w:=by
 rcases h.ok with⟨h,_⟩ | ⟨h,_⟩ | ⟨h,_⟩ | ⟨h,_⟩ | ⟨h,_⟩
 ·unfold two3 at h;simp only[List.mem_cons,List.not_mem_nil,or_false] at h;rcases h with rfl | rfl | rfl<;>exact LS.of (by decide +kernel)
 all_goals (subst h;exact LS.of (by decide +kernel))
theorem agm:∀ {gs:List (Str×Str×List Str)}{kn:List Str},adq kn gs->(∀ x∈kn,LS 1 8 x)->(∀ g∈gs,LS 1 8 g.1)->∀ g∈gs,LS 1 8 g.2.1/\(∀ p∈g.2.2,LS 1 8 p)/\g.2.2.length<=3
 | [],_,_,_,_,g,hg=>nomatch hg
 | a::r,kn,h,hk,hn,g,hg=>by
  rcases List.mem_cons.mp hg with rfl | hg
  ·refine⟨auw h.1,fun p hp=>hk p (h.2.1 p hp),?_⟩;rcases h.1.ok with⟨_,h | h⟩ | ⟨_,h⟩ | ⟨_,h⟩ | ⟨_,h⟩ | ⟨_,h⟩<;>omega
  ·refine agm h.2.2 (fun x hx=>?_) (fun g hg=>hn g (List.mem_cons_of_mem _ hg)) g hg;rcases List.mem_append.mp hx with hx | hx
   ·exact hk x hx
   ·rw[List.mem_singleton.mp hx];exact hn a List.mem_cons_self
theorem alb {C:Cel}(G:Good C):∀ r∈ab5 C,r≠[]/\r.length<=7/\∀ x∈r,LS 1 8 x:=by
 have hi:∀ x∈C.ins,LS 1 8 x:=fun x hx=>(G.nm x (List.mem_append_left _ hx)).ls
 have hg:∀ g∈C.gates,LS 1 8 g.1:=fun g hg=>(G.nm g.1 (List.mem_append_right _ (List.mem_map.mpr ⟨g,hg,rfl⟩))).ls
 intro r hr;unfold ab5 at hr;rcases List.mem_cons.mp hr with rfl | hr
 ·refine⟨by simp,by have:=G.li;simp;omega,fun x hx=>?_⟩;rcases List.mem_cons.mp hx with rfl | hx
  ·exact LS.of (by decide +kernel)
  ·exact hi x hx
 rcases List.mem_append.mp hr with hr | hr
 ·obtain⟨g,hgm,rfl⟩:=List.mem_map.mp hr;obtain⟨h1,h2,h3⟩:=agm G.gt hi hg g hgm;refine⟨by simp,by simp;omega,fun x hx=>?_⟩;rcases List.mem_cons.mp hx with rfl | hx
  ·exact hg g hgm
  rcases List.mem_cons.mp hx with rfl | hx
  ·exact h1
  ·exact h2 x hx
 ·rw[List.mem_singleton.mp hr];refine⟨by simp,by have:=G.lo;simp;omega,fun x hx=>?_⟩;rcases List.mem_cons.mp hx with rfl | hx
  ·exact LS.of (by decide +kernel)
  ·exact (G.nm x (G.os x hx)).ls
theorem LS.free {n m c:Nat}{x:Str}(h:LS n m x) (hc:c<97):c∉x.cps.toList:=fun z=>by have:=(h.az c z).1;omega
theorem ak5 {c:Nat}{sep:Str}(hs:c∉sep.cps.toList):∀ {ys:List Str},(∀ y∈ys,c∉y.cps.toList)->c∉(Str.join sep ys).cps.toList
 | [],_=>fun z=>nomatch z
 | [y],h=>h y List.mem_cons_self
 | y::y2::r,h=>fun z=>by
  rw[abl] at z;rcases List.mem_append.mp z with z | z
  ·exact h y List.mem_cons_self z
  rcases List.mem_append.mp z with z | z
  ·exact hs z
  ·exact ak5 hs (fun x hx=>h x (List.mem_cons_of_mem _ hx)) z
theorem anw {C:Cel}(G:Good C):Txt.split (ahy C) nlS=(ab5 C).map (Str.join spS):=by
 unfold ahy;rw[amu];refine aht 10 (by simp[ab5]) fun y hy=>?_
 obtain⟨r,hr,rfl⟩:=List.mem_map.mp hy;exact ak5 (by decide +kernel) fun x hx=>((alb G r hr).2.2 x hx).free (by decide)
theorem au9 {C:Cel}(G:Good C):∀ r∈ab5 C,(Str.join spS r).length<=100:=fun r hr=>by
 obtain⟨_,h1,h2⟩:=alb G r hr;have e1:=StrLaws.join_length_le spS r;have e2:=ae2 (fun y hy=>(h2 y hy).hi) h1;have e3:spS.length=1:=by decide +kernel
 rw[e3] at e1;omega
theorem apw {C:Cel}(G:Good C):(ab5 C).length<=26:=by
 have:=G.lg;unfold ab5;simp;omega
theorem ama (xs:List Str) (m:Nat):cutV (xs.map V.str) none (some (m:Int))=(xs.take m).map V.str:=by
 unfold cutV;rw[HT.sIx_none,HT.sIx_nat,List.length_map,List.drop_zero,Nat.sub_zero,List.map_take];by_cases h:m<=xs.length
 ·rw[Nat.min_eq_left h]
 ·rw[Nat.min_eq_right (by omega),List.take_of_length_le (by simp),List.take_of_length_le (by simp;omega)]
theorem aeh (xs:List Str) (m:Nat):cutV (xs.map V.str) (some (m:Int)) none=(xs.drop m).map V.str:=by
 unfold cutV;rw[HT.sIx_none,HT.sIx_nat,List.length_map,List.map_drop];by_cases h:m<=xs.length
 ·rw[Nat.min_eq_left h,List.take_of_length_le (by simp)]
 ·rw[Nat.min_eq_right (by omega)];rw[List.drop_of_length_le (by simp),List.drop_of_length_le (by simp;omega)];simp
section
variable {P:Program}{w:World}{K:PySem.W.Frag}{mg:Str->Option Value}{base:Heap}
theorem aep:FnScope ["deck","inputs","gates","many","count","names","known","rows","name","left","outputs","k"] ["deck","inputs","gates"] (aae anj):=⟨rfl,rfl,rfl,by decide +kernel,rfl,by decide +kernel,by decide +kernel⟩
set_option maxHeartbeats 4000000 in
theorem avs {f fT fN fG:Addr}{fd fdT fdN fdG:FuncData}(F:Fun K "_law_cell" "_law_cell" anj f fd) (T:Txt mg) (gT:Gd K mg "_law_take" afs ["deck","many"] fT fdT) (gN:Gd K mg "_law_names" aid ["deck","many"] fN fdN)
  (gG:Gd K mg "_law_gate" anx ["deck","known"] fG fdG) (GT:FnOk P w K mg base CX0 1 fT fdT ["deck","many"] ahl) (GN:FnOk P w K mg base CX0 3 fN fdN ["deck","many"] aq6) (GG:FnOk P w K mg base CX0 2 fG fdG ["deck","known"] at4) :
  FnOk P w K mg base CX0 4 f fd ["deck","inputs","gates"] at7:=by
 refine F.ok aep (fun vs H Q E h=>?_) (fun cdv A outer s H vs Q E hr h=>?_)
 ·obtain⟨d,c,a,b,rfl,_⟩:=h;rfl
 ·obtain⟨d,c,a,b,rfl,D,ha,hb,k⟩:=h;have hr1:Room 1 _:=hr.mono (by decide);have hr2:Room 2 _:=hr.mono (by decide);refine abw _ (aan (i:=3) aep.nd rfl (Or.inl rfl) (aak GT hr1 rfl gT.m gT.k gT.b .nil aa7 (pa_c (pv 0) (pa_c (aat adg (pv 1) aag) aad)))) ?_;refine⟨_,rfl,_,rfl,_,_,rfl,rfl,d,c,_,rfl,D,by omega,by omega,fun r1 H1 a0 a1 D1 k1=>?_⟩;refine abw _ (aan (i:=4) aep.nd rfl (Or.inl rfl) (aak GT hr1 rfl gT.m gT.k gT.b .nil aa7 (pa_c (pv 0) (pa_c (aat adg (pv 2) aag) aad)))) ?_;refine⟨_,rfl,_,rfl,_,_,rfl,rfl,d,c,_,rfl,D1,by omega,by omega,fun r2 H2 b0 b1 D2 k2=>?_⟩;obtain⟨m,rfl⟩:=Int.eq_ofNat_of_zero_le a0;obtain⟨n,rfl⟩:=Int.eq_ofNat_of_zero_le b0;refine abw _ (aan (i:=5) aep.nd rfl (Or.inl rfl) (aak GN hr rfl gN.m gN.k gN.b .nil aa7 (pa_c (pv 0) (pa_c (aat adg (pv 3) (pv 4)) aad)))) ?_;refine⟨_,rfl,_,rfl,_,rfl,_,_,rfl,rfl,d,c,m+n,rfl,D2,by omega,fun l xs H3 nl hl hlen hnd hgn D3 k3=>?_⟩;have nl1:=D2.ned nl;have kk3:Keep d c H H3:=(k1.trans k2).trans k3;have zl:H l=none:=(k1.trans k2).free nl1.1 nl1.2 nl;refine abu (fun σ H5=>∃ (kn rr:Addr),σ=[some (.ref d),some (.int a),some (.int b),some (.int m),some (.int n),some (.ref l),some (.ref kn),none,none,none,none,none] /\ H5 l=some (.lst (xs.map V.str))/\H5 kn=some (.lst ((xs.take m).map V.str))/\H kn=none/\DeckAt H5 d c/\Keep d c H H5) (fun u hu'=>?_) ?_
  ·refine⟨_,aan (i:=6) aep.nd rfl (Or.inl rfl) (abr acz (pv 5) acm (ace (pv 3))),?_⟩;refine⟨_,rfl,_,rfl,_,rfl,l,_,rfl,SqL.of hl,fun kn nk=>?_⟩;have nk1:=D3.ned nk;refine hu' _ _ ⟨kn,kn,rfl,by rw[aac (aab hl nk)];exact hl,?_,kk3.free nk1.1 nk1.2 nk,D3.new nk,kk3.trans (Keep.new nk)⟩;rw[ama];exact aaa
  rintro σ H4 ⟨kn,_,rfl,hl4,hkn4,zkn,D4,k4⟩;refine abu (fun σ H5=>∃ (rr:Addr),σ=[some (.ref d),some (.int a),some (.int b),some (.int m),some (.int n),some (.ref l),some (.ref kn),some (.ref rr),none,none,none,none] /\ H5 l=some (.lst (xs.map V.str))/\H5 kn=some (.lst ((xs.take m).map V.str))/\H5 rr=some (.lst [])/\l≠rr/\kn≠rr/\H rr=none/\DeckAt H5 d c/\Keep d c H H5) (fun u hu'=>?_) ?_
  ·refine⟨_,aan (i:=7) aep.nd rfl (Or.inl rfl) (aaz aad),?_⟩;refine⟨(by show 0<=sizeLine;decide),fun rr nr=>?_⟩;have nr1:=D4.ned nr;exact hu' _ _ ⟨rr,rfl,by rw[aac (aab hl4 nr)];exact hl4,by rw[aac (aab hkn4 nr)];exact hkn4,aaa,aab hl4 nr,aab hkn4 nr,k4.free nr1.1 nr1.2 nr,D4.new nr,k4.trans (Keep.new nr)⟩
  rintro σ H5 ⟨rr,rfl,hl5,hkn5,hrr5,lrr,krr,zrr,D5,k5⟩;refine abu (fun σ H6=>∃ (kn':Addr) (as:List Addr) (gs:List (Str×Str×List Str)) (v8:Option V),σ=[some (.ref d),some (.int a),some (.int b),some (.int m),some (.int n),some (.ref l),some (.ref kn'),some (.ref rr),v8,none,none,none] /\ H6 l=some (.lst (xs.map V.str))/\H6 kn'=some (.lst (xs.map V.str))/\H6 rr=some (.lst (as.map V.ref))/\abq H6 as gs/\gs.map (·.1)=xs.drop m/\adq (xs.take m) gs/\DeckAt H6 d c/\Keep d c H H6) (fun u hu'=>?_) ?_
  ·refine⟨_,ael PassesOwn.never rfl (ad8 (abr acz (pv 5) (ace (pv 3)) acm)) (aa1 (i:=8) aep.nd rfl (Or.inl rfl)) (aai (adu (aex PySem.F.plainAttrs_list PySem.F.slot_list_append PySem.F.type_list_append acw (pv 7) (pa_c (aat al1 (adz (pa_c (pv 8) aad)) (aak GG hr2 rfl gG.m gG.k gG.b .nil aa7 (pa_c (pv 0) (pa_c (pv 6) aad)))) aad))) (aah (aan (i:=6) aep.nd rfl (Or.inl rfl) (aat ae9 (pv 6) (aaz (pa_c (pv 8) aad)))))),?_⟩;refine⟨_,rfl,_,rfl,_,rfl,l,_,rfl,SqL.of hl5,fun ln nln=>?_⟩;rw[aeh];have nln1:=D5.ned nln;have zln:H ln=none:=k5.free nln1.1 nln1.2 nln;have lnrr:ln≠rr:=(aab hrr5 nln).symm;refine⟨ln,rfl,⟨_,SqL.of aaa⟩,?_⟩;refine afo (K:=K) (a:=ln) (xs:=(xs.drop m).map V.str) (fun i σ H6=>∃ (kn':Addr) (as:List Addr) (gs:List (Str×Str×List Str)) (v8:Option V),σ=[some (.ref d),some (.int a),some (.int b),some (.int m),some (.int n),some (.ref l),some (.ref kn'),some (.ref rr),v8,none,none,none] /\ H6 l=some (.lst (xs.map V.str))/\H6 ln=some (.lst ((xs.drop m).map V.str))/\H6 kn'=some (.lst ((xs.take (m+i)).map V.str))/\H kn'=none/\kn'≠rr/\H6 rr=some (.lst (as.map V.ref))/\as.length=i/\abq H6 as gs/\gs.map (·.1)=(xs.drop m).take i/\adq (xs.take m) gs/\DeckAt H6 d c/\Keep d c H H6)
    ⟨kn,[],[],none,rfl,by rw[aac (aab hl5 nln)];exact hl5,aaa,by rw[aac (aab hkn5 nln)];exact hkn5,zkn,krr,by rw[aac (aab hrr5 nln)];exact hrr5,rfl,.nil,by simp,True.intro,D5.new nln,k5.trans (Keep.new nln)⟩
    (fun i σ H6 _ ⟨_,_,_,_,_,_,h,_⟩=>SqL.of h) ?_ ?_
   ·rintro i x σ H6 hx ⟨kn',as,gs,v8,rfl,hl6,hln6,hkn6,zkn',knr,hrr6,hal,hga,hgn',hgo,D6,k6⟩;obtain⟨y,hy,rfl⟩:∃ y,(xs.drop m)[i]?=some y/\V.str y=x:=by
     rw[List.getElem?_map] at hx;cases e:(xs.drop m)[i]? with
     | none=>rw[e] at hx;cases hx
     | some y=>rw[e] at hx;exact⟨y,rfl,Option.some.inj hx⟩
    have hi:i<(xs.drop m).length:=(List.getElem?_eq_some_iff.mp hy).1;rw[List.length_drop] at hi;have nkd:=D.ned zkn';refine⟨_,rfl,.inl ⟨rfl,_,SqL.of hrr6⟩,_,rfl,(by show 1<=sizeLine;decide),fun t1 nt1=>?_⟩;have D7:=D6.new (o:=.tup [V.str y]) nt1;have hkn7:upd H6 t1 (.tup [V.str y]) kn'=some (.lst ((xs.take (m+i)).map V.str)):=by rw[aac (aab hkn6 nt1)];exact hkn6
    refine⟨_,rfl,_,rfl,d,c,kn',xs.take (m+i),rfl,D7,hkn7,nkd.1,nkd.2,by rw[List.length_take];omega,fun t q wd ps H8 nt nq ht hq hok hps D8 k8=>?_⟩;have k68:Keep d c H6 H8:=(Keep.new nt1).trans k8;have t1d:=D6.ned nt1;have ht1:=k8 t1 _ aaa t1d.1 t1d.2;refine⟨t1,t,_,_,rfl,rfl,SqT.of ht1,SqT.of ht,by simp,(by show 1+2<=sizeLine;decide),(fun z=>by cases z),fun _ t3 nt3=>?_⟩;have rrd:=D.ned zrr;have hrr8:=k68 rr _ hrr6 rrd.1 rrd.2;have hrr9:∀ o,upd H8 t3 o rr=some (.lst (as.map V.ref)):=fun o=>by rw[aac (aab hrr8 nt3)];exact hrr8
    refine⟨rr,_,.ref t3,rfl,rfl,hrr9 _,?_,?_⟩
    ·rw[List.length_map];exact Nat.lt_of_lt_of_le (show as.length<1000 by omega) (by decide)
    have rt3:rr≠t3:=aab hrr8 nt3;have D10:DeckAt (upd (upd H8 t3 (.tup ([V.str y]++[V.str wd,V.ref q]))) rr (.lst (as.map V.ref++[V.ref t3]))) d c:=(D8.new nt3).upd_other rrd.1 rrd.2;have k10:Keep d c H (upd (upd H8 t3 (.tup ([V.str y]++[V.str wd,V.ref q]))) rr (.lst (as.map V.ref++[V.ref t3]))):=fun b o e g1 g2=>by
     rw[aac (aab e zrr)];exact (k6.trans (k68.trans (Keep.new nt3))) b o e g1 g2
    have old10:∀ b ys,b≠rr->b≠d->b≠c->H6 b=some (.lst ys)->upd (upd H8 t3 (.tup ([V.str y]++[V.str wd,V.ref q]))) rr (.lst (as.map V.ref++[V.ref t3])) b=some (.lst ys):=fun b ys e1 e2 e3 e=>by
     have e8:=k68 b _ e e2 e3;rw[aac e1,aac (aab e8 nt3)];exact e8
    have tp:Tups H6 (upd (upd H8 t3 (.tup ([V.str y]++[V.str wd,V.ref q]))) rr (.lst (as.map V.ref++[V.ref t3]))):=(Tups.of_keep D6 k68).trans ((Tups.new nt3).trans (Tups.lst (hrr9 _)));have hg3:ao4 (upd (upd H8 t3 (.tup ([V.str y]++[V.str wd,V.ref q]))) rr (.lst (as.map V.ref++[V.ref t3]))) t3 (y,wd,ps):=by
     refine⟨q,?_,?_⟩
     ·rw[aac rt3.symm];exact aaa
     ·have qr:q≠rr:=aqv hq hrr8 (fun z=>nomatch z);rw[aac qr,aac (aab hq nt3)];exact hq
    have ld:=D.ned zl;have lnd:=D.ned zln;have hl10:=old10 l _ lrr ld.1 ld.2 hl6;have hln10:=old10 ln _ lnrr lnd.1 lnd.2 hln6;have hkn10:=old10 kn' _ knr nkd.1 nkd.2 hkn6;have hrr10:upd (upd H8 t3 (.tup ([V.str y]++[V.str wd,V.ref q]))) rr (.lst (as.map V.ref++[V.ref t3])) rr=some (.lst ((as++[t3]).map V.ref)):=by rw[aaa];simp
    generalize upd (upd H8 t3 (.tup ([V.str y]++[V.str wd,V.ref q]))) rr (.lst (as.map V.ref++[V.ref t3]))=H10 at D10 k10 tp hg3 hl10 hln10 hkn10 hrr10 ⊢;refine⟨_,rfl,_,rfl,(by show 1<=sizeLine;decide),fun p1 n1=>?_⟩;have D11:=D10.new (o:=.lst [V.str y]) n1;have k11:=k10.trans (Keep.new (d:=d) (c:=c) (o:=.lst [V.str y]) n1);refine⟨kn',p1,_,_,rfl,rfl,by rw[aac (aab hkn10 n1)];exact hkn10,aaa,?_,fun p2 n2=>?_⟩
    ·rw[List.length_map,List.length_take];exact abj (by show min (m+i) xs.length+1<=1000;omega)
    have new2:∀ b o,H10 b=some o->upd (upd H10 p1 (.lst [V.str y])) p2 (.lst ((xs.take (m+i)).map V.str++[V.str y])) b=some o:=fun b o e=>by
     have e1:upd H10 p1 (.lst [V.str y]) b=some o:=by rw[aac (aab e n1)];exact e
     rw[aac (aab e1 n2)];exact e1
    have n2d:=D11.ned n2;refine⟨p2,as++[t3],gs++[(y,wd,ps)],_,rfl,new2 _ _ hl10,new2 _ _ hln10,?_,k11.free n2d.1 n2d.2 n2,?_,new2 _ _ hrr10,by simp[hal],?_,?_,?_,D11.new n2,k11.trans (Keep.new n2)⟩
    ·rw[aaa,← Nat.add_assoc,List.take_add_one,List.map_append];rw[List.getElem?_drop] at hy;rw[hy];rfl
    ·intro e;have:=new2 rr _ hrr10;rw[← e] at hrr10;have q1:upd H10 p1 (.lst [V.str y]) p2=some (.lst ((as++[t3]).map V.ref)):=by rw[aac (aab hrr10 n1)];exact hrr10
     rw[q1] at n2;cases n2
    ·exact abq.mono (fun b ys e=>new2 b _ e) (aea (abq.mono tp hga) hg3)
    ·rw[List.map_append,hgn',List.take_add_one,hy];rfl
    ·refine adq.snoc hgo hok (fun p hp=>?_);have:=hps p hp;rw[hgn'];rw[List.take_add] at this;exact this
   ·rintro σ H6 ⟨kn',as,gs,v8,rfl,hl6,hln6,hkn6,zkn',knr,hrr6,hal,hga,hgn',hgo,D6,k6⟩;rw[List.length_map] at hkn6 hgn';rw[List.take_of_length_le (Nat.le_refl _)] at hgn';rw[List.take_of_length_le (by rw[List.length_drop];omega)] at hkn6;exact hu' _ _ ⟨kn',as,gs,v8,rfl,hl6,hkn6,hrr6,hga,hgn',hgo,D6,k6⟩
  rintro σ H6 ⟨kn',as,gs,v8,rfl,hl6,hkn6,hrr6,hga,hgn',hgo,D6,k6⟩;refine abu (fun σ H7=>∃ (lf ou:Addr),σ=[some (.ref d),some (.int a),some (.int b),some (.int m),some (.int n),some (.ref l),some (.ref kn'),some (.ref rr),v8,some (.ref lf),none,none] /\ H7 l=some (.lst (xs.map V.str))/\H7 rr=some (.lst (as.map V.ref))/\H7 lf=some (.lst (xs.map V.str))/\l≠lf/\rr≠lf/\H lf=none/\abq H7 as gs/\DeckAt H7 d c/\Keep d c H H7) (fun u hu'=>?_) ?_
  ·refine⟨_,aan (i:=9) aep.nd rfl (Or.inl rfl) (aa5 aev (by rfl) T.list PyProof.Rows.boot_list (pa_c (pv 6) aad)),?_⟩;refine⟨_,rfl,kn',_,rfl,.inl (SqL.of hkn6),fun lf nf=>?_⟩;have nf1:=D6.ned nf;exact hu' _ _ ⟨lf,lf,rfl,by rw[aac (aab hl6 nf)];exact hl6,by rw[aac (aab hrr6 nf)];exact hrr6,aaa,aab hl6 nf,aab hrr6 nf,k6.free nf1.1 nf1.2 nf,hga.mono (Tups.new nf),D6.new nf,k6.trans (Keep.new nf)⟩
  rintro σ H7 ⟨lf,_,rfl,hl7,hrr7,hlf7,llf,rlf,zlf,hga7,D7,k7⟩;refine abu (fun σ H8=>∃ (ou:Addr),σ=[some (.ref d),some (.int a),some (.int b),some (.int m),some (.int n),some (.ref l),some (.ref kn'),some (.ref rr),v8,some (.ref lf),some (.ref ou),none] /\ H8 l=some (.lst (xs.map V.str))/\H8 rr=some (.lst (as.map V.ref))/\H8 lf=some (.lst (xs.map V.str))/\H8 ou=some (.lst [])/\l≠ou/\rr≠ou/\lf≠ou/\H ou=none/\abq H8 as gs/\DeckAt H8 d c/\Keep d c H H8) (fun u hu'=>?_) ?_
  ·refine⟨_,aan (i:=10) aep.nd rfl (Or.inl rfl) (aaz aad),?_⟩;refine⟨(by show 0<=sizeLine;decide),fun ou no=>?_⟩;have no1:=D7.ned no;exact hu' _ _ ⟨ou,rfl,by rw[aac (aab hl7 no)];exact hl7,by rw[aac (aab hrr7 no)];exact hrr7,by rw[aac (aab hlf7 no)];exact hlf7,aaa,aab hl7 no,aab hrr7 no,aab hlf7 no,k7.free no1.1 no1.2 no,hga7.mono (Tups.new no),D7.new no,k7.trans (Keep.new no)⟩
  rintro σ H8 ⟨ou,rfl,hl8,hrr8,hlf8,hou8,lou,rou,lfou,zou,hga8,D8,k8⟩;refine abu (fun σ H9=>∃ (os lt:List Str) (v11:Option V),σ=[some (.ref d),some (.int a),some (.int b),some (.int m),some (.int n),some (.ref l),some (.ref kn'),some (.ref rr),v8,some (.ref lf),some (.ref ou),v11] /\ H9 l=some (.lst (xs.map V.str))/\H9 rr=some (.lst (as.map V.ref))/\H9 ou=some (.lst (os.map V.str))/\os.length<=6/\(os++lt).Perm xs/\abq H9 as gs/\DeckAt H9 d c/\Keep d c H H9) (fun u hu'=>?_) ?_
  ·refine⟨_,ael PassesOwn.never rfl (ade rfl T.range (pa_c (aam (akh rfl) (by rfl) T.min PyProof.Rows.boot_min (pa_c (aak GT hr1 rfl gT.m gT.k gT.b .nil aa7 (pa_c (pv 0) (pa_c aag aad))) (pa_c (aam aap (by rfl) T.len PySem.boot_len (pa_c (pv 9) aad)) aad))) aad)) (aa1 (i:=11) aep.nd rfl (Or.inl rfl)) (aah (adu (aex PySem.F.plainAttrs_list PySem.F.slot_list_append PySem.F.type_list_append acw (pv 10) (pa_c (aex PySem.F.plainAttrs_list PySem.F.slot_list_pop PySem.F.type_list_pop ajv (pv 9) (pa_c (aak GT hr1 rfl gT.m gT.k gT.b .nil aa7 (pa_c (pv 0) (pa_c (aam aap (by rfl) T.len PySem.boot_len (pa_c (pv 9) aad)) aad))) aad)) aad)))),?_⟩;refine⟨_,rfl,d,c,7,rfl,D8,by decide,by decide,fun r H9 c0 c1 D9 k9=>?_⟩;have ld:=D.ned zl;have rrd:=D.ned zrr;have lfd:=D.ned zlf;have oud:=D.ned zou;have hlf9:=k9 lf _ hlf8 lfd.1 lfd.2;refine⟨_,rfl,lf,_,rfl,.inl (SqL.of hlf9),_,_,rfl,_,rfl,?_,?_,?_⟩
   ·split<;>omega
   ·split
    ·rw[List.length_map];omega
    ·omega
   rw[List.length_map];have hN:(if (xs.length:Int)<r then (xs.length:Int) else r).toNat<=6/\(if (xs.length:Int)<r then (xs.length:Int) else r).toNat<=xs.length:=by split<;>omega
   generalize (if (xs.length:Int)<r then (xs.length:Int) else r).toNat=N at hN;refine adx (lo:=0) (n:=N) (fun i σ H10=>∃ (os lt:List Str) (v11:Option V),σ=[some (.ref d),some (.int a),some (.int b),some (.int m),some (.int n),some (.ref l),some (.ref kn'),some (.ref rr),v8,some (.ref lf),some (.ref ou),v11] /\ H10 l=some (.lst (xs.map V.str))/\H10 rr=some (.lst (as.map V.ref))/\H10 lf=some (.lst (lt.map V.str))/\H10 ou=some (.lst (os.map V.str))/\os.length=i/\lt.length+i=xs.length/\(os++lt).Perm xs/\abq H10 as gs/\DeckAt H10 d c/\Keep d c H H10)
    ⟨[],xs,none,rfl,k9 l _ hl8 ld.1 ld.2,k9 rr _ hrr8 rrd.1 rrd.2,hlf9,k9 ou _ hou8 oud.1 oud.2,rfl,rfl,List.Perm.refl _,hga8.mono (Tups.of_keep D8 k9),D9,k8.trans k9⟩ ?_ ?_
   ·rintro i σ H10 hi ⟨os,lt,v11,rfl,hl10,hrr10,hlf10,hou10,ho1,ho2,ho3,hga10,D10,k10⟩;refine⟨_,rfl,.inl ⟨rfl,_,SqL.of hou10⟩,_,rfl,.inl ⟨rfl,_,SqL.of hlf10⟩,_,rfl,_,rfl,lf,_,rfl,.inl (SqL.of hlf10),d,c,_,rfl,D10,by rw[List.length_map];omega,by rw[List.length_map];omega,fun r2 H11 e0 e1 D11 k11=>?_⟩;rw[List.length_map] at e1;obtain⟨j,rfl⟩:=Int.eq_ofNat_of_zero_le e0;have hj:j<lt.length:=by omega
    have hlf11:=k11 lf _ hlf10 lfd.1 lfd.2;have hou11:=k11 ou _ hou10 oud.1 oud.2;have hy:lt[j]?=some lt[j]:=List.getElem?_eq_getElem hj;have pm2:((os++[lt[j]])++lt.eraseIdx j).Perm (os++lt):=by
     rw[List.append_assoc];exact List.Perm.append_left os (ai5 hy)
    have hel:(lt.eraseIdx j).length+1=lt.length:=by
     rw[List.length_eraseIdx,if_pos hj];omega
    refine⟨lf,_,_,j,.str lt[j],rfl,rfl,hlf11,by omega,by omega,?_,by simp[hj],ou,_,.str lt[j],rfl,rfl,by rw[aac lfou.symm];exact hou11,?_,os++[lt[j]],lt.eraseIdx j,_,rfl,?_,?_,?_,by rw[aaa];simp,by simp[ho1],by omega,pm2.trans ho3,?_,?_,?_⟩
    ·rw[List.length_map];exact PySem.StrLaws.seqIndex_nonneg (by omega) (by omega)
    ·rw[List.length_map];exact Nat.lt_of_lt_of_le (show os.length<1000 by omega) (by decide)
    ·rw[aac lou,aac llf];exact k11 l _ hl10 ld.1 ld.2
    ·rw[aac rou,aac rlf];exact k11 rr _ hrr10 rrd.1 rrd.2
    ·rw[aac lfou,aaa,ahm]
    ·refine hga10.mono ((Tups.of_keep D10 k11).trans ((Tups.lst hlf11).trans (Tups.lst (ys:=os.map V.str) ?_)));rw[aac lfou.symm];exact hou11
    ·exact (D11.upd_other lfd.1 lfd.2).upd_other oud.1 oud.2
    ·exact fun b o e g1 g2=>by rw[aac (aab e zou),aac (aab e zlf)];exact k11 b o (k10 b o e g1 g2) g1 g2
   ·rintro σ H10 ⟨os,lt,v11,rfl,hl10,hrr10,hlf10,hou10,ho1,ho2,ho3,hga10,D10,k10⟩;exact hu' _ _ ⟨os,lt,v11,rfl,hl10,hrr10,hou10,by omega,ho3,hga10,D10,k10⟩
  rintro σ H9 ⟨os,lt,v11,rfl,hl9,hrr9,hou9,ho6,hperm,hga9,D9,k9⟩;refine⟨_,aah (aa6 (adz (pa_c (aa5 aau (by rfl) T.tuple PyProof.Rows.boot_tuple (pa_c (abr acz (pv 5) acm (ace (pv 3))) aad)) (pa_c (aa5 aau (by rfl) T.tuple PyProof.Rows.boot_tuple (pa_c (pv 7) aad)) (pa_c (aa5 aau (by rfl) T.tuple PyProof.Rows.boot_tuple (pa_c (pv 10) aad)) aad))))),?_⟩;refine⟨_,rfl,_,rfl,_,rfl,l,_,rfl,SqL.of hl9,fun p1 n1=>⟨p1,_,rfl,.inl ⟨SqL.of aaa,fun p2 n2=>?_⟩⟩⟩;rw[ama] at n2 ⊢;have hrrA:upd (upd H9 p1 (.lst ((xs.take m).map V.str))) p2 (.tup ((xs.take m).map V.str)) rr=some (.lst (as.map V.ref)):=by
   have e1:upd H9 p1 (.lst ((xs.take m).map V.str)) rr=some (.lst (as.map V.ref)):=by rw[aac (aab hrr9 n1)];exact hrr9
   rw[aac (aab e1 n2)];exact e1
  have houA:upd (upd H9 p1 (.lst ((xs.take m).map V.str))) p2 (.tup ((xs.take m).map V.str)) ou=some (.lst (os.map V.str)):=by
   have e1:upd H9 p1 (.lst ((xs.take m).map V.str)) ou=some (.lst (os.map V.str)):=by rw[aac (aab hou9 n1)];exact hou9
   rw[aac (aab e1 n2)];exact e1
  have DA:=(D9.new (o:=.lst ((xs.take m).map V.str)) n1).new (o:=.tup ((xs.take m).map V.str)) n2;have kA:=(k9.trans (Keep.new (d:=d) (c:=c) (o:=.lst ((xs.take m).map V.str)) n1)).trans (Keep.new (d:=d) (c:=c) (o:=.tup ((xs.take m).map V.str)) n2);have gA:abq (upd (upd H9 p1 (.lst ((xs.take m).map V.str))) p2 (.tup ((xs.take m).map V.str))) as gs:=hga9.mono ((Tups.new n1).trans (Tups.new n2));have iA:upd (upd H9 p1 (.lst ((xs.take m).map V.str))) p2 (.tup ((xs.take m).map V.str)) p2=some (.tup ((xs.take m).map V.str)):=aaa;generalize upd (upd H9 p1 (.lst ((xs.take m).map V.str))) p2 (.tup ((xs.take m).map V.str))=HA at hrrA houA DA kA gA iA ⊢;refine⟨_,rfl,rr,_,rfl,.inl ⟨SqL.of hrrA,fun p3 n3=>?_⟩⟩;have houB:upd HA p3 (.tup (as.map V.ref)) ou=some (.lst (os.map V.str)):=by rw[aac (aab houA n3)];exact houA
  refine⟨_,rfl,ou,_,rfl,.inl ⟨SqL.of houB,fun p4 n4=>⟨(by show 3<=sizeLine;decide),fun ce nc=>?_⟩⟩⟩;have DB:=(DA.new (o:=.tup (as.map V.ref)) n3).new (o:=.tup (os.map V.str)) n4;have kB:=(kA.trans (Keep.new (d:=d) (c:=c) (o:=.tup (as.map V.ref)) n3)).trans (Keep.new (d:=d) (c:=c) (o:=.tup (os.map V.str)) n4);have tB:Tups HA (upd (upd (upd HA p3 (.tup (as.map V.ref))) p4 (.tup (os.map V.str))) ce (.tup [V.ref p2,V.ref p3,V.ref p4])):=(Tups.new n3).trans ((Tups.new n4).trans (Tups.new nc));have ncd:=DB.ned nc;refine k ce ⟨xs.take m,gs,os⟩ _ (kB.free ncd.1 ncd.2 nc) ⟨p2,p3,p4,as,aaa,tB _ _ iA,((Tups.new n4).trans (Tups.new nc)) _ _ aaa,(Tups.new nc) _ _ aaa,gA.mono tB⟩ ?_ (DB.new nc) (kB.trans (Keep.new nc));have enames:(⟨xs.take m,gs,os⟩:Cel).names=xs:=by
   show xs.take m++gs.map (·.1)=xs;rw[hgn'];exact List.take_append_drop m xs
  have hgl:gs.length=xs.length-m:=by
   have:=congrArg List.length hgn';rw[List.length_map,List.length_drop] at this;exact this
  refine⟨by rw[enames];exact hnd,by rw[enames];exact hgn,hgo,fun o ho=>by rw[enames];exact hperm.mem_iff.mp (List.mem_append_left _ ho),?_,by show (xs.take m).length<=6;rw[List.length_take];omega,by show gs.length<=24;omega,ho6⟩;exact List.Nodup.sublist (List.sublist_append_left os lt) (hperm.symm.nodup hnd)
end
theorem lcGrow {J:It}{xs:List V}{R:Hp->Prop}{nm:Str}{caps:List Nat}{te:TE}{σ:St}{H1:Hp}{Q:VK}{D:Addr}(Y:Yields J xs R) (f:V->V) (nD:H1 D=none) (hR:∀ H,Same H1 H->R H) (hl:xs.length<=4000)
  (hs:∀ (i:Nat) x H (k:VK),xs[i]?=some x->Same H1 H->(∀ H',Same H H'->k (f x) H')->te (some x::caps.map (fun i=>(σ[i]?).join)) H k)
  (hd:∀ H,Same H1 H->H D=some (.lst (xs.map f))->Q (.ref D) H):LCW [nm] caps J (ac8 0) tYes te σ H1 Q D:=by
 refine lc1y Y (fun i ys H=>i<=xs.length/\ys=(xs.take i).map f/\Same H1 H/\H D=some (.lst ys)) ⟨Nat.zero_le _,by simp,Same.new nD,aaa⟩ (fun i ys H _ p=>hR H p.2.2.1) ?_ ?_
 ·rintro i x ys H hx ⟨hi,rfl,sm,hD⟩;have hlt:=(List.getElem?_eq_some_iff.mp hx).1;have et:xs.take (i+1)=xs.take i++[x]:=by rw[List.take_add_one,hx];rfl
  refine hs i x _ _ hx sm fun H' sm'=>⟨⟨_,rfl⟩,sm' _ _ hD,?_,hlt,?_,?_,aaa⟩
  ·rw[List.length_map,List.length_take];exact Nat.lt_of_le_of_lt (show min i xs.length<=4000 by omega) (by decide)
  ·rw[et,List.map_append];rfl
  ·intro b u e;rw[aac (aab e nD)];exact sm' _ _ (sm b u e)
 ·rintro ys H ⟨_,rfl,sm,hD⟩;rw[List.take_of_length_le (Nat.le_refl _)] at hD;exact hd H sm hD
theorem at0 (x:V) (xs:List V):atI (x::xs) 0=some x:=aaq (xs:=x::xs) (j:=0) rfl
theorem at1 (x y:V) (xs:List V):atI (x::y::xs) 1=some y:=aaq (xs:=x::y::xs) (j:=1) rfl
def fNm:V->V
 | .str x=>.bl (isNm x)
 | v=>v
def fKn (kn:List Str):V->V
 | .str x=>.bl (decide (x∈kn))
 | v=>v
def aft (ns kn:List Str):Bool:=ns.all fun x=>decide (x∈kn)
def alp (K:PySem.W.Frag):Sp:=fun vs H Q _=>∃ (a b:Addr) (ns kn:List Str),vs=[.ref a,.ref b]/\SqL K H a (ns.map V.str)/\SqL K H b (kn.map V.str)/\ns.length<=4000/\∀ H',Same H H'->Q (.bl (aft ns kn)) H'
def Asc (x:Str):Prop:=x.cps.all (·<128)=true/\x.length<=4000
def ae7:List Str->Bool
 | []=>false
 | x::ns=>decide (x = "in")&&ns.all isNm&&decide ns.Nodup
def ao5 (K:PySem.W.Frag):Sp:=fun vs H Q _=>∃ (a:Addr) (ws:List Str),vs=[.ref a]/\SqL K H a (ws.map V.str)/\ws≠[]/\ws.length<=4000/\(∀ x∈ws,Asc x)/\∀ H',Same H H'->Q (.bl (ae7 ws)) H'
def ae8 (ws kn:List Str):Bool :=
 match ws with
 | x::y::ns=>isNm x && !decide (x∈kn)&&decide ((ns.length:Int)∈(aao y).getD [])&&aft ns kn
 | _=>false
def amg (K:PySem.W.Frag):Sp:=fun vs H Q _=>∃ (a b:Addr) (ws kn:List Str),vs=[.ref a,.ref b]/\SqL K H a (ws.map V.str)/\SqL K H b (kn.map V.str)/\ws≠[]/\ws.length<=4000/\(∀ x∈ws,Asc x)/\∀ H',Same H H'->Q (.bl (ae8 ws kn)) H'
def apd (K:PySem.W.Frag):Sp:=fun vs H Q _=>∃ (a:Addr) (ns:List Str),vs=[.ref a]/\SqL K H a (ns.map V.str)/\ns.length<=4000/\∀ H',Same H H'->Q (.bl (decide ns.Nodup)) H'
theorem ad7 {xs:List Str}{i:Nat}{x:V}(h:(xs.map V.str)[i]?=some x):∃ y,xs[i]?=some y/\V.str y=x:=by
 rw[List.getElem?_map] at h;cases e:xs[i]? with
 | none=>rw[e] at h;cases h
 | some y=>rw[e] at h;exact⟨y,rfl,Option.some.inj h⟩
section
variable {P:Program}{w:World}{K:PySem.W.Frag}{mg:Str->Option Value}{base:Heap}
theorem av5:FnScope ["names","known"] ["names","known"] (aae ag6):=⟨rfl,rfl,rfl,by decide +kernel,rfl,by decide +kernel,by decide +kernel⟩
theorem ndNK:(["name","known"]:List Str).Nodup:=by decide +kernel
set_option maxHeartbeats 2000000 in
theorem al9 {f:Addr}{fd:FuncData}(F:Fun K "are_known" "are_known" ag6 f fd) (O:Tops K w mg):FnOk P w K mg base CX0 1 f fd ["names","known"] (alp K):=by
 refine F.ok av5 (fun vs H Q E h=>?_) (fun cdv A outer s H vs Q E hr h=>?_)
 ·obtain⟨a,b,ns,kn,rfl,_⟩:=h;rfl
 ·obtain⟨a,b,ns,kn,rfl,ha,hb,hl,k⟩:=h;refine⟨_,aah (aa6 (aam (ajp rfl) (by rfl) O.all PyProof.Rows.boot_all (pa_c (agy ["name"] ["known"] [1] rfl (ad8 (pv 0)) rfl rfl (fun s₀ H₀ C cl fp=>aa1 (i:=0) ndNK rfl (Or.inl rfl)) (fun s₀ H₀ C cl fp=>acd) (fun s₀ H₀ C cl fp=>acq (r:=rIn K false) ad6 (pv 0) (pv 1) rfl)) aad))),?_⟩;refine⟨_,rfl,a,rfl,⟨_,ha⟩,fun D0 nD0=>?_⟩;have s1:Same H (upd H D0 (.lst ((ns.map V.str).map (fKn kn)))):=Same.new nD0;refine aua aee (fKn kn) nD0 (fun H' sm=>sm.seq ha) (by rw[List.length_map];exact hl) ?_ ?_
  ·rintro i x H2 kk hx sm q;obtain⟨y,hy,rfl⟩:=ad7 hx;refine⟨_,rfl,_,rfl,b,_,rfl,.inl (sm.seq hb),rfl,ad1 kn,?_⟩;rw[afw];exact q
  ·have em:(ns.map V.str).map (fKn kn)=(ns.map fun x=>decide (x∈kn)).map V.bl:=by rw[List.map_map,List.map_map];rfl
   refine⟨D0,ns.map (fun x=>decide (x∈kn)),rfl,SqL.of (by rw[aaa,em]),?_⟩;rw[List.all_map];exact k _ s1
theorem scOnce:FnScope ["names"] ["names"] (aae ala):=⟨rfl,rfl,rfl,by decide +kernel,rfl,by decide +kernel,by decide +kernel⟩
set_option maxHeartbeats 2000000 in
theorem ap3 {f:Addr}{fd:FuncData}(F:Fun K "is_each_once" "is_each_once" ala f fd) (T:Txt mg):FnOk P w K mg base CX0 1 f fd ["names"] (apd K):=by
 refine F.ok scOnce (fun vs H Q E h=>?_) (fun cdv A outer s H vs Q E hr h=>?_)
 ·obtain⟨a,ns,rfl,_⟩:=h;rfl
 ·obtain⟨a,ns,rfl,ha,hl,k⟩:=h;refine⟨_,aah (aa6 (acq aho (aam afe (by rfl) T.len PySem.boot_len (pa_c (aa5 (aff rfl) (by rfl) T.set PyProof.Rows.boot_set (pa_c (pv 0) aad)) aad)) (aam aap (by rfl) T.len PySem.boot_len (pa_c (pv 0) aad)) (acj _))),?_⟩;refine⟨_,rfl,a,ns,rfl,ha,by omega,fun p np=>?_⟩;have s1:Same H (upd H p (SetN P w p (ddS ns).length)):=Same.new np;refine⟨p,_,rfl,aaa,_,rfl,a,_,rfl,.inl (s1.seq ha),rfl,?_⟩;have:=k _ s1;have e:decide (V.int ((ddS ns).length:Nat)=V.int ((ns.map V.str).length:Nat))=decide ns.Nodup:=by
   rw[List.length_map];by_cases hn:ns.Nodup
   ·rw[decide_eq_true hn,decide_eq_true];rw[aez hn]
   ·rw[decide_eq_false hn,decide_eq_false];intro e;injection e with e;exact hn (afl (by omega))
  rw[e];exact this
theorem aqx:FnScope ["words","names"] ["words"] (aae ah5):=⟨rfl,rfl,rfl,by decide +kernel,rfl,by decide +kernel,by decide +kernel⟩
set_option maxHeartbeats 2000000 in
theorem arz {f fN fO:Addr}{fd fdN fdO:FuncData}(F:Fun K "are_inputs" "are_inputs" ah5 f fd) (T:Txt mg) (O:Tops K w mg) (gN:Gd K mg "is_name" afb ["text"] fN fdN) (gO:Gd K mg "is_each_once" ala ["names"] fO fdO) :
  FnOk P w K mg base CX0 2 f fd ["words"] (ao5 K):=by
 have GN:FnOk P w K mg base CX0 1 fN fdN ["text"] aje:=ak4 gN.F T O;have GO:FnOk P w K mg base CX0 1 fO fdO ["names"] (apd K):=ap3 gO.F T;refine F.ok aqx (fun vs H Q E h=>?_) (fun cdv A outer s H vs Q E hr h=>?_)
 ·obtain⟨a,ns,rfl,_⟩:=h;rfl
 ·obtain⟨a,ws,rfl,ha,hne,hl,hasc,k⟩:=h;refine abw _ (aan (i:=1) aqx.nd rfl (Or.inl rfl) (abr acz (pv 0) (ace aag) acm)) ?_;refine⟨_,rfl,_,rfl,a,_,rfl,ha,fun p np=>?_⟩;refine⟨_,aah (aa6 (af8 (acq aho (abd aas (pv 0) aag (fun _ _=>rfl)) abe (acj _)) (af8 (aam (ajp rfl) (by rfl) O.all PyProof.Rows.boot_all (pa_c (agy ["name"] [] [] rfl (ad8 (pv 1)) rfl rfl (fun s₀ H₀ C cl fp=>aa1 (i:=0) (nd1 _) rfl (Or.inl rfl)) (fun s₀ H₀ C cl fp=>acd) (fun s₀ H₀ C cl fp=>aak GN hr rfl gN.m gN.k gN.b .nil aa7 (pa_c (pv 0) aad))) aad)) (ah6 (aak GO hr rfl gO.m gO.k gO.b .nil aa7 (pa_c (pv 1) aad)))))),?_⟩;obtain⟨x,ns,rfl⟩:∃ x ns,ws=x::ns:=by
   cases ws with
   | nil=>exact absurd rfl hne
   | cons x ns=>exact⟨x,ns,rfl⟩
  have e1:cutV ((x::ns).map V.str) (some 1) none=ns.map V.str:=aeh (x::ns) 1;rw[e1];have s1:Same H (upd H p (.lst (ns.map V.str))):=Same.new np;have hl':ns.length<=4000:=by rw[List.length_cons] at hl;omega
  have fin:∀ (b:Bool) H',Same H H'->b=(decide (x = "in")&&ns.all isNm&&decide ns.Nodup)->Q (.bl b) H':=fun b H' sm e=>by rw[e];exact k H' sm
  refine⟨_,rfl,a,_,_,.str x,rfl,rfl,s1.seq ha,at0 _ _,rfl,_,rfl,?_⟩;refine ite2 (fun h1=>?_) (fun h1=>?_)
  ·have h1':decide (x = "in")=true:=by
    have:=of_decide_eq_true h1;injection this with this;exact decide_eq_true this
   refine⟨_,rfl,p,rfl,⟨_,SqL.of aaa⟩,fun D0 nD0=>?_⟩;refine lcGrow aee fNm nD0 (fun H' sm=>SqL.of (sm _ _ aaa)) (by rw[List.length_map];exact hl') ?_ ?_
   ·rintro i y H2 kk hx sm q;obtain⟨z,hz,rfl⟩:=ad7 hx;have az:=hasc z (List.mem_cons_of_mem _ (List.mem_of_getElem? hz));exact⟨_,rfl,z,rfl,az.1,az.2,q⟩
   ·intro H3 sm3 hD3;have em:(ns.map V.str).map fNm=(ns.map isNm).map V.bl:=by rw[List.map_map,List.map_map];rfl
    rw[em] at hD3;refine⟨D0,ns.map isNm,rfl,SqL.of hD3,_,rfl,?_⟩;have ea:(ns.map isNm).all id=ns.all isNm:=by rw[List.all_map];rfl
    rw[ea];refine ite2 (fun h2=>?_) (fun h2=>?_)
    ·refine⟨_,rfl,p,ns,rfl,SqL.of (sm3 _ _ aaa),hl',fun H4 s4=>?_⟩;refine fin _ H4 ((s1.trans sm3).trans s4) ?_;rw[h1',h2];rfl
    ·refine fin _ H3 (s1.trans sm3) ?_;rw[h1',Bool.eq_false_iff.mpr h2];rfl
  ·refine fin _ _ s1 ?_;have:decide (x = "in")=false:=by
    refine decide_eq_false fun e=>h1 (decide_eq_true ?_)
    rw[e]
   rw[this];rfl
end
section
variable {P:Program}{w:World}{K:PySem.W.Frag}{mg:Str->Option Value}{base:Heap}
theorem amz:FnScope ["words","known","names"] ["words","known"] (aae afu):=⟨rfl,rfl,rfl,by decide +kernel,rfl,by decide +kernel,by decide +kernel⟩
set_option maxHeartbeats 2000000 in
theorem aou {f fN fT fK:Addr}{fd fdN fdT fdK:FuncData}(F:Fun K "is_gate" "is_gate" afu f fd) (T:Txt mg) (O:Tops K w mg) (gN:Gd K mg "is_name" afb ["text"] fN fdN) (gT:Gd K mg "word_takes" ahv ["word","count"] fT fdT)
  (gK:Gd K mg "are_known" ag6 ["names","known"] fK fdK):FnOk P w K mg base CX0 2 f fd ["words","known"] (amg K):=by
 have GN:FnOk P w K mg base CX0 1 fN fdN ["text"] aje:=ak4 gN.F T O;have GT:FnOk P w K mg base CX0 1 fT fdT ["word","count"] aoz:=ar6 gT.F T O;have GK:FnOk P w K mg base CX0 1 fK fdK ["names","known"] (alp K):=al9 gK.F O;refine F.ok amz (fun vs H Q E h=>?_) (fun cdv A outer s H vs Q E hr h=>?_)
 ·obtain⟨a,b,ws,kn,rfl,_⟩:=h;rfl
 ·obtain⟨a,b,ws,kn,rfl,ha,hb,hne,hl,hasc,k⟩:=h;refine abw _ (adn (PW.pt (ak9 (acg ak1 (aam aap (by rfl) T.len PySem.boot_len (pa_c (pv 0) aad)) aag (acj _)) (ak9 (add (ac1 (aak GN hr rfl gN.m gN.k gN.b .nil aa7 (pa_c (abd aas (pv 0) aag (fun _ _=>rfl)) aad)))) (aik (acg ad6 (abd aas (pv 0) aag (fun _ _=>rfl)) (pv 1) rfl))))) (aah (aa6 ahq)) abi) ?_;refine⟨_,rfl,a,_,rfl,.inl ha,_,_,rfl,rfl,_,rfl,?_⟩;rw[List.length_map];cases ws with
  | nil=>exact absurd rfl hne
  | cons x ws =>
  cases ws with
  | nil =>
   have c1:decide ((([x]:List Str).length:Int)<2)=true:=rfl;rw[c1,if_pos rfl];exact k _ (Same.refl H)
  | cons y ns =>
   have c1:decide (((x::y::ns).length:Int)<2)=false:=decide_eq_false (by simp only[List.length_cons];omega);rw[c1,if_neg Bool.false_ne_true];have ax:=hasc x List.mem_cons_self;have hl':ns.length<=4000:=by simp only[List.length_cons] at hl;omega
   have fin:∀ (c:Bool) H',Same H H'->c=(isNm x && !decide (x∈kn)&&decide ((ns.length:Int)∈(aao y).getD [])&&aft ns kn)->Q (.bl c) H':=fun c H' sm e=>by rw[e];exact k H' sm
   refine⟨_,rfl,a,_,_,.str x,rfl,rfl,ha,at0 _ _,x,rfl,ax.1,ax.2,fun H1 s1=>⟨_,rfl,?_⟩⟩;refine ite2 (fun h1=>?_) (fun h1=>?_)
   ·refine iteT ?_;refine fin _ H1 s1 ?_;have:isNm x=false:=by simpa using h1
    rw[this];rfl
   have h1':isNm x=true:=by simpa using h1
   refine⟨_,rfl,a,_,_,.str x,rfl,rfl,s1.seq ha,at0 _ _,_,rfl,b,_,rfl,.inl (s1.seq hb),rfl,ad1 kn,_,rfl,?_⟩;refine ite2 (fun h2=>?_) (fun h2=>?_)
   ·refine fin _ H1 s1 ?_;have h2':decide (x∈kn)=true:=by rw[← afw];exact h2
    rw[h1',h2'];rfl
   have h2':decide (x∈kn)=false:=by rw[← afw];exact Bool.eq_false_iff.mpr h2
   refine abw _ (aan (i:=2) amz.nd rfl (Or.inl rfl) (abr acz (pv 0) (ace aag) acm)) ?_;refine⟨_,rfl,_,rfl,a,_,rfl,s1.seq ha,fun p np=>?_⟩;have e1:cutV ((x::y::ns).map V.str) (some 2) none=ns.map V.str:=aeh (x::y::ns) 2;rw[e1];have s2:Same H (upd H1 p (.lst (ns.map V.str))):=s1.trans (Same.new np);refine⟨_,aah (aa6 (af8 (aak GT hr rfl gT.m gT.k gT.b .nil aa7 (pa_c (abd aas (pv 0) aag (fun _ _=>rfl)) (pa_c (aam aap (by rfl) T.len PySem.boot_len (pa_c (pv 2) aad)) aad))) (ah6 (aak GK hr rfl gK.m gK.k gK.b .nil aa7 (pa_c (pv 2) (pa_c (pv 1) aad)))))),?_⟩;refine⟨_,rfl,a,_,_,.str y,rfl,rfl,s2.seq ha,at1 _ _ _,_,rfl,p,_,rfl,.inl (SqL.of aaa),y,ns.length,?_,fun H3 s3=>⟨_,rfl,?_⟩⟩
   ·rw[List.length_map];rfl
   refine ite2 (fun h3=>?_) (fun h3=>?_)
   ·refine⟨_,rfl,_,rfl,p,b,ns,kn,rfl,SqL.of (s3 _ _ aaa),(s2.trans s3).seq hb,hl',fun H4 s4=>?_⟩;refine fin _ H4 ((s2.trans s3).trans s4) ?_;rw[h1',h2',h3];rfl
   ·refine fin _ H3 (s2.trans s3) ?_;rw[h1',h2',Bool.eq_false_iff.mpr h3];rfl
end
def ak0 (H:Hp) (a:Addr) (r:List Str):Prop:=H a=some (.lst (r.map V.str))
section
variable {P:Program}{w:World}{K:PySem.W.Frag}{mg:Str->Option Value}{base:Heap}
theorem apa:FnScope ["rows","at","known","outputs"] ["rows","at","known"] (aae ad2):=⟨rfl,rfl,rfl,by decide +kernel,rfl,by decide +kernel,by decide +kernel⟩
end
abbrev acf (H:Hp):List Addr->List (List Str)->Prop:=Paired (ak0 H)
theorem acf.same {H H':Hp}(s:Same H H'):∀ {as:List Addr}{rs:List (List Str)},acf H as rs->acf H' as rs
 | _,_,.nil=>.nil
 | _,_,.cons h r=>.cons (s _ _ h) (acf.same s r)
theorem acf.len {H:Hp}:∀ {as:List Addr}{rs:List (List Str)},acf H as rs->as.length=rs.length
 | _,_,.nil=>rfl
 | _,_,.cons _ r=>by rw[List.length_cons,List.length_cons,acf.len r]
theorem acf.get {H:Hp}:∀ {as:List Addr}{rs:List (List Str)}{i:Nat}{r:List Str},acf H as rs->rs[i]?=some r->∃ a,as[i]?=some a/\ak0 H a r
 | _,_,_,_,.nil,h=>by cases h
 | a::as,r::rs,0,r',.cons h t,e=>by cases e;exact⟨a,rfl,h⟩
 | a::as,r::rs,i+1,r',.cons h t,e=>by
  obtain⟨b,h1,h2⟩:=acf.get (H:=H) (as:=as) (rs:=rs) (i:=i) (r:=r') t (by simpa using e);exact⟨b,by simpa using h1,h2⟩
theorem acf.other {H:Hp}{D:Addr}{o:HO}:∀ {as:List Addr}{rs:List (List Str)},acf H as rs->(∀ a∈as,a≠D)->acf (upd H D o) as rs
 | _,_,.nil,_=>.nil
 | _,_,.cons h r,hn=>.cons (by unfold ak0;rw[aac (hn _ List.mem_cons_self)];exact h) (acf.other r fun a ha=>hn a (List.mem_cons_of_mem _ ha))
section
variable {P:Program}{w:World}{K:PySem.W.Frag}{mg:Str->Option Value}{base:Heap}
theorem ahh:FnScope ["text","rows","inputs","gates","known","at","words"] ["text"] (aae anz):=⟨rfl,rfl,rfl,by decide +kernel,rfl,by decide +kernel,by decide +kernel⟩
end
end Lw
namespace L2
open PySem PySem.Spec PyProof.Rows
section
variable {X:Cx}
def tFstrI (te:TE):TE:=fun σ H Q=>te σ H fun y H1=>∃ i:Int,y = .int i/\i.natAbs<10 ^ 9/\∀ z:Str,Q (.str z) H1
theorem arx {a b:Str}{e:Expr}{te:TE}{i j:Nat}{p1 p2 p3 pos:Pos}(he:PE X e te) (ha:a.length<=1000:=by decide +kernel) (hb:b.length<=1000:=by decide +kernel):PE X (.JoinedStr [.Constant (.str a) i p1,.FormattedValue e (-1) none p2,.Constant (.str b) j p3] pos) (tFstrI te):=by
 intro pins s σ H Q I h;have big:20000<=sizeLine:=by decide
 have e0:(Str.empty++a).length=a.length:=by rw[strLen_append];simp[Str.empty,Str.length]
 refine wpAny_JoinedStr ?_;refine Calls.Constant_str ⟨a,_,rfl,by omega,?_⟩;refine wpAny_FormattedValue_plain (thn (he pins _ σ H _ (I.tok _) h) fun u s1 ⟨y,H1,I1,ry,n,ey,hn,q⟩=>?_);subst ey;obtain⟨t,rfl⟩:=ry;have hl:(Str.ofString (toString n)).length<=20:=by
  have:=int_text_length_le10 (a:=n) (k:=9) (by decide) hn;rw[PySem.ofString_length];omega
 have e1:(Str.empty++a++Str.ofString (toString n)).length=a.length+(Str.ofString (toString n)).length:=by rw[strLen_append,e0]
 have e2:(Str.empty++a++Str.ofString (toString n)++b).length=a.length+(Str.ofString (toString n)).length+b.length:=by rw[strLen_append,e1]
 have hg:n.natAbs.log2<1920:=by
  by_cases z:n.natAbs=0
  ·rw[z];decide
  ·exact (Nat.log2_lt z).mpr (Nat.lt_trans hn (Nat.lt_of_lt_of_le (show 10 ^ 9<2 ^ 30 by decide) (Nat.pow_le_pow_right (by decide) (by decide))))
 refine wpAny_formatField_int hg ?_;refine⟨_,_,rfl,by omega,Calls.Constant_str ⟨b,_,rfl,by omega,⟨by omega,.str _,H1,?_,⟨_,rfl⟩,q _⟩⟩⟩;exact (((I1.tok _).tok _).tok _).tok _
end
theorem Fun.okX {P:Program}{w:World}{K:PySem.W.Frag}{mg:Str->Option Value}{base:Heap}{x qual:Str}{st:Stmt}{f:Addr}{fd:FuncData}{N ps:List Str}{k:Nat}{sp:Sp}(F:Fun K x qual st f fd) (S:FnScope N ps (aae st)) (len:∀ vs H Q E,sp vs H Q E->vs.length=ps.length)
  (hbody:∀ (cdv:Value) (A:Around) (outer:List Env) (s:Shared) (H:Hp) (vs:List V) (Q:VK) (E:XK),Room k (A.deeper (envOfC qual (aae st) s.heap.objs.size f cdv))->sp vs H Q E ->∃ t,PSs (cxOf (CXe P w) P w K mg base N qual (aae st) f cdv A outer s H E) (acy st) t/\t { nx:=fun _ H'=>Q .non H',rt:=Q } (start N vs) H):FnOk P w K mg base (CXe P w) (k+1) f fd ps sp:=by
 obtain⟨oc,od,kV,doc,pm,an,cdv,ct,osl,rfl,lk,hcd⟩:=F.ex;exact fn_of lk hcd S len fun A outer s H vs Q E hr hsp=>hbody cdv A outer s H vs Q E hr hsp
end L2
namespace Lw
open PySem L2
structure NC (K:PySem.W.Frag) (mg:Str->Option Value) (CE CC N fI:Addr) (bm:List Value):Prop where
 mCE:mg "CellError" = some (.ref CE)
 g1:PySem.W.specialIn K (.ref CE) "__getattribute__" = some (some (.builtin "type.__getattribute__"))
 g2:PySem.W.readsIn K CE (.type "type")=true
 g3:PySem.W.findCls K (.ref CE) (.type "type") "__init__" = some (.val (.builtin "ValueError.__init__"))
 mCC:mg "NoCell" = some (.ref CC)
 xc:xcIn K CC N bm (some (.ref fI))=true
 kp:PySem.W.keepIn K (.ref CC)=true
 sa:PySem.W.findIn K (.ref CC) "__setattr__" = some (some (.builtin "object.__setattr__"))
 fr:PySem.W.findIn K (.ref CC) "row" = some none
 rf:∀ a,refuseLoop (.ref a) "__setattr__" (.ref CC::bm)=pure ()
 ob:bm.contains (.type "object")=true
 bb:bm.contains (.type "BaseException")=true
 xf:PySem.W.XFacts K CC
 ex:PySem.W.exmOne K (.ref CC) (.ref CE)=some true
def aji (CC:Addr):Sp:=fun vs H Q _=>∃ (e:Addr) (n:Int),vs=[.ref e,.int n]/\n.natAbs<10 ^ 9/\H e=some (ExN e CC)/\∀ dd,H dd=none->Q .non (upd (upd H dd (.xd [("row",.int n)])) e (ExD e CC dd))
def RzC (CC:Addr) (n:Int) (H:Hp) (E:XK):Prop:=∀ dd H',H dd=none->H' dd=some (.xd [("row",.int n)])->Same H H'->E (.ref CC) (some dd) H'
theorem RzC.of {CC:Addr}{n:Int}{H H2:Hp}{E:XK}(h:RzC CC n H E) (s:Same H H2):RzC CC n H2 E:=fun dd H' nd hx sm=>by
 refine h dd H' ?_ hx fun b o e=>sm b o (s b o e)
 cases e:H dd with
 | none=>rfl
 | some o=>rw[s dd o e] at nd;cases nd
theorem RzC.thrown {CC:Addr}{n:Int}{H:Hp}{E:XK}(k2:RzC CC n H E){a dd T:Addr}{X Y Z:HO}(nA:H a=none) (nD:upd H a (ExN a CC) dd=none) (nT:upd (upd (upd H a (ExN a CC)) dd (.xd [("row",.int n)])) a Z T=none) :
  E (.ref CC) (some dd) (upd (upd (upd (upd (upd H a (ExN a CC)) dd (.xd [("row",.int n)])) a Z) a X) T Y):=by
 have da:dd≠a:=fun z=>by rw[z,aaa] at nD;cases nD
 have nD':H dd=none:=by rw[aac da] at nD;exact nD
 have Ta:T≠a:=fun z=>by rw[z,aaa] at nT;cases nT
 have Td:T≠dd:=fun z=>by rw[z,aac da,aaa] at nT;cases nT
 have nT':H T=none:=by rw[aac Ta,aac Td,aac Ta] at nT;exact nT
 refine k2 dd _ nD' (by rw[aac Td.symm,aac da,aac da,aaa]) fun c o e=>?_
 rw[aac (aab e nT'),aac (aab e nA),aac (aab e nA),aac (aab e nD'),aac (aab e nA)];exact e
section
variable {P:Program}{w:World}{K:PySem.W.Frag}{mg:Str->Option Value}{base:Heap}{CE CC N fI:Addr}{bm:List Value}
theorem av0:FnScope ["self","row"] ["self","row"] (aae aie):=⟨rfl,rfl,rfl,by decide +kernel,rfl,by decide +kernel,by decide +kernel⟩
set_option maxHeartbeats 1000000 in
theorem aro {f:Addr}{fd:FuncData}(F:Fun K "__init__" "NoCell.__init__" aie f fd) (O:NC K mg CE CC N fI bm):FnOk P w K mg base CX0 1 f fd ["self","row"] (aji CC):=by
 refine F.ok av0 (fun vs H Q E h=>?_) (fun cdv A outer s H vs Q E hr h=>?_)
 ·obtain⟨e,y,rfl,_⟩:=h;rfl
 ·obtain⟨e,y,rfl,s1,he,k⟩:=h;refine⟨_,aai (adu (akt (by rfl) O.mCE O.g1 O.g2 O.g3 (pv 0) (arx (pv 1)) ⟨rfl,rfl,rfl,rfl⟩)) (aah (aol (pv 0) (pv 1) rfl)),?_⟩;refine⟨_,rfl,_,rfl,y,rfl,s1,fun z=>⟨e,CC,N,bm,_,z,rfl,rfl,he,O.xc,?_⟩⟩;exact⟨_,rfl,_,rfl,e,CC,N,bm,_,rfl,he,O.xc,O.sa,O.fr,O.rf,O.ob,k⟩
end
def aei (outs kn:List Str):Bool:=aft outs kn&&decide outs.Nodup
def al6 (K:PySem.W.Frag) (CC:Addr):Sp:=fun vs H Q E=>∃ (r b a:Addr) (as:List Addr) (n:Nat) (o:Str) (outs kn:List Str),vs=[.ref r,.int n,.ref b]/\SqL K H r (as.map V.ref)/\as[n]?=some a/\ak0 H a (o::outs)/\SqL K H b (kn.map V.str) /\
 as.length<=4000/\outs.length<=4000/\(aei outs kn=true->n+1=as.length->∀ H',Same H H'->Q .non H')/\(aei outs kn=false->RzC CC n H E)/\(aei outs kn=true->n+1<as.length->RzC CC (n+1:Nat) H E)
section
variable {P:Program}{w:World}{K:PySem.W.Frag}{mg:Str->Option Value}{base:Heap}{CE CC N fI:Addr}{bm:List Value}
set_option maxHeartbeats 2000000 in
theorem aq8 {f fO fK:Addr}{fd fdO fdK fdI:FuncData}{oI:Obj}(F:Fun K "check_end" "check_end" ad2 f fd) (T:Txt mg) (Tp:Tops K w mg) (O:NC K mg CE CC N fI bm) (FI:FnOk P w K mg base CX0 1 fI fdI ["self","row"] (aji CC)) (bI:aeg K fdI ["self","row"] []) (lI:K.lookup fI=some oI) (cI:oI.cls = .type "function")
  (gO:Gd K mg "is_each_once" ala ["names"] fO fdO) (gK:Gd K mg "are_known" ag6 ["names","known"] fK fdK):FnOk P w K mg base (CXe P w) 3 f fd ["rows","at","known"] (al6 K CC):=by
 have GO:FnOk P w K mg base CX0 1 fO fdO ["names"] (apd K):=ap3 gO.F T;have GK:FnOk P w K mg base CX0 1 fK fdK ["names","known"] (alp K):=al9 gK.F Tp;refine F.okX (k:=2) apa (fun vs H Q E h=>?_) (fun cdv A outer s H vs Q E hr h=>?_)
 ·obtain⟨r,b,a,as,n,o,outs,kn,rfl,_⟩:=h;rfl
 ·obtain⟨r,b,a,as,n,o,outs,kn,rfl,hr0,hat,ha,hb,hl1,hl2,k1,k2,k3⟩:=h;have hn:n<as.length:=(List.getElem?_eq_some_iff.mp hat).1;refine abw _ (aan (i:=3) apa.nd rfl (Or.inl rfl) (abr acz (abd aas (pv 0) (pv 1) (fun _ _=>rfl)) (ace aag) acm)) ?_;refine⟨_,rfl,_,rfl,r,_,_,.ref a,rfl,rfl,hr0,aaq (by rw[List.getElem?_map,hat];rfl),_,rfl,a,_,rfl,SqL.of ha,fun p np=>?_⟩;have e1:cutV ((o::outs).map V.str) (some 1) none=outs.map V.str:=aeh (o::outs) 1;rw[e1];have s1:Same H (upd H p (.lst (outs.map V.str))):=Same.new np;refine abu (fun σ H3=>σ=[some (.ref r),some (.int n),some (.ref b),some (.ref p)]/\Same H H3/\aei outs kn=true) (fun z hz=>?_) ?_
  ·refine⟨_,adn (PW.pt (ak9 (add (ac1 (aak GK (hr.mono (by decide)) rfl gK.m gK.k gK.b .nil aa7 (pa_c (pv 3) (pa_c (pv 2) aad))))) (aik (add (ac1 (aak GO (hr.mono (by decide)) rfl gO.m gO.k gO.b .nil aa7 (pa_c (pv 3) aad))))))) (aah (aeu (aed (x := "NoCell") O.xc O.kp lI cI FI (hr.mono (by decide)) (by rfl) O.mCC bI (pa_c (pv 1) aad)))) abi,?_⟩;have raise:∀ H2,Same H H2->aei outs kn=false->_:=fun H2 s2 hf=>(k2 hf).of s2
   have bound:((n:Int)).natAbs<10 ^ 9:=by omega
   refine⟨_,rfl,_,rfl,p,b,outs,kn,rfl,SqL.of aaa,s1.seq hb,hl2,fun H2 s2=>⟨_,rfl,?_⟩⟩;cases hin:aft outs kn with
   | false =>
    have hf:aei outs kn=false:=by unfold aei;rw[hin];rfl
    refine (if_pos rfl).mpr ((if_pos rfl).mpr ⟨_,rfl,(by show 1<=10;decide),fun a' nA=>⟨a',(n:Int),rfl,bound,aaa,fun dd nD=>⟨rfl,a',CC,N,dd,bm,_,rfl,aaa,O.xc,O.bb,fun T' nT=>(raise H2 (s1.trans s2) hf).thrown nA nD nT⟩⟩⟩)
   | true =>
    refine iteF ⟨_,rfl,p,outs,rfl,SqL.of (s2 _ _ aaa),hl2,fun H3 s3=>⟨_,rfl,?_⟩⟩;have s4:=(s1.trans s2).trans s3;by_cases hnd:outs.Nodup
    ·rw[decide_eq_true hnd];exact iteF (hz _ _ ⟨rfl,s4,by unfold aei;rw[hin,decide_eq_true hnd];rfl⟩)
    ·rw[decide_eq_false hnd];have hf:aei outs kn=false:=by unfold aei;rw[hin,decide_eq_false hnd];rfl
     exact (if_pos rfl).mpr ⟨_,rfl,(by show 1<=10;decide),fun a' nA=>⟨a',(n:Int),rfl,bound,aaa,fun dd nD=>⟨rfl,a',CC,N,dd,bm,_,rfl,aaa,O.xc,O.bb,fun T' nT=>(raise H3 s4 hf).thrown nA nD nT⟩⟩⟩
  rintro _ H3 ⟨rfl,s4,hok⟩;refine⟨_,aah (adn (acg ak1 (aat adg (pv 1) aag) (aam aap (by rfl) T.len PySem.boot_len (pa_c (pv 0) aad)) (acj _)) (aah (aeu (aed (x := "NoCell") O.xc O.kp lI cI FI (hr.mono (by decide)) (by rfl) O.mCC bI (pa_c (aat adg (pv 1) aag) aad)))) abi),?_⟩;refine⟨_,rfl,_,_,rfl,rfl,_,rfl,r,_,rfl,.inl (s4.seq hr0),_,_,rfl,rfl,_,rfl,?_⟩;by_cases hlt:n+1<as.length
  ·have c1:decide ((n:Int)+1<((as.map V.ref).length:Int))=true:=decide_eq_true (by rw[List.length_map];omega);rw[c1];have bound:((n:Int)+1).natAbs<10 ^ 9:=by omega
   have e2:((n+1:Nat):Int)=(n:Int)+1:=by omega
   have rz:=(k3 hok hlt).of s4;rw[e2] at rz;exact (if_pos rfl).mpr ⟨_,rfl,_,_,rfl,rfl,(by show 1<=10;decide),fun a' nA=>⟨a',(n:Int)+1,rfl,bound,aaa,fun dd nD=>⟨rfl,a',CC,N,dd,bm,_,rfl,aaa,O.xc,O.bb,fun T' nT=>rz.thrown nA nD nT⟩⟩⟩
  ·have c1:decide ((n:Int)+1<((as.map V.ref).length:Int))=false:=decide_eq_false (by rw[List.length_map];omega);rw[c1];exact iteF (k1 hok (by omega) _ s4)
end
def goW:Nat->List (List Str)->List Str->Option Nat
 | n,[],_=>some n
 | n,ws::rest,kn=>if ws.headD "" = "out" then (if aei ws.tail kn=true then (if rest=[] then none else some (n+1)) else some n) else if ae8 ws kn=true then goW (n+1) rest (kn++[ws.headD ""]) else some n
def aav:List (List Str)->Option Nat
 | []=>some 0
 | r0::rest=>if ae7 r0=true then goW 1 rest r0.tail else some 0
def gOf (ws:List Str):Str×Str×List Str:=(ws.headD "",ws.tail.headD "",ws.drop 2)
def adt (rows:List (List Str)):Cel:=⟨(rows.headD []).tail,(rows.tail.dropLast).map gOf,(rows.getLastD []).tail⟩
structure RowsOk (rows:List (List Str)):Prop where
 ne:rows≠[]
 l:rows.length<=4000
 r:∀ r∈rows,r≠[]/\r.length<=4000/\∀ x∈r,Asc x
def abf (z:Str):List (List Str):=(Txt.split z nlS).map fun r=>Txt.split r spS
def apy (K:PySem.W.Frag) (CC:Addr):Sp:=fun vs H Q E=>∃ z:Str,vs=[.str z]/\z.length<=1000000/\(∀ r∈Txt.split z nlS,r.length<=1000000)/\RowsOk (abf z) /\
 (aav (abf z)=none->∀ (ce:Addr) (H':Hp),H ce=none->CellAt H' ce (adt (abf z))->Same H H'->Q (.ref ce) H')/\∀ n:Nat,aav (abf z)=some n->RzC CC n H E
theorem aqb {α:Type}{d:α}{xs:List α}{a x:α}:(a::(xs++[x])).getLastD d=x:=by
 rw[← List.cons_append];exact List.getLastD_concat ..
section
variable {P:Program}{w:World}{K:PySem.W.Frag}{mg:Str->Option Value}{base:Heap}{CE CC N fN:Addr}{bm:List Value}
set_option maxHeartbeats 4000000 in
theorem arr {f fI fG fC:Addr}{fd fdI fdG fdC fdN:FuncData}{oI:Obj}(F:Fun K "read_cell" "read_cell" anz f fd) (T:Txt mg) (O:NC K mg CE CC N fN bm) (FI:FnOk P w K mg base CX0 1 fN fdN ["self","row"] (aji CC)) (bI:aeg K fdN ["self","row"] []) (lI:K.lookup fN=some oI) (cI:oI.cls = .type "function")
  (gI:Gd K mg "are_inputs" ah5 ["words"] fI fdI) (gG:Gd K mg "is_gate" afu ["words","known"] fG fdG) (gC:Gd K mg "check_end" ad2 ["rows","at","known"] fC fdC) (GI:FnOk P w K mg base CX0 2 fI fdI ["words"] (ao5 K)) (GG:FnOk P w K mg base CX0 2 fG fdG ["words","known"] (amg K))
  (GC:FnOk P w K mg base (CXe P w) 3 fC fdC ["rows","at","known"] (al6 K CC)):FnOk P w K mg base (CXe P w) 4 f fd ["text"] (apy K CC):=by
 refine F.okX (k:=3) ahh (fun vs H Q E h=>?_) (fun cdv A outer s H vs Q E hr h=>?_)
 ·obtain⟨z,rfl,_⟩:=h;rfl
 ·obtain⟨z,rfl,hz,hzr,R,kok,kbad⟩:=h;have hr2':Room 2 _:=hr.mono (by decide);refine abu (fun σ H5=>∃ (r:Addr) (as:List Addr),σ=[some (.str z),some (.ref r),none,none,none,none,none]/\H5 r=some (.lst (as.map V.ref))/\acf H5 as (abf z)/\Same H H5) (fun u hu'=>?_) ?_
  ·refine⟨_,am2 (i:=1) ["row"] [] [] ahh.nd rfl (Or.inl rfl) rfl (ad8 (aex PySem.F.plainAttrs_str PySem.F.slot_str_split PySem.F.type_str_split aci (pv 0) (pa_c abe aad))) rfl rfl (fun s₀ H₀ C cl fp=>aa1 (i:=0) (nd1 _) rfl (Or.inl rfl)) (fun s₀ H₀ C cl fp=>acd) (fun s₀ H₀ C cl fp=>apf K PySem.F.plainAttrs_str PySem.F.slot_str_split PySem.F.type_str_split aci (pv 0) (pa_c abe aad)),?_⟩;refine⟨_,rfl,rfl,z,nlS,rfl,rfl,by decide +kernel,hz,fun q nq=>⟨q,rfl,⟨_,SqL.of aaa⟩,fun D0 nD0=>?_⟩⟩;have sq:Same H (upd H q (.lst ((Txt.split z nlS).map V.str))):=Same.new nq;have hqD:q≠D0:=aab aaa nD0;have zD:H D0=none:=sq.free nD0;have hL:(Txt.split z nlS).length<=4000:=by have:=R.l;unfold abf at this;rw[List.length_map] at this;exact this
   refine lc1y (aee (xs:=(Txt.split z nlS).map V.str)) (fun i ys H4=>∃ as:List Addr,ys=as.map V.ref/\as.length<=4000/\acf H4 as ((abf z).take i)/\Same H H4/\H4 D0=some (.lst ys)/\H4 q=some (.lst ((Txt.split z nlS).map V.str))/\(∀ a∈as,a≠D0)) ?_ ?_ ?_ ?_
   ·exact⟨[],rfl,by simp,.nil,sq.trans (Same.new nD0),aaa,by rw[aac hqD];exact aaa,fun a ha=>nomatch ha⟩
   ·rintro i ys H4 _ ⟨as,_,_,_,_,_,h,_⟩;exact SqL.of h
   ·rintro i x ys H4 hx ⟨as,rfl,hl4,hr4,s4,hD4,hq4,hne⟩;obtain⟨y,hy,rfl⟩:=ad7 hx;have hri:(abf z)[i]?=some (Txt.split y spS):=by unfold abf;rw[List.getElem?_map,hy];rfl
    have hi:i<(Txt.split z nlS).length:=(List.getElem?_eq_some_iff.mp hy).1;have hlr:(abf z).length=(Txt.split z nlS).length:=by unfold abf;rw[List.length_map]
    refine⟨_,rfl,rfl,y,spS,rfl,rfl,by decide +kernel,hzr y (List.mem_of_getElem? hy),fun p np=>?_⟩;have hpD:p≠D0:=(aab hD4 np).symm;have hlen:as.length=i:=by rw[hr4.len,List.length_take];omega
    have et:(abf z).take (i+1)=(abf z).take i++[Txt.split y spS]:=by rw[List.take_add_one,hri];rfl
    refine⟨⟨_,rfl⟩,by rw[aac hpD.symm];exact hD4,?_,as++[p],by simp,by simp;omega,?_,?_,aaa,?_,?_⟩
    ·rw[List.length_map];exact Nat.lt_of_lt_of_le (show as.length<9000 by omega) (by decide)
    ·rw[et];refine acf.other (aea (hr4.same (Same.new np)) aaa) fun a ha=>?_
     rcases List.mem_append.mp ha with ha | ha
     ·exact hne a ha
     ·rw[List.mem_singleton.mp ha];exact hpD
    ·intro b o e;rw[aac (aab e zD)];exact (s4.trans (Same.new np)) b o e
    ·rw[aac hqD];exact (Same.new np) _ _ hq4
    ·intro a ha;rcases List.mem_append.mp ha with ha | ha
     ·exact hne a ha
     ·rw[List.mem_singleton.mp ha];exact hpD
   ·rintro ys H4 ⟨as,rfl,hl4,hr4,s4,hD4,hq4,hne⟩;refine hu' _ _ ⟨D0,as,rfl,hD4,?_,s4⟩;have:(abf z).take ((Txt.split z nlS).map V.str).length=abf z:=by rw[List.length_map];unfold abf;rw[List.take_of_length_le (by rw[List.length_map];exact Nat.le_refl _)]
    rw[this] at hr4;exact hr4
  rintro σ H1 ⟨r,as,rfl,hr1,ha1,s1⟩;generalize hrows:abf z=rows at R kok kbad ha1;obtain⟨r0,rest,rfl⟩:∃ r0 rest,rows=r0::rest:=by
   cases rows with
   | nil=>exact absurd rfl R.ne
   | cons a b=>exact⟨a,b,rfl⟩
  obtain⟨a0,ea0,ra0⟩:=ha1.get (i:=0) (r:=r0) rfl;have hal:=ha1.len;have hl:=R.l;rw[List.length_cons] at hal hl;obtain⟨n0,m0,asc0⟩:=R.r r0 List.mem_cons_self;obtain⟨x0,ins,rfl⟩:∃ x0 ins,r0=x0::ins:=by
   cases r0 with
   | nil=>exact absurd rfl n0
   | cons a b=>exact⟨a,b,rfl⟩
  have m0':ins.length<=4000:=by rw[List.length_cons] at m0;omega
  let E1:XK:=fun Cv od H3=>∃ (H2:Hp) (n:Nat) (dd:Addr),Same H H2/\aav ((x0::ins)::rest)=some n/\Cv = .ref CC/\od=some dd/\H2 dd=none/\H3 dd=some (.xd [("row",.int n)])/\Same H2 H3
  have pass:∀ Cv od H3 e T',E1 Cv od H3->H3 e=some (ExC e Cv od)->H3 T'=none->E Cv od (upd H3 T' (AnyO T')):=by
   rintro Cv od H3 e T' ⟨H2,n,dd,s2,hw,rfl,rfl,nd,hx,sm⟩ he nT;refine (kbad n hw).of s2 dd _ nd (by rw[aac (aab hx nT)];exact hx) fun c o q=>?_
   rw[aac (aab (sm c o q) nT)];exact sm c o q
  have raise:∀ {H2:Hp} {n:Nat},Same H H2->aav ((x0::ins)::rest)=some n->RzC CC n H2 E:=fun s2 hw=>(kbad _ hw).of s2
  refine abu (fun σ H2=>σ=[some (.str z),some (.ref r),none,none,none,none,none]/\Same H1 H2/\ae7 (x0::ins)=true) (fun u hu'=>?_) ?_
  ·refine⟨_,adn (add (ac1 (aak GI hr2' rfl gI.m gI.k gI.b .nil aa7 (pa_c (abd aas (pv 1) aag (fun _ _=>rfl)) aad)))) (aah (aeu (aed (x := "NoCell") O.xc O.kp lI cI FI (hr.mono (by decide)) (by rfl) O.mCC bI (pa_c aag aad)))) abi,?_⟩;refine⟨_,rfl,r,_,_,.ref a0,rfl,rfl,SqL.of hr1,aaq (j:=0) (by rw[List.getElem?_map,ea0];rfl),a0,x0::ins,rfl,SqL.of ra0,by simp,m0,asc0,fun H2 s2=>⟨_,rfl,?_⟩⟩;cases hin:ae7 (x0::ins) with
   | true=>exact iteF (hu' _ _ ⟨rfl,s2,hin⟩)
   | false =>
    have hw:aav ((x0::ins)::rest)=some 0:=(if_neg (by rw[hin];decide):(if ae7 (x0::ins)=true then goW 1 rest ins else some 0)=some 0);exact (if_pos rfl).mpr ⟨(by show 1<=10;decide),fun a' nA=>⟨a',0,rfl,by decide,aaa,fun dd nD=>⟨rfl,a',CC,N,dd,bm,_,rfl,aaa,O.xc,O.bb,fun T' nT=>(raise (s1.trans s2) hw).thrown nA nD nT⟩⟩⟩
  rintro _ H2 ⟨rfl,s2,hin⟩;have hwr:aav ((x0::ins)::rest)=goW 1 rest ins:=(if_pos hin:(if ae7 (x0::ins)=true then goW 1 rest ins else some 0)=goW 1 rest ins);have S2:=s1.trans s2;have hr2:=s2 _ _ hr1;have ra2:=ha1.same s2;have ra02:ak0 H2 a0 (x0::ins):=s2 _ _ ra0;refine abw _ (aan (i:=2) ahh.nd rfl (Or.inl rfl) (aa5 aau (by rfl) T.tuple PyProof.Rows.boot_tuple (pa_c (abr acz (abd aas (pv 1) aag (fun _ _=>rfl)) (ace aag) acm) aad))) ?_;refine⟨_,rfl,r,_,_,.ref a0,rfl,rfl,SqL.of hr2,aaq (j:=0) (by rw[List.getElem?_map,ea0];rfl),_,rfl,a0,_,rfl,SqL.of ra02,fun p np=>⟨p,_,rfl,.inl ⟨SqL.of aaa,fun l nl=>?_⟩⟩⟩;have e1:cutV ((x0::ins).map V.str) (some 1) none=ins.map V.str:=aeh (x0::ins) 1;rw[e1];rw[e1] at nl;have s3:Same H2 (upd (upd H2 p (.lst (ins.map V.str))) l (.tup (ins.map V.str))):=(Same.new np).trans (Same.new nl);generalize hH3:upd (upd H2 p (.lst (ins.map V.str))) l (.tup (ins.map V.str))=H3 at s3;have hl3:H3 l=some (.tup (ins.map V.str)):=by rw[← hH3];exact aaa
  have S3:=S2.trans s3;have hr3:=s3 _ _ hr2;have ra3:=ra2.same s3;refine abw _ (aan (i:=3) ahh.nd rfl (Or.inl rfl) (aaz aad)) ?_;refine⟨(by show 0<=sizeLine;decide),fun g ng=>?_⟩;refine abw _ (aan (i:=4) ahh.nd rfl (Or.inl rfl) (aa5 aev (by rfl) T.list PyProof.Rows.boot_list (pa_c (pv 2) aad))) ?_;have hl4:upd H3 g (.lst []) l=some (.tup (ins.map V.str)):=by rw[aac (aab hl3 ng)];exact hl3
  refine⟨_,rfl,l,_,rfl,.inr (.inl (.inl hl4)),fun kn nk=>?_⟩;have zg:H g=none:=S3.free ng;have nkg:g≠kn:=aab aaa nk;have s4:Same H3 (upd (upd H3 g (.lst [])) kn (.lst (ins.map V.str))):=(Same.new ng).trans (Same.new nk);have nk3:H3 kn=none:=(Same.new ng).free nk;have zkn:H kn=none:=S3.free nk3;have rg:r≠g:=aab hr3 ng;have rkn:r≠kn:=aab hr3 nk3;have rowne:∀ {as:List Addr} {rs:List (List Str)} {x:Addr},acf H3 as rs->H3 x=none->∀ a∈as,a≠x:=by
   intro as rs x h hx;induction h with
   | nil=>intro a ha;exact nomatch ha
   | cons q _ ih =>
    intro a ha;rcases List.mem_cons.mp ha with e | ha
    ·rw[e];exact aab q hx
    ·exact ih a ha
  have ag:=rowne ra3 ng;have akn:=rowne ra3 nk3;generalize hH4:upd (upd H3 g (.lst [])) kn (.lst (ins.map V.str))=H4 at s4;have hg4:H4 g=some (.lst []):=by rw[← hH4,aac nkg];exact aaa
  have hkn4:H4 kn=some (.lst (ins.map V.str)):=by rw[← hH4];exact aaa
  let kn':Nat->List Str:=fun i=>ins++(rest.take i).map (·.headD "")
  have hnl:∀ i,(kn' i).length<=9000:=fun i=>by
   show (ins++(rest.take i).map (·.headD "")).length<=9000;rw[List.length_append,List.length_map,List.length_take];omega
  let Pv:Nat->St->Hp->Prop:=fun i σ H5=>∃ (gs:List Addr) (v5 v6:Option V),σ=[some (.str z),some (.ref r),some (.ref l),some (.ref g),some (.ref kn),v5,v6]/\H5 r=some (.lst (as.map V.ref))/\acf H5 as ((x0::ins)::rest) /\
   H5 l=some (.tup (ins.map V.str))/\H5 g=some (.lst (gs.map V.ref))/\abq H5 gs ((rest.take i).map gOf)/\H5 kn=some (.lst ((kn' i).map V.str))/\Same H H5/\aav ((x0::ins)::rest)=goW (i+1) (rest.drop i) (kn' i)
  refine abu (Pv rest.length) (fun u hu'=>?_) ?_
  ·refine⟨_,ael PassesOwn.leaving rfl (akr rfl T.range (pa_c aag (pa_c (aam aap (by rfl) T.len PySem.boot_len (pa_c (pv 1) aad)) aad))) (aa1 (i:=5) ahh.nd rfl (Or.inl rfl)) (aai (aan (i:=6) ahh.nd rfl (Or.inl rfl) (abd aas (pv 1) (pv 5) (fun _ _=>rfl))) (aai (adn (acg aho (abd aas (pv 6) aag (fun _ _=>rfl)) abe (acj _)) (aai (adu (aak (E:=E1) GC hr rfl gC.m gC.k gC.b .nil (passX pass) (pa_c (pv 1) (pa_c (pv 5) (pa_c (pv 4) aad))))) (aah (aa6 (adz (pa_c (pv 2) (pa_c (aa5 aau (by rfl) T.tuple PyProof.Rows.boot_tuple (pa_c (pv 3) aad)) (pa_c (aa5 aau (by rfl) T.tuple PyProof.Rows.boot_tuple (pa_c (abr acz (pv 6) (ace aag) acm) aad)) aad))))))) abi) (aai (adn (add (ac1 (aak GG hr2' rfl gG.m gG.k gG.b .nil aa7 (pa_c (pv 6) (pa_c (pv 4) aad))))) (aah (aeu (aed (x := "NoCell") O.xc O.kp lI cI FI (hr.mono (by decide)) (by rfl) O.mCC bI (pa_c (pv 5) aad)))) abi) (aai (adu (aex PySem.F.plainAttrs_list PySem.F.slot_list_append PySem.F.type_list_append acw (pv 3) (pa_c (adz (pa_c (abd aas (pv 6) aag (fun _ _=>rfl)) (pa_c (abd aas (pv 6) aag (fun _ _=>rfl)) (pa_c (aa5 aau (by rfl) T.tuple PyProof.Rows.boot_tuple (pa_c (abr acz (pv 6) (ace aag) acm) aad)) aad)))) aad))) (aah (adu (aex PySem.F.plainAttrs_list PySem.F.slot_list_append PySem.F.type_list_append acw (pv 4) (pa_c (abd aas (pv 6) aag (fun _ _=>rfl)) aad)))))))),?_⟩;refine⟨_,rfl,r,_,rfl,.inl (SqL.of (s4 _ _ hr3)),?_⟩;have hn1:(((as.map V.ref).length:Nat):Int)=(rest.length:Int)+1:=by rw[List.length_map,hal];omega
   refine⟨1,_,rfl,⟨by decide,by decide,by omega,by omega⟩,?_⟩;rw[hn1,show ((rest.length:Int)+1-1).toNat=rest.length by omega];refine adx (lo:=1) (n:=rest.length) Pv ⟨[],none,none,rfl,s4 _ _ hr3,ra3.same s4,s4 _ _ hl3,hg4,.nil,by show _=some (HO.lst ((ins++[]).map V.str));rw[List.append_nil];exact hkn4,S3.trans s4,by rw[hwr];show _=goW 1 rest (ins++[]);rw[List.append_nil]⟩ ?_ ?_
   ·rintro i σ H5 hi ⟨gs,v5,v6,rfl,hr5,ra5,hl5,hg5,hga5,hkn5,S5,hw5⟩;have ei:(1:Int)+(i:Int)=((i+1:Nat):Int):=by omega
    obtain⟨ws,hws⟩:∃ ws,rest[i]?=some ws:=⟨_,List.getElem?_eq_getElem hi⟩;obtain⟨nw,mw,ascw⟩:=R.r ws (List.mem_cons_of_mem _ (List.mem_of_getElem? hws));obtain⟨x,ns,rfl⟩:∃ x ns,ws=x::ns:=by
     cases ws with
     | nil=>exact absurd rfl nw
     | cons a b=>exact⟨a,b,rfl⟩
    have hdrop:rest.drop i=(x::ns)::rest.drop (i+1):=by rw[List.drop_eq_getElem_cons hi];rw[(List.getElem?_eq_some_iff.mp hws).2]
    rw[hdrop] at hw5;obtain⟨a,ea,ra⟩:=ra5.get (i:=i+1) (r:=x::ns) (by rw[List.getElem?_cons_succ];exact hws);have mn:ns.length<=4000:=by rw[List.length_cons] at mw;omega
    refine⟨_,rfl,_,rfl,r,_,_,.ref a,rfl,rfl,SqL.of hr5,(by rw[ei];exact aaq (by rw[List.getElem?_map,ea];rfl)),?_⟩;refine⟨_,rfl,a,_,_,.str x,rfl,rfl,SqL.of ra,at0 _ _,rfl,_,rfl,?_⟩;by_cases hx:x = "out"
    ·rw[decide_eq_true (show V.str x=V.str (Str.ofString "out") by rw[hx])];refine iteT ?_;have hwe:aav ((x0::ins)::rest)=if aei ns (kn' i)=true then (if rest.drop (i+1)=[] then none else some (i+2)) else some (i+1):=by rw[hw5];unfold goW;rw[if_pos (show (x::ns).headD "" = "out" from hx)];rfl
     refine⟨_,rfl,_,rfl,_,rfl,r,kn,a,as,i+1,x,ns,kn' i,?_,SqL.of hr5,ea,ra,SqL.of hkn5,by omega,mn,fun hok hn H6 s6=>?_,fun hf=>?_,fun hok hn=>?_⟩
     ·rw[ei];rfl
     ·have hnil:rest.drop (i+1)=[]:=List.drop_eq_nil_of_le (by omega);rw[if_pos hok,if_pos hnil] at hwe;have er:rest=rest.take i++[x::ns]:=by
       have:=(List.take_append_drop i rest).symm;rw[hdrop,hnil] at this;exact this
      have ec:adt ((x0::ins)::rest)=⟨ins,(rest.take i).map gOf,ns⟩:=by
       unfold adt;have e2:((x0::ins)::rest).getLastD []=x::ns:=by rw[er];exact aqb
       have e3:rest.dropLast=rest.take i:=by
        have:=congrArg List.dropLast er;rw[List.dropLast_concat] at this;exact this
       rw[e2];show (⟨ins,rest.dropLast.map gOf,ns⟩:Cel)=_;rw[e3]
      have k:=kok hwe;rw[ec] at k;have S6:=S5.trans s6;refine⟨_,rfl,_,rfl,g,_,rfl,.inl ⟨SqL.of (s6 _ _ hg5),fun gt ngt=>?_⟩⟩;have s7:Same H6 (upd H6 gt (.tup (gs.map V.ref))):=Same.new ngt;refine⟨_,rfl,_,rfl,a,_,rfl,SqL.of (s7 _ _ (s6 _ _ ra)),fun p1 n1=>⟨p1,_,rfl,.inl ⟨SqL.of aaa,fun o no=>?_⟩⟩⟩;have e3:cutV ((x::ns).map V.str) (some 1) none=ns.map V.str:=aeh (x::ns) 1;rw[e3];rw[e3] at no;have s8:=(s7.trans (Same.new (o:=.lst (ns.map V.str)) n1)).trans (Same.new (o:=.tup (ns.map V.str)) no);refine⟨(by show 3<=sizeLine;decide),fun ce nce=>?_⟩;have s9:=s8.trans (Same.new (o:=.tup [V.ref l,V.ref gt,V.ref o]) nce);refine k ce _ (S6.free (s8.free nce)) ⟨l,gt,o,gs,aaa,s9 _ _ (s6 _ _ hl5),?_,?_,(hga5.mono (Tups.of_same (s6.trans s9)))⟩ (S6.trans s9)
      ·exact (Same.new nce) _ _ ((Same.new no) _ _ ((Same.new n1) _ _ aaa))
      ·exact (Same.new nce) _ _ aaa
     ·rw[if_neg (by rw[hf];decide)] at hwe;exact fun dd H' nd hx sm=>⟨H5,i+1,dd,S5,hwe,rfl,rfl,nd,hx,sm⟩
     ·have hne:rest.drop (i+1)≠[]:=fun z=>by
       have:=List.drop_eq_nil_iff.mp z;omega
      rw[if_pos hok,if_neg hne] at hwe;exact fun dd H' nd hx sm=>⟨H5,i+2,dd,S5,hwe,rfl,rfl,nd,hx,sm⟩
    ·rw[decide_eq_false (show ¬ V.str x=V.str (Str.ofString "out") from fun e=>hx (by injection e))];refine iteF ?_;have hwe:aav ((x0::ins)::rest)=if ae8 (x::ns) (kn' i)=true then goW (i+2) (rest.drop (i+1)) (kn' i++[x]) else some (i+1):=by rw[hw5];exact (if_neg (show ¬ (x::ns).headD "" = "out" from hx):(if (x::ns).headD "" = "out" then _ else _)=_)
     refine⟨_,rfl,_,rfl,a,kn,x::ns,kn' i,rfl,SqL.of ra,SqL.of hkn5,by simp,mw,ascw,fun H6 s6=>⟨_,rfl,?_⟩⟩;cases hgo:ae8 (x::ns) (kn' i) with
     | false =>
      rw[if_neg (by rw[hgo];decide)] at hwe;refine (if_pos rfl).mpr ⟨_,rfl,(by show 1<=10;decide),fun a' nA=>⟨a',((i+1:Nat):Int),by rw[← ei],by omega,aaa,fun dd nD=>⟨rfl,a',CC,N,dd,bm,_,rfl,aaa,O.xc,O.bb,fun T' nT=>(raise (S5.trans s6) hwe).thrown nA nD nT⟩⟩⟩
     | true =>
      rw[if_pos hgo] at hwe;obtain⟨y,ms,rfl⟩:∃ y ms,ns=y::ms:=by
       cases ns with
       | nil=>cases hgo
       | cons a b=>exact⟨a,b,rfl⟩
      refine iteF ?_;have ra6:ak0 H6 a (x::y::ms):=s6 _ _ ra;have e2:cutV ((x::y::ms).map V.str) (some 2) none=ms.map V.str:=aeh (x::y::ms) 2;refine⟨_,rfl,.inl ⟨rfl,_,SqL.of (s6 _ _ hg5)⟩,_,rfl,a,_,_,.str x,rfl,rfl,SqL.of ra6,at0 _ _,_,rfl,a,_,_,.str y,rfl,rfl,SqL.of ra6,at1 _ _ _,_,rfl,_,rfl,a,_,rfl,SqL.of ra6,fun p1 n1=>⟨p1,_,rfl,.inl ⟨SqL.of aaa,fun q nq=>?_⟩⟩⟩;rw[e2];rw[e2] at nq;refine⟨(by show 3<=sizeLine;decide),fun t nt=>?_⟩;have s9:Same H6 (upd (upd (upd H6 p1 (.lst (ms.map V.str))) q (.tup (ms.map V.str))) t (.tup [V.str x,V.str y,V.ref q])):=((Same.new n1).trans (Same.new nq)).trans (Same.new nt);have ht9:upd (upd (upd H6 p1 (.lst (ms.map V.str))) q (.tup (ms.map V.str))) t (.tup [V.str x,V.str y,V.ref q]) t=some (.tup [V.str x,V.str y,V.ref q]):=aaa;have hq9:upd (upd (upd H6 p1 (.lst (ms.map V.str))) q (.tup (ms.map V.str))) t (.tup [V.str x,V.str y,V.ref q]) q=some (.tup (ms.map V.str)):=(Same.new nt) _ _ aaa;generalize upd (upd (upd H6 p1 (.lst (ms.map V.str))) q (.tup (ms.map V.str))) t (.tup [V.str x,V.str y,V.ref q])=H9 at s9 ht9 hq9 ⊢;have s59:=s6.trans s9;have hg9:=s59 _ _ hg5;have hgl:gs.length=i:=by rw[hga5.length,List.length_map,List.length_take];omega
      refine⟨g,_,_,rfl,rfl,hg9,?_,?_⟩
      ·rw[List.length_map];exact Nat.lt_of_lt_of_le (show gs.length<9000 by omega) (by decide)
      have hkn9:=s59 _ _ hkn5;have ra9:=ra5.same s59;have hkn10:upd H9 g (.lst (gs.map V.ref++[V.ref t])) kn=some (.lst ((kn' i).map V.str)):=by rw[aac nkg.symm];exact hkn9
      have aa:a∈as:=List.mem_of_getElem? ea;have ra10:ak0 (upd H9 g (.lst (gs.map V.ref++[V.ref t]))) a (x::y::ms):=by unfold ak0;rw[aac (ag a aa)];exact s59 _ _ ra
      refine⟨_,rfl,.inl ⟨rfl,_,SqL.of hkn10⟩,_,rfl,a,_,_,.str x,rfl,rfl,SqL.of ra10,at0 _ _,kn,_,_,rfl,rfl,hkn10,?_,?_⟩
      ·rw[List.length_map];exact Nat.lt_of_le_of_lt (hnl i) (by decide)
      have et:rest.take (i+1)=rest.take i++[x::y::ms]:=by rw[List.take_add_one,hws];rfl
      have ek:kn' (i+1)=kn' i++[x]:=by show ins++(rest.take (i+1)).map (·.headD "")=_;rw[et,List.map_append,← List.append_assoc];rfl
      have tp:Tups H5 (upd (upd H9 g (.lst (gs.map V.ref++[V.ref t]))) kn (.lst ((kn' i).map V.str++[V.str x]))):=(Tups.of_same s59).trans ((Tups.lst hg9).trans (Tups.lst hkn10));have tp9:Tups H9 (upd (upd H9 g (.lst (gs.map V.ref++[V.ref t]))) kn (.lst ((kn' i).map V.str++[V.str x]))):=(Tups.lst hg9).trans (Tups.lst hkn10);have e9:(rest.take (i+1)).map gOf=(rest.take i).map gOf++[gOf (x::y::ms)]:=by rw[et];exact List.map_append ..
      have e10:(kn' (i+1)).map V.str=(kn' i).map V.str++[V.str x]:=by rw[ek];exact List.map_append ..
      refine⟨gs++[t],_,_,rfl,?_,(ra9.other ag).other akn,tp _ _ hl5,?_,?_,?_,?_,?_⟩
      ·rw[aac rkn,aac rg];exact s59 _ _ hr5
      ·rw[aac nkg,aaa];simp
      ·rw[e9];exact aea (hga5.mono tp) (show ao4 _ t (gOf (x::y::ms)) from ⟨q,tp9 _ _ ht9,tp9 _ _ hq9⟩)
      ·rw[aaa,e10]
      ·intro b o e;rw[aac (aab e zkn),aac (aab e zg)];exact (S5.trans s59) b o e
      ·rw[ek];exact hwe
   ·rintro σ H5 h;exact hu' _ _ h
  rintro σ H5 ⟨gs,v5,v6,rfl,hr5,ra5,hl5,hg5,hga5,hkn5,S5,hw5⟩;have hw6:aav ((x0::ins)::rest)=some (rest.length+1):=by rw[hw5,List.drop_length];rfl
  refine⟨_,aah (aeu (aed (x := "NoCell") O.xc O.kp lI cI FI (hr.mono (by decide)) (by rfl) O.mCC bI (pa_c (aam aap (by rfl) T.len PySem.boot_len (pa_c (pv 1) aad)) aad))),?_⟩;have en:(((as.map V.ref).length:Nat):Int)=((rest.length+1:Nat):Int):=by rw[List.length_map,hal]
  refine⟨_,rfl,r,_,rfl,.inl (SqL.of hr5),(by show 1<=10;decide),fun a' nA=>⟨a',_,rfl,by rw[en];omega,aaa,fun dd nD=>⟨rfl,a',CC,N,dd,bm,_,rfl,aaa,O.xc,O.bb,fun T' nT=>?_⟩⟩⟩;have rz:=raise S5 hw6;rw[← en] at rz;exact rz.thrown nA nD nT
end
def encG (g:Str×Str×List Str):D:=.tup [.str g.1,.str g.2.1,.tup (g.2.2.map D.str)]
def encC (C:Cel):D:=.tup [.tup (C.ins.map D.str),.tup (C.gates.map encG),.tup (C.outs.map D.str)]
theorem aax {t u:TSd}{dk:List Addr}{De:DEnds}{ρ:List Sl}(I:List Sl->Prop) (h1:∀ N:List Sl->Prop,(∀ ρ',I ρ'->N ρ')->t dk { De with nx:=N } ρ) (h2:∀ ρ',I ρ'->u dk De ρ'):sSeq t u dk De ρ:=h1 _ h2
theorem for_at {ι:TId}{g:TGd}{tb:TSd}{dk:List Addr}{De:DEnds}{ρ:List Sl}(ds:List D) (ρ1:List Sl) (hι:∀ Ψ:List D->List Sl->Prop,Ψ ds ρ1->ι dk ρ Ψ) (Pv:Nat->List Sl->Prop) (h0:Pv 0 ρ1)
  (hs:∀ (i:Nat) d ρ',ds[i]?=some d->Pv i ρ'->g d ρ' fun ρ2=>tb dk { nx:=Pv (i+1),ct:=Pv (i+1),bk:=De.nx,rt:=De.rt } ρ2) (hd:∀ ρ',Pv ds.length ρ'->De.nx ρ'):sFor ι g tb dk De ρ:=hι _ ⟨Pv,h0,hs,hd⟩
theorem aq0 {lo:Int}{n i:Nat}{d:D}(h:(agh lo n)[i]?=some d):i<n/\d = .int (lo+i):=by
 unfold agh at h;rw[List.getElem?_map] at h;cases e:(List.range n)[i]? with
 | none=>rw[e] at h;cases h
 | some y =>
  rw[e] at h;obtain⟨hl,hy⟩:=List.getElem?_eq_some_iff.mp e;rw[List.length_range] at hl;rw[List.getElem_range] at hy;subst hy;exact⟨hl,(Option.some.inj h).symm⟩
end Lw
namespace L2
open PySem PySem.Spec PyProof.Rows Lw
section
variable {X:Cx}{K:PySem.W.Frag}
def auo (xs:List Str):TEd:=fun _ ρ Φ=>Φ (.own (.lst (xs.map D.str))) ρ
theorem ain {A:Addr->Prop}{H:Hp}:∀ xs:List Str,Reps K A H (xs.map D.str) (xs.map V.str)
 | []=>.nil
 | x::xs=>.cons (.str x) (ain xs)
theorem aoy {pos:Pos}(l:List (Str×Nat×Pos)) (hl:l.length<=1000:=by decide):PD X (.List (l.map fun p=>.Constant (.str p.1) p.2.1 p.2.2) pos) (auo (l.map (·.1))) :=
 (aaz (adp l)).mono fun σ H Q hq0=>hq0.elim fun B ρ T Φ hl' hd ht k=>⟨by rw[List.length_map,List.length_map];exact Nat.le_trans hl (by decide),fun p hp=>k _ ρ _ _ hl' (hd.lstF hp (ain _)).mid ht⟩
end
end L2
namespace Lw
open PySem L2
theorem acb (xs:List Str):af5 (xs.map D.str)=some (xs.map V.str):=aim (fun _=>rfl) xs
theorem ac4 {x:Str}:∀ xs:List Str,inV (.str x) (xs.map V.str)=decide (x∈xs)
 | []=>by simp[inV]
 | y::xs=>by
  have ih:=ac4 (x:=x) xs;unfold inV at ih ⊢;rw[List.map_cons,List.any_cons,ih];by_cases e:x=y
  ·subst e;have:eqV (V.str x) (V.str x)=true:=beq_self_eq_true x;simp[this]
  ·have:eqV (V.str y) (V.str x)=false:=by
    show (y == x)=false;exact beq_eq_false_iff_ne.mpr fun z=>e z.symm
   have:eqV (V.str x) (V.str y)=false:=by
    show (x == y)=false;exact beq_eq_false_iff_ne.mpr e
   simp[*]
theorem aem {p q:Prop}{c:Bool}(h:c=false) (hq:q):if c=true then p else q:=by rw[if_neg (by rw[h];decide)];exact hq
theorem adv {p q:Prop}{c:Bool}(h:c=true) (hp:p):if c=true then p else q:=by rw[if_pos h];exact hp
theorem asp:(["sign"]:List Str).Nodup:=by decide +kernel
def ahf:List Str:=["and","or","odd","most","not","one","nil","in","out"]
theorem alw {z:Str}(h:(aao z).isSome=true):z∈ahf:=by
 unfold aao at h;unfold ahf;by_cases h1:z = "and" \/ z = "or" \/ z = "odd"
 ·rcases h1 with rfl | rfl | rfl<;>simp
 ·rw[if_neg h1] at h;by_cases h2:z = "most"
  ·subst h2;simp
  ·rw[if_neg h2] at h;by_cases h3:z = "not"
   ·subst h3;simp
   ·rw[if_neg h3] at h;by_cases h4:z = "one" \/ z = "nil"
    ·rcases h4 with rfl | rfl<;>simp
    ·rw[if_neg h4] at h;cases h
theorem ari {z:Str}(h:z∈ahf):isNm z=false:=by
 unfold ahf at h;simp only[List.mem_cons,List.not_mem_nil,or_false] at h;rcases h with rfl | rfl | rfl | rfl | rfl | rfl | rfl | rfl | rfl<;>decide +kernel
theorem arh {z:Str}(h1:z∉ahf) (h2:z ≠ "") (h3:z.length<=8):isNm z=z.cps.toList.all ae5:=by
 have e1:(aao z).isSome=false:=by
  cases e:(aao z).isSome with
  | false=>rfl
  | true=>exact absurd (alw e) h1
 have e2:z∉aqf:=fun q=>h1 (by unfold aqf at q;unfold ahf;simp only[List.mem_cons,List.not_mem_nil,or_false] at q ⊢;rcases q with q | q<;>simp[q])
 have e3:(1:Int)<=z.length:=by
  by_cases q:z.length=0
  ·exfalso;apply h2;obtain⟨c⟩:=z;have:c.size=0:=q;rw[Array.eq_empty_of_size_eq_zero this];decide +kernel
  ·omega
 have e4:(z.length:Int)<=8:=by omega
 unfold isNm;rw[e1,decide_eq_false e2,decide_eq_true e3,decide_eq_true e4];simp
def avd:RD:=fun dk ds Φ=>∃ z:Str,ds=[.str z]/\Asc z/\Φ (.val (.bl (isNm z)))
section
variable {P:Program}{w:World}{K:PySem.W.Frag}{mg:Str->Option Value}{base:Heap}
theorem ahp:FnScope ["word"] ["word"] (aae abo):=⟨rfl,rfl,rfl,by decide +kernel,rfl,by decide +kernel,by decide +kernel⟩
set_option maxHeartbeats 1000000 in
theorem ok_isn {f:Addr}{fd:FuncData}(F:Fun K "_law_is_name" "_law_is_name" abo f fd) (T:Txt mg):FnOk P w K mg base CX0 1 f fd ["word"] (spD K avd):=by
 refine F.okD (k:=0) ahp (fun dk ds Φ ⟨_,e,_⟩=>by rw[e];rfl) (by decide) fun cdv A outer s H E dk ds Φ hr hR=>?_
 have hu:=ajf hr;obtain⟨z,rfl,hz,hΦ⟩:=hR;refine⟨_,(aal (s_if (al2 (ah0 (ab0 (ah3 hu) (aiu false) (pv 0) (aoy [("and",_,_),("or",_,_),("odd",_,_),("most",_,_),("not",_,_),("one",_,_),("nil",_,_),("in",_,_),("out",_,_)])) (ah0 (ab0 (acp hr.units) (adw false) (pv 0) abm) (ajk (adc ar7 ar1 (aa0 aaw acn (by rfl) T.len PySem.boot_len (pa_k (pd_v 0 (pv 0)) pa_n)) aaj))))) (abc (ad0 pd_bl)) aej) (abc (ad0 (afk (acp hr.units) (adw false) (ano ["sign"] [] [] rfl (i_v (pd_v 0 (pv 0))) rfl rfl (fun _ _ _ _ _=>(g_n (i:=0) asp rfl (Or.inl rfl))) (fun _ _ _ _ _=>(aph (ab0 (ahd hu) (aiu true) (pv 0) abm))) (fun _ _ _ _ _=>(pd_v 0 (pv 0)))) (adf pa_n))))),?_⟩;by_cases h1:z∈ahf
 ·rw[ari h1] at hΦ;refine⟨rfl,.str z,ahf.map V.str,rfl,acb ahf,?_⟩;rw[ac4];exact adv (decide_eq_true h1) (adv rfl hΦ)
 ·refine⟨rfl,.str z,ahf.map V.str,rfl,acb ahf,?_⟩;rw[ac4];refine aem (decide_eq_false h1) ⟨rfl,?_⟩;by_cases h2:z = ""
  ·have e:isNm z=false:=by subst h2;decide +kernel
   rw[e] at hΦ;exact adv (decide_eq_true h2) (adv rfl hΦ)
  ·refine aem (decide_eq_false h2) ⟨decide_eq_true (by have:=hz.2;omega),_,rfl,?_⟩;by_cases h3:z.length<=8
   ·rw[arh h1 h2 h3] at hΦ;refine aem (decide_eq_false (show ¬ (8:Int)<(z.length:Int) by omega)) ?_;unfold sNil sRet d2;dsimp only;refine am7 z.cps.toList (fun c=>D.str ⟨#[c]⟩) (fun c=>D.str ⟨#[c]⟩) (fun c=>!ae5 c) [.val (.str z)] (fun Ψ h=>?_) ?_ (fun i c ys Nx e h1 h2 h3=>?_) ?_
    ·show (match (if z.cps.all (·<128) then some (ahb z) else none) with | some ds=>Ψ ds _ | none=>False);rw[if_pos hz.1];exact h
    ·have:=hz.2;show z.cps.toList.length<=100000;rw[Array.length_toList];exact Nat.le_trans this (by decide)
    ·refine⟨rfl,_,rfl,?_⟩;show if (!ae5 c)=true then _ else _
     cases e2:ae5 c with
     | true=>exact aem rfl (h3 (by rw[e2];rfl))
     | false=>exact adv rfl ⟨h1,h2 (by rw[e2];rfl)⟩
    ·refine⟨by show 0<=1000;decide,?_⟩;have e3:((z.cps.toList.filter fun c=>!ae5 c).map fun c=>D.str ⟨#[c]⟩).isEmpty=z.cps.toList.all ae5:=by
      induction z.cps.toList with
      | nil=>rfl
      | cons c l ih =>
       rw[List.all_cons,List.filter_cons];cases e4:ae5 c with
       | true=>exact ih
       | false=>rfl
     show Φ (.val (.bl (nb false ((z.cps.toList.filter fun c=>!ae5 c).map fun c=>D.str ⟨#[c]⟩).isEmpty)));rw[e3];exact hΦ
   ·have e:isNm z=false:=by
     unfold isNm;rw[decide_eq_false (show ¬ (z.length:Int)<=8 by omega)];simp
    rw[e] at hΦ;exact adv (decide_eq_true (show (8:Int)<(z.length:Int) by omega)) hΦ
end
theorem ahn:(["name","known"]:List Str).Nodup:=by decide +kernel
theorem ady {α:Type}(f:α->D) (xs:List α) (k:Nat):cutD (xs.map f) (some (k:Int)) none=(xs.drop k).map f:=by
 unfold cutD;rw[List.length_map,HT.sIx_nat,HT.sIx_none,List.map_drop,List.take_of_length_le (by simp)];by_cases h:k<=xs.length
 ·rw[Nat.min_eq_left h]
 ·rw[Nat.min_eq_right (by omega),List.drop_eq_nil_of_le (by simp),List.drop_eq_nil_of_le (by simp;omega)]
def l3:List Str:=["and","or","odd"]
def l2:List Str:=["one","nil"]
def am8 (n:Int) (b1 b2 b3 b4:Bool):Bool:=((decide (n=2)||decide (n=3))&&b1||decide (n=3)&&b2)||(decide (n=1)&&b3||decide (n=0)&&b4)
theorem aup (n:Int) (y:Str):am8 n (decide (y∈l3)) (decide (y = "most")) (decide (y = "not")) (decide (y∈l2))=decide (n∈(aao y).getD []):=by
 by_cases h1:y = "and" \/ y = "or" \/ y = "odd"
 ·have e:aao y=some [2,3]:=by unfold aao;rw[if_pos h1]
  have e1:decide (y∈l3)=true:=by rcases h1 with rfl | rfl | rfl<;>decide +kernel
  have e2:decide (y = "most")=false:=by rcases h1 with rfl | rfl | rfl<;>decide +kernel
  have e3:decide (y = "not")=false:=by rcases h1 with rfl | rfl | rfl<;>decide +kernel
  have e4:decide (y∈l2)=false:=by rcases h1 with rfl | rfl | rfl<;>decide +kernel
  rw[e,e1,e2,e3,e4];unfold am8;simp
 ·have n1:decide (y∈l3)=false:=decide_eq_false fun q=>h1 (by unfold l3 at q;simpa using q)
  by_cases h2:y = "most"
  ·subst h2;rw[n1,show aao "most" = some [3] by decide +kernel,show decide (("most" : Str) = "most")=true by decide +kernel,show decide (("most" : Str) = "not")=false by decide +kernel,show decide (("most" : Str)∈l2)=false by decide +kernel];unfold am8;simp
  ·by_cases h3:y = "not"
   ·subst h3;rw[n1,show aao "not" = some [1] by decide +kernel,show decide (("not" : Str) = "most")=false by decide +kernel,show decide (("not" : Str) = "not")=true by decide +kernel,show decide (("not" : Str)∈l2)=false by decide +kernel];unfold am8;simp
   ·by_cases h4:y = "one" \/ y = "nil"
    ·have e:aao y=some [0]:=by unfold aao;rw[if_neg h1,if_neg h2,if_neg h3,if_pos h4]
     have e4:decide (y∈l2)=true:=by rcases h4 with rfl | rfl<;>decide +kernel
     rw[n1,e,e4,decide_eq_false h2,decide_eq_false h3];unfold am8;simp
    ·have e:aao y=none:=by unfold aao;rw[if_neg h1,if_neg h2,if_neg h3,if_neg h4]
     have e4:decide (y∈l2)=false:=decide_eq_false fun q=>h4 (by unfold l2 at q;simpa using q)
     rw[n1,e,e4,decide_eq_false h2,decide_eq_false h3];unfold am8;simp
theorem andV {t u:TEd}{dk:List Addr}{ρ:List Sl}{Φ:Sl->List Sl->Prop}(c e:Bool) (ht:∀ Ψ:Sl->List Sl->Prop,Ψ (.val (.bl c)) ρ->t dk ρ Ψ) (hu:∀ Ψ:Sl->List Sl->Prop,Ψ (.val (.bl e)) ρ->u dk ρ Ψ) (h:Φ (.val (.bl (c&&e))) ρ):akv t u dk ρ Φ:=by
 unfold akv;refine ht _ ?_;cases c
 ·exact h
 ·exact hu _ h
theorem orV {t u:TEd}{dk:List Addr}{ρ:List Sl}{Φ:Sl->List Sl->Prop}(c e:Bool) (ht:∀ Ψ:Sl->List Sl->Prop,Ψ (.val (.bl c)) ρ->t dk ρ Ψ) (hu:∀ Ψ:Sl->List Sl->Prop,Ψ (.val (.bl e)) ρ->u dk ρ Ψ) (h:Φ (.val (.bl (c||e))) ρ):avh t u dk ρ Φ:=by
 unfold avh;refine ht _ ?_;cases c
 ·exact hu _ h
 ·exact h
theorem inV_23 (n:Int):inV (.int n) [.int 2,.int 3]=(decide (n=2)||decide (n=3)):=by
 have a:∀ k:Int,(k == n)=decide (n=k):=fun k=>by
  by_cases h:n=k
  ·subst h;simp
  ·rw[decide_eq_false h];exact beq_eq_false_iff_ne.mpr fun e=>h e.symm
 show ((2 == n)||((3 == n)||false))=_;rw[a,a,Bool.or_false]def R_isg:RD:=fun dk ds Φ=>∃ (x:Str) (ws kn:List Str),ds=[.lst ((x::ws).map D.str),.lst (kn.map D.str)]/\ws.length<=4000/\kn.length<=9000/\Asc x/\Φ (.val (.bl (ae8 (x::ws) kn)))
section
variable {P:Program}{w:World}{K:PySem.W.Frag}{mg:Str->Option Value}{base:Heap}
theorem acv:FnScope ["words","known","many","fits"] ["words","known"] (aae ab3):=⟨rfl,rfl,rfl,by decide +kernel,rfl,by decide +kernel,by decide +kernel⟩
set_option maxHeartbeats 1000000 in
theorem ok_isg {f fN:Addr}{fd fdN:FuncData}(F:Fun K "_law_is_gate" "_law_is_gate" ab3 f fd) (T:Txt mg) (awa:Gd K mg "_law_is_name" abo ["word"] fN fdN) (awg:FnOk P w K mg base CX0 1 fN fdN ["word"] (spD K avd)):FnOk P w K mg base CX0 2 f fd ["words","known"] (spD K R_isg):=by
 refine F.okD (k:=1) acv (fun dk ds Φ ⟨_,_,_,e,_⟩=>by rw[e];rfl) (by decide) fun cdv A outer s H E dk ds Φ hr hR=>?_
 have hu:=ajf hr;obtain⟨x,ws,kn,rfl,lw,lk,hx,hΦ⟩:=hR;refine⟨_,(aal (s_if (al2 (ah0 (adc ak1 anv (aa0 aaw acn (by rfl) T.len PySem.boot_len (pa_k (pd_v 0 (pv 0)) pa_n)) aaj) (ah0 (ald (aut (abp awg (hr.mono (by decide)) (by rfl) awa.m awa.k awa.b (pa_k (ab8 hu (pv 0) aaj) pa_n)))) (ajk (ajs (ah3 hu) (aiu false) (ab8 hu (pv 0) aaj) (pv 1)))))) (abc (ad0 pd_bl)) aej) (aal (ac2 (i:=2) acv.nd rfl (Or.inl rfl) (afg ao6 od_sub (aa0 aaw acn (by rfl) T.len PySem.boot_len (pa_k (pd_v 0 (pv 0)) pa_n)) aaj)) (aal (ac2 (i:=3) acv.nd rfl (Or.inl rfl) (avy (aia (ajt (ah3 hu) (aiu false) (pv 2) (aqk (pa_k aaj (pa_k aaj pa_n)))) (aer (afk (ah3 hu) (aiu false) (ab8 hu (pv 0) aaj) (adf (pa_k abm (pa_k abm (pa_k abm pa_n))))))) (aer (aia (ajt (acp hr.units) (adw false) (pv 2) aaj) (aer (afk (acp hr.units) (adw false) (ab8 hu (pv 0) aaj) abm)))))) (aal (ac2 (i:=3) acv.nd rfl (Or.inl rfl) (avy (pd_v 3 (pv 3)) (avy (aia (ajt (acp hr.units) (adw false) (pv 2) aaj) (aer (afk (acp hr.units) (adw false) (ab8 hu (pv 0) aaj) abm))) (aer (aia (ajt (acp hr.units) (adw false) (pv 2) aaj) (aer (afk (ah3 hu) (aiu false) (ab8 hu (pv 0) aaj) (adf (pa_k abm (pa_k abm pa_n)))))))))) (abc (ad0 (aia (pd_v 3 (pv 3)) (aer (afk (acp hr.units) (adw false) (ano ["name"] ["known"] [1] rfl (i_v (ac7 ach aeb (pv 0) (po_s aaj) po_n)) rfl rfl (fun _ _ _ _ _=>(g_n (i:=0) ahn rfl (Or.inl rfl))) (fun _ _ _ _ _=>(aph (ajs (ahd hu) (aiu true) (pd_v 0 (pv 0)) (pv 1)))) (fun _ _ _ _ _=>(pd_v 0 (pv 0)))) (adf pa_n)))))))))),?_⟩;cases ws with
 | nil =>
  refine⟨rfl,_,rfl,?_⟩;exact hΦ
 | cons y ns =>
  refine aax (fun ρ=>ρ=[.val (.lst ((x::y::ns).map D.str)),.val (.lst (kn.map D.str)),.no,.no]/\isNm x=true/\x∉kn) (fun N hN=>?_) ?_
  ·refine⟨rfl,_,rfl,rfl,_,aaq (j:=0) rfl,x,rfl,hx,.inl rfl,?_⟩;refine⟨rfl,_,rfl,?_⟩;have bad:isNm x=false\/x∈kn->ae8 (x::y::ns) kn=false:=fun h=>by
    show (isNm x && !decide (x∈kn)&&decide ((ns.length:Int)∈(aao y).getD [])&&aft ns kn)=false;rcases h with h | h
    ·rw[h];rfl
    ·rw[decide_eq_true h];simp
   cases hn:isNm x with
   | false =>
    rw[bad (.inl hn)] at hΦ;exact adv rfl (adv rfl hΦ)
   | true =>
    refine aem rfl ⟨rfl,_,aaq (j:=0) rfl,.str x,kn.map V.str,rfl,acb kn,?_⟩;rw[ac4];by_cases hk:x∈kn
    ·rw[bad (.inr hk)] at hΦ;exact adv (decide_eq_true hk) hΦ
    ·exact aem (decide_eq_false hk) (hN _ ⟨rfl,hn,hk⟩)
  rintro _ ⟨rfl,hnm,hkn⟩;refine aax (fun ρ=>ρ=[.val (.lst ((x::y::ns).map D.str)),.val (.lst (kn.map D.str)),.val (.int (ns.length:Int)),.no]) (fun N hN=>⟨rfl,_,rfl,?_⟩) ?_
  ·have e:((((x::y::ns).map D.str).length:Nat):Int)-2=(ns.length:Int):=by rw[List.length_map,List.length_cons,List.length_cons];omega
   have:=hN _ rfl;rw[← e] at this;exact this
  rintro _ rfl;refine aax (fun ρ=>ρ=[.val (.lst ((x::y::ns).map D.str)),.val (.lst (kn.map D.str)),.val (.int (ns.length:Int)),.val (.bl (inV (.int (ns.length:Int)) [.int 2,.int 3]&&inV (.str y) (l3.map V.str)||decide ((ns.length:Int)=3)&&decide (y = "most")))]) (fun N hN=>?_) ?_
  ·unfold sSet;refine orV _ _ (fun Ψ h=>andV _ _ (fun Ψ h=>⟨rfl,by show 2<=1000;decide,.int (ns.length:Int),[.int 2,.int 3],rfl,rfl,h⟩) (fun Ψ h=>⟨rfl,_,aaq (j:=1) rfl,by show 3<=1000;decide,.str y,l3.map V.str,rfl,acb l3,h⟩) h) (fun Ψ h=>andV _ _ (fun Ψ h=>⟨rfl,h⟩) (fun Ψ h=>⟨rfl,_,aaq (j:=1) rfl,h⟩) h) (hN _ rfl)
  rintro _ rfl;refine aax (fun ρ=>ρ=[.val (.lst ((x::y::ns).map D.str)),.val (.lst (kn.map D.str)),.val (.int (ns.length:Int)),.val (.bl (decide ((ns.length:Int)∈(aao y).getD [])))]) (fun N hN=>?_) ?_
  ·have e:((inV (.int (ns.length:Int)) [.int 2,.int 3]&&inV (.str y) (l3.map V.str)||decide ((ns.length:Int)=3)&&decide (y = "most"))||(decide ((ns.length:Int)=1)&&decide (y = "not")||decide ((ns.length:Int)=0)&&inV (.str y) (l2.map V.str)))=decide ((ns.length:Int)∈(aao y).getD []):=by
    rw[inV_23,ac4,ac4];exact aup _ y
   have k:=hN _ rfl;rw[← e] at k;unfold sSet;exact orV _ _ (fun Ψ h=>h) (fun Ψ h=>orV _ _ (fun Ψ h=>andV _ _ (fun Ψ h=>⟨rfl,h⟩) (fun Ψ h=>⟨rfl,_,aaq (j:=1) rfl,h⟩) h) (fun Ψ h=>andV _ _ (fun Ψ h=>⟨rfl,h⟩) (fun Ψ h=>⟨rfl,_,aaq (j:=1) rfl,by show 2<=1000;decide,.str y,l2.map V.str,rfl,acb l2,h⟩) h) h) k
  rintro _ rfl;have hg:ae8 (x::y::ns) kn=(decide ((ns.length:Int)∈(aao y).getD [])&&aft ns kn):=by
   show (isNm x && !decide (x∈kn)&&decide ((ns.length:Int)∈(aao y).getD [])&&aft ns kn)=_;rw[hnm,decide_eq_false hkn];rfl
  rw[hg] at hΦ;unfold sRet;refine andV _ _ (fun Ψ h=>h) (fun Ψ h=>?_) hΦ;unfold d2;refine am7 ns D.str D.str (fun q=>!decide (q∈kn)) [.val (.lst ((x::y::ns).map D.str)),.val (.lst (kn.map D.str)),.val (.int (ns.length:Int)),.val (.bl (decide ((ns.length:Int)∈(aao y).getD [])))] (fun Ψ h=>?_) (by rw[List.length_cons] at lw;omega) (fun i q ys Nx e h1 h2 h3=>?_) ?_
  ·have e2:cutD ((x::y::ns).map D.str) (some ((2:Nat):Int)) none=ns.map D.str:=ady D.str (x::y::ns) 2;rw[← e2] at h;exact⟨rfl,h⟩
  ·refine⟨.str q,kn.map V.str,rfl,acb kn,?_⟩;rw[ac4];show if (!decide (q∈kn))=true then _ else _
   by_cases hq:q∈kn
   ·exact aem (by rw[decide_eq_true hq];rfl) (h3 (by rw[decide_eq_true hq];rfl))
   ·exact adv (by rw[decide_eq_false hq];rfl) ⟨h1,h2 (by rw[decide_eq_false hq];rfl)⟩
  ·refine⟨by show 0<=1000;decide,?_⟩;have e3:((ns.filter fun q=>!decide (q∈kn)).map D.str).isEmpty=aft ns kn:=by
    clear hΦ h hg lw;unfold aft;induction ns with
    | nil=>rfl
    | cons c l ih =>
     rw[List.all_cons,List.filter_cons];cases e4:decide (c∈kn) with
     | true=>exact ih
     | false=>rfl
   rw[← e3] at h;exact h
end
end Lw
namespace L2
open PySem PySem.Spec PyProof.Rows
def auu (i:Nat):TEd:=fun _ ρ Φ=>∃ ns:List Str,at? ρ i=some (.lst (ns.map D.str))/\ns.length<=4000/\Φ (.val (.int ((ddS ns).length:Nat))) ρ
theorem aca {K:PySem.W.Frag}{A:Addr->Prop}{H:Hp}:∀ {xs:List Str}{vs:List V},Reps K A H (xs.map D.str) vs->vs=xs.map V.str
 | [],_,r=>by cases r;rfl
 | x::xs,_,r=>by
  cases r with
  | cons h r=>rw[h.str_inv,aca r];rfl
section
variable {X:Cx}
theorem akz {i:Nat}{e:Expr}{t:TE}(h:PE X e t) (ht:∀ σ H Q,(∃ v,σ[i]?=some (some v)/\∃ (a:Addr) (ns:List Str),v = .ref a/\SqL X.K H a (ns.map V.str)/\ns.length<=4000/\∀ p,H p=none->Q (.int ((ddS ns).length:Nat)) (upd H p (SetN X.prog X.w p (ddS ns).length)))->t σ H Q):PD X e (auu i) :=
 h.mono fun σ H Q hq0=>hq0.elim fun B ρ T Φ hl hd htt k=>by
  obtain⟨ns,hi,hlen,hΦ⟩:=htt;obtain⟨v,hv,pv⟩:=hd.peek hl hi;obtain⟨a,vs,rfl,ha,rr⟩:=pv;rw[aca rr] at ha;exact ht σ H Q ⟨_,hv,a,ns,rfl,SqL.of ha,hlen,fun p np=>k _ ρ _ _ hl ((hd.laid np).push (.int _)) hΦ⟩
end
end L2
namespace Lw
open PySem L2
theorem auj:(["row"]:List Str).Nodup:=by decide +kernel
theorem as5:(["name"]:List Str).Nodup:=by decide +kernel
theorem ahr:(["name","known"]:List Str).Nodup:=by decide +kernel
structure TextOk (z:Str):Prop where
 l:z.length<=1000000
 r:∀ r∈Txt.split z nlS,r.length<=1000000
 ok:RowsOk (abf z)
def oN:Option Nat->D
 | none=>.non
 | some n=>.int (n:Int)
def agf (rs:List (List Str)):D:=.lst (rs.map fun r=>D.lst (r.map D.str))
def R_wr:RD:=fun dk ds Φ=>∃ z:Str,ds=[.str z]/\TextOk z/\Φ (.val (oN (aav (abf z))))
theorem all_in (ns kn:List Str):((ns.filter fun q=>!decide (q∈kn)).map D.str).isEmpty=aft ns kn:=by
 unfold aft;induction ns with
 | nil=>rfl
 | cons c l ih =>
  rw[List.all_cons,List.filter_cons];cases e4:decide (c∈kn) with
  | true=>exact ih
  | false=>rfl
theorem dd_le (l:List Str):(ddS l).length<=l.length:=by have:=ato l l.length;rw[List.take_length] at this;exact this
section
variable {P:Program}{w:World}{K:PySem.W.Frag}{mg:Str->Option Value}{base:Heap}
theorem abz:FnScope ["text","rows","known","number","words","outputs"] ["text"] (aae acu):=⟨rfl,rfl,rfl,by decide +kernel,rfl,by decide +kernel,by decide +kernel⟩
set_option maxHeartbeats 2000000 in
theorem ok_wr {f fN fG:Addr}{fd fdN fdG:FuncData}(F:Fun K "_law_wrong" "_law_wrong" acu f fd) (T:Txt mg) (awa:Gd K mg "_law_is_name" abo ["word"] fN fdN) (awe:Gd K mg "_law_is_gate" ab3 ["words","known"] fG fdG)
  (awg:FnOk P w K mg base CX0 1 fN fdN ["word"] (spD K avd)) (aw1:FnOk P w K mg base CX0 2 fG fdG ["words","known"] (spD K R_isg)):FnOk P w K mg base CX0 3 f fd ["text"] (spD K R_wr):=by
 refine F.okD (k:=2) abz (fun dk ds Φ ⟨_,e,_⟩=>by rw[e];rfl) (by decide) fun cdv A outer s H E dk ds Φ hr hR=>?_
 have hu:=ajf hr;obtain⟨z,rfl,hz,hΦ⟩:=hR;refine⟨_,(aal (aiq (i:=1) ["row"] [] [] abz.nd rfl (Or.inl rfl) rfl (i_v (alu PySem.F.plainAttrs_str PySem.F.slot_str_split PySem.F.type_str_split aci adj (pv 0) (pa_k abm pa_n))) rfl rfl (fun _ _ _ _ _=>(g_n (i:=0) auj rfl (Or.inl rfl))) (fun _ _ _ _ _=>aq7) (fun _ _ _ _ _=>(alu PySem.F.plainAttrs_str PySem.F.slot_str_split PySem.F.type_str_split aci adj (pv 0) (pa_k abm pa_n)))) (aal (ac2 (i:=2) abz.nd rfl (Or.inr rfl) (ase ach aeb (ab8 hu (pv 1) aaj) (po_s aaj) po_n)) (aal (s_if (al2 (ah0 (adc (apb hr.units) (adw true) (as0 hu (ab8 hu (pv 1) aaj) aaj) abm) (ajk (adc (apb hr.units) (adw true) (ano ["name"] [] [] rfl (i_v (pd_v 2 (pv 2))) rfl rfl (fun _ _ _ _ _=>(g_n (i:=0) as5 rfl (Or.inl rfl))) (fun _ _ _ _ _=>(aph (ald (aut (abp awg (hr.mono (by decide)) (by rfl) awa.m awa.k awa.b (pa_k (pd_v 0 (pv 0)) pa_n)))))) (fun _ _ _ _ _=>(pd_v 0 (pv 0)))) (adf pa_n))))) (abc (ad0 aaj)) aej) (aal (s_if (adc ak1 anv (akz (i:=2) (aam afe (by rfl) T.len PySem.boot_len (pa_c (aa5 (aff rfl) (by rfl) T.set PyProof.Rows.boot_set (pa_c (pv 2) aad)) aad)) (fun _ _ _ ⟨v,hv,a,ns,e1,e2,e3,e4⟩=>⟨v,hv,a,ns,by rw[e1],e2,e3,fun p np=>⟨p,_,rfl,aaa,e4 p np⟩⟩)) (aa0 aaw acn (by rfl) T.len PySem.boot_len (pa_k (pd_v 2 (pv 2)) pa_n))) (abc (ad0 aaj)) aej) (aal (s_for (m:=99) PassesOwn.never rfl (i_r2 (by rfl) T.range aaj (aa0 aaw acn (by rfl) T.len PySem.boot_len (pa_k (pd_v 1 (pv 1)) pa_n))) (g_n (i:=3) abz.nd rfl (Or.inl rfl)) (aal (ac2 (i:=4) abz.nd rfl (Or.inl rfl) (ab8 hu (pv 1) (pd_v 3 (pv 3)))) (aal (s_if (adc (acp hr.units) (adw false) (ab8 hu (pv 4) aaj) abm) (aal (ac2 (i:=5) abz.nd rfl (Or.inl rfl) (ac7 ach aeb (pv 4) (po_s aaj) po_n)) (aal (s_if (al2 (ah0 (adc (apb hr.units) (adw true) (ano ["name"] ["known"] [2] rfl (i_v (pd_v 5 (pv 5))) rfl rfl (fun _ _ _ _ _=>(g_n (i:=0) ahr rfl (Or.inl rfl))) (fun _ _ _ _ _=>(aph (ajs (ahd hu) (aiu true) (pd_v 0 (pv 0)) (pv 1)))) (fun _ _ _ _ _=>(pd_v 0 (pv 0)))) (adf pa_n)) (ajk (adc ak1 anv (akz (i:=5) (aam afe (by rfl) T.len PySem.boot_len (pa_c (aa5 (aff rfl) (by rfl) T.set PyProof.Rows.boot_set (pa_c (pv 5) aad)) aad)) (fun _ _ _ ⟨v,hv,a,ns,e1,e2,e3,e4⟩=>⟨v,hv,a,ns,by rw[e1],e2,e3,fun p np=>⟨p,_,rfl,aaa,e4 p np⟩⟩)) (aa0 aaw acn (by rfl) T.len PySem.boot_len (pa_k (pd_v 5 (pv 5)) pa_n)))))) (abc (ad0 (pd_v 3 (pv 3)))) aej) (abc (ad0 (as0 hu (adf (pa_k pd_non (pa_k (aeq aa3 aby (pv 3) aaj) pa_n))) (ad5 apm ava (by rfl) T.int PyProof.Rows.boot_int (pa_k (afk ak1 anv (aeq aa3 aby (pv 3) aaj) (aa0 aaw acn (by rfl) T.len PySem.boot_len (pa_k (pd_v 1 (pv 1)) pa_n))) pa_n))))))) aej) (aal (s_if (ald (aut (abp aw1 (hr.mono (by decide)) (by rfl) awe.m awe.k awe.b (pa_k (pd_v 4 (pv 4)) (pa_k (pd_v 2 (pv 2)) pa_n))))) (abc (ad0 (pd_v 3 (pv 3)))) aej) (abc (ac2 (i:=2) abz.nd rfl (Or.inr rfl) (aeq aa3 aby (pv 2) (adf (pa_k (ab8 hu (pv 4) aaj) pa_n))))))))) (abc (ad0 (aa0 aaw acn (by rfl) T.len PySem.boot_len (pa_k (pd_v 1 (pv 1)) pa_n))))))))),?_⟩;obtain⟨rs,hrs⟩:∃ rs,rs=abf z:=⟨_,rfl⟩;have hok:=hz.ok;rw[← hrs] at hΦ hok;have hl:=hok.l;refine aax (fun ρ=>ρ=[.val (.str z),.own (agf rs),.no,.no,.no,.no]) (fun N hN=>?_) ?_
 ·unfold sSet;have e:agf rs = .lst ((Txt.split z nlS).map fun r=>D.lst ((Txt.split r spS).map D.str)):=by rw[hrs];unfold agf abf;rw[List.map_map];rfl
  have k:=hN _ rfl;rw[e] at k;have hl2:(Txt.split z nlS).length<=4000:=by have:=hz.ok.l;unfold abf at this;rw[List.length_map] at this;exact this
  exact ajw (Txt.split z nlS) D.str (fun r=>D.lst ((Txt.split r spS).map D.str)) [.val (.str z),.no,.no,.no,.no,.no] (fun Ψ h=>⟨rfl,by decide +kernel,hz.l,h⟩) (by omega) (fun i r ys Nx e h1 h2=>⟨rfl,by decide +kernel,hz.r r (List.mem_of_getElem? e),h1,h2⟩) k
 rintro _ rfl;obtain⟨r0,rest,rfl⟩:∃ r0 rest,rs=r0::rest:=by
  cases rs with
  | nil=>exact absurd rfl hok.ne
  | cons a b=>exact⟨a,b,rfl⟩
 obtain⟨n0,m0,asc0⟩:=hok.r r0 List.mem_cons_self;obtain⟨x0,ins,rfl⟩:∃ x0 ins,r0=x0::ins:=by
  cases r0 with
  | nil=>exact absurd rfl n0
  | cons a b=>exact⟨a,b,rfl⟩
 rw[List.length_cons] at m0 hl;refine aax (fun ρ=>ρ=[.val (.str z),.own (agf ((x0::ins)::rest)),.own (.lst (ins.map D.str)),.no,.no,.no]) (fun N hN=>?_) ?_
 ·have e2:cutD ((x0::ins).map D.str) (some ((1:Nat):Int)) none=ins.map D.str:=ady D.str (x0::ins) 1;have k:=hN _ rfl;rw[← e2] at k;exact⟨rfl,_,aaq (j:=0) rfl,k⟩
 rintro _ rfl;refine aax (fun ρ=>ρ=[.val (.str z),.own (agf ((x0::ins)::rest)),.val (.lst (ins.map D.str)),.no,.no,.no]/\x0 = "in" /\ ins.all isNm=true) (fun N hN=>?_) ?_
 ·refine⟨rfl,_,aaq (j:=0) rfl,_,aaq (j:=0) rfl,?_⟩;have bad:ae7 (x0::ins)=false->Φ (.val (.int 0)):=fun h=>by
   have e:aav ((x0::ins)::rest)=some 0:=(if_neg (by rw[h];decide):(if ae7 (x0::ins)=true then goW 1 rest ins else some 0)=some 0);rw[e] at hΦ;exact hΦ
  show if (nb true (decide (x0 = "in")))=true then _ else _
  by_cases hx0:x0 = "in"
  ·rw[decide_eq_true hx0];refine aem rfl ?_;unfold tstB d2;refine am7 ins D.str D.str (fun q=>!isNm q) [.val (.str z),.own (agf ((x0::ins)::rest)),.val (.lst (ins.map D.str)),.no,.no,.no] (fun Ψ h=>h) (by omega) (fun i q ys Nx e h1 h2 h3=>?_) ?_
   ·refine⟨q,rfl,asc0 q (List.mem_cons_of_mem _ (List.mem_of_getElem? e)),.inl rfl,rfl,_,rfl,?_⟩;cases hq:isNm q with
    | true=>exact aem rfl (h3 (by rw[hq];rfl))
    | false=>exact adv rfl ⟨h1,h2 (by rw[hq];rfl)⟩
   ·refine⟨by show 0<=1000;decide,?_⟩;have e3:((ins.filter fun q=>!isNm q).map D.str).isEmpty=ins.all isNm:=by
     clear hΦ bad hN m0 asc0 n0 hok hrs;induction ins with
     | nil=>rfl
     | cons c l ih =>
      rw[List.all_cons,List.filter_cons];cases e4:isNm c with
      | true=>exact ih
      | false=>rfl
    show if (nb true ((ins.filter fun q=>!isNm q).map D.str).isEmpty)=true then _ else _
    rw[e3];cases ha:ins.all isNm with
    | true=>exact aem rfl (hN _ ⟨rfl,hx0,ha⟩)
    | false=>exact adv rfl (bad (by show (decide (x0 = "in")&&ins.all isNm&&decide ins.Nodup)=false;rw[ha];simp))
  ·rw[decide_eq_false hx0];exact adv rfl (bad (by show (decide (x0 = "in")&&ins.all isNm&&decide ins.Nodup)=false;rw[decide_eq_false hx0];simp))
 rintro _ ⟨rfl,hx0,hnm⟩;refine aax (fun ρ=>ρ=[.val (.str z),.own (agf ((x0::ins)::rest)),.val (.lst (ins.map D.str)),.no,.no,.no]/\ins.Nodup) (fun N hN=>?_) ?_
 ·refine⟨ins,rfl,by omega,rfl,_,rfl,?_⟩;show if (decide (((ddS ins).length:Int)<((ins.map D.str).length:Nat)))=true then _ else _
  rw[List.length_map];by_cases hn:ins.Nodup
  ·exact aem (decide_eq_false (by rw[aez hn];omega)) (hN _ ⟨rfl,hn⟩)
  ·have:=dd_le ins;have ne:(ddS ins).length≠ins.length:=fun e=>hn (afl e)
   refine adv (decide_eq_true (by omega)) ?_;have hb:ae7 (x0::ins)=false:=by
    show (decide (x0 = "in")&&ins.all isNm&&decide ins.Nodup)=false;rw[decide_eq_false hn];simp
   have e:aav ((x0::ins)::rest)=some 0:=(if_neg (by rw[hb];decide):(if ae7 (x0::ins)=true then goW 1 rest ins else some 0)=some 0);rw[e] at hΦ;exact hΦ
 rintro _ ⟨rfl,hnd⟩;have hin:ae7 (x0::ins)=true:=by
  show (decide (x0 = "in")&&ins.all isNm&&decide ins.Nodup)=true;rw[decide_eq_true hx0,hnm,decide_eq_true hnd];rfl
 have hwr:aav ((x0::ins)::rest)=goW 1 rest ins:=(if_pos hin:(if ae7 (x0::ins)=true then goW 1 rest ins else some 0)=goW 1 rest ins);obtain⟨kn,hkn⟩:∃ kn:Nat->List Str,kn=fun i=>ins++(rest.take i).map (·.headD ""):=⟨_,rfl⟩
 have hk0:kn 0=ins:=by rw[hkn];show ins++[]=ins;rw[List.append_nil]
 have hkl:∀ i,(kn i).length<=9000:=fun i=>by rw[hkn];show (ins++(rest.take i).map (·.headD "")).length<=9000;rw[List.length_append,List.length_map,List.length_take];omega
 obtain⟨rows,hrows⟩:∃ rows:List D,rows=((x0::ins)::rest).map fun r=>D.lst (r.map D.str):=⟨_,rfl⟩
 have hrl:rows.length=rest.length+1:=by rw[hrows,List.length_map,List.length_cons]
 have henc:agf ((x0::ins)::rest) = .lst rows:=by rw[hrows];rfl
 rw[henc];refine aax (fun ρ=>∃ skn s3 s4 s5,ρ=[.val (.str z),.val (.lst rows),skn,s3,s4,s5]/\aav ((x0::ins)::rest)=some (rest.length+1)) (fun N hN=>?_) ?_
 ·refine for_at (agh 1 rest.length) [.val (.str z),.val (.lst rows),.val (.lst (ins.map D.str)),.no,.no,.no] (fun Ψ h=>?_) (fun i ρ=>∃ skn s3 s4 s5,ρ=[.val (.str z),.val (.lst rows),skn,s3,s4,s5]/\(skn = .val (.lst ((kn i).map D.str))\/skn = .own (.lst ((kn i).map D.str)))/\aav ((x0::ins)::rest)=goW (i+1) (rest.drop i) (kn i)) ⟨_,_,_,_,rfl,.inl (by rw[hk0]),by rw[hk0];exact hwr⟩ ?_ ?_
  ·have e5:((rows.length:Int)-1).toNat=rest.length:=by omega
   rw[← e5] at h;exact⟨rfl,_,rfl,⟨by decide,by decide,by omega,by omega⟩,h⟩
  ·rintro i d ρ hx ⟨skn,s3,s4,s5,rfl,hsk,hw5⟩;obtain⟨hi,rfl⟩:=aq0 hx;have ei:(1:Int)+(i:Int)=((i+1:Nat):Int):=by omega
   obtain⟨ws,hws⟩:∃ ws,rest[i]?=some ws:=⟨_,List.getElem?_eq_getElem hi⟩;obtain⟨nw,mw,ascw⟩:=hok.r ws (List.mem_cons_of_mem _ (List.mem_of_getElem? hws));obtain⟨x,ns,rfl⟩:∃ x ns,ws=x::ns:=by
    cases ws with
    | nil=>exact absurd rfl nw
    | cons a b=>exact⟨a,b,rfl⟩
   have hdrop:rest.drop i=(x::ns)::rest.drop (i+1):=by rw[List.drop_eq_getElem_cons hi];rw[(List.getElem?_eq_some_iff.mp hws).2]
   rw[hdrop] at hw5;have mn:ns.length<=4000:=by rw[List.length_cons] at mw;omega
   have hat:atI rows (1+(i:Int))=some (.lst ((x::ns).map D.str)):=by rw[ei];exact aaq (by rw[hrows,List.getElem?_map,List.getElem?_cons_succ,hws];rfl)
   have hkb:=hkl i;have num:∀ n:Nat,aav ((x0::ins)::rest)=some n->Φ (.val (.int (n:Int))):=fun n h=>by rw[h] at hΦ;exact hΦ
   have num1:aav ((x0::ins)::rest)=some (i+1)->Φ (.val (.int (1+(i:Int)))):=fun h=>by rw[ei];exact num _ h
   obtain⟨S,hS⟩:∃ S,S=skn:=⟨_,rfl⟩;rcases hsk with rfl | rfl
   all_goals (
    refine⟨rfl,_,hat,rfl,_,aaq (j:=0) rfl,?_⟩;show if (nb false (decide (x = "out")))=true then _ else _
    by_cases hx:x = "out"
    ·rw[decide_eq_true hx];refine adv rfl ?_;have hwe:aav ((x0::ins)::rest)=if aei ns (kn i)=true then (if rest.drop (i+1)=[] then none else some (i+2)) else some (i+1):=by rw[hw5];exact (if_pos (show (x::ns).headD "" = "out" from hx):(if (x::ns).headD "" = "out" then _ else _)=_)
     have e8:cutD ((x::ns).map D.str) (some ((1:Nat):Int)) none=ns.map D.str:=ady D.str (x::ns) 1;refine aax (fun ρ=>ρ=[.val (.str z),.val (.lst rows),S,.val (.int (1+(i:Int))),.val (.lst ((x::ns).map D.str)),.own (.lst (ns.map D.str))]) (fun N' hN'=>?_) ?_
     ·have k:=hN' _ rfl;rw[← e8,hS] at k;exact⟨rfl,k⟩
     rintro _ rfl;rw[hS];refine aax (fun ρ=>ρ=[.val (.str z),.val (.lst rows),S,.val (.int (1+(i:Int))),.val (.lst ((x::ns).map D.str)),.val (.lst (ns.map D.str))]/\aei ns (kn i)=true) (fun N' hN'=>?_) ?_
     ·have wrong:aei ns (kn i)=false->Φ (.val (.int (1+(i:Int)))):=fun h=>num1 (by rw[hwe];exact if_neg (by rw[h];decide))
      unfold sIf tOrD tstB d2;refine am7 ns D.str D.str (fun q=>!decide (q∈kn i)) _ (fun Ψ h=>h) (by omega) (fun j q ys Nx e h1 h2 h3=>?_) ?_
      ·refine⟨.str q,(kn i).map V.str,rfl,acb _,?_⟩;rw[ac4];show if (!decide (q∈kn i))=true then _ else _
       by_cases hq:q∈kn i
       ·exact aem (by rw[decide_eq_true hq];rfl) (h3 (by rw[decide_eq_true hq];rfl))
       ·exact adv (by rw[decide_eq_false hq];rfl) ⟨h1,h2 (by rw[decide_eq_false hq];rfl)⟩
      ·refine⟨by show 0<=1000;decide,?_⟩;show if (nb true ((ns.filter fun q=>!decide (q∈kn i)).map D.str).isEmpty)=true then _ else _
       rw[all_in ns (kn i)];cases ha:aft ns (kn i) with
       | false=>exact adv rfl (adv rfl (wrong (by unfold aei;rw[ha];rfl)))
       | true =>
        refine aem rfl ⟨ns,rfl,by omega,rfl,_,rfl,?_⟩;show if (decide (((ddS ns).length:Int)<((ns.map D.str).length:Nat)))=true then _ else _
        rw[List.length_map];by_cases hn:ns.Nodup
        ·exact aem (decide_eq_false (by rw[aez hn];omega)) (hN' _ ⟨by rw[hS];rfl,by unfold aei;rw[ha,decide_eq_true hn];rfl⟩)
        ·have:=dd_le ns;have ne:(ddS ns).length≠ns.length:=fun e=>hn (afl e)
         exact adv (decide_eq_true (by omega)) (wrong (by unfold aei;rw[ha,decide_eq_false hn];rfl))
     rintro _ ⟨rfl,hend⟩;rw[hS];rw[if_pos hend] at hwe;refine⟨rfl,by show 2<=1000;decide,rfl,rfl,_,rfl,?_⟩;show ∃ v,atI [D.non,D.int (1+(i:Int)+1)] (if decide (1+(i:Int)+1<((rows.length:Nat):Int))=true then 1 else 0)=some v/\Φ (.val v);by_cases hnil:rest.drop (i+1)=[]
     ·have:=List.drop_eq_nil_iff.mp hnil;rw[if_pos hnil] at hwe;rw[hwe] at hΦ;rw[decide_eq_false (show ¬ 1+(i:Int)+1<((rows.length:Nat):Int) by omega)];exact⟨_,aaq (j:=0) rfl,hΦ⟩
     ·have:¬ rest.length<=i+1:=fun z=>hnil (List.drop_eq_nil_iff.mpr z)
      rw[if_neg hnil] at hwe;rw[decide_eq_true (show 1+(i:Int)+1<((rows.length:Nat):Int) by omega)];refine⟨_,aaq (j:=1) rfl,?_⟩;have k:=num _ hwe;rw[show ((i+2:Nat):Int)=1+(i:Int)+1 by omega] at k;exact k
    ·rw[decide_eq_false hx];refine aem rfl ?_;have hwe:aav ((x0::ins)::rest)=if ae8 (x::ns) (kn i)=true then goW (i+2) (rest.drop (i+1)) (kn i++[x]) else some (i+1):=by rw[hw5];exact (if_neg (show ¬ (x::ns).headD "" = "out" from hx):(if (x::ns).headD "" = "out" then _ else _)=_)
     refine⟨x,ns,kn i,rfl,mn,by omega,ascw x List.mem_cons_self,.inl rfl,rfl,_,rfl,?_⟩;cases hgo:ae8 (x::ns) (kn i) with
     | false =>
      rw[if_neg (by rw[hgo];decide)] at hwe;exact adv rfl (num1 hwe)
     | true =>
      rw[if_pos hgo] at hwe;have ek:kn (i+1)=kn i++[x]:=by rw[hkn];show ins++(rest.take (i+1)).map (·.headD "")=ins++(rest.take i).map (·.headD "")++[x];rw[List.take_add_one,hws,List.append_assoc];exact congrArg (ins++·) (List.map_append ..)
      have ek2:(kn (i+1)).map D.str=(kn i).map D.str++[.str x]:=by rw[ek];exact List.map_append ..
      refine aem rfl ⟨rfl,rfl,_,aaq (j:=0) rfl,by show 1<=1000;decide,by rw[List.length_map];show (kn i).length+1<=100000;omega,_,_,_,_,rfl,.inr (by rw[ek2]),by rw[ek];exact hwe⟩)
  ·rintro ρ ⟨skn,s3,s4,s5,rfl,hsk,hw5⟩;have hl6:(agh 1 rest.length).length=rest.length:=by simp[agh]
   rw[hl6,List.drop_length] at hw5;exact hN _ ⟨_,_,_,_,rfl,hw5⟩
 rintro _ ⟨skn,s3,s4,s5,rfl,hw6⟩;rw[hw6] at hΦ;refine⟨rfl,_,rfl,?_⟩;have e7:((rows.length:Nat):Int)=((rest.length+1:Nat):Int):=by rw[hrl]
 show Φ (.val (.int ((rows.length:Nat):Int)));rw[e7];exact hΦ
end
theorem aqe:(["row"]:List Str).Nodup:=by decide +kernel
theorem akc:(["words"]:List Str).Nodup:=by decide +kernel
theorem atl:∀ {rest:List (List Str)}{n:Nat}{kn:List Str},goW n rest kn=none->∃ mid last,rest=mid++[last]/\∀ ws∈mid,2<=ws.length
 | [],_,_,h=>by cases h
 | ws::rest,n,kn,h=>by
  unfold goW at h;by_cases hx:ws.headD "" = "out"
  ·rw[if_pos hx] at h;by_cases he:aei ws.tail kn=true
   ·rw[if_pos he] at h;by_cases hr:rest=[]
    ·subst hr;exact⟨[],ws,rfl,fun _ q=>nomatch q⟩
    ·rw[if_neg hr] at h;cases h
   ·rw[if_neg he] at h;cases h
  ·rw[if_neg hx] at h;by_cases hg:ae8 ws kn=true
   ·rw[if_pos hg] at h;obtain⟨mid,last,rfl,hm⟩:=atl h;refine⟨ws::mid,last,rfl,fun v hv=>?_⟩;rcases List.mem_cons.mp hv with q | q
    ·subst q
     match v,hg with
     | x::y::ns,_=>simp
    ·exact hm v q
   ·rw[if_neg hg] at h;cases h
theorem andAny {t u:TEd}{dk:List Addr}{ρ:List Sl}{Φ:Sl->List Sl->Prop}(c:Bool) (ht:∀ Ψ:Sl->List Sl->Prop,Ψ (.val (.bl c)) ρ->t dk ρ Ψ) (hu:u dk ρ Φ) (h:Φ (.val (.bl false)) ρ):akv t u dk ρ Φ:=by
 unfold akv;refine ht _ ?_;cases c
 ·exact h
 ·exact hu
theorem ave {α:Type}(a:α) (xs:List α) (x:α):atI (a::(xs++[x])) (-1)=some x:=by
 have e:ixN (a::(xs++[x])).length (-1)=some (xs.length+1):=by
  have h:(a::(xs++[x])).length=xs.length+2:=by simp
  rw[h];unfold ixN;rw[if_neg (by decide),if_pos (by omega)]
  congr 1
  omega
 unfold atI;rw[e];simp
theorem aus {α:Type}(f:α->D) (a:α) (xs:List α) (x:α):cutD ((a::(xs++[x])).map f) (some 1) (some (-1))=xs.map f:=by
 have h:((a::(xs++[x])).map f).length=xs.length+2:=by simp
 unfold cutD;rw[h];have e1:HT.sIx (xs.length+2) 0 (some 1)=1:=by
  show (if (1:Int)<0 then ((1:Int)+((xs.length+2:Nat):Int)).toNat else min (1:Int).toNat (xs.length+2))=1;rw[if_neg (by decide)];show min 1 (xs.length+2)=1;omega
 have e2:HT.sIx (xs.length+2) (xs.length+2) (some (-1))=xs.length+1:=by
  show (if (-1:Int)<0 then ((-1:Int)+((xs.length+2:Nat):Int)).toNat else min (-1:Int).toNat (xs.length+2))=xs.length+1;rw[if_pos (by decide)];omega
 rw[e1,e2];show ((xs++[x]).map f).take (xs.length+1-1)=_;rw[List.map_append,Nat.add_sub_cancel];exact List.take_left' (by rw[List.length_map])
def R_co:RD:=fun dk ds Φ=>∃ z:Str,ds=[.str z]/\TextOk z/\aav (abf z)=none/\Φ (.val (encC (adt (abf z))))
def R_sm:RD:=fun dk ds Φ=>∃ z:Str,ds=[.str z]/\TextOk z/\∀ b:Bool,Φ (.val (.bl b))
section
variable {P:Program}{w:World}{K:PySem.W.Frag}{mg:Str->Option Value}{base:Heap}
theorem ado:FnScope ["text","rows","gates"] ["text"] (aae ab2):=⟨rfl,rfl,rfl,by decide +kernel,rfl,by decide +kernel,by decide +kernel⟩
theorem ac6:FnScope ["text","rows","ends"] ["text"] (aae abv):=⟨rfl,rfl,rfl,by decide +kernel,rfl,by decide +kernel,by decide +kernel⟩
set_option maxHeartbeats 2000000 in
theorem ok_co {f:Addr}{fd:FuncData}(F:Fun K "_law_cell_of" "_law_cell_of" ab2 f fd) (T:Txt mg):FnOk P w K mg base CX0 1 f fd ["text"] (spD K R_co):=by
 refine F.okD (k:=0) ado (fun dk ds Φ ⟨_,e,_⟩=>by rw[e];rfl) (by decide) fun cdv A outer s H E dk ds Φ hr hR=>?_
 have hu:=ajf hr;obtain⟨z,rfl,hz,hw,hΦ⟩:=hR;refine⟨_,(aal (aiq (i:=1) ["row"] [] [] ado.nd rfl (Or.inl rfl) rfl (i_v (alu PySem.F.plainAttrs_str PySem.F.slot_str_split PySem.F.type_str_split aci adj (pv 0) (pa_k abm pa_n))) rfl rfl (fun _ _ _ _ _=>(g_n (i:=0) aqe rfl (Or.inl rfl))) (fun _ _ _ _ _=>aq7) (fun _ _ _ _ _=>(alu PySem.F.plainAttrs_str PySem.F.slot_str_split PySem.F.type_str_split aci adj (pv 0) (pa_k abm pa_n)))) (aal (ac2 (i:=2) ado.nd rfl (Or.inl rfl) (ad5 aau amj (by rfl) T.tuple PyProof.Rows.boot_tuple (pa_k (ano ["words"] [] [] rfl (i_v (ac7 ach aeb (pv 1) (po_s aaj) (po_s (ath aaj)))) rfl rfl (fun _ _ _ _ _=>(g_n (i:=0) akc rfl (Or.inl rfl))) (fun _ _ _ _ _=>aq7) (fun _ _ _ _ _=>(aqk (pa_k (ab8 hu (pv 0) aaj) (pa_k (ab8 hu (pv 0) aaj) (pa_k (ad5 aau amj (by rfl) T.tuple PyProof.Rows.boot_tuple (pa_k (ac7 ach aeb (pv 0) (po_s aaj) po_n) pa_n)) pa_n)))))) pa_n))) (abc (ad0 (aqk (pa_k (ad5 aau amj (by rfl) T.tuple PyProof.Rows.boot_tuple (pa_k (ase ach aeb (ab8 hu (pv 1) aaj) (po_s aaj) po_n) pa_n)) (pa_k (pd_v 2 (pv 2)) (pa_k (ad5 aau amj (by rfl) T.tuple PyProof.Rows.boot_tuple (pa_k (ase ach aeb (ab8 hu (pv 1) (ath aaj)) (po_s aaj) po_n) pa_n)) pa_n)))))))),?_⟩;obtain⟨rs,hrs⟩:∃ rs,rs=abf z:=⟨_,rfl⟩;have hok:=hz.ok;rw[← hrs] at hΦ hok hw;have hl:=hok.l;refine aax (fun ρ=>ρ=[.val (.str z),.own (agf rs),.no]) (fun N hN=>?_) ?_
 ·unfold sSet;have e:agf rs = .lst ((Txt.split z nlS).map fun r=>D.lst ((Txt.split r spS).map D.str)):=by rw[hrs];unfold agf abf;rw[List.map_map];rfl
  have k:=hN _ rfl;rw[e] at k;have hl2:(Txt.split z nlS).length<=4000:=by have:=hz.ok.l;unfold abf at this;rw[List.length_map] at this;exact this
  exact ajw (Txt.split z nlS) D.str (fun r=>D.lst ((Txt.split r spS).map D.str)) [.val (.str z),.no,.no] (fun Ψ h=>⟨rfl,by decide +kernel,hz.l,h⟩) (by omega) (fun i r ys Nx e h1 h2=>⟨rfl,by decide +kernel,hz.r r (List.mem_of_getElem? e),h1,h2⟩) k
 rintro _ rfl;obtain⟨r0,rest,rfl⟩:∃ r0 rest,rs=r0::rest:=by
  cases rs with
  | nil=>exact absurd rfl hok.ne
  | cons a b=>exact⟨a,b,rfl⟩
 have hin:ae7 r0=true:=by
  cases e:ae7 r0 with
  | true=>rfl
  | false =>
   have:=(if_neg (by rw[e];decide):(if ae7 r0=true then goW 1 rest r0.tail else some 0)=some 0);rw[show aav (r0::rest)=some 0 from this] at hw;cases hw
 have hg:goW 1 rest r0.tail=none:=by
  rw[show aav (r0::rest)=goW 1 rest r0.tail from (if_pos hin:(if ae7 r0=true then goW 1 rest r0.tail else some 0)=goW 1 rest r0.tail)] at hw;exact hw
 obtain⟨mid,last,rfl,hm⟩:=atl hg;have ec:adt (r0::(mid++[last]))=⟨r0.tail,mid.map gOf,last.tail⟩:=by
  unfold adt;rw[aqb];show (⟨r0.tail,(mid++[last]).dropLast.map gOf,last.tail⟩:Cel)=_;rw[List.dropLast_concat]
 rw[ec] at hΦ;obtain⟨fr,hfr⟩:∃ fr:List Str->D,fr=fun r=>D.lst (r.map D.str):=⟨_,rfl⟩
 have henc:agf (r0::(mid++[last])) = .lst ((r0::(mid++[last])).map fr):=by rw[hfr];rfl
 rw[henc];have lm:mid.length<=4000:=by simp at hl;omega
 refine aax (fun ρ=>ρ=[.val (.str z),.own (.lst ((r0::(mid++[last])).map fr)),.val (.tup (mid.map fun r=>encG (gOf r)))]) (fun N hN=>?_) ?_
 ·unfold sSet dC aC;refine ajw mid fr (fun r=>encG (gOf r)) [.val (.str z),.own (.lst ((r0::(mid++[last])).map fr)),.no] (fun Ψ h=>?_) (by omega) (fun i r ys Nx e h1 h2=>?_) (hN _ rfl)
  ·have e2:=aus fr r0 mid last;rw[← e2] at h;exact⟨rfl,h⟩
  ·obtain⟨x,y,ns,rfl⟩:∃ x y ns,r=x::y::ns:=by
    have:=hm r (List.mem_of_getElem? e)
    match r,this with
    | x::y::ns,_=>exact⟨x,y,ns,rfl⟩
   have e3:cutD ((x::y::ns).map D.str) (some ((2:Nat):Int)) none=ns.map D.str:=ady D.str (x::y::ns) 2;have eg:encG (gOf (x::y::ns)) = .tup [.str x,.str y,.tup (cutD ((x::y::ns).map D.str) (some ((2:Nat):Int)) none)]:=by rw[e3];rfl
   rw[eg] at h2;subst hfr;exact⟨rfl,_,aaq (j:=0) rfl,rfl,_,aaq (j:=1) rfl,rfl,by show 3<=1000;decide,h1,h2⟩
 rintro _ rfl;have el:atI ((r0::(mid++[last])).map fr) (-1)=some (fr last):=by
  rw[List.map_cons,List.map_append];exact ave (fr r0) (mid.map fr) (fr last)
 have c0:cutD (r0.map D.str) (some ((1:Nat):Int)) none=r0.tail.map D.str:=by rw[ady D.str r0 1,List.drop_one]
 have c1:cutD (last.map D.str) (some ((1:Nat):Int)) none=last.tail.map D.str:=by rw[ady D.str last 1,List.drop_one]
 have ee:encC ⟨r0.tail,mid.map gOf,last.tail⟩ = .tup [.tup (cutD (r0.map D.str) (some ((1:Nat):Int)) none),.tup (mid.map fun r=>encG (gOf r)),.tup (cutD (last.map D.str) (some ((1:Nat):Int)) none)]:=by
  rw[c0,c1];show D.tup [_,.tup ((mid.map gOf).map encG),_]=_;rw[List.map_map];rfl
 rw[ee] at hΦ;subst hfr;exact⟨rfl,_,aaq (j:=0) rfl,rfl,_,el,by show 3<=1000;decide,hΦ⟩
set_option maxHeartbeats 2000000 in
theorem ok_sm {f:Addr}{fd:FuncData}(F:Fun K "_law_is_small" "_law_is_small" abv f fd) (T:Txt mg):FnOk P w K mg base CX0 1 f fd ["text"] (spD K R_sm):=by
 refine F.okD (k:=0) ac6 (fun dk ds Φ ⟨_,e,_⟩=>by rw[e];rfl) (by decide) fun cdv A outer s H E dk ds Φ hr hR=>?_
 have hu:=ajf hr;obtain⟨z,rfl,hz,hΦ⟩:=hR;refine⟨_,(aal (aiq (i:=1) ["row"] [] [] ac6.nd rfl (Or.inl rfl) rfl (i_v (alu PySem.F.plainAttrs_str PySem.F.slot_str_split PySem.F.type_str_split aci adj (pv 0) (pa_k abm pa_n))) rfl rfl (fun _ _ _ _ _=>(g_n (i:=0) aqe rfl (Or.inl rfl))) (fun _ _ _ _ _=>aq7) (fun _ _ _ _ _=>(alu PySem.F.plainAttrs_str PySem.F.slot_str_split PySem.F.type_str_split aci adj (pv 0) (pa_k abm pa_n)))) (aal (aiq (i:=2) ["words"] [] [] ac6.nd rfl (Or.inl rfl) rfl (i_v (pd_v 1 (pv 1))) rfl rfl (fun _ _ _ _ _=>(g_n (i:=0) akc rfl (Or.inl rfl))) (fun _ _ _ _ _=>(aph (adc (ah3 hu) (aiu false) (ab8 hu (pv 0) aaj) (adf (pa_k abm (pa_k abm pa_n)))))) (fun _ _ _ _ _=>(aa0 aaw acn (by rfl) T.len PySem.boot_len (pa_k (pd_v 0 (pv 0)) pa_n)))) (abc (ad0 (aia (afk ak1 anv (aa0 aaw acn (by rfl) T.len PySem.boot_len (pa_k (pd_v 1 (pv 1)) pa_n)) aaj) (aer (afk ak1 anv (aa0 (aql rfl) cd_max (by rfl) T.max PyProof.Rows.boot_max (pa_k (aeq aa3 aby (pv 2) (adf (pa_k aaj pa_n))) pa_n)) aaj))))))),?_⟩;obtain⟨rs,hrs⟩:∃ rs,rs=abf z:=⟨_,rfl⟩;have hok:=hz.ok;rw[← hrs] at hok;have hl:=hok.l;obtain⟨fr,hfr⟩:∃ fr:List Str->D,fr=fun r=>D.lst (r.map D.str):=⟨_,rfl⟩
 refine aax (fun ρ=>ρ=[.val (.str z),.own (.lst (rs.map fr)),.no]) (fun N hN=>?_) ?_
 ·unfold sSet;have e:rs.map fr=(Txt.split z nlS).map fun r=>D.lst ((Txt.split r spS).map D.str):=by rw[hrs,hfr];unfold abf;rw[List.map_map];rfl
  have k:=hN _ rfl;rw[e] at k;have hl2:(Txt.split z nlS).length<=4000:=by have:=hz.ok.l;unfold abf at this;rw[List.length_map] at this;exact this
  exact ajw (Txt.split z nlS) D.str (fun r=>D.lst ((Txt.split r spS).map D.str)) [.val (.str z),.no,.no] (fun Ψ h=>⟨rfl,by decide +kernel,hz.l,h⟩) (by omega) (fun i r ys Nx e h1 h2=>⟨rfl,by decide +kernel,hz.r r (List.mem_of_getElem? e),h1,h2⟩) k
 rintro _ rfl;refine aax (fun ρ=>∃ is:List Int,is.length<=4000/\ρ=[.val (.str z),.val (.lst (rs.map fr)),.own (.lst (is.map D.int))]) (fun N hN=>?_) ?_
 ·unfold sSet;refine am7 rs fr (fun r=>D.int (r.length:Int)) (fun r=>decide (r.headD "" ∈ ([("in" : Str),"out"]:List Str))) [.val (.str z),.val (.lst (rs.map fr)),.no] (fun Ψ h=>h) (by omega) (fun i r ys Nx e h1 h2 h3=>?_) ?_
  ·obtain⟨x,ns,rfl⟩:∃ x ns,r=x::ns:=by
    have:=(hok.r r (List.mem_of_getElem? e)).1
    match r,this with
    | x::ns,_=>exact⟨x,ns,rfl⟩
   subst hfr;refine⟨rfl,_,aaq (j:=0) rfl,by show 2<=1000;decide,.str x,([("in" : Str),"out"]:List Str).map V.str,rfl,acb ([("in" : Str),"out"]:List Str),?_⟩;rw[ac4];show if (decide (x∈([("in" : Str),"out"]:List Str)))=true then _ else _
   by_cases hx:x∈([("in" : Str),"out"]:List Str)
   ·refine adv (decide_eq_true hx) ⟨rfl,_,rfl,h1,?_⟩;have k:=h2 (decide_eq_true hx);show Nx (ys++[D.int (((x::ns).map D.str).length:Nat)]) _;rw[List.length_map];exact k
   ·exact aem (decide_eq_false hx) (h3 (decide_eq_false hx))
  ·refine hN _ ⟨(rs.filter fun r=>decide (r.headD "" ∈ ([("in" : Str),"out"]:List Str))).map fun r=>(r.length:Int),?_,?_⟩
   ·rw[List.length_map];exact Nat.le_trans (List.length_filter_le ..) hl
   ·rw[List.map_map];rfl
 rintro _ ⟨is,his,rfl⟩;unfold sRet;refine andAny _ (fun Ψ h=>⟨rfl,_,rfl,h⟩) ?_ (hΦ _);refine⟨rfl,by show 1<=1000;decide,by rw[List.length_map];show is.length+1<=100000;omega,is++[0],?_,by simp,fun m _ _=>hΦ _⟩;have e:is.map D.int++[D.int 0]=(is++[0]).map D.int:=by rw[List.map_append];rfl
 rw[e];exact aib _
end
theorem aj7 (c:Nat):∀ ys:List Str,(∀ y∈ys,(∀ d∈y.cps.toList,d∈(Str.join ⟨#[c]⟩ ys).cps.toList)/\y.cps.toList.length<=(Str.join ⟨#[c]⟩ ys).cps.toList.length)/\ys.length<=(Str.join ⟨#[c]⟩ ys).cps.toList.length+1
 | []=>⟨fun _ h=>(nomatch h),Nat.zero_le _⟩
 | [x]=>by
  refine⟨fun y hy=>?_,Nat.le_add_left ..⟩;rw[List.mem_singleton.mp hy];exact⟨fun _ h=>h,Nat.le_refl _⟩
 | x::y::r=>by
  obtain⟨h1,h2⟩:=aj7 c (y::r);rw[abl];have e:(⟨#[c]⟩:Str).cps.toList=[c]:=rfl;rw[e];refine⟨fun q hq=>?_,?_⟩
  ·rcases List.mem_cons.mp hq with z | z
   ·subst z;exact⟨fun d hd=>List.mem_append_left _ hd,by rw[List.length_append];omega⟩
   ·obtain⟨a,b⟩:=h1 q z;exact⟨fun d hd=>List.mem_append_right _ (List.mem_append_right _ (a d hd)),by rw[List.length_append,List.length_append];omega⟩
  ·rw[List.length_append,List.length_append];simp only[List.length_cons,List.length_nil] at h2 ⊢;omega
theorem aii (z:Str) (c:Nat):(∀ y∈Txt.split z ⟨#[c]⟩,(∀ d∈y.cps.toList,d∈z.cps.toList)/\y.length<=z.length)/\(Txt.split z ⟨#[c]⟩).length<=z.length+1:=by
 have h:=aj7 c (Txt.split z ⟨#[c]⟩);rw[StrLaws.join_split] at h;obtain⟨h1,h2⟩:=h;have e:∀ s:Str,s.cps.toList.length=s.length:=fun s=>Array.length_toList
 refine⟨fun y hy=>⟨(h1 y hy).1,by have:=(h1 y hy).2;rw[e,e] at this;exact this⟩,by rw[e] at h2;exact h2⟩
theorem ap8 (z:Str):z.cps.all (·<128)=true↔∀ d∈z.cps.toList,d<128:=by
 rw[← Array.all_toList,List.all_eq_true];exact⟨fun h d hd=>of_decide_eq_true (h d hd),fun h d hd=>decide_eq_true (h d hd)⟩
theorem avo {z:Str}(ha:∀ d∈z.cps.toList,d<128) (hl:z.length<=3900):TextOk z:=by
 obtain⟨p1,p2⟩:=aii z 10;have enl:nlS=⟨#[10]⟩:=amu;have esp:spS=⟨#[32]⟩:=aj1;refine⟨by omega,fun r hr=>?_,?_,?_,fun r hr=>?_⟩
 ·rw[enl] at hr;have:=(p1 r hr).2;omega
 ·unfold abf;intro e;have:=PyProof.Rows.split_pos z nlS;rw[List.map_eq_nil_iff.mp e] at this;simp at this
 ·unfold abf;rw[List.length_map,enl];omega
 ·unfold abf at hr;obtain⟨y,hy,rfl⟩:=List.mem_map.mp hr;rw[enl] at hy;obtain⟨q1,q2⟩:=p1 y hy;obtain⟨w1,w2⟩:=aii y 32;rw[esp];refine⟨fun e=>?_,by omega,fun x hx=>?_⟩
  ·have:=PyProof.Rows.split_pos y ⟨#[32]⟩;rw[e] at this;simp at this
  ·obtain⟨v1,v2⟩:=w1 x hx;exact⟨(ap8 x).mpr fun d hd=>ha d (q1 d (v1 d hd)),by omega⟩
end Lw
namespace L2
open PySem PySem.Spec PyProof.Rows
theorem Same.newF {p:Addr}{H:Hp}{o:HO}(h:H p=none):Same H (upd H p o):=fun b u e=>by rw[aac (aab e h)];exact e
theorem akl {X:Cx}(K:PySem.W.Frag) (hK:X.K=K:=by rfl):ab6 X (.builtin "isinstance") (rIsx K):=by subst hK;exact as2
theorem ant {X:Cx}(K:PySem.W.Frag) (hK:X.K=K:=by rfl):ab6 X (.builtin "isinstance") (rIsxT K):=by subst hK;exact aqt
theorem aj0 {X:Cx}(K:PySem.W.Frag){e:Expr}{te:TE}{f:Str}{pos:Pos}(he:PE X e te) (hb:attributeBase e f X.env (eval e X.env)=eval e X.env) (hK:X.K=K:=by rfl):PE X (.Attribute e f pos) (atd K te f):=by subst hK;exact ash he hb
theorem Dk.sameF {dk:List Addr}{H H':Hp}(h:Dk dk H) (s:Same H H'):Dk dk H':=h.keep fun a ha=>by
 obtain⟨xs,e⟩:=h.some ha;rw[e,s a _ e]
end L2
namespace Lw
open PySem L2 PySem.PyData
def sD (xs:List Str):PyData:=.tuple (xs.map .str)
def gD (g:Str×Str×List Str):PyData:=.tuple [.str g.1,.str g.2.1,sD g.2.2]
def cD (C:Cel):PyData:=.tuple [sD C.ins,.tuple (C.gates.map gD),sD C.outs]
theorem agq {K:PySem.W.Frag}{H:Hp}:∀ xs:List Str,DatVs K H (xs.map V.str) (xs.map PyData.str)
 | []=>.nil
 | x::xs=>.cons (.str x) (agq xs)
theorem aqc {K:PySem.W.Frag}{H:Hp}{as:List Addr}{gs:List (Str×Str×List Str)}(h:abq H as gs):DatVs K H (as.map V.ref) (gs.map gD):=by
 unfold abq at h;induction h with
 | nil=>exact .nil
 | cons h r ih =>
  obtain⟨q,h1,h2⟩:=h;exact .cons (.tup (SqT.of h1) (.cons (.str _) (.cons (.str _) (.cons (.tup (SqT.of h2) (agq _)) .nil)))) ih
theorem amb {K:PySem.W.Frag}{H:Hp}{a:Addr}{C:Cel}(h:CellAt H a C):DatV K H (.ref a) (cD C):=by
 obtain⟨i,g,o,as,c1,c2,c3,c4,c5⟩:=h.ex;exact .tup (SqT.of c1) (.cons (.tup (SqT.of c2) (agq _)) (.cons (.tup (SqT.of c3) (aqc c5)) (.cons (.tup (SqT.of c4) (agq _)) .nil)))
theorem agz:∀ {xs:List PyData},(∀ x∈xs,x.canLay0=true)->PyData.canLayAll0 xs=true
 | [],_=>rfl
 | x::xs,h=>by
  show (x.canLay0&&PyData.canLayAll0 xs)=true;rw[h x List.mem_cons_self,agz fun y hy=>h y (List.mem_cons_of_mem _ hy)];rfl
theorem aet {n:Nat}:∀ {xs:List PyData},(∀ x∈xs,x.depth<=n)->PyData.depthAll xs<=n
 | [],_=>Nat.zero_le _
 | x::xs,h=>Nat.max_le.mpr ⟨h x List.mem_cons_self,aet fun y hy=>h y (List.mem_cons_of_mem _ hy)⟩
theorem aju {xs:List Str}(h:∀ x∈xs,strOk x=true):(sD xs).canLay0=true:=by
 show PyData.canLayAll0 (xs.map PyData.str)=true;refine agz fun y hy=>?_
 obtain⟨x,hx,rfl⟩:=List.mem_map.mp hy;exact h x hx
theorem af3 (xs:List Str):(sD xs).depth<=1:=by
 show PyData.depthAll (xs.map PyData.str)+1<=1;have:PyData.depthAll (xs.map PyData.str)<=0:=aet fun y hy=>by
  obtain⟨x,_,rfl⟩:=List.mem_map.mp hy;exact Nat.le_refl _
 omega
theorem aof (C:Cel):(cD C).depth<=60:=by
 have:PyData.depthAll [sD C.ins,.tuple (C.gates.map gD),sD C.outs]<=10:=aet fun y hy=>by
  simp only[List.mem_cons,List.not_mem_nil,or_false] at hy;rcases hy with rfl | rfl | rfl
  ·exact Nat.le_trans (af3 _) (by decide)
  ·have:PyData.depthAll (C.gates.map gD)<=5:=aet fun z hz=>by
    obtain⟨g,_,rfl⟩:=List.mem_map.mp hz;have:PyData.depthAll [.str g.1,.str g.2.1,sD g.2.2]<=1:=aet fun v hv=>by
     simp only[List.mem_cons,List.not_mem_nil,or_false] at hv;rcases hv with rfl | rfl | rfl
     ·exact Nat.zero_le _
     ·exact Nat.zero_le _
     ·exact af3 _
    show PyData.depthAll [.str g.1,.str g.2.1,sD g.2.2]+1<=5;omega
   show PyData.depthAll (C.gates.map gD)+1<=10;omega
  ·exact Nat.le_trans (af3 _) (by decide)
 show PyData.depthAll [sD C.ins,.tuple (C.gates.map gD),sD C.outs]+1<=60;omega
theorem ajz (K:PySem.W.Frag):PySem.W.kitOne K (.type "int") (.type "bool")=some false:=by
 unfold PySem.W.kitOne;rw[if_neg (by decide)];unfold PySem.W.kitCls;dsimp only;rw[if_pos (by decide +kernel)];unfold PySem.W.subIn;dsimp only;rfl
def AscC (C:Cel):Prop:=(∀ x∈C.ins,Asc x)/\(∀ g∈C.gates,Asc g.1/\Asc g.2.1/\∀ x∈g.2.2,Asc x)/\∀ x∈C.outs,Asc x
theorem aes {x:Str}(h:Asc x):strOk x=true:=by
 unfold strOk;rw[Array.all_eq_true'];intro c hc;have:=(ap8 x).mp h.1 c (by simpa using hc);exact decide_eq_true (by omega)
theorem af1 {C:Cel}(G:AscC C):(cD C).canLay0=true:=by
 refine agz (xs:=[sD C.ins,.tuple (C.gates.map gD),sD C.outs]) fun y hy=>?_
 simp only[List.mem_cons,List.not_mem_nil,or_false] at hy;rcases hy with rfl | rfl | rfl
 ·exact aju fun x hx=>aes (G.1 x hx)
 ·refine agz (xs:=C.gates.map gD) fun z hz=>?_
  obtain⟨g,hg,rfl⟩:=List.mem_map.mp hz;obtain⟨a,b,c⟩:=G.2.1 g hg;refine agz (xs:=[.str g.1,.str g.2.1,sD g.2.2]) fun v hv=>?_
  simp only[List.mem_cons,List.not_mem_nil,or_false] at hv;rcases hv with rfl | rfl | rfl
  ·exact aes a
  ·exact aes b
  ·exact aju fun x hx=>aes (c x hx)
 ·exact aju fun x hx=>aes (G.2.2 x hx)
theorem ar8 {K:PySem.W.Frag}{H:Hp}{a b:Addr}{C:Cel}{Q:VK}(G:AscC C) (ha:CellAt H a C) (hb:CellAt H b C) (h:Q (.bl true) H):rEqD K false (.ref a) (.ref b) H Q:=by
 refine⟨_,_,amb ha,amb hb,af1 G,af1 G,Nat.le_trans (Nat.min_le_left _ _) (aof C),?_⟩;rw[SeqAt.eqv_refl _ (af1 G)];exact h
theorem avi:Asc "" := ⟨by decide +kernel,by decide +kernel⟩
theorem ak6 {ws:List Str}(h:∀ x∈ws,Asc x):Asc (ws.headD ""):=by
 cases ws with
 | nil=>exact avi
 | cons x _=>exact h x List.mem_cons_self
theorem aod {rows:List (List Str)}(R:RowsOk rows):AscC (adt rows):=by
 have all:∀ r∈rows,∀ x∈r,Asc x:=fun r hr=>(R.r r hr).2.2
 unfold adt;refine⟨fun x hx=>?_,fun g hg=>?_,fun x hx=>?_⟩
 ·cases rows with
  | nil=>cases hx
  | cons r rest=>exact all r List.mem_cons_self x (List.mem_of_mem_tail hx)
 ·obtain⟨ws,hws,rfl⟩:=List.mem_map.mp hg;have hm:ws∈rows:=List.mem_of_mem_tail ((List.dropLast_sublist _).subset hws);exact⟨ak6 (all ws hm),ak6 fun x hx=>all ws hm x (List.mem_of_mem_tail hx),fun x hx=>all ws hm x (List.mem_of_mem_drop hx)⟩
 ·cases rows with
  | nil=>cases hx
  | cons r rest =>
   have hm:(r::rest).getLastD []∈r::rest:=by
    rw[List.getLastD_cons];cases rest with
    | nil=>exact List.mem_cons_self
    | cons a b =>
     rw[List.getLastD_eq_getLast?,List.getLast?_eq_some_getLast (by simp)];exact List.mem_cons_of_mem _ (List.getLast_mem _)
   exact all _ hm x (List.mem_of_mem_tail hx)
theorem aml {K:PySem.W.Frag}{A:Addr->Prop}{H:Hp}:∀ {gs:List (Str×Str×List Str)}{vs:List V},Reps K A H (gs.map encG) vs->∃ as:List Addr,vs=as.map V.ref/\abq H as gs
 | [],_,r=>by cases r;exact⟨[],rfl,.nil⟩
 | g::gs,_,r=>by
  cases r with
  | cons h r =>
   obtain⟨as,rfl,ha⟩:=aml r;obtain⟨t,us,rfl,h1,r1⟩:=Rep.tup_inv h;cases r1 with
   | cons a1 r1 =>
   cases r1 with
   | cons a2 r1 =>
   cases r1 with
   | cons a3 r1 =>
   cases r1;obtain rfl:=a1.str_inv;obtain rfl:=a2.str_inv;obtain⟨q,ws,rfl,h2,r2⟩:=Rep.tup_inv a3;rw[aca r2] at h2;exact⟨t::as,rfl,.cons ⟨q,h1,h2⟩ ha⟩
theorem ar0 {K:PySem.W.Frag}{A:Addr->Prop}{H:Hp}{C:Cel}{v:V}(h:Rep K A H (encC C) v):∃ a,v = .ref a/\CellAt H a C:=by
 obtain⟨a,us,rfl,h1,r⟩:=Rep.tup_inv h;cases r with
 | cons a1 r =>
 cases r with
 | cons a2 r =>
 cases r with
 | cons a3 r =>
 cases r;obtain⟨i,v1,rfl,h2,r2⟩:=Rep.tup_inv a1;obtain⟨g,v2,rfl,h3,r3⟩:=Rep.tup_inv a2;obtain⟨o,v3,rfl,h4,r4⟩:=Rep.tup_inv a3;rw[aca r2] at h2;rw[aca r4] at h4;obtain⟨as,rfl,ga⟩:=aml r3;exact⟨a,rfl,i,g,o,as,h1,h2,h3,h4,ga⟩
end Lw
namespace Lw
open PySem L2
structure NQ (K:PySem.W.Frag) (mg:Str->Option Value) (CC CA CL CN:Addr):Prop where
 mA:mg "NoAsk" = some (.ref CA)
 mL:mg "NoClaim" = some (.ref CL)
 mN:mg "NoName" = some (.ref CN)
 mV:mg "ValueError" = none
 k3:PySem.W.kitAny K (.ref CC) [.ref CA,.ref CL,.ref CN]=some false
 kv:PySem.W.kitOne K (.ref CC) (.type "ValueError")=some true
def R_rt:RD:=fun dk ds Φ=>∃ z:Str,ds=[.str z]/\TextOk z/\Φ (.val (.bl true))
theorem aqp (K:PySem.W.Frag) (v:Value):PySem.W.kitOne K v v=some true:=by unfold PySem.W.kitOne;rw[if_pos (by simp)]
def vN:Option Nat->V
 | none=>.non
 | some n=>.int (n:Int)
theorem rep_oN {K:PySem.W.Frag}{A:Addr->Prop}{H:Hp}{o:Option Nat}{v:V}(h:Rep K A H (oN o) v):v=vN o:=by
 cases o with
 | none=>exact Rep.non_inv h
 | some n=>exact Rep.int_inv h
section
variable {P:Program}{w:World}{K:PySem.W.Frag}{mg:Str->Option Value}{base:Heap}{CE CC CA CL CN N fI:Addr}{bm:List Value}
theorem acx:FnScope ["text","due","found","caught","e"] ["text"] (aae acr):=⟨rfl,rfl,rfl,by decide +kernel,rfl,by decide +kernel,by decide +kernel⟩
set_option maxHeartbeats 4000000 in
theorem ok_rt {f fW fS fR fO:Addr}{fd fdW fdS fdR fdO:FuncData}(F:Fun K "_law_right" "_law_right" acr f fd) (T:Txt mg) (O:NC K mg CE CC N fI bm) (M:NQ K mg CC CA CL CN) (gW:Gd K mg "_law_wrong" acu ["text"] fW fdW) (gS:Gd K mg "_law_is_small" abv ["text"] fS fdS) (gR:Gd K mg "read_cell" anz ["text"] fR fdR) (gO:Gd K mg "_law_cell_of" ab2 ["text"] fO fdO)
  (OW:FnOk P w K mg base CX0 3 fW fdW ["text"] (spD K R_wr)) (OS:FnOk P w K mg base CX0 1 fS fdS ["text"] (spD K R_sm)) (OR:FnOk P w K mg base (CXe P w) 4 fR fdR ["text"] (apy K CC)) (OO:FnOk P w K mg base CX0 1 fO fdO ["text"] (spD K R_co)):FnOk P w K mg base CX0 5 f fd ["text"] (spD K R_rt):=by
 refine F.ok (k:=4) acx (fun vs H Q E h=>?_) (fun cdv A outer s H vs Q E hr h=>?_)
 ·obtain⟨dk,A1,ds,Φ,_,_,r,⟨_,rfl,_⟩,_⟩:=h;rw[← r.length];rfl
 ·obtain⟨dk,A1,ds,Φ,hdk,hA,r,⟨z,rfl,hz,hΦ⟩,hq⟩:=h;cases r with
  | cons r0 r =>
  cases r;obtain rfl:=r0.str_inv;have hu64:=hr.units;have answer:∀ H',Same H H'->Q (.bl true) H':=fun H' sm=>hq _ _ H' hΦ (fun b o e _=>sm b o e) (Dk.sameF hdk sm) (.bl true)
  refine abu (fun σ H1=>σ=[some (.str z),some (vN (aav (abf z))),none,none,none]/\Same H H1) (fun u hu'=>?_) ?_
  ·refine⟨_,aan (i:=1) acx.nd rfl (Or.inl rfl) (aak OW (hr.mono (by decide)) rfl gW.m gW.k gW.b .nil aa7 (pa_c (pv 0) aad)),?_⟩;refine⟨_,rfl,[],fun _=>True,[.str z],fun q=>q = .val (oN (aav (abf z))),.inl rfl,fun _ _=>List.not_mem_nil,.cons (.str z) .nil,⟨z,rfl,hz,rfl⟩,?_⟩;rintro q v H1 rfl frm _ rv;obtain rfl:=rep_oN rv;exact hu' _ _ ⟨rfl,fun b o e=>frm b o e List.not_mem_nil⟩
  rintro _ H1 ⟨rfl,s1⟩;refine abw _ (adn (add (ac1 (aak OS (hr.mono (by decide)) rfl gS.m gS.k gS.b .nil aa7 (pa_c (pv 0) aad)))) (aah (aa6 ahq)) abi) ?_;refine⟨_,rfl,[],fun _=>True,[.str z],fun q=>∃ b,q = .val (.bl b),.inl rfl,fun _ _=>List.not_mem_nil,.cons (.str z) .nil,⟨z,rfl,hz,fun b=>⟨b,rfl⟩⟩,?_⟩;rintro q v H2 ⟨b,rfl⟩ frm _ rv;obtain rfl:=Rep.bl_inv rv;have s2:Same H H2:=fun c o e=>frm c o (s1 c o e) List.not_mem_nil
  refine⟨_,rfl,?_⟩;cases b with
  | false=>exact (if_pos rfl).mpr (answer H2 s2)
  | true =>
  refine iteF ?_;refine abw _ (aan (i:=2) acx.nd rfl (Or.inl rfl) aqh) ?_;refine abw _ (aan (i:=3) acx.nd rfl (Or.inl rfl) aqh) ?_;refine abu (fun σ H3=>Same H2 H3/\((aav (abf z)=none/\∃ ce,σ=[some (.str z),some (vN (aav (abf z))),some (.ref ce),some .non,none]/\CellAt H3 ce (adt (abf z))) \/ ∃ n e dd,aav (abf z)=some n/\σ=[some (.str z),some (vN (aav (abf z))),some .non,some (.ref e),none]/\H3 e=some (ExC e (.ref CC) (some dd))/\H3 dd=some (.xd [("row",.int (n:Int))]))) (fun u hu'=>?_) ?_
  ·refine⟨_,asy (i:=2) (j:=4) (l:=3) OR hr (by rfl) gR.m gR.k gR.b (pa_c (pv 0) aad) (by rfl) O.mCE acx.nd rfl rfl rfl (Or.inl rfl) rfl rfl rfl rfl rfl rfl rfl,?_⟩;refine⟨_,rfl,z,rfl,hz.l,hz.r,hz.ok,fun hw ce H3 _ hc sm=>hu' _ _ ⟨sm,.inl ⟨hw,ce,rfl,hc⟩⟩,fun n hw=>?_⟩;intro dd H3 nd hx sm e T' he nT;have sT:Same H3 (upd H3 T' (AnyO T')):=Same.newF nT;exact⟨O.ex,hu' _ _ ⟨sm.trans sT,.inr ⟨n,e,dd,hw,rfl,sT _ _ he,sT _ _ hx⟩⟩⟩
  rintro σ H3 ⟨s3,hc⟩;have S3:Same H H3:=fun b o e=>s3 b o (s2 b o e)
  refine abu (fun σ H4=>∃ n e dd,aav (abf z)=some n/\σ=[some (.str z),some (.int (n:Int)),some .non,some (.ref e),none]/\Same H H4/\H4 e=some (ExC e (.ref CC) (some dd))/\H4 dd=some (.xd [("row",.int (n:Int))])) (fun u hu'=>?_) ?_
  ·refine⟨_,adn (pt_cmp (at3 (pv 1))) (aah (aa6 (af8 (pe_cmp (at3 (pv 3))) (ah6 (acq (atv hu64) (pv 2) (aak OO (hr.mono (by decide)) rfl gO.m gO.k gO.b .nil aa7 (pa_c (pv 0) aad)) (acj _)))))) abi,?_⟩;rcases hc with⟨hw,ce,rfl,hce⟩ | ⟨n,e,dd,hw,rfl,he,hx⟩
   ·rw[hw];refine⟨_,rfl,_,rfl,(if_pos (by simp[vN])).mpr ?_⟩;refine⟨_,rfl,_,rfl,(if_pos (by simp)).mpr ?_⟩;refine⟨_,rfl,_,rfl,[],fun _=>True,[.str z],fun q=>q = .val (encC (adt (abf z))),.inl rfl,fun _ _=>List.not_mem_nil,.cons (.str z) .nil,⟨z,rfl,hz,hw,rfl⟩,?_⟩;rintro q v H4 rfl frm _ rv;obtain⟨b,rfl,hb⟩:=ar0 rv;have s4:Same H3 H4:=fun c o e=>frm c o e List.not_mem_nil
    exact ar8 (aod hz.ok) (hce.mono (Tups.of_same s4)) hb (answer H4 (S3.trans s4))
   ·rw[hw];exact⟨_,rfl,_,rfl,aem (by simp[vN]) (hu' _ _ ⟨n,e,dd,hw,rfl,S3,he,hx⟩)⟩
  rintro _ H4 ⟨n,e,dd,hw,rfl,S4,he,hx⟩;have hd2:∀ {H5:Hp},Same H4 H5->∀ dd',some dd=some dd'->∃ fs,H5 dd'=some (.xd fs):=fun sm dd' q=>by cases q;exact⟨_,sm _ _ hx⟩
  refine abu (fun σ H5=>σ=[some (.str z),some (.int (n:Int)),some .non,some (.ref e),none]/\Same H4 H5) (fun u hu'=>?_) ?_
  ·refine⟨_,adn (PW.pt (ak9 (ac1 (aam (ant K) (by rfl) T.isinstance PyProof.Rows.boot_isinstance (pa_c (pv 3) (pa_c (adz (pa_c (aef (v:=.ref CA) (by rfl) M.mA rfl) (pa_c (aef (v:=.ref CL) (by rfl) M.mL rfl) (pa_c (aef (v:=.ref CN) (by rfl) M.mN rfl) aad)))) aad)))) (aik (add (ac1 (aam (akl K) (by rfl) T.isinstance PyProof.Rows.boot_isinstance (pa_c (pv 3) (pa_c (aef (v:=.ref CC) (by rfl) O.mCC rfl) aad)))))))) (aah (aa6 ahq)) abi,?_⟩;refine⟨_,rfl,(by show 3<=sizeLine;decide),fun tp ntp=>⟨e,CC,tp,some dd,[CA,CL,CN],false,rfl,aaa,Same.newF ntp _ _ he,hd2 (Same.newF ntp),O.xf,M.k3,_,rfl,iteF ?_⟩⟩;have s5:=Same.newF (o:=.tup [V.ref CA,V.ref CL,V.ref CN]) ntp;exact⟨_,rfl,e,CC,some dd,.ref CC,.ref CC,true,rfl,.inl ⟨CC,rfl,rfl⟩,s5 _ _ he,hd2 s5,O.xf,aqp K _,_,rfl,iteF (hu' _ _ ⟨rfl,s5⟩)⟩
  rintro _ H5 ⟨rfl,s5⟩;have he5:=s5 _ _ he;have hx5:=s5 _ _ hx;refine abw _ (adn (PW.pt (ak9 (add (ac1 (aam (akl K) (by rfl) T.isinstance PyProof.Rows.boot_isinstance (pa_c (pv 3) (pa_c (aor (v:=.ty "ValueError") (by rfl) M.mV (show bootBuiltins "ValueError" = some (.type "ValueError") by decide +kernel) rfl) aad))))) (aik (ac1 (aam (ap4 K) (by rfl) T.isinstance PyProof.Rows.boot_isinstance (pa_c (aj0 K (pv 3) rfl) (pa_c (aor (v:=.ty "bool") (by rfl) T.bool PyProof.Rows.boot_bool rfl) aad))))))) (aah (aa6 ahq)) abi) ?_;refine⟨_,rfl,e,CC,some dd,.ty "ValueError",.type "ValueError",true,rfl,.inr ⟨"ValueError",rfl,rfl⟩,he5,hd2 s5,O.xf,M.kv,_,rfl,iteF ?_⟩;refine⟨_,rfl,e,CC,N,dd,bm,_,_,.int (n:Int),rfl,he5,hx5,rfl,O.xf,O.xc,O.fr,?_⟩;refine⟨.int (n:Int),.ty "bool",.type "int",.type "bool",false,rfl,rfl,.int _,ajz K,_,rfl,iteF ?_⟩;refine⟨_,aah (aa6 (acq aho (aj0 K (pv 3) rfl) (pv 1) (acj _))),?_⟩;refine⟨_,rfl,e,CC,N,dd,bm,_,_,.int (n:Int),rfl,he5,hx5,rfl,O.xf,O.xc,O.fr,?_⟩;refine⟨_,rfl,rfl,?_⟩;rw[decide_eq_true rfl];exact answer H5 (S4.trans s5)
end
def aif:RD:=fun dk ds Φ=>∃ (d c:Addr) (m:Int),dk=[d,c]/\ds=[.raw (.ref d),.int m]/\0<m/\m<1000000/\∀ r:Nat,(r:Int)<m->Φ (.val (.int r))
theorem ai6 {d c:Addr}{H:Hp}(h:Dk [d,c] H):DeckAt H d c:=by
 rcases h with h | ⟨d',c',e,h⟩
 ·cases h
 ·cases e;exact h
theorem amc {d c:Addr}{H H':Hp}(k:Keep d c H H'):Frm [d,c] H H':=fun b o e n=>k b o e (fun z=>n (by simp[z])) (fun z=>n (by simp[z]))
theorem asb {d c l:Addr}{H:Hp}(D:DeckAt H d c) (h:H l=none):l∉[d,c]:=fun z=>by
 have:=D.ned h;rcases List.mem_cons.mp z with q | q
 ·exact this.1 q
 ·exact this.2 (by simpa using q)
section
variable {P:Program}{w:World}{K:PySem.W.Frag}{mg:Str->Option Value}{base:Heap}{f:Addr}{fd:FuncData}{k:Nat}{ps:List Str}
theorem au7 (F:FnOk P w K mg base CX0 k f fd ps ahl):FnOk P w K mg base CX0 k f fd ps (spD K aif):=F.imp fun vs H Q E ⟨dk,A,ds,Φ,hdk,hA,r,⟨d,c,m,e1,e2,h0,h1,hΦ⟩,hq⟩=>by
 subst e1 e2;cases r with
 | cons r1 r =>
  cases r with
  | cons r2 r =>
   cases r;have:=r1.raw_inv;have:=r2.int_inv;subst_vars;refine⟨d,c,m,rfl,ai6 hdk,h0,h1,fun r H' a b D' kp=>?_⟩;obtain⟨n,rfl⟩:=Int.eq_ofNat_of_zero_le a;exact hq _ _ H' (hΦ n b) (amc kp) (.inr ⟨d,c,rfl,D'⟩) (.int _)
end
theorem aew {α:Type}(f:α->D) (xs:List α) (k:Nat):cutD (xs.map f) none (some (k:Int))=(xs.take k).map f:=by
 unfold cutD;rw[List.length_map,HT.sIx_none,HT.sIx_nat,List.drop_zero,Nat.sub_zero,List.map_take];by_cases h:k<=xs.length
 ·rw[Nat.min_eq_left h]
 ·rw[Nat.min_eq_right (by omega),List.take_of_length_le (by simp),List.take_of_length_le (by simp;omega)]
theorem afp {α:Type}(f:α->D) (xs:List α) (k:Nat):cutD (xs.map f) (some (k:Int)) none=(xs.drop k).map f:=by
 unfold cutD;rw[List.length_map,HT.sIx_nat,HT.sIx_none,List.map_drop,List.take_of_length_le (by simp)];by_cases h:k<=xs.length
 ·rw[Nat.min_eq_left h]
 ·rw[Nat.min_eq_right (by omega),List.drop_eq_nil_of_le (by simp),List.drop_eq_nil_of_le (by simp;omega)]
end Lw
namespace PySem
open Builtin Builtin.Str
theorem anh (x y z:Str) (t u v k:Tok) (h0:(u == 0||v == 0)=false) (hyz:(y == z)=false) (hl:tooLong (x.length+(occurrences x y 0 x.length 1).length*z.length)=false) :
  Gives («str.replace» ⟨[.str x t,.str y u,.str z v,.int 1 k],[]⟩)
   (if ((occurrences x y 0 x.length 1).isEmpty||(y.length == 0&&z.length == 0))=true then .val (.str x t) else if (u == v)=true then .val (.str x t) else .str (glued z (partsBetween x (occurrences x y 0 x.length 1) y.length))):=by
 show Gives (if ((occurrences x y 0 x.length 1).isEmpty||(y.length == 0&&z.length == 0))=true then (rule "str.replace.nothing" >>= fun _=>ret (.str x t)) else (isSame (.str y u) (.str z v) >>= fun b=>if b=true then (rule "str.replace.old-is-new" >>= fun _=>ret (.str x t)) else if tooLong (x.length+(occurrences x y 0 x.length 1).length*z.length)=true then unsupported "str.replace:memory" else retStr (glued z (partsBetween x (occurrences x y 0 x.length 1) y.length)))) _;cases hc:((occurrences x y 0 x.length 1).isEmpty||(y.length == 0&&z.length == 0))
 ·cases huv:(u == v)
  ·rw[isSame_str_other y z u v h0 huv hyz,hl];exact .of_eq rfl
  ·have e:isSame (.str y u) (.str z v)=pure true:=by
    show (if (u == 0||v == 0)=true then _ else if (u == v)=true then pure true else _:Sem Bool)=_;rw[h0,huv];rfl
   rw[e];exact .rule (.of_eq rfl)
 ·exact .rule (.of_eq rfl)
end PySem
namespace L2
open PySem PySem.Spec PyProof.Rows Builtin Builtin.Str
def Rp1 (x y z r:Str):Prop:=r=x\/r=glued z (partsBetween x (occurrences x y 0 x.length 1) y.length)
theorem aox (x y:Str):(occurrences x y 0 x.length 1).length<=1:=StrLaws.occ_length_le x y 0 x.length 1
theorem avn (x:Str) (i j:Nat):(strSub x i j).length<=x.length:=by
 unfold strSub Str.length;simp only[Array.size_extract];omega
theorem alh (x:Str) (i j:Nat):∀ d∈(strSub x i j).cps.toList,d∈x.cps.toList:=by
 intro d hd;unfold strSub at hd;simp only[Array.toList_extract] at hd;exact List.mem_of_mem_drop (List.mem_of_mem_take hd)
theorem au4 (x:Str) (a w:Nat):(strSub x 0 a).length+(strSub x (a+w) x.length).length<=x.length:=by
 unfold strSub Str.length;simp only[Array.size_extract];omega
theorem atg {x y z r:Str}(h:Rp1 x y z r):(∀ d∈r.cps.toList,d∈x.cps.toList\/d∈z.cps.toList)/\r.length<=x.length+z.length:=by
 rcases h with rfl | rfl
 ·exact⟨fun d hd=>.inl hd,by omega⟩
 ·have h1:=aox x y;cases e:occurrences x y 0 x.length 1 with
  | nil =>
   have e2:glued z (partsBetween x [] y.length)=strSub x 0 x.length:=rfl;rw[e2];exact⟨fun d hd=>.inl (alh _ _ _ d hd),Nat.le_trans (avn _ _ _) (by omega)⟩
  | cons a r =>
   rw[e] at h1;obtain rfl:r=[]:=by cases r with | nil=>rfl | cons b q=>simp at h1
   have e2:glued z (partsBetween x [a] y.length)=⟨(strSub x 0 a).cps++z.cps++(strSub x (a+y.length) x.length).cps⟩:=rfl;rw[e2];refine⟨fun d hd=>?_,?_⟩
   ·simp only[Array.toList_append,List.mem_append] at hd;rcases hd with (hd | hd) | hd
    ·exact .inl (alh _ _ _ d hd)
    ·exact .inr hd
    ·exact .inl (alh _ _ _ d hd)
   ·have s1:=au4 x a y.length;have e3:∀ q:Str,q.length=q.cps.size:=fun _=>rfl
    show ((strSub x 0 a).cps++z.cps++(strSub x (a+y.length) x.length).cps).size<=_;rw[Array.size_append,Array.size_append,← e3,← e3,← e3];omega
theorem ape {prog:Program}{w:World}{A:Around}{E:Value->Shared->Prop}{s:Shared}{x y z:Str}{t u v k:Tok}{Q:Value->Shared->Prop}(hu:u≠0) (hv:v≠0) (hyz:y≠z) (hx:x.length<=100000) (hz:z.length<=100000)
  (h:∀ r t' k',Rp1 x y z r->Q (.str r t') { s with toks:=k' }):wpAny (model prog w) A (call (.builtin "str.replace") [.str x t,.str y u,.str z v,.int 1 k]) Q E s:=by
 have ho:=aox x y;have hm:(occurrences x y 0 x.length 1).length*z.length<=1*z.length:=Nat.mul_le_mul_right _ ho;have hl:tooLong (x.length+(occurrences x y 0 x.length 1).length*z.length)=false:=by
  unfold tooLong;rw[sizeLine_eq];exact decide_eq_false (by omega)
 refine call_gives F.slot_str_replace (typeIs_str _ _ _) F.entry_str_replace (F.args_str_replace_4 _ _ _ _)
  (anh x y z t u v k (by simp[hu,hv]) (by simpa using hyz) hl) ?_
 split
 ·exact h x t s.toks (.inl rfl)
 ·split
  ·exact h x t s.toks (.inl rfl)
  ·refine⟨?_,h _ _ _ (.inr rfl)⟩;have:=(atg (x:=x) (y:=y) (z:=z) (.inr rfl)).2;rw[sizeLine_eq];omega
section
variable {X:Cx}{pins:List (Addr×Obj)}{σ:St}{H:Hp}{s:Shared}{o e2:Expr}{x y z:Str}{t0:Tok}{j1 j3:Nat}{p1 p3 apos cpos:Pos}{Q:Value->Shared->Prop}
theorem apt (I:Inv X pins σ H s) (htk:0<s.toks) (ho:∀ Q':Value->Shared->Prop,Q' (.str x t0) s->wpAny (model X.prog X.w) X.A (eval o X.env) Q' X.xe s)
  (he2:∀ (k:Nat) (Q':Value->Shared->Prop),0<k->(∀ t k',t≠0->Q' (.str z t) { s with toks:=k' })->wpAny (model X.prog X.w) X.A (eval e2 X.env) Q' X.xe { s with toks:=k })
  (hyz:y≠z) (hx:x.length<=100000) (hz:z.length<=100000) (h:∀ r t' k',Rp1 x y z r->Q (.str r t') { s with toks:=k' })
  (hbase:attributeBase o "replace" X.env (eval o X.env)=eval o X.env:=by rfl)
  (hfew:((backTo cpos (starEach [.Constant (.str y) j1 p1,e2,.Constant (.int 1) j3 p3] X.env)).all (fun x=>!x.1)&&(backToKw cpos (keywordEach [] X.env)).all (fun x=>x.1.isSome) && decide ([Expr.Constant (.str y) j1 p1,e2,.Constant (.int 1) j3 p3].length+([]:List Keyword).length+(if ([]:List Keyword).isEmpty then 0 else 1)<30))=true:=by rfl)
  (hline:(apos.endLine == cpos.line)=true:=by rfl) (hs1:starEach [.Constant (.str y) j1 p1,e2,.Constant (.int 1) j3 p3] X.env=(false,eval (.Constant (.str y) j1 p1) X.env)::starEach [e2,.Constant (.int 1) j3 p3] X.env:=by rfl)
  (hs2:starEach [e2,.Constant (.int 1) j3 p3] X.env=(false,eval e2 X.env)::starEach [.Constant (.int 1) j3 p3] X.env:=by rfl)
  (hs3:starEach [.Constant (.int 1) j3 p3] X.env=(false,eval (.Constant (.int 1) j3 p3) X.env)::starEach [] X.env:=by rfl)
  (hplain:(backTo cpos (starEach [e2,.Constant (.int 1) j3 p3] X.env)).any (·.1)=false:=by rfl) :
  wpAny (model X.prog X.w) X.A (eval (.Call (.Attribute o "replace" apos) [.Constant (.str y) j1 p1,e2,.Constant (.int 1) j3 p3] [] cpos) X.env) Q X.xe s:=by
 refine wpAny_Call_method_late hbase hfew hline rfl (ho _ ?_);obtain⟨h1,h2⟩:=atr (T := "str") (x:=.str x) (v:=.str x t0) I ⟨t0,rfl⟩ (by first | exact rfl | exact⟨_,rfl⟩ | trivial);refine⟨"str","str.replace",F.plainAttrs_str,F.slot_str_replace,F.type_str_replace,h1,h2,?_⟩;rw[hs1];refine Calls.callWith_builtin (by show (false||(backTo cpos (starEach [e2,.Constant (.int 1) j3 p3] X.env)).any (·.1))=false;rw[hplain]<;>rfl) (Calls.evalArgs_plain ?_);show wpAny _ _ (spliced ((false,eval (.Constant (.str y) j1 p1) X.env)::backTo cpos (starEach [e2,.Constant (.int 1) j3 p3] X.env))) _ _ s;refine Calls.spliced_cons (Calls.Constant_str ?_);rw[hs2];show wpAny _ _ (spliced ((false,eval e2 X.env)::backTo cpos (starEach [.Constant (.int 1) j3 p3] X.env))) _ _ _;refine Calls.spliced_cons (he2 _ _ (Nat.succ_pos _) fun t k' ht=>?_);rw[hs3];show wpAny _ _ (spliced ((false,eval (.Constant (.int 1) j3 p3) X.env)::backTo cpos (starEach [] X.env))) _ _ _;refine Calls.spliced_cons (wpAny_Constant_int ?_);refine Calls.spliced_nil ?_;exact ape (Nat.ne_of_gt htk) ht hyz hx hz fun r t' k2 hr=>h r t' k2 hr
theorem amr {A:Around}{E:Value->Shared->Prop}{n:Str}{p:Pos}{m:Str->Option Value}{u:Value}(I:Inv X pins σ H s){k:Nat}(hk:X.env.kindOf n=some .local) (hn:s.heap.Ns X.env.locals m) (hm:m n=some u) (h:Q u { s with toks:=k })
  (hd:(n == ("__debug__" : Str))=false:=by decide):wpAny (model X.prog X.w) A (eval (.Name n p) X.env) Q E { s with toks:=k } :=
 wpAny_Name (wpAny_loadName_local I.ok.kind hk (s:={ s with toks:=k }) hn hm h) hd
theorem ask {CX:CXT}{k:Nat}{f:Addr}{fd:FuncData}{ps:List Str}{sp:Sp}{E:XK}{Q:VK}{us:List Value}{vs:List V}{m:Str->Option Value}(F:FnOk X.prog X.w X.K X.mg X.base CX k f fd ps sp) (hr:Room k X.A) (hb:aeg X.K fd ps []) (hx:agb CX X E)
  (I:Inv X pins σ H s) (hn:s.heap.Ns X.env.locals m) (r:Vals vs us) (h:sp vs H Q E):wpAny (model X.prog X.w) X.A (call (.ref f) us) (fun u s'=>EP X pins σ Q u s'/\s'.heap.Ns X.env.locals m) X.xe s:=by
 have hl:(us++[]).length=ps.length:=by rw[List.append_nil,← r.length];exact F.len _ _ _ _ h
 have hb':=hb s us I.kIn hl;rw[List.append_nil] at hb';refine wpAny_call (codeAny_mono (F.run X.A X.stack s H ⟨us,[]⟩ us vs Q E hr I.env0 hb' r h) fun r s' hq=>?_);cases r with
 | error e=>exact hx pins σ H s e s' I hq
 | ok fl =>
  cases fl with
  | ret u =>
   refine⟨I.after hq,?_⟩;obtain⟨v,H',os,bare,un,hok,r,q⟩:=hq;obtain⟨o,es,ep,ho,r⟩:=hn;obtain⟨sl,hL⟩:=un.any ho I.free (by simp);exact⟨_,es,ep,hL,r⟩
  | next=>exact False.elim hq
  | brk=>exact False.elim hq
  | cont=>exact False.elim hq
theorem amo {CX:CXT}{k:Nat}{f:Addr}{fd:FuncData}{ps:List Str}{sp:Sp}{E:XK}{R:Hp->Prop}{m:Str->Option Value}{nf nt ns:Str}{p pt p2 pos:Pos}{t:Tok}(F:FnOk X.prog X.w X.K X.mg X.base CX k f fd ps sp) (hr:Room k X.A) (hg:Gl X nf) (hmg:X.mg nf=some (.ref f)) (hk:PySem.W.keepIn X.K (.ref f)=true) (hb:aeg X.K fd ps []) (hx:agb CX X E)
  (I:Inv X pins σ H s) (htk:0<s.toks) (hn:s.heap.Ns X.env.locals m) (hkt:X.env.kindOf nt=some .local) (hks:X.env.kindOf ns=some .local) (hmt:m nt=some (.str x t0)) (hms:m ns=some (.str z t)) (ht:t≠0)
  (hyz:y≠z) (hlx:x.length<=100000) (hlz:z.length<=100000) (h:∀ r,Rp1 x y z r->sp [.str r] H (fun v H1=>v = .bl true/\R H1) E)
  (hdt:(nt == ("__debug__" : Str))=false:=by decide) (hds:(ns == ("__debug__" : Str))=false:=by decide) (hdb:(nf == ("__debug__" : Str))=false:=by decide)
  (hbase:attributeBase (.Name nt pt) "replace" X.env (eval (.Name nt pt) X.env)=eval (.Name nt pt) X.env:=by rfl)
  (hline:(apos.endLine == cpos.line)=true:=by rfl) :
  wpAny (model X.prog X.w) X.A (isTrue (.Call (.Name nf p) [.Call (.Attribute (.Name nt pt) "replace" apos) [.Constant (.str y) j1 p1,.Name ns p2,.Constant (.int 1) j3 p3] [] cpos] [] pos) X.env (eval (.Call (.Name nf p) [.Call (.Attribute (.Name nt pt) "replace" apos) [.Constant (.str y) j1 p1,.Name ns p2,.Constant (.int 1) j3 p3] [] cpos] [] pos) X.env))
   (fun b s'=>b=true/\∃ H1,Inv X pins σ H1 s'/\R H1/\s'.heap.Ns X.env.locals m/\0<s'.toks) X.xe s:=by
 refine wpAny_with_toks (n:=1) htk (wpAny_mono (Q:=fun b s'=>b=true/\∃ H1,Inv X pins σ H1 s'/\R H1/\s'.heap.Ns X.env.locals m) (E:=X.xe) ?_ (fun b s' ⟨e,H1,I1,r1,n1⟩ hk=>⟨e,H1,I1,r1,n1,hk⟩) (fun _ _ q _=>q));refine isTrue_plain ?_ rfl;refine wpAny_Call_Name_kw (aec I hg hmg ?_ hdb);refine PySem.W.callWith_K (h₀:=X.base) I.ok.mod.kin hk ?_ rfl rfl;show wpAny _ _ (spliced ((false,eval (.Call (.Attribute (.Name nt pt) "replace" apos) [.Constant (.str y) j1 p1,.Name ns p2,.Constant (.int 1) j3 p3] [] cpos) X.env)::backTo pos (starEach [] X.env))) _ _ s;refine Calls.spliced_cons (apt (x:=x) (z:=z) (t0:=t0) I htk (fun Q' q=>amr (k:=s.toks) I hkt hn hmt q hdt) (fun k' Q' _ q=>amr (k:=k') I hks hn hms (q _ _ ht) hds) hyz hlx hlz (fun r t' k' hR=>?_) hbase rfl hline rfl rfl rfl rfl);refine Calls.spliced_nil ⟨(I.tok k').kIn,?_⟩;refine wpAny_mono (ask (vs:=[.str r]) F hr hb hx (I.tok k') hn (.cons ⟨t',rfl⟩ .nil) (h r hR)) (fun u s' ⟨⟨v,H1,I1,rv,e,hR1⟩,n1⟩=>?_) (fun _ _ q=>q);subst e;cases rv;exact wpAny_truthy_bool ⟨rfl,H1,I1,hR1,n1⟩
end
def TokS (u:Value) (s':Shared):Prop:=(∀ z t,u = .str z t->t≠0)/\0<s'.toks
def CRt (outer:List Env) (P:Program) (w:World) (H:Hp) (s:Shared) (Q:VK) (r:Result) (s':Shared):Prop :=
 match r with
 | .ok (.ret u)=>TokS u s'/\CE outer P w H s Q u s'
 | _=>False
structure FnT (P:Program) (w:World) (K:PySem.W.Frag) (mg:Str->Option Value) (base:Heap) (k:Nat) (f:Addr) (fd:FuncData) (ps:List Str) (sp:Sp):Prop where
 len:∀ vs H Q E,sp vs H Q E->vs.length=ps.length
 run:∀ (A:Around) (outer:List Env) (s:Shared) (H:Hp) (args:Args) (us:List Value) (vs:List V) (Q:VK),Room k A->Env0 P w K mg base A outer s H->BindsTo s fd args (ps.zip us)->Vals vs us->sp vs H Q E0 ->
  codeAny (model P w) A (.call (.ref f) args) (CRt outer P w H s Q) s
def SPt (X:Cx) (Q:VK) (f:Flow) (s':Shared):Prop :=
 match f with
 | .ret u=>TokS u s'/\∃ v σ' H',Inv X [] σ' H' s'/\RelV v u/\Q v H'
 | _=>False
theorem Fun.okT {P:Program}{w:World}{K:PySem.W.Frag}{mg:Str->Option Value}{base:Heap}{x qual:Str}{st:Stmt}{f:Addr}{fd:FuncData}{N ps:List Str}{k:Nat}{sp:Sp}(F:Fun K x qual st f fd) (S:FnScope N ps (aae st)) (len:∀ vs H Q E,sp vs H Q E->vs.length=ps.length)
  (hbody:∀ (cdv:Value) (A:Around) (outer:List Env) (s:Shared) (H:Hp) (vs:List V) (Q:VK),Room k (A.deeper (envOfC qual (aae st) s.heap.objs.size f cdv))->sp vs H Q E0 ->∀ s1,Inv (cxOf CX0 P w K mg base N qual (aae st) f cdv A outer s H E0).nox [] (start N vs) H s1 ->wpAny (model P w) (cxOf CX0 P w K mg base N qual (aae st) f cdv A outer s H E0).A (execs (acy st) (cxOf CX0 P w K mg base N qual (aae st) f cdv A outer s H E0).env) (SPt (cxOf CX0 P w K mg base N qual (aae st) f cdv A outer s H E0).nox Q) (fun _ _=>False) s1) :
  FnT P w K mg base (k+1) f fd ps sp:=by
 obtain⟨oc,od,kV,doc,pm,an,cdv,ct,osl,rfl,lk,hcd⟩:=F.ex;refine⟨len,fun A outer s H args us vs Q hr e0 hb r hsp=>?_⟩;have hl:=len _ _ _ _ hsp;have KX:K.In s.heap:=e0.mod.kin.keeps fun b o e=>(e0.bs b o e).1
 have lim:s.heap.NoLimit:=e0.mod.nolimit.keeps fun b o e=>(e0.bs b o e).1
 have hkind:∀ y∈ps.zip us,(aae st).names.lookup y.1=some .local\/((aae st).names.lookup y.1=some .cell/\((cellsFrom (s.heap.objs.size+1) (aae st).names []).lookup y.1).isSome=true):=fun ⟨n,v⟩ hy=>by
  rcases S.par n (List.of_mem_zip hy).1 with q | q
  ·exact .inl q
  ·exact .inr ⟨q,PySem.W.cellsFrom_some _ _ _ (.inl q)⟩
 refine codeAny_call_function hr.depth (KX _ _ lk) rfl S.co S.gen rfl (PySem.W.codeRec_of KX hcd) (hb _ _ _ _ ?_);refine wpAny_newFunctionEnv_cells S.kind hkind fun env he s1 x=>?_
 subst he;refine⟨lim.keeps x.toInCall.keep,codeAny_func ?_⟩;have I:Inv (cxOf CX0 P w K mg base N qual (aae st) f cdv A outer s H E0) [] (start N vs) H s1:=ak2 S hr.hd e0 hl r x;refine wpAny_mono (hbody cdv A outer s H vs Q (hr.deeper _) hsp s1 (I.wish _)) (fun fl s' hs=>?_) fun e s' hs=>hs.elim
 cases fl with
 | ret u =>
  obtain⟨ht,v,σ',H',J,rv,q⟩:=hs;have J':=J.unwish;exact⟨ht,v,H',J'.os,J'.bare,J'.base,J'.hok,rv,q⟩
 | next=>exact hs.elim
 | brk=>exact hs.elim
 | cont=>exact hs.elim
section
variable {X:Cx}{pins:List (Addr×Obj)}{σ:St}{H:Hp}{s:Shared}
theorem akg {M:Model}{A:Around}{E:Value->Shared->Prop}{i:Nat}{x:Str}{v:V}{u:Value}{Q:Unit->Shared->Prop}(I:Inv X pins σ H s) (hN:X.N.Nodup) (hi:X.N[i]?=some x) (hk:X.env.scope.names.lookup x=some .local) (r:RelV v u)
  (h:∀ h' m,h'.Ns X.env.locals m->m x=some u->Inv X pins (σ.set i (some v)) H { s with heap:=h',toks:=s.toks+1 }->Q () { s with heap:=h',toks:=s.toks+1 }):wpAny M A (storeName X.env x u) Q E s:=by
 obtain⟨m,hn,hl⟩:=id I.loc;obtain⟨oL,_,_,hoL,_⟩:=id hn;have far:∀ b o,X.s₀.heap.get? b=some o->b≠X.env.locals:=fun b o e=>Nat.ne_of_lt (Nat.lt_of_lt_of_le (Heap.lt_size e) I.ok.above)
 refine wpAny_storeName_local hk hn (fun h' hn' hs=>h h' _ hn' (by simp) ?_) (by rw[I.ok.kind];rfl);have same:∀ b,b≠X.env.locals->h'.get? b=s.heap.get? b:=hs.2;refine⟨I.ok,I.os,I.bare,?_,⟨_,hn',fun j y v' e1 e2 e3=>?_⟩,fun y c e=>let ⟨w',z⟩:=I.cell y c e;⟨w',z.sameBut hs (I.cne y c e)⟩,I.free,I.freeC,fun p hp=>let ⟨e,q⟩:=I.pin p hp;⟨(same p.1 q.2.1).trans e,q⟩,fun b ob e=>?_,by simpa using I.len⟩
 ·exact⟨fun b o e n hb hx=>(same b (far b o e)).trans (I.base.keep b o e n hb hx),fun b o e n hb hx=>let ⟨sl,q⟩:=I.base.slot b o e n hb hx;⟨sl,(same b (far b o e)).trans q⟩,I.base.free,fun b o e hx=>let ⟨o',q⟩:=I.base.there b o e hx;⟨o',(same b (far b o e)).trans q⟩,I.base.tups,I.base.frzs,I.base.tbls⟩
 ·by_cases hj:j=i
  ·subst hj;obtain rfl:x=y:=Option.some.inj (hi.symm.trans e1);rw[List.getElem?_set_self (by rw[I.len];exact (List.getElem?_eq_some_iff.mp hi).1)] at e2;exact⟨u,by cases e2;exact r,.inl ⟨hk,by simp⟩⟩
  ·rw[List.getElem?_set_ne (Ne.symm hj)] at e2;obtain⟨u',r',q⟩:=hl j y v' e1 e2 e3;have ne:y≠x:=fun e=>hj (ai7 hN e1 (e▸hi))
   exact⟨u',r',q.imp (fun ⟨a,b⟩=>⟨a,by simp[ne,b]⟩) (fun ⟨a,c,e,z⟩=>⟨a,c,e,z.sameBut hs (I.cne y c e)⟩)⟩
 ·have ne:∀ c w,H c=some w->c≠X.env.locals:=fun c w q z=>by rw[z,I.free] at q;cases q
  exact (I.hok b ob e).stay (fun c w hc q=>(same c (hc.elim (fun z=>z▸ne b ob e) (ne c _))).trans q) (fun _ q=>q) fun _ _ q=>q
theorem aud {k:Nat}{f:Addr}{fd:FuncData}{ps:List Str}{sp:Sp}{Q:VK}{us:List Value}{vs:List V}(F:FnT X.prog X.w X.K X.mg X.base k f fd ps sp) (hr:Room k X.A) (hb:aeg X.K fd ps [])
  (I:Inv X pins σ H s) (r:Vals vs us) (h:sp vs H Q E0):wpAny (model X.prog X.w) X.A (call (.ref f) us) (fun u s'=>TokS u s'/\EP X pins σ Q u s') X.xe s:=by
 have hl:(us++[]).length=ps.length:=by rw[List.append_nil,← r.length];exact F.len _ _ _ _ h
 have hb':=hb s us I.kIn hl;rw[List.append_nil] at hb';refine wpAny_call (codeAny_mono (F.run X.A X.stack s H ⟨us,[]⟩ us vs Q hr I.env0 hb' r h) fun r s' hq=>?_);cases r with
 | error e=>exact False.elim hq
 | ok fl =>
  cases fl with
  | ret u=>exact⟨hq.1,I.after hq.2⟩
  | next=>exact False.elim hq
  | brk=>exact False.elim hq
  | cont=>exact False.elim hq
theorem asq {CX:CXT}{kf kg idk it is:Nat}{f g:Addr}{fdf fdg:FuncData}{pf pg:List Str}{spf spg:Sp}{E:XK}{nf ng nd nt ns:Str}{ys:List Stmt}{rest:List Stmt}{u:TS}{y1 y2:Str}
  {q1 q2 q3 q4 q5 q6 q7 a1 a2 a3 a4 a5 a6 a7 a8 b1 b2 b3 b4 b5 b6 b7 b8 c1 c2:Pos}{i1 i2 i3 i4:Nat}
  (Ff:FnT X.prog X.w X.K X.mg X.base kf f fdf pf spf) (Fg:FnOk X.prog X.w X.K X.mg X.base CX kg g fdg pg spg) (hrf:Room kf X.A) (hrg:Room kg X.A)
  (hgf:Gl X nf) (hmf:X.mg nf=some (.ref f)) (hkf:PySem.W.keepIn X.K (.ref f)=true) (hbf:aeg X.K fdf pf []) (hgg:Gl X ng) (hmg:X.mg ng=some (.ref g)) (hkg:PySem.W.keepIn X.K (.ref g)=true) (hbg:aeg X.K fdg pg []) (hx:agb CX X E)
  (hN:X.N.Nodup) (hid:X.N[idk]?=some nd) (hit:X.N[it]?=some nt) (his:X.N[is]?=some ns) (hvd:Vis X.env.scope nd) (hkt:X.env.scope.names.lookup nt=some .local) (hks:X.env.scope.names.lookup ns=some .local) (hts:it≠is)
  (hrest:PSs X rest u)
  (hdd:(nd == ("__debug__" : Str))=false:=by decide) (hcd:(nd == ("__classdict__" : Str))=false:=by decide) (hdt:(nt == ("__debug__" : Str))=false:=by decide) (hds:(ns == ("__debug__" : Str))=false:=by decide) (hdf:(nf == ("__debug__" : Str))=false:=by decide) (hdg:(ng == ("__debug__" : Str))=false:=by decide)
  (hsw:swapsWith (.Call (.Name nf q1) [.Name nd q2] [] q3) (some (.Name ns q4)) q5.line X.env=pure false:=by rfl)
  (hba:attributeBase (.Name nt a2) "replace" X.env (eval (.Name nt a2) X.env)=eval (.Name nt a2) X.env:=by rfl) (hbb:attributeBase (.Name nt b2) "replace" X.env (eval (.Name nt b2) X.env)=eval (.Name nt b2) X.env:=by rfl)
  (hla:(a3.endLine == a7.line)=true:=by rfl) (hlb:(b3.endLine == b7.line)=true:=by rfl) :
  PSs X (.Assign [.Name ns q4] (.Call (.Name nf q1) [.Name nd q2] [] q3) q5 ::.If (.BoolOp .Or [.UnaryOp .Not (.Call (.Name ng a1) [.Call (.Attribute (.Name nt a2) "replace" a3) [.Constant (.str y1) i1 a4,.Name ns a5,.Constant (.int 1) i2 a6] [] a7] [] a8) c1,.UnaryOp .Not (.Call (.Name ng b1) [.Call (.Attribute (.Name nt b2) "replace" b3) [.Constant (.str y2) i3 b4,.Name ns b5,.Constant (.int 1) i4 b6] [] b7] [] b8) c2] q6) ys [] q7::rest)
   (fun D σ H=>∃ dv x,σ[idk]?=some (some dv)/\σ[it]?=some (some (.str x))/\x.length<=100000/\spf [dv] H (fun v H1=>∃ z,v = .str z/\z.length<=100000/\y1≠z/\y2≠z /\ ∀ r,Rp1 x y1 z r->spg [.str r] H1 (fun v H2=>v = .bl true/\∀ r2,Rp1 x y2 z r2->spg [.str r2] H2 (fun v H3=>v = .bl true/\u D (σ.set is (some (.str z))) H3) E) E) E0):=by
 intro pins s σ H D I ⟨dv,x,ed,et,hlx,h⟩;refine wpAny_execs_cons (wpAny_Assign_Name ?_ hsw);refine wpAny_Call_Name_kw (aec I hgf hmf ?_ hdf);refine PySem.W.callWith_K (h₀:=X.base) I.ok.mod.kin hkf (thn (adr (ap2 hid hvd hdd hcd) aad rfl q3 pins s σ H (fun vs H1=>vs=[dv]/\H1=H) I ⟨dv,ed,rfl,rfl⟩) fun us s1 ⟨vs,H1,I1,r,e1,e2⟩=>⟨I1.kIn,?_⟩) rfl rfl;subst e1;subst e2;refine thn (aud Ff hrf hbf I1 r h) fun w s2 ⟨⟨tk1,tk2⟩,v,H2,I2,rv,z,ez,hlz,n1,n2,h2⟩=>?_
 subst ez;obtain⟨t,rfl⟩:=rv;have ht:t≠0:=tk1 z t rfl;refine akg (i:=is) (v:=.str z) I2 hN his hks ⟨t,rfl⟩ fun h' m hn hm I3=>?_
 obtain⟨m',hn',hl⟩:=I3.loc;have em:∀ y,m' y=m y:=fun y=>by
  have hn:=hn;obtain⟨o,es,ep,ho,d,_,r⟩:=hn;obtain⟨o',es',ep',ho',d',_,r'⟩:=hn';have ho2:h'.get? X.env.locals=some o':=ho';rw[ho] at ho2;cases ho2;rw[d] at d';injection d' with e1 _;subst e1;rw[← r,← r']
 obtain⟨ut,rt,lt⟩:=hl it nt (.str x) hit (by rw[List.getElem?_set_ne (Ne.symm hts)];exact et) (.inl hkt);obtain⟨t0,rfl⟩:=rt;have hmt:m nt=some (.str x t0):=by
  rcases lt with⟨_,e⟩ | ⟨k,_⟩
  ·rw[← em];exact e
  ·have hk':X.env.kindOf nt=some .local:=hkt;rw[hk'] at k;rcases k with k | k<;>cases k
 refine wpAny_execs_cons (wpAny_If (isTrue_or (isTrue_not (thn (amo Fg hrg hgg hmg hkg hbg hx I3 (Nat.succ_pos _) hn hkt hks hmt hm ht n1 hlx hlz h2 hdt hds hdg hba hla) fun b s4 ⟨eb,H4,I4,q4,n4,tk4⟩=>?_))));subst eb;refine isTrue_or (isTrue_not (thn (amo Fg hrg hgg hmg hkg hbg hx I4 tk4 n4 hkt hks hmt hm ht n2 hlx hlz q4 hdt hds hdg hbb hlb) fun b s5 ⟨eb,H5,I5,q5,n5,tk5⟩=>?_));subst eb;refine isTrue_or_nil ?_;refine wpAny_execs_nil ?_;exact hrest pins s5 _ H5 D I5 q5
end
def PEt (X:Cx) (e:Expr) (t:TE):Prop :=
 ∀ (pins:List (Addr×Obj)) (s:Shared) (σ:St) (H:Hp) (Q:VK),0<s.toks->Inv X pins σ H s->t σ H Q->wpAny (model X.prog X.w) X.A (eval e X.env) (EP X pins σ Q) X.xe s
def PEu (X:Cx) (e:Expr) (t:TE):Prop :=
 ∀ (pins:List (Addr×Obj)) (s:Shared) (σ:St) (H:Hp) (Q:VK),Inv X pins σ H s->t σ H Q->wpAny (model X.prog X.w) X.A (eval e X.env) (fun u s'=>0<s'.toks/\EP X pins σ Q u s') X.xe s
def PAt (X:Cx) (es:List Expr) (t:TA):Prop :=
 ∀ (pos:Pos) (pins:List (Addr×Obj)) (s:Shared) (σ:St) (H:Hp) (Q:List V->Hp->Prop),0<s.toks->Inv X pins σ H s->t σ H Q->wpAny (model X.prog X.w) X.A (spliced (backTo pos (starEach es X.env))) (AP X pins σ Q) X.xe s
section
variable {X:Cx}{e:Expr}{es:List Expr}{te:TE}{t:TA}{pos:Pos}
theorem PE.gt (h:PE X e te):PEt X e te:=fun pins s σ H Q _=>h pins s σ H Q
theorem PA.gt (h:PA X es t):PAt X es t:=fun p pins s σ H Q _=>h p pins s σ H Q
theorem ago (ha:PEt X e te) (hr:PAt X es t) (hs:starEach (e::es) X.env=(false,eval e X.env)::starEach es X.env:=by rfl):PAt X (e::es) (ajo te t):=by
 intro pos pins s σ H Q tk I h;rw[hs];show wpAny _ _ (spliced ((false,eval e X.env)::backTo pos (starEach es X.env))) _ _ s;refine Calls.spliced_cons (wpAny_mono (wpAny_toks_of tk (ha pins s σ H _ tk I h)) (fun u s1 ⟨tk1,x,H1,I1,r1,q1⟩=>?_) (fun _ _ q=>q.2));exact thn (hr pos pins s1 σ H1 _ tk1 I1 q1) fun us s2 ⟨xs,H2,I2,r2,q2⟩=>⟨x::xs,H2,I2,.cons r1 r2,q2⟩
theorem pa_up (ha:PEu X e te) (hr:PAt X es t) (hs:starEach (e::es) X.env=(false,eval e X.env)::starEach es X.env:=by rfl):PA X (e::es) (ajo te t):=by
 intro pos pins s σ H Q I h;rw[hs];show wpAny _ _ (spliced ((false,eval e X.env)::backTo pos (starEach es X.env))) _ _ s;refine Calls.spliced_cons (thn (ha pins s σ H _ I h) fun u s1 ⟨tk1,x,H1,I1,r1,q1⟩=>?_);exact thn (hr pos pins s1 σ H1 _ tk1 I1 q1) fun us s2 ⟨xs,H2,I2,r2,q2⟩=>⟨x::xs,H2,I2,.cons r1 r2,q2⟩
theorem pu_add {c:Str}{j:Nat}{p:Pos}{b:Expr}{tb:TE}(hb:PE X b tb):PEu X (.BinOp (.Constant (.str c) j p) .Add b pos) (tOp (fun x y H Q=>∃ i j,x = .str i/\y = .str j/\i.length+j.length<=sizeLine/\Q (.str (i++j)) H) (tC (.str c)) tb):=by
 intro pins s σ H Q I h;refine wpAny_BinOp (Calls.Constant_str ?_);refine wpAny_mono (wpAny_toks_of (n:=1) (Nat.succ_le_succ (Nat.zero_le _)) (hb pins _ σ H _ (I.tok _) h)) (fun u s2 ⟨tk,y,H2,I2,r2,q2⟩=>?_) (fun _ _ q=>q.2);exact wpAny_mono (wpAny_toks_of tk (aay pins s2 σ H2 (.str c) y _ u Q I2 ⟨_,rfl⟩ r2 q2)) (fun _ _ q=>q) (fun _ _ q=>q.2)
theorem pt_rep {i:Nat}{nt y z:Str}{pt apos cpos p1 p2 p3:Pos}{j1 j2 j3:Nat}(hN:X.N[i]?=some nt) (hv:Vis X.env.scope nt) (hyz:y≠z) (hz:z.length<=100000)
  (hd:(nt == ("__debug__" : Str))=false:=by decide) (hcd:(nt == ("__classdict__" : Str))=false:=by decide)
  (hbase:attributeBase (.Name nt pt) "replace" X.env (eval (.Name nt pt) X.env)=eval (.Name nt pt) X.env:=by rfl)
  (hline:(apos.endLine == cpos.line)=true:=by rfl) :
  PEt X (.Call (.Attribute (.Name nt pt) "replace" apos) [.Constant (.str y) j1 p1,.Constant (.str z) j2 p2,.Constant (.int 1) j3 p3] [] cpos) (fun σ H Q=>∃ x,σ[i]?=some (some (.str x))/\x.length<=100000/\∀ r,Rp1 x y z r->Q (.str r) H):=by
 intro pins s σ H Q tk I h;obtain⟨x,ex,hx,h⟩:=h;obtain⟨m,hn,hl⟩:=I.loc;obtain⟨u,r,l⟩:=hl i nt _ hN ex hv;obtain⟨t0,rfl⟩:=r;refine apt (x:=x) (t0:=t0) I tk (fun Q' q=>?_) (fun k Q' hk q=>Calls.Constant_str (q _ _ (Nat.ne_of_gt hk))) hyz hx hz (fun r t' k' hR=>⟨.str r,H,I.tok k',⟨t',rfl⟩,h r hR⟩) hbase rfl hline rfl rfl rfl rfl;rcases l with⟨hk,hm⟩ | ⟨hk,c,hc,hcell⟩
 ·exact wpAny_Name (wpAny_loadName_local I.ok.kind hk hn hm q) hd
 ·rcases hk with hk | hk
  ·exact wpAny_Name (wpAny_loadName_cell I.ok.kind hk hc hcell q) hd
  ·exact wpAny_Name (wpAny_loadName_free I.ok.kind hk hc hcell q hcd) hd
end
section
variable {X:Cx}{a b:Expr}{ta tb:TE}{pos:Pos}{pins:List (Addr×Obj)}{s:Shared}{σ:St}{H:Hp}{Q:VK}
theorem au1 (ha:PE X a ta) (hb:PE X b tb) (hs:as1 b) (tk:0<s.toks) (I:Inv X pins σ H s)
  (h:ta σ H fun x H1=>tb σ H1 fun y H2=>∃ z i c,x = .str z/\y = .int i/\0<=i/\i<2 ^ 63/\i<z.length/\z.cps[i.toNat]?=some c/\Q (.str ⟨#[c]⟩) H2) :
  wpAny (model X.prog X.w) X.A (eval (.Subscript a b pos) X.env) (fun u s'=>TokS u s'/\EP X pins σ Q u s') X.xe s:=by
 refine Subscript_ (wpAny_mono (wpAny_toks_of tk (ha pins s σ H _ I h)) (fun v s1 ⟨tk1,x,H1,I1,rx,q1⟩=>?_) (fun _ _ q=>q.2));refine wpAny_mono (wpAny_toks_of tk1 (hb pins s1 σ H1 _ I1 q1)) (fun u s2 ⟨tk2,y,H2,I2,ry,z,i,c,e1,e2,h0,h63,h1,hc,q⟩=>?_) (fun _ _ q=>q.2);subst e1 e2;obtain⟨t,rfl⟩:=rx;obtain⟨t',rfl⟩:=ry;have e:seqIndex? i z.length=some i.toNat:=PySem.StrLaws.seqIndex_nonneg h0 h1;refine tail_any (typeIs_str s2 z t) slot_str_getitem.lookup (getItem_str (c:=c) (by
  have e1:decide (i < -(2 ^ 63:Int))=false:=decide_eq_false (by omega);have e2:decide (i>=2 ^ 63)=false:=decide_eq_false (by omega);rw[e1,e2]<;>rfl) (by rw[e];exact hc) ?_) (hs _ _)
 refine⟨⟨fun z' t2 eq=>?_,Nat.succ_pos _⟩,.str ⟨#[c]⟩,H2,I2.tok _,⟨_,rfl⟩,q⟩;injection eq with _ e3;rw[← e3];exact Nat.ne_of_gt tk2
end
end L2
namespace Lw
open PySem L2 PySem.Spec PyProof.Rows
def sgS:Str := "!\"#$&'()*+,-./0123456789:;<=>?@ABCDEFGHIJKLMNOPQRSTUVWXYZ[\\]^_`abcdefghijklmnopqrstuvwxyz{|}~"
theorem amy:sgS.length=93:=by decide +kernel
theorem sg_all:(sgS.cps.toList.all fun c=>decide (33<=c)&&decide (c<127))=true:=by decide +kernel
theorem sg_at {i:Nat}(h:i<93):∃ c,sgS.cps[i]?=some c/\33<=c/\c<127:=by
 have hl:i<sgS.cps.size:=by rw[show sgS.cps.size=93 from amy];exact h
 refine⟨sgS.cps[i],by simp[hl],?_⟩;have:=List.all_eq_true.mp sg_all sgS.cps[i] (by simp)
 simpa using this
def avl:Sp:=fun vs H Q _=>∃ d c,vs=[.ref d]/\DeckAt H d c/\∀ (n:Nat) (H':Hp),33<=n->n<127->DeckAt H' d c->Keep d c H H'->Q (.str ⟨#[n]⟩) H'
section
variable {P:Program}{w:World}{K:PySem.W.Frag}{mg:Str->Option Value}{base:Heap}
theorem scSgn:FnScope ["deck","signs"] ["deck"] (aae ab4):=⟨rfl,rfl,rfl,by decide +kernel,rfl,by decide +kernel,by decide +kernel⟩
set_option maxHeartbeats 1000000 in
theorem aub {f fT:Addr}{fd fdT:FuncData}(F:Fun K "_law_sign" "_law_sign" ab4 f fd) (T:Txt mg) (gT:Gd K mg "_law_take" afs ["deck","many"] fT fdT) (GT:FnOk P w K mg base CX0 1 fT fdT ["deck","many"] ahl):FnT P w K mg base 2 f fd ["deck"] avl:=by
 refine F.okT (k:=1) scSgn (fun vs H Q E ⟨_,_,e,_⟩=>by rw[e];rfl) (fun cdv A outer s H vs Q hr h s1 I=>?_);obtain⟨d,c,rfl,D,k⟩:=h;have hu:=ajf hr;refine wpAny_execs_cons (wpAny_Assign_Name (Calls.Constant_str ?_) rfl);refine akg (X:=(cxOf CX0 P w K mg base ["deck","signs"] "_law_sign" (aae ab4) f cdv A outer s H E0).nox) (i:=1) (v:=.str sgS) (I.tok _) scSgn.nd rfl rfl ⟨_,rfl⟩ fun h' m hn hm I2=>?_
 refine wpAny_execs_cons (wpAny_Return_some ?_);have tk:0<s1.toks+1+1:=Nat.succ_pos _;refine wpAny_mono (au1 (X:=(cxOf CX0 P w K mg base ["deck","signs"] "_law_sign" (aae ab4) f cdv A outer s H E0).nox) (Q:=Q) (pv 1) (aak GT hr rfl gT.m gT.k gT.b .nil aa7 (pa_c (pv 0) (pa_c (aam adh (by rfl) T.len PySem.boot_len (pa_c (pv 1) aad)) aad))) (fun _ _=>rfl) tk I2 ?_) (fun u s4 ⟨tk4,v,H4,I4,rv,q⟩=>⟨tk4,v,_,H4,I4,rv,q⟩) (fun _ _ q=>q);refine⟨_,rfl,_,rfl,_,rfl,sgS,rfl,by rw[amy];decide,d,c,93,by rw[amy];rfl,D,by decide,by decide,fun r H' h0 h1 D' k'=>?_⟩;obtain⟨i,rfl⟩:=Int.eq_ofNat_of_zero_le h0;obtain⟨n,e,n1,n2⟩:=sg_at (i:=i) (by omega);exact⟨sgS,i,n,rfl,rfl,h0,by omega,by rw[amy];omega,e,k n H' n1 n2 D' k'⟩
theorem _root_.L2.FnT.ok {k:Nat}{f:Addr}{fd:FuncData}{ps:List Str}{sp:Sp}(F:FnT P w K mg base k f fd ps sp) (hsp:∀ vs H Q E,sp vs H Q E->sp vs H Q E0):FnOk P w K mg base CX0 k f fd ps sp :=
 ⟨F.len,fun A outer s H args us vs Q E hr e0 hb r h=>codeAny_mono (F.run A outer s H args us vs Q hr e0 hb r (hsp _ _ _ _ h)) fun r s' q=>by
  cases r with
  | error e=>exact False.elim q
  | ok fl =>
   cases fl with
   | ret u=>exact q.2
   | next=>exact False.elim q
   | brk=>exact False.elim q
   | cont=>exact False.elim q⟩
def R_sg:RD:=fun dk ds Φ=>∃ (d c:Addr),dk=[d,c]/\ds=[.raw (.ref d)]/\∀ n:Nat,33<=n->n<127->Φ (.val (.str ⟨#[n]⟩))
theorem br_sgn {k:Nat}{f:Addr}{fd:FuncData}{ps:List Str}(F:FnT P w K mg base k f fd ps avl):FnOk P w K mg base CX0 k f fd ps (spD K R_sg):=(F.ok fun _ _ _ _ h=>h).imp fun vs H Q E ⟨dk,A,ds,Φ,hdk,hA,r,⟨d,c,e1,e2,hΦ⟩,hq⟩=>by
 subst e1 e2;cases r with
 | cons r1 r =>
  cases r;have:=r1.raw_inv;subst_vars;exact⟨d,c,rfl,ai6 hdk,fun n H' n1 n2 D' kp=>hq _ _ H' (hΦ n n1 n2) (amc kp) (.inr ⟨d,c,rfl,D'⟩) (.str _)⟩
end
structure WOk (w:Str):Prop where
 asc:∀ d∈w.cps.toList,d<128/\d≠32/\d≠10
 l:w.length<=10
instance (w:Str):Decidable (WOk w):=decidable_of_iff ((w.cps.toList.all fun d=>decide (d<128) && !(d == 32) && !(d == 10))=true/\w.length<=10)
 ⟨fun ⟨a,b⟩=>⟨fun d hd=>by have:=List.all_eq_true.mp a d hd;simpa [and_assoc] using this,b⟩,fun ⟨a,b⟩=>⟨List.all_eq_true.mpr fun d hd=>by have:=a d hd;simp[this],b⟩⟩
def af2 (n:Nat) (r:Str):Prop:=∃ ws:List Str,r=Str.join spS ws/\ws≠[]/\ws.length<=n/\∀ x∈ws,WOk x
structure SpRows (n:Nat) (rs:List Str):Prop where
 ne:rs≠[]
 l:rs.length<=n+19
 ok:∀ r∈rs,af2 n r
theorem af2.mono {n m:Nat}{r:Str}(h:af2 n r) (le:n<=m):af2 m r:=by
 obtain⟨ws,a,b,c,d⟩:=h;exact⟨ws,a,b,Nat.le_trans c le,d⟩
theorem WOk.sp {x:Str}(h:WOk x):32∉x.cps.toList:=fun z=>(h.asc 32 z).2.1 rfl
theorem af2.words {n:Nat}{r:Str}(h:af2 n r):Txt.split r spS≠[]/\(Txt.split r spS).length<=n/\∀ x∈Txt.split r spS,WOk x:=by
 obtain⟨ws,rfl,b,c,d⟩:=h;rw[aj1,aht 32 b fun y hy=>(d y hy).sp];exact⟨b,c,d⟩
theorem aar (s:Str):s.cps.toList.length=s.length:=Array.length_toList
theorem ai3 (c k:Nat):∀ ws:List Str,(∀ x∈ws,x.length<=k)->(Str.join ⟨#[c]⟩ ws).cps.toList.length<=ws.length*(k+1)
 | [],_=>Nat.zero_le _
 | [x],h=>by
  have:=h x (List.mem_singleton.mpr rfl);show x.cps.toList.length<=_;rw[aar];simp;omega
 | x::y::r,h=>by
  have h1:=ai3 c k (y::r) fun z hz=>h z (List.mem_cons_of_mem _ hz)
  have h2:=h x List.mem_cons_self;rw[abl,List.length_append,List.length_append,aar x];have e:(⟨#[c]⟩:Str).cps.toList.length=1:=rfl;have e2:(x::y::r).length*(k+1)=(y::r).length*(k+1)+(k+1):=by simp only[List.length_cons];exact Nat.succ_mul _ _
  rw[e,e2];omega
theorem ajc (c:Nat):∀ (ws:List Str) (d:Nat),d∈(Str.join ⟨#[c]⟩ ws).cps.toList->d=c\/∃ x∈ws,d∈x.cps.toList
 | [],d,h=>by
  have e:(Str.join ⟨#[c]⟩ []).cps.toList=[]:=rfl;rw[e] at h;cases h
 | [x],d,h=>.inr ⟨x,List.mem_singleton.mpr rfl,h⟩
 | x::y::r,d,h=>by
  rw[abl] at h;rcases List.mem_append.mp h with h | h
  ·exact .inr ⟨x,List.mem_cons_self,h⟩
  ·rcases List.mem_append.mp h with h | h
   ·exact .inl (List.mem_singleton.mp h)
   ·rcases ajc c (y::r) d h with q | ⟨z,q1,q2⟩
    ·exact .inl q
    ·exact .inr ⟨z,List.mem_cons_of_mem _ q1,q2⟩
theorem af2.len {n:Nat}{r:Str}(h:af2 n r):r.length<=11*n:=by
 obtain⟨ws,rfl,b,c,d⟩:=h;have:=ai3 32 10 ws fun x hx=>(d x hx).l
 rw[← aar,aj1];exact Nat.le_trans this (by rw[Nat.mul_comm];exact Nat.mul_le_mul_left _ c)
theorem af2.asc {n:Nat}{r:Str}(h:af2 n r):∀ d∈r.cps.toList,d<128/\d≠10:=by
 obtain⟨ws,rfl,b,c,e⟩:=h;intro d hd;rw[aj1] at hd;rcases ajc 32 ws d hd with rfl | ⟨x,hx,hd⟩
 ·exact⟨by decide,by decide⟩
 ·exact⟨((e x hx).asc d hd).1,((e x hx).asc d hd).2.2⟩
theorem SpRows.text {n:Nat}{rs:List Str}(h:SpRows n rs) (hn:n<=10):(∀ d∈(Str.join nlS rs).cps.toList,d<128)/\(Str.join nlS rs).length<=3600:=by
 rw[amu];constructor
 ·intro d hd;rcases ajc 10 rs d hd with rfl | ⟨x,hx,hd⟩
  ·decide
  ·exact ((h.ok x hx).asc d hd).1
 ·have h1:=ai3 10 110 rs fun x hx=>by have:=(h.ok x hx).len;omega
  have h2:=h.l;rw[aar] at h1;have h3:rs.length*111<=29*111:=Nat.mul_le_mul_right _ (by omega);omega
end Lw
namespace L2
open PySem PySem.Spec PyProof.Rows
def agt {α:Type}(xs:List α) (k:Nat) (y:α):List α:=xs.take k++y::xs.drop k
def ap6:V->List V->Hp->VK->Prop:=fun x vs H Q=>∃ (l:Addr) (xs:List V) (i:Int) (k:Nat) (y:V),x = .ref l/\vs=[.int i,y]/\i=(k:Int)/\H l=some (.lst xs)/\k<=xs.length/\xs.length<100000/\Q .non (upd H l (.lst (agt xs k y)))
section
variable {X:Cx}
theorem aj8:MtM X "list.insert" ap6:=by
 intro pins s σ H x vs v us Q I rx rv h;obtain⟨l,xs,i,k,y,rfl,rfl,hi,hH,hk,hz,q⟩:=h;cases rx;cases rv with
 | cons ri rv =>
 cases rv with
 | cons ru rv =>
 cases rv
 rename_i iv u
 obtain⟨t,rfl⟩:=ri;obtain⟨z,its,n,r,hl,e⟩:=I.lstM hH;have big:100000<=sizeLine:=by decide
 have fits:¬ (!Builtin.List.listFitsIndex i)=true:=by rw[fitsIndex_both (by omega) (by omega)];simp
 refine call_meets F.slot_list_insert ⟨_,e,rfl⟩ F.entry_list_insert (F.args_list_insert_3 _ _ _) (AutoSeq1.list_insert_list_int_val_1 l its.toArray n i t u fits (by rw[List.size_toArray];omega)) ⟨e,?_⟩;refine⟨.non,_,I.lset (its':=agt its k u) hH e ?_ ((r.take k).append (.cons ru (r.drop k))) ?_,rfl,q⟩
 ·have e1:(if i<0 then (i+((its.toArray.size:Nat):Int)).toNat else min i.toNat its.toArray.size)=k:=by
   rw[if_neg (by omega),List.size_toArray];omega
  show (its.toArray.extract 0 _).push u++its.toArray.extract _=_;rw[e1];apply Array.ext';unfold agt;simp;exact List.take_of_length_le (by rw[List.length_drop];exact Nat.le_refl _)
 ·rw[List.length_append,List.length_cons,List.length_take,List.length_drop];omega
def mIns:OW:=fun c ds Φ=>match c,ds with
 | .lst xs,[.int i,y]=>∃ k:Nat,i=(k:Int)/\k<=xs.length/\xs.length<100000/\Φ .non (.lst (agt xs k y))
 | _,_=>False
variable {K:PySem.W.Frag}
theorem att:MtW K ap6 mIns:=by
 intro A H a c ds vs Φ Q _ ra rd hf k;cases c<;>first | exact False.elim hf | skip
 cases rd with
 | nil=>exact False.elim hf
 | cons r1 rd =>
 rename_i d _ _ _
 cases d<;>first | exact False.elim hf | skip
 cases rd with
 | nil=>exact False.elim hf
 | cons r2 rd =>
 cases rd with
 | cons _ _=>exact False.elim hf
 | nil =>
 obtain⟨us,h,r⟩:=ra;have:=r1.int_inv;subst this;obtain⟨j,rfl,h1,h2,hf⟩:=hf;exact⟨a,us,_,j,_,rfl,rfl,rfl,h,by rw[← r.length];exact h1,by rw[← r.length];exact h2,k _ _ _ _ hf .non fun A' kp=>⟨_,aaa,((r.take j).append (.cons r2 (r.drop j))).mono kp⟩⟩
end
def aoh {α:Type}(xs:List α) (a b:Nat) (x y:α):List α:=(xs.set a y).set b x
def sSwap (i ja jb:Nat):TSd:=fun _ De ρ=>∃ (xs:List Str) (a b:Nat) (x y:Str),ρ[i]?=some (.own (.lst (xs.map D.str)))/\ρ[ja]?=some (.val (.int (a:Int)))/\ρ[jb]?=some (.val (.int (b:Int)))/\xs[a]?=some x/\xs[b]?=some y/\De.nx (ρ.set i (.own (.lst ((aoh xs a b x y).map D.str))))
theorem ali {n j:Nat}(h:j<n):ixN n (j:Int)=some j:=by
 unfold ixN;rw[if_pos (by omega),if_pos (by omega),Int.toNat_natCast]
theorem afq {K:PySem.W.Frag}{A:Addr->Prop}{H:Hp}:∀ xs:List Str,Reps K A H (xs.map D.str) (xs.map V.str)
 | []=>.nil
 | x::xs=>.cons (.str x) (afq xs)
section
variable {X:Cx}
theorem atk {st:Stmt}{i ja jb:Nat}(h:PS X st (tAsg (tTup (ajo (tOp (rIxL X.K) (tVar i) (tVar jb)) (ajo (tOp (rIxL X.K) (tVar i) (tVar ja)) tNil))) (gTup X.K 2 (ae6 (gSub (tVar i) (tVar ja) asj) (ae6 (gSub (tVar i) (tVar jb) asj) gNil))))) :
  PSd X st (sSwap i ja jb):=h.mono fun Dn σ H hq0=>hq0.elim fun B ρ T De hl hd ht lk=>by
 obtain⟨xs,a,b,x,y,hi,ha,hb,hx,hy,hnx⟩:=ht;obtain⟨l,hlv,rl,_⟩:=hd.slotW hl hi;obtain⟨vs,hH,rr⟩:=rl;rw[aca rr] at hH;have la:a<xs.length:=(List.getElem?_eq_some_iff.mp hx).1;have lb:b<xs.length:=(List.getElem?_eq_some_iff.mp hy).1;obtain⟨va,hva,pa⟩:=hd.peek hl (d:=.int (a:Int)) (i:=ja) (by unfold at?;rw[ha];rfl);obtain⟨vb,hvb,pb⟩:=hd.peek hl (d:=.int (b:Int)) (i:=jb) (by unfold at?;rw[hb];rfl);obtain rfl:va = .int (a:Int):=Rep.int_inv pa;obtain rfl:vb = .int (b:Int):=Rep.int_inv pb;have gx:(xs.map V.str)[a]?=some (.str x):=by rw[List.getElem?_map,hx];rfl
 have gy:(xs.map V.str)[b]?=some (.str y):=by rw[List.getElem?_map,hy];rfl
 refine⟨_,hlv,_,hvb,l,_,_,.str y,rfl,rfl,SqL.of hH,aaq gy,_,hlv,_,hva,l,_,_,.str x,rfl,rfl,SqL.of hH,aaq gx,(by show 2<=sizeLine;decide),fun p np=>?_⟩;have pl:p≠l:=fun z=>by rw[z,hH] at np;cases np
 have hH1:upd H p (.tup [V.str y,V.str x]) l=some (.lst (xs.map V.str)):=by rw[aac pl.symm];exact hH
 refine⟨p,_,rfl,SqT.of aaa,rfl,.str y,_,rfl,_,hlv,_,hva,l,_,_,a,rfl,rfl,hH1,ali (by rw[List.length_map];exact la),.str x,_,rfl,_,hlv,_,hvb,l,_,_,b,rfl,rfl,aaa,ali (by rw[List.length_set,List.length_map];exact lb),rfl,?_⟩;rw[ajl];have d0:DS X.K B (ρ.zip σ++T) (upd H p (.tup [V.str y,V.str x])):=hd.laid np;obtain⟨l',hl',_,wr⟩:=d0.slotW hl hi;rw[hlv] at hl';cases hl';have em:((xs.map V.str).set a (V.str y)).set b (V.str x)=(aoh xs a b x y).map V.str:=by unfold aoh;rw[List.map_set,List.map_set]
 rw[em];have d1:=wr (.lst ((aoh xs a b x y).map V.str)) (.lst ((aoh xs a b x y).map D.str)) fun A' kp=>⟨_,aaa,afq _⟩
 exact (lk.1 _ _ _ (by rw[List.length_set];exact hl) rfl d1).1 hnx
end
def strC:Expr->Option (Str×Nat×Pos)
 | .Constant (.str x) j p=>some (x,j,p)
 | _=>none
theorem avc {e:Expr}{q:Str×Nat×Pos}(h:strC e=some q):e = .Constant (.str q.1) q.2.1 q.2.2:=by
 unfold strC at h;split at h
 ·cases h;rfl
 ·cases h
def ans (es:List Expr):List (Str×Nat×Pos):=es.filterMap strC
theorem ajj:∀ {es:List Expr},(es.all fun e=>(strC e).isSome)=true->es=(ans es).map fun p=>.Constant (.str p.1) p.2.1 p.2.2
 | [],_=>rfl
 | e::es,h=>by
  rw[List.all_cons,Bool.and_eq_true] at h;obtain⟨q,hq⟩:=Option.isSome_iff_exists.mp h.1;have ih:=ajj h.2;unfold ans at ih ⊢;rw[List.filterMap_cons_some hq,List.map_cons,← ih,← avc hq]
def ahe (es:List Expr):List Str:=(ans es).map (·.1)
section
variable {X:Cx}
theorem ajd {pos:Pos}{es:List Expr}(h:(es.all fun e=>(strC e).isSome)=true:=by rfl) (hl:es.length<=1000:=by decide):PD X (.List es pos) (auo (ahe es)):=by
 have e:=ajj h;have hl2:(ans es).length<=1000:=Nat.le_trans (List.length_filterMap_le _ _) hl;have:=aoy (X:=X) (pos:=pos) (ans es) hl2;rw[← e] at this;exact this
theorem avg {i:Nat}{x:Str}{p p' pos:Pos}{es:List Expr}{rest:List Stmt}{C:TSd->Prop}(hN:X.N.Nodup) (hi:X.N[i]?=some x) (hx:Loc X.env.scope x) (hf:X.fn x=true) (h:(es.all fun e=>(strC e).isSome)=true) (hl:es.length<=1000)
  (k:∃ t,PSsd X rest t/\C (sSeq (sSet i (auo (ahe es))) t)):∃ t,PSsd X (.Assign [.Name x p'] (.List es p) pos::rest) t/\C t:=by
 obtain⟨t,a,b⟩:=k;exact⟨_,aal (ac2 hN hi hx (ajd h hl) rfl (.inl hf)) a,b⟩
end
end L2
namespace Lw
open PySem L2
theorem av3:(["row"]:List Str).Nodup:=by decide +kernel
def R_wd:RD:=fun dk ds Φ=>∃ (d c:Addr) (n:Nat) (rs:List Str),dk=[d,c]/\ds=[.raw (.ref d),.lst (rs.map D.str)]/\SpRows n rs/\n<=20/\∀ x:Str,WOk x->Φ (.val (.str x))
theorem ai8 (z:Str) (lo hi:Option Int):∀ e∈(cutS z lo hi).cps.toList,e∈z.cps.toList:=by
 intro e he;unfold cutS at he;exact List.mem_of_mem_drop (List.mem_of_mem_take (by simpa using he))
theorem agu (z:Str) (k:Nat):(cutS z none (some (k:Int))).length=min k z.length:=by
 rw[← aar];unfold cutS;rw[HT.sIx_none,HT.sIx_nat];simp only[List.drop_zero,List.length_take,Nat.sub_zero];have:z.cps.toList.length=z.length:=aar z;omega
theorem ake (z:Str) (k:Nat):(cutS z (some (k:Int)) none).length=z.length-k:=by
 rw[← aar];unfold cutS;rw[HT.sIx_none,HT.sIx_nat];simp only[List.length_drop,List.length_take];have:z.cps.toList.length=z.length:=aar z;omega
theorem ar4 {nm:Str}{a n:Nat}(h:∀ e∈nm.cps.toList,e<128/\e≠32/\e≠10) (hl:nm.length<=7) (ha:a<=nm.length) (n1:33<=n) (n2:n<127):WOk (cutS nm none (some (a:Int))++⟨#[n]⟩++cutS nm (some (a:Int)) none):=by
 refine⟨fun e he=>?_,?_⟩
 ·rw[abt,abt] at he;rcases List.mem_append.mp he with he | he
  ·rcases List.mem_append.mp he with he | he
   ·exact h e (ai8 _ _ _ e he)
   ·have:e=n:=List.mem_singleton.mp he;subst this;exact⟨by omega,by omega,by omega⟩
  ·exact h e (ai8 _ _ _ e he)
 ·rw[← aar,abt,abt,List.length_append,List.length_append,aar,aar,aar,agu,ake];have e:(⟨#[n]⟩:Str).length=1:=rfl;rw[e];omega
theorem ajn {α:Type}(x:α):∀ k:Nat,(List.replicate k [x]).flatten=List.replicate k x
 | 0=>rfl
 | k+1=>by rw[List.replicate_succ,List.flatten_cons,ajn x k,List.replicate_succ];rfl
section
variable {P:Program}{w:World}{K:PySem.W.Frag}{mg:Str->Option Value}{base:Heap}
theorem abx:FnScope ["deck","rows","some","name","at"] ["deck","rows"] (aae acs):=⟨rfl,rfl,rfl,by decide +kernel,rfl,by decide +kernel,by decide +kernel⟩
set_option maxHeartbeats 2000000 in
theorem ok_wd {f fT fS:Addr}{fd fdT fdS:FuncData}(F:Fun K "_law_word" "_law_word" acs f fd) (T:Txt mg) (av9:Gd K mg "_law_take" afs ["deck","many"] fT fdT) (awf:Gd K mg "_law_sign" ab4 ["deck"] fS fdS) (awc:FnOk P w K mg base CX0 1 fT fdT ["deck","many"] (spD K aif)) (aw3:FnOk P w K mg base CX0 2 fS fdS ["deck"] (spD K R_sg)):FnOk P w K mg base CX0 3 f fd ["deck","rows"] (spD K R_wd):=by
 refine F.okD (k:=2) abx (fun dk ds Φ ⟨_,_,_,_,_,e,_⟩=>by rw[e];rfl) (by decide) fun cdv A outer s H E dk ds Φ hr hR=>?_
 have hu:=ajf hr;obtain⟨d,c,n,rs,rfl,rfl,hrs,hn,hΦ⟩:=hR;have hl:=hrs.l;refine avg (i:=2) abx.nd rfl (Or.inl rfl) rfl rfl (by show 14<=1000;decide) ?_;refine⟨_,(aal (ac2 (i:=2) abx.nd rfl (Or.inl rfl) (aeq aa3 aby (pv 2) ajd)) (aal (ac2 (i:=2) abx.nd rfl (Or.inl rfl) (aeq aa3 aby (pv 2) ajd)) (aal (ac2 (i:=2) abx.nd rfl (Or.inl rfl) (aeq aa3 aby (pv 2) (ano ["row"] [] [] rfl (i_v (pd_v 1 (pv 1))) rfl rfl (fun _ _ _ _ _=>(g_n (i:=0) av3 rfl (Or.inl rfl))) (fun _ _ _ _ _=>aq7) (fun _ _ _ _ _=>(as0 hu (alu PySem.F.plainAttrs_str PySem.F.slot_str_split PySem.F.type_str_split aci adj (pv 0) (pa_k abm pa_n)) aaj))))) (aal (ac2 (i:=3) abx.nd rfl (Or.inl rfl) (ase ach aeb (ab8 hu (pv 2) (abp awc (hr.mono (by decide)) (by rfl) av9.m av9.k av9.b (pa_k (pd_v 0 (pv 0)) (pa_k (aa0 aaw acn (by rfl) T.len PySem.boot_len (pa_k (pd_v 2 (pv 2)) pa_n)) pa_n)))) po_n (po_s aaj))) (aal (ac2 (i:=4) abx.nd rfl (Or.inl rfl) (abp awc (hr.mono (by decide)) (by rfl) av9.m av9.k av9.b (pa_k (pd_v 0 (pv 0)) (pa_k (afg aa3 aby (aa0 aaw acn (by rfl) T.len PySem.boot_len (pa_k (pd_v 3 (pv 3)) pa_n)) aaj) pa_n)))) (aal (ac2 (i:=2) abx.nd rfl (Or.inl rfl) (aeq aa3 aby (pv 2) (afg ar3 od_mul (adf (pa_k (afg aa3 aby (afg aa3 aby (ac7 ach aeb (pv 3) po_n (po_s (pd_v 4 (pv 4)))) (abp aw3 (hr.mono (by decide)) (by rfl) awf.m awf.k awf.b (pa_k (pd_v 0 (pv 0)) pa_n))) (ac7 ach aeb (pv 3) (po_s (pd_v 4 (pv 4))) po_n)) pa_n)) aaj))) (abc (ad0 (ab8 hu (pv 2) (abp awc (hr.mono (by decide)) (by rfl) av9.m av9.k av9.b (pa_k (pd_v 0 (pv 0)) (pa_k (aa0 aaw acn (by rfl) T.len PySem.boot_len (pa_k (pd_v 2 (pv 2)) pa_n)) pa_n)))))))))))),?_⟩;refine aax (fun ρ=>∃ W:List Str,ρ=[.val (.raw (.ref d)),.val (.lst (rs.map D.str)),.own (.lst (W.map D.str)),.no,.no]/\W≠[]/\W.length<=14/\∀ x∈W,WOk x) (fun N hN=>?_) ?_
 ·exact hN _ ⟨_,rfl,by decide +kernel,by decide +kernel,by decide +kernel⟩
 rintro _ ⟨W,rfl,hW0,hW,hWo⟩;refine aax (fun ρ=>∃ W:List Str,ρ=[.val (.raw (.ref d)),.val (.lst (rs.map D.str)),.own (.lst (W.map D.str)),.no,.no]/\W≠[]/\W.length<=28/\∀ x∈W,WOk x) (fun N hN=>?_) ?_
 ·generalize hw:ahe _=W2;have h2:∀ x∈W2,WOk x:=by rw[← hw];decide +kernel
  have l2:W2.length<=14:=by rw[← hw];decide +kernel
  refine⟨rfl,by rw[List.length_map,List.length_map];omega,hN _ ⟨W++W2,by rw[List.map_append];rfl,by simp[hW0],by rw[List.length_append];omega,fun x hx=>(List.mem_append.mp hx).elim (hWo x) (h2 x)⟩⟩
 rintro _ ⟨W,rfl,hW0,hW,hWo⟩;refine aax (fun ρ=>∃ W:List Str,ρ=[.val (.raw (.ref d)),.val (.lst (rs.map D.str)),.own (.lst (W.map D.str)),.no,.no]/\W≠[]/\W.length<=38/\∀ x∈W,WOk x) (fun N hN=>?_) ?_
 ·generalize hw:ahe _=W2;have h2:∀ x∈W2,WOk x:=by rw[← hw];decide +kernel
  have l2:W2.length<=10:=by rw[← hw];decide +kernel
  refine⟨rfl,by rw[List.length_map,List.length_map];omega,hN _ ⟨W++W2,by rw[List.map_append];rfl,by simp[hW0],by rw[List.length_append];omega,fun x hx=>(List.mem_append.mp hx).elim (hWo x) (h2 x)⟩⟩
 rintro _ ⟨W,rfl,hW0,hW,hWo⟩;refine aax (fun ρ=>∃ W:List Str,ρ=[.val (.raw (.ref d)),.val (.lst (rs.map D.str)),.own (.lst (W.map D.str)),.no,.no]/\W≠[]/\W.length<=80/\∀ x∈W,WOk x) (fun N hN=>?_) ?_
 ·unfold sSet d2s;refine⟨rfl,ajw rs D.str (fun r=>D.str ((Txt.split r spS).headD "")) [.val (.raw (.ref d)),.val (.lst (rs.map D.str)),.own (.lst (W.map D.str)),.no,.no] (fun Ψ h=>h) (by omega) (fun i r ys Nx e h1 h2=>?_) ?_⟩
  ·obtain⟨w1,w2,w3⟩:=(hrs.ok r (List.mem_of_getElem? e)).words;have hlen:=(hrs.ok r (List.mem_of_getElem? e)).len;refine⟨rfl,by decide +kernel,by omega,?_⟩;cases es:Txt.split r spS with
   | nil=>exact absurd es w1
   | cons a b =>
    rw[es] at h2;have es2:Txt.split r (Str.ofString " ")=a::b:=es;rw[es2];exact⟨_,aaq (j:=0) (v:=D.str a) rfl,h1,h2⟩
  ·refine⟨by rw[List.length_map,List.length_map];omega,hN _ ⟨W++rs.map fun r=>(Txt.split r spS).headD "",?_,by simp[hW0],by rw[List.length_append,List.length_map];omega,fun x hx=>(List.mem_append.mp hx).elim (hWo x) fun hx=>?_⟩⟩
   ·rw[List.map_append,List.map_map];rfl
   ·obtain⟨r,hr',rfl⟩:=List.mem_map.mp hx;obtain⟨w1,w2,w3⟩:=(hrs.ok r hr').words;cases es:Txt.split r spS with
    | nil=>exact absurd es w1
    | cons a b=>exact w3 a (by rw[es];exact List.mem_cons_self)
 rintro _ ⟨W,rfl,hW0,hW,hWo⟩;have hpos:0<W.length:=List.length_pos_iff.mpr hW0;refine aax (fun ρ=>∃ nm:Str,ρ=[.val (.raw (.ref d)),.val (.lst (rs.map D.str)),.val (.lst (W.map D.str)),.val (.str nm),.no]/\(∀ e∈nm.cps.toList,e<128/\e≠32/\e≠10)/\nm.length<=7) (fun N hN=>?_) ?_
 ·refine⟨rfl,rfl,_,rfl,d,c,_,rfl,rfl,by rw[List.length_map];omega,by rw[List.length_map];omega,fun r hr'=>?_⟩;rw[List.length_map] at hr';have hr2:r<W.length:=by omega
  have ew:=List.getElem?_eq_getElem hr2;have wk:=hWo _ (List.getElem_mem hr2);refine⟨.inl rfl,D.str W[r],aaq (by rw[List.getElem?_map,ew];rfl),?_⟩;have wl:=wk.l;refine⟨by omega,hN _ ⟨_,rfl,fun e he=>wk.asc e (ai8 _ _ _ e he),?_⟩⟩;have:=agu W[r] 7;exact Nat.le_trans (Nat.le_of_eq this) (Nat.min_le_left _ _)
 rintro _ ⟨nm,rfl,hnm,hnl⟩;refine aax (fun ρ=>∃ a:Nat,a<=nm.length/\ρ=[.val (.raw (.ref d)),.val (.lst (rs.map D.str)),.val (.lst (W.map D.str)),.val (.str nm),.val (.int a)]) (fun N hN=>?_) ?_
 ·refine⟨by exact decide_eq_true (by omega),_,rfl,d,c,_,rfl,rfl,by omega,by omega,fun r hr'=>⟨.inl rfl,hN _ ⟨r,by omega,rfl⟩⟩⟩
 rintro _ ⟨a,ha,rfl⟩;refine aax (fun ρ=>∃ (W:List Str),ρ=[.val (.raw (.ref d)),.val (.lst (rs.map D.str)),.own (.lst (W.map D.str)),.val (.str nm),.val (.int a)]/\W≠[]/\W.length<=90/\∀ x∈W,WOk x) (fun N hN=>?_) ?_
 ·refine⟨rfl,rfl,by omega,d,c,rfl,rfl,fun n n1 n2=>⟨.inl rfl,?_⟩⟩;have wk:=ar4 hnm hnl ha n1 n2;have c1:=agu nm a;have c2:=ake nm a;have e1:(⟨#[n]⟩:Str).length=1:=rfl;have e2:(cutS nm none (some (a:Int))++⟨#[n]⟩:Str).length=(cutS nm none (some (a:Int))).length+1:=by rw[← aar,abt,List.length_append,aar];rfl
  refine⟨by omega,rfl,by omega,by omega,by show 1<=1000;decide,by decide,by decide,by show 1<=100;decide,?_,hN _ ⟨W++List.replicate 9 (cutS nm none (some (a:Int))++⟨#[n]⟩++cutS nm (some (a:Int)) none),?_,by simp[hW0],by rw[List.length_append,List.length_replicate];omega,fun x hx=>(List.mem_append.mp hx).elim (hWo x) fun hx=>?_⟩⟩
  ·rw[List.length_map];show W.length+(List.replicate 9 [_]).flatten.length<=_;rw[ajn,List.length_replicate];omega
  ·rw[List.map_append,List.map_replicate];rw[ajn];rfl
  ·rw[(List.mem_replicate.mp hx).2];exact wk
 rintro _ ⟨W,rfl,hW0,hW,hWo⟩;have hpos:0<W.length:=List.length_pos_iff.mpr hW0;refine⟨rfl,rfl,_,rfl,d,c,_,rfl,rfl,by rw[List.length_map];omega,by rw[List.length_map];omega,fun r hr'=>?_⟩;rw[List.length_map] at hr';have hr2:r<W.length:=by omega
 exact⟨.inl rfl,D.str W[r],aaq (by rw[List.getElem?_map,List.getElem?_eq_getElem hr2];rfl),hΦ _ (hWo _ (List.getElem_mem hr2))⟩
end
def R_sr:RD:=fun dk ds Φ=>∃ (d c:Addr) (n:Nat) (rs:List Str) (a:Nat),dk=[d,c]/\ds=[.raw (.ref d),.lst (rs.map D.str),.int a]/\SpRows n rs/\n<=19/\a<rs.length/\∀ rs':List Str,SpRows (n+1) rs'->Φ (.own (.lst (rs'.map D.str)))
structure Wds (n:Nat) (ws:List Str):Prop where
 ne:ws≠[]
 l:ws.length<=n
 ok:∀ x∈ws,WOk x
theorem itA {b:Bool}{p q:Prop}(hp:b=true->p) (hq:q):if b=true then p else q:=by
 cases b
 ·exact hq
 ·exact hp rfl
theorem Wds.set {n:Nat}{ws:List Str}(h:Wds n ws) (k:Nat){x:Str}(hx:WOk x):Wds n (ws.set k x) :=
 ⟨fun e=>h.ne (List.length_eq_zero_iff.mp (by rw[← List.length_set (i:=k) (a:=x),e];rfl)),by rw[List.length_set];exact h.l,fun y hy=>(List.mem_or_eq_of_mem_set hy).elim (h.ok y) fun e=>e▸hx⟩
theorem Wds.ins {n:Nat}{ws:List Str}(h:Wds n ws) (k:Nat){x:Str}(hx:WOk x):Wds (n+1) (agt ws k x):=by
 unfold agt;have hl:=h.l;refine⟨by simp,?_,fun y hy=>?_⟩
 ·rw[List.length_append,List.length_cons,List.length_take,List.length_drop];omega
 ·rcases List.mem_append.mp hy with q | q
  ·exact h.ok y (List.mem_of_mem_take q)
  ·rcases List.mem_cons.mp q with q | q
   ·exact q▸hx
   ·exact h.ok y (List.mem_of_mem_drop q)
theorem Wds.mono {n m:Nat}{ws:List Str}(h:Wds n ws) (le:n<=m):Wds m ws:=⟨h.ne,Nat.le_trans h.l le,h.ok⟩
theorem aok (ws:List Str) (k:Nat) (x:Str):agt (ws.map D.str) k (.str x)=(agt ws k x).map D.str:=by
 unfold agt;rw[List.map_append,List.map_cons,List.map_take,List.map_drop]
theorem alj (k:Nat):∀ ws:List Str,(∀ x∈ws,x.length<=k)->(ws.map (·.length)).sum<=k*ws.length
 | [],_=>Nat.zero_le _
 | x::r,h=>by
  have h1:=alj k r fun y hy=>h y (List.mem_cons_of_mem _ hy)
  have h2:=h x List.mem_cons_self;rw[List.map_cons,List.sum_cons,List.length_cons,Nat.mul_succ];omega
theorem ahz {α β:Type}(f:α->β):∀ (xs:List α) (k:Nat),(xs.eraseIdx k).map f=(xs.map f).eraseIdx k
 | [],k=>rfl
 | x::r,0=>rfl
 | x::r,k+1=>by rw[List.map_cons,List.eraseIdx_cons_succ,List.eraseIdx_cons_succ,List.map_cons,ahz f r k]
theorem SpRows.put {n:Nat}{rs:List Str}(h:SpRows n rs){a b:Nat}{ms:List Str}(hm:ms≠[]) (hl:rs.length+ms.length<=b-a+n+20) (hab:a<=b) (hb:b<=rs.length) (ho:∀ r∈ms,af2 (n+1) r):SpRows (n+1) (rs.take a++ms++rs.drop b):=by
 refine⟨by simp[hm],?_,fun r hr=>?_⟩
 ·rw[List.length_append,List.length_append,List.length_take,List.length_drop];omega
 ·rcases List.mem_append.mp hr with q | q
  ·rcases List.mem_append.mp q with q | q
   ·exact (h.ok r (List.mem_of_mem_take q)).mono (by omega)
   ·exact ho r q
  ·exact (h.ok r (List.mem_of_mem_drop q)).mono (by omega)
section
variable {P:Program}{w:World}{K:PySem.W.Frag}{mg:Str->Option Value}{base:Heap}
theorem abk:FnScope ["deck","rows","at","words","k","way","other"] ["deck","rows","at"] (aae aa9):=⟨rfl,rfl,rfl,by decide +kernel,rfl,by decide +kernel,by decide +kernel⟩
set_option maxHeartbeats 2000000 in
theorem ok_sr {f fT fW:Addr}{fd fdT fdW:FuncData}(F:Fun K "_law_spoilt_row" "_law_spoilt_row" aa9 f fd) (T:Txt mg) (av9:Gd K mg "_law_take" afs ["deck","many"] fT fdT) (awb:Gd K mg "_law_word" acs ["deck","rows"] fW fdW) (awc:FnOk P w K mg base CX0 1 fT fdT ["deck","many"] (spD K aif)) (awh:FnOk P w K mg base CX0 3 fW fdW ["deck","rows"] (spD K R_wd)):FnOk P w K mg base CX0 4 f fd ["deck","rows","at"] (spD K R_sr):=by
 refine F.okD (k:=3) abk (fun dk ds Φ ⟨_,_,_,_,_,_,e,_⟩=>by rw[e];rfl) (by decide) fun cdv A outer s H E dk ds Φ hr hR=>?_
 have hu:=ajf hr;obtain⟨d,c,n,rs,a,rfl,rfl,hrs,hn,ha,hΦ⟩:=hR;refine⟨_,(aal (ac2 (i:=3) abk.nd rfl (Or.inl rfl) (pd_m PySem.F.plainAttrs_str PySem.F.slot_str_split PySem.F.type_str_split aci adj (ab8 hu (pv 1) (pd_v 2 (pv 2))) (pa_k abm pa_n))) (aal (ac2 (i:=4) abk.nd rfl (Or.inl rfl) (abp awc (hr.mono (by decide)) (by rfl) av9.m av9.k av9.b (pa_k (pd_v 0 (pv 0)) (pa_k (aa0 aaw acn (by rfl) T.len PySem.boot_len (pa_s (pv 3) pa_n)) pa_n)))) (aal (ac2 (i:=5) abk.nd rfl (Or.inl rfl) (abp awc (hr.mono (by decide)) (by rfl) av9.m av9.k av9.b (pa_k (pd_v 0 (pv 0)) (pa_k aaj pa_n)))) (aal (s_if (al2 (alv (ab0 (acp hr.units) (adw false) (pv 5) aaj) (aix (adc ar7 ar1 (aa0 aaw acn (by rfl) T.len PySem.boot_len (pa_s (pv 3) pa_n)) aaj)))) (abc (aoq (pd_w PySem.F.plainAttrs_list PySem.F.slot_list_pop PySem.F.type_list_pop ajv mw_pop (pv 3) (pa_k (pd_v 4 (pv 4)) pa_n)))) (abc (s_if (ab0 (acp hr.units) (adw false) (pv 5) aaj) (abc (aoq (pd_w PySem.F.plainAttrs_list PySem.F.slot_list_insert PySem.F.type_list_insert aj8 att (pv 3) (pa_k (pd_v 4 (pv 4)) (pa_k (ab8 hu (pv 3) (pd_v 4 (pv 4))) pa_n))))) (abc (s_if (ab0 (acp hr.units) (adw false) (pv 5) aaj) (abc (aoq (pd_w PySem.F.plainAttrs_list PySem.F.slot_list_insert PySem.F.type_list_insert aj8 att (pv 3) (pa_k (aeq aa3 aby (pv 4) (abp awc (hr.mono (by decide)) (by rfl) av9.m av9.k av9.b (pa_k (pd_v 0 (pv 0)) (pa_k aaj pa_n)))) (pa_k (abp awh (hr.mono (by decide)) (by rfl) awb.m awb.k awb.b (pa_k (pd_v 0 (pv 0)) (pa_k (pd_v 1 (pv 1)) pa_n))) pa_n))))) (abc (s_if (ab0 (acp hr.units) (adw false) (pv 5) aaj) (aal (ac2 (i:=6) abk.nd rfl (Or.inl rfl) (abp awc (hr.mono (by decide)) (by rfl) av9.m av9.k av9.b (pa_k (pd_v 0 (pv 0)) (pa_k (aa0 aaw acn (by rfl) T.len PySem.boot_len (pa_s (pv 3) pa_n)) pa_n)))) (abc (atk (i:=3) (ja:=4) (jb:=6) (ahu (adz (pa_c (abd aas (pv 3) (pv 6) (fun _ _=>rfl)) (pa_c (abd aas (pv 3) (pv 4) (fun _ _=>rfl)) aad))) (al7 rfl (ac3 (agc (pv 3) (pv 4) adi) (ac3 (agc (pv 3) (pv 6) adi) ajq))))))) (abc (s_sub (n:=3) hu (abp awh (hr.mono (by decide)) (by rfl) awb.m awb.k awb.b (pa_k (pd_v 0 (pv 0)) (pa_k (pd_v 1 (pv 1)) pa_n))) (pv 3) (pd_v 4 (pv 4))))))))))) (abc (ad0 (afg aa3 aby (afg aa3 aby (ac7 ach aeb (pv 1) po_n (po_s (pd_v 2 (pv 2)))) (adf (pa_k (pd_m PySem.F.plainAttrs_str PySem.F.slot_str_join PySem.F.type_str_join aha aue abm (pa_s (pv 3) pa_n)) pa_n))) (ac7 ach aeb (pv 1) (po_s (aeq aa3 aby (pv 2) aaj)) po_n)))))))),?_⟩;have hl:=hrs.l;have ea:=List.getElem?_eq_getElem ha;have hro:=hrs.ok _ (List.getElem_mem ha);obtain⟨w1,w2,w3⟩:=hro.words;have wlen:=hro.len;refine aax (fun ρ=>∃ ws:List Str,ρ=[.val (.raw (.ref d)),.val (.lst (rs.map D.str)),.val (.int a),.own (.lst (ws.map D.str)),.no,.no,.no]/\Wds n ws) (fun N hN=>?_) ?_
 ·exact⟨rfl,_,aaq (v:=D.str rs[a]) (by rw[List.getElem?_map,ea];rfl),rfl,by decide +kernel,by omega,hN _ ⟨_,rfl,w1,w2,w3⟩⟩
 rintro _ ⟨ws,rfl,hws⟩;have hwl:=hws.l;have hpos:0<ws.length:=List.length_pos_iff.mpr hws.ne;refine aax (fun ρ=>∃ k:Nat,k<ws.length/\ρ=[.val (.raw (.ref d)),.val (.lst (rs.map D.str)),.val (.int a),.own (.lst (ws.map D.str)),.val (.int k),.no,.no]) (fun N hN=>?_) ?_
 ·refine⟨rfl,rfl,_,rfl,d,c,_,rfl,rfl,by rw[List.length_map];omega,by rw[List.length_map];omega,fun r hr'=>⟨.inl rfl,hN _ ⟨r,by rw[List.length_map] at hr';omega,rfl⟩⟩⟩
 rintro _ ⟨k,hk,rfl⟩;refine aax (fun ρ=>∃ y:Nat,ρ=[.val (.raw (.ref d)),.val (.lst (rs.map D.str)),.val (.int a),.own (.lst (ws.map D.str)),.val (.int k),.val (.int y),.no]) (fun N hN=>?_) ?_
 ·exact⟨d,c,_,rfl,rfl,by decide,by decide,fun r hr'=>⟨.inl rfl,hN _ ⟨r,rfl⟩⟩⟩
 rintro _ ⟨y,rfl⟩;refine aax (fun ρ=>∃ (ws:List Str) (s6:Sl),ρ=[.val (.raw (.ref d)),.val (.lst (rs.map D.str)),.val (.int a),.own (.lst (ws.map D.str)),.val (.int k),.val (.int y),s6]/\Wds (n+1) ws) (fun N hN=>?_) ?_
 ·have ek:=List.getElem?_eq_getElem hk;have wk:=hws.ok _ (List.getElem_mem hk);have other:(sIf (tstB (d2s (fEq false) 5 (cd (D.int 1)))) (avt (dW "list" mIns 3 (aC (vd 4) (aC (d2s fIx 3 (vd 4)) aNil)))) (sIf (tstB (d2s (fEq false) 5 (cd (D.int 2)))) (avt (dW "list" mIns 3 (aC (d2s fAdd 4 (anu aif (aC (vd 0) (aC (cd (D.int 2)) aNil)))) (aC (anu R_wd (aC (vd 0) (aC (vd 1) aNil))) aNil)))) (sIf (tstB (d2s (fEq false) 5 (cd (D.int 3)))) (sSeq (sSet 6 (anu aif (aC (vd 0) (aC (dC fLen (aS 3 aNil)) aNil)))) (sSwap 3 4 6)) (sSub 3 (vd 4) (anu R_wd (aC (vd 0) (aC (vd 1) aNil))))))) [d,c] { nx:=N,rt:=Φ } [Sl.val (D.raw (V.ref d)),Sl.val (D.lst (List.map D.str rs)),Sl.val (D.int ↑a),Sl.own (D.lst (List.map D.str ws)),Sl.val (D.int ↑k),Sl.val (D.int ↑y),Sl.no]:=by
   refine⟨rfl,itA (fun _=>?_) ⟨rfl,itA (fun _=>?_) ⟨rfl,itA (fun _=>?_) ?_⟩⟩⟩
   ·refine⟨rfl,rfl,D.str ws[k],aaq (by rw[List.getElem?_map,ek];rfl),k,rfl,by rw[List.length_map];omega,by rw[List.length_map];omega,hN _ ⟨agt ws k ws[k],.no,?_,hws.ins k wk⟩⟩;rw[aok];rfl
   ·refine⟨rfl,rfl,d,c,2,rfl,rfl,by decide,by decide,fun r hr'=>⟨.inl rfl,d,c,n,rs,rfl,rfl,hrs,by omega,fun x hx=>⟨.inl rfl,k+r,by omega,by rw[List.length_map];omega,by rw[List.length_map];omega,hN _ ⟨agt ws (k+r) x,.no,?_,hws.ins _ hx⟩⟩⟩⟩;rw[aok];rfl
   ·refine⟨rfl,rfl,_,rfl,d,c,_,rfl,rfl,by rw[List.length_map];omega,by rw[List.length_map];omega,fun r hr'=>?_⟩;rw[List.length_map] at hr';have hr2:r<ws.length:=by omega
    have er:=List.getElem?_eq_getElem hr2;exact⟨.inl rfl,ws,k,r,ws[k],ws[r],rfl,rfl,rfl,ek,er,hN _ ⟨aoh ws k r ws[k] ws[r],_,rfl,((hws.set k (hws.ok _ (List.getElem_mem hr2))).set r wk).mono (by omega)⟩⟩
   ·refine⟨d,c,n,rs,rfl,rfl,hrs,by omega,fun x hx=>⟨.inl rfl,rfl,.lst ((ws.set k x).map D.str),?_,hN _ ⟨ws.set k x,.no,rfl,(hws.set k hx).mono (by omega)⟩⟩⟩;show (ixN (ws.map D.str).length (k:Int)).map (fun j=>D.lst ((ws.map D.str).set j (D.str x)))=_;rw[List.length_map,ali hk,List.map_set];rfl
  refine⟨rfl,itA (fun _=>⟨rfl,rfl,_,rfl,itA (fun h2=>?_) other⟩) (iteF other)⟩;have h3:1<ws.length:=by
   have:=of_decide_eq_true h2;rw[List.length_map] at this;omega
  refine⟨rfl,k,D.str ws[k],by omega,by omega,?_,by rw[List.getElem?_map,ek];rfl,hN _ ⟨ws.eraseIdx k,.no,?_,?_⟩⟩
  ·rw[List.length_map];exact PySem.StrLaws.seqIndex_nonneg (by omega) (by omega)
  ·rw[ahz];rfl
  ·refine⟨fun e=>?_,?_,fun y hy=>hws.ok y (List.mem_of_mem_eraseIdx hy)⟩
   ·have:=congrArg List.length e;rw[List.length_eraseIdx_of_lt hk] at this;simp at this;omega
   ·rw[List.length_eraseIdx_of_lt hk];omega
 rintro _ ⟨ws,s6,rfl,hws⟩;have hwl:=hws.l;have hsum:=alj 10 ws fun x hx=>(hws.ok x hx).l
 have h1:(Str.ofString " ").length=1:=by decide +kernel
 refine⟨rfl,rfl,rfl,ws.map D.str,ws,rfl,ah9 ws,by rw[h1];omega,by show 1<=1000;decide,?_⟩;rw[aew];refine⟨by rw[List.length_map,List.length_take];show _+1<=_;omega,rfl,rfl,?_⟩;have e1:((a:Int)+1)=((a+1:Nat):Int):=by omega
 have key:(rs.take a++[Str.join spS ws]++rs.drop (a+1)).map D.str=(rs.take a).map D.str++[D.str (Txt.join (Str.ofString " ") ws)]++(rs.drop (a+1)).map D.str:=by
  rw[List.map_append,List.map_append,show Txt.join (Str.ofString " ") ws=Str.join spS ws from StrLaws.glued_eq_join _ _];rfl
 have fin:=hΦ _ (hrs.put (a:=a) (b:=a+1) (ms:=[Str.join spS ws]) (by simp) (by show rs.length+1<=_;omega) (by omega) (by omega) fun r hr=>(List.mem_singleton.mp hr)▸⟨ws,rfl,hws.ne,hws.l,hws.ok⟩);rw[key] at fin;show ((rs.take a).map D.str++[D.str (Txt.join (Str.ofString " ") ws)]).length+(cutD (rs.map D.str) (some ((a:Int)+1)) none).length<=100000/\Φ (.own (.lst ((rs.take a).map D.str++[D.str (Txt.join (Str.ofString " ") ws)]++cutD (rs.map D.str) (some ((a:Int)+1)) none)));rw[e1,afp];refine⟨?_,fin⟩;rw[List.length_append,List.length_map,List.length_map,List.length_take,List.length_drop];show _+1+_<=_;omega
end
def R_sp:RD:=fun dk ds Φ=>∃ (d c:Addr) (n:Nat) (rs:List Str),dk=[d,c]/\ds=[.raw (.ref d),.lst (rs.map D.str)]/\SpRows n rs/\2<=n/\n<=19/\∀ rs':List Str,SpRows (n+1) rs'->Φ (.own (.lst (rs'.map D.str)))/\Φ (.val (.lst (rs'.map D.str)))
theorem atm {R G:Prop}(f:R->G) (r:R):G:=f r
theorem SpRows.mono {n m:Nat}{rs:List Str}(h:SpRows n rs) (le:n<=m):SpRows m rs:=⟨h.ne,by have:=h.l;omega,fun r hr=>(h.ok r hr).mono le⟩
theorem SpRows.del {n:Nat}{rs:List Str}(h:SpRows n rs) (a:Nat) (ha:a<rs.length) (h1:1<rs.length):SpRows (n+1) (rs.take a++rs.drop (a+1)):=by
 have hl:=h.l;have e:(rs.take a++rs.drop (a+1)).length=rs.length-1:=by rw[List.length_append,List.length_take,List.length_drop];omega
 refine⟨fun z=>?_,by omega,fun r hr=>?_⟩
 ·rw[z] at e;simp at e;omega
 ·rcases List.mem_append.mp hr with q | q
  ·exact (h.ok r (List.mem_of_mem_take q)).mono (by omega)
  ·exact (h.ok r (List.mem_of_mem_drop q)).mono (by omega)
theorem SpRows.first {n:Nat}{rs:List Str}(h:SpRows n rs) (a:Nat) (ha:a<rs.length) (h1:0<a):SpRows (n+1) (rs.take a):=by
 have hl:=h.l;have e:(rs.take a).length=a:=by rw[List.length_take];omega
 refine⟨fun z=>?_,by omega,fun r hr=>(h.ok r (List.mem_of_mem_take hr)).mono (by omega)⟩;rw[z] at e;simp at e;omega
theorem SpRows.set {n:Nat}{rs:List Str}(h:SpRows n rs) (k:Nat){x:Str}(hx:af2 n x):SpRows n (rs.set k x) :=
 ⟨fun e=>h.ne (List.length_eq_zero_iff.mp (by rw[← List.length_set (i:=k) (a:=x),e];rfl)),by rw[List.length_set];exact h.l,fun y hy=>(List.mem_or_eq_of_mem_set hy).elim (h.ok y) fun e=>e▸hx⟩
theorem ard {n:Nat}{x:Str}(h:x = "one" \/ x = "nil" \/ ∃ y,WOk y/\x=(Str.ofString "not ")++y):af2 (n+3) ((Str.ofString "fresh ")++x)/\x.length<=14:=by
 have w1:WOk "fresh" := by decide +kernel
 rcases h with rfl | rfl | ⟨y,hy,rfl⟩
 ·refine⟨⟨["fresh","one"],by decide +kernel,by simp,by show 2<=_;omega,?_⟩,by decide +kernel⟩;intro x hx;rcases List.mem_cons.mp hx with q | q
  ·exact q▸w1
  ·rw[List.mem_singleton.mp q];decide +kernel
 ·refine⟨⟨["fresh","nil"],by decide +kernel,by simp,by show 2<=_;omega,?_⟩,by decide +kernel⟩;intro x hx;rcases List.mem_cons.mp hx with q | q
  ·exact q▸w1
  ·rw[List.mem_singleton.mp q];decide +kernel
 ·refine⟨⟨["fresh","not",y],?_,by simp,by show 3<=_;omega,?_⟩,?_⟩
  ·refine ahk ?_;rw[abt,abt,abl,abl];have e1:(Str.ofString "fresh ").cps.toList=(Str.ofString "fresh").cps.toList++spS.cps.toList:=by decide +kernel
   have e2:(Str.ofString "not ").cps.toList=(Str.ofString "not").cps.toList++spS.cps.toList:=by decide +kernel
   have e3:Str.join spS [y]=y:=rfl;rw[e1,e2,e3,List.append_assoc,List.append_assoc]
  ·intro x hx;rcases List.mem_cons.mp hx with q | q
   ·exact q▸w1
   ·rcases List.mem_cons.mp q with q | q
    ·rw[q];decide +kernel
    ·rw[List.mem_singleton.mp q];exact hy
  ·have e:(Str.ofString "not ").length=4:=by decide +kernel
   have:=hy.l;rw[← aar,abt,List.length_append,aar,aar,e];omega
section
variable {P:Program}{w:World}{K:PySem.W.Frag}{mg:Str->Option Value}{base:Heap}
theorem ab1:FnScope ["deck","rows","at","way","other","told","word"] ["deck","rows"] (aae ab9):=⟨rfl,rfl,rfl,by decide +kernel,rfl,by decide +kernel,by decide +kernel⟩
set_option maxHeartbeats 2000000 in
theorem ok_sp {f fT fW fR:Addr}{fd fdT fdW fdR:FuncData}(F:Fun K "_law_spoilt" "_law_spoilt" ab9 f fd) (T:Txt mg) (av9:Gd K mg "_law_take" afs ["deck","many"] fT fdT) (awb:Gd K mg "_law_word" acs ["deck","rows"] fW fdW) (awd:Gd K mg "_law_spoilt_row" aa9 ["deck","rows","at"] fR fdR) (awc:FnOk P w K mg base CX0 1 fT fdT ["deck","many"] (spD K aif)) (awh:FnOk P w K mg base CX0 3 fW fdW ["deck","rows"] (spD K R_wd)) (awt:FnOk P w K mg base CX0 4 fR fdR ["deck","rows","at"] (spD K R_sr)):FnOk P w K mg base CX0 5 f fd ["deck","rows"] (spD K R_sp):=by
 refine F.okD (k:=4) ab1 (fun dk ds Φ ⟨_,_,_,_,_,e,_⟩=>by rw[e];rfl) (by decide) fun cdv A outer s H E dk ds Φ hr hR=>?_
 have hu:=ajf hr;obtain⟨d,c,n,rs,rfl,rfl,hrs,hn2,hn,hΦ⟩:=hR;refine⟨_,(aal (ac2 (i:=2) ab1.nd rfl (Or.inl rfl) (abp awc (hr.mono (by decide)) (by rfl) av9.m av9.k av9.b (pa_k (pd_v 0 (pv 0)) (pa_k (aa0 aaw acn (by rfl) T.len PySem.boot_len (pa_k (pd_v 1 (pv 1)) pa_n)) pa_n)))) (aal (ac2 (i:=3) ab1.nd rfl (Or.inl rfl) (abp awc (hr.mono (by decide)) (by rfl) av9.m av9.k av9.b (pa_k (pd_v 0 (pv 0)) (pa_k aaj pa_n)))) (aal (s_if (al2 (alv (ab0 (acp hr.units) (adw false) (pv 3) aaj) (aix (adc ar7 ar1 (aa0 aaw acn (by rfl) T.len PySem.boot_len (pa_k (pd_v 1 (pv 1)) pa_n)) aaj)))) (abc (ad0 (afg aa3 aby (ac7 ach aeb (pv 1) po_n (po_s (pd_v 2 (pv 2)))) (ac7 ach aeb (pv 1) (po_s (aeq aa3 aby (pv 2) aaj)) po_n)))) aej) (aal (s_if (ab0 (acp hr.units) (adw false) (pv 3) aaj) (abc (ad0 (afg aa3 aby (afg aa3 aby (ac7 ach aeb (pv 1) po_n (po_s (pd_v 2 (pv 2)))) (adf (pa_k (ab8 hu (pv 1) (pd_v 2 (pv 2))) pa_n))) (ac7 ach aeb (pv 1) (po_s (pd_v 2 (pv 2))) po_n)))) aej) (aal (s_if (ab0 (acp hr.units) (adw false) (pv 3) aaj) (aal (ac2 (i:=4) ab1.nd rfl (Or.inl rfl) (abp awc (hr.mono (by decide)) (by rfl) av9.m av9.k av9.b (pa_k (pd_v 0 (pv 0)) (pa_k (aa0 aaw acn (by rfl) T.len PySem.boot_len (pa_k (pd_v 1 (pv 1)) pa_n)) pa_n)))) (aal (ac2 (i:=5) ab1.nd rfl (Or.inl rfl) (ad5 aev aui (by rfl) T.list PyProof.Rows.boot_list (pa_k (pd_v 1 (pv 1)) pa_n))) (aal (atk (i:=5) (ja:=2) (jb:=4) (ahu (adz (pa_c (abd aas (pv 5) (pv 4) (fun _ _=>rfl)) (pa_c (abd aas (pv 5) (pv 2) (fun _ _=>rfl)) aad))) (al7 rfl (ac3 (agc (pv 5) (pv 2) adi) (ac3 (agc (pv 5) (pv 4) adi) ajq))))) (abc (ad0 (pd_v 5 (pv 5))))))) aej) (aal (s_if (al2 (alv (ab0 (acp hr.units) (adw false) (pv 3) aaj) (aix (ab0 ar7 ar1 (pv 2) aaj)))) (abc (ad0 (ac7 ach aeb (pv 1) po_n (po_s (pd_v 2 (pv 2)))))) aej) (aal (s_if (ab0 (acp hr.units) (adw false) (pv 3) aaj) (aal (ac2 (i:=6) ab1.nd rfl (Or.inl rfl) (as0 hu (adf (pa_k abm (pa_k abm (pa_k (afg aa3 aby abm (abp awh (hr.mono (by decide)) (by rfl) awb.m awb.k awb.b (pa_k (pd_v 0 (pv 0)) (pa_k (pd_v 1 (pv 1)) pa_n)))) pa_n)))) (abp awc (hr.mono (by decide)) (by rfl) av9.m av9.k av9.b (pa_k (pd_v 0 (pv 0)) (pa_k aaj pa_n))))) (abc (ad0 (afg aa3 aby (afg aa3 aby (ac7 ach aeb (pv 1) po_n (po_s (pd_v 2 (pv 2)))) (adf (pa_k (afg aa3 aby abm (pd_v 6 (pv 6))) pa_n))) (ac7 ach aeb (pv 1) (po_s (pd_v 2 (pv 2))) po_n))))) aej) (abc (ad0 (abp awt (hr.mono (by decide)) (by rfl) awd.m awd.k awd.b (pa_k (pd_v 0 (pv 0)) (pa_k (pd_v 1 (pv 1)) (pa_k (pd_v 2 (pv 2)) pa_n))))))))))))),?_⟩;have hl:=hrs.l;have hpos:0<rs.length:=List.length_pos_iff.mpr hrs.ne;refine aax (fun ρ=>∃ a:Nat,a<rs.length/\ρ=[.val (.raw (.ref d)),.val (.lst (rs.map D.str)),.val (.int a),.no,.no,.no,.no]) (fun N hN=>?_) ?_
 ·exact⟨rfl,_,rfl,d,c,_,rfl,rfl,by rw[List.length_map];omega,by rw[List.length_map];omega,fun r hr'=>⟨.inl rfl,hN _ ⟨r,by rw[List.length_map] at hr';omega,rfl⟩⟩⟩
 rintro _ ⟨a,ha,rfl⟩;have ea:=List.getElem?_eq_getElem ha;refine aax (fun ρ=>∃ y:Nat,ρ=[.val (.raw (.ref d)),.val (.lst (rs.map D.str)),.val (.int a),.val (.int y),.no,.no,.no]) (fun N hN=>?_) ?_
 ·exact⟨d,c,_,rfl,rfl,by decide,by decide,fun r hr'=>⟨.inl rfl,hN _ ⟨r,rfl⟩⟩⟩
 rintro _ ⟨y,rfl⟩;have e1:((a:Int)+1)=((a+1:Nat):Int):=by omega
 have lt:(rs.take a).length=a:=by rw[List.length_take];omega
 have ld:(rs.drop a).length=rs.length-a:=List.length_drop;refine atm (fun rest=>⟨rfl,itA (fun _=>⟨rfl,_,rfl,itA (fun h2=>?_) rest⟩) (iteF rest)⟩) ?_
 ·have h3:1<rs.length:=by
   have:=of_decide_eq_true h2;rw[List.length_map] at this;omega
  refine⟨rfl,rfl,rfl,?_⟩;show (cutD (rs.map D.str) none (some (a:Int))).length+(cutD (rs.map D.str) (some ((a:Int)+1)) none).length<=100000/\Φ (.own (.lst (cutD (rs.map D.str) none (some (a:Int))++cutD (rs.map D.str) (some ((a:Int)+1)) none)));rw[e1,aew,afp,← List.map_append,List.length_map,List.length_map,List.length_drop,lt];exact⟨by omega,(hΦ _ (hrs.del a ha h3)).1⟩
 refine⟨rfl,itA (fun _=>?_) ?_⟩
 ·refine⟨rfl,rfl,D.str rs[a],aaq (by rw[List.getElem?_map,ea];rfl),by show 1<=1000;decide,?_⟩;rw[aew];refine⟨by rw[List.length_map,lt];show _+1<=_;omega,rfl,?_⟩;show ((rs.take a).map D.str++[D.str rs[a]]).length+(cutD (rs.map D.str) (some (a:Int)) none).length<=100000/\Φ (.own (.lst ((rs.take a).map D.str++[D.str rs[a]]++cutD (rs.map D.str) (some (a:Int)) none)));have fin:=(hΦ _ (hrs.put (a:=a) (b:=a) (ms:=[rs[a]]) (by simp) (by show rs.length+1<=_;omega) (by omega) (by omega) fun r hr=>(List.mem_singleton.mp hr)▸(hrs.ok _ (List.getElem_mem ha)).mono (by omega))).1;rw[List.map_append,List.map_append] at fin;rw[afp];refine⟨?_,fin⟩;rw[List.length_append,List.length_map,List.length_map,lt,ld];show _+1+_<=_;omega
 refine⟨rfl,itA (fun _=>?_) ?_⟩
 ·refine⟨rfl,_,rfl,d,c,_,rfl,rfl,by rw[List.length_map];omega,by rw[List.length_map];omega,fun r hr'=>⟨.inl rfl,?_⟩⟩;rw[List.length_map] at hr';have hr2:r<rs.length:=by omega
  have er:=List.getElem?_eq_getElem hr2;have fin:=(hΦ _ (((hrs.set a (hrs.ok _ (List.getElem_mem hr2))).set r (hrs.ok _ (List.getElem_mem ha))).mono (Nat.le_succ n))).2;exact⟨rs.map D.str,rfl,rs,a,r,rs[a],rs[r],rfl,rfl,rfl,ea,er,fin⟩
 refine atm (fun rest=>⟨rfl,itA (fun _=>⟨rfl,itA (fun h2=>?_) rest⟩) (iteF rest)⟩) ?_
 ·have h3:0<a:=by
   have:=of_decide_eq_true h2;omega
  refine⟨rfl,?_⟩;show Φ (.own (.lst (cutD (rs.map D.str) none (some (a:Int)))));rw[aew];exact (hΦ _ (hrs.first a ha h3)).1
 refine⟨rfl,itA (fun _=>?_) ?_⟩
 ·refine aax (fun ρ=>∃ x:Str,(x = "one" \/ x = "nil" \/ ∃ y,WOk y/\x=(Str.ofString "not ")++y)/\ρ=[.val (.raw (.ref d)),.val (.lst (rs.map D.str)),.val (.int a),.val (.int y),.no,.no,.val (.str x)]) (fun N hN=>?_) ?_
  ·refine⟨d,c,n,rs,rfl,rfl,hrs,by omega,fun x hx=>⟨.inl rfl,?_⟩⟩;have e4:(Str.ofString "not ").length=4:=by decide +kernel
   have hxl:=hx.l;refine⟨by omega,by show 3<=1000;decide,d,c,3,rfl,rfl,by decide,by decide,fun r hr'=>⟨.inl rfl,?_⟩⟩
   match r,hr' with
   | 0,_=>exact⟨_,rfl,hN _ ⟨_,.inl rfl,rfl⟩⟩
   | 1,_=>exact⟨_,rfl,hN _ ⟨_,.inr (.inl rfl),rfl⟩⟩
   | 2,_=>exact⟨_,rfl,hN _ ⟨_,.inr (.inr ⟨x,hx,rfl⟩),rfl⟩⟩
   | k+3,h=>exact absurd h (by omega)
  rintro _ ⟨x,hx,rfl⟩;obtain⟨hro,hxl⟩:=ard (n:=n-2) hx;rw[show n-2+3=n+1 by omega] at hro;have e6:(Str.ofString "fresh ").length=6:=by decide +kernel
  refine⟨rfl,by omega,by show 1<=1000;decide,?_⟩;rw[aew];refine⟨by rw[List.length_map,lt];show _+1<=_;omega,rfl,?_⟩;show ((rs.take a).map D.str++[D.str ((Str.ofString "fresh ")++x)]).length+(cutD (rs.map D.str) (some (a:Int)) none).length<=100000/\Φ (.own (.lst ((rs.take a).map D.str++[D.str ((Str.ofString "fresh ")++x)]++cutD (rs.map D.str) (some (a:Int)) none)));have fin:=(hΦ _ (hrs.put (a:=a) (b:=a) (ms:=[(Str.ofString "fresh ")++x]) (by simp) (by show rs.length+1<=_;omega) (by omega) (by omega) fun r hr=>(List.mem_singleton.mp hr)▸hro)).1;rw[List.map_append,List.map_append] at fin;rw[afp];refine⟨?_,fin⟩;rw[List.length_append,List.length_map,List.length_map,lt,ld];show _+1+_<=_;omega
 ·exact⟨d,c,n,rs,a,rfl,rfl,hrs,hn,ha,fun rs' h=>⟨.inl rfl,(hΦ rs' h).1⟩⟩
end
theorem pg3K {X:Cx}(K:PySem.W.Frag){x1 x2 x3:Str}{p1 p2 p3 p:Pos}{kk:Nat}(hK:X.K=K) (hc:X.calm=true) (hN:X.N.Nodup) (h1:X.N[0]?=some x1) (h2:X.N[1]?=some x2) (h3:X.N[2]?=some x3)
  (l1:Loc X.env.scope x1) (l2:Loc X.env.scope x2) (l3:Loc X.env.scope x3) (g1:X.fn x1=true\/X.env.scope.names.lookup x1=some .local) (g2:X.fn x2=true\/X.env.scope.names.lookup x2=some .local) (g3:X.fn x3=true\/X.env.scope.names.lookup x3=some .local) :
  PG X (.Tuple [.Name x1 p1,.Name x2 p2,.Name x3 p3] kk p) (gTup K 3 (ae6 (ac8 0) (ae6 (ac8 1) (ae6 (ac8 2) gNil)))):=by
 subst hK;exact al7 hc (ac3 (aa1 hN h1 l1 g1) (ac3 (aa1 hN h2 l2 g2) (ac3 (aa1 hN h3 l3 g3) ajq)))
theorem pg2K {X:Cx}(K:PySem.W.Frag){x1 x2:Str}{p1 p2 p:Pos}{kk:Nat}(hK:X.K=K) (hc:X.calm=true) (hN:X.N.Nodup) (h1:X.N[0]?=some x1) (h2:X.N[1]?=some x2)
  (l1:Loc X.env.scope x1) (l2:Loc X.env.scope x2) (g1:X.fn x1=true\/X.env.scope.names.lookup x1=some .local) (g2:X.fn x2=true\/X.env.scope.names.lookup x2=some .local) :
  PG X (.Tuple [.Name x1 p1,.Name x2 p2] kk p) (gTup K 2 (ae6 (ac8 0) (ae6 (ac8 1) gNil))):=by
 subst hK;exact al7 hc (ac3 (aa1 hN h1 l1 g1) (ac3 (aa1 hN h2 l2 g2) ajq))
def aa8 (C:Cel):List (Str×List Str):=(("in" : Str),C.ins)::(C.gates.map (fun g=>(g.1++spS++g.2.1,g.2.2))++[(("out" : Str),C.outs)])
theorem art (x y:Str):∀ (r:List Str),Str.join spS ((x++spS++y)::r)=Str.join spS (x::y::r)
 | []=>rfl
 | z::r=>by
  refine ahk ?_;rw[abl,abl,abl,abt,abt];simp only[List.append_assoc]
theorem anp (C:Cel):(aa8 C).map (fun h=>Str.join spS (h.1::h.2))=(ab5 C).map (Str.join spS):=by
 unfold aa8 ab5;simp only[List.map_cons,List.map_append,List.map_map,List.map_nil]
 congr 2
 exact List.map_congr_left fun g _=>art g.1 g.2.1 g.2.2
theorem aq2 (C:Cel):(aa8 C).length=(ab5 C).length:=by unfold aa8 ab5;simp
theorem ami {H:Hp}:∀ {as:List Addr}{gs:List (Str×Str×List Str)},abq H as gs->∃ qs:List Addr,Paired (fun q (g:Str×Str×List Str)=>H q=some (.tup (g.2.2.map V.str))) qs gs /\
  Paired (fun a (p:Addr×(Str×Str×List Str))=>H a=some (.tup [.str p.2.1,.str p.2.2.1,.ref p.1])) as (qs.zip gs)
 | _,_,.nil=>⟨[],.nil,.nil⟩
 | _,_,.cons ⟨q,h1,h2⟩ r=>by
  obtain⟨qs,p1,p2⟩:=ami r;exact⟨q::qs,.cons h2 p1,.cons h1 p2⟩
theorem aqz {H:Hp}:∀ {as qs:List Addr}{gs:List (Str×Str×List Str)}{i:Nat}{a:Addr},Paired (fun a (p:Addr×(Str×Str×List Str))=>H a=some (.tup [.str p.2.1,.str p.2.2.1,.ref p.1])) as (qs.zip gs)->as[i]?=some a ->
  ∃ q g,qs[i]?=some q/\gs[i]?=some g/\H a=some (.tup [.str g.1,.str g.2.1,.ref q])
 | [],_,_,_,_,_,e=>by simp at e
 | b::as,[],gs,i,a,h,e=>by simp at h;cases h
 | b::as,q::qs,[],i,a,h,e=>by simp at h;cases h
 | b::as,q::qs,g::gs,0,a,h,e=>by
  have:b=a:=by simpa using e
  subst this;cases h with
  | cons h1 _=>exact⟨q,g,rfl,rfl,h1⟩
 | b::as,q::qs,g::gs,i+1,a,h,e=>by
  cases h with
  | cons _ h2 =>
   obtain⟨q',g',e1,e2,e3⟩:=aqz (i:=i) h2 (by simpa using e);exact⟨q',g',by simpa using e1,by simpa using e2,e3⟩
theorem ajy {H:Hp}{oa:Addr}{outs:List Str}(c4:H oa=some (.tup (outs.map V.str))):∀ {qs:List Addr}{gs:List (Str×Str×List Str)},Paired (fun q (g:Str×Str×List Str)=>H q=some (.tup (g.2.2.map V.str))) qs gs ->
  Paired (fun b (h:Str×List Str)=>H b=some (.tup (h.2.map V.str))) (qs++[oa]) (gs.map (fun g=>(g.1++spS++g.2.1,g.2.2))++[(("out" : Str),outs)])
 | _,_,.nil=>.cons c4 .nil
 | _,_,.cons h r=>.cons h (ajy c4 r)
theorem apc {α β:Type}{F:α->β->Prop}:∀ {as:List α}{bs:List β}{i:Nat}{b:β},Paired F as bs->bs[i]?=some b->∃ a,as[i]?=some a/\F a b
 | _,_,_,_,.nil,e=>by simp at e
 | _,_,0,_,.cons h _,e=>by
  have:=Option.some.inj e;subst this;exact⟨_,rfl,h⟩
 | _,_,i+1,_,.cons _ r,e=>by
  obtain⟨a,e1,e2⟩:=apc (i:=i) r (by simpa using e);exact⟨a,by simpa using e1,e2⟩
def atf:Sp:=fun vs H Q _=>∃ (ce:Addr) (C:Cel),vs=[.ref ce]/\CellAt H ce C/\Good C/\∀ H',Same H H'->Q (.str (ahy C)) H'
def f1 (C:Cel) (i:Nat):V:=match C.gates[i]? with | some g=>.str (g.1++spS++g.2.1) | none=>.non
def f2 (qs:List Addr) (i:Nat):V:=match qs[i]? with | some q=>.ref q | none=>.non
theorem asu (C:Cel):(List.range C.gates.length).map (f1 C)=C.gates.map (fun g=>V.str (g.1++spS++g.2.1)):=by
 refine List.ext_getElem? fun i=>?_
 rw[List.getElem?_map,List.getElem?_map];by_cases h:i<C.gates.length
 ·rw[List.getElem?_range h,List.getElem?_eq_getElem h];simp[f1,h]
 ·rw[List.getElem?_eq_none (by simpa using h),List.getElem?_eq_none (by simpa using h)];rfl
theorem as6 (qs:List Addr):(List.range qs.length).map (f2 qs)=qs.map V.ref:=by
 refine List.ext_getElem? fun i=>?_
 rw[List.getElem?_map,List.getElem?_map];by_cases h:i<qs.length
 ·rw[List.getElem?_range h,List.getElem?_eq_getElem h];simp[f2,h]
 ·rw[List.getElem?_eq_none (by simpa using h),List.getElem?_eq_none (by simpa using h)];rfl
section
variable {P:Program}{w:World}{K:PySem.W.Frag}{mg:Str->Option Value}{base:Heap}
theorem aow:FnScope ["cell","rows","behind"] ["cell"] (aae anb):=⟨rfl,rfl,rfl,by decide +kernel,rfl,by decide +kernel,by decide +kernel⟩
theorem nd3:(["name","word","names"]:List Str).Nodup:=by decide +kernel
theorem nd2:(["row","names"]:List Str).Nodup:=by decide +kernel
set_option maxHeartbeats 2000000 in
theorem av7 {f:Addr}{fd:FuncData}(F:Fun K "_law_text" "_law_text" anb f fd) (Tz:mg "zip" = none):FnOk P w K mg base CX0 1 f fd ["cell"] atf:=by
 refine F.ok aow (fun vs H Q E h=>?_) (fun cdv A outer s H vs Q E hr h=>?_)
 ·obtain⟨ce,C,rfl,_⟩:=h;rfl
 ·obtain⟨ce,C,rfl,hC,G,k⟩:=h;obtain⟨ia,ga,oa,as,c1,c2,c3,c4,c5⟩:=hC.ex;obtain⟨qs,hqs,has⟩:=ami c5;have lq:qs.length=C.gates.length:=hqs.length;have la:as.length=C.gates.length:=c5.length;have lg:=G.lg;have at_a:∀ {i:Nat} {x:V},(as.map V.ref)[i]?=some x->∃ a q g,as[i]?=some a/\x = .ref a/\qs[i]?=some q/\C.gates[i]?=some g/\H a=some (.tup [.str g.1,.str g.2.1,.ref q]):=by
   intro i x hx;rw[List.getElem?_map] at hx;obtain⟨a,ea,rfl⟩:=Option.map_eq_some_iff.mp hx;have hlt:i<as.length:=(List.getElem?_eq_some_iff.mp ea).1;obtain⟨q,g,e1,e2,e3⟩:=aqz has ea;exact⟨a,q,g,ea,rfl,e1,e2,e3⟩
  have spl:(Str.ofString " ").length=1:=by decide +kernel
  have gls:∀ g∈C.gates,LS 1 8 g.1/\LS 1 8 g.2.1:=fun g hg=>⟨(G.nm g.1 (List.mem_append_right _ (List.mem_map.mpr ⟨g,hg,rfl⟩))).ls,(agm G.gt (fun x hx=>(G.nm x (List.mem_append_left _ hx)).ls) (fun g hg=>(G.nm g.1 (List.mem_append_right _ (List.mem_map.mpr ⟨g,hg,rfl⟩))).ls) g hg).1⟩
  refine abw _ (aan (i:=1) aow.nd rfl (Or.inl rfl) (aat ae9 (aat ae9 (aaz (pa_c abe aad)) (agy ["name","word","names"] [] [] rfl (atz (abd aj6 (pv 0) aag (fun _ _=>rfl))) rfl rfl (fun s₀ H₀ C cl fp=>pg3K K rfl rfl nd3 rfl rfl rfl (Or.inl rfl) (Or.inl rfl) (Or.inl rfl) (Or.inr rfl) (Or.inr rfl) (Or.inr rfl)) (fun s₀ H₀ C cl fp=>acd) (fun s₀ H₀ C cl fp=>aat aay (aat aay (pv 0) abe) (pv 1)))) (aaz (pa_c abe aad)))) ?_;refine⟨(by show 1<=sizeLine;decide),fun p1 n1=>⟨_,rfl,ce,_,_,.ref ga,rfl,rfl,SqT.of ((Same.new n1) _ _ c1),rfl,ga,rfl,⟨_,SqT.of ((Same.new n1) _ _ c3)⟩,fun D0 nD0=>?_⟩⟩;have s1:Same H (upd H p1 (.lst [V.str "in"])):=Same.new n1;refine atx (K:=K) ail (f1 C) nD0 (fun H' sm=>SqT.of (sm _ _ (s1 _ _ c3))) (by rw[List.length_map];omega) ?_ ?_
  ·intro i x H2 hx sm;obtain⟨a,q,g,e1,rfl,e3,e4,e5⟩:=at_a hx;have b1:=(gls g (List.mem_of_getElem? e4)).1.hi;have b2:=(gls g (List.mem_of_getElem? e4)).2.hi;refine⟨a,_,_,_,rfl,SqT.of (sm _ _ (s1 _ _ e5)),fun kk q=>⟨_,rfl,_,_,rfl,rfl,abj (by rw[spl];omega),_,rfl,_,_,rfl,rfl,abj (by rw[agr,spl];omega),?_⟩⟩;have:f1 C i = .str (g.1++spS++g.2.1):=by unfold f1;rw[e4]
   rw[this] at q;exact q
  have el:(List.range (as.map V.ref).length).map (f1 C)=C.gates.map (fun g=>V.str (g.1++spS++g.2.1)):=by rw[List.length_map,la];exact asu C
  rw[el];have s2:=s1.trans (Same.new (o:=.lst (C.gates.map (fun g=>V.str (g.1++spS++g.2.1)))) nD0);refine⟨p1,D0,_,_,rfl,rfl,by rw[aac (aab aaa nD0)];exact aaa,aaa,abj (by simp;omega),fun p2 n2=>?_⟩;have s3:=s2.trans (Same.new (o:=.lst ([V.str (Str.ofString "in")]++C.gates.map (fun g=>V.str (g.1++spS++g.2.1)))) n2);refine⟨(by show 1<=sizeLine;decide),fun p3 n3=>⟨p2,p3,_,_,rfl,rfl,by rw[aac (aab aaa n3)];exact aaa,aaa,abj (by simp;omega),fun ra nra=>?_⟩⟩;have s4:=(s3.trans (Same.new (o:=.lst [V.str (Str.ofString "out")]) n3)).trans (Same.new (o:=.lst ([V.str (Str.ofString "in")]++C.gates.map (fun g=>V.str (g.1++spS++g.2.1))++[V.str (Str.ofString "out")])) nra);have eL:[V.str (Str.ofString "in")]++C.gates.map (fun g=>V.str (g.1++spS++g.2.1))++[V.str (Str.ofString "out")]=(aa8 C).map (fun h=>V.str h.1):=by unfold aa8;simp[List.map_map,Function.comp_def]
  rw[eL] at s4 ⊢;have hra4:=aaa (H:=upd (upd (upd (upd H p1 (.lst [V.str (Str.ofString "in")])) D0 (.lst (C.gates.map (fun g=>V.str (g.1++spS++g.2.1))))) p2 (.lst ([V.str (Str.ofString "in")]++C.gates.map (fun g=>V.str (g.1++spS++g.2.1))))) p3 (.lst [V.str (Str.ofString "out")])) (a:=ra) (o:=.lst ((aa8 C).map (fun h=>V.str h.1)));generalize upd (upd (upd (upd (upd H p1 (.lst [V.str (Str.ofString "in")])) D0 (.lst (C.gates.map (fun g=>V.str (g.1++spS++g.2.1))))) p2 (.lst ([V.str (Str.ofString "in")]++C.gates.map (fun g=>V.str (g.1++spS++g.2.1))))) p3 (.lst [V.str (Str.ofString "out")])) ra (.lst ((aa8 C).map (fun h=>V.str h.1)))=H4 at s4 hra4 ⊢;refine abw _ (aan (i:=2) aow.nd rfl (Or.inl rfl) (aat ae9 (aat ae9 (aaz (pa_c (abd aj6 (pv 0) aag (fun _ _=>rfl)) aad)) (agy ["name","word","names"] [] [] rfl (atz (abd aj6 (pv 0) aag (fun _ _=>rfl))) rfl rfl (fun s₀ H₀ C cl fp=>pg3K K rfl rfl nd3 rfl rfl rfl (Or.inl rfl) (Or.inl rfl) (Or.inl rfl) (Or.inr rfl) (Or.inr rfl) (Or.inr rfl)) (fun s₀ H₀ C cl fp=>acd) (fun s₀ H₀ C cl fp=>pv 2))) (aaz (pa_c (abd aj6 (pv 0) aag (fun _ _=>rfl)) aad)))) ?_;refine⟨_,rfl,ce,_,_,.ref ia,rfl,rfl,SqT.of (s4 _ _ c1),rfl,(by show 1<=sizeLine;decide),fun p5 n5=>⟨_,rfl,ce,_,_,.ref ga,rfl,rfl,SqT.of ((Same.new n5) _ _ (s4 _ _ c1)),rfl,ga,rfl,⟨_,SqT.of ((Same.new n5) _ _ (s4 _ _ c3))⟩,fun D1 nD1=>?_⟩⟩;have s5:Same H (upd H4 p5 (.lst [V.ref ia])):=s4.trans (Same.new n5);refine atx (K:=K) ail (f2 qs) nD1 (fun H' sm=>SqT.of (sm _ _ (s5 _ _ c3))) (by rw[List.length_map];omega) ?_ ?_
  ·intro i x H2 hx sm;obtain⟨a,qa,g,e1,rfl,e3,e4,e5⟩:=at_a hx;refine⟨a,_,_,_,rfl,SqT.of (sm _ _ (s5 _ _ e5)),fun kk kq=>⟨_,rfl,?_⟩⟩;have ef:f2 qs i = .ref qa:=by unfold f2;rw[e3]
   rw[ef] at kq;exact kq
  have el2:(List.range (as.map V.ref).length).map (f2 qs)=qs.map V.ref:=by rw[List.length_map,la,← lq];exact as6 qs
  rw[el2];have s6:=s5.trans (Same.new (o:=.lst (qs.map V.ref)) nD1);refine⟨p5,D1,_,_,rfl,rfl,by rw[aac (aab aaa nD1)];exact aaa,aaa,abj (by simp;omega),fun p6 n6=>?_⟩;have s7:=s6.trans (Same.new (o:=.lst ([V.ref ia]++qs.map V.ref)) n6);refine⟨_,rfl,ce,_,_,.ref oa,rfl,rfl,SqT.of (s7 _ _ c1),rfl,(by show 1<=sizeLine;decide),fun p7 n7=>⟨p6,p7,_,_,rfl,rfl,by rw[aac (aab aaa n7)];exact aaa,aaa,abj (by simp;omega),fun ba nba=>?_⟩⟩;have s8:=(s7.trans (Same.new (o:=.lst [V.ref oa]) n7)).trans (Same.new (o:=.lst ([V.ref ia]++qs.map V.ref++[V.ref oa])) nba);have s48:Same H4 (upd (upd (upd (upd (upd H4 p5 (.lst [V.ref ia])) D1 (.lst (qs.map V.ref))) p6 (.lst ([V.ref ia]++qs.map V.ref))) p7 (.lst [V.ref oa])) ba (.lst ([V.ref ia]++qs.map V.ref++[V.ref oa]))):=((((Same.new n5).trans (Same.new nD1)).trans (Same.new n6)).trans (Same.new n7)).trans (Same.new nba);have hba8:=aaa (H:=upd (upd (upd (upd H4 p5 (.lst [V.ref ia])) D1 (.lst (qs.map V.ref))) p6 (.lst ([V.ref ia]++qs.map V.ref))) p7 (.lst [V.ref oa])) (a:=ba) (o:=.lst ([V.ref ia]++qs.map V.ref++[V.ref oa]));generalize upd (upd (upd (upd (upd H4 p5 (.lst [V.ref ia])) D1 (.lst (qs.map V.ref))) p6 (.lst ([V.ref ia]++qs.map V.ref))) p7 (.lst [V.ref oa])) ba (.lst ([V.ref ia]++qs.map V.ref++[V.ref oa]))=H8 at s8 s48 hba8 ⊢;have hra8:=s48 _ _ hra4;refine⟨_,aah (aa6 (aex PySem.F.plainAttrs_str PySem.F.slot_str_join PySem.F.type_str_join aha abe (pa_c (agy ["row","names"] [] [] rfl (pi_zip rfl Tz (pa_c (pv 1) (pa_c (pv 2) aad))) rfl rfl (fun s₀ H₀ C cl fp=>pg2K K rfl rfl nd2 rfl rfl (Or.inl rfl) (Or.inl rfl) (Or.inr rfl) (Or.inr rfl)) (fun s₀ H₀ C cl fp=>acd) (fun s₀ H₀ C cl fp=>apf K (r:=av2 K) PySem.F.plainAttrs_str PySem.F.slot_str_join PySem.F.type_str_join aha abe (pa_c (aat (r:=aum K) al1 (adz (pa_c (pv 0) aad)) (pv 1)) aad))) aad))),?_⟩;have hpb:Paired (fun b (h:Str×List Str)=>H b=some (.tup (h.2.map V.str))) (ia::(qs++[oa])) (aa8 C):=.cons c2 (ajy c4 hqs);have eB:[V.ref ia]++qs.map V.ref++[V.ref oa]=(ia::(qs++[oa])).map V.ref:=by simp
  rw[eB] at hba8;have lb:(ia::(qs++[oa])).length=(aa8 C).length:=hpb.length;have hrm:=apw G;have hhl:=aq2 C;have hj:=anp C;have hsz:∀ h∈aa8 C,h.1.length<=20/\h.2.length<=6/\∀ x∈h.2,x.length<=8:=by
   intro h hm;unfold aa8 at hm;rcases List.mem_cons.mp hm with rfl | hm
   ·exact⟨by show (Str.ofString "in").length<=20;decide +kernel,G.li,fun x hx=>(G.nm x (List.mem_append_left _ hx)).ls.hi⟩
   rcases List.mem_append.mp hm with hm | hm
   ·obtain⟨g,hg,rfl⟩:=List.mem_map.mp hm;have z:=agm G.gt (fun x hx=>(G.nm x (List.mem_append_left _ hx)).ls) (fun g hg=>(G.nm g.1 (List.mem_append_right _ (List.mem_map.mpr ⟨g,hg,rfl⟩))).ls) g hg;have z1:=(gls g hg).1.hi;have z2:=z.1.hi;refine⟨?_,by show g.2.2.length<=6;omega,fun x hx=>(z.2.1 x hx).hi⟩;show (g.1++spS++g.2.1).length<=20;rw[agr,agr,show spS.length=1 by decide +kernel];omega
   ·rw[List.mem_singleton.mp hm];exact⟨by show (Str.ofString "out").length<=20;decide +kernel,G.lo,fun x hx=>(G.nm x (G.os x hx)).ls.hi⟩
  refine⟨rfl,_,rfl,_,rfl,ra,ba,rfl,⟨_,SqL.of hra8⟩,⟨_,SqL.of hba8⟩,fun D2 nD2=>?_⟩;refine lcZip (K:=K) (xs:=(aa8 C).map (fun h=>V.str h.1)) (ys:=(ia::(qs++[oa])).map V.ref) (by rw[List.length_map,List.length_map,lb])
   (fun i zs H9=>zs=(((aa8 C).take i).map (fun h=>V.str (Str.join spS (h.1::h.2))))/\Same H8 H9/\H9 D2=some (.lst zs)) ⟨rfl,Same.new nD2,aaa⟩ (fun i zs H9 _ p=>⟨SqL.of (p.2.1 _ _ hra8),SqL.of (p.2.1 _ _ hba8)⟩) ?_ ?_
  ·rintro i x y zs H9 p hx hy ⟨rfl,s9,hD9⟩ np;rw[List.getElem?_map] at hx hy;obtain⟨hh,eh,rfl⟩:=Option.map_eq_some_iff.mp hx;obtain⟨b,eb,rfl⟩:=Option.map_eq_some_iff.mp hy;obtain⟨b',eb',hb'⟩:=apc hpb eh;rw[eb] at eb';cases eb';have hlt:i<(aa8 C).length:=(List.getElem?_eq_some_iff.mp eh).1;have et:(aa8 C).take (i+1)=(aa8 C).take i++[hh]:=by rw[List.take_add_one,eh];rfl
   have s10:Same H8 (upd H9 p (.tup [V.str hh.1,V.ref b])):=s9.trans (Same.new np);have hD10:=(Same.new (o:=.tup [V.str hh.1,V.ref b]) np) _ _ hD9;have fin:∀ H',Same (upd H9 p (.tup [V.str hh.1,V.ref b])) H'->LcN2 [] D2 (fun i zs H9=>zs=(((aa8 C).take i).map (fun h=>V.str (Str.join spS (h.1::h.2))))/\Same H8 H9/\H9 D2=some (.lst zs)) i (((aa8 C).take i).map (fun h=>V.str (Str.join spS (h.1::h.2)))) [some (V.str hh.1),some (V.ref b)] (V.str (Str.join spS (hh.1::hh.2))) H':=by
    intro H' sm;refine⟨⟨_,_,rfl⟩,sm _ _ hD10,?_,?_,?_,aaa⟩
    ·rw[List.length_map,List.length_take];exact Nat.lt_of_le_of_lt (show min i (aa8 C).length<=1000 by omega) (by decide)
    ·rw[et,List.map_append];rfl
    ·intro c o e;rw[aac (aab e nD2)];exact sm _ _ (s10 _ _ e)
   have hbs:H9 b=some (.tup (hh.2.map V.str)):=s9 _ _ (s8 _ _ hb');have hrow:Str.join spS (hh.1::hh.2)∈(ab5 C).map (Str.join spS):=by rw[← hj];exact List.mem_map.mpr ⟨hh,List.mem_of_getElem? eh,rfl⟩
   refine⟨rfl,_,rfl,(by show 1<=sizeLine;decide),fun t nt=>⟨_,rfl,t,b,[V.str hh.1],hh.2.map V.str,rfl,rfl,SqT.of aaa,SqT.of ((Same.new nt) _ _ ((Same.new np) _ _ hbs)),by simp,abj (by have:=(hsz hh (List.mem_of_getElem? eh)).2.1;simp;omega),fun e=>?_,fun ne q nq=>?_⟩⟩
   ·have e':hh.2=[]:=by simpa using e
    refine⟨spS,t,[hh.1],rfl,rfl,.inr (SqT.of aaa),by have:=(hsz hh (List.mem_of_getElem? eh)).1;simp only[List.map_cons,List.map_nil,List.sum_cons,List.sum_nil,List.length_cons,List.length_nil];rw[show spS.length=1 by decide +kernel];omega,?_⟩;rw[show Txt.join spS [hh.1]=Str.join spS [hh.1] from StrLaws.glued_eq_join _ _];have:=fin _ (Same.new (o:=.tup [V.str hh.1]) nt);rw[e'] at this;exact this
   ·refine⟨spS,q,hh.1::hh.2,rfl,rfl,.inr (SqT.of aaa),by have:=(hsz hh (List.mem_of_getElem? eh));have h3:=ae2 (ys:=hh.2) (n:=10) (m:=8) this.2.2 (by omega);simp only[List.map_cons,List.sum_cons,List.length_cons];rw[show spS.length=1 by decide +kernel];omega,?_⟩;rw[show Txt.join spS (hh.1::hh.2)=Str.join spS (hh.1::hh.2) from StrLaws.glued_eq_join _ _];exact fin _ ((Same.new nt).trans (Same.new nq))
  ·rintro zs H9 ⟨rfl,s9,hD9⟩;have ez:((aa8 C).take ((aa8 C).map (fun h=>V.str h.1)).length).map (fun h=>V.str (Str.join spS (h.1::h.2)))=((ab5 C).map (Str.join spS)).map V.str:=by
    rw[List.length_map,List.take_length,← hj,List.map_map];rfl
   rw[ez] at hD9;refine⟨nlS,D2,(ab5 C).map (Str.join spS),rfl,rfl,.inl (SqL.of hD9),?_,?_⟩
   ·have:=ae2 (ys:=(ab5 C).map (Str.join spS)) (n:=26) (m:=100) (fun y hy=>by obtain⟨r,hr,rfl⟩:=List.mem_map.mp hy;exact au9 G r hr) (by rw[List.length_map];exact hrm);have e3:nlS.length=1:=by decide +kernel
    rw[e3,List.length_map];omega
   ·rw[show Txt.join nlS ((ab5 C).map (Str.join spS))=ahy C from StrLaws.glued_eq_join _ _];exact k _ (s8.trans s9)
end
end Lw
namespace L2
open PySem PySem.Spec PyProof.Rows
def avr (K:PySem.W.Frag) (te:TE) (f:Str):TE:=fun σ H Q=>te σ H fun x H1=>∃ (e C N dd:Addr) (bm:List Value) (i:Option Value) (fs:List (Str×V)) (v:V),x = .ref e/\H1 e=some (ExD e C dd)/\H1 dd=some (.xd fs)/\fs.lookup f=some v/\PySem.W.XFacts K C/\xcIn K C N bm i=true/\PySem.W.findIn K (.ref C) f=some none/\Q v H1
theorem akb {X:Cx}(K:PySem.W.Frag){e:Expr}{te:TE}{f:Str}{pos:Pos}(he:PE X e te) (hb:attributeBase e f X.env (eval e X.env)=eval e X.env) (hK:X.K=K:=by rfl):PE X (.Attribute e f pos) (avr K te f):=by
 subst hK;intro pins s σ H Q I h;refine Attribute_any_ (thn (he pins s σ H _ I h) fun u s1 ⟨x,H1,I1,rx,ea,C,N,dd,bm,i,fs,v,ex,h1,h2,h3,F,xc,fn,q⟩=>?_) (by rw[arm_eval_Attribute,hb]);subst ex;obtain rfl:u=Value.ref ea:=rx;obtain⟨⟨t,g1⟩,_⟩:=I1.hok ea _ h1;obtain⟨mA,hns,hrel⟩:=I1.hok dd _ h2;have hr:=hrel f;rw[h3] at hr;obtain⟨y,ey,ry⟩:=hr.some_of;obtain⟨o,es,ep,e1,erest⟩:=id hns;obtain⟨cd,hcl,hdi,hmr⟩:=afv xc;have inst:PySem.W.InstAt s1.heap ea { xNew C t with dict:=some dd } C (some o):=⟨g1,rfl,rfl,e1⟩;refine PySem.W.x_attr I1.kIn inst F.ga F.gh F.mb ?_ (aio ry) ⟨v,H1,I1.tok _,ry,q⟩;unfold PySem.W.findObj PySem.W.ownOf;rw[hcl,fn];simp only[Option.bind_some,hdi,if_true,ahx hns e1 ey]
end L2
namespace Lw
open PySem L2
structure NN (K:PySem.W.Frag) (mg:Str->Option Value) (CE CN N fI:Addr) (bm:List Value):Prop where
 mCE:mg "CellError" = some (.ref CE)
 g1:PySem.W.specialIn K (.ref CE) "__getattribute__" = some (some (.builtin "type.__getattribute__"))
 g2:PySem.W.readsIn K CE (.type "type")=true
 g3:PySem.W.findCls K (.ref CE) (.type "type") "__init__" = some (.val (.builtin "ValueError.__init__"))
 mCN:mg "NoName" = some (.ref CN)
 xc:xcIn K CN N bm (some (.ref fI))=true
 kp:PySem.W.keepIn K (.ref CN)=true
 sa:PySem.W.findIn K (.ref CN) "__setattr__" = some (some (.builtin "object.__setattr__"))
 fw:PySem.W.findIn K (.ref CN) "word" = some none
 rf:∀ a,refuseLoop (.ref a) "__setattr__" (.ref CN::bm)=pure ()
 ob:bm.contains (.type "object")=true
 bb:bm.contains (.type "BaseException")=true
 xf:PySem.W.XFacts K CN
 ex:PySem.W.exmOne K (.ref CN) (.ref CE)=some true
def Sm (x:Str):Prop:=(∀ c∈x.cps.toList,c<16 ^ 8)/\x.length<=1000
def atb (CN:Addr):Sp:=fun vs H Q _=>∃ (e:Addr) (y:Str),vs=[.ref e,.str y]/\Sm y/\H e=some (ExN e CN)/\∀ dd,H dd=none->Q .non (upd (upd H dd (.xd [("word",.str y)])) e (ExD e CN dd))
section
variable {P:Program}{w:World}{K:PySem.W.Frag}{mg:Str->Option Value}{base:Heap}{CE CN N fI:Addr}{bm:List Value}
theorem scInit:FnScope ["self","word"] ["self","word"] (aae an0):=⟨rfl,rfl,rfl,by decide +kernel,rfl,by decide +kernel,by decide +kernel⟩
set_option maxHeartbeats 1000000 in
theorem au5 {f:Addr}{fd:FuncData}(F:Fun K "__init__" "NoName.__init__" an0 f fd) (O:NN K mg CE CN N fI bm):FnOk P w K mg base CX0 1 f fd ["self","word"] (atb CN):=by
 refine F.ok scInit (fun vs H Q E h=>?_) (fun cdv A outer s H vs Q E hr h=>?_)
 ·obtain⟨e,y,rfl,_⟩:=h;rfl
 ·obtain⟨e,y,rfl,⟨s1,s2⟩,he,k⟩:=h;refine⟨_,aai (adu (akt (by rfl) O.mCE O.g1 O.g2 O.g3 (pv 0) (au2 (pv 1)) ⟨rfl,rfl,rfl,rfl⟩)) (aah (aol (pv 0) (pv 1) rfl)),?_⟩;refine⟨_,rfl,_,rfl,y,rfl,s1,s2,fun z=>⟨e,CN,N,bm,_,z,rfl,rfl,he,O.xc,?_⟩⟩;exact⟨_,rfl,_,rfl,e,CN,N,bm,_,rfl,he,O.xc,O.sa,O.fw,O.rf,O.ob,k⟩
end
theorem LS.wok {n:Nat}{x:Str}(h:LS n 8 x):WOk x:=⟨fun d hd=>by have:=h.az d hd;exact⟨by omega,by omega,by omega⟩,by have:=h.hi;omega⟩
theorem aic {C:Cel}(G:Good C):SpRows 7 ((ab5 C).map (Str.join spS)):=by
 refine⟨by simp[ab5],?_,fun r hr=>?_⟩
 ·have:=G.lg;unfold ab5;simp;omega
 ·obtain⟨ws,hw,rfl⟩:=List.mem_map.mp hr;obtain⟨a,b,c⟩:=alb G ws hw;exact⟨ws,rfl,a,b,fun x hx=>(c x hx).wok⟩
section
variable {K:PySem.W.Frag}{H:Hp}{Q:VK}
theorem act {z:Str}(hz:TextOk z) (h:∀ H',Same H H'->Q (.bl true) H'):spD K R_rt [.str z] H Q E0:=by
 refine⟨[],fun _=>True,[.str z],fun q=>q = .val (.bl true),.inl rfl,fun _ _=>List.not_mem_nil,.cons (.str z) .nil,⟨z,rfl,hz,rfl⟩,?_⟩;rintro q v H1 rfl frm _ rv;obtain rfl:=Rep.bl_inv rv;exact h H1 fun b o e=>frm b o e List.not_mem_nil
theorem al8 {d c:Addr}{H H':Hp}(f:Frm [d,c] H H'):Keep d c H H':=fun b o e n1 n2=>f b o e (by simp[n1,n2])
theorem ani {d c p:Addr}{n:Nat}{rs:List Str}(Dd:DeckAt H d c) (hp:H p=some (.lst (rs.map V.str))) (np:p∉[d,c]) (hr:SpRows n rs) (h2:2<=n) (hn:n<=19)
  (h:∀ (p':Addr) (rs':List Str) (H':Hp),p'∉[d,c]->H' p'=some (.lst (rs'.map V.str))->SpRows (n+1) rs'->DeckAt H' d c->Keep d c H H'->Q (.ref p') H'):spD K R_sp [.ref d,.ref p] H Q E0:=by
 refine⟨[d,c],fun b=>b=p,[.raw (.ref d),.lst (rs.map D.str)],fun q=>∃ rs',SpRows (n+1) rs'/\(q = .own (.lst (rs'.map D.str))\/q = .val (.lst (rs'.map D.str))), .inr ⟨d,c,rfl,Dd⟩,fun b e=>e▸np,?_,⟨d,c,n,rs,rfl,rfl,hr,h2,hn,fun rs' hs=>⟨⟨rs',hs,.inl rfl⟩,⟨rs',hs,.inr rfl⟩⟩⟩,?_⟩
 ·exact .cons (.raw _) (.cons (.lst rfl hp (afq rs)) .nil)
 ·rintro q v H1 ⟨rs',hs,rfl | rfl⟩ frm dk rv
  ·obtain⟨a,rfl,ha,na,us,hu,ru⟩:=rv;rw[aca ru] at hu;exact h a rs' H1 na hu hs (ai6 dk) (al8 frm)
  ·obtain⟨a,us,rfl,ha,hu,ru⟩:=Rep.lst_inv rv;rw[aca ru] at hu;exact h a rs' H1 ha.1 hu hs (ai6 dk) (al8 frm)
end
structure TxO (k:Nat) (z:Str):Prop where
 asc:∀ d∈z.cps.toList,d<128
 l:z.length<=k
theorem TxO.ok {k:Nat}{z:Str}(h:TxO k z) (hk:k<=3900):TextOk z:=avo h.asc (Nat.le_trans h.l hk)
theorem TxO.app {k m:Nat}{a b:Str}(h:TxO k a) (g:TxO m b):TxO (k+m) (a++b):=by
 refine⟨fun d hd=>?_,?_⟩
 ·rw[abt] at hd;exact (List.mem_append.mp hd).elim (h.asc d) (g.asc d)
 ·rw[← aar,abt,List.length_append,aar,aar];have:=h.l;have:=g.l;omega
theorem TxO.rep {k m:Nat}{x y z r:Str}(h:TxO k x) (g:TxO m z) (hr:Rp1 x y z r):TxO (k+m) r:=by
 obtain⟨a,b⟩:=atg hr;have:=h.l;have:=g.l;exact⟨fun d hd=>(a d hd).elim (h.asc d) (g.asc d),by omega⟩
instance (k:Nat) (z:Str):Decidable (TxO k z):=decidable_of_iff ((z.cps.toList.all fun d=>decide (d<128))=true/\z.length<=k) ⟨fun ⟨a,b⟩=>⟨fun d hd=>of_decide_eq_true (List.all_eq_true.mp a d hd),b⟩,fun ⟨a,b⟩=>⟨List.all_eq_true.mpr fun d hd=>decide_eq_true (a d hd),b⟩⟩
def arp (K:PySem.W.Frag):Sp:=fun vs H Q _=>∃ (a:Addr) (ns:List Int),vs=[.ref a]/\SqL K H a (ns.map V.int)/\ns.length<=63/\∀ H',Q (.bl true) H'
theorem aqy {xs:List Int}{i:Nat}{x:V}(h:(xs.map V.int)[i]?=some x):∃ y,xs[i]?=some y/\V.int y=x:=by
 rw[List.getElem?_map] at h;cases e:xs[i]? with
 | none=>rw[e] at h;cases h
 | some y=>rw[e] at h;exact⟨y,rfl,Option.some.inj h⟩
theorem DeckAt.same {H H':Hp}{d c:Addr}(D:DeckAt H d c) (s:Same H H'):DeckAt H' d c:=by
 obtain⟨ns,p,h1,h2,h3,h4⟩:=D.ex;exact⟨ns,p,s _ _ h1,s _ _ h2,h3,h4⟩
theorem amh {X:Cx}{es:List Expr}(h:(es.all fun e=>(strC e).isSome)=true):PA X es (tStrs (ahe es)):=by
 have e:=ajj h;have:=adp (X:=X) (ans es);rw[← e] at this;exact this
section
variable {P:Program}{w:World}{K:PySem.W.Frag}{mg:Str->Option Value}{base:Heap}
theorem agw:FnScope ["script","deck","gates","rows","turn","text","odd","sign"] ["script"] (aae alc):=⟨rfl,rfl,rfl,by decide +kernel,rfl,by decide +kernel,by decide +kernel⟩
set_option maxHeartbeats 4000000 in
theorem ok_law {f fD fC fX fR fS fP CE CC CN N N2 fI fJ:Addr}{bm bm2:List Value}{fd fdD fdC fdX fdR fdS fdP fdI fdJ:FuncData}(F:Fun K "law" "law" alc f fd) (T:Txt mg) (gD:Gd K mg "_law_deck" ang ["script"] fD fdD) (gC:Gd K mg "_law_cell" anj ["deck","inputs","gates"] fC fdC) (gX:Gd K mg "_law_text" anb ["cell"] fX fdX)
  (gR:Gd K mg "_law_right" acr ["text"] fR fdR) (gS:Gd K mg "_law_sign" ab4 ["deck"] fS fdS) (gP:Gd K mg "_law_spoilt" ab9 ["deck","rows"] fP fdP) (GD:FnOk P w K mg base CX0 1 fD fdD ["script"] (at8 K)) (GC:FnOk P w K mg base CX0 4 fC fdC ["deck","inputs","gates"] at7)
  (GX:FnOk P w K mg base CX0 1 fX fdX ["cell"] atf) (GR:FnOk P w K mg base CX0 5 fR fdR ["text"] (spD K R_rt)) (GS:FnT P w K mg base 2 fS fdS ["deck"] avl) (GP:FnOk P w K mg base CX0 5 fP fdP ["deck","rows"] (spD K R_sp))
  (O:NC K mg CE CC N fI bm) (FI:FnOk P w K mg base CX0 1 fI fdI ["self","row"] (aji CC)) (bI:aeg K fdI ["self","row"] []){oI oJ:Obj}(lI:K.lookup fI=some oI) (cI:oI.cls = .type "function") (M:NN K mg CE CN N2 fJ bm2) (FJ:FnOk P w K mg base CX0 1 fJ fdJ ["self","word"] (atb CN)) (bJ:aeg K fdJ ["self","word"] []) (lJ:K.lookup fJ=some oJ) (cJ:oJ.cls = .type "function"):FnOk P w K mg base CX0 6 f fd ["script"] (arp K):=by
 refine F.ok agw (fun vs H Q E h=>?_) (fun cdv A outer s H vs Q E hr h=>?_)
 ·obtain⟨a,ns,rfl,_⟩:=h;rfl
 ·obtain⟨a,ns,rfl,hS,hlen,k⟩:=h;have hr1:Room 1 _:=hr.mono (by decide);have hr2:Room 2 _:=hr.mono (by decide);have hr4:Room 4 _:=hr.mono (by decide);refine abw _ (aan (i:=1) agw.nd rfl (Or.inl rfl) (aak GD hr1 rfl gD.m gD.k gD.b .nil aa7 (pa_c (pv 0) aad))) ?_;refine⟨_,rfl,a,ns,rfl,hS,hlen,fun d c H1 D1 _ _ _=>?_⟩;refine abu (fun σ H2=>∃ v2 v3 v4 v5 v6 v7,σ=[some (.ref a),some (.ref d),v2,v3,v4,v5,v6,v7]) (fun u hu'=>?_) ?_
  ·refine⟨_,@ael _ _ _ _ _ _ _ _ PassesOwn.never rfl (@ad8 _ _ _ _ (@aaz _ _ _ _ (@ahj _ [(22,_,_),(4,_,_),(1,_,_)]))) (aa1 (i:=2) agw.nd rfl (Or.inl rfl)) (aai (aan (i:=3) agw.nd rfl (Or.inl rfl) (aex PySem.F.plainAttrs_str PySem.F.slot_str_split PySem.F.type_str_split aci (aak GX hr1 rfl gX.m gX.k gX.b .nil aa7 (pa_c (aak GC hr4 rfl gC.m gC.k gC.b .nil aa7 (pa_c (pv 1) (pa_c aag (pa_c (pv 2) aad)))) aad)) (pa_c abe aad))) (aah (ael PassesOwn.never rfl (ade rfl T.range (pa_c aag aad)) (aa1 (i:=4) agw.nd rfl (Or.inl rfl)) (aai (aan (i:=5) agw.nd rfl (Or.inl rfl) (aex PySem.F.plainAttrs_str PySem.F.slot_str_join PySem.F.type_str_join aha abe (pa_c (pv 3) aad))) (aai (adn (PW.pt (ak9 (add (ac1 (aak GR hr rfl gR.m gR.k gR.b .nil aa7 (pa_c (pv 5) aad)))) (aik (add (ac1 (aak GR hr rfl gR.m gR.k gR.b .nil aa7 (pa_c (pv 5) aad))))))) (aah (aa6 ahq)) abi) (aai (ael PassesOwn.never rfl (ad8 (aaz (pa_up (pu_add (pv 5)) (ago (PE.gt (aat aay (pv 5) abe)) (ago (PE.gt (aat aay (pv 5) abe)) (ago (PE.gt (aat aay abe (pv 5))) (ago (pt_rep (i:=5) rfl (Or.inl rfl) (by decide +kernel) (by decide +kernel)) (PA.gt (pa_c (aat aay (pv 5) abe) aad))))))))) (aa1 (i:=6) agw.nd rfl (Or.inl rfl)) (aah (adn (add (ac1 (aak GR hr rfl gR.m gR.k gR.b .nil aa7 (pa_c (pv 6) aad)))) (aah (aa6 ahq)) abi)) (by intro _;rfl)) (asq (idk:=1) (it:=5) (is:=7) GS GR hr2 hr rfl gS.m gS.k gS.b rfl gR.m gR.k gR.b aa7 agw.nd rfl rfl rfl (Or.inl rfl) rfl rfl (by decide) (aah (aan (i:=3) agw.nd rfl (Or.inl rfl) (aak GP hr rfl gP.m gP.k gP.b .nil aa7 (pa_c (pv 1) (pa_c (pv 3) aad))))))))) (by intro _;rfl)))) (by intro _;rfl),?_⟩;refine⟨(by show 3<=sizeLine;decide),fun g0 ng=>⟨g0,rfl,⟨_,SqL.of aaa⟩,?_⟩⟩;have gd:=D1.ned ng;refine afo (K:=K) (a:=g0) (xs:=([22,4,1]:List Int).map V.int) (fun i σ H2=>∃ v2 v3 v4 v5 v6 v7,σ=[some (.ref a),some (.ref d),v2,v3,v4,v5,v6,v7]/\H2 g0=some (.lst (([22,4,1]:List Int).map V.int))/\DeckAt H2 d c)
    ⟨none,none,none,none,none,none,rfl,aaa,D1.new ng⟩ (fun i σ H2 _ ⟨_,_,_,_,_,_,_,h,_⟩=>SqL.of h) ?_ ?_
   ·rintro i x σ H2 hx ⟨v2,v3,v4,v5,v6,v7,rfl,hg2,D2⟩;obtain⟨b,hb,rfl⟩:∃ b:Nat,b<=24/\V.int b=x:=by
     obtain⟨y,hy,e⟩:=aqy hx;have hm:=List.mem_of_getElem? hy;simp only[List.mem_cons,List.not_mem_nil,or_false] at hm;rcases hm with q | q | q<;>subst q
     ·exact⟨22,by decide,e⟩
     ·exact⟨4,by decide,e⟩
     ·exact⟨1,by decide,e⟩
    refine⟨_,rfl,_,rfl,d,c,6,b,rfl,D2,by decide,hb,fun ce C H3 nce hC hG D3 k3=>?_⟩;refine⟨ce,C,rfl,hC,hG,fun H4 s4=>?_⟩;refine⟨rfl,ahy C,Str.ofString "\n",rfl,rfl,by decide +kernel,?_,fun p0 np0=>?_⟩
    ·have:=(aic hG).text (by decide);exact Nat.le_trans this.2 (by decide)
    have S4:Keep d c H2 H4:=fun b o e n1 n2=>s4 b o (k3 b o e n1 n2)
    have D4:=D3.same s4;have es:Txt.split (ahy C) (Str.ofString "\n")=(ab5 C).map (Str.join spS):=anw hG;rw[es];have hg4:H4 g0=some (.lst (([22,4,1]:List Int).map V.int)):=S4 _ _ hg2 gd.1 gd.2;have gp:g0≠p0:=fun z=>by rw[← z,hg4] at np0;cases np0
    refine⟨4,rfl,by decide,by decide,?_⟩;refine adx (lo:=0) (n:=4) (fun i σ H5=>∃ (p:Addr) (rs:List Str) (v4 v5 v6 v7:Option V),σ=[some (.ref a),some (.ref d),some (.int b),some (.ref p),v4,v5,v6,v7]/\H5 p=some (.lst (rs.map V.str))/\p∉[d,c]/\SpRows (7+i) rs/\H5 g0=some (.lst (([22,4,1]:List Int).map V.int))/\DeckAt H5 d c)
     ⟨p0,(ab5 C).map (Str.join spS),v4,v5,v6,v7,rfl,aaa,asb D4 np0,aic hG,by rw[aac gp];exact hg4,D4.new np0⟩ ?_ ?_
    ·rintro j σ H5 hj ⟨p,rs,v4,v5,v6,v7,rfl,hp,np,hrs,hg5,D5⟩;have htx:=hrs.text (by omega);obtain⟨tx,etx⟩:∃ tx,tx=Str.join nlS rs:=⟨_,rfl⟩;rw[← etx] at htx;have O:TxO 3600 tx:=⟨htx.1,htx.2⟩;have ll:∀ x:Str,x.length<=3->tx.length+x.length<=sizeLine:=fun x hx=>Nat.le_trans (Nat.add_le_add O.l hx) (by decide)
     have ll':∀ x:Str,x.length<=3->x.length+tx.length<=sizeLine:=fun x hx=>by rw[Nat.add_comm];exact ll x hx
     have hsum:=alj 200 rs fun x hx=>by have:=(hrs.ok x hx).len;omega
     have hrl:=hrs.l;have h1:(Str.ofString "\n").length=1:=by decide +kernel
     refine⟨rfl,_,rfl,Str.ofString "\n",p,rs,rfl,rfl,.inl (SqL.of hp),by rw[h1];omega,?_⟩;rw[show Txt.join (Str.ofString "\n") rs=tx from (StrLaws.glued_eq_join _ _).trans etx.symm];refine⟨_,rfl,act (O.ok (by decide)) fun H6 s6=>⟨_,rfl,iteF ⟨_,rfl,act (O.ok (by decide)) fun H7 s7=>⟨_,rfl,iteF ?_⟩⟩⟩⟩;have S7:=s6.trans s7;refine⟨_,rfl,_,_,rfl,rfl,ll' _ (by decide +kernel),_,rfl,_,_,rfl,rfl,ll _ (by decide +kernel),_,rfl,_,_,rfl,rfl,ll _ (by decide +kernel),_,rfl,_,_,rfl,rfl,ll' _ (by decide +kernel),tx,rfl,by have:=O.l;omega,fun r1 hr1=>?_⟩;refine⟨_,rfl,_,_,rfl,rfl,ll _ (by decide +kernel),(by show 6<=sizeLine;decide),fun l0 nl0=>⟨l0,rfl,⟨_,SqL.of aaa⟩,?_⟩⟩;have Osp:TxO 3 (Str.ofString " "):=by decide +kernel
     have Onl:TxO 3 (Str.ofString "\n"):=by decide +kernel
     have Ospx:TxO 3 (Str.ofString " x"):=by decide +kernel
     have Osp2:TxO 3 (Str.ofString "  "):=by decide +kernel
     obtain⟨six,hsix⟩:∃ six:List Str,six=[(Str.ofString " ")++tx,tx++(Str.ofString " "),tx++(Str.ofString "\n"),(Str.ofString "\n")++tx,r1,tx++(Str.ofString " x")]:=⟨_,rfl⟩;have six_ok:∀ x∈six,TextOk x:=by
      intro x hx;rw[hsix] at hx;simp only[List.mem_cons,List.not_mem_nil,or_false] at hx;rcases hx with rfl | rfl | rfl | rfl | rfl | rfl
      ·exact (Osp.app O).ok (by decide)
      ·exact (O.app Osp).ok (by decide)
      ·exact (O.app Onl).ok (by decide)
      ·exact (Onl.app O).ok (by decide)
      ·exact (O.rep Osp2 hr1).ok (by decide)
      ·exact (O.app Ospx).ok (by decide)
     have S8:Same H5 (upd H7 l0 (.lst (six.map V.str))):=S7.trans (Same.new nl0);refine afo (K:=K) (a:=l0) (xs:=six.map V.str) (fun i σ H9=>∃ v6,σ=[some (.ref a),some (.ref d),some (.int b),some (.ref p),some (.int (0+(j:Int))),some (.str tx),v6,v7]/\H9 l0=some (.lst (six.map V.str))/\Same H5 H9)
      ⟨v6,rfl,by rw[hsix];exact aaa,by rw[hsix] at S8;exact S8⟩ (fun i σ H9 _ ⟨_,_,h,_⟩=>SqL.of h) ?_ ?_
     ·rintro i x σ H9 hx ⟨v6,rfl,hl9,S9⟩;obtain⟨y,hy,rfl⟩:=ad7 hx;refine⟨_,rfl,act (six_ok y (List.mem_of_getElem? hy)) fun H10 s10=>⟨_,rfl,iteF ?_⟩⟩;exact⟨_,rfl,s10 _ _ hl9,S9.trans s10⟩
     ·rintro σ H9 ⟨v6,rfl,hl9,S9⟩;refine⟨_,tx,rfl,rfl,by have:=O.l;omega,d,c,rfl,D5.same S9,fun n H10 n1 n2 D10 k10=>?_⟩;have Oz:TxO 3 (⟨#[n]⟩:Str):=⟨fun e he=>by rw[List.mem_singleton.mp he];omega,by show 1<=3;decide⟩;have ne:∀ m:Nat,m≠n->(⟨#[m]⟩:Str)≠⟨#[n]⟩:=fun m h e=>h (by injection e with e;simpa using e)
      refine⟨⟨#[n]⟩,rfl,by show 1<=100000;decide,?_,?_,fun r hr'=>act ((O.rep Oz hr').ok (by decide)) fun H11 s11=>⟨rfl,fun r2 hr2'=>act ((O.rep Oz hr2').ok (by decide)) fun H12 s12=>⟨rfl,?_⟩⟩⟩
      ·rw[show Str.ofString "\n" = ⟨#[10]⟩ from amu];exact ne 10 (by omega)
      ·rw[show Str.ofString " " = ⟨#[32]⟩ from aj1];exact ne 32 (by omega)
      have S12:=s11.trans s12;have np':p≠d/\p≠c:=⟨fun z=>np (by simp[z]),fun z=>np (by simp[z])⟩;have K12:∀ q o,H5 q=some o->q≠d->q≠c->H12 q=some o:=fun q o e n1 n2=>S12 _ _ (k10 q o (S9 _ _ e) n1 n2)
      refine⟨_,rfl,_,rfl,ani (D10.same S12) (K12 _ _ hp np'.1 np'.2) np hrs (by omega) (by omega) fun p' rs' H13 np2 hp2 hs2 D13 k13=>?_⟩;exact⟨p',rs',_,_,_,_,rfl,hp2,np2,hs2,k13 _ _ (K12 _ _ hg5 gd.1 gd.2) gd.1 gd.2,D13⟩
    ·rintro σ H5 ⟨p,rs,v4,v5,v6,v7,rfl,hp,np,hrs,hg5,D5⟩;exact⟨_,_,_,_,_,_,rfl,hg5,D5⟩
   ·rintro σ H2 ⟨v2,v3,v4,v5,v6,v7,rfl,_,_⟩;exact hu' _ _ ⟨v2,v3,v4,v5,v6,v7,rfl⟩
  rintro σ H2 ⟨v2,v3,v4,v5,v6,v7,rfl⟩;refine abu (fun σ H2=>∃ v2 v3 v4 v5 v6 v7,σ=[some (.ref a),some (.ref d),v2,v3,v4,v5,v6,v7]) (fun u hu'=>?_) ?_
  ·refine⟨_,@ael _ _ _ _ _ _ _ _ PassesOwn.never rfl (@ad8 _ _ _ _ (@aaz _ _ _ _ (@amh _ _ rfl))) (aa1 (i:=5) agw.nd rfl (Or.inl rfl)) (aah (adn (add (ac1 (aak GR hr rfl gR.m gR.k gR.b .nil aa7 (pa_c (pv 5) aad)))) (aah (aa6 ahq)) abi)) (by intro _;rfl),?_⟩;generalize hw:ahe _=W;have lW:W.length<=1000:=by rw[← hw];decide +kernel
   have hW:∀ x∈W,TextOk x:=by
    have:∀ x∈W,TxO 100 x:=by rw[← hw];decide +kernel
    exact fun x hx=>(this x hx).ok (by decide)
   refine⟨by rw[List.length_map];exact Nat.le_trans lW (by decide),fun l0 nl0=>⟨l0,rfl,⟨_,SqL.of aaa⟩,?_⟩⟩;refine afo (K:=K) (a:=l0) (xs:=W.map V.str) (fun i σ H9=>∃ v2 v3 v4 v5 v6 v7,σ=[some (.ref a),some (.ref d),v2,v3,v4,v5,v6,v7]/\H9 l0=some (.lst (W.map V.str)))
    ⟨_,_,_,_,_,_,rfl,aaa⟩ (fun i σ H9 _ ⟨_,_,_,_,_,_,_,h⟩=>SqL.of h) ?_ ?_
   ·rintro i x σ H9 hx ⟨v2,v3,v4,v5,v6,v7,rfl,hl9⟩;obtain⟨y,hy,rfl⟩:=ad7 hx;refine⟨_,rfl,act (hW y (List.mem_of_getElem? hy)) fun H10 s10=>⟨_,rfl,iteF ?_⟩⟩;exact⟨_,_,_,_,_,_,rfl,s10 _ _ hl9⟩
   ·rintro σ H9 ⟨v2,v3,v4,v5,v6,v7,rfl,hl9⟩;exact hu' _ _ ⟨_,_,_,_,_,_,rfl⟩
  rintro σ H2 ⟨v2,v3,v4,v5,v6,v7,rfl⟩;refine abu (fun σ H2=>∃ v2 v3 v4 v5 v6 v7,σ=[some (.ref a),some (.ref d),v2,v3,v4,v5,v6,v7]) (fun u hu'=>?_) ?_
  ·refine⟨_,@ael _ _ _ _ _ _ _ _ PassesOwn.never rfl (@ad8 _ _ _ _ (@aaz _ _ _ _ (@amh _ _ rfl))) (aa1 (i:=5) agw.nd rfl (Or.inl rfl)) (aah (adn (add (ac1 (aak GR hr rfl gR.m gR.k gR.b .nil aa7 (pa_c (pv 5) aad)))) (aah (aa6 ahq)) abi)) (by intro _;rfl),?_⟩;generalize hw:ahe _=W;have lW:W.length<=1000:=by rw[← hw];decide +kernel
   have hW:∀ x∈W,TextOk x:=by
    have:∀ x∈W,TxO 100 x:=by rw[← hw];decide +kernel
    exact fun x hx=>(this x hx).ok (by decide)
   refine⟨by rw[List.length_map];exact Nat.le_trans lW (by decide),fun l0 nl0=>⟨l0,rfl,⟨_,SqL.of aaa⟩,?_⟩⟩;refine afo (K:=K) (a:=l0) (xs:=W.map V.str) (fun i σ H9=>∃ v2 v3 v4 v5 v6 v7,σ=[some (.ref a),some (.ref d),v2,v3,v4,v5,v6,v7]/\H9 l0=some (.lst (W.map V.str)))
    ⟨_,_,_,_,_,_,rfl,aaa⟩ (fun i σ H9 _ ⟨_,_,_,_,_,_,_,h⟩=>SqL.of h) ?_ ?_
   ·rintro i x σ H9 hx ⟨v2,v3,v4,v5,v6,v7,rfl,hl9⟩;obtain⟨y,hy,rfl⟩:=ad7 hx;refine⟨_,rfl,act (hW y (List.mem_of_getElem? hy)) fun H10 s10=>⟨_,rfl,iteF ?_⟩⟩;exact⟨_,_,_,_,_,_,rfl,s10 _ _ hl9⟩
   ·rintro σ H9 ⟨v2,v3,v4,v5,v6,v7,rfl,hl9⟩;exact hu' _ _ ⟨_,_,_,_,_,_,rfl⟩
  rintro σ H2 ⟨v2,v3,v4,v5,v6,v7,rfl⟩;refine⟨_,aah (aa6 (af8 (acq aho (akb K (aed (x := "NoCell") O.xc O.kp lI cI FI hr2 (by rfl) O.mCC bI (pa_c aag aad)) rfl) aag (acj _)) (ah6 (acq aho (akb K (aed (x := "NoName") M.xc M.kp lJ cJ FJ hr2 (by rfl) M.mCN bJ (pa_c abe aad)) rfl) abe (acj _))))),?_⟩;refine⟨by show 1<=10;decide,fun e ne=>⟨e,3,rfl,by decide,aaa,fun dd nd=>⟨rfl,?_⟩⟩⟩;refine⟨e,CC,N,dd,bm,_,_,.int 3,rfl,aaa,by rw[aac (fun z=>by rw[z,aaa] at nd;cases nd)];exact aaa,rfl,O.xf,O.xc,O.fr,?_⟩;refine⟨rfl,⟨_,rfl,?_⟩⟩;rw[decide_eq_true rfl];refine (if_pos rfl).mpr ?_;refine⟨by show 1<=10;decide,fun e2 ne2=>⟨e2,Str.ofString "outer",rfl,⟨by decide +kernel,by decide +kernel⟩,aaa,fun dd2 nd2=>⟨rfl,?_⟩⟩⟩;refine⟨e2,CN,N2,dd2,bm2,_,_,.str (Str.ofString "outer"),rfl,aaa,by rw[aac (fun z=>by rw[z,aaa] at nd2;cases nd2)];exact aaa,rfl,M.xf,M.xc,M.fw,?_⟩;refine⟨rfl,?_⟩;rw[decide_eq_true rfl];exact k _
end
end Lw
namespace Lw
open PySem L2 PySem.Spec PyProof.Rows
theorem adk {K:PySem.W.Frag}{t:Addr}{d:Option Addr}{its:Array Value}{n:Nat}{sl:Array (Option Value)}{xs:List V}(h:K.lookup t=some ⟨.type "tuple",d,.seq its n,sl⟩) (hz:its.size<=sizeLine) (hv:Vals xs its.toList):∀ H,SqT K H t xs :=
 fun H=>.inr ⟨_,its,n,h,rfl,rfl,hz,hv⟩
section
variable {K:PySem.W.Frag}{w:World}{mg:Str->Option Value}{tL t8 tS1 tS2 tk1 tk2 tk3 tk4 tk5 tk6 tk7 ti1 ti2 ti3 ti4 ti5 ti6 ti7 ti8 ti9 ti10:Tok}{aS aN r1 r2 r3 r4 r5 r6 r7:Addr}{dS d1 d2 d3 d4 d5 d6 d7:Option Addr}{nS ep n1 n2 n3 n4 n5 n6 n7:Nat}{s1 s2 s3 s4 s5 s6 s7 sS:Array (Option Value)}{h1 h2 h3 h4 h5 h6 h7:Int}{zL zS1 zS2 z1 z2 z3 z4 z5 z6 z7:Str}{i8 j1 j2 j3 j4 j5 j6 j7 j8 j9 j10:Int}
set_option maxHeartbeats 1000000 in
theorem au6 (eL:mg "LETTERS" = some (.str zL tL)) (e8:mg "LONGEST_NAME" = some (.int i8 t8)) (eS:mg "SIDE_WORDS" = some (.ref aS)) (eN:mg "NAME_COUNTS" = some (.ref aN)) (eA:mg "all" = none)
  (lS:K.lookup aS=some ⟨.type "tuple",dS,.seq #[.str zS1 tS1,.str zS2 tS2] nS,sS⟩)
  (lN:K.lookup aN=some ⟨.type "dict",none,.dict #[⟨h1,.str z1 tk1,.ref r1⟩,⟨h2,.str z2 tk2,.ref r2⟩,⟨h3,.str z3 tk3,.ref r3⟩,⟨h4,.str z4 tk4,.ref r4⟩,⟨h5,.str z5 tk5,.ref r5⟩,⟨h6,.str z6 tk6,.ref r6⟩,⟨h7,.str z7 tk7,.ref r7⟩] ep,#[]⟩)
  (zN:(aN == sysModules)=false)
  (q1:h1=hashStr w "and") (q2:h2=hashStr w "or") (q3:h3=hashStr w "odd") (q4:h4=hashStr w "most") (q5:h5=hashStr w "not") (q6:h6=hashStr w "one") (q7:h7=hashStr w "nil")
  (l1:K.lookup r1=some ⟨.type "tuple",d1,.seq #[.int j1 ti1,.int j2 ti2] n1,s1⟩)
  (l2:K.lookup r2=some ⟨.type "tuple",d2,.seq #[.int j3 ti3,.int j4 ti4] n2,s2⟩)
  (l3:K.lookup r3=some ⟨.type "tuple",d3,.seq #[.int j5 ti5,.int j6 ti6] n3,s3⟩)
  (l4:K.lookup r4=some ⟨.type "tuple",d4,.seq #[.int j7 ti7] n4,s4⟩)
  (l5:K.lookup r5=some ⟨.type "tuple",d5,.seq #[.int j8 ti8] n5,s5⟩)
  (l6:K.lookup r6=some ⟨.type "tuple",d6,.seq #[.int j9 ti9] n6,s6⟩)
  (l7:K.lookup r7=some ⟨.type "tuple",d7,.seq #[.int j10 ti10] n7,s7⟩)
  (vL:zL=lettersS) (v8:i8=8) (vS1:zS1 = "in") (vS2:zS2 = "out") (v11:z1 = "and") (v12:z2 = "or") (v13:z3 = "odd") (v14:z4 = "most") (v15:z5 = "not") (v16:z6 = "one") (v17:z7 = "nil") (vj1:j1=2) (vj2:j2=3) (vj3:j3=2) (vj4:j4=3) (vj5:j5=2) (vj6:j6=3) (vj7:j7=3) (vj8:j8=1) (vj9:j9=0) (vj10:j10=0):Tops K w mg:=by
 subst vL v8 vS1 vS2 v11 v12 v13 v14 v15 v16 v17 vj1 vj2 vj3 vj4 vj5 vj6 vj7 vj8 vj9 vj10;refine⟨⟨_,eL⟩,⟨_,e8⟩,⟨aS,eS,adk lS (by show 2<=sizeLine;decide) (.cons ⟨_,rfl⟩ (.cons ⟨_,rfl⟩ .nil))⟩,⟨aN,_,eN,av8 (D:=[("and",.ref r1,.ref r1),("or",.ref r2,.ref r2),("odd",.ref r3,.ref r3),("most",.ref r4,.ref r4),("not",.ref r5,.ref r5),("one",.ref r6,.ref r6),("nil",.ref r7,.ref r7)]) ?_ ?_ ?_ ?_,fun z=>?_⟩,eA⟩
 ·intro p hp;simp only[List.mem_cons,List.not_mem_nil,or_false] at hp;rcases hp with rfl | rfl | rfl | rfl | rfl | rfl | rfl<;>rfl
 ·unfold KTD.tabLook;simp only[lN,zN];simp[KTD.rowsLook]
 ·show (["and","or","odd","most","not","one","nil"]:List Str).Nodup;decide +kernel
 ·unfold KTD.hashesOf;simp only[lN,q1,q2,q3,q4,q5,q6,q7];rfl
 ·simp only[List.map_cons,List.map_nil];have ne:∀ {x:Str},¬ z=x->¬ (Sum.inr x:Key)=Sum.inr z:=fun h e=>h (Sum.inr.inj e).symm
  by_cases c1:z = "and"
  ·subst c1;exact .inr ⟨r1,[2,3],ack rfl,rfl,adk l1 (by show 2<=sizeLine;decide) (.cons ⟨_,rfl⟩ (.cons ⟨_,rfl⟩ .nil))⟩
  rw[acl (ne c1)];by_cases c2:z = "or"
  ·subst c2;exact .inr ⟨r2,[2,3],ack rfl,rfl,adk l2 (by show 2<=sizeLine;decide) (.cons ⟨_,rfl⟩ (.cons ⟨_,rfl⟩ .nil))⟩
  rw[acl (ne c2)];by_cases c3:z = "odd"
  ·subst c3;exact .inr ⟨r3,[2,3],ack rfl,rfl,adk l3 (by show 2<=sizeLine;decide) (.cons ⟨_,rfl⟩ (.cons ⟨_,rfl⟩ .nil))⟩
  rw[acl (ne c3)];by_cases c4:z = "most"
  ·subst c4;exact .inr ⟨r4,[3],ack rfl,rfl,adk l4 (by show 1<=sizeLine;decide) (.cons ⟨_,rfl⟩ .nil)⟩
  rw[acl (ne c4)];by_cases c5:z = "not"
  ·subst c5;exact .inr ⟨r5,[1],ack rfl,rfl,adk l5 (by show 1<=sizeLine;decide) (.cons ⟨_,rfl⟩ .nil)⟩
  rw[acl (ne c5)];by_cases c6:z = "one"
  ·subst c6;exact .inr ⟨r6,[0],ack rfl,rfl,adk l6 (by show 1<=sizeLine;decide) (.cons ⟨_,rfl⟩ .nil)⟩
  rw[acl (ne c6)];by_cases c7:z = "nil"
  ·subst c7;exact .inr ⟨r7,[0],ack rfl,rfl,adk l7 (by show 1<=sizeLine;decide) (.cons ⟨_,rfl⟩ .nil)⟩
  rw[acl (ne c7)];refine .inl ⟨rfl,?_⟩;unfold aao;rw[if_neg (by rintro (e | e | e)<;>contradiction),if_neg c4,if_neg c5,if_neg (by rintro (e | e)<;>contradiction)]
end
end Lw
namespace Lw
open PySem L2
theorem len1 {us:List Value}(h:us.length=1):∃ x0,us=[x0]:=List.length_eq_one_iff.mp h
theorem len2 {us:List Value}(h:us.length=2):∃ x0 x1,us=[x0,x1]:=by
 cases us with
 | nil=>cases h
 | cons a r =>
  obtain⟨b,rfl⟩:=List.length_eq_one_iff.mp (Nat.succ.inj h);exact⟨a,b,rfl⟩
theorem len3 {us:List Value}(h:us.length=3):∃ x0 x1 x2,us=[x0,x1,x2]:=by
 cases us with
 | nil=>cases h
 | cons a r =>
  obtain⟨y0,y1,rfl⟩:=len2 (Nat.succ.inj h);exact⟨a,y0,y1,rfl⟩
abbrev NsF (K:PySem.W.Frag) (x:Str) (f:Addr):Prop:=PySem.W.nsIn K mainGlobals x=some (some (.ref f))
abbrev LkF (K:PySem.W.Frag) (f:Addr) (x:Str) (st:Stmt) (u:Option Addr×Option Addr×Array (Option Value)×Value×Value×Value×Value×Value) (cd:Value):Prop:=K.lookup f=some ⟨u.2.2.2.1,u.1,.func (PySem.W.fnOf x x (aey st) (acy st) (aae st) .none u.2.2.2.2.1 u.2.2.2.2.2.1 u.2.2.2.2.2.2.1 u.2.1 cd u.2.2.2.2.2.2.2),u.2.2.1⟩
set_option maxHeartbeats 4000000 in
theorem all_mk {l:PySem.W.OpenLaw}{w:World}{K:PySem.W.Frag}{h:Heap}{mg:Str->Option Value}{fa f1 f2 f3 f4 f5 f6 f7 f8 f9 f10 f11 f12 f13 f14 f15 f16 f17 f18 f19 f20 f21 f22 f23 f24 f25 f26 f27:Addr}(X:K.In h) (G:h.Ns mainGlobals mg) (hfa:mg "law" = some (.ref fa))
  {od1 an1 od2 an2 od3 an3 od4 an4 od5 an5 od6 an6 od7 an7 od8 an8 od9 an9 od10 an10 od11 an11 od12 an12 od13 an13 od14 an14 od15 an15 od16 an16 od17 an17 od18 an18 od19 an19 od20 an20 od21 an21 od22 an22 od23 an23 od24 an24 od25 an25 od26 an26 od27 an27:Option Addr}{sl1 sl2 sl3 sl4 sl5 sl6 sl7 sl8 sl9 sl10 sl11 sl12 sl13 sl14 sl15 sl16 sl17 sl18 sl19 sl20 sl21 sl22 sl23 sl24 sl25 sl26 sl27:Array (Option Value)}{oc1 kV1 dc1 pm1 cd1 ct1 oc2 kV2 dc2 pm2 cd2 ct2 oc3 kV3 dc3 pm3 cd3 ct3 oc4 kV4 dc4 pm4 cd4 ct4 oc5 kV5 dc5 pm5 cd5 ct5 oc6 kV6 dc6 pm6 cd6 ct6 oc7 kV7 dc7 pm7 cd7 ct7 oc8 kV8 dc8 pm8 cd8 ct8 oc9 kV9 dc9 pm9 cd9 ct9 oc10 kV10 dc10 pm10 cd10 ct10 oc11 kV11 dc11 pm11 cd11 ct11 oc12 kV12 dc12 pm12 cd12 ct12 oc13 kV13 dc13 pm13 cd13 ct13 oc14 kV14 dc14 pm14 cd14 ct14 oc15 kV15 dc15 pm15 cd15 ct15 oc16 kV16 dc16 pm16 cd16 ct16 oc17 kV17 dc17 pm17 cd17 ct17 oc18 kV18 dc18 pm18 cd18 ct18 oc19 kV19 dc19 pm19 cd19 ct19 oc20 kV20 dc20 pm20 cd20 ct20 oc21 kV21 dc21 pm21 cd21 ct21 oc22 kV22 dc22 pm22 cd22 ct22 oc23 kV23 dc23 pm23 cd23 ct23 oc24 kV24 dc24 pm24 cd24 ct24 oc25 kV25 dc25 pm25 cd25 ct25 oc26 kV26 dc26 pm26 cd26 ct26 oc27 kV27 dc27 pm27 cd27 ct27:Value}
  {CE CN CA CC CL NS NC2 fI fJ:Addr}{bm bc:List Value}{uCN1 uCN3:Value}{uCN2:Option Addr}{uCNn uCNq:Str}{uCNb uCNu:List Value}{uCNh uCNa uCNe:Bool}{uCNs:List Str}{uCNc:Option Bool}{uCNz:Array (Option Value)}{uCC1 uCC3:Value}{uCC2:Option Addr}{uCCn uCCq:Str}{uCCb uCCu:List Value}{uCCh uCCa uCCe:Bool}{uCCs:List Str}{uCCc:Option Bool}{uCCz:Array (Option Value)}{ioc ikV idc ipm icd ict joc jkV jdc jpm jcd jct:Value}{iod ian jod jan:Option Addr}{isl jsl:Array (Option Value)}{tL t8 tS1 tS2 tk1 tk2 tk3 tk4 tk5 tk6 tk7 ti1 ti2 ti3 ti4 ti5 ti6 ti7 ti8 ti9 ti10:Tok}{aS aN r1 r2 r3 r4 r5 r6 r7:Addr}{dS d1 d2 d3 d4 d5 d6 d7:Option Addr}{nS ep n1 n2 n3 n4 n5 n6 n7:Nat}{s1 s2 s3 s4 s5 s6 s7 sS:Array (Option Value)}{h1 h2 h3 h4 h5 h6 h7:Int}{zL zS1 zS2 yk1 yk2 yk3 yk4 yk5 yk6 yk7:Str}{i8 j1 j2 j3 j4 j5 j6 j7 j8 j9 j10:Int}
  (a1:NsF K "is_name" f1) (l1:LkF K f1 "is_name" afb (od1,an1,sl1,oc1,kV1,dc1,pm1,ct1) cd1) (c1:PySem.W.codeIn K cd1 "is_name" = true) (k1:PySem.W.keepIn K (.ref f1)=true)
  (a2:NsF K "word_takes" f2) (l2:LkF K f2 "word_takes" ahv (od2,an2,sl2,oc2,kV2,dc2,pm2,ct2) cd2) (c2:PySem.W.codeIn K cd2 "word_takes" = true) (k2:PySem.W.keepIn K (.ref f2)=true)
  (a3:NsF K "read_cell" f3) (l3:LkF K f3 "read_cell" anz (od3,an3,sl3,oc3,kV3,dc3,pm3,ct3) cd3) (c3:PySem.W.codeIn K cd3 "read_cell" = true) (k3:PySem.W.keepIn K (.ref f3)=true)
  (a4:NsF K "are_inputs" f4) (l4:LkF K f4 "are_inputs" ah5 (od4,an4,sl4,oc4,kV4,dc4,pm4,ct4) cd4) (c4:PySem.W.codeIn K cd4 "are_inputs" = true) (k4:PySem.W.keepIn K (.ref f4)=true)
  (a5:NsF K "is_gate" f5) (l5:LkF K f5 "is_gate" afu (od5,an5,sl5,oc5,kV5,dc5,pm5,ct5) cd5) (c5:PySem.W.codeIn K cd5 "is_gate" = true) (k5:PySem.W.keepIn K (.ref f5)=true)
  (a6:NsF K "check_end" f6) (l6:LkF K f6 "check_end" ad2 (od6,an6,sl6,oc6,kV6,dc6,pm6,ct6) cd6) (c6:PySem.W.codeIn K cd6 "check_end" = true) (k6:PySem.W.keepIn K (.ref f6)=true)
  (a7:NsF K "are_known" f7) (l7:LkF K f7 "are_known" ag6 (od7,an7,sl7,oc7,kV7,dc7,pm7,ct7) cd7) (c7:PySem.W.codeIn K cd7 "are_known" = true) (k7:PySem.W.keepIn K (.ref f7)=true)
  (a8:NsF K "is_each_once" f8) (l8:LkF K f8 "is_each_once" ala (od8,an8,sl8,oc8,kV8,dc8,pm8,ct8) cd8) (c8:PySem.W.codeIn K cd8 "is_each_once" = true) (k8:PySem.W.keepIn K (.ref f8)=true)
  (a9:NsF K "_law_deck" f9) (l9:LkF K f9 "_law_deck" ang (od9,an9,sl9,oc9,kV9,dc9,pm9,ct9) cd9) (c9:PySem.W.codeIn K cd9 "_law_deck" = true) (k9:PySem.W.keepIn K (.ref f9)=true)
  (a10:NsF K "_law_take" f10) (l10:LkF K f10 "_law_take" afs (od10,an10,sl10,oc10,kV10,dc10,pm10,ct10) cd10) (c10:PySem.W.codeIn K cd10 "_law_take" = true) (k10:PySem.W.keepIn K (.ref f10)=true)
  (a11:NsF K "_law_kept" f11) (l11:LkF K f11 "_law_kept" alx (od11,an11,sl11,oc11,kV11,dc11,pm11,ct11) cd11) (c11:PySem.W.codeIn K cd11 "_law_kept" = true) (k11:PySem.W.keepIn K (.ref f11)=true)
  (a12:NsF K "_law_made_names" f12) (l12:LkF K f12 "_law_made_names" aoe (od12,an12,sl12,oc12,kV12,dc12,pm12,ct12) cd12) (c12:PySem.W.codeIn K cd12 "_law_made_names" = true) (k12:PySem.W.keepIn K (.ref f12)=true)
  (a13:NsF K "_law_names" f13) (l13:LkF K f13 "_law_names" aid (od13,an13,sl13,oc13,kV13,dc13,pm13,ct13) cd13) (c13:PySem.W.codeIn K cd13 "_law_names" = true) (k13:PySem.W.keepIn K (.ref f13)=true)
  (a14:NsF K "_law_gate" f14) (l14:LkF K f14 "_law_gate" anx (od14,an14,sl14,oc14,kV14,dc14,pm14,ct14) cd14) (c14:PySem.W.codeIn K cd14 "_law_gate" = true) (k14:PySem.W.keepIn K (.ref f14)=true)
  (a15:NsF K "_law_cell" f15) (l15:LkF K f15 "_law_cell" anj (od15,an15,sl15,oc15,kV15,dc15,pm15,ct15) cd15) (c15:PySem.W.codeIn K cd15 "_law_cell" = true) (k15:PySem.W.keepIn K (.ref f15)=true)
  (a16:NsF K "_law_text" f16) (l16:LkF K f16 "_law_text" anb (od16,an16,sl16,oc16,kV16,dc16,pm16,ct16) cd16) (c16:PySem.W.codeIn K cd16 "_law_text" = true) (k16:PySem.W.keepIn K (.ref f16)=true)
  (a17:NsF K "_law_is_name" f17) (l17:LkF K f17 "_law_is_name" abo (od17,an17,sl17,oc17,kV17,dc17,pm17,ct17) cd17) (c17:PySem.W.codeIn K cd17 "_law_is_name" = true) (k17:PySem.W.keepIn K (.ref f17)=true)
  (a18:NsF K "_law_is_gate" f18) (l18:LkF K f18 "_law_is_gate" ab3 (od18,an18,sl18,oc18,kV18,dc18,pm18,ct18) cd18) (c18:PySem.W.codeIn K cd18 "_law_is_gate" = true) (k18:PySem.W.keepIn K (.ref f18)=true)
  (a19:NsF K "_law_wrong" f19) (l19:LkF K f19 "_law_wrong" acu (od19,an19,sl19,oc19,kV19,dc19,pm19,ct19) cd19) (c19:PySem.W.codeIn K cd19 "_law_wrong" = true) (k19:PySem.W.keepIn K (.ref f19)=true)
  (a20:NsF K "_law_cell_of" f20) (l20:LkF K f20 "_law_cell_of" ab2 (od20,an20,sl20,oc20,kV20,dc20,pm20,ct20) cd20) (c20:PySem.W.codeIn K cd20 "_law_cell_of" = true) (k20:PySem.W.keepIn K (.ref f20)=true)
  (a21:NsF K "_law_is_small" f21) (l21:LkF K f21 "_law_is_small" abv (od21,an21,sl21,oc21,kV21,dc21,pm21,ct21) cd21) (c21:PySem.W.codeIn K cd21 "_law_is_small" = true) (k21:PySem.W.keepIn K (.ref f21)=true)
  (a22:NsF K "_law_right" f22) (l22:LkF K f22 "_law_right" acr (od22,an22,sl22,oc22,kV22,dc22,pm22,ct22) cd22) (c22:PySem.W.codeIn K cd22 "_law_right" = true) (k22:PySem.W.keepIn K (.ref f22)=true)
  (a23:NsF K "_law_sign" f23) (l23:LkF K f23 "_law_sign" ab4 (od23,an23,sl23,oc23,kV23,dc23,pm23,ct23) cd23) (c23:PySem.W.codeIn K cd23 "_law_sign" = true) (k23:PySem.W.keepIn K (.ref f23)=true)
  (a24:NsF K "_law_word" f24) (l24:LkF K f24 "_law_word" acs (od24,an24,sl24,oc24,kV24,dc24,pm24,ct24) cd24) (c24:PySem.W.codeIn K cd24 "_law_word" = true) (k24:PySem.W.keepIn K (.ref f24)=true)
  (a25:NsF K "_law_spoilt_row" f25) (l25:LkF K f25 "_law_spoilt_row" aa9 (od25,an25,sl25,oc25,kV25,dc25,pm25,ct25) cd25) (c25:PySem.W.codeIn K cd25 "_law_spoilt_row" = true) (k25:PySem.W.keepIn K (.ref f25)=true)
  (a26:NsF K "_law_spoilt" f26) (l26:LkF K f26 "_law_spoilt" ab9 (od26,an26,sl26,oc26,kV26,dc26,pm26,ct26) cd26) (c26:PySem.W.codeIn K cd26 "_law_spoilt" = true) (k26:PySem.W.keepIn K (.ref f26)=true)
  (a27:NsF K "law" f27) (l27:LkF K f27 "law" alc (od27,an27,sl27,oc27,kV27,dc27,pm27,ct27) cd27) (c27:PySem.W.codeIn K cd27 "law" = true) (k27:PySem.W.keepIn K (.ref f27)=true)
  (z1:PySem.W.nsIn K mainGlobals "len" = some none)
  (z2:PySem.W.nsIn K mainGlobals "range" = some none)
  (z3:PySem.W.nsIn K mainGlobals "sum" = some none)
  (z4:PySem.W.nsIn K mainGlobals "min" = some none)
  (z5:PySem.W.nsIn K mainGlobals "max" = some none)
  (z6:PySem.W.nsIn K mainGlobals "tuple" = some none)
  (z7:PySem.W.nsIn K mainGlobals "list" = some none)
  (z8:PySem.W.nsIn K mainGlobals "set" = some none)
  (z9:PySem.W.nsIn K mainGlobals "dict" = some none)
  (z10:PySem.W.nsIn K mainGlobals "int" = some none)
  (z11:PySem.W.nsIn K mainGlobals "str" = some none)
  (z12:PySem.W.nsIn K mainGlobals "zip" = some none)
  (z13:PySem.W.nsIn K mainGlobals "enumerate" = some none)
  (z14:PySem.W.nsIn K mainGlobals "all" = some none)
  (z15:PySem.W.nsIn K mainGlobals "any" = some none)
  (z16:PySem.W.nsIn K mainGlobals "isinstance" = some none)
  (z17:PySem.W.nsIn K mainGlobals "sorted" = some none)
  (z18:PySem.W.nsIn K mainGlobals "abs" = some none)
  (z19:PySem.W.nsIn K mainGlobals "reversed" = some none)
  (z20:PySem.W.nsIn K mainGlobals "bool" = some none)
  (z21:PySem.W.nsIn K mainGlobals "ValueError" = some none)
  (xCE:PySem.W.nsIn K mainGlobals "CellError" = some (some (.ref CE)))
  (xCN:PySem.W.nsIn K mainGlobals "NoName" = some (some (.ref CN)))
  (xCA:PySem.W.nsIn K mainGlobals "NoAsk" = some (some (.ref CA)))
  (xCC:PySem.W.nsIn K mainGlobals "NoCell" = some (some (.ref CC)))
  (xCL:PySem.W.nsIn K mainGlobals "NoClaim" = some (some (.ref CL)))
  (lkCN:K.lookup CN=some ⟨uCN1,uCN2,.cls ⟨uCNn,uCNb,uCN3::bm,NS,uCNq,uCNh,uCNs,uCNu,uCNa,uCNc,uCNe⟩,uCNz⟩)
  (xfI:PySem.W.nsIn K NS "__init__" = some (some (.ref fI)))
  (lI:K.lookup fI=some ⟨ioc,iod,.func (PySem.W.fnOf "__init__" "NoName.__init__" (aey an0) (acy an0) (aae an0) .none ikV idc ipm ian icd ict),isl⟩)
  (cI:PySem.W.codeIn K icd "NoName.__init__" = true)
  (kI:PySem.W.keepIn K (.ref fI)=true)
  (hoc:ioc = .type "function")
  (hbm:bm = .ref CE::vMro)
  (xcN:xcIn K CN NS bm (some (.ref fI))=true)
  (g1:PySem.W.specialIn K (.ref CE) "__getattribute__" = some (some (.builtin "type.__getattribute__")))
  (g2:PySem.W.readsIn K CE (.type "type")=true)
  (g3:PySem.W.findCls K (.ref CE) (.type "type") "__init__" = some (.val (.builtin "ValueError.__init__")))
  (kpCN:PySem.W.keepIn K (.ref CN)=true)
  (faCN:PySem.W.findIn K (.ref CN) "__getattribute__" = some (some (.builtin "BaseException.__getattribute__")))
  (fbCN:PySem.W.findIn K (.ref CN) "__getattr__" = some none)
  (fcCN:PySem.W.mroIn K CN (.type "BaseException")=some true)
  (fdCN:PySem.W.mroIn K CN (.type "object")=some true)
  (feCN:PySem.W.findIn K (.ref CN) "__class__" = some (some (.builtin "object.__class__")))
  (ff:PySem.W.specialIn K (.builtin "object.__class__") "__get__" = some (some (.builtin "getset_descriptor.__get__")))
  (fg:PySem.W.takesIn K (.builtin "object.__class__")=some true)
  (sa:PySem.W.findIn K (.ref CN) "__setattr__" = some (some (.builtin "object.__setattr__")))
  (fw:PySem.W.findIn K (.ref CN) "word" = some none)
  (exm:PySem.W.exmOne K (.ref CN) (.ref CE)=some true)
  (lkCC:K.lookup CC=some ⟨uCC1,uCC2,.cls ⟨uCCn,uCCb,uCC3::bc,NC2,uCCq,uCCh,uCCs,uCCu,uCCa,uCCc,uCCe⟩,uCCz⟩)
  (xfJ:PySem.W.nsIn K NC2 "__init__" = some (some (.ref fJ)))
  (lJ:K.lookup fJ=some ⟨joc,jod,.func (PySem.W.fnOf "__init__" "NoCell.__init__" (aey aie) (acy aie) (aae aie) .none jkV jdc jpm jan jcd jct),jsl⟩)
  (cJ:PySem.W.codeIn K jcd "NoCell.__init__" = true)
  (kJ:PySem.W.keepIn K (.ref fJ)=true)
  (hoj:joc = .type "function")
  (hbc:bc = .ref CE::vMro)
  (xcC:xcIn K CC NC2 bc (some (.ref fJ))=true)
  (kpCC:PySem.W.keepIn K (.ref CC)=true)
  (faCC:PySem.W.findIn K (.ref CC) "__getattribute__" = some (some (.builtin "BaseException.__getattribute__")))
  (fbCC:PySem.W.findIn K (.ref CC) "__getattr__" = some none)
  (fcCC:PySem.W.mroIn K CC (.type "BaseException")=some true)
  (fdCC:PySem.W.mroIn K CC (.type "object")=some true)
  (feCC:PySem.W.findIn K (.ref CC) "__class__" = some (some (.builtin "object.__class__")))
  (saC:PySem.W.findIn K (.ref CC) "__setattr__" = some (some (.builtin "object.__setattr__")))
  (fr:PySem.W.findIn K (.ref CC) "row" = some none)
  (exC:PySem.W.exmOne K (.ref CC) (.ref CE)=some true)
  (kt3:PySem.W.kitAny K (.ref CC) [.ref CA,.ref CL,.ref CN]=some false)
  (ktv:PySem.W.kitOne K (.ref CC) (.type "ValueError")=some true)
  (xL:PySem.W.nsIn K mainGlobals "LETTERS" = some (some (.str zL tL)))
  (x8:PySem.W.nsIn K mainGlobals "LONGEST_NAME" = some (some (.int i8 t8)))
  (xS:PySem.W.nsIn K mainGlobals "SIDE_WORDS" = some (some (.ref aS)))
  (xN:PySem.W.nsIn K mainGlobals "NAME_COUNTS" = some (some (.ref aN)))
  (lS:K.lookup aS=some ⟨.type "tuple",dS,.seq #[.str zS1 tS1,.str zS2 tS2] nS,sS⟩)
  (lN:K.lookup aN=some ⟨.type "dict",none,.dict #[⟨h1,.str yk1 tk1,.ref r1⟩,⟨h2,.str yk2 tk2,.ref r2⟩,⟨h3,.str yk3 tk3,.ref r3⟩,⟨h4,.str yk4 tk4,.ref r4⟩,⟨h5,.str yk5 tk5,.ref r5⟩,⟨h6,.str yk6 tk6,.ref r6⟩,⟨h7,.str yk7 tk7,.ref r7⟩] ep,#[]⟩)
  (zN:(aN == sysModules)=false)
  (l_1:K.lookup r1=some ⟨.type "tuple",d1,.seq #[.int j1 ti1,.int j2 ti2] n1,s1⟩)
  (l_2:K.lookup r2=some ⟨.type "tuple",d2,.seq #[.int j3 ti3,.int j4 ti4] n2,s2⟩)
  (l_3:K.lookup r3=some ⟨.type "tuple",d3,.seq #[.int j5 ti5,.int j6 ti6] n3,s3⟩)
  (l_4:K.lookup r4=some ⟨.type "tuple",d4,.seq #[.int j7 ti7] n4,s4⟩)
  (l_5:K.lookup r5=some ⟨.type "tuple",d5,.seq #[.int j8 ti8] n5,s5⟩)
  (l_6:K.lookup r6=some ⟨.type "tuple",d6,.seq #[.int j9 ti9] n6,s6⟩)
  (l_7:K.lookup r7=some ⟨.type "tuple",d7,.seq #[.int j10 ti10] n7,s7⟩)
  (vz1:yk1 = "and")
  (vz2:yk2 = "or")
  (vz3:yk3 = "odd")
  (vz4:yk4 = "most")
  (vz5:yk5 = "not")
  (vz6:yk6 = "one")
  (vz7:yk7 = "nil")
  (vL:zL=Lw.lettersS)
  (v8:i8=8)
  (vS1:zS1 = "in")
  (vS2:zS2 = "out")
  (vj1:j1=2)
  (vj2:j2=3)
  (vj3:j3=2)
  (vj4:j4=3)
  (vj5:j5=2)
  (vj6:j6=3)
  (vj7:j7=3)
  (vj8:j8=1)
  (vj9:j9=0)
  (vj10:j10=0)
  (q1:h1=hashStr w "and")
  (q2:h2=hashStr w "or")
  (q3:h3=hashStr w "odd")
  (q4:h4=hashStr w "most")
  (q5:h5=hashStr w "not")
  (q6:h6=hashStr w "one")
  (q7:h7=hashStr w "nil")
  : ∃ fd:FuncData,(∀ (s:Shared) (v:Value),BindsTo s fd ⟨[v],[]⟩ [("script",v)])/\∀ base:Heap,K.In base->base.Ns mainGlobals mg->FnOk l.prog w K mg base CX0 6 fa fd ["script"] (arp K):=by
 have e:=hfa.symm.trans (PySem.W.mg_of X G a27);cases e;have F1:=abb (st:=afb) l1 c1 k1;have awz:Gd K mg "is_name" afb ["text"] f1 _:=⟨F1,PySem.W.mg_of X G a1,k1,F1.binds fun _ _ _ _ _ _ us hl=>by obtain⟨x0,rfl⟩:=len1 hl;rfl⟩;have F2:=abb (st:=ahv) l2 c2 k2;have aw2:Gd K mg "word_takes" ahv ["word","count"] f2 _:=⟨F2,PySem.W.mg_of X G a2,k2,F2.binds fun _ _ _ _ _ _ us hl=>by obtain⟨x0,x1,rfl⟩:=len2 hl;rfl⟩;have F3:=abb (st:=anz) l3 c3 k3;have awq:Gd K mg "read_cell" anz ["text"] f3 _:=⟨F3,PySem.W.mg_of X G a3,k3,F3.binds fun _ _ _ _ _ _ us hl=>by obtain⟨x0,rfl⟩:=len1 hl;rfl⟩;have F4:=abb (st:=ah5) l4 c4 k4;have awl:Gd K mg "are_inputs" ah5 ["words"] f4 _:=⟨F4,PySem.W.mg_of X G a4,k4,F4.binds fun _ _ _ _ _ _ us hl=>by obtain⟨x0,rfl⟩:=len1 hl;rfl⟩;have F5:=abb (st:=afu) l5 c5 k5;have aw0:Gd K mg "is_gate" afu ["words","known"] f5 _:=⟨F5,PySem.W.mg_of X G a5,k5,F5.binds fun _ _ _ _ _ _ us hl=>by obtain⟨x0,x1,rfl⟩:=len2 hl;rfl⟩;have F6:=abb (st:=ad2) l6 c6 k6;have awo:Gd K mg "check_end" ad2 ["rows","at","known"] f6 _:=⟨F6,PySem.W.mg_of X G a6,k6,F6.binds fun _ _ _ _ _ _ us hl=>by obtain⟨x0,x1,x2,rfl⟩:=len3 hl;rfl⟩;have F7:=abb (st:=ag6) l7 c7 k7;have awp:Gd K mg "are_known" ag6 ["names","known"] f7 _:=⟨F7,PySem.W.mg_of X G a7,k7,F7.binds fun _ _ _ _ _ _ us hl=>by obtain⟨x0,x1,rfl⟩:=len2 hl;rfl⟩;have F8:=abb (st:=ala) l8 c8 k8;have awj:Gd K mg "is_each_once" ala ["names"] f8 _:=⟨F8,PySem.W.mg_of X G a8,k8,F8.binds fun _ _ _ _ _ _ us hl=>by obtain⟨x0,rfl⟩:=len1 hl;rfl⟩;have F9:=abb (st:=ang) l9 c9 k9;have awx:Gd K mg "_law_deck" ang ["script"] f9 _:=⟨F9,PySem.W.mg_of X G a9,k9,F9.binds fun _ _ _ _ _ _ us hl=>by obtain⟨x0,rfl⟩:=len1 hl;rfl⟩;have F10:=abb (st:=afs) l10 c10 k10;have av9:Gd K mg "_law_take" afs ["deck","many"] f10 _:=⟨F10,PySem.W.mg_of X G a10,k10,F10.binds fun _ _ _ _ _ _ us hl=>by obtain⟨x0,x1,rfl⟩:=len2 hl;rfl⟩;have F11:=abb (st:=alx) l11 c11 k11;have aw4:Gd K mg "_law_kept" alx [] f11 _:=⟨F11,PySem.W.mg_of X G a11,k11,F11.binds fun _ _ _ _ _ _ us hl=>match us,hl with | [],_=>rfl⟩;have F12:=abb (st:=aoe) l12 c12 k12;have awu:Gd K mg "_law_made_names" aoe ["deck","many"] f12 _:=⟨F12,PySem.W.mg_of X G a12,k12,F12.binds fun _ _ _ _ _ _ us hl=>by obtain⟨x0,x1,rfl⟩:=len2 hl;rfl⟩;have F13:=abb (st:=aid) l13 c13 k13;have awn:Gd K mg "_law_names" aid ["deck","many"] f13 _:=⟨F13,PySem.W.mg_of X G a13,k13,F13.binds fun _ _ _ _ _ _ us hl=>by obtain⟨x0,x1,rfl⟩:=len2 hl;rfl⟩;have F14:=abb (st:=anx) l14 c14 k14;have awy:Gd K mg "_law_gate" anx ["deck","known"] f14 _:=⟨F14,PySem.W.mg_of X G a14,k14,F14.binds fun _ _ _ _ _ _ us hl=>by obtain⟨x0,x1,rfl⟩:=len2 hl;rfl⟩;have F15:=abb (st:=anj) l15 c15 k15;have awv:Gd K mg "_law_cell" anj ["deck","inputs","gates"] f15 _:=⟨F15,PySem.W.mg_of X G a15,k15,F15.binds fun _ _ _ _ _ _ us hl=>by obtain⟨x0,x1,x2,rfl⟩:=len3 hl;rfl⟩;have F16:=abb (st:=anb) l16 c16 k16;have aww:Gd K mg "_law_text" anb ["cell"] f16 _:=⟨F16,PySem.W.mg_of X G a16,k16,F16.binds fun _ _ _ _ _ _ us hl=>by obtain⟨x0,rfl⟩:=len1 hl;rfl⟩;have F17:=abb (st:=abo) l17 c17 k17;have awa:Gd K mg "_law_is_name" abo ["word"] f17 _:=⟨F17,PySem.W.mg_of X G a17,k17,F17.binds fun _ _ _ _ _ _ us hl=>by obtain⟨x0,rfl⟩:=len1 hl;rfl⟩;have F18:=abb (st:=ab3) l18 c18 k18;have awe:Gd K mg "_law_is_gate" ab3 ["words","known"] f18 _:=⟨F18,PySem.W.mg_of X G a18,k18,F18.binds fun _ _ _ _ _ _ us hl=>by obtain⟨x0,x1,rfl⟩:=len2 hl;rfl⟩;have F19:=abb (st:=acu) l19 c19 k19;have aws:Gd K mg "_law_wrong" acu ["text"] f19 _:=⟨F19,PySem.W.mg_of X G a19,k19,F19.binds fun _ _ _ _ _ _ us hl=>by obtain⟨x0,rfl⟩:=len1 hl;rfl⟩;have F20:=abb (st:=ab2) l20 c20 k20;have awk:Gd K mg "_law_cell_of" ab2 ["text"] f20 _:=⟨F20,PySem.W.mg_of X G a20,k20,F20.binds fun _ _ _ _ _ _ us hl=>by obtain⟨x0,rfl⟩:=len1 hl;rfl⟩;have F21:=abb (st:=abv) l21 c21 k21;have awi:Gd K mg "_law_is_small" abv ["text"] f21 _:=⟨F21,PySem.W.mg_of X G a21,k21,F21.binds fun _ _ _ _ _ _ us hl=>by obtain⟨x0,rfl⟩:=len1 hl;rfl⟩;have F22:=abb (st:=acr) l22 c22 k22;have awr:Gd K mg "_law_right" acr ["text"] f22 _:=⟨F22,PySem.W.mg_of X G a22,k22,F22.binds fun _ _ _ _ _ _ us hl=>by obtain⟨x0,rfl⟩:=len1 hl;rfl⟩;have F23:=abb (st:=ab4) l23 c23 k23;have awf:Gd K mg "_law_sign" ab4 ["deck"] f23 _:=⟨F23,PySem.W.mg_of X G a23,k23,F23.binds fun _ _ _ _ _ _ us hl=>by obtain⟨x0,rfl⟩:=len1 hl;rfl⟩;have F24:=abb (st:=acs) l24 c24 k24;have awb:Gd K mg "_law_word" acs ["deck","rows"] f24 _:=⟨F24,PySem.W.mg_of X G a24,k24,F24.binds fun _ _ _ _ _ _ us hl=>by obtain⟨x0,x1,rfl⟩:=len2 hl;rfl⟩;have F25:=abb (st:=aa9) l25 c25 k25;have awd:Gd K mg "_law_spoilt_row" aa9 ["deck","rows","at"] f25 _:=⟨F25,PySem.W.mg_of X G a25,k25,F25.binds fun _ _ _ _ _ _ us hl=>by obtain⟨x0,x1,x2,rfl⟩:=len3 hl;rfl⟩;have F26:=abb (st:=ab9) l26 c26 k26;have awm:Gd K mg "_law_spoilt" ab9 ["deck","rows"] f26 _:=⟨F26,PySem.W.mg_of X G a26,k26,F26.binds fun _ _ _ _ _ _ us hl=>by obtain⟨x0,x1,rfl⟩:=len2 hl;rfl⟩;have F27:=abb (st:=alc) l27 c27 k27;refine⟨PySem.W.fnOf "law" "law" (aey alc) (acy alc) (aae alc) .none kV27 dc27 pm27 an27 cd27 ct27,fun s v=>.of_eq rfl,fun base _ _=>?_⟩;have T:Txt mg:=⟨(PySem.W.mg_none_of X G z1),(PySem.W.mg_none_of X G z2),(PySem.W.mg_none_of X G z3),(PySem.W.mg_none_of X G z4),(PySem.W.mg_none_of X G z5),(PySem.W.mg_none_of X G z6),(PySem.W.mg_none_of X G z7),(PySem.W.mg_none_of X G z8),(PySem.W.mg_none_of X G z9),(PySem.W.mg_none_of X G z10),(PySem.W.mg_none_of X G z11),(PySem.W.mg_none_of X G z12),(PySem.W.mg_none_of X G z13),(PySem.W.mg_none_of X G z14),(PySem.W.mg_none_of X G z15),(PySem.W.mg_none_of X G z16),(PySem.W.mg_none_of X G z17),(PySem.W.mg_none_of X G z18),(PySem.W.mg_none_of X G z19),(PySem.W.mg_none_of X G z20)⟩;have Tp:Tops K w mg:=au6 (PySem.W.mg_of X G xL) (PySem.W.mg_of X G x8) (PySem.W.mg_of X G xS) (PySem.W.mg_of X G xN) (PySem.W.mg_none_of X G z14) lS lN zN q1 q2 q3 q4 q5 q6 q7 l_1 l_2 l_3 l_4 l_5 l_6 l_7 vL v8 vS1 vS2 vz1 vz2 vz3 vz4 vz5 vz6 vz7 vj1 vj2 vj3 vj4 vj5 vj6 vj7 vj8 vj9 vj10;have FIn:=abb (x := "__init__") (qual := "NoName.__init__") (st:=an0) lI cI kI;have bI:=FIn.binds (ps:=["self","word"]) fun _ _ _ _ _ _ us hl=>by obtain⟨x0,x1,rfl⟩:=len2 hl;rfl
 have FJn:=abb (x := "__init__") (qual := "NoCell.__init__") (st:=aie) lJ cJ kJ;have bJ:=FJn.binds (ps:=["self","row"]) fun _ _ _ _ _ _ us hl=>by obtain⟨x0,x1,rfl⟩:=len2 hl;rfl
 have M:NN K mg CE CN NS fI bm:=⟨PySem.W.mg_of X G xCE,g1,g2,g3,PySem.W.mg_of X G xCN,xcN,kpCN,sa,fw,fun x=>by subst hbm;rw[refuseLoop_ref,refuseLoop_ref];exact PySem.F.store_ValueError.passes _,by subst hbm;simp[vMro],by subst hbm;simp[vMro],⟨faCN,fbCN,fcCN,fdCN,feCN,ff,fg⟩,exm⟩;have O:NC K mg CE CC NC2 fJ bc:=⟨PySem.W.mg_of X G xCE,g1,g2,g3,PySem.W.mg_of X G xCC,xcC,kpCC,saC,fr,fun x=>by subst hbc;rw[refuseLoop_ref,refuseLoop_ref];exact PySem.F.store_ValueError.passes _,by subst hbc;simp[vMro],by subst hbc;simp[vMro],⟨faCC,fbCC,fcCC,fdCC,feCC,ff,fg⟩,exC⟩;have Q:NQ K mg CC CA CL CN:=⟨PySem.W.mg_of X G xCA,PySem.W.mg_of X G xCL,PySem.W.mg_of X G xCN,(PySem.W.mg_none_of X G z21),kt3,ktv⟩;have GT:=ai9 (P:=l.prog) (w:=w) (base:=base) av9.F T;have BT:=au7 GT;have GN:=asd (P:=l.prog) (w:=w) (base:=base) awn.F T av9 aw4 awu;have GG:=au8 (P:=l.prog) (w:=w) (base:=base) awy.F T av9;have GC:=avs (P:=l.prog) (w:=w) (base:=base) awv.F T av9 awn awy GT GN GG;have GX:=av7 (P:=l.prog) (w:=w) (base:=base) aww.F (PySem.W.mg_none_of X G z12);have GI:=au5 (P:=l.prog) (w:=w) (base:=base) FIn M;have GJ:=aro (P:=l.prog) (w:=w) (base:=base) FJn O;have GIn:=arz (P:=l.prog) (base:=base) awl.F T Tp awz awj;have GIg:=aou (P:=l.prog) (base:=base) aw0.F T Tp awz aw2 awp;have GCe:=aq8 (P:=l.prog) (base:=base) awo.F T Tp O GJ bJ lJ hoj awj awp;have GRd:=arr (P:=l.prog) (base:=base) awq.F T O GJ bJ lJ hoj awl aw0 awo GIn GIg GCe;have OIn:=ok_isn (P:=l.prog) (w:=w) (base:=base) awa.F T;have OIg:=ok_isg (P:=l.prog) (w:=w) (base:=base) awe.F T awa OIn;have OWr:=ok_wr (P:=l.prog) (w:=w) (base:=base) aws.F T awa awe OIn OIg;have OCo:=ok_co (P:=l.prog) (w:=w) (base:=base) awk.F T;have OSm:=ok_sm (P:=l.prog) (w:=w) (base:=base) awi.F T;have ORt:=ok_rt (P:=l.prog) (w:=w) (base:=base) awr.F T O Q aws awi awq awk OWr OSm GRd OCo;have GS:=aub (P:=l.prog) (w:=w) (base:=base) awf.F T av9 GT;have OWd:=ok_wd (P:=l.prog) (w:=w) (base:=base) awb.F T av9 awf BT (br_sgn GS);have OSr:=ok_sr (P:=l.prog) (w:=w) (base:=base) awd.F T av9 awb BT OWd;have OSp:=ok_sp (P:=l.prog) (w:=w) (base:=base) awm.F T av9 awb awd BT OWd OSr;exact ok_law F27 T awx awv aww awr awf awm (avp awx.F T) GC GX ORt GS OSp O GJ bJ lJ hoj M GI bI lI hoc
theorem walk {l:PySem.W.OpenLaw}{q:Program}{loose:List Str}{XP:(Str->Option Value)->Heap->Prop}{YP:World->Heap->Prop}{d:DefRec}{K:Params->PySem.W.Frag}(hn:l.most=some 63) (hdf:d.params.defaults=[])
  (hY:∀ (w:World) (h:Heap),YP w h->(K w.params).In h)
  (F:∀ (w:World) (mg:Str->Option Value) (fa:Addr) (h:Heap),(K w.params).In h->h.Ns mainGlobals mg->mg d.name=some (.ref fa) ->∃ fd:FuncData,(∀ (s:Shared) (u:Value),BindsTo s fd ⟨[u],[]⟩ [("script",u)])/\∀ base:Heap,(K w.params).In base->base.Ns mainGlobals mg->FnOk l.prog w (K w.params) mg base CX0 6 fa fd ["script"] (arp (K w.params))) :
  PySem.W.WalkO q loose XP YP l.row.toRowW d [] (fun f vs=>PySem.call f vs) :=
 L2.walk_of (n:=63) (k:=6) (x := "script") (CX:=fun _=>CX0) (sp:=fun w=>arp (K w.params)) hn (by decide) hdf ⟨rfl,by decide,by decide⟩ hY F (fun _ _ a ns hl _ hS=>⟨a,ns,rfl,hS,hl,fun _=>rfl⟩) fun _ _ _ _ _ z=>z
end Lw
/-! names that the closing words would lay copies under which nothing needs -/
namespace PySem.W.Fast
theorem tw17212931551910575143:True:=⟨⟩
theorem tw1682418819945256054:True:=⟨⟩
theorem tw16398753961805261904:True:=⟨⟩
theorem tw1323149393588191822:True:=⟨⟩
theorem tw6469552157673320487:True:=⟨⟩
theorem tw6040646382124948090:True:=⟨⟩
theorem tw16543408677777443209:True:=⟨⟩
theorem tw8264404931815795566:True:=⟨⟩
theorem tw13871786465784004562:True:=⟨⟩
theorem tw15078430532869965487:True:=⟨⟩
theorem tw1177581517363433479:True:=⟨⟩
theorem tw13499547655243612629:True:=⟨⟩
theorem tw17674217805131205548:True:=⟨⟩
theorem tw278509400871140945:True:=⟨⟩
theorem tw5674055564051788865:True:=⟨⟩
theorem tw11465554322232840304:True:=⟨⟩
theorem tw7482439139407115927:True:=⟨⟩
theorem tw10643837007757619386:True:=⟨⟩
theorem tw941456621435070217:True:=⟨⟩
theorem tw10682641549595780313:True:=⟨⟩
theorem tw672421253822482981:True:=⟨⟩
theorem tw18110551237959384496:True:=⟨⟩
theorem tw6609130099396402269:True:=⟨⟩
theorem tw6591958282870616447:True:=⟨⟩
theorem tw15750768358267873899:True:=⟨⟩
theorem tw17293388133153689402:True:=⟨⟩
theorem tw11846362732284242514:True:=⟨⟩
theorem tw3702807572157583432:True:=⟨⟩
theorem tw9569516227898890298:True:=⟨⟩
theorem tw10727648760210801813:True:=⟨⟩
theorem tw5122705472079836741:True:=⟨⟩
theorem tw12530925522713730322:True:=⟨⟩
theorem tw8530455867693194952:True:=⟨⟩
theorem tw16924349540361937635:True:=⟨⟩
theorem tw12133994304906894750:True:=⟨⟩
theorem tw15166013293568631502:True:=⟨⟩
theorem tw4527409155534255027:True:=⟨⟩
theorem tw11370476804117805650:True:=⟨⟩
theorem tw15396612988331464169:True:=⟨⟩
theorem tw5770884356488262582:True:=⟨⟩
theorem tw15616589690543096899:True:=⟨⟩
theorem tw11214107530195663694:True:=⟨⟩
theorem tw14254783779598661102:True:=⟨⟩
theorem tw11137468515074893989:True:=⟨⟩
theorem tw11899940794635633585:True:=⟨⟩
theorem tw15114069838596722112:True:=⟨⟩
theorem tw5108940014888184963:True:=⟨⟩
theorem tw1898169687894985180:True:=⟨⟩
theorem tw9679738453063080944:True:=⟨⟩
theorem tw9082060977417772101:True:=⟨⟩
theorem tw15040126617785224037:True:=⟨⟩
theorem tw10608610669587773134:True:=⟨⟩
theorem tw131674872057972558:True:=⟨⟩
theorem tw5912469195199496606:True:=⟨⟩
theorem tw562273317981727406:True:=⟨⟩
theorem tw13581633086309678656:True:=⟨⟩
theorem tw10315328018015752791:True:=⟨⟩
theorem tw321300582724427084:True:=⟨⟩
theorem tw9115713499934165172:True:=⟨⟩
theorem tw3262054989029130030:True:=⟨⟩
theorem tw17372796356534320547:True:=⟨⟩
theorem tw118272720908622650:True:=⟨⟩
theorem tw16820525075409824191:True:=⟨⟩
theorem tw18109849964454501359:True:=⟨⟩
theorem tw15323250934664685189:True:=⟨⟩
theorem tw16909704636222075446:True:=⟨⟩
theorem tw18438026937518403187:True:=⟨⟩
theorem tw4124750520331490798:True:=⟨⟩
theorem tw16040644681970249875:True:=⟨⟩
theorem tw2477076783349054675:True:=⟨⟩
theorem tw806977223764388576:True:=⟨⟩
theorem tw9038539669223226795:True:=⟨⟩
end PySem.W.Fast
open PySem PySem.W PyProof.Rows
set_option maxRecDepth 100000 in
set_option maxHeartbeats 0 in
theorem PySem.Challenge.cw_laidcells_k02_no_cell_holds : PySem.Challenge.rw_laidcells_k02_no_cell.Holds := by
 w_on;o_law;k_head;(case hw=>w_witness2)
 k_fill
 refine Lw.walk (l:=PySem.Challenge.rw_laidcells_k02_no_cell) rfl rfl (fun w h Y=>PySem.W.kIn_of Y) ?F
 case F =>
  intro w mg fa h KX G hmg;refine' Lw.all_mk KX G hmg ?_ ?_ ?_ ?_ ?_ ?_ ?_ ?_ ?_ ?_ ?_ ?_ ?_ ?_ ?_ ?_ ?_ ?_ ?_ ?_ ?_ ?_ ?_ ?_ ?_ ?_ ?_ ?_ ?_ ?_ ?_ ?_ ?_ ?_ ?_ ?_ ?_ ?_ ?_ ?_ ?_ ?_ ?_ ?_ ?_ ?_ ?_ ?_ ?_ ?_ ?_ ?_ ?_ ?_ ?_ ?_ ?_ ?_ ?_ ?_ ?_ ?_ ?_ ?_ ?_ ?_ ?_ ?_ ?_ ?_ ?_ ?_ ?_ ?_ ?_ ?_ ?_ ?_ ?_ ?_ ?_ ?_ ?_ ?_ ?_ ?_ ?_ ?_ ?_ ?_ ?_ ?_ ?_ ?_ ?_ ?_ ?_ ?_ ?_ ?_ ?_ ?_ ?_ ?_ ?_ ?_ ?_ ?_ ?_ ?_ ?_ ?_ ?_ ?_ ?_ ?_ ?_ ?_ ?_ ?_ ?_ ?_ ?_ ?_ ?_ ?_ ?_ ?_ ?_ ?xCE ?xCN ?xCA ?xCC ?xCL ?lkCN ?xfI ?lI ?cI ?kI ?hoc ?hbm ?xcN ?g1 ?g2 ?g3 ?kpCN ?faCN ?fbCN ?fcCN ?fdCN ?feCN ?ff ?fg ?sa ?fw ?exm ?lkCC ?xfJ ?lJ ?cJ ?kJ ?hoj ?hbc ?xcC ?kpCC ?faCC ?fbCC ?fcCC ?fdCC ?feCC ?saC ?fr ?exC ?kt3 ?ktv ?xL ?x8 ?xS ?xN ?lS ?lN ?zN ?l_1 ?l_2 ?l_3 ?l_4 ?l_5 ?l_6 ?l_7 ?vz1 ?vz2 ?vz3 ?vz4 ?vz5 ?vz6 ?vz7 ?vL ?v8 ?vS1 ?vS2 ?vj1 ?vj2 ?vj3 ?vj4 ?vj5 ?vj6 ?vj7 ?vj8 ?vj9 ?vj10 ?q1 ?q2 ?q3 ?q4 ?q5 ?q6 ?q7
  all_goals try first | k_is | (dsimp only[Lw.NsF,Lw.LkF];k_is)
  all_goals first | kernel_rfl | rfl
