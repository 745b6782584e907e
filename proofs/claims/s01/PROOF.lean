import PyProof.Rows.All
import Wide.All
import OpenK.AllK
import Wide.FinOn
import PyProof.EqAt
import PyProof.EqKinds
import PyProof.TupleCall
import KE.BitLaws
import Open.SpecLaws
import KE.OsHead
import KE.OsGo
import VbexamSpec
import PyVbexam
import PySem.Challenge.RW_rocksamples_s01_answers
import KE.KDictList
set_option Elab.async false
set_option linter.all false
set_option maxRecDepth 100000
namespace L2
open PySem PySem.Spec PyProof.Rows
abbrev Key:=Sum Int Str
def n9:Key→Value→Bool
 | .inl k,v=>Value.isInt k v
 | .inr x,v=>Value.isStrOf x v
def alN (w:World):Key→Int
 | .inl k=>hashInt k
 | .inr x=>hashStr w x
theorem d5:∀ {k:Key}{v:Value},n9 k v=true→(∃ i t,k=Sum.inl i∧v=Value.int i t)∨(∃ x t,k=Sum.inr x∧v=Value.str x t)
 | .inl i,v,h=>by
  obtain⟨t,e⟩:=Value.isInt_shape (k:=i) (v:=v) h;exact .inl ⟨i,t,rfl,e⟩
 | .inr x,v,h=>by
  obtain⟨t,e⟩:=Value.isStrOf_shape (x:=x) (v:=v) h;exact .inr ⟨x,t,rfl,e⟩
theorem ah6 (i:Int) (t:Tok):n9 (.inl i) (.int i t)=true:=by simp[n9,Value.isInt]
theorem ah7 (x:Str) (t:Tok):n9 (.inr x) (.str x t)=true:=by simp[n9,Value.isStrOf]
theorem alO (a b:Int):decide ((Sum.inl a:Key)=Sum.inl b)=(a == b):=by
 by_cases e:a=b
 ·subst e;simp
 ·have h:¬ (Sum.inl a:Key)=Sum.inl b:=fun q=>e (Sum.inl.inj q);rw[decide_eq_false h];exact(beq_eq_false_iff_ne.mpr e).symm
theorem alR (a b:Str):decide ((Sum.inr a:Key)=Sum.inr b)=decide (a=b):=by
 by_cases e:a=b
 ·subst e;simp
 ·have h:¬ (Sum.inr a:Key)=Sum.inr b:=fun q=>e (Sum.inr.inj q);rw[decide_eq_false h,decide_eq_false e]
theorem alP (a:Int) (b:Str):decide ((Sum.inl a:Key)=Sum.inr b)=false:=decide_eq_false (fun q=>nomatch q)
theorem alQ (a:Str) (b:Int):decide ((Sum.inr a:Key)=Sum.inl b)=false:=decide_eq_false (fun q=>nomatch q)
def bH (prog:Program) (w:World):PySem.KeyKind prog w Key where
 is:=n9
 hash:=alN w
 inj:=fun v a b ha hb=>by
  rcases d5 ha with⟨i,t,rfl,rfl⟩|⟨x,t,rfl,rfl⟩
  ·rcases d5 hb with⟨j,u,rfl,e⟩|⟨y,u,rfl,e⟩
   ·injection e with e1 _;rw[e1]
   ·exact nomatch e
  ·rcases d5 hb with⟨j,u,rfl,e⟩|⟨y,u,rfl,e⟩
   ·exact nomatch e
   ·injection e with e1 _;rw[e1]
 byValue:=fun k v h=>by
  rcases d5 h with⟨i,t,rfl,rfl⟩|⟨x,t,rfl,rfl⟩ <;> rfl
 pyHash:=fun hv h=>by
  rcases d5 hv with⟨i,t,rfl,rfl⟩|⟨x,t,rfl,rfl⟩
  ·exact wpAny_pyHash_int h
  ·exact wpAny_pyHash_str h
 eqBool:=fun hu hv h=>by
  rcases d5 hu with⟨i,t,rfl,rfl⟩|⟨x,t,rfl,rfl⟩
  ·rcases d5 hv with⟨j,u,rfl,rfl⟩|⟨y,u,rfl,rfl⟩
   ·rw[alO] at h;exact wpAny_eqBool_int h
   ·rw[alP] at h;exact SeqAt.EqAt.int_str i t y u _ _ _ _ h
  ·rcases d5 hv with⟨j,u,rfl,rfl⟩|⟨y,u,rfl,rfl⟩
   ·rw[alQ] at h;exact SeqAt.EqAt.str_int x t j u _ _ _ _ h
   ·rw[alR] at h;exact wpAny_eqBool_str h
 «strs»:=fun k x t v h=>by
  rcases d5 h with⟨i,u,rfl,e⟩|⟨y,u,rfl,e⟩
  ·exact nomatch e
  ·injection e with e1 _;subst e1;cases v <;> rfl
theorem afA (prog:Program) (w:World) (i:Int) (t:Tok):(bH prog w).is (.inl i) (.int i t)=true:=ah6 i t
theorem afB (prog:Program) (w:World) (x:Str) (t:Tok):(bH prog w).is (.inr x) (.str x t)=true:=ah7 x t
inductive V where
 | non|bl (b:Bool)|int (i:Int)|str (x:Str)|byt (b:Array UInt8)|flt (b:UInt64)|ref (a:Addr)|ty (n:String)
 deriving DecidableEq
def RelV:V→Value→Prop
 | .non,u=>u=Value.none
 | .bl b,u=>u=Value.bool b
 | .int i,u=>∃ t,u=Value.int i t
 | .str x,u=>∃ t,u=Value.str x t
 | .byt b,u=>∃ t,u=Value.bytes b t
 | .flt b,u=>∃ t,u=Value.float b t
 | .ref a,u=>u=Value.ref a
 | .ty n,u=>u=Value.type n
abbrev Vals:List V→List Value→Prop:=Paired RelV
theorem Vals.length {xs:List V}{us:List Value}(r:Vals xs us):xs.length=us.length:=Paired.length r
theorem Vals.get:∀ {xs:List V}{us:List Value}{i:Nat}{x:V},Vals xs us→xs[i]?=some x→∃ u,us[i]?=some u∧RelV x u
 | _,_,_,_,.nil,e=>by simp at e
 | _,_,0,_,.cons r _,e=>by simp at e;subst e;exact⟨_,rfl,r⟩
 | _,_,i+1,x,.cons _ t,e=>by
  obtain⟨u,h1,h2⟩:=Vals.get (i:=i) (x:=x) t (by simpa using e);exact⟨u,by simpa using h1,h2⟩
theorem Vals.set {x:V}{u:Value}(r:RelV x u):∀ {xs:List V}{us:List Value}(i:Nat),Vals xs us→Vals (xs.set i x) (us.set i u)
 | _,_,_,.nil=>.nil
 | _,_,0,.cons _ t=>.cons r t
 | _,_,i+1,.cons q t=>.cons q (Vals.set r i t)
theorem Vals.append:∀ {xs ys:List V}{us ws:List Value},Vals xs us→Vals ys ws→Vals (xs++ys) (us++ws)
 | _,_,_,_,.nil,s=>s
 | _,_,_,_,.cons r t,s=>.cons r (Vals.append t s)
theorem Vals.take:∀ {xs:List V}{us:List Value}(n:Nat),Vals xs us→Vals (xs.take n) (us.take n)
 | _,_,0,_=>.nil
 | _,_,_+1,.nil=>.nil
 | _,_,n+1,.cons r t=>.cons r (Vals.take n t)
theorem Vals.drop:∀ {xs:List V}{us:List Value}(n:Nat),Vals xs us→Vals (xs.drop n) (us.drop n)
 | _,_,0,r=>r
 | _,_,_+1,.nil=>.nil
 | _,_,n+1,.cons _ t=>Vals.drop n t
def ji:Option V→Option Value→Prop
 | some v,some u=>RelV v u
 | none,none=>True
 | _,_=>False
def KV {κ:Type}:List (κ×V)→List (κ×Value)→Prop:=Paired fun (p:κ×V) (q:κ×Value)=>p.1=q.1∧RelV p.2 q.2
def kV:Key→V
 | .inl i=>.int i
 | .inr x=>.str x
inductive HO where
 | lst (xs:List V)
 | tup (xs:List V)
 | dK (kvs:List (Key×V))|dT (kvs:List (List Key×V))
 | set (S:Int→Bool) (n:Nat)
 | ins (C dx:Addr) (fs:List (Str×V))
 | own (x:Addr)
 | xd (fs:List (Str×V))
 | met (f x:Addr)
 | rng (lo hi:Int)
 | frz (o:Obj) (u:HO)
 | tbl (ps:Array Value)
 | ext (φ:Heap→Prop)
abbrev Hp:=Addr→Option HO
def upd (H:Hp) (a:Addr) (o:HO):Hp:=fun b=>if b=a then some o else H b
theorem ah {H:Hp}{a:Addr}{o:HO}:upd H a o a=some o:=by unfold upd;rw[if_pos rfl]
theorem ae {H:Hp}{a b:Addr}{o:HO}(h:b≠a):upd H a o b=H b:=by unfold upd;rw[if_neg h]
theorem b8 {H:Hp}{a:Addr}{o u:HO}:upd (upd H a o) a u=upd H a u:=by
 funext b;unfold upd;split <;> rfl
theorem cp {H:Hp}{a b:Addr}{o u:HO}(h:H a=some o) (h':H b=some u) (d:o≠u):a≠b:=by
 intro e;subst e;rw[h] at h';exact d (Option.some.inj h')
theorem az {H:Hp}{a b:Addr}{o:HO}(h:H a=some o) (h':H b=none):a≠b:=by
 intro e;subst e;rw[h] at h';cases h'
section
variable (P:Program) (w:World)
def di (H:Hp) (h:Heap) (a:Addr):HO→Prop
 | .lst xs=>xs.length≤sizeLine∧∃ (its:List Value) (n:Nat),Vals xs its∧h.get? a=some { cls:=.type "list",data:=.seq its.toArray n }
 | .tup xs=>xs.length≤sizeLine∧∃ its:List Value,Vals xs its∧IsTup h a its.toArray
 | .dK kvs=>kvs.length≤sizeLine∧(a == sysModules)=false∧∃ vs,KV kvs vs∧h.DictOf (bH P w) a vs
 | .dT kvs=>kvs.length≤sizeLine∧(a == sysModules)=false∧∃ xs:List (List Key×Addr×Value),
   Paired (fun (p:List Key×V) (q:List Key×Addr×Value)=>p.1=q.1∧H q.2.1=some (.tup (p.1.map kV))∧RelV p.2 q.2.2) kvs xs ∧
   ∃ o es ep,h.get? a=some o∧o.ExactDict∧o.data = .dict es ep∧es.toList=xs.map (entryOfKey (tupleKind (bH P w)))∧(xs.map (·.1)).Nodup
 | .set S n=>h.SetOf (intKind P w) a S n
 | .ins C dx fs=>H dx=some (.own a)∧fs.length≤1000∧dx≠a∧h.get? a=some (PySem.W.instObj C dx) ∧
   ∃ mA,h.Ns1 dx mA∧(∀ f,ji (fs.lookup f) (mA f))∧PySem.Within mA (fs.map (·.1))
 | .own _=>∃ o,h.get? a=some o
 | .xd fs=>∃ mA,h.Ns1 a mA∧∀ f,ji (fs.lookup f) (mA f)
 | .rng lo hi=>∃ t u v,h.get? a=some { cls:=.type "range",data:=.fields #[.int lo t,.int hi u,.int 1 v] }
 | .frz o u=>h.get? a=some o∧di H h a u
 | .tbl ps=>h.get? a=some { cls:=.none,data:=.fields ps }
 | .met f x=>h.get? a=some (PySem.W.methodObj (.ref f) (.ref x))
 | .ext φ=>φ h∧(∃ o,h.get? a=some o)∧∀ h1 h2:Heap,φ h1→(∀ o,h1.get? a=some o→h2.get? a=some o)→φ h2
def HOk (H:Hp) (h:Heap):Prop:=∀ a o,H a=some o→di P w H h a o
end
section
variable {P:Program}{w:World}{H H':Hp}{h h':Heap}{a:Addr}{o:HO}
theorem di.lt (x:di P w H h a o):a<h.objs.size:=by
 cases o with
 | lst xs=>obtain⟨_,_,_,_,e⟩:=x;exact Heap.lt_size e
 | tup xs=>obtain⟨_,_,_,p⟩:=x;exact p.lt
 | dK kvs=>obtain⟨_,_,_,_,o,_,_,e,_⟩:=x;exact Heap.lt_size e
 | dT kvs=>obtain⟨_,_,_,_,o,_,_,e,_⟩:=x;exact Heap.lt_size e
 | set S n=>obtain⟨o,_,_,_,e,_⟩:=x;exact Heap.lt_size e
 | ins C dx fs=>obtain⟨_,_,_,e,_⟩:=x;exact Heap.lt_size e
 | own y=>obtain⟨_,e⟩:=x;exact Heap.lt_size e
 | xd fs=>obtain⟨_,⟨_,_,_,e,_⟩,_⟩:=x;exact Heap.lt_size e
 | rng lo hi=>obtain⟨_,_,_,e⟩:=x;exact Heap.lt_size e
 | frz ob u=>obtain⟨e,_⟩:=x;exact Heap.lt_size e
 | tbl ps=>exact Heap.lt_size (show h.get? a=some _ from x)
 | met f y=>exact Heap.lt_size (show h.get? a=some _ from x)
 | ext φ=>obtain⟨_,⟨_,e⟩,_⟩:=x;exact Heap.lt_size e
theorem Paired.ajt {α β:Type}{F G:α→β→Prop}:∀ {l₁:List α}{l₂:List β},Paired F l₁ l₂→(∀ a b,F a b→G a b)→Paired G l₁ l₂
 | _,_,.nil,_=>.nil
 | _,_,.cons r t,f=>.cons (f _ _ r) (Paired.ajt t f)
theorem di.mT (x:di P w H h a o) (k:∀ b u,(b=a∨H b=some (.own a))→h.get? b=some u→h'.get? b=some u)
  (ho:∀ b,H b=some (.own a)→H' b=some (.own a)) (ht:∀ b xs,H b=some (.tup xs)→H' b=some (.tup xs)):di P w H' h' a o:=by
 induction o with
 | lst xs=>obtain⟨z,its,n,r,e⟩:=x;exact⟨z,its,n,r,k _ _ (.inl rfl) e⟩
 | tup xs=>obtain⟨z,its,r,ob,e,c⟩:=x;exact⟨z,its,r,ob,k _ _ (.inl rfl) e,c⟩
 | dK kvs=>obtain⟨z,y,vs,r,ob,es,ep,e,c⟩:=x;exact⟨z,y,vs,r,ob,es,ep,k _ _ (.inl rfl) e,c⟩
 | dT kvs=>
  obtain⟨z,y,xs,r,ob,es,ep,e,c⟩:=x;exact⟨z,y,xs,Paired.ajt r fun p q z=>⟨z.1,ht _ _ z.2.1,z.2.2⟩,ob,es,ep,k _ _ (.inl rfl) e,c⟩
 | set S n=>obtain⟨ob,es,ep,t,e,c⟩:=x;exact⟨ob,es,ep,t,k _ _ (.inl rfl) e,c⟩
 | ins C dx fs=>
  obtain⟨d,z,ne,e,mA,⟨od,es,ep,e2,c⟩,r⟩:=x;exact⟨ho _ d,z,ne,k _ _ (.inl rfl) e,mA,⟨od,es,ep,k _ _ (.inr d) e2,c⟩,r⟩
 | own y=>obtain⟨ob,e⟩:=x;exact⟨ob,k _ _ (.inl rfl) e⟩
 | xd fs=>obtain⟨mA,⟨od,es,ep,e,c⟩,r⟩:=x;exact⟨mA,⟨od,es,ep,k _ _ (.inl rfl) e,c⟩,r⟩
 | rng lo hi=>obtain⟨t,u,v,e⟩:=x;exact⟨t,u,v,k _ _ (.inl rfl) e⟩
 | frz ob u ih=>obtain⟨e,q⟩:=x;exact⟨k _ _ (.inl rfl) e,ih q⟩
 | tbl ps=>
  have e:h.get? a=some { cls:=.none,data:=.fields ps }:=x;show h'.get? a=some { cls:=.none,data:=.fields ps };exact k a _ (.inl rfl) e
 | met f y=>
  have e:h.get? a=some (PySem.W.methodObj (.ref f) (.ref y)):=x;show h'.get? a=some (PySem.W.methodObj (.ref f) (.ref y));exact k a _ (.inl rfl) e
 | ext φ=>obtain⟨p,⟨o,e⟩,st⟩:=x;exact⟨st _ _ p fun o q=>k _ _ (.inl rfl) q,⟨o,k _ _ (.inl rfl) e⟩,st⟩
theorem HOk.lt (x:HOk P w H h) (e:H a=some o):a<h.objs.size:=(x a o e).lt
theorem HOk.fresh (x:HOk P w H h) (e:h.objs.size≤a):H a=none:=by
 cases q:H a with
 | none=>rfl
 | some u=>exact absurd (Nat.lt_of_lt_of_le (x.lt q) e) (Nat.lt_irrefl _)
theorem HOk.kept (x:HOk P w H h) (k:∀ b u,h.get? b=some u→h'.get? b=some u):HOk P w H h':=fun a o e=>
 (x a o e).mT (fun b u _ q=>k b u q) (fun _ q=>q) fun _ _ q=>q
theorem HOk.laid (x:HOk P w H h) (k:∀ b u,h.get? b=some u→h'.get? b=some u) (hp:h.objs.size≤a) (new:di P w (upd H a o) h' a o):HOk P w (upd H a o) h':=fun b u e=>by
 have hn:=x.fresh hp;by_cases hb:b=a
 ·subst hb;rw[ah] at e;cases e;exact new
 ·rw[ae hb] at e;exact(x b u e).mT (fun c v _ q=>k c v q) (fun c q=>by rw[ae (az q hn)];exact q) fun c xs q=>by rw[ae (az q hn)];exact q
end
def Rd (H:Hp) (a:Addr) (u:HO):Prop:=H a=some u∨∃ o,H a=some (.frz o u)
theorem Rd.ok {P:Program}{w:World}{H:Hp}{h:Heap}{a:Addr}{u:HO}(r:Rd H a u) (x:HOk P w H h):di P w H h a u:=by
 rcases r with r|⟨o,r⟩
 ·exact x a u r
 ·obtain⟨_,q⟩:=x a _ r;exact q
def Mut:Option HO→Prop
 | some (.lst _)=>True
 | some (.dK _)=>True
 | some (.dT _)=>True
 | some (.set _ _)=>True
 | some (.ins _ _ _)=>True
 | some (.ext _)=>True
 | _=>False
section
variable {P:Program}{w:World}{H:Hp}{h h':Heap}{x e:Addr}{o':HO}
theorem HOk.write (ok:HOk P w H h) (mu:Mut (H x)) (he:e=x∨H e=some (.own x)) (k:∀ b u,b≠e→h.get? b=some u→h'.get? b=some u) (heo:∃ u,h'.get? e=some u)
  (new:di P w (upd H x o') h' x o'):HOk P w (upd H x o') h':=fun b u q=>by
 have nown:∀ c y,H c=some (.own y)→c≠x:=fun c y r z=>by subst z;rw[r] at mu;exact mu
 have ntup:∀ c xs,H c=some (.tup xs)→c≠x:=fun c xs r z=>by subst z;rw[r] at mu;exact mu
 by_cases hb:b=x
 ·subst hb;rw[ah] at q;cases q;exact new
 ·rw[ae hb] at q;by_cases hbe:b=e
  ·have q':H b=some (.own x):=by
    rcases he with z|z
    ·exact absurd (hbe.trans z) hb
    ·rw[hbe];exact z
   rw[q] at q';cases q';obtain⟨v,hv⟩:=heo;exact⟨v,by rw[hbe];exact hv⟩
  ·refine(ok b u q).mT (fun c v hc r=>k c v ?_ r) (fun c r=>by rw[ae (nown c b r)];exact r) fun c xs r=>by rw[ae (ntup c xs r)];exact r
   rcases hc with rfl|hc
   ·exact hbe
   ·rintro rfl;rcases he with z|z
    ·exact nown c b hc z
    ·rw[hc] at z;cases z;exact hb rfl
end
structure Un (fs ex:List Addr) (H H':Hp) (h h':Heap):Prop where
 keep:∀ b o,h.get? b=some o→H b=none→b ∉ fs→b ∉ ex→h'.get? b=some o
 slot:∀ b o,h.get? b=some o→H b=none→b∈fs→b ∉ ex→∃ sl,h'.get? b=some { o with slots:=sl }
 free:∀ b o,h.get? b=some o→H b=none→b ∉ ex→H' b=none
 there:∀ b o,h.get? b=some o→b ∉ ex→∃ o',h'.get? b=some o'
 wq:∀ b xs,H b=some (.tup xs)→H' b=some (.tup xs)
 qR:∀ b o u,H b=some (.frz o u)→H' b=some (.frz o u)
 wo:∀ b ps,H b=some (.tbl ps)→∃ more,H' b=some (.tbl (ps++more))
section
variable {fs fs' ex ex':List Addr}{H H1 H2:Hp}{h h1 h2 h':Heap}{a x e:Addr}{o:HO}
theorem Un.any (u:Un fs ex H H1 h h1) {b:Addr}{ob:Obj}(q:h.get? b=some ob) (n:H b=none) (hx:b ∉ ex):∃ sl,h1.get? b=some { ob with slots:=sl }:=by
 by_cases hb:b∈fs
 ·exact u.slot b ob q n hb hx
 ·exact⟨ob.slots,u.keep b ob q n hb hx⟩
theorem Un.kept (k:∀ b u,h.get? b=some u→h'.get? b=some u):Un fs ex H H h h':=
 ⟨fun b ob q _ _ _=>k b ob q,fun b ob q _ _ _=>⟨ob.slots,k b ob q⟩,fun _ _ _ n _=>n,fun b ob q _=>⟨ob,k b ob q⟩,fun _ _ q=>q,fun _ _ _ q=>q,fun _ ps q=>⟨#[],by rw[q];simp⟩⟩
theorem Un.refl:Un fs ex H H h h:=Un.kept fun _ _ q=>q
theorem Un.laid (k:∀ b u,h.get? b=some u→h'.get? b=some u) (hp:h.objs.size≤a) (hn:H a=none):Un fs ex H (upd H a o) h h' where
 keep:=fun b u q _ _ _=>k b u q
 slot:=fun b u q _ _ _=>⟨u.slots,k b u q⟩
 free:=fun b u q n _=>by rw[ae (Nat.ne_of_lt (Nat.lt_of_lt_of_le (Heap.lt_size q) hp))];exact n
 there:=fun b u q _=>⟨u,k b u q⟩
 wq:=fun b xs q=>by rw[ae (az q hn)];exact q
 qR:=fun b u xs q=>by rw[ae (az q hn)];exact q
 wo:=fun b ps q=>⟨#[],by rw[ae (az q hn),q];simp⟩
theorem Un.write (mu:Mut (H x)) (he:e=x∨H e=some (.own x)) (k:∀ b u,b≠e→h.get? b=some u→h'.get? b=some u) (heo:∃ u,h'.get? e=some u):Un fs ex H (upd H x o) h h':=by
 have hx:∀ b,H b=none→b≠x:=fun b n z=>by subst z;rw[n] at mu;exact mu
 have hb:∀ b,H b=none→b≠e:=fun b n z=>by
  subst z;rcases he with r|r
  ·exact hx b n r
  ·rw[n] at r;cases r
 have hm:∀ b u,H b=some u→¬ Mut (some u)→b≠x:=fun b u q nm z=>by subst z;rw[q] at mu;exact nm mu
 refine⟨fun b u q n _ _=>k b u (hb b n) q,fun b u q n _ _=>⟨u.slots,k b u (hb b n) q⟩,fun b u q n _=>by rw[ae (hx b n)];exact n,fun b u q _=>?_,
  fun b xs q=>by rw[ae (hm b _ q fun z=>z)];exact q,fun b u xs q=>by rw[ae (hm b _ q fun z=>z)];exact q,fun b ps q=>⟨#[],by rw[ae (hm b _ q fun z=>z),q];simp⟩⟩
 by_cases hbe:b=e
 ·subst hbe;exact heo
 ·exact⟨u,k b u hbe q⟩
end
def trk (h:Heap) (H:Hp):List Addr:=(List.range h.objs.size).filter fun a=>(H a).isSome
def vv (h:Heap) (H:Hp):Heap:=PySem.W.hideAll h (trk h H)
theorem ah2 (h:Heap) (H:Hp):(vv h H).objs.size=h.objs.size:=PySem.W.hideAll_size _ _
theorem ajh {h:Heap}{H:Hp}{b:Addr}{o:Obj}(e:h.get? b=some o) (n:H b=none):(vv h H).get? b=some o:=
 PySem.W.hideAll_get _ e fun hm=>by
  have q:(H b).isSome=true:=(List.mem_filter.mp hm).2;rw[n] at q;simp at q
theorem akF {h:Heap}{H:Hp}{b:Addr}{o:Obj}(e:(vv h H).get? b=some o):h.get? b=some o∧H b=none:=by
 have e':h.get? b=some o:=PySem.W.of_hideAll (trk h H) e;refine⟨e',?_⟩;cases q:H b with
 | none=>rfl
 | some x=>
  have hm:b∈trk h H:=List.mem_filter.mpr ⟨List.mem_range.mpr (Heap.lt_size e'),by simp[q]⟩;have z:(vv h H).get? b=none:=PySem.W.hideAll_none (trk h H) hm;rw[z] at e;cases e
structure Mod (K:PySem.W.Frag) (mg:Str→Option Value) (base:Heap):Prop where
 kin:K.In base
 glob:base.Ns mainGlobals mg
 blt:∃ mb,base.Ns builtinsNs mb∧∀ x:Str,x ≠ "__name__" → mb x=bootBuiltins x
 nolimit:base.NoLimit
structure Cx where
 prog:Program
 w:World
 K:PySem.W.Frag
 mg:Str→Option Value
 base:Heap
 A:Around
 N:List Str
 s_0:Shared
 H_0:Hp
 env:Env
 outer:List Env
 stack:List Env
 ex:List Addr
 fn:Str→Bool
 calm:Bool
 pn:List (Addr×Obj)
 xe:Value→Shared→Prop
def frs (l:List Env):List Addr:=l.filterMap (·.frame)
abbrev Cx.fs (X:Cx):List Addr:=frs X.outer
def Vis (sc:Scope) (x:Str):Prop:=sc.names.lookup x=some .local∨sc.names.lookup x=some .cell∨sc.names.lookup x=some .free
def Loc (sc:Scope) (x:Str):Prop:=sc.names.lookup x=some .local∨sc.names.lookup x=some .cell
def Look (env:Env) (h:Heap) (m:Str→Option Value) (x:Str) (u:Value):Prop:=
 (env.kindOf x=some .local∧m x=some u)∨((env.kindOf x=some .cell∨env.kindOf x=some .free)∧∃ c,env.cells.lookup x=some c∧h.IsCell c (some u))
structure Cx.Ok (X:Cx):Prop where
 mod:Mod X.K X.mg X.base
 kind:X.env.scope.kind = .function
 glob:X.env.globals=mainGlobals
 blt:X.env.builtins=builtinsNs
 above:X.s_0.heap.objs.size≤X.env.locals
 inj:∀ x y c,X.env.cells.lookup x=some c→X.env.cells.lookup y=some c→x=y
 has:∀ x,(X.env.kindOf x=some .cell∨X.env.kindOf x=some .free)→∃ c,X.env.cells.lookup x=some c
 cab:∀ x c,X.fn x=true→X.env.cells.lookup x=some c→X.s_0.heap.objs.size≤c
 hd:X.calm=true→X.A.handled=none
 frames:X.A.frames=some X.stack
 stk:X.stack=X.outer∨(X.stack=X.env::X.outer∧X.env.frame=some X.env.locals)
 exf:∀ b∈X.ex,b≠X.env.locals∧∀ x c,X.env.cells.lookup x=some c→c≠b
 bs:∀ b o,X.base.get? b=some o→X.s_0.heap.get? b=some o∧X.H_0 b=none
 bsz:X.base.objs.size≤X.s_0.heap.objs.size
 aeu:∀ b o,X.base.get? b=some o→b ∉ X.ex
 ad3:∀ b∈X.ex,b ∉ X.fs
 oZ:X.s_0.heap.FunFrames X.base X.outer
 frf:∀ b∈X.fs,X.H_0 b=none
structure Inv (X:Cx) (pins:List (Addr×Obj)) (σ:List (Option V)) (H:Hp) (s:Shared):Prop where
 ok:X.Ok
 os:s.os=X.s_0.os
 bare:AllBare s.gens
 base:Un X.fs X.ex X.H_0 H X.s_0.heap s.heap
 loc:∃ m,s.heap.Ns X.env.locals m∧∀ (i:Nat) (x:Str) (v:V),X.N[i]?=some x→σ[i]?=some (some v)→Vis X.env.scope x→∃ u,RelV v u∧Look X.env s.heap m x u
 cell:∀ x c,X.env.cells.lookup x=some c→∃ v,s.heap.IsCell c v
 free:H X.env.locals=none
 jP:∀ x c,X.env.cells.lookup x=some c→H c=none
 pin:∀ p∈X.pn++pins,s.heap.get? p.1=some p.2∧H p.1=none∧p.1≠X.env.locals∧p.1 ∉ X.fs∧∀ v,p.2.data≠.cell v
 hok:HOk X.prog X.w H s.heap
 len:σ.length=X.N.length
section
variable {X:Cx}{pins:List (Addr×Obj)}{σ:List (Option V)}{H H':Hp}{s:Shared}{h':Heap}
theorem Cx.Ok.anC (ok:X.Ok) {b:Addr}{o:Obj}(e:X.base.get? b=some o):b ∉ X.fs:=fun hb=>by
 have:=(ok.oZ.mem hb).1;rw[e] at this;cases this
theorem Inv.bs (I:Inv X pins σ H s):∀ b o,X.base.get? b=some o→s.heap.get? b=some o∧H b=none:=fun b o e=>
 ⟨I.base.keep b o (I.ok.bs b o e).1 (I.ok.bs b o e).2 (I.ok.anC e) (I.ok.aeu b o e),I.base.free b o (I.ok.bs b o e).1 (I.ok.bs b o e).2 (I.ok.aeu b o e)⟩
theorem Inv.bk (I:Inv X pins σ H s):∀ b o,X.base.get? b=some o→s.heap.get? b=some o:=fun b o e=>(I.bs b o e).1
theorem Inv.mod (I:Inv X pins σ H s):Mod X.K X.mg X.base:=I.ok.mod
theorem Inv.kIn (I:Inv X pins σ H s):X.K.In s.heap:=I.ok.mod.kin.keeps I.bk
theorem Inv.fr (I:Inv X pins σ H s):∃ m,Fr X.base X.env.locals s.heap m:=
 let ⟨m,hn,_⟩:=I.loc
 ⟨m,hn,I.bk,Nat.le_trans I.ok.bsz I.ok.above⟩
theorem Inv.lt (I:Inv X pins σ H s):X.env.locals<s.heap.objs.size:=let ⟨_,hn,_⟩:=I.loc;hn.lt
theorem Inv.sz (I:Inv X pins σ H s):X.s_0.heap.objs.size≤s.heap.objs.size:=Nat.le_trans I.ok.above (Nat.le_of_lt I.lt)
theorem Inv.anD (I:Inv X pins σ H s) {a:Addr}(h:s.heap.objs.size≤a):a ∉ X.fs:=fun hb=>by
 obtain⟨_,o,ho,_⟩:=I.ok.oZ.mem hb;exact absurd (Nat.lt_of_lt_of_le (Heap.lt_size ho) (Nat.le_trans I.sz h)) (Nat.lt_irrefl _)
theorem Inv.cne (I:Inv X pins σ H s):∀ x c,X.env.cells.lookup x=some c→c≠X.env.locals:=fun x c e z=>by
 obtain⟨v,o,ho,hd⟩:=I.cell x c e;obtain⟨m,⟨o',es,ep,ho',hd',_⟩,_⟩:=I.loc;rw[z,ho'] at ho;cases ho;rw[hd'] at hd;cases hd
theorem Inv.oZ (I:Inv X pins σ H s):s.heap.FunFrames X.base X.outer:=by
 have all:∀ (l:List Env),(∀ b∈frs l,b∈X.fs)→X.s_0.heap.FunFrames X.base l→s.heap.FunFrames X.base l:=by
  intro l
  induction l with
  | nil=>intro _ _;trivial
  | cons env r ih=>
   intro hs hl;obtain⟨hk,⟨L,o,hf,hn,ho,hd⟩,hr⟩:=hl;have hL:L∈X.fs:=hs L (by unfold frs;rw[List.filterMap_cons,hf];exact List.mem_cons_self);obtain⟨sl,e⟩:=I.base.slot L o ho (I.ok.frf L hL) hL fun z=>I.ok.ad3 L z hL;exact⟨hk,⟨L,_,hf,hn,e,hd⟩,ih (fun b hb=>hs b (by unfold frs;rw[List.filterMap_cons,hf];exact List.mem_cons_of_mem _ hb)) hr⟩
 exact all X.outer (fun _ hb=>hb) I.ok.oZ
theorem Inv.stack (I:Inv X pins σ H s):s.heap.FunFrames X.base X.stack:=by
 rcases I.ok.stk with e|⟨e,hf⟩
 ·rw[e];exact I.oZ
 ·rw[e];obtain⟨m,hn,_⟩:=I.loc;refine .cons (by rw[I.ok.kind];decide) hf hn ?_ I.oZ;exact Heap.get?_none_of_le (Nat.le_trans I.ok.bsz I.ok.above)
theorem Inv.ae9 (I:Inv X pins σ H s):∀ b∈frs X.stack,b∈X.env.locals::X.fs:=fun b hb=>by
 rcases I.ok.stk with e|⟨e,hf⟩
 ·rw[e] at hb;exact List.mem_cons_of_mem _ hb
 ·rw[e] at hb;unfold frs at hb;rw[List.filterMap_cons,hf] at hb;exact hb
theorem Inv.agl (I:Inv X pins σ H s):∀ b∈frs X.stack,H b=none:=fun b hb=>by
 rcases List.mem_cons.mp (I.ae9 b hb) with e|hb
 ·rw[e];exact I.free
 ·obtain⟨_,o,ho,_⟩:=I.ok.oZ.mem hb;exact I.base.free b o ho (I.ok.frf b hb) fun z=>I.ok.ad3 b z hb
theorem Inv.step {g':Array GenState}{t':Nat}{d':Drawn}{ch:List Addr}(I:Inv X pins σ H s)
  (hch:∀ b∈ch,(b∈X.ex∨X.s_0.heap.objs.size≤b)∧b≠X.env.locals∧(∀ x c,X.env.cells.lookup x=some c→c≠b)∧∀ p∈X.pn++pins,p.1≠b)
  (keep:∀ b o,b≠X.env.locals→b ∉ X.fs→b ∉ ch→s.heap.get? b=some o→H b=none→h'.get? b=some o)
  (slot:∀ b o,b≠X.env.locals→b∈X.fs→b ∉ ch→s.heap.get? b=some o→H b=none→∃ sl,h'.get? b=some { o with slots:=sl }) (free:∀ b o,b ∉ ch→s.heap.get? b=some o→H b=none→H' b=none)
  (there:∀ b o,b ∉ ch→s.heap.get? b=some o→∃ o',h'.get? b=some o')
  (wq:∀ b xs,H b=some (.tup xs)→H' b=some (.tup xs)) (qR:∀ b o u,H b=some (.frz o u)→H' b=some (.frz o u)) (wo:∀ b ps,H b=some (.tbl ps)→∃ more,H' b=some (.tbl (ps++more)))
  (ns:∀ m,s.heap.Ns X.env.locals m→h'.Ns X.env.locals m) (hok:HOk X.prog X.w H' h') (hg:AllBare g') :
  Inv X pins σ H' { s with heap:=h',gens:=g',drawn:=d',toks:=t' }:=by
 have neL:∀ b o,X.s_0.heap.get? b=some o→b≠X.env.locals:=fun b o e=>Nat.ne_of_lt (Nat.lt_of_lt_of_le (Heap.lt_size e) I.ok.above);have neC:∀ b o,X.s_0.heap.get? b=some o→b ∉ X.ex→b ∉ ch:=fun b o e hx hb=>by
  rcases (hch b hb).1 with z|z
  ·exact hx z
  ·exact absurd (Nat.lt_of_lt_of_le (Heap.lt_size e) z) (Nat.lt_irrefl _)
 have cellK:∀ x c,X.env.cells.lookup x=some c→∀ v,s.heap.IsCell c v→h'.IsCell c v:=fun x c e v ⟨o,ho,hd⟩=>by
  have nch:c ∉ ch:=fun z=>(hch c z).2.2.1 x c e rfl;by_cases hc:c∈X.fs
  ·obtain⟨sl,q⟩:=slot c o (I.cne x c e) hc nch ho (I.jP x c e);exact⟨_,q,hd⟩
  ·exact⟨o,keep c o (I.cne x c e) hc nch ho (I.jP x c e),hd⟩
 refine⟨I.ok,I.os,hg,⟨fun b o e n hb hx=>?_,fun b o e n hb hx=>?_,fun b o e n hx=>?_,fun b o e hx=>?_,fun b xs e=>wq b xs (I.base.wq b xs e),fun b o xs e=>qR b o xs (I.base.qR b o xs e),fun b ps e=>?_⟩,?_,fun x c e=>?_,?_,fun x c e=>?_,fun p hp=>?_,hok,I.len⟩
 ·exact keep b o (neL b o e) hb (neC b o e hx) (I.base.keep b o e n hb hx) (I.base.free b o e n hx)
 ·obtain⟨sl,e1⟩:=I.base.slot b o e n hb hx;obtain⟨sl',e2⟩:=slot b _ (neL b o e) hb (neC b o e hx) e1 (I.base.free b o e n hx);exact⟨sl',e2⟩
 ·obtain⟨o',e1⟩:=I.base.there b o e hx;exact free b o' (neC b o e hx) e1 (I.base.free b o e n hx)
 ·obtain⟨o',e1⟩:=I.base.there b o e hx;exact there b o' (neC b o e hx) e1
 ·obtain⟨m1,e1⟩:=I.base.wo b ps e;obtain⟨m2,e2⟩:=wo b _ e1;exact⟨m1++m2,by rw[e2,Array.append_assoc]⟩
 ·obtain⟨m,hn,hl⟩:=I.loc;refine⟨m,ns m hn,fun i x v e1 e2 e3=>?_⟩;obtain⟨u,r,l⟩:=hl i x v e1 e2 e3;refine⟨u,r,?_⟩;rcases l with l|⟨k,c,e,z⟩
  ·exact .inl l
  ·exact .inr ⟨k,c,e,cellK x c e _ z⟩
 ·obtain⟨v,z⟩:=I.cell x c e;exact⟨v,cellK x c e v z⟩
 ·obtain⟨m,⟨o,_,_,ho,_⟩,_⟩:=I.loc;exact free _ o (fun z=>(hch _ z).2.1 rfl) ho I.free
 ·obtain⟨v,o,ho,hd⟩:=I.cell x c e;exact free c o (fun z=>(hch c z).2.2.1 x c e rfl) ho (I.jP x c e)
 ·obtain⟨e,n,ne,nf,d⟩:=I.pin p hp;have nch:p.1 ∉ ch:=fun z=>(hch p.1 z).2.2.2 p hp rfl;exact⟨keep p.1 p.2 ne nf nch e n,free p.1 p.2 nch e n,ne,nf,d⟩
theorem Inv.un {t':Nat}(I:Inv X pins σ H s) (u:Un X.fs [] H H' s.heap h') (hok:HOk X.prog X.w H' h'):Inv X pins σ H' { s with heap:=h',toks:=t' }:=by
 obtain⟨m,⟨o,es,ep,ho,r⟩,_⟩:=id I.loc;obtain⟨sl,hL⟩:=u.any ho I.free (by simp);exact I.step (g':=s.gens) (d':=s.drawn) (ch:=[]) (fun _ z=>nomatch z) (fun b o _ hb _ e n=>u.keep b o e n hb (by simp)) (fun b o _ hb _ e n=>u.slot b o e n hb (by simp)) (fun b o _ e n=>u.free b o e n (by simp)) (fun b o _ e=>u.there b o e (by simp)) u.wq u.qR u.wo (fun m' hm=>by
  obtain⟨o',es',ep',ho',r'⟩:=hm;rw[ho] at ho';cases ho';exact⟨_,es',ep',hL,r'⟩) hok I.bare
theorem Inv.call {g':Array GenState}{t':Nat}{d':Drawn}{ch:List Addr}(I:Inv X pins σ H s) (u:Un (frs X.stack) ch H H' s.heap h') (hok:HOk X.prog X.w H' h') (hg:AllBare g')
  (hch:∀ b∈ch,(b∈X.ex∨X.s_0.heap.objs.size≤b)∧b≠X.env.locals∧(∀ x c,X.env.cells.lookup x=some c→c≠b)∧∀ p∈X.pn++pins,p.1≠b) :
  Inv X pins σ H' { s with heap:=h',gens:=g',drawn:=d',toks:=t' }:=by
 obtain⟨m,⟨o,es,ep,ho,r⟩,_⟩:=id I.loc;obtain⟨sl,hL⟩:=u.any ho I.free fun z=>(hch _ z).2.1 rfl;exact I.step (ch:=ch) hch (fun b o hL hb hc e n=>u.keep b o e n (fun z=>(List.mem_cons.mp (I.ae9 b z)).elim hL hb) hc) (fun b o _ _ hc e n=>u.any e n hc) (fun b o hc e n=>u.free b o e n hc) (fun b o hc e=>u.there b o e hc) u.wq u.qR u.wo (fun m' hm=>by
  obtain⟨o',es',ep',ho',r'⟩:=hm;rw[ho] at ho';cases ho';exact⟨_,es',ep',hL,r'⟩) hok hg
theorem Inv.turned {t':Nat}{it:Addr}(I:Inv X pins σ H s) (k:∀ b o,b≠it→s.heap.get? b=some o→h'.get? b=some o) (hn:H it=none) (hL:it≠X.env.locals)
  (h1:it∈X.ex∨X.s_0.heap.objs.size≤it) (h2:∀ x c,X.env.cells.lookup x=some c→c≠it) (h3:∀ p∈X.pn++pins,p.1≠it):Inv X pins σ H { s with heap:=h',toks:=t' }:=by
 have nit:∀ b u,H b=some u→b≠it:=fun b u e z=>by rw[z,hn] at e;cases e
 refine I.step (g':=s.gens) (d':=s.drawn) (ch:=[it]) (fun b hb=>?_) (fun b o _ _ hc e _=>k b o (fun z=>hc (by simp[z])) e) (fun b o _ _ hc e _=>⟨o.slots,k b o (fun z=>hc (by simp[z])) e⟩) (fun _ _ _ _ n=>n)
  (fun b o hc e=>⟨o,k b o (fun z=>hc (by simp[z])) e⟩) (fun _ _ e=>e) (fun _ _ _ e=>e) (fun b ps e=>⟨#[],by rw[e];simp⟩) (fun m hm=>?_) (fun b u e=>?_) I.bare
 ·have e:b=it:=by simpa using hb
  subst e;exact⟨h1,hL,h2,h3⟩
 ·obtain⟨o,es,ep,ho,r⟩:=hm;exact⟨o,es,ep,k _ o (Ne.symm hL) ho,r⟩
 ·refine(I.hok b u e).mT (fun c v hc q=>k c v ?_ q) (fun _ q=>q) fun _ _ q=>q;rcases hc with z|z
  ·rw[z];exact nit b u e
  ·exact nit c _ z
theorem Inv.tok (I:Inv X pins σ H s) (t:Nat):Inv X pins σ H { s with toks:=t }:=I.un (h':=s.heap) (t':=t) Un.refl I.hok
theorem Inv.kept {t':Nat}(I:Inv X pins σ H s) (k:∀ b u,s.heap.get? b=some u→h'.get? b=some u):Inv X pins σ H { s with heap:=h',toks:=t' }:=I.un (Un.kept k) (I.hok.kept k)
theorem Inv.laid {a:Addr}{o:HO}{t':Nat}(I:Inv X pins σ H s) (k:∀ b u,s.heap.get? b=some u→h'.get? b=some u) (hp:s.heap.objs.size≤a) (new:di X.prog X.w (upd H a o) h' a o) :
  Inv X pins σ (upd H a o) { s with heap:=h',toks:=t' }:=I.un (Un.laid k hp (I.hok.fresh hp)) (I.hok.laid k hp new)
theorem Inv.write {x e:Addr}{o:HO}{t':Nat}(I:Inv X pins σ H s) (mu:Mut (H x)) (he:e=x∨H e=some (.own x)) (k:∀ b u,b≠e→s.heap.get? b=some u→h'.get? b=some u) (heo:∃ u,h'.get? e=some u)
  (new:di X.prog X.w (upd H x o) h' x o):Inv X pins σ (upd H x o) { s with heap:=h',toks:=t' }:=I.un (Un.write mu he k heo) (I.hok.write mu he k heo new)
theorem Inv.weak {σ':List (Option V)}(I:Inv X pins σ H s) (hl:σ'.length=σ.length) (w:∀ (i:Nat) v,σ'[i]?=some (some v)→σ[i]?=some (some v)):Inv X pins σ' H s:=
 ⟨I.ok,I.os,I.bare,I.base,let ⟨m,hn,hl'⟩:=I.loc;⟨m,hn,fun i x v e1 e2 e3=>hl' i x v e1 (w i v e2) e3⟩,I.cell,I.free,I.jP,I.pin,I.hok,hl.trans I.len⟩
theorem Inv.agf {pins':List (Addr×Obj)}(I:Inv X pins σ H s) (h:∀ p∈pins',s.heap.get? p.1=some p.2∧H p.1=none∧p.1≠X.env.locals∧p.1 ∉ X.fs∧∀ v,p.2.data≠.cell v):Inv X pins' σ H s:=
 ⟨I.ok,I.os,I.bare,I.base,I.loc,I.cell,I.free,I.jP,fun p hp=>(List.mem_append.mp hp).elim (fun z=>I.pin p (List.mem_append_left _ z)) (h p),I.hok,I.len⟩
theorem aae {N:List Str}(hN:N.Nodup) {i j:Nat}{x:Str}(a:N[i]?=some x) (b:N[j]?=some x):i=j:=by
 obtain⟨h1,e1⟩:=List.getElem?_eq_some_iff.mp a;obtain⟨h2,e2⟩:=List.getElem?_eq_some_iff.mp b;exact(List.getElem_inj hN).mp (e1.trans e2.symm)
theorem ac4 {M:Model}{A:Around}{E:Value→Shared→Prop}{i:Nat}{x:Str}{v:V}{u:Value}{Q:Unit→Shared→Prop}(I:Inv X pins σ H s) (hN:X.N.Nodup) (hi:X.N[i]?=some x) (hx:Loc X.env.scope x) (r:RelV v u)
  (h:∀ s',Inv X pins (σ.set i (some v)) H s'→(∃ a,Heap.SameBut a s.heap s'.heap∧(a=X.env.locals∨X.env.cells.lookup x=some a))→Q () s') (hf:X.fn x=true∨X.env.scope.names.lookup x=some .local:=by first|exact .inl rfl|exact .inr rfl|assumption):wpAny M A (storeName X.env x u) Q E s:=by
 obtain⟨m,hn,hl⟩:=id I.loc;have hcls:(X.env.scope.kind == .class||(X.env.scope.kind == .module&&X.env.locals != X.env.globals))=false:=by rw[I.ok.kind];rfl
 have hiσ:i<σ.length:=by rw[I.len];exact(List.getElem?_eq_some_iff.mp hi).1
 have cne:=I.cne;have tracked:∀ {a:Addr} {h':Heap},(∃ o,s.heap.get? a=some o∧H a=none)→Heap.SameBut a s.heap h'→HOk X.prog X.w H h':=fun {a h'} ha hs b ob e=>by
  obtain⟨_,_,hfree⟩:=ha;refine(I.hok b ob e).mT (fun c w' hc q=>(hs.2 c ?_).trans q) (fun _ q=>q) fun _ _ q=>q;rintro rfl;rcases hc with rfl|hc
  ·rw[hfree] at e;cases e
  ·rw[hfree] at hc;cases hc
 rcases hx with hk|hk
 ·refine wpAny_storeName_local hk hn (fun h' hn' hs=>?_) hcls;obtain⟨oL,_,_,hoL,_⟩:=id hn;refine h _ ⟨I.ok,I.os,I.bare,⟨fun b o e n hb hx=>?_,fun b o e n hb hx=>?_,I.base.free,fun b o e hx=>?_,I.base.wq,I.base.qR,I.base.wo⟩,⟨_,hn',fun j y v' e1 e2 e3=>?_⟩,fun y c e=>?_,I.free,I.jP,fun p hp=>?_,tracked ⟨oL,hoL,I.free⟩ hs,by simpa using I.len⟩ ⟨_,hs,.inl rfl⟩
  ·exact(hs.2 b (Nat.ne_of_lt (Nat.lt_of_lt_of_le (Heap.lt_size e) I.ok.above))).trans (I.base.keep b o e n hb hx)
  ·obtain⟨sl,e1⟩:=I.base.slot b o e n hb hx;exact⟨sl,(hs.2 b (Nat.ne_of_lt (Nat.lt_of_lt_of_le (Heap.lt_size e) I.ok.above))).trans e1⟩
  ·obtain⟨o',e1⟩:=I.base.there b o e hx;exact⟨o',(hs.2 b (Nat.ne_of_lt (Nat.lt_of_lt_of_le (Heap.lt_size e) I.ok.above))).trans e1⟩
  ·by_cases hj:j=i
   ·subst hj;rw[hi] at e1;cases e1;rw[List.getElem?_set_self hiσ] at e2;cases e2;exact⟨u,r,.inl ⟨hk,by simp⟩⟩
   ·rw[List.getElem?_set_ne (Ne.symm hj)] at e2;obtain⟨u',r',q⟩:=hl j y v' e1 e2 e3;refine⟨u',r',?_⟩;rcases q with⟨k,e⟩|⟨k,c,e,z⟩
    ·refine .inl ⟨k,?_⟩;have:y≠x:=fun e=>hj (aae hN e1 (e ▸ hi));simp[this,e]
    ·exact .inr ⟨k,c,e,z.sameBut hs (cne y c e)⟩
  ·obtain⟨w',z⟩:=I.cell y c e;exact⟨w',z.sameBut hs (cne y c e)⟩
  ·obtain⟨e,n,ne,nf,d⟩:=I.pin p hp;exact⟨(hs.2 p.1 ne).trans e,n,ne,nf,d⟩
 ·have hfn:X.fn x=true:=by
   rcases hf with z|z
   ·exact z
   ·rw[z] at hk;cases hk
  obtain⟨c,hc⟩:=I.ok.has x (.inl hk);obtain⟨w',z⟩:=I.cell x c hc;refine wpAny_storeName_cell I.ok.kind hk hc z (fun h' hc' hs=>?_);obtain⟨oc,hoc,hocd⟩:=id z;refine h { s with heap:=h' } ⟨I.ok,I.os,I.bare,⟨fun b o e n hb hx=>?_,fun b o e n hb hx=>?_,I.base.free,fun b o e hx=>?_,I.base.wq,I.base.qR,I.base.wo⟩,⟨m,hn.sameBut hs (Ne.symm (cne x c hc)),fun j y v' e1 e2 e3=>?_⟩,fun y c' e=>?_,I.free,I.jP,fun p hp=>?_,tracked ⟨oc,hoc,I.jP x c hc⟩ hs,by simpa using I.len⟩ ⟨c,hs,.inr hc⟩
  ·exact(hs.2 b (Nat.ne_of_lt (Nat.lt_of_lt_of_le (Heap.lt_size e) (I.ok.cab x c hfn hc)))).trans (I.base.keep b o e n hb hx)
  ·obtain⟨sl,e1⟩:=I.base.slot b o e n hb hx;exact⟨sl,(hs.2 b (Nat.ne_of_lt (Nat.lt_of_lt_of_le (Heap.lt_size e) (I.ok.cab x c hfn hc)))).trans e1⟩
  ·obtain⟨o',e1⟩:=I.base.there b o e hx;exact⟨o',(hs.2 b (Nat.ne_of_lt (Nat.lt_of_lt_of_le (Heap.lt_size e) (I.ok.cab x c hfn hc)))).trans e1⟩
  ·by_cases hj:j=i
   ·subst hj;rw[hi] at e1;cases e1;rw[List.getElem?_set_self hiσ] at e2;cases e2;exact⟨u,r,.inr ⟨.inl hk,c,hc,hc'⟩⟩
   ·rw[List.getElem?_set_ne (Ne.symm hj)] at e2;obtain⟨u',r',q⟩:=hl j y v' e1 e2 e3;refine⟨u',r',?_⟩;rcases q with q|⟨k,c',e,z'⟩
    ·exact .inl q
    ·refine .inr ⟨k,c',e,z'.sameBut hs ?_⟩;rintro rfl;exact hj (aae hN e1 (I.ok.inj _ _ _ e hc ▸ hi))
  ·by_cases hcc:c'=c
   ·subst hcc;exact⟨_,hc'⟩
   ·obtain⟨w2,z2⟩:=I.cell y c' e;exact⟨w2,z2.sameBut hs hcc⟩
  ·obtain⟨e,n,ne,nf,d⟩:=I.pin p hp;refine⟨(hs.2 p.1 ?_).trans e,n,ne,nf,d⟩;intro q;rw[q,hoc] at e;have q':oc=p.2:=Option.some.inj e;exact d w' (by rw[← q'];exact hocd)
theorem aaL {M:Model}{A:Around}{E:Value→Shared→Prop}{i:Nat}{x:Str}{v:V}{u:Value}{Q:Unit→Shared→Prop}(I:Inv X pins σ H s) (hN:X.N.Nodup) (hi:X.N[i]?=some x) (hx:Loc X.env.scope x) (r:RelV v u)
  (h:∀ s',Inv X pins (σ.set i (some v)) H s'→Q () s') (hf:X.fn x=true∨X.env.scope.names.lookup x=some .local:=by first|exact .inl rfl|exact .inr rfl|assumption):wpAny M A (storeName X.env x u) Q E s:=
 ac4 I hN hi hx r (fun s' I' _=>h s' I') hf
theorem Inv.amM {s':Shared}{ch:List Addr}(I:Inv X pins σ H s) (ho:s'.os=s.os) (u:Un (frs X.stack) ch H H' s.heap s'.heap) (hok:HOk X.prog X.w H' s'.heap) (hg:AllBare s'.gens)
  (hch:∀ b∈ch,(b∈X.ex∨X.s_0.heap.objs.size≤b)∧b≠X.env.locals∧(∀ x c,X.env.cells.lookup x=some c→c≠b)∧∀ p∈X.pn++pins,p.1≠b):Inv X pins σ H' s':=by
 obtain⟨h',g',d',t',o'⟩:=s';have e:o'=s.os:=ho;subst e;exact I.call (g':=g') (t':=t') (d':=d') u hok hg hch
end
abbrev XK:=Value→Option Addr→Hp→Prop
abbrev St:=List (Option V)
abbrev VK:=V→Hp→Prop
abbrev TE:=St→Hp→VK→Prop
abbrev TT:=St→Hp→(Bool→Hp→Prop)→Prop
abbrev TA:=St→Hp→(List V→Hp→Prop)→Prop
structure Ends where
 nx:St→Hp→Prop
 rt:VK
 bk:St→Hp→Prop:=fun _ _=>False
 ct:St→Hp→Prop:=fun _ _=>False
abbrev TS:=Ends→St→Hp→Prop
def EP (X:Cx) (pins:List (Addr×Obj)) (σ:St) (Q:VK) (u:Value) (s':Shared):Prop:=∃ v H',Inv X pins σ H' s'∧RelV v u∧Q v H'
def TP (X:Cx) (pins:List (Addr×Obj)) (σ:St) (Q:Bool→Hp→Prop) (b:Bool) (s':Shared):Prop:=∃ H',Inv X pins σ H' s'∧Q b H'
def AP (X:Cx) (pins:List (Addr×Obj)) (σ:St) (Q:List V→Hp→Prop) (us:List Value) (s':Shared):Prop:=∃ vs H',Inv X pins σ H' s'∧Vals vs us∧Q vs H'
def SP (X:Cx) (pins:List (Addr×Obj)) (D:Ends) (f:Flow) (s':Shared):Prop:=
 match f with
 | .next=>∃ σ' H',Inv X pins σ' H' s'∧D.nx σ' H'
 | .brk=>∃ σ' H',Inv X pins σ' H' s'∧D.bk σ' H'
 | .cont=>∃ σ' H',Inv X pins σ' H' s'∧D.ct σ' H'
 | .ret u=>∃ v σ' H',Inv X pins σ' H' s'∧RelV v u∧D.rt v H'
def PE (X:Cx) (e:Expr) (t:TE):Prop:=
 ∀ (pins:List (Addr×Obj)) (s:Shared) (σ:St) (H:Hp) (Q:VK),Inv X pins σ H s→t σ H Q→wpAny (model X.prog X.w) X.A (eval e X.env) (EP X pins σ Q) X.xe s
def PT (X:Cx) (e:Expr) (t:TT):Prop:=
 ∀ (pins:List (Addr×Obj)) (s:Shared) (σ:St) (H:Hp) (Q:Bool→Hp→Prop),Inv X pins σ H s→t σ H Q→wpAny (model X.prog X.w) X.A (isTrue e X.env (eval e X.env)) (TP X pins σ Q) X.xe s
def PW (X:Cx) (e:Expr) (t:TT):Prop:=
 ∀ (whole:Sem Value) (pins:List (Addr×Obj)) (s:Shared) (σ:St) (H:Hp) (Q:Bool→Hp→Prop),Inv X pins σ H s→t σ H Q→wpAny (model X.prog X.w) X.A (isTrue e X.env whole) (TP X pins σ Q) X.xe s
theorem PW.pt {X:Cx}{e:Expr}{t:TT}(h:PW X e t):PT X e t:=h _
def PA (X:Cx) (es:List Expr) (t:TA):Prop:=
 ∀ (pos:Pos) (pins:List (Addr×Obj)) (s:Shared) (σ:St) (H:Hp) (Q:List V→Hp→Prop),Inv X pins σ H s→t σ H Q→wpAny (model X.prog X.w) X.A (spliced (backTo pos (starEach es X.env))) (AP X pins σ Q) X.xe s
def PS (X:Cx) (st:Stmt) (t:TS):Prop:=
 ∀ (pins:List (Addr×Obj)) (s:Shared) (σ:St) (H:Hp) (D:Ends),Inv X pins σ H s→t D σ H→wpAny (model X.prog X.w) X.A (exec st X.env) (SP X pins D) X.xe s
def PSs (X:Cx) (st:List Stmt) (t:TS):Prop:=
 ∀ (pins:List (Addr×Obj)) (s:Shared) (σ:St) (H:Hp) (D:Ends),Inv X pins σ H s→t D σ H→wpAny (model X.prog X.w) X.A (execs st X.env) (SP X pins D) X.xe s
theorem thn {α:Type}{t:Sem α}{Q Q':α→Shared→Prop}{M:Model}{A:Around}{E:Value→Shared→Prop}{s:Shared}(h:wpAny M A t Q E s) (hQ:∀ a s,Q a s→Q' a s):wpAny M A t Q' E s:=wpAny_mono h hQ fun _ _ x=>x
section
variable {X:Cx}
theorem bin {a b:Expr}{ta tb:TE}(ha:PE X a ta) (hb:PE X b tb) {pins:List (Addr×Obj)}{s:Shared}{σ:St}{H:Hp}{R:V→V→Hp→Prop}(I:Inv X pins σ H s) (h:ta σ H fun x H1=>tb σ H1 fun y H2=>R x y H2)
  {α:Type} {Q:α→Shared→Prop} {f:Value→Value→Sem α}
  (hf:∀ v u s2 x y H2,Inv X pins σ H2 s2→RelV x v→RelV y u→R x y H2→wpAny (model X.prog X.w) X.A (f v u) Q X.xe s2) :
  wpAny (model X.prog X.w) X.A (eval a X.env) (fun v s₁=>wpAny (model X.prog X.w) X.A (eval b X.env) (fun u s₂=>wpAny (model X.prog X.w) X.A (f v u) Q X.xe s₂) X.xe s₁) X.xe s:=by
 refine thn (ha pins s σ H _ I h) fun v s1 ⟨x,H1,I1,r1,q1⟩=>?_;refine thn (hb pins s1 σ H1 _ I1 q1) fun u s2 ⟨y,H2,I2,r2,q2⟩=>?_;exact hf v u s2 x y H2 I2 r1 r2 q2
def bG (i:Nat):TE:=fun σ H Q=>∃ v,σ[i]?=some (some v)∧Q v H
def tC (v:V):TE:=fun _ H Q=>Q v H
theorem al1 {i:Nat}{x:Str}{pos:Pos}(hN:X.N[i]?=some x) (hv:Vis X.env.scope x) (hd:(x == ("__debug__" : Str))=false:=by decide) (hcd:(x == ("__classdict__" : Str))=false:=by decide):PE X (.Name x pos) (bG i):=by
 intro pins s σ H Q I h;obtain⟨v,e,h⟩:=h;obtain⟨m,hn,hl⟩:=I.loc;obtain⟨u,r,l⟩:=hl i x v hN e hv;have fin:EP X pins σ Q u s:=⟨v,H,I,r,h⟩;rcases l with⟨hk,hm⟩|⟨hk,c,hc,hcell⟩
 ·exact wpAny_Name (wpAny_loadName_local I.ok.kind hk hn hm fin) hd
 ·rcases hk with hk|hk
  ·exact wpAny_Name (wpAny_loadName_cell I.ok.kind hk hc hcell fin) hd
  ·exact wpAny_Name (wpAny_loadName_free I.ok.kind hk hc hcell fin hcd) hd
theorem aw {i j pos}:PE X (.Constant (.int i) j pos) (tC (.int i)):=fun _ _ _ H _ I h=>wpAny_Constant_int ⟨.int i,H,I.tok _,⟨_,rfl⟩,h⟩
theorem fN {b j pos}:PE X (.Constant (.bool b) j pos) (tC (.bl b)):=fun _ _ _ H _ I h=>Constant_bool ⟨.bl b,H,I,rfl,h⟩
theorem aW {x j pos}:PE X (.Constant (.str x) j pos) (tC (.str x)):=fun _ _ _ H _ I h=>Calls.Constant_str ⟨.str x,H,I.tok _,⟨_,rfl⟩,h⟩
def Gl (X:Cx) (x:Str):Prop:=X.env.kindOf x=some .globalImplicit
theorem qi {E:Value→Shared→Prop}{pins:List (Addr×Obj)}{s:Shared}{σ:St}{H:Hp}{x:Str}{u:Value}{pos:Pos}{Q:Value→Shared→Prop}(I:Inv X pins σ H s) (hg:Gl X x) (hm:X.mg x=some u) (h:Q u s)
  (hd:(x == ("__debug__" : Str))=false:=by decide):wpAny (model X.prog X.w) X.A (eval (.Name x pos) X.env) Q E s:=
 Calls.Name_function_global I.ok.kind hg (Calls.loadGlobal_global (by rw[I.ok.glob];exact I.mod.glob.keeps I.bk) hm h) hd
theorem ua {E:Value→Shared→Prop}{pins:List (Addr×Obj)}{s:Shared}{σ:St}{H:Hp}{x:Str}{u:Value}{pos:Pos}{Q:Value→Shared→Prop}(I:Inv X pins σ H s) (hg:Gl X x) (hm:X.mg x=none) (hv:bootBuiltins x=some u) (h:Q u s)
  (hn:x ≠ "__name__":=by decide) (hd:(x == ("__debug__" : Str))=false:=by decide):wpAny (model X.prog X.w) X.A (eval (.Name x pos) X.env) Q E s:=by
 obtain⟨mb,h1,h2⟩:=I.mod.blt;exact Calls.Name_function_global I.ok.kind hg (Calls.loadGlobal_builtin (by rw[I.ok.glob];exact I.mod.glob.keeps I.bk) hm (by rw[I.ok.blt];exact h1.keeps I.bk) ((h2 x hn).trans hv) h) hd
theorem cK {x:Str}{v:V}{u:Value}{pos:Pos}(hg:Gl X x) (hm:X.mg x=some u) (r:RelV v u) (hd:(x == ("__debug__" : Str))=false:=by decide):PE X (.Name x pos) (tC v):=
 fun _ _ _ H _ I h=>qi I hg hm ⟨v,H,I,r,h⟩ hd
variable {a b:Expr}{ta tb:TE}{pos:Pos}
def PC (X:Cx) (op:CmpOp) (a b:Expr) (t:TE):Prop:=
 ∀ (pins:List (Addr×Obj)) (s:Shared) (σ:St) (H:Hp) (Q:VK),Inv X pins σ H s→t σ H Q →
  wpAny (model X.prog X.w) X.A (eval a X.env) (fun v s₁=>wpAny (model X.prog X.w) X.A (eval b X.env) (fun u s₂=>wpAny (model X.prog X.w) X.A (compareOp op v u) (EP X pins σ Q) X.xe s₂) X.xe s₁) X.xe s
def tB (t:TE):TT:=fun σ H Q=>t σ H fun x H1=>∃ c,x = .bl c∧Q c H1
theorem mC {op:CmpOp}{t:TE}(h:PC X op a b t) (h1:behindInMarks op b=false:=by first|exact nobehind _ (by decide) (by decide)|rfl):PT X (.Compare a [op] [b] pos) (tB t):=by
 intro pins s σ H Q I hw;refine wpAny_isTrue_Compare1 (thn (h pins s σ H _ I hw) fun v s1 h1=>thn h1 fun u s2 h2=>thn h2 fun c s3 ⟨x,H1,I1,r1,q1⟩=>?_) h1;obtain⟨d,rfl,q⟩:=q1;cases r1;exact wpAny_truthy_bool ⟨H1,I1,q⟩
variable {tA tB':TT}{rest:List Expr}
def anR (t u:TT):TT:=fun σ H Q=>t σ H fun c H1=>if c=true then u σ H1 Q else Q false H1
def tOr (t u:TT):TT:=fun σ H Q=>t σ H fun c H1=>if c=true then Q true H1 else u σ H1 Q
def ajV (t:TT):TT:=fun σ H Q=>t σ H fun c H1=>Q (!c) H1
theorem aco (ha:PT X a tA):PW X (.BoolOp .And [a] pos) tA:=by
 intro wh pins s σ H Q I h;refine isTrue_and (thn (ha pins s σ H Q I h) fun c s1 e=>?_);cases c with
 | true=>exact isTrue_and_nil e
 | false=>exact e
theorem aeO (ha:PT X a tA):PW X (.BoolOp .Or [a] pos) tA:=by
 intro wh pins s σ H Q I h;refine isTrue_or (thn (ha pins s σ H Q I h) fun c s1 e=>?_);cases c with
 | false=>exact isTrue_or_nil e
 | true=>exact e
theorem aeN (ha:PT X a tA) (hb:PW X (.BoolOp .And (b::rest) pos) tB'):PW X (.BoolOp .And (a::b::rest) pos) (anR tA tB'):=by
 intro wh pins s σ H Q I h;refine isTrue_and (thn (ha pins s σ H _ I h) fun c s1 ⟨H1,I1,q1⟩=>?_);cases c with
 | true=>exact hb wh pins s1 σ H1 Q I1 q1
 | false=>exact⟨H1,I1,q1⟩
theorem ahc (ha:PT X a tA) (hb:PW X (.BoolOp .Or (b::rest) pos) tB'):PW X (.BoolOp .Or (a::b::rest) pos) (tOr tA tB'):=by
 intro wh pins s σ H Q I h;refine isTrue_or (thn (ha pins s σ H _ I h) fun c s1 ⟨H1,I1,q1⟩=>?_);cases c with
 | true=>exact⟨H1,I1,q1⟩
 | false=>exact hb wh pins s1 σ H1 Q I1 q1
theorem fD (ha:PT X a tA):PT X (.UnaryOp .Not a pos) (ajV tA):=by
 intro pins s σ H Q I h;exact isTrue_not (ha pins s σ H (fun c H1=>Q (!c) H1) I h)
def amB (ta tb:TE):TE:=fun σ H Q=>ta σ H fun x H1=>∃ c,x = .bl c∧if c=true then Q (.bl true) H1 else tb σ H1 Q
theorem al0 {op}{t:TE}(h:PE X a t):PE X (.BoolOp op [a] pos) t:=fun pins s σ H Q I hw=>BoolOp_one (h pins s σ H Q I hw)
theorem ana (ha:PE X a ta) (hb:PE X (.BoolOp .Or (b::rest) pos) tb):PE X (.BoolOp .Or (a::b::rest) pos) (amB ta tb):=by
 intro pins s σ H Q I h;refine BoolOp_or (thn (ha pins s σ H _ I h) fun v s1 ⟨x,H1,I1,r1,q1⟩=>?_);obtain⟨c,rfl,q1⟩:=q1;cases r1;refine wpAny_truthy_bool ?_;cases c with
 | false=>exact hb pins s1 σ H1 Q I1 q1
 | true=>exact⟨.bl true,H1,I1,rfl,q1⟩
def tIf (t:TT) (ta tb:TE):TE:=fun σ H Q=>t σ H fun c H1=>if c=true then ta σ H1 Q else tb σ H1 Q
theorem aju {c:Expr}(hc:PT X c tA) (ha:PE X a ta) (hb:PE X b tb):PE X (.IfExp c a b pos) (tIf tA ta tb):=by
 intro pins s σ H Q I h;refine wpAny_IfExp (thn (hc pins s σ H _ I h) fun d s1 ⟨H1,I1,q1⟩=>?_);cases d with
 | true=>exact ha pins s1 σ H1 Q I1 q1
 | false=>exact hb pins s1 σ H1 Q I1 q1
end
def SqL (K:PySem.W.Frag) (H:Hp) (a:Addr) (xs:List V):Prop:=
 Rd H a (.lst xs) ∨
  ∃ (o:Obj) (its:Array Value) (n:Nat),K.lookup a=some o∧o.cls = .type "list" ∧ o.dict=none∧o.data = .seq its n∧its.size≤sizeLine∧Vals xs its.toList
def SqT (K:PySem.W.Frag) (H:Hp) (a:Addr) (xs:List V):Prop:=
 Rd H a (.tup xs) ∨
  ∃ (o:Obj) (its:Array Value) (n:Nat),K.lookup a=some o∧o.cls = .type "tuple" ∧ o.data = .seq its n∧its.size≤sizeLine∧Vals xs its.toList
def anp:Value→Option V
 | .none=>some .non
 | .bool b=>some (.bl b)
 | .int i _=>some (.int i)
 | .str x _=>some (.str x)
 | .bytes b _=>some (.byt b)
 | .float b _=>some (.flt b)
 | .ref a=>some (.ref a)
 | .type n=>some (.ty n)
 | _=>none
theorem RelV.abs {x:V}{u:Value}(r:RelV x u):anp u=some x:=by
 cases x with
 | non=>cases r;rfl
 | bl _=>cases r;rfl
 | int _=>obtain⟨t,rfl⟩:=r;rfl
 | str _=>obtain⟨t,rfl⟩:=r;rfl
 | byt _=>obtain⟨t,rfl⟩:=r;rfl
 | flt _=>obtain⟨t,rfl⟩:=r;rfl
 | ref _=>cases r;rfl
 | ty _=>cases r;rfl
theorem RelV.inj {x y:V}{u:Value}(r:RelV x u) (q:RelV y u):x=y:=Option.some.inj (r.abs.symm.trans q.abs)
theorem Vals.inj:∀ {xs ys:List V}{us:List Value},Vals xs us→Vals ys us→xs=ys
 | _,_,_,.nil,.nil=>rfl
 | _,_,_,.cons r t,.cons r' t'=>by rw[r.inj r',Vals.inj t t']
section
variable {X:Cx}{pins:List (Addr×Obj)}{σ:St}{H:Hp}{s:Shared}{a:Addr}{xs ys:List V}
theorem SqL.of {K:PySem.W.Frag}(h:H a=some (.lst xs)):SqL K H a xs:=.inl (.inl h)
theorem SqT.of {K:PySem.W.Frag}(h:H a=some (.tup xs)):SqT K H a xs:=.inl (.inl h)
theorem Inv.list (I:Inv X pins σ H s) (h:SqL X.K H a xs):∃ its:List Value,Vals xs its∧PlainL s.heap a its.toArray∧xs.length≤sizeLine:=by
 rcases h with h|⟨o,its,n,hk,hc,hd,hs,hz,r⟩
 ·obtain⟨z,its,n,r,e⟩:=h.ok I.hok;exact⟨its,r,⟨_,n,e,rfl,rfl,rfl⟩,z⟩
 ·refine⟨its.toList,r,⟨o,n,I.kIn a o hk,hc,hd,by simpa using hs⟩,?_⟩;have e:=r.length;simp only[Array.length_toList] at e;omega
theorem Inv.tuple (I:Inv X pins σ H s) (h:SqT X.K H a xs):∃ its:List Value,Vals xs its∧IsTup s.heap a its.toArray∧xs.length≤sizeLine:=by
 rcases h with h|⟨o,its,n,hk,hc,hs,hz,r⟩
 ·obtain⟨z,its,r,p⟩:=h.ok I.hok;exact⟨its,r,p,z⟩
 ·refine⟨its.toList,r,⟨o,I.kIn a o hk,hc,n,by simpa using hs⟩,?_⟩;have e:=r.length;simp only[Array.length_toList] at e;omega
theorem Inv.aac (I:Inv X pins σ H s) (h:SqL X.K H a xs) (h':SqL X.K H a ys):xs=ys:=by
 obtain⟨its,r,⟨o,n,e,_,_,d⟩,_⟩:=I.list h;obtain⟨its',r',⟨o',n',e',_,_,d'⟩,_⟩:=I.list h';rw[e] at e';cases e';rw[d] at d';injection d' with d1 _;have:its=its':=by simpa using congrArg Array.toList d1
 subst this;exact r.inj r'
theorem Inv.aiM (I:Inv X pins σ H s) (h:SqT X.K H a xs) (h':SqT X.K H a ys):xs=ys:=by
 obtain⟨its,r,⟨o,e,_,n,d⟩,_⟩:=I.tuple h;obtain⟨its',r',⟨o',e',_,n',d'⟩,_⟩:=I.tuple h';rw[e] at e';cases e';rw[d] at d';injection d' with d1 _;have:its=its':=by simpa using congrArg Array.toList d1
 subst this;exact r.inj r'
end
abbrev Cx.tY (X:Cx) (E:Value→Shared→Prop):Cx:={ X with xe:=E }
abbrev Cx.nox (X:Cx):Cx:=X.tY fun _ _=>False
theorem Cx.Ok.tY {X:Cx}(ok:X.Ok) (E:Value→Shared→Prop):(X.tY E).Ok:=
 ⟨ok.mod,ok.kind,ok.glob,ok.blt,ok.above,ok.inj,ok.has,ok.cab,ok.hd,ok.frames,ok.stk,ok.exf,ok.bs,ok.bsz,ok.aeu,ok.ad3,ok.oZ,ok.frf⟩
theorem Cx.Ok.oK {X:Cx}{E:Value→Shared→Prop}(ok:(X.tY E).Ok):X.Ok:=
 ⟨ok.mod,ok.kind,ok.glob,ok.blt,ok.above,ok.inj,ok.has,ok.cab,ok.hd,ok.frames,ok.stk,ok.exf,ok.bs,ok.bsz,ok.aeu,ok.ad3,ok.oZ,ok.frf⟩
section
variable {X:Cx}{pins:List (Addr×Obj)}{σ:St}{H:Hp}{s:Shared}{E:Value→Shared→Prop}
theorem Inv.tY (I:Inv X pins σ H s) (E:Value→Shared→Prop):Inv (X.tY E) pins σ H s:=⟨I.ok.tY E,I.os,I.bare,I.base,I.loc,I.cell,I.free,I.jP,I.pin,I.hok,I.len⟩
theorem Inv.oK (I:Inv (X.tY E) pins σ H s):Inv X pins σ H s:=⟨I.ok.oK,I.os,I.bare,I.base,I.loc,I.cell,I.free,I.jP,I.pin,I.hok,I.len⟩
theorem SP.oK {D:Ends}{f:Flow}{s':Shared}(h:SP (X.tY E) pins D f s'):SP X pins D f s':=by
 cases f with
 | next=>obtain⟨σ',H',I,q⟩:=h;exact⟨σ',H',I.oK,q⟩
 | brk=>obtain⟨σ',H',I,q⟩:=h;exact⟨σ',H',I.oK,q⟩
 | cont=>obtain⟨σ',H',I,q⟩:=h;exact⟨σ',H',I.oK,q⟩
 | ret u=>obtain⟨v,σ',H',I,r,q⟩:=h;exact⟨v,σ',H',I.oK,r,q⟩
theorem PSs.nox {st:List Stmt}{t:TS}(h:PSs X.nox st t):PSs X st t:=fun pins s σ H D I hw=>
 wpAny_mono (h pins s σ H D (I.tY _) hw) (fun _ _ q=>q.oK) fun _ _ z=>False.elim z
end
section
variable {X:Cx}{st:Stmt}{rest:List Stmt}{t u:TS}{e:Expr}{te:TE}{pos:Pos}
def akg:TS:=fun D σ H=>D.nx σ H
def amC (t u:TS):TS:=fun D σ H=>t { D with nx:=u D } σ H
theorem aL:PSs X [] akg:=fun _ _ σ H _ I h=>wpAny_execs_nil ⟨σ,H,I,h⟩
theorem ab (h1:PS X st t) (h2:PSs X rest u):PSs X (st::rest) (amC t u):=by
 intro pins s σ H D I h;refine wpAny_execs_cons (thn (h1 pins s σ H { D with nx:=u D } I h) fun f s1 q=>?_);cases f with
 | next=>
  obtain⟨σ',H',I',q⟩:=q;exact h2 pins s1 σ' H' D I' q
 | ret v=>exact q
 | brk=>exact q
 | cont=>exact q
theorem ai (h1:PS X st t):PSs X [st] t:=by
 intro pins s σ H D I h;refine wpAny_execs_cons (thn (h1 pins s σ H D I h) fun f s1 q=>?_);cases f with
 | next=>exact wpAny_execs_nil q
 | ret v=>exact q
 | brk=>exact q
 | cont=>exact q
theorem Inv.quiet {pins:List (Addr×Obj)}{σ:St}{H:Hp}{s:Shared}(I:Inv X pins σ H s):interactive X.env=false:=by simp[interactive,I.ok.kind]
def ani (te:TE):TS:=fun D σ H=>te σ H fun _ H1=>D.nx σ H1
theorem dZ (he:PE X e te) (hs:swapsWith e none pos.line X.env=pure false:=by rfl):PS X (.Expr e pos) (ani te):=by
 intro pins s σ H D I h;exact wpAny_Expr_any (thn (he pins s σ H _ I h) fun v s1 ⟨x,H1,I1,r1,q1⟩=>⟨σ,H1,I1,q1⟩) I.quiet hs
def ajW (te:TE):TS:=fun D σ H=>te σ H D.rt
theorem ak (he:PE X e te):PS X (.Return (some e) pos) (ajW te):=by
 intro pins s σ H D I h;exact wpAny_Return_some (thn (he pins s σ H _ I h) fun v s1 ⟨x,H1,I1,r1,q1⟩=>⟨x,σ,H1,I1,r1,q1⟩)
def amy (c:TT) (t u:TS):TS:=fun D σ H=>c σ H fun b H1=>if b=true then t D σ H1 else u D σ H1
theorem aY {c:Expr}{a b:List Stmt}{tc:TT}(hc:PT X c tc) (ha:PSs X a t) (hb:PSs X b u):PS X (.If c a b pos) (amy tc t u):=by
 intro pins s σ H D I h;refine wpAny_If (thn (hc pins s σ H _ I h) fun d s1 ⟨H1,I1,q1⟩=>?_);cases d with
 | true=>exact ha pins s1 σ H1 D I1 q1
 | false=>exact hb pins s1 σ H1 D I1 q1
end
abbrev TG:=V→St→Hp→(St→Hp→Prop)→Prop
abbrev TGs:=List V→St→Hp→(St→Hp→Prop)→Prop
def PG (X:Cx) (target:Expr) (t:TG):Prop:=
 ∀ (pins:List (Addr×Obj)) (s:Shared) (σ:St) (H:Hp) (v:V) (u:Value) (Q:St→Hp→Prop),Inv X pins σ H s→RelV v u→t v σ H Q →
  wpAny (model X.prog X.w) X.A (assign target X.env u) (fun _ s'=>∃ σ' H',Inv X pins σ' H' s'∧Q σ' H') X.xe s
def PGs (X:Cx) (ts:List Expr) (t:TGs):Prop:=
 ∀ (pins:List (Addr×Obj)) (s:Shared) (σ:St) (H:Hp) (vs:List V) (us:List Value) (Q:St→Hp→Prop),Inv X pins σ H s→Vals vs us→t vs σ H Q →
  wpAny (model X.prog X.w) X.A (assignInOrder ((assignEach ts X.env).map (·.2)) us) (fun _ s'=>∃ σ' H',Inv X pins σ' H' s'∧Q σ' H') X.xe s
abbrev ai1:=V→V→V→Hp→(Hp→Prop)→Prop
def alo (X:Cx) (t:ai1):Prop:=
 ∀ (pins:List (Addr×Obj)) (s:Shared) (σ:St) (H:Hp) (o i v:V) (ov iv u:Value) (Q:Hp→Prop),Inv X pins σ H s→RelV o ov→RelV i iv→RelV v u→t o i v H Q →
  wpAny (model X.prog X.w) X.A (setItem ov iv u) (fun _ s'=>∃ H',Inv X pins σ H' s'∧Q H') X.xe s
abbrev TIp:=V→V→Hp→VK→Prop
def PIp (X:Cx) (op:Operator) (t:TIp):Prop:=
 ∀ (pins:List (Addr×Obj)) (s:Shared) (σ:St) (H:Hp) (x y:V) (v u:Value) (Q:VK),Inv X pins σ H s→RelV x v→RelV y u→t x y H Q →
  wpAny (model X.prog X.w) X.A (inplaceOp op v u) (EP X pins σ Q) X.xe s
section
variable {X:Cx}{pos:Pos}
def cH (i:Nat):TG:=fun v σ H Q=>Q (σ.set i (some v)) H
theorem aZ {i:Nat}{x:Str}(hN:X.N.Nodup) (hi:X.N[i]?=some x) (hx:Loc X.env.scope x) (hf:X.fn x=true∨X.env.scope.names.lookup x=some .local:=by first|exact .inl rfl|exact .inr rfl|assumption):PG X (.Name x pos) (cH i):=by
 intro pins s σ H v u Q I r h;exact wpAny_assign_Name (aaL I hN hi hx r (fun s' I'=>⟨_,H,I',h⟩) hf)
def alD:TGs:=fun vs σ H Q=>vs = []∧Q σ H
def agJ (t:TG) (u:TGs):TGs:=fun vs σ H Q=>∃ v r,vs=v::r∧t v σ H fun σ' H'=>u r σ' H' Q
theorem y2:PGs X [] alD:=by
 intro pins s σ H vs us Q I r h;obtain⟨e,h⟩:=h;subst e;cases r;exact assignInOrder_nil ⟨σ,H,I,h⟩
theorem jE {e:Expr}{es:List Expr}{t:TG}{u:TGs}(h1:PG X e t) (h2:PGs X es u)
  (hs:(assignEach (e::es) X.env).map (·.2)=assign e X.env::(assignEach es X.env).map (·.2):=by rfl):PGs X (e::es) (agJ t u):=by
 intro pins s σ H vs us Q I r h;obtain⟨v,vr,e1,h⟩:=h;subst e1;cases r with
 | cons r rr=>
  rw[hs];refine assignInOrder_cons (thn (h1 pins s σ H _ _ _ I r h) fun _ s1 ⟨σ1,H1,I1,q1⟩=>?_);exact h2 pins s1 σ1 H1 _ _ Q I1 rr q1
def alE (K:PySem.W.Frag) (n:Nat) (t:TGs):TG:=fun v σ H Q=>∃ a xs,v = .ref a∧SqT K H a xs∧xs.length=n∧t xs σ H Q
theorem abz {es:List Expr}{k:Nat}{t:TGs}{n:Nat}(hc:X.calm=true) (h:PGs X es t)
  (hn:(assignEach es X.env).length=n:=by rfl) (hst:(assignEach es X.env).findIdx? (·.1)=none:=by rfl):PG X (.Tuple es k pos) (alE X.K n t):=by
 intro pins s σ H v u Q I r hw;obtain⟨a,xs,e1,hq,hl,hw⟩:=hw;subst e1;cases r;obtain⟨its,rv,ht,hz⟩:=I.tuple hq;refine assign_Tuple_tuple (I.ok.hd hc) ht (by simp[hn,← hl,rv.length]) hst fun h' hx=>?_;have I1:Inv X pins σ H { s with heap:=h' }:=I.kept (t':=s.toks) fun b o e=>hx b o (Nat.ne_of_lt (Heap.lt_size e)) e;exact h pins _ σ H xs _ Q I1 (by simpa using rv) hw
def anx (to ti:TE) (t:ai1):TG:=fun v σ H Q=>to σ H fun o H1=>ti σ H1 fun i H2=>t o i v H2 fun H3=>Q σ H3
theorem aio {o i:Expr}{to ti:TE}{t:ai1}(ho:PE X o to) (hi:PE X i ti) (hs:alo X t)
  (ha:∀ v,assign (.Subscript o i pos) X.env v=(do
   let ov ← holding [v] (eval o X.env)
   let iv ← holding [v,ov] (eval i X.env)
   standAt pos
   holding [v,ov,iv] (setItem ov iv v)
   release [v,ov,iv] []):=by intro _;rfl):PG X (.Subscript o i pos) (anx to ti t):=by
 intro pins s σ H v u Q I r h;rw[ha];refine wpAny_bind (wpAny_holding (thn (ho pins s σ H _ I h) fun ov s1 ⟨x,H1,I1,r1,q1⟩=>?_));refine wpAny_bind (wpAny_holding (thn (hi pins s1 σ H1 _ I1 q1) fun iv s2 ⟨y,H2,I2,r2,q2⟩=>?_));refine wpAny_bind (wpAny_standAt (wpAny_bind (wpAny_holding (thn (hs pins s2 σ H2 x y v ov iv u _ I2 r1 r2 r q2) fun _ s3 ⟨H3,I3,q3⟩=>?_))));exact wpAny_release ⟨σ,H3,I3,q3⟩
def afa (te:TE) (g:TG):TS:=fun D σ H=>te σ H fun x H1=>g x σ H1 D.nx
theorem aiq {tg e:Expr}{te:TE}{g:TG}(he:PE X e te) (hg:PG X tg g) (hs:swapsWithSole [tg] e pos.line X.env=pure false:=by rfl) (hw:swappedStores [tg] e X.env=pure none:=by rfl)
  (h1:(assignEach [tg] X.env).map (·.2) = [assign tg X.env]:=by rfl):PS X (.Assign [tg] e pos) (afa te g):=by
 intro pins s σ H D I h;refine wpAny_Assign_stores (thn (he pins s σ H _ I h) fun v s1 ⟨x,H1,I1,r1,q1⟩=>?_) hs hw;rw[h1];exact thn (hg pins s1 σ H1 x v _ I1 r1 q1) fun _ s2 q=>q
theorem aJ {i:Nat}{x:Str}{e:Expr}{te:TE}{pos':Pos}(hN:X.N.Nodup) (hi:X.N[i]?=some x) (hx:Loc X.env.scope x) (he:PE X e te) (hs:swapsWith e (some (.Name x pos')) pos.line X.env=pure false:=by rfl) (hf:X.fn x=true∨X.env.scope.names.lookup x=some .local:=by first|exact .inl rfl|exact .inr rfl|assumption) :
  PS X (.Assign [.Name x pos'] e pos) (afa te (cH i)):=by
 intro pins s σ H D I h;refine wpAny_Assign_Name (thn (he pins s σ H _ I h) fun v s1 ⟨y,H1,I1,r1,q1⟩=>?_) hs;exact aaL I1 hN hi hx r1 (fun s2 I2=>⟨_,H1,I2,q1⟩) hf
def anS (i:Nat) (te:TE) (ti:TIp):TS:=fun D σ H=>∃ x,σ[i]?=some (some x)∧te σ H fun y H1=>ti x y H1 fun z H2=>D.nx (σ.set i (some z)) H2
theorem air {i:Nat}{x:Str}{e:Expr}{te:TE}{op:Operator}{ti:TIp}{pos':Pos}(hN:X.N.Nodup) (hi:X.N[i]?=some x) (hx:Loc X.env.scope x) (he:PE X e te) (ho:PIp X op ti) (hf:X.fn x=true∨X.env.scope.names.lookup x=some .local:=by first|exact .inl rfl|exact .inr rfl|assumption) :
  PS X (.AugAssign (.Name x pos') op e pos) (anS i te ti):=by
 intro pins s σ H D I h;obtain⟨v,e1,h⟩:=h;obtain⟨m,hn,hl⟩:=I.loc;have vis:Vis X.env.scope x:=by rcases hx with k|k;exact .inl k;exact .inr (.inl k)
 obtain⟨u,r,l⟩:=hl i x v hi e1 vis;refine wpAny_AugAssign_Name ?_;have go:wpAny (model X.prog X.w) X.A (eval e X.env) (fun w s₂=>wpAny (model X.prog X.w) X.A (inplaceOp op u w) (fun r s₃=>wpAny (model X.prog X.w) X.A (storeName X.env x r) (fun _=>SP X pins D .next) X.xe s₃) X.xe s₂) X.xe s:=by
  refine thn (he pins s σ H _ I h) fun w s1 ⟨y,H1,I1,r1,q1⟩=>?_;refine thn (ho pins s1 σ H1 v y u w _ I1 r r1 q1) fun z s2 ⟨zv,H2,I2,r2,q2⟩=>?_;exact aaL I2 hN hi hx r2 (fun s3 I3=>⟨_,H2,I3,q2⟩) hf
 rcases l with⟨hk,hm⟩|⟨hk,c,hc,hcell⟩
 ·exact wpAny_loadName_local I.ok.kind hk hn hm go
 ·rcases hk with hk|hk
  ·exact wpAny_loadName_cell I.ok.kind hk hc hcell go
  ·rcases hx with k|k
   ·have:X.env.scope.names.lookup x=some .free:=hk;rw[k] at this;cases this
   ·have:X.env.scope.names.lookup x=some .free:=hk;rw[k] at this;cases this
def ipI (f:Int→Int→Int):TIp:=fun x y H Q=>∃ i j,x = .int i∧y = .int j∧Q (.int (f i j)) H
theorem alL:PIp X .Add (ipI fun i j=>i+j):=by
 intro pins s σ H x y v u Q I r1 r2 h;obtain⟨i,j,e1,e2,q⟩:=h;subst e1;subst e2;obtain⟨t,rfl⟩:=r1;obtain⟨t',rfl⟩:=r2;exact iadd_int ⟨.int _,H,I.tok _,⟨_,rfl⟩,q⟩
theorem alM:PIp X .Sub (ipI fun i j=>i-j):=by
 intro pins s σ H x y v u Q I r1 r2 h;obtain⟨i,j,e1,e2,q⟩:=h;subst e1;subst e2;obtain⟨t,rfl⟩:=r1;obtain⟨t',rfl⟩:=r2;exact isub_int ⟨.int _,H,I.tok _,⟨_,rfl⟩,q⟩
def amD (c:TT) (tb:TS):TS:=fun D σ H=>∃ W:Nat→St→Hp→Prop,(∃ m,W m σ H)∧∀ m σ H,W m σ H →
 c σ H fun b H1=>if b=true then ∃ N:St→Hp→Prop,(∀ σ' H',N σ' H'→∃ m',m'<m∧W m' σ' H')∧tb { D with nx:=N,ct:=N,bk:=D.nx } σ H1 else D.nx σ H1
theorem k3 {c:Expr}{body:List Stmt}{tc:TT}{tb:TS}(hp:PassesOwn (model X.prog X.w) X.A X.env X.xe) (hc:PT X c tc) (hb:PSs X body tb):PS X (.While c body [] pos) (amD tc tb):=by
 intro pins s σ H D I h;obtain⟨W,⟨m0,w0⟩,turn⟩:=h;refine wpAny_While (codeAny_whileLoop (fun n s'=>∃ σ' H',Inv X pins σ' H' s'∧W n σ' H') ?_ m0 ⟨σ,H,I,w0⟩);rintro n s1 ⟨σ1,H1,I1,w1⟩;refine wpAny_passesOwn hp (thn (hc pins s1 σ1 H1 _ I1 (turn n σ1 H1 w1)) fun b s2 ⟨H2,I2,q2⟩=>?_);cases b with
 | true=>
  obtain⟨N,hN,q2⟩:=q2;rw[if_pos rfl];refine wpAny_passesOwn hp (thn (hb pins s2 σ1 H2 _ I2 q2) fun f s3 q3=>?_);cases f with
  | next=>
   obtain⟨σ3,H3,I3,n3⟩:=q3;obtain⟨m',hm,w3⟩:=hN σ3 H3 n3;exact⟨m',hm,σ3,H3,I3,w3⟩
  | cont=>
   obtain⟨σ3,H3,I3,n3⟩:=q3;obtain⟨m',hm,w3⟩:=hN σ3 H3 n3;exact⟨m',hm,σ3,H3,I3,w3⟩
  | brk=>exact q3
  | ret v=>exact q3
 | false=>
  rw[if_neg Bool.false_ne_true];exact wpAny_execs_nil ⟨σ1,H2,I2,q2⟩
end
structure It where
 go:Nat→Hp→Prop
 yld:Nat→Hp→V→Hp→Prop
 stop:Nat→Hp→Prop
def qv (X:Cx) (pins:List (Addr×Obj)) (H:Hp) (b:Addr):Prop:=
 H b=none∧b≠X.env.locals∧b ∉ X.fs∧(b∈X.ex∨X.s_0.heap.objs.size≤b)∧(∀ x c,X.env.cells.lookup x=some c→c≠b)∧∀ p∈X.pn++pins,p.1≠b
theorem Inv.ab5 {X:Cx}{pins:List (Addr×Obj)}{σ:St}{H H':Hp}{s:Shared}{b:Addr}(I:Inv X pins σ H s) (hb:s.heap.objs.size≤b) (hn:H' b=none):qv X pins H' b:=by
 refine⟨hn,Nat.ne_of_gt (Nat.lt_of_lt_of_le I.lt hb),I.anD hb,.inr (Nat.le_trans I.sz hb),fun x c e z=>?_,fun p hp z=>?_⟩
 ·obtain⟨v,q⟩:=I.cell x c e;exact absurd (Nat.lt_of_lt_of_le q.lt (by rw[z];exact hb)) (Nat.lt_irrefl _)
 ·exact absurd (Nat.lt_of_lt_of_le (Heap.lt_size (I.pin p hp).1) (by rw[z];exact hb)) (Nat.lt_irrefl _)
structure Turn (P:Program) (w:World) (K:PySem.W.Frag) (tg:Expr) (J:It) (fp:List Addr) (it:Addr) (tn:Nat→Heap→Prop):Prop where
 mem:it∈fp
 obj:∀ i h,tn i h→∀ b∈fp,∃ o,h.get? b=some o∧∀ v,o.data≠.cell v
 keep:∀ i h h',tn i h→(∀ b∈fp,∀ o,h.get? b=some o→h'.get? b=some o)→tn i h'
 item:∀ (X:Cx),X.prog=P→X.w=w→X.K=K→X.calm=true→∀ (i:Nat) (pins:List (Addr×Obj)) (s:Shared) (σ:St) (H:Hp) (E:Value→Shared→Prop),Inv X pins σ H s→(∀ b∈fp,qv X pins H b)→tn i s.heap→J.go i H →
  wpAny (model P w) X.A (pyNext (.ref it)) (fun r s1=>∃ u,r=some u ∧
   wpAny (model P w) X.A (letOwnedTupleGo tg (.ref it) u) (fun _ s2=>∃ x H',Inv X pins σ H' s2∧RelV x u∧J.yld i H x H'∧tn (i+1) s2.heap∧∀ b∈fp,H' b=none) E s1) E s
 done:∀ (X:Cx),X.prog=P→X.w=w→X.K=K→X.calm=true→∀ (i:Nat) (pins:List (Addr×Obj)) (s:Shared) (σ:St) (H:Hp) (E:Value→Shared→Prop),Inv X pins σ H s→(∀ b∈fp,qv X pins H b)→tn i s.heap→J.stop i H →
  wpAny (model P w) X.A (pyNext (.ref it)) (fun r s1=>r=none∧Inv X pins σ H s1) E s
 self:∀ (A:Around) (i:Nat) (s:Shared) (Q:Value→Shared→Prop) (E:Value→Shared→Prop),tn i s.heap→Q (.ref it) s→wpAny (model P w) A (pyIter (.ref it)) Q E s
abbrev TI:=St→Hp→(It→Hp→Prop)→Prop
def PIE (X:Cx) (pins:List (Addr×Obj)) (σ:St) (tg:Expr) (R:It→Hp→Prop) (itv:Value) (s2:Shared):Prop:=
 ∃ (it:Addr) (fp:List Addr) (tn:Nat→Heap→Prop) (J:It) (H':Hp),itv = .ref it∧Inv X pins σ H' s2∧Turn X.prog X.w X.K tg J fp it tn∧tn 0 s2.heap∧(∀ b∈fp,qv X pins H' b)∧R J H'
def PI (X:Cx) (tg iter:Expr) (wi:TI):Prop:=
 ∀ (pins:List (Addr×Obj)) (s:Shared) (σ:St) (H:Hp) (R:It→Hp→Prop),Inv X pins σ H s→wi σ H R →
  wpAny (model X.prog X.w) X.A (eval iter X.env) (fun v s1=>wpAny (model X.prog X.w) X.A (pyIter v) (PIE X pins σ tg R) X.xe s1) X.xe s
theorem vt {M:Model}{A:Around}{E:Value→Shared→Prop}{s:Shared}{tg:Expr}{it:Addr}{u:Value}{o:Obj}{n:String}{vs:Array Value}{Q:Unit→Shared→Prop}(ho:s.heap.get? it=some o) (hc:o.cls = .type n) (hd:o.data = .fields vs)
  (hn:["enumerate", "zip", "dict_itemiterator", "dict_reverseitemiterator", "odict_iterator", "itertools.zip_longest", "itertools.pairwise"].contains n=false) (hQ:Q () s):wpAny M A (letOwnedTupleGo tg (.ref it) u) Q E s:=by
 unfold letOwnedTupleGo;cases tg <;> first
  | exact wpAny_pure hQ
  | (cases u <;> first
    | exact wpAny_pure hQ
    | (refine wpAny_bind (wpAny_load ho ?_);rw[hc,hd];show wpAny M A (if(["enumerate", "zip", "dict_itemiterator", "dict_reverseitemiterator", "odict_iterator", "itertools.zip_longest", "itertools.pairwise"].contains n&&vs[0]? == some (rawInt _))=true then _ else _) Q E s;rw[if_neg (by intro h;rw[hn,Bool.false_and] at h;cases h)];exact wpAny_pure hQ))
def Itl (K:PySem.W.Frag) (a:Addr):It:=
 ⟨fun i H=>∃ xs x,SqL K H a xs∧xs[i]?=some x,fun i H x H'=>H'=H∧∀ xs,SqL K H a xs→xs[i]?=some x,fun i H=>∃ xs,SqL K H a xs∧xs.length≤i⟩
def Itt (K:PySem.W.Frag) (a:Addr):It:=
 ⟨fun i H=>∃ xs x,SqT K H a xs∧xs[i]?=some x,fun i H x H'=>H'=H∧∀ xs,SqT K H a xs→xs[i]?=some x,fun i H=>∃ xs,SqT K H a xs∧xs.length≤i⟩
def Itr (lo:Int) (n:Nat):It:=⟨fun i _=>i<n,fun i H x H'=>H'=H∧x = .int (lo+i),fun i _=>n≤i⟩
theorem aiP {P:Program}{w:World}{K:PySem.W.Frag}{tg:Expr}(a it:Addr):Turn P w K tg (Itl K a) [it] it (fun i h=>h.IsListIter it a i) where
 mem:=by simp
 obj:=fun i h st b hb=>by
  have e:b=it:=by simpa using hb
  subst e;obtain⟨o,e,c,d⟩:=st;exact⟨o,e,fun v z=>by rw[d] at z;cases z⟩
 keep:=fun i h h' st k=>st.at fun o e=>k it (by simp) o e
 item:=by
  intro X hP hw hK hc i pins s σ H E I hf st hg;subst hP hw hK;obtain⟨xs,x,hq,hx⟩:=hg;obtain⟨its,rv,p,hz⟩:=I.list hq;obtain⟨u,hu,ru⟩:=rv.get hx;obtain⟨f0,f1,f2,f3,f4,f5⟩:=hf it (by simp);refine wpAny_pyNext_list_item st p.isList (x:=u) (by simpa using hu) fun h' st' sb=>?_;have I1:Inv X pins σ H { s with heap:=h' }:=I.turned (t':=s.toks) (fun b o hb e=>(sb.2 b hb).trans e) f0 f1 f3 f4 f5;obtain⟨o,e,c,d⟩:=id st';exact⟨u,rfl,vt (s:={ s with heap:=h' }) e c d (by decide) ⟨x,H,I1,ru,⟨rfl,fun ys hy=>by rw[I.aac hy hq];exact hx⟩,st',fun b hb=>(hf b hb).1⟩⟩
 done:=by
  intro X hP hw hK hc i pins s σ H E I hf st hg;subst hP hw hK;obtain⟨xs,hq,hx⟩:=hg;obtain⟨its,rv,p,hz⟩:=I.list hq;obtain⟨f0,f1,f2,f3,f4,f5⟩:=hf it (by simp);have hl:=rv.length;exact wpAny_pyNext_list_end (I.ok.hd hc) st p.isList (by simp;omega) fun h' eb=>⟨rfl,I.turned (t':=s.toks) (fun b o hb e=>eb b o hb e) f0 f1 f3 f4 f5⟩
 self:=fun _ _ _ _ _ st h=>wpAny_pyIter_listiter st h
theorem aht {P:Program}{w:World}{K:PySem.W.Frag}{tg:Expr}(a it:Addr):Turn P w K tg (Itt K a) [it] it (fun i h=>h.IsTupleIter it a i) where
 mem:=by simp
 obj:=fun i h st b hb=>by
  have e:b=it:=by simpa using hb
  subst e;obtain⟨o,e,c,d⟩:=st;exact⟨o,e,fun v z=>by rw[d] at z;cases z⟩
 keep:=fun i h h' st k=>st.at fun o e=>k it (by simp) o e
 item:=by
  intro X hP hw hK hc i pins s σ H E I hf st hg;subst hP hw hK;obtain⟨xs,x,hq,hx⟩:=hg;obtain⟨its,rv,p,hz⟩:=I.tuple hq;obtain⟨u,hu,ru⟩:=rv.get hx;obtain⟨f0,f1,f2,f3,f4,f5⟩:=hf it (by simp);refine wpAny_pyNext_tuple_item st (show s.heap.IsTuple a its.toArray from p) (x:=u) (by simpa using hu) fun h' st' sb=>?_;have I1:Inv X pins σ H { s with heap:=h' }:=I.turned (t':=s.toks) (fun b o hb e=>(sb.2 b hb).trans e) f0 f1 f3 f4 f5;obtain⟨o,e,c,d⟩:=id st';exact⟨u,rfl,vt (s:={ s with heap:=h' }) e c d (by decide) ⟨x,H,I1,ru,⟨rfl,fun ys hy=>by rw[I.aiM hy hq];exact hx⟩,st',fun b hb=>(hf b hb).1⟩⟩
 done:=by
  intro X hP hw hK hc i pins s σ H E I hf st hg;subst hP hw hK;obtain⟨xs,hq,hx⟩:=hg;obtain⟨its,rv,p,hz⟩:=I.tuple hq;obtain⟨f0,f1,f2,f3,f4,f5⟩:=hf it (by simp);have hl:=rv.length;exact wpAny_pyNext_tuple_end (I.ok.hd hc) st (show s.heap.IsTuple a its.toArray from p) (by simp;omega) fun h' eb=>⟨rfl,I.turned (t':=s.toks) (fun b o hb e=>eb b o hb e) f0 f1 f3 f4 f5⟩
 self:=fun _ _ _ _ _ st h=>wpAny_pyIter_tupleiter st h
theorem ahs {P:Program}{w:World}{K:PySem.W.Frag}{tg:Expr}(it:Addr) (lo:Int) (n:Nat):Turn P w K tg (Itr lo n) [it] it (fun i h=>IsRangeIter h it (lo+(i:Nat)*1) ((n:Int)-(i:Nat)) 1) where
 mem:=by simp
 obj:=fun i h st b hb=>by
  have e:b=it:=by simpa using hb
  subst e;exact⟨_,st,fun v z=>by
   have z':Data.fields _=Data.cell v:=z;cases z'⟩
 keep:=fun i h h' st k=>k it (by simp) _ st
 item:=by
  intro X hP hw hK hc i pins s σ H E I hf st hg;subst hP hw hK;obtain⟨f0,f1,f2,f3,f4,f5⟩:=hf it (by simp);have W:=Walks.range (prog:=X.prog) (w:=X.w) (I.ok.hd hc) it lo 1 n;refine W.item i s _ _ hg st fun v h' tk hv st' kk=>?_;obtain⟨t,rfl⟩:=hv;have I1:Inv X pins σ H { s with heap:=h',toks:=tk }:=I.turned (fun b o hb e=>kk b o (by simpa using hb) e) f0 f1 f3 f4 f5;refine⟨_,rfl,vt (s:={ s with heap:=h',toks:=tk }) (n:="range_iterator") st' rfl rfl (by decide) ⟨.int (lo+i),H,I1,⟨t,?_⟩,⟨rfl,rfl⟩,st',fun b hb=>(hf b hb).1⟩⟩;rw[Int.mul_one]
 done:=by
  intro X hP hw hK hc i pins s σ H E I hf st hg;subst hP hw hK;obtain⟨f0,f1,f2,f3,f4,f5⟩:=hf it (by simp);exact wpAny_pyNext_range_end (I.ok.hd hc) st (by have:n≤i:=hg;omega) fun h' eb=>⟨rfl,I.turned (t':=s.toks) (fun b o hb e=>eb b o hb e) f0 f1 f3 f4 f5⟩
 self:=fun _ _ _ _ _ st h=>wpAny_pyIter_rangeiter st h
section
variable {X:Cx}{tg:Expr}
def am3 (K:PySem.W.Frag) (tl:TE):TI:=fun σ H R=>tl σ H fun x H1=>∃ a,x = .ref a∧(∃ xs,SqL K H1 a xs)∧R (Itl K a) H1
def anA (K:PySem.W.Frag) (tl:TE):TI:=fun σ H R=>tl σ H fun x H1=>∃ a,x = .ref a∧(∃ xs,SqT K H1 a xs)∧R (Itt K a) H1
theorem cx {l:Expr}{tl:TE}(hl:PE X l tl):PI X tg l (am3 X.K tl):=by
 intro pins s σ H R I h;refine thn (hl pins s σ H _ I h) fun v s1 ⟨x,H1,I1,r1,q1⟩=>?_;obtain⟨a,e,⟨xs,hq⟩,q⟩:=q1;subst e;cases r1;obtain⟨its,rv,p,hz⟩:=I1.list hq;refine wpAny_pyIter_list p.isList ?_;refine⟨s1.heap.objs.size,[s1.heap.objs.size],_,_,H1,rfl,I1.kept (t':=s1.toks) fun b o e=>Heap.get?_push_of_some _ e,aiP a _,⟨_,Heap.get?_push_size _ rfl,rfl,rfl⟩,fun b hb=>?_,q⟩;have e:b=s1.heap.objs.size:=by simpa using hb
 subst e;exact I1.ab5 (Nat.le_refl _) (I1.hok.fresh (Nat.le_refl _))
theorem al2 {l:Expr}{tl:TE}(hl:PE X l tl):PI X tg l (anA X.K tl):=by
 intro pins s σ H R I h;refine thn (hl pins s σ H _ I h) fun v s1 ⟨x,H1,I1,r1,q1⟩=>?_;obtain⟨a,e,⟨xs,hq⟩,q⟩:=q1;subst e;cases r1;obtain⟨its,rv,p,hz⟩:=I1.tuple hq;refine wpAny_pyIter_tuple (show s1.heap.IsTuple a its.toArray from p) ?_;refine⟨s1.heap.objs.size,[s1.heap.objs.size],_,_,H1,rfl,I1.kept (t':=s1.toks) fun b o e=>Heap.get?_push_of_some _ e,aht a _,⟨_,Heap.get?_push_size _ rfl,rfl,rfl⟩,fun b hb=>?_,q⟩;have e:b=s1.heap.objs.size:=by simpa using hb
 subst e;exact I1.ab5 (Nat.le_refl _) (I1.hok.fresh (Nat.le_refl _))
theorem ajz {pins:List (Addr×Obj)}{σ:St}{H:Hp}{s:Shared}{R:It→Hp→Prop}{E:Value→Shared→Prop}{lo hi:Int}{t u v:Tok}{tk:Nat}(I:Inv X pins σ H s) (h1:-(2 ^ 62)≤lo) (h2:lo<2 ^ 62) (h3:-(2 ^ 62)≤hi) (h4:hi<2 ^ 62)
  (q:R (Itr lo (hi-lo).toNat) H):wpAny (model X.prog X.w) X.A (pyIter (.ref s.heap.objs.size)) (PIE X pins σ tg R) E { s with heap:=s.heap.push { cls:=.type "range",data:=.fields #[.int lo t,.int hi u,.int 1 v] },toks:=tk }:=by
 refine wpAny_pyIter_range (IsRange.new ..) (small_one h1 h2 h3 h4) ?_;have I1:Inv X pins σ H { s with heap:=s.heap.push { cls:=.type "range",data:=.fields #[.int lo t,.int hi u,.int 1 v] },toks:=tk }:=I.kept fun b o e=>Heap.get?_push_of_some _ e;refine⟨(s.heap.push { cls:=.type "range",data:=.fields #[.int lo t,.int hi u,.int 1 v] }).objs.size,[(s.heap.push { cls:=.type "range",data:=.fields #[.int lo t,.int hi u,.int 1 v] }).objs.size],_,_,H,rfl,
  I1.kept (t':=tk) fun b o e=>Heap.get?_push_of_some _ e,ahs _ lo (hi-lo).toNat,?_,fun b hb=>?_,q⟩
 ·have e1:lo+((0:Nat):Int)*1=lo:=by simp
  have e2:(((hi-lo).toNat:Nat):Int)-((0:Nat):Int)=Builtin.Range.rangeSize lo hi 1:=by rw[rangeSize_one];split <;> omega
  show IsRangeIter _ _ (lo+((0:Nat):Int)*1) ((((hi-lo).toNat:Nat):Int)-((0:Nat):Int)) 1;rw[e1,e2];exact Heap.get?_push_size _ rfl
 ·have e:b=(s.heap.push { cls:=.type "range",data:=.fields #[.int lo t,.int hi u,.int 1 v] }).objs.size:=by simpa using hb
  subst e;exact I1.ab5 (Nat.le_refl _) (I1.hok.fresh (Nat.le_refl _))
def am4 (ta:TA):TI:=fun σ H R=>ta σ H fun vs H1=>∃ j:Int,vs = [.int j]∧-(2 ^ 62)≤j∧j<2 ^ 62∧R (Itr 0 j.toNat) H1
theorem sy {a:Expr}{ta:TA}{p pos:Pos}(hg:Gl X "range") (hm:X.mg "range" = none) (ha:PA X [a] ta) (hs:starEach [a] X.env = [(false,eval a X.env)]:=by rfl):PI X tg (.Call (.Name "range" p) [a] [] pos) (am4 ta):=by
 intro pins s σ H R I h;refine Call_ (ua I hg hm boot_range (PyProof.Rows.callWith_type1 (thn (ha pos pins s σ H _ I h) fun us s1 ⟨vs,H1,I1,r1,q1⟩=>?_) hs rfl));obtain⟨j,e,q1,q2,q⟩:=q1;subst e;cases r1 with
 | cons r rr=>
  cases rr;obtain⟨t,rfl⟩:=r;exact call_range_1 (ajz I1 (by omega) (by omega) q1 q2 (by simpa using q))
def afb (wi:TI) (g:TG) (tb:TS):TS:=fun D σ H=>wi σ H fun J H1=>∃ W:Nat→Nat→St→Hp→Prop,(∃ m,W 0 m σ H1)∧∀ i m σ H,W i m σ H →
 (J.stop i H∧D.nx σ H)∨(J.go i H∧∃ N:St→Hp→Prop,(∀ σ' H',N σ' H'→∃ m',m'<m∧W (i+1) m' σ' H')∧∀ x H',J.yld i H x H'→g x σ H' fun σ2 H2=>tb { D with nx:=N,ct:=N,bk:=D.nx } σ2 H2)
def yp (fp:List Addr) (h:Heap):List (Addr×Obj):=fp.filterMap fun b=>(h.get? b).map fun o=>(b,o)
theorem vA {fp:List Addr}{h:Heap}{b:Addr}{o:Obj}(hb:b∈fp) (e:h.get? b=some o):(b,o)∈yp fp h:=List.mem_filterMap.mpr ⟨b,hb,by rw[e];rfl⟩
theorem aif {fp:List Addr}{h:Heap}{p:Addr×Obj}(hp:p∈yp fp h):p.1∈fp∧h.get? p.1=some p.2:=by
 obtain⟨b,hb,e⟩:=List.mem_filterMap.mp hp;cases q:h.get? b with
 | none=>rw[q] at e;cases e
 | some o=>
  rw[q] at e;have e':(b,o)=p:=Option.some.inj e;subst e';exact⟨hb,q⟩
theorem Inv.pinned {pins:List (Addr×Obj)}{σ:St}{H:Hp}{s:Shared}{fp:List Addr}(I:Inv X pins σ H s) (hf:∀ b∈fp,qv X pins H b) (ho:∀ b∈fp,∃ o,s.heap.get? b=some o∧∀ v,o.data≠.cell v):Inv X (pins++yp fp s.heap) σ H s:=
 I.agf fun p hp=>(List.mem_append.mp hp).elim (fun z=>I.pin p (List.mem_append_right _ z)) fun z=>by
  obtain⟨hb,e⟩:=aif z;obtain⟨f0,f1,f2,_⟩:=hf p.1 hb;obtain⟨o,e',d⟩:=ho p.1 hb;rw[e] at e';cases e';exact⟨e,f0,f1,f2,d⟩
theorem Inv.wt {pins pl:List (Addr×Obj)}{σ:St}{H:Hp}{s:Shared}(I:Inv X (pins++pl) σ H s):Inv X pins σ H s:=I.agf fun p hp=>I.pin p (List.mem_append_right _ (List.mem_append_left _ hp))
theorem fZ {iter:Expr}{body:List Stmt}{wi:TI}{g:TG}{tb:TS}{pos:Pos}(hp:PassesOwn (model X.prog X.w) X.A X.env X.xe) (hc:X.calm=true) (hi:PI X tg iter wi) (hg:PG X tg g) (hb:PSs X body tb)
  (hs:∀ x,foldedSetIterable iter X.env x=pure x:=by intro _;rfl):PS X (.For tg iter body [] pos) (afb wi g tb):=by
 intro pins s σ H D I h;refine wpAny_For (thn (hi pins s σ H _ I h) fun v s1 h1=>thn h1 fun itv s2 h2=>?_) hs;obtain⟨it,fp,tn,J,H2,e,I2,T,st2,f2,W,⟨m0,w0⟩,turn⟩:=h2;subst e;have stat:∀ {H':Hp},(∀ b∈fp,H' b=none)→∀ b∈fp,qv X pins H' b:=fun hn b hb=>⟨hn b hb,(f2 b hb).2⟩;refine codeAny_forLoop_any (fun n s'=>∃ i σ' H',Inv X pins σ' H' s'∧tn i s'.heap∧(∀ b∈fp,H' b=none)∧W i n σ' H') ?_ m0 ⟨0,σ,H2,I2,st2,fun b hb=>(f2 b hb).1,w0⟩;rintro n s3 ⟨i,σ3,H3,I3,st3,fr3,w3⟩;rcases turn i n σ3 H3 w3 with⟨stop,qn⟩|⟨go,N,hN,step⟩
 ·refine wpAny_passesOwn hp (thn (T.done X rfl rfl rfl hc i pins s3 σ3 H3 X.xe I3 (stat fr3) st3 stop) fun r s4 ⟨hr,I4⟩=>?_);subst hr;exact wpAny_execs_nil ⟨σ3,H3,I4,qn⟩
 ·refine wpAny_passesOwn hp (thn (T.item X rfl rfl rfl hc i pins s3 σ3 H3 X.xe I3 (stat fr3) st3 go) fun r s4 ⟨u,hr,h4⟩=>?_);subst hr;refine wpAny_passesOwn hp (thn h4 fun _ s5 ⟨x,H5,I5,r5,y5,st5,fr5⟩=>?_);have I5':=I5.pinned (stat fr5) (T.obj _ _ st5);refine wpAny_passesOwn hp (thn (hg _ s5 σ3 H5 x u _ I5' r5 (step x H5 y5)) fun _ s6 ⟨σ6,H6,I6,q6⟩=>?_);refine wpAny_passesOwn hp (thn (hb _ s6 σ6 H6 _ I6 q6) fun f s7 q7=>?_);have again:∀ {σ7:St} {H7:Hp},Inv X (pins++yp fp s5.heap) σ7 H7 s7→N σ7 H7→∃ m,m<n∧∃ i σ' H',Inv X pins σ' H' s7∧tn i s7.heap∧(∀ b∈fp,H' b=none)∧W i m σ' H':=fun {σ7 H7} I7 n7=>by
   obtain⟨m',hm,w7⟩:=hN σ7 H7 n7;refine⟨m',hm,i+1,σ7,H7,I7.wt,T.keep _ _ _ st5 fun b hb o e=>(I7.pin (b,o) (List.mem_append_right _ (List.mem_append_right _ (vA hb e)))).1,fun b hb=>?_,w7⟩;obtain⟨o,e,d⟩:=T.obj _ _ st5 b hb;exact(I7.pin (b,o) (List.mem_append_right _ (List.mem_append_right _ (vA hb e)))).2.1
  cases f with
  | next=>obtain⟨σ7,H7,I7,n7⟩:=q7;exact again I7 n7
  | cont=>obtain⟨σ7,H7,I7,n7⟩:=q7;exact again I7 n7
  | brk=>obtain⟨σ7,H7,I7,q7⟩:=q7;exact⟨σ7,H7,I7.wt,q7⟩
  | ret v=>obtain⟨x7,σ7,H7,I7,r7,q7⟩:=q7;exact⟨x7,σ7,H7,I7.wt,r7,q7⟩
end
theorem kU {K:PySem.W.Frag}{a:Addr}{xs:List V}{g:TG}{tb:TS}{D:Ends}{σ:St}{H:Hp}(Pv:Nat→St→Hp→Prop) (h0:Pv 0 σ H) (hl:∀ i σ H,i≤xs.length→Pv i σ H→SqL K H a xs)
  (hs:∀ i x σ H,xs[i]?=some x→Pv i σ H→g x σ H fun σ2 H2=>tb { D with nx:=Pv (i+1),ct:=Pv (i+1),bk:=D.nx } σ2 H2) (hd:∀ σ H,Pv xs.length σ H→D.nx σ H) :
  ∃ W:Nat→Nat→St→Hp→Prop,(∃ m,W 0 m σ H)∧∀ i m σ H,W i m σ H →
   ((Itl K a).stop i H∧D.nx σ H)∨((Itl K a).go i H∧∃ N:St→Hp→Prop,(∀ σ' H',N σ' H'→∃ m',m'<m∧W (i+1) m' σ' H')∧∀ x H',(Itl K a).yld i H x H'→g x σ H' fun σ2 H2=>tb { D with nx:=N,ct:=N,bk:=D.nx } σ2 H2):=by
 refine⟨fun i m σ H=>m=xs.length-i∧i≤xs.length∧Pv i σ H,⟨xs.length,by simp,Nat.zero_le _,h0⟩,?_⟩;rintro i m σ H ⟨rfl,hi,p⟩;have q:=hl i σ H hi p;by_cases hlt:i<xs.length
 ·refine .inr ⟨⟨xs,xs[i],q,by simp[hlt]⟩,Pv (i+1),fun σ' H' p'=>⟨xs.length-(i+1),by omega,rfl,hlt,p'⟩,fun x H' y=>?_⟩;obtain⟨e,y⟩:=y;subst e;exact hs i x σ _ (y xs q) p
 ·have e:i=xs.length:=by omega
  subst e;exact .inl ⟨⟨xs,q,Nat.le_refl _⟩,hd σ H p⟩
theorem akv {K:PySem.W.Frag}{a:Addr}{xs:List V}{g:TG}{tb:TS}{D:Ends}{σ:St}{H:Hp}(Pv:Nat→St→Hp→Prop) (h0:Pv 0 σ H) (hl:∀ i σ H,i≤xs.length→Pv i σ H→SqT K H a xs)
  (hs:∀ i x σ H,xs[i]?=some x→Pv i σ H→g x σ H fun σ2 H2=>tb { D with nx:=Pv (i+1),ct:=Pv (i+1),bk:=D.nx } σ2 H2) (hd:∀ σ H,Pv xs.length σ H→D.nx σ H) :
  ∃ W:Nat→Nat→St→Hp→Prop,(∃ m,W 0 m σ H)∧∀ i m σ H,W i m σ H →
   ((Itt K a).stop i H∧D.nx σ H)∨((Itt K a).go i H∧∃ N:St→Hp→Prop,(∀ σ' H',N σ' H'→∃ m',m'<m∧W (i+1) m' σ' H')∧∀ x H',(Itt K a).yld i H x H'→g x σ H' fun σ2 H2=>tb { D with nx:=N,ct:=N,bk:=D.nx } σ2 H2):=by
 refine⟨fun i m σ H=>m=xs.length-i∧i≤xs.length∧Pv i σ H,⟨xs.length,by simp,Nat.zero_le _,h0⟩,?_⟩;rintro i m σ H ⟨rfl,hi,p⟩;have q:=hl i σ H hi p;by_cases hlt:i<xs.length
 ·refine .inr ⟨⟨xs,xs[i],q,by simp[hlt]⟩,Pv (i+1),fun σ' H' p'=>⟨xs.length-(i+1),by omega,rfl,hlt,p'⟩,fun x H' y=>?_⟩;obtain⟨e,y⟩:=y;subst e;exact hs i x σ _ (y xs q) p
 ·have e:i=xs.length:=by omega
  subst e;exact .inl ⟨⟨xs,q,Nat.le_refl _⟩,hd σ H p⟩
theorem ahT {lo:Int}{n:Nat}{g:TG}{tb:TS}{D:Ends}{σ:St}{H:Hp}(Pv:Nat→St→Hp→Prop) (h0:Pv 0 σ H)
  (hs:∀ i σ H,i<n→Pv i σ H→g (.int (lo+i)) σ H fun σ2 H2=>tb { D with nx:=Pv (i+1),ct:=Pv (i+1),bk:=D.nx } σ2 H2) (hd:∀ σ H,Pv n σ H→D.nx σ H) :
  ∃ W:Nat→Nat→St→Hp→Prop,(∃ m,W 0 m σ H)∧∀ i m σ H,W i m σ H →
   ((Itr lo n).stop i H∧D.nx σ H)∨((Itr lo n).go i H∧∃ N:St→Hp→Prop,(∀ σ' H',N σ' H'→∃ m',m'<m∧W (i+1) m' σ' H')∧∀ x H',(Itr lo n).yld i H x H'→g x σ H' fun σ2 H2=>tb { D with nx:=N,ct:=N,bk:=D.nx } σ2 H2):=by
 refine⟨fun i m σ H=>m=n-i∧i≤n∧Pv i σ H,⟨n,by simp,Nat.zero_le _,h0⟩,?_⟩;rintro i m σ H ⟨rfl,hi,p⟩;by_cases hlt:i<n
 ·refine .inr ⟨hlt,Pv (i+1),fun σ' H' p'=>⟨n-(i+1),by omega,rfl,hlt,p'⟩,fun x H' y=>?_⟩;obtain⟨e,y⟩:=y;subst e y;exact hs i σ _ hlt p
 ·have e:i=n:=by omega
  subst e;exact .inl ⟨Nat.le_refl _,hd σ H p⟩
abbrev R2:=V→V→Hp→VK→Prop
def OpR (X:Cx) (f:Value→Value→Sem Value) (r:R2):Prop:=
 ∀ (pins:List (Addr×Obj)) (s:Shared) (σ:St) (H:Hp) (x y:V) (v u:Value) (Q:VK),Inv X pins σ H s→RelV x v→RelV y u→r x y H Q →
  wpAny (model X.prog X.w) X.A (f v u) (EP X pins σ Q) X.xe s
def UnR (X:Cx) (f:Value→Sem Value) (r:V→Hp→VK→Prop):Prop:=
 ∀ (pins:List (Addr×Obj)) (s:Shared) (σ:St) (H:Hp) (x:V) (v:Value) (Q:VK),Inv X pins σ H s→RelV x v→r x H Q →
  wpAny (model X.prog X.w) X.A (f v) (EP X pins σ Q) X.xe s
def nW (X:Cx) (f:Value) (r:List V→Hp→VK→Prop):Prop:=
 ∀ (pins:List (Addr×Obj)) (s:Shared) (σ:St) (H:Hp) (xs:List V) (us:List Value) (Q:VK),Inv X pins σ H s→Vals xs us→r xs H Q →
  wpAny (model X.prog X.w) X.A (call f us) (EP X pins σ Q) X.xe s
def ano (X:Cx) (r:V→Hp→(Bool→Hp→Prop)→Prop):Prop:=
 ∀ (pins:List (Addr×Obj)) (s:Shared) (σ:St) (H:Hp) (x:V) (v:Value) (Q:Bool→Hp→Prop),Inv X pins σ H s→RelV x v→r x H Q →
  wpAny (model X.prog X.w) X.A (truthy v) (TP X pins σ Q) X.xe s
def tOp (r:R2) (ta tb:TE):TE:=fun σ H Q=>ta σ H fun x H1=>tb σ H1 fun y H2=>r x y H2 Q
def tUn (r:V→Hp→VK→Prop) (ta:TE):TE:=fun σ H Q=>ta σ H fun x H1=>r x H1 Q
def rI (C:Int→Int→Prop) (g:Int→Int→V):R2:=fun x y H Q=>∃ i j,x = .int i∧y = .int j∧C i j∧Q (g i j) H
def rI0 (g:Int→Int→V):R2:=fun x y H Q=>∃ i j,x = .int i∧y = .int j∧Q (g i j) H
def rU (g:Int→V):V→Hp→VK→Prop:=fun x H Q=>∃ i,x = .int i∧Q (g i) H
section
variable {X:Cx}{a b c:Expr}{ta tb tc:TE}{pos:Pos}
theorem aja (ha:PE X a ta) (hb:PE X b tb) {pins:List (Addr×Obj)}{s:Shared}{σ:St}{H:Hp}{R:V→V→Hp→Prop}(I:Inv X pins σ H s)
  (h:ta σ H fun x H1=>tb σ H1 fun y H2=>R x y H2) {Q:Value→Shared→Prop} {f:Value→Value→Sem Value}
  (hf:∀ v u s2 x y H2,Inv X pins σ H2 s2→RelV x v→RelV y u→R x y H2→wpAny (model X.prog X.w) X.A (f v u) Q X.xe s2) :
  wpAny (model X.prog X.w) X.A (eval a X.env) (fun v s₁=>wpAny (model X.prog X.w) X.A (eval b X.env) (fun u s₂=>wpAny (model X.prog X.w) X.A (f v u) Q X.xe s₂) X.xe s₁) X.xe s:=by
 refine thn (ha pins s σ H _ I h) fun v s1 ⟨x,H1,I1,r1,q1⟩=>?_;refine thn (hb pins s1 σ H1 _ I1 q1) fun u s2 ⟨y,H2,I2,r2,q2⟩=>?_;exact hf v u s2 x y H2 I2 r1 r2 q2
theorem fw {op:Operator}{r:R2}(ho:OpR X (binaryOp op) r) (ha:PE X a ta) (hb:PE X b tb):PE X (.BinOp a op b pos) (tOp r ta tb):=by
 intro pins s σ H Q I h;exact wpAny_BinOp (aja ha hb I h fun v u s2 x y H2 I2 rx ry q=>ho pins s2 σ H2 x y v u Q I2 rx ry q)
theorem bY {op:UnaryOp}{r:V→Hp→VK→Prop}(ho:UnR X (unaryOp op) r) (ha:PE X a ta):PE X (.UnaryOp op a pos) (tUn r ta):=by
 intro pins s σ H Q I h;exact UnaryOp_ (thn (ha pins s σ H _ I h) fun v s1 ⟨x,H1,I1,r1,q1⟩=>ho pins s1 σ H1 x v Q I1 r1 q1)
theorem opI {f:Value→Value→Sem Value}{C:Int→Int→Prop}{g:Int→Int→Int}
  (rule:∀ (i j:Int) (t u:Tok) (s:Shared) (Q:Value→Shared→Prop) (E:Value→Shared→Prop),C i j→Q (.int (g i j) s.toks) { s with toks:=s.toks+1 }→wpAny (model X.prog X.w) X.A (f (.int i t) (.int j u)) Q E s) :
  OpR X f (rI C fun i j=>.int (g i j)):=by
 intro pins s σ H x y v u Q I rx ry h;obtain⟨i,j,rfl,rfl,hc,q⟩:=h;obtain⟨t,rfl⟩:=rx;obtain⟨t',rfl⟩:=ry;exact rule i j t t' s _ _ hc ⟨.int (g i j),H,I.tok _,⟨_,rfl⟩,q⟩
theorem alY {f:Value→Value→Sem Value}{g:Int→Int→Int}
  (rule:∀ (i j:Int) (t u:Tok) (s:Shared) (Q:Value→Shared→Prop) (E:Value→Shared→Prop),Q (.int (g i j) s.toks) { s with toks:=s.toks+1 }→wpAny (model X.prog X.w) X.A (f (.int i t) (.int j u)) Q E s) :
  OpR X f (rI0 fun i j=>.int (g i j)):=by
 intro pins s σ H x y v u Q I rx ry h;obtain⟨i,j,rfl,rfl,q⟩:=h;obtain⟨t,rfl⟩:=rx;obtain⟨t',rfl⟩:=ry;exact rule i j t t' s _ _ ⟨.int (g i j),H,I.tok _,⟨_,rfl⟩,q⟩
theorem ag5 {f:Value→Value→Sem Value}{g:Int→Int→Bool}
  (rule:∀ (i j:Int) (t u:Tok) (s:Shared) (Q:Value→Shared→Prop) (E:Value→Shared→Prop),Q (.bool (g i j)) s→wpAny (model X.prog X.w) X.A (f (.int i t) (.int j u)) Q E s) :
  OpR X f (rI0 fun i j=>.bl (g i j)):=by
 intro pins s σ H x y v u Q I rx ry h;obtain⟨i,j,rfl,rfl,q⟩:=h;obtain⟨t,rfl⟩:=rx;obtain⟨t',rfl⟩:=ry;exact rule i j t t' s _ _ ⟨.bl (g i j),H,I,rfl,q⟩
def anm (i j:Int):Prop:=0<j∧j<1073741824
def aiW (i j:Int):Prop:=(-(2 ^ 64)<i∧i<2 ^ 64)∨(-(2 ^ 64)<j∧j<2 ^ 64)
theorem aiW.ok {i j:Int}(h:aiW i j):IntMulOk i j:=by
 rcases h with⟨h1,h2⟩|⟨h1,h2⟩
 ·exact .of_left (intBits_le_64 h1 h2)
 ·exact .of_right (intBits_le_64 h1 h2)
theorem yc:OpR X (binaryOp .Add) (rI0 fun i j=>.int (i+j)):=alY fun _ _ _ _ _ _ _ q=>add_int q
theorem ail:OpR X (binaryOp .Sub) (rI0 fun i j=>.int (i-j)):=alY fun _ _ _ _ _ _ _ q=>sub_int q
theorem aik:OpR X (binaryOp .Mult) (rI aiW fun i j=>.int (i*j)):=opI fun _ _ _ _ _ _ _ hc q=>mul_int q hc.ok
theorem akL:OpR X (binaryOp .FloorDiv) (rI anm fun i j=>.int (i / j)):=opI fun i j _ _ _ _ _ hc q=>by
 have h1:(0:Int)<j:=hc.1;have h2:j<1073741824:=hc.2;exact floordiv_int (by omega) (by rw[Int.fdiv_eq_ediv_of_nonneg i (by omega)];exact q) (.inl (PyProof.noPylong_small (by omega)))
theorem aij:OpR X (binaryOp .Mod) (rI (fun _ j=>0<j) fun i j=>.int (i % j)):=opI fun i j _ _ _ _ _ hc q=>by
 have h1:(0:Int)<j:=hc;exact mod_int' (by omega) (by rw[Int.fmod_eq_emod_of_nonneg i (by omega)];exact q)
theorem unI {f:Value→Sem Value}{g:Int→Int}
  (rule:∀ (i:Int) (t:Tok) (s:Shared) (Q:Value→Shared→Prop) (E:Value→Shared→Prop),Q (.int (g i) s.toks) { s with toks:=s.toks+1 }→wpAny (model X.prog X.w) X.A (f (.int i t)) Q E s) :
  UnR X f (rU fun i=>.int (g i)):=by
 intro pins s σ H x v Q I rx h;obtain⟨i,rfl,q⟩:=h;obtain⟨t,rfl⟩:=rx;exact rule i t s _ _ ⟨.int (g i),H,I.tok _,⟨_,rfl⟩,q⟩
theorem bD:UnR X (unaryOp .USub) (rU fun i=>.int (-i)):=unI fun _ _ _ _ _ q=>neg_int q
end
def amc:V→V→Bool
 | .non,.non=>true|.non,.int _=>true|.int _,.non=>true|.non,.bl _=>true|.bl _,.non=>true|.non,.str _=>true|.str _,.non=>true
 | .int _,.int _=>true|.bl _,.bl _=>true|.str _,.str _=>true|.byt _,.byt _=>true
 | .int _,.str _=>true|.str _,.int _=>true|.bl _,.str _=>true|.str _,.bl _=>true
 | _,_=>false
def rEq:R2:=fun x y H Q=>amc x y=true∧Q (.bl (decide (x=y))) H
def rNe:R2:=fun x y H Q=>amc x y=true∧Q (.bl (!decide (x=y))) H
theorem yT {i j:Int}:decide (V.int i=V.int j)=(i == j):=by
 rw[Bool.eq_iff_iff];simp
theorem ahF {i j:Bool}:decide (V.bl i=V.bl j)=(i == j):=by
 rw[Bool.eq_iff_iff];simp
theorem af0 {i j:Str}:decide (V.str i=V.str j)=(i == j):=by
 rw[Bool.eq_iff_iff];simp
theorem afZ {i j:Array UInt8}:decide (V.byt i=V.byt j)=(i.toList == j.toList):=by
 rw[Bool.eq_iff_iff];cases i;cases j;simp
section
variable {X:Cx}{a b c:Expr}{ta tb tc:TE}{pos:Pos}
theorem b0 {pins:List (Addr×Obj)}{σ:St}{H:Hp}{s:Shared}{Q:VK}{k k':Bool}(I:Inv X pins σ H s) (q:Q (.bl k) H) (e:k=k'):EP X pins σ Q (.bool k') s:=by
 subst e;exact⟨.bl k,H,I,rfl,q⟩
theorem iI:OpR X (compareOp .Eq) rEq:=by
 intro pins s σ H x y v u Q I rx ry h;obtain⟨hs,q⟩:=h;cases x with
 | non=>
  cases rx;cases y with
  | non=>cases ry;exact PySem.EqNone.eq_none_none (b0 I q (by simp))
  | bl j=>cases ry;exact PySem.EqNone.eq_none_bool (b0 I q (by simp))
  | int j=>obtain⟨t',rfl⟩:=ry;exact PySem.EqNone.eq_none_int (b0 I q (by simp))
  | str j=>obtain⟨t',rfl⟩:=ry;exact PySem.EqNone.eq_none_str (b0 I q (by simp))
  | _=>exact absurd (show false=true from hs) Bool.false_ne_true
 | bl i=>
  cases rx;cases y with
  | non=>cases ry;exact PySem.EqNone.eq_bool_none (b0 I q (by simp))
  | bl j=>cases ry;exact eq_bool (b0 I q ahF)
  | str j=>obtain⟨t',rfl⟩:=ry;exact PySem.EqMixed.eq_bool_str (b0 I q (by simp))
  | _=>exact absurd (show false=true from hs) Bool.false_ne_true
 | int i=>
  obtain⟨t,rfl⟩:=rx;cases y with
  | non=>cases ry;exact PySem.EqNone.eq_int_none (b0 I q (by simp))
  | int j=>obtain⟨t',rfl⟩:=ry;exact eq_int (b0 I q yT)
  | str j=>obtain⟨t',rfl⟩:=ry;exact PySem.EqMixed.eq_int_str (b0 I q (by simp))
  | _=>exact absurd (show false=true from hs) Bool.false_ne_true
 | str i=>
  obtain⟨t,rfl⟩:=rx;cases y with
  | non=>cases ry;exact PySem.EqNone.eq_str_none (b0 I q (by simp))
  | bl j=>cases ry;exact PySem.EqMixed.eq_str_bool (b0 I q (by simp))
  | int j=>obtain⟨t',rfl⟩:=ry;exact PySem.EqMixed.eq_str_int (b0 I q (by simp))
  | str j=>obtain⟨t',rfl⟩:=ry;exact eq_str (b0 I q af0)
  | _=>exact absurd (show false=true from hs) Bool.false_ne_true
 | byt i=>
  obtain⟨t,rfl⟩:=rx;cases y with
  | byt j=>obtain⟨t',rfl⟩:=ry;exact PySem.W.eq_bytes (b0 I q afZ)
  | _=>exact absurd (show false=true from hs) Bool.false_ne_true
 | _=>cases y <;> exact absurd (show false=true from hs) Bool.false_ne_true
theorem fc:OpR X (compareOp .NotEq) rNe:=by
 intro pins s σ H x y v u Q I rx ry h;obtain⟨hs,q⟩:=h;cases x with
 | non=>
  cases rx;cases y with
  | non=>cases ry;exact PySem.EqNone.ne_none_none (b0 I q (by simp))
  | bl j=>cases ry;exact PySem.EqNone.ne_none_bool (b0 I q (by simp))
  | int j=>obtain⟨t',rfl⟩:=ry;exact PySem.EqNone.ne_none_int (b0 I q (by simp))
  | str j=>obtain⟨t',rfl⟩:=ry;exact PySem.EqNone.ne_none_str (b0 I q (by simp))
  | _=>exact absurd (show false=true from hs) Bool.false_ne_true
 | bl i=>
  cases rx;cases y with
  | non=>cases ry;exact PySem.EqNone.ne_bool_none (b0 I q (by simp))
  | bl j=>cases ry;exact ne_bool (b0 I q (congrArg not ahF))
  | str j=>obtain⟨t',rfl⟩:=ry;exact PySem.EqMixed.ne_bool_str (b0 I q (by simp))
  | _=>exact absurd (show false=true from hs) Bool.false_ne_true
 | int i=>
  obtain⟨t,rfl⟩:=rx;cases y with
  | non=>cases ry;exact PySem.EqNone.ne_int_none (b0 I q (by simp))
  | int j=>obtain⟨t',rfl⟩:=ry;exact ne_int (b0 I q (congrArg not yT))
  | str j=>obtain⟨t',rfl⟩:=ry;exact PySem.EqMixed.ne_int_str (b0 I q (by simp))
  | _=>exact absurd (show false=true from hs) Bool.false_ne_true
 | str i=>
  obtain⟨t,rfl⟩:=rx;cases y with
  | non=>cases ry;exact PySem.EqNone.ne_str_none (b0 I q (by simp))
  | bl j=>cases ry;exact PySem.EqMixed.ne_str_bool (b0 I q (by simp))
  | int j=>obtain⟨t',rfl⟩:=ry;exact PySem.EqMixed.ne_str_int (b0 I q (by simp))
  | str j=>obtain⟨t',rfl⟩:=ry;exact ne_str (b0 I q (congrArg not af0))
  | _=>exact absurd (show false=true from hs) Bool.false_ne_true
 | byt i=>
  obtain⟨t,rfl⟩:=rx;cases y with
  | byt j=>obtain⟨t',rfl⟩:=ry;exact PySem.W.ne_bytes (b0 I q (congrArg not afZ))
  | _=>exact absurd (show false=true from hs) Bool.false_ne_true
 | _=>cases y <;> exact absurd (show false=true from hs) Bool.false_ne_true
theorem abx:OpR X (compareOp .Lt) (rI0 fun i j=>.bl (decide (i<j))):=ag5 fun _ _ _ _ _ _ _ q=>lt_int q
theorem vE:OpR X (compareOp .LtE) (rI0 fun i j=>.bl (decide (i≤j))):=ag5 fun _ _ _ _ _ _ _ q=>le_int q
theorem abw:OpR X (compareOp .Gt) (rI0 fun i j=>.bl (decide (j<i))):=ag5 fun _ _ _ _ _ _ _ q=>gt_int q
theorem yY:OpR X (compareOp .GtE) (rI0 fun i j=>.bl (decide (j≤i))):=ag5 fun _ _ _ _ _ _ _ q=>ge_int q
theorem aX (b:Expr) {op:CmpOp}(h:op≠.In:=by decide) (h2:op≠.NotIn:=by decide):behindInMarks op b=false:=by
 have e1:(op == CmpOp.In)=false:=by cases op <;> first|rfl|exact absurd rfl h
 have e2:(op == CmpOp.NotIn)=false:=by cases op <;> first|rfl|exact absurd rfl h2
 cases b <;> simp[behindInMarks,e1,e2]
theorem y0 {op:CmpOp}{r:R2}(ho:OpR X (compareOp op) r) (ha:PE X a ta) (hb:PE X b tb) (hm:behindInMarks op b=false):PE X (.Compare a [op] [b] pos) (tOp r ta tb):=by
 intro pins s σ H Q I h;exact wpAny_Compare1 (aja ha hb I h fun v u s2 x y H2 I2 rx ry q=>ho pins s2 σ H2 x y v u Q I2 rx ry q) hm
def qb (t:TE):TT:=fun σ H Q=>t σ H fun x H'=>∃ k,x = .bl k∧Q k H'
theorem aQ {op:CmpOp}{r:R2}(ho:OpR X (compareOp op) r) (ha:PE X a ta) (hb:PE X b tb) (hm:behindInMarks op b=false):PT X (.Compare a [op] [b] pos) (qb (tOp r ta tb)):=by
 intro pins s σ H Q I h;refine wpAny_isTrue_Compare1 (thn (ha pins s σ H _ I h) fun v s1 ⟨x,H1,I1,r1,q1⟩=>thn (hb pins s1 σ H1 _ I1 q1) fun u s2 ⟨y,H2,I2,r2,q2⟩=>
  thn (ho pins s2 σ H2 x y v u _ I2 r1 r2 q2) fun c s3 ⟨z,H3,I3,r3,k,e,q3⟩=>?_) hm
 subst e;cases r3;exact wpAny_truthy_bool ⟨H3,I3,q3⟩
def aiL (r r':R2) (ta tb tc:TE):TE:=fun σ H Q=>ta σ H fun x H1=>tb σ H1 fun y H2=>r x y H2 fun z H3=>∃ k,z = .bl k ∧
 (if k=true then tc σ H3 fun w' H4=>r' y w' H4 Q else Q (.bl false) H3)
theorem aao {op op':CmpOp}{r r':R2}(ho:OpR X (compareOp op) r) (ho':OpR X (compareOp op') r') (ha:PE X a ta) (hb:PE X b tb) (hc:PE X c tc)
  (hm:lastMarks [op,op'] [b,c]=false:=by with_unfolding_all rfl):PE X (.Compare a [op,op'] [b,c] pos) (aiL r r' ta tb tc):=by
 intro pins s σ H Q I h;refine Compare_chain (thn (ha pins s σ H _ I h) fun v s1 ⟨x,H1,I1,r1,q1⟩=>chain_link (thn (hb pins s1 σ H1 _ I1 q1) fun u s2 ⟨y,H2,I2,r2,q2⟩=>
  thn (ho pins s2 σ H2 x y v u _ I2 r1 r2 q2) fun d s3 ⟨z,H3,I3,r3,k,e,q3⟩=>?_)) hm
 subst e;cases r3;refine wpAny_truthy_bool ?_;cases k with
 | false=>exact ite_ff ⟨.bl false,H3,I3,rfl,q3⟩
 | true=>exact ite_tt (chain_last (thn (hc pins s3 σ H3 _ I3 q3) fun w' s4 ⟨z',H4,I4,r4,q4⟩=>ho' pins s4 σ H4 y z' u w' Q I4 r2 r4 q4))
def xl (K:PySem.W.Frag) (x:V) (H:Hp) (k:Bool):Prop:=
 match x with
 | .non=>k=false
 | .bl b=>k=b
 | .int i=>k=(i != 0)
 | .str y=>y.length≤sizeLine∧k=((y.length:Int) != 0)
 | .byt y=>y.size≤sizeLine∧k=((y.size:Int) != 0)
 | .ref p=>(∃ xs,SqL K H p xs∧k = !xs.isEmpty)∨(∃ xs,SqT K H p xs∧k = !xs.isEmpty)∨∃ kvs,H p=some (.dK kvs)∧k = !kvs.isEmpty
 | _=>False
theorem agT {κ:Type}{kvs:List (κ×V)}{vs:List (κ×Value)}(r:KV kvs vs):(!vs.isEmpty) = !kvs.isEmpty:=by
 cases r <;> rfl
theorem abj {xs:List V}{its:List Value}(r:Vals xs its):(!its.toArray.isEmpty) = !xs.isEmpty:=by
 cases r <;> simp
theorem x6:(sizeLine:Nat)<2 ^ 63:=by rw[sizeLine_eq];decide
theorem amG:ano X (fun x H Q=>∃ k,xl X.K x H k∧Q k H):=by
 intro pins s σ H x v Q I rx h;obtain⟨k,e,q⟩:=h;have hl:=x6;have hs:sizeLine=16777216:=sizeLine_eq;cases x with
 | non=>
  cases rx;have e':k=false:=e;subst e';exact truthy_none ⟨H,I,q⟩
 | bl b=>
  cases rx;have e':k=b:=e;subst e';exact wpAny_truthy_bool ⟨H,I,q⟩
 | int i=>
  obtain⟨t,rfl⟩:=rx;have e':k=(i != 0):=e;subst e';exact PySem.P.truthy_int ⟨H,I,q⟩
 | str y=>
  obtain⟨t,rfl⟩:=rx;obtain⟨hy,e'⟩:y.length≤sizeLine∧k=((y.length:Int) != 0):=e;subst e';exact PySem.P.truthy_str (by omega) ⟨H,I.tok _,q⟩
 | byt y=>
  obtain⟨t,rfl⟩:=rx;obtain⟨hy,e'⟩:y.size≤sizeLine∧k=((y.size:Int) != 0):=e;subst e';exact PySem.W.truthy_bytes (by omega) ⟨H,I.tok _,q⟩
 | ref p=>
  cases rx;have e':(∃ xs,SqL X.K H p xs∧k = !xs.isEmpty)∨(∃ xs,SqT X.K H p xs∧k = !xs.isEmpty)∨∃ kvs,H p=some (.dK kvs)∧k = !kvs.isEmpty:=e;rcases e' with⟨xs,hx,e'⟩|⟨xs,hx,e'⟩|⟨kvs,hx,e'⟩
  ·subst e';obtain⟨its,r,pl,hz⟩:=I.list hx;have hlen:=r.length;exact wpAny_truthy_list pl.isList (by simp only[List.size_toArray];omega) ⟨H,I.tok _,by rw[abj r];exact q⟩
  ·subst e';obtain⟨its,r,pl,hz⟩:=I.tuple hx;have hlen:=r.length;exact truthy_tuple pl (by simp only[List.size_toArray];omega) ⟨H,I.tok _,by rw[abj r];exact q⟩
  ·subst e';obtain⟨hz,hS,vs,r,m⟩:kvs.length≤sizeLine∧(p == sysModules)=false∧∃ vs,KV kvs vs∧s.heap.DictOf (bH X.prog X.w) p vs:=I.hok p _ hx;have hlen:kvs.length=vs.length:=Paired.length r;exact wpAny_truthy_dict hS m (by omega) ⟨H,I.tok _,by rw[agT r];exact q⟩
 | _=>exact(show False from e).elim
theorem bJ (ha:PE X a ta) (he:∀ whole,isTrue a X.env whole=(do let v ← whole;standAt a.pos;holding [v] (truthy v))) :
  PT X a (fun σ H Q=>ta σ H fun x H'=>∃ k,xl X.K x H' k∧Q k H'):=by
 intro pins s σ H Q I h;exact isTrue_plain (thn (ha pins s σ H _ I h) fun v s1 ⟨x,H1,I1,r1,q1⟩=>amG pins s1 σ H1 x v Q I1 r1 q1) (he _)
theorem vals1 {x:V}{us:List Value}(r:Vals [x] us):∃ u,us = [u]∧RelV x u:=by
 cases r with
 | cons r1 r2=>cases r2;exact⟨_,rfl,r1⟩
end
structure zS (h:Heap) (x dx C:Addr) (mA:Str→Option Value):Prop where
 obj:h.get? x=some (PySem.W.instObj C dx)
 ns:h.Ns1 dx mA
 ne:dx≠x
theorem aia {h:Heap}{dx:Addr}{mA:Str→Option Value}(n:h.Ns1 dx mA):∃ od,h.get? dx=some od∧∀ name,PySem.W.lookIn name od=some (mA name):=by
 obtain⟨o,es,ep,ho,hd,hk,_,hm⟩:=n;refine⟨o,ho,fun name=>?_⟩;have e:=hm name;unfold nsFind findBy at e;rw[← Array.find?_toList] at e;unfold PySem.W.lookIn;rw[hd];dsimp only;split
 ·rename_i y q
  rw[q] at e;exact congrArg some e
 ·rename_i q
  rw[q] at e;have a:es.toList.any (·.refKey)=false:=by
   rw[List.any_eq_false];intro y hy;obtain⟨z,t,hkey⟩:=hk y (Array.mem_toList_iff.mp hy);simp[DictEntry.refKey,hkey]
  have a':¬ es.toList.any (·.refKey)=true:=by rw[a];exact Bool.false_ne_true
  rw[if_neg a'];exact congrArg some e
theorem zS.look {h:Heap}{x dx C:Addr}{mA:Str→Option Value}(I:zS h x dx C mA):∃ od,PySem.W.InstAt h x (PySem.W.instObj C dx) C (some od)∧∀ name,PySem.W.lookIn name od=some (mA name):=
 let ⟨od,ho,hl⟩:=aia I.ns
 ⟨od,⟨I.obj,rfl,rfl,ho⟩,hl⟩
section
variable {prog:Program}{w:World}{A:Around}{E:Value→Shared→Prop}{s:Shared}{K:PySem.W.Frag}{x dx C f:Addr}{mA:Str→Option Value}{name:Str}{v:Value}
theorem get_map {expr:Bool}{Q:Value→Shared→Prop}(X:K.In s.heap) (I:zS s.heap x dx C mA) (hg:PySem.W.plainGet K C name=true) (hh:PySem.W.hasDictIn K C=true)
  (ha:PySem.W.findIn K (.ref C) name=some none) (hv:mA name=some v) (hv':PySem.W.handedIn v=true) (h:Q v { s with toks:=s.toks+1 }) :
  wpAny (model prog w) A (getAttr (.ref x) name expr) Q E s:=by
 obtain⟨od,J,hl⟩:=I.look;exact PySem.W.get_value X J (PySem.W.plainGet_of hg).1 (PySem.W.findObj_own hh ha rfl (by rw[hl,hv])) hv' h
theorem ajg {pl:Sem Bool}{Q:Value×List Value→Shared→Prop}(X:K.In s.heap) (I:zS s.heap x dx C mA) (hg:PySem.W.plainGet K C name=true)
  (hf:PySem.W.findIn K (.ref C) name=some (some (.ref f))) (ht:PySem.W.isFn K (.ref f)=true) (hv:mA name=none) (h:Q (.ref f,[.ref x]) s) :
  wpAny (model prog w) A (getMethod (.ref x) name pl) Q E s:=by
 obtain⟨od,J,hl⟩:=I.look;exact PySem.W.method_fn X J (PySem.W.plainGet_of hg).1 (PySem.W.plainGet_of hg).2 hf (beq_iff_eq.mp ht) (by show(PySem.W.lookIn name od).map (·.isSome)=some false;rw[hl,hv];rfl) h
theorem ak1 {ns:List Str}{Q:Unit→Shared→Prop}(X:K.In s.heap) (I:zS s.heap x dx C mA)
  (hs:PySem.W.findIn K (.ref C) "__setattr__" = some (some (.builtin "object.__setattr__"))) (hp:PySem.W.plainOver K C=true) (ht:PySem.W.takerIn K C name=some none) (hh:PySem.W.hasDictIn K C=true)
  (hw:PySem.Within mA ns) (hsz:ns.length≤sizeLine)
  (h:∀ h',zS h' x dx C (fun y=>if y=name then some v else mA y)→Heap.SameBut dx s.heap h'→Q () { s with heap:=h',toks:=s.toks+2 }) :
  wpAny (model prog w) A (setAttr (.ref x) name v) Q E s:=by
 obtain⟨od,J,hl⟩:=I.look;refine PySem.W.set_plain X J hs (PySem.W.osa_open (s:={ s with toks:=s.toks+1 }) (r:=none) X J hp ht fun b=>?_);obtain⟨cd,hc,hd'⟩:=PySem.W.any_some hh;have hx:s.heap.get? x=some ⟨.ref C,some dx,.plain,#[]⟩:=I.obj;refine wpAny_bind (wpAny_pure (wpAny_bind (wpAny_bind (wpAny_loadPart hx (wpAny_bind (PySem.W.Looks.here (s:={ s with toks:=s.toks+1 }) (PySem.W.looks_clsIn X hc) ?_))))));rw[hd'];refine wpAny_pure (a:=some dx) (wpAny_bind (wpAny_pure (wpAny_bind ?_)));refine wpAny_nsSet1 (s:={ s with toks:=s.toks+1 }) I.ns fun h' hn2 hs2=>?_;obtain⟨oD,esD,epD,hoD,hdD,hcD⟩:=hn2.count (PySem.Within.cons name v hw);refine wpAny_bind (wpAny_lookBehind hoD (by rw[hdD];exact pastItsLine_dict (Nat.le_trans hcD (by rw[List.length_cons];omega))) ?_);exact wpAny_pure (h _ ⟨(hs2.2 _ (Ne.symm I.ne)).trans I.obj,hn2,I.ne⟩ hs2)
theorem ajs {R:Result→Shared→Prop}{vs:List Value}{kw:List (Str×Value)}(X:K.In s.heap) (hm:PySem.W.makesIn K C=true)
  (hi:PySem.W.findIn K (.ref C) "__init__" = some (some (.ref f))) (hf:PySem.W.typeIn K (.ref f)=some (.type "function"))
  (h:codeAny (model prog w) (A.under (.builtin "type.__call__" ⟨.ref C::vs,kw⟩)) (.call (.ref f) ⟨.ref (s.heap.objs.size+1)::vs,kw⟩) (PySem.W.InitBack (s.heap.objs.size+1) R)
   { s with heap:=(s.heap.push PySem.W.emptyDict).push (PySem.W.instObj C s.heap.objs.size) }) :
  codeAny (model prog w) A (.call (.ref C) ⟨vs,kw⟩) R s:=by
 obtain⟨hh,g,d,t,os⟩:=s;exact PySem.W.make_core (PySem.W.makes_of X hm) (PySem.W.looks_findIn X hi) (fun self=>PySem.W.bind_fn X self hf) (.inl rfl) h
end
def eV (f:Str) (v:V):List (Str×V)→List (Str×V)
 | []=>[(f,v)]
 | (g,x)::r=>if g=f then (g,v)::r else (g,x)::eV f v r
theorem zB (f g:Str) (v:V):∀ fs:List (Str×V),(eV f v fs).lookup g=if g=f then some v else fs.lookup g
 | []=>by
  show List.lookup g [(f,v)]=_;by_cases h:g=f
  ·have hb:(g == f)=true:=beq_iff_eq.mpr h;simp only[List.lookup,hb,if_pos h]
  ·have hb:(g == f)=false:=beq_eq_false_iff_ne.mpr h;simp only[List.lookup,hb,if_neg h]
 | (k,x)::r=>by
  have ih:=zB f g v r;rw[show eV f v ((k,x)::r)=(if k=f then (k,v)::r else (k,x)::eV f v r) from rfl];by_cases hk:k=f
  ·rw[if_pos hk];by_cases h:g=k
   ·have hb:(g == k)=true:=beq_iff_eq.mpr h;simp only[List.lookup,hb,if_pos (h.trans hk)]
   ·have hb:(g == k)=false:=beq_eq_false_iff_ne.mpr h;simp only[List.lookup,hb,if_neg (fun e:g=f=>h (e.trans hk.symm))]
  ·rw[if_neg hk];by_cases h:g=k
   ·have hb:(g == k)=true:=beq_iff_eq.mpr h;simp only[List.lookup,hb,if_neg (fun e:g=f=>hk (h.symm.trans e))]
   ·have hb:(g == k)=false:=beq_eq_false_iff_ne.mpr h;simp only[List.lookup,hb];exact ih
theorem xZ (f:Str) (v:V):∀ fs:List (Str×V),f∈(eV f v fs).map (·.1)∧∀ g,g∈fs.map (·.1)→g∈(eV f v fs).map (·.1)
 | []=>⟨by simp[eV],fun g h=>by simp at h⟩
 | (k,x)::r=>by
  obtain⟨i1,i2⟩:=xZ f v r;rw[show eV f v ((k,x)::r)=(if k=f then (k,v)::r else (k,x)::eV f v r) from rfl];by_cases hk:k=f
  ·rw[if_pos hk];subst hk;exact⟨by simp,fun g h=>by simpa using h⟩
  ·rw[if_neg hk];refine⟨?_,fun g h=>?_⟩
   ·rw[List.map_cons];exact List.mem_cons_of_mem _ i1
   ·rw[List.map_cons] at h ⊢;rcases List.mem_cons.mp h with e|e
    ·exact List.mem_cons.mpr (.inl e)
    ·exact List.mem_cons_of_mem _ (i2 g e)
theorem zA (f:Str) (v:V):∀ fs:List (Str×V),(eV f v fs).length≤fs.length+1
 | []=>by simp[eV]
 | (k,x)::r=>by
  have ih:=zA f v r;rw[show eV f v ((k,x)::r)=(if k=f then (k,v)::r else (k,x)::eV f v r) from rfl];by_cases hk:k=f
  ·rw[if_pos hk,List.length_cons,List.length_cons];omega
  ·rw[if_neg hk,List.length_cons,List.length_cons];omega
theorem ji.some_of {v:V}{o:Option Value}(r:ji (some v) o):∃ u,o=some u∧RelV v u:=by
 cases o with
 | none=>exact(show False from r).elim
 | some u=>exact⟨u,rfl,r⟩
theorem ji.none_of {o:Option Value}(r:ji none o):o=none:=by
 cases o with
 | none=>rfl
 | some u=>exact(show False from r).elim
theorem ah1 {v:V}{u:Value}(r:RelV v u):PySem.W.handedIn u=true:=by
 cases v with
 | non=>cases (show u=Value.none from r);rfl
 | bl b=>cases (show u=Value.bool b from r);rfl
 | int i=>obtain⟨t,e⟩:=(show ∃ t,u=Value.int i t from r);cases e;rfl
 | str x=>obtain⟨t,e⟩:=(show ∃ t,u=Value.str x t from r);cases e;rfl
 | byt b=>obtain⟨t,e⟩:=(show ∃ t,u=Value.bytes b t from r);cases e;rfl
 | flt b=>obtain⟨t,e⟩:=(show ∃ t,u=Value.float b t from r);cases e;rfl
 | ref a=>cases (show u=Value.ref a from r);rfl
 | ty n=>cases (show u=Value.type n from r);rfl
section
variable {P:Program}{w:World}{H H':Hp}{h h':Heap}{a C dx:Addr}{fs fs':List (Str×V)}
theorem ab7 (hok:HOk P w H h) (e:H a=some (.ins C dx fs)):∃ mA,zS h a dx C mA∧(∀ f,ji (fs.lookup f) (mA f))∧PySem.Within mA (fs.map (·.1))∧fs.length≤1000∧H dx=some (.own a):=by
 obtain⟨d,z,ne,ob,mA,n,r,q⟩:=(show di P w H h a (.ins C dx fs) from hok a _ e);exact⟨mA,⟨ob,n,ne⟩,r,q,z,d⟩
end
structure Cls (K:PySem.W.Frag) (C:Addr):Prop where
 pg:PySem.W.plainGet K C Str.empty=true
 hd:PySem.W.hasDictIn K C=true
 po:PySem.W.plainOver K C=true
 sa:PySem.W.findIn K (.ref C) "__setattr__" = some (some (.builtin "object.__setattr__"))
theorem Cls.get {K:PySem.W.Frag}{C:Addr}(c:Cls K C) (f:Str):PySem.W.plainGet K C f=true:=c.pg
def cu (K:PySem.W.Frag) (C:Addr) (f:Str):Prop:=PySem.W.findIn K (.ref C) f=some none
theorem cu.taker {K:PySem.W.Frag}{C:Addr}{f:Str}(n:cu K C f):PySem.W.takerIn K C f=some none:=by
 unfold PySem.W.takerIn;rw[show PySem.W.findIn K (.ref C) f=some none from n];rfl
structure Meth (K:PySem.W.Frag) (C:Addr) (m:Str) (f:Addr):Prop where
 at_:PySem.W.findIn K (.ref C) m=some (some (.ref f))
 fn:PySem.W.isFn K (.ref f)=true
 kp:PySem.W.keepIn K (.ref f)=true
section
variable {X:Cx}{pins:List (Addr×Obj)}{σ:St}{H:Hp}{s:Shared}{a C dx:Addr}{fs:List (Str×V)}{f:Str}{v:V}{A:Around}{E:Value→Shared→Prop}
theorem abd {b:Bool}{Q:Value→Shared→Prop}(I:Inv X pins σ H s) (e:H a=some (.ins C dx fs)) (c:Cls X.K C) (n:cu X.K C f) (l:fs.lookup f=some v)
  (h:∀ u s',Inv X pins σ H s'→RelV v u→Q u s'):wpAny (model X.prog X.w) A (getAttr (.ref a) f b) Q E s:=by
 obtain⟨mA,O,r,_,_,_⟩:=ab7 I.hok e;obtain⟨u,hu,ru⟩:=ji.some_of (v:=v) (o:=mA f) (by rw[← l];exact r f);exact get_map I.kIn O (c.get f) c.hd n hu (ah1 ru) (h u _ (I.tok _) ru)
theorem vo {m:Str}{g:Addr}{pl:Sem Bool}{Q:Value×List Value→Shared→Prop}(I:Inv X pins σ H s) (e:H a=some (.ins C dx fs)) (c:Cls X.K C) (k:Meth X.K C m g) (l:fs.lookup m=none)
  (h:Q (.ref g,[.ref a]) s):wpAny (model X.prog X.w) A (getMethod (.ref a) m pl) Q E s:=by
 obtain⟨mA,O,r,_,_,_⟩:=ab7 I.hok e;have hn:mA m=none:=ji.none_of (by rw[← l];exact r m);exact ajg I.kIn O (c.get m) k.at_ k.fn hn h
theorem abD {y:V}{u:Value}{Q:Unit→Shared→Prop}(I:Inv X pins σ H s) (e:H a=some (.ins C dx fs)) (c:Cls X.K C) (n:cu X.K C f) (hl:fs.length<1000) (ry:RelV y u)
  (h:∀ s',Inv X pins σ (upd H a (.ins C dx (eV f y fs))) s'→Q () s'):wpAny (model X.prog X.w) A (setAttr (.ref a) f u) Q E s:=by
 obtain⟨mA,O,r,wi,_,ho⟩:=ab7 I.hok e;have hz:(fs.map (·.1)).length≤sizeLine:=by rw[List.length_map,sizeLine_eq];omega
 refine ak1 I.kIn O c.sa c.po n.taker c.hd wi hz fun h' O' sb=>h _ ?_;have hd:∃ o,h'.get? dx=some o:=let ⟨o,_,_,e',_⟩:=O'.ns;⟨o,e'⟩;refine I.write (x:=a) (e:=dx) (by rw[e];exact True.intro) (.inr ho) (fun b q hb z=>(sb.2 b hb).trans z) hd ?_;refine⟨by rw[ae O.ne];exact ho,?_,O.ne,O'.obj,_,O'.ns,fun g=>?_,fun g hg=>?_⟩
 ·have:=zA f y fs;omega
 ·show ji ((eV f y fs).lookup g) (if g=f then some u else mA g);rw[zB];by_cases q:g=f
  ·rw[if_pos q,if_pos q];exact ry
  ·rw[if_neg q,if_neg q];exact r g
 ·by_cases q:g=f
  ·rw[q];exact(xZ f y fs).1
  ·refine(xZ f y fs).2 g (wi g fun z=>hg ?_);show(if g=f then some u else mA g)=none;rw[if_neg q];exact z
theorem Inv.made (I:Inv X pins σ H s):Inv X pins σ (upd (upd H s.heap.objs.size (.own (s.heap.objs.size+1))) (s.heap.objs.size+1) (.ins C s.heap.objs.size []))
  { s with heap:=(s.heap.push PySem.W.emptyDict).push (PySem.W.instObj C s.heap.objs.size) }:=by
 have e1:(s.heap.push PySem.W.emptyDict).get? s.heap.objs.size=some PySem.W.emptyDict:=Heap.get?_push_size s.heap rfl;have e2:((s.heap.push PySem.W.emptyDict).push (PySem.W.instObj C s.heap.objs.size)).get? (s.heap.objs.size+1)=some (PySem.W.instObj C s.heap.objs.size):=by
  have:=Heap.get?_push_size (s.heap.push PySem.W.emptyDict) (o:=PySem.W.instObj C s.heap.objs.size) rfl
  rwa [Heap.size_push] at this
 have e3:(s.heap.push PySem.W.emptyDict).Ns s.heap.objs.size (fun _=>none):=⟨PySem.W.emptyDict,#[],_,e1,rfl,(fun e he=>absurd he (by simp)),fun _=>rfl⟩;have I1:=I.laid (a:=s.heap.objs.size) (o:=.own (s.heap.objs.size+1)) (h':=s.heap.push PySem.W.emptyDict) (t':=s.toks) (fun b u q=>Heap.get?_push_of_some _ q) (Nat.le_refl _) ⟨_,e1⟩;refine I1.laid (a:=s.heap.objs.size+1) (o:=.ins C s.heap.objs.size []) (t':=s.toks) (fun b u q=>Heap.get?_push_of_some _ q) (Nat.le_of_eq (Heap.size_push _ _)) ?_;have ne:s.heap.objs.size≠s.heap.objs.size+1:=Nat.ne_of_lt (Nat.lt_succ_self _);refine⟨by rw[ae ne,ah],Nat.zero_le _,ne,e2,fun _=>none,(Heap.Ns1.of_empty e3).at fun o q=>Heap.get?_push_of_some _ q,fun _=>True.intro,fun y hy=>absurd rfl hy⟩
theorem akk {prog:Program}{w:World}{env:Env}{e:Expr}{f:Str}{pos:Pos}{s:Shared}{Q:Value→Shared→Prop}(hb:attributeBase e f env (eval e env)=eval e env)
  (h:wpAny (model prog w) A (eval e env) (fun o s₁=>wpAny (model prog w) A (getAttr o f true) Q E s₁) E s):wpAny (model prog w) A (eval (.Attribute e f pos) env) Q E s:=
 Attribute_any_ h (by rw[arm_eval_Attribute,hb])
end
def yH (K:PySem.W.Frag) (ta:TE) (f:Str):TE:=fun σ H Q=>ta σ H fun x H1=>∃ a C dx fs v,x = .ref a∧H1 a=some (.ins C dx fs)∧Cls K C∧cu K C f∧fs.lookup f=some v∧Q v H1
def anO (K:PySem.W.Frag) (ta tv:TE) (f:Str):TS:=fun D σ H=>tv σ H fun y H1=>ta σ H1 fun x H2=>∃ a C dx fs,x = .ref a∧H2 a=some (.ins C dx fs)∧Cls K C∧cu K C f∧fs.length<1000 ∧
 D.nx σ (upd H2 a (.ins C dx (eV f y fs)))
def aiX (X:Cx) (op:Operator) (rd:V→V→Hp→VK→Prop):Prop:=
 ∀ (pins:List (Addr×Obj)) (s:Shared) (σ:St) (H:Hp) (x y:V) (u v:Value) (Q:VK),Inv X pins σ H s→RelV x u→RelV y v→rd x y H Q→wpAny (model X.prog X.w) X.A (inplaceOp op u v) (EP X pins σ Q) X.xe s
def akY (K:PySem.W.Frag) (ta tv:TE) (rd:V→V→Hp→VK→Prop) (f:Str):TS:=fun D σ H=>ta σ H fun x H1=>∃ a C dx fs v,x = .ref a∧H1 a=some (.ins C dx fs)∧Cls K C∧cu K C f∧fs.lookup f=some v ∧
 tv σ H1 fun y H2=>rd v y H2 fun z H3=>∃ dx' fs',H3 a=some (.ins C dx' fs')∧fs'.length<1000∧D.nx σ (upd H3 a (.ins C dx' (eV f z fs')))
section
variable {X:Cx}{o e value:Expr}{f:Str}{pos pos' tpos:Pos}{ta tv:TE}
theorem au (he:PE X e ta) (hb:attributeBase e f X.env (eval e X.env)=eval e X.env):PE X (.Attribute e f pos) (yH X.K ta f):=by
 intro pins s σ H Q I h;refine akk hb (thn (he pins s σ H _ I h) fun u s1 ⟨x,H1,I1,rx,a,C,dx,fs,v,ex,ea,c,n,l,q⟩=>?_);subst ex;obtain rfl:u=Value.ref a:=rx;exact abd I1 ea c n l fun u' s2 I2 ru=>⟨v,H1,I2,ru,q⟩
theorem bC (ha:PE X o ta) (hv:PE X value tv) (hs:swapsWith value (some (.Attribute o f pos')) pos.line X.env=pure false):PS X (.Assign [.Attribute o f pos'] value pos) (anO X.K ta tv f):=by
 intro pins s σ H D I h;refine plainObj_wpAny_Assign_Attribute (thn (hv pins s σ H _ I h) fun u s1 ⟨y,H1,I1,ry,q⟩=>thn (ha pins s1 σ H1 _ I1 q) fun ov s2 ⟨x,H2,I2,rx,a,C,dx,fs,ex,ea,c,n,l,q2⟩=>?_) hs;subst ex;obtain rfl:ov=Value.ref a:=rx;exact abD I2 ea c n l ry fun s3 I3=>⟨σ,_,I3,q2⟩
theorem lC {op:Operator}{rd:V→V→Hp→VK→Prop}(ha:PE X o ta) (hv:PE X value tv) (hop:aiX X op rd):PS X (.AugAssign (.Attribute o f tpos) op value pos) (akY X.K ta tv rd f):=by
 intro pins s σ H D I h;refine wpAny_AugAssign_AttributeAny (thn (ha pins s σ H _ I h) fun ov s1 ⟨x,H1,I1,rx,a,C,dx,fs,v,ex,ea,c,n,l,q⟩=>?_);subst ex;obtain rfl:ov=Value.ref a:=rx;refine abd I1 ea c n l fun u s2 I2 ru=>thn (hv pins s2 σ H1 _ I2 q) fun w3 s3 ⟨y,H2,I3,ry,q3⟩=>thn (hop pins s3 σ H2 v y u w3 _ I3 ru ry q3) fun w4 s4 ⟨z,H3,I4,rz,dx',fs',ea',l',q4⟩=>?_;exact abD I4 ea' c n l' rz fun s5 I5=>⟨σ,_,I5,q4⟩
def anF:V→V→Hp→VK→Prop:=fun x y H Q=>∃ i j,x = .int i∧y = .int j∧Q (.int (i+j)) H
def anL:V→V→Hp→VK→Prop:=fun x y H Q=>∃ i j,x = .int i∧y = .int j∧Q (.int (i-j)) H
theorem abg:aiX X .Add anF:=by
 rintro pins s σ H x y u v Q I rx ry ⟨i,j,rfl,rfl,q⟩;obtain⟨t,rfl⟩:=(show ∃ t,u=Value.int i t from rx);obtain⟨t',rfl⟩:=(show ∃ t',v=Value.int j t' from ry);exact PyProof.Rows.iadd_int ⟨.int (i+j),H,I.tok _,⟨_,rfl⟩,q⟩
theorem ah3:aiX X .Sub anL:=by
 rintro pins s σ H x y u v Q I rx ry ⟨i,j,rfl,rfl,q⟩;obtain⟨t,rfl⟩:=(show ∃ t,u=Value.int i t from rx);obtain⟨t',rfl⟩:=(show ∃ t',v=Value.int j t' from ry);exact PyProof.Rows.isub_int ⟨.int (i-j),H,I.tok _,⟨_,rfl⟩,q⟩
theorem amL {pl:Sem Bool}{m:Str}{apos:Pos}{args:List Expr}{pins:List (Addr×Obj)}{s:Shared}{σ:St}{H:Hp}{Q:Value→Shared→Prop}{te:TE}(he:PE X e te) (I:Inv X pins σ H s)
  (h:te σ H fun x H1=>∃ a C dx fs g,x = .ref a∧H1 a=some (.ins C dx fs)∧Cls X.K C∧Meth X.K C m g∧fs.lookup m=none ∧
   ∀ s1,Inv X pins σ H1 s1→wpAny (model X.prog X.w) X.A (callWith pos (.ref g) [.ref a] (backTo pos (starEach args X.env)) (backToKw pos (keywordEach [] X.env))) Q X.xe s1)
  (ht:eval (.Call (.Attribute e m apos) args [] pos) X.env=(do
   let ov ← eval e X.env
   standAt apos.atName
   let (f,first) ← holding [ov] (getMethod ov m pl)
   callWith pos f first (backTo pos (starEach args X.env)) (backToKw pos (keywordEach [] X.env)))) :
  wpAny (model X.prog X.w) X.A (eval (.Call (.Attribute e m apos) args [] pos) X.env) Q X.xe s:=by
 refine PySem.W.methodCall_KW (pl:=pl) (thn (he pins s σ H _ I h) fun u s1 ⟨x,H1,I1,rx,a,C,dx,fs,g,ex,ea,c,k,l,q⟩=>?_) ht;subst ex;obtain rfl:u=Value.ref a:=rx;exact vo I1 ea c k l (q s1 I1)
end
structure bh (k:Nat) (A:Around):Prop where
 hd:A.handled=none
 dp:A.depth+3*k+5<recursionLimit
 un:A.units+16*k+200<cLine
theorem bh.mono {j k:Nat}{A:Around}(r:bh k A) (h:j≤k):bh j A:=⟨r.hd,by have:=r.dp;omega,by have:=r.un;omega⟩
theorem bh.deeper {k:Nat}{A:Around}(r:bh (k+1) A) (env:Env):bh k (A.deeper env):=
 ⟨r.hd,by have:=r.dp;show A.depth+1+3*k+5<_;omega,by have:=r.un;show A.units+3+16*k+200<_;omega⟩
theorem agV {A:Around}{C:Addr}{us:List Value}{kw:List (Str×Value)}:(A.under (.builtin "type.__call__" ⟨.ref C::us,kw⟩)).depth=A.depth+1:=by
 first|rfl|simp[Around.under,Code.weight,Code.isCreation,Code.isGuard,Code.isCaller,Code.frames,Code.isFrame,guardIds]
theorem agW {A:Around}{C:Addr}{us:List Value}{kw:List (Str×Value)}:(A.under (.builtin "type.__call__" ⟨.ref C::us,kw⟩)).units=A.units+1:=by
 first|rfl|simp[Around.under,Code.cUnits,Code.frames,Code.isFrame]
theorem bh.make {k:Nat}{A:Around}(r:bh (k+1) A) (C:Addr) (us:List Value) (kw:List (Str×Value)):bh k (A.under (.builtin "type.__call__" ⟨.ref C::us,kw⟩)):=
 ⟨r.hd,by have:=r.dp;rw[agV];omega,by have:=r.un;rw[agW];omega⟩
theorem bh.depth {k:Nat}{A:Around}(r:bh k A):A.depth<recursionLimit:=by have:=r.dp;omega
theorem bh.units {k:Nat}{A:Around}(r:bh k A):A.units+64<cLine:=by have:=r.un;omega
def kn:TA:=fun _ H Q=>Q [] H
def fP (ta:TE) (tr:TA):TA:=fun σ H Q=>ta σ H fun x H1=>tr σ H1 fun xs H2=>Q (x::xs) H2
section
variable {X:Cx}{e:Expr}{es:List Expr}{te:TE}{t:TA}{pos:Pos}
theorem af:PA X [] kn:=fun _ _ _ _ H Q I h=>Calls.spliced_nil ⟨[],H,I,.nil,h⟩
theorem aa (ha:PE X e te) (hr:PA X es t) (hs:starEach (e::es) X.env=(false,eval e X.env)::starEach es X.env:=by rfl):PA X (e::es) (fP te t):=by
 intro pos pins s σ H Q I h;rw[hs];show wpAny _ _ (spliced ((false,eval e X.env)::backTo pos (starEach es X.env))) _ _ s;refine Calls.spliced_cons (thn (ha pins s σ H _ I h) fun u s1 ⟨x,H1,I1,r1,q1⟩=>?_);exact thn (hr pos pins s1 σ H1 _ I1 q1) fun us s2 ⟨xs,H2,I2,r2,q2⟩=>⟨x::xs,H2,I2,.cons r1 r2,q2⟩
def anW (t:TA):TE:=fun σ H Q=>t σ H fun xs H1=>xs.length≤sizeLine∧∀ p,H1 p=none→Q (.ref p) (upd H1 p (.tup xs))
def anU (t:TA):TE:=fun σ H Q=>t σ H fun xs H1=>xs.length≤sizeLine∧∀ p,H1 p=none→Q (.ref p) (upd H1 p (.lst xs))
theorem ain {x1}(h:PA X es t):PE X (.Tuple es x1 pos) (anW t):=by
 intro pins s σ H Q I hq;refine wpAny_Tuple_spliced (thn (h pos pins s σ H _ I hq) fun us s1 ⟨xs,H1,I1,r,z,q⟩=>⟨by rw[← r.length];exact z,?_⟩);have hf:H1 s1.heap.objs.size=none:=I1.hok.fresh (Nat.le_refl _);refine⟨.ref s1.heap.objs.size,upd H1 s1.heap.objs.size (.tup xs),I1.laid (t':=s1.toks) (fun b u e=>Heap.get?_push_of_some _ e) (Nat.le_refl _) ?_,rfl,q _ hf⟩;exact⟨z,us,r,⟨_,Heap.get?_push_size _ rfl,rfl,_,rfl⟩⟩
theorem aS (h:PA X es t):PE X (.List es pos) (anU t):=by
 intro pins s σ H Q I hq;refine wpAny_List_spliced (thn (h pos pins s σ H _ I hq) fun us s1 ⟨xs,H1,I1,r,z,q⟩=>⟨by rw[← r.length];exact z,?_⟩);have hf:H1 s1.heap.objs.size=none:=I1.hok.fresh (Nat.le_refl _);refine⟨.ref s1.heap.objs.size,upd H1 s1.heap.objs.size (.lst xs),I1.laid (t':=s1.toks) (fun b u e=>Heap.get?_push_of_some _ e) (Nat.le_refl _) ?_,rfl,q _ hf⟩;exact⟨z,us,0,r,Heap.get?_push_size _ rfl⟩
end
abbrev Sp:=List V→Hp→VK→XK→Prop
abbrev CXT:=List Env→Hp→Shared→XK→Value→Shared→Prop
structure zP (P:Program) (w:World) (K:PySem.W.Frag) (mg:Str→Option Value) (base:Heap) (A:Around) (outer:List Env) (s:Shared) (H:Hp):Prop where
 frames:A.frames=some outer
 mod:Mod K mg base
 bs:∀ b o,base.get? b=some o→s.heap.get? b=some o∧H b=none
 bsz:base.objs.size≤s.heap.objs.size
 oZ:s.heap.FunFrames base outer
 frf:∀ b∈frs outer,H b=none
 hok:HOk P w H s.heap
 bare:AllBare s.gens
def CE (outer:List Env) (P:Program) (w:World) (H:Hp) (s:Shared) (Q:VK) (u:Value) (s':Shared):Prop:=
 ∃ v H',s'.os=s.os∧AllBare s'.gens∧Un (frs outer) [] H H' s.heap s'.heap∧HOk P w H' s'.heap∧RelV v u∧Q v H'
def CR (CX:CXT) (outer:List Env) (P:Program) (w:World) (H:Hp) (s:Shared) (Q:VK) (E:XK) (r:Result) (s':Shared):Prop:=
 match r with
 | .ok (.ret u)=>CE outer P w H s Q u s'
 | .ok _=>False
 | .error e=>CX outer H s E e s'
structure aP (P:Program) (w:World) (K:PySem.W.Frag) (mg:Str→Option Value) (base:Heap) (CX:CXT) (k:Nat) (f:Addr) (fd:FuncData) (ps:List Str) (sp:Sp):Prop where
 len:∀ vs H Q E,sp vs H Q E→vs.length=ps.length
 run:∀ (A:Around) (outer:List Env) (s:Shared) (H:Hp) (args:Args) (us:List Value) (vs:List V) (Q:VK) (E:XK),bh k A→zP P w K mg base A outer s H→BindsTo s fd args (ps.zip us)→Vals vs us→sp vs H Q E →
  codeAny (model P w) A (.call (.ref f) args) (CR CX outer P w H s Q E) s
theorem zP.make {P:Program}{w:World}{K:PySem.W.Frag}{mg:Str→Option Value}{base:Heap}{A:Around}{outer:List Env}{s:Shared}{H:Hp}(e:zP P w K mg base A outer s H) (C:Addr) (us:List Value) (kw:List (Str×Value)) :
  zP P w K mg base (A.under (.builtin "type.__call__" ⟨.ref C::us,kw⟩)) outer s H:=⟨by first|exact e.frames|(simpa [Around.under,Code.envs,Code.isFrame,pushEnvs] using e.frames),e.mod,e.bs,e.bsz,e.oZ,e.frf,e.hok,e.bare⟩
section
variable {X:Cx}{pins:List (Addr×Obj)}{σ:St}{H:Hp}{s s':Shared}
theorem Inv.alz (I:Inv X pins σ H s):zP X.prog X.w X.K X.mg X.base X.A X.stack s H:=
 ⟨I.ok.frames,I.ok.mod,I.bs,Nat.le_trans I.ok.bsz I.sz,I.stack,I.agl,I.hok,I.bare⟩
theorem Inv.after {Q:VK}{u:Value}(I:Inv X pins σ H s) (h:CE X.stack X.prog X.w H s Q u s'):EP X pins σ Q u s':=by
 obtain⟨v,H',os,bare,un,hok,r,q⟩:=h;obtain⟨hh,g,d,t,os'⟩:=s';obtain rfl:os'=s.os:=os;exact⟨v,H',I.call (h':=hh) (g':=g) (d':=d) (t':=t) (ch:=[]) un hok bare (fun b z=>absurd z (by simp)),r,q⟩
end
def qa (sp:Sp) (dvs:List V) (E:XK) (t:TA):TE:=fun σ H Q=>t σ H fun vs H1=>sp (vs++dvs) H1 Q E
def abG (C:Addr) (m:Str) (sp:Sp) (dvs:List V) (E:XK) (ta:TE) (t:TA):TE:=fun σ H Q=>ta σ H fun x H1=>∃ a dx fs,x = .ref a∧H1 a=some (.ins C dx fs)∧fs.lookup m=none ∧
 t σ H1 fun vs H2=>sp (x::(vs++dvs)) H2 Q E
def akf (C:Addr) (sp:Sp) (dvs:List V) (E:XK) (t:TA):TE:=fun σ H Q=>t σ H fun vs H1=>∀ x dx,H1 x=none→H1 dx=none→dx≠x →
 sp (.ref x::(vs++dvs)) (upd (upd H1 dx (.own x)) x (.ins C dx [])) (fun v H2=>v = .non∧Q (.ref x) H2) E
def Binds (K:PySem.W.Frag) (fd:FuncData) (ps:List Str) (ds:List Value):Prop:=
 ∀ (s:Shared) (us:List Value),K.In s.heap→(us++ds).length=ps.length→BindsTo s fd ⟨us,[]⟩ (ps.zip (us++ds))
theorem Binds.all {K:PySem.W.Frag}{fd:FuncData}{ps:List Str}(h:∀ us:List Value,us.length=ps.length→bindArgs fd ⟨us,[]⟩=pure (ps.zip us)):Binds K fd ps []:=fun s us _ hl=>by
 rw[List.append_nil] at hl ⊢;exact .of_eq (h us hl)
def Passes (CX:CXT) (X:Cx) (E:XK):Prop:=∀ (pins:List (Addr×Obj)) (σ:St) (H:Hp) (s:Shared) (e:Value) (s':Shared),Inv X pins σ H s→CX X.stack H s E e s'→X.xe e s'
section
variable {X:Cx}{CX:CXT}{k:Nat}{f C:Addr}{fd:FuncData}{ps:List Str}{sp:Sp}{dvs:List V}{ds:List Value}{E:XK}{x m:Str}{p pos apos:Pos}{e o:Expr}{es:List Expr}{ta:TE}{t:TA}
theorem abC {pins:List (Addr×Obj)}{σ:St}{H:Hp}{s:Shared}{Q:VK}{us:List Value}{vs:List V}(F:aP X.prog X.w X.K X.mg X.base CX k f fd ps sp) (hr:bh k X.A) (hb:Binds X.K fd ps ds) (hd:Vals dvs ds) (hx:Passes CX X E)
  (I:Inv X pins σ H s) (r:Vals vs us) (h:sp (vs++dvs) H Q E):wpAny (model X.prog X.w) X.A (call (.ref f) us) (EP X pins σ Q) X.xe s:=by
 have r2:Vals (vs++dvs) (us++ds):=r.append hd;have hl:(us++ds).length=ps.length:=by rw[← r2.length];exact F.len _ _ _ _ h
 refine wpAny_call (codeAny_mono (F.run X.A X.stack s H ⟨us,[]⟩ (us++ds) (vs++dvs) Q E hr I.alz (hb s us I.kIn hl) r2 h) fun r s' hq=>?_);cases r with
 | error e=>exact hx pins σ H s e s' I hq
 | ok fl=>
  cases fl with
  | ret u=>exact I.after hq
  | next=>exact False.elim hq
  | brk=>exact False.elim hq
  | cont=>exact False.elim hq
theorem aK (F:aP X.prog X.w X.K X.mg X.base CX k f fd ps sp) (hr:bh k X.A) (hg:Gl X x) (hm:X.mg x=some (.ref f)) (hk:PySem.W.keepIn X.K (.ref f)=true) (hb:Binds X.K fd ps ds) (hd:Vals dvs ds) (hx:Passes CX X E)
  (ha:PA X (e::es) t) (hdb:(x == ("__debug__" : Str))=false:=by decide) (he:starEach (e::es) X.env=(false,eval e X.env)::starEach es X.env:=by rfl) (hpl:(backTo pos (starEach es X.env)).any (·.1)=false:=by rfl) :
  PE X (.Call (.Name x p) (e::es) [] pos) (qa sp dvs E t):=by
 intro pins s σ H Q I h;refine wpAny_Call_Name_kw (qi I hg hm ?_ hdb);refine PySem.W.callWith_K (h₀:=X.base) I.ok.mod.kin hk (thn (ha pos pins s σ H _ I h) fun us s1 ⟨vs,H1,I1,r,q⟩=>⟨I1.kIn,?_⟩) he hpl;exact abC F hr hb hd hx I1 r q
theorem bj {pl:Sem Bool}(he:PE X o ta) (c:Cls X.K C) (hm:Meth X.K C m f) (F:aP X.prog X.w X.K X.mg X.base CX k f fd ps sp) (hr:bh k X.A) (hb:Binds X.K fd ps ds) (hd:Vals dvs ds) (hx:Passes CX X E) (ha:PA X (e::es) t)
  (hst:starEach (e::es) X.env=(false,eval e X.env)::starEach es X.env:=by rfl) (hpl:(backTo pos (starEach es X.env)).any (·.1)=false:=by rfl)
  (ht:eval (.Call (.Attribute o m apos) (e::es) [] pos) X.env=(do
   let ov ← eval o X.env
   standAt apos.atName
   let (f,first) ← holding [ov] (getMethod ov m pl)
   callWith pos f first (backTo pos (starEach (e::es) X.env)) (backToKw pos (keywordEach [] X.env))):=by rfl) :
  PE X (.Call (.Attribute o m apos) (e::es) [] pos) (abG C m sp dvs E ta t):=by
 intro pins s σ H Q I h;refine PySem.W.methodCall_KW (pl:=pl) (thn (he pins s σ H _ I h) fun u s1 ⟨x,H1,I1,rx,a,dx,fs,ex,ea,l,q⟩=>?_) ht;subst ex;obtain rfl:u=Value.ref a:=rx;refine vo I1 ea c hm l ?_;refine PySem.W.callWith_K (first:=[.ref a]) (h₀:=X.base) I.ok.mod.kin hm.kp (thn (ha pos pins s1 σ H1 _ I1 q) fun us s2 ⟨vs,H2,I2,r,q2⟩=>⟨I2.kIn,?_⟩) hst hpl;exact abC (us:=.ref a::us) (vs:=.ref a::vs) F hr hb hd hx I2 (.cons rfl r) q2
theorem ny {pl:Sem Bool}(he:PE X o ta) (c:Cls X.K C) (hm:Meth X.K C m f) (F:aP X.prog X.w X.K X.mg X.base CX k f fd ps sp) (hr:bh k X.A) (hb:Binds X.K fd ps ds) (hd:Vals dvs ds) (hx:Passes CX X E)
  (ht:eval (.Call (.Attribute o m apos) [] [] pos) X.env=(do
   let ov ← eval o X.env
   standAt apos.atName
   let (f,first) ← holding [ov] (getMethod ov m pl)
   callWith pos f first (backTo pos (starEach [] X.env)) (backToKw pos (keywordEach [] X.env))):=by rfl) :
  PE X (.Call (.Attribute o m apos) [] [] pos) (abG C m sp dvs E ta kn):=by
 intro pins s σ H Q I h;refine PySem.W.methodCall_KW (pl:=pl) (thn (he pins s σ H _ I h) fun u s1 ⟨x,H1,I1,rx,a,dx,fs,ex,ea,l,q⟩=>?_) ht;subst ex;obtain rfl:u=Value.ref a:=rx;refine vo I1 ea c hm l ?_;exact PySem.W.callWith_K0 (first:=[.ref a]) I1.kIn hm.kp (abC (us:=[.ref a]) (vs:=[.ref a]) F hr hb hd hx I1 (.cons rfl .nil) q)
structure Mk (K:PySem.W.Frag) (C f:Addr):Prop where
 makes:PySem.W.makesIn K C=true
 init:PySem.W.findIn K (.ref C) "__init__" = some (some (.ref f))
 fn:PySem.W.isFn K (.ref f)=true
 kp:PySem.W.keepIn K (.ref C)=true
theorem aeQ {pins:List (Addr×Obj)}{σ:St}{H:Hp}{s:Shared}{Q:VK}{us:List Value}{vs:List V}(M:Mk X.K C f) (F:aP X.prog X.w X.K X.mg X.base CX k f fd ps sp) (hr:bh (k+1) X.A) (hb:Binds X.K fd ps ds) (hd:Vals dvs ds)
  (hx:Passes CX X E) (I:Inv X pins σ H s) (r:Vals vs us)
  (h:∀ x dx,H x=none→H dx=none→dx≠x→sp (.ref x::(vs++dvs)) (upd (upd H dx (.own x)) x (.ins C dx [])) (fun v H2=>v = .non∧Q (.ref x) H2) E) :
  wpAny (model X.prog X.w) X.A (call (.ref C) us) (EP X pins σ Q) X.xe s:=by
 have hq:=h (s.heap.objs.size+1) s.heap.objs.size (I.hok.fresh (Nat.le_succ _)) (I.hok.fresh (Nat.le_refl _)) (Nat.ne_of_lt (Nat.lt_succ_self _));have I2:=Inv.made (C:=C) I;have r2:Vals (V.ref (s.heap.objs.size+1)::(vs++dvs)) (Value.ref (s.heap.objs.size+1)::(us++ds)):=.cons rfl (r.append hd);have hl:(Value.ref (s.heap.objs.size+1)::us++ds).length=ps.length:=by
  have e:=r2.length;rw[F.len _ _ _ _ hq] at e;exact e.symm
 refine wpAny_call (ajs (f:=f) I.kIn M.makes M.init (beq_iff_eq.mp M.fn) (codeAny_mono (F.run _ X.stack _ _ ⟨Value.ref (s.heap.objs.size+1)::us,[]⟩ (Value.ref (s.heap.objs.size+1)::(us++ds)) _ _ E (hr.make C us [])
  (I2.alz.make C us []) (hb _ (Value.ref (s.heap.objs.size+1)::us) I2.kIn hl) r2 hq) fun r s' hq'=>?_))
 cases r with
 | error e=>exact hx pins σ _ _ e s' I2 hq'
 | ok fl=>
  cases fl with
  | ret u=>
   obtain⟨v,H',I3,rv,ev,q3⟩:=I2.after hq';subst ev;exact⟨rv,⟨V.ref (s.heap.objs.size+1),H',I3,rfl,q3⟩⟩
  | next=>exact False.elim hq'
  | brk=>exact False.elim hq'
  | cont=>exact False.elim hq'
theorem y1 (M:Mk X.K C f) (F:aP X.prog X.w X.K X.mg X.base CX k f fd ps sp) (hr:bh (k+1) X.A) (hg:Gl X x) (hm:X.mg x=some (.ref C)) (hb:Binds X.K fd ps ds) (hd:Vals dvs ds) (hx:Passes CX X E)
  (ha:PA X (e::es) t) (hdb:(x == ("__debug__" : Str))=false:=by decide) (he:starEach (e::es) X.env=(false,eval e X.env)::starEach es X.env:=by rfl) (hpl:(backTo pos (starEach es X.env)).any (·.1)=false:=by rfl) :
  PE X (.Call (.Name x p) (e::es) [] pos) (akf C sp dvs E t):=by
 intro pins s σ H Q I h;refine wpAny_Call_Name_kw (qi I hg hm ?_ hdb);refine PySem.W.callWith_K (h₀:=X.base) I.ok.mod.kin M.kp (thn (ha pos pins s σ H _ I h) fun us s1 ⟨vs,H1,I1,r,q⟩=>⟨I1.kIn,?_⟩) he hpl;exact aeQ M F hr hb hd hx I1 r q
theorem ajv (M:Mk X.K C f) (F:aP X.prog X.w X.K X.mg X.base CX k f fd ps sp) (hr:bh (k+1) X.A) (hg:Gl X x) (hm:X.mg x=some (.ref C)) (hb:Binds X.K fd ps ds) (hd:Vals dvs ds) (hx:Passes CX X E)
  (hdb:(x == ("__debug__" : Str))=false:=by decide):PE X (.Call (.Name x p) [] [] pos) (akf C sp dvs E kn):=by
 intro pins s σ H Q I h;refine wpAny_Call_Name_kw (qi I hg hm ?_ hdb);exact PySem.W.callWith_K0 I.kIn M.kp (aeQ (us:=[]) M F hr hb hd hx I .nil h)
end
structure ay (N P:List Str) (sc:Scope):Prop where
 kind:sc.kind = .function
 co:sc.isCoroutine=false
 gen:sc.isGenerator=false
 nd:N.Nodup
 pre:N.take P.length=P
 par:∀ x∈P,sc.names.lookup x=some .local∨sc.names.lookup x=some .cell
 alU:∀ y∈sc.names,y.2≠.free
theorem acC {kindOf:Str→Option NameKind}{x:Str}:∀ {binds:List (Str×Value)}{m:Str→Option Value},(∀ v,(x,v) ∉ binds)→bindL kindOf binds m x=m x
 | [],_,_=>rfl
 | (n,v)::r,m,h=>by
  unfold bindL;rw[acC fun w hw=>h w (List.mem_cons_of_mem _ hw)];split
  ·have:x≠n:=by rintro rfl;exact h v List.mem_cons_self
   simp[this]
  ·rfl
theorem acA {kindOf:Str→Option NameKind}{x:Str}:∀ {binds:List (Str×Value)}{m:Str→Option Value},(∀ v,(x,v) ∉ binds)→bindC kindOf binds m x=m x
 | [],_,_=>rfl
 | (n,v)::r,m,h=>by
  unfold bindC;rw[acA fun w hw=>h w (List.mem_cons_of_mem _ hw)];split
  ·rfl
  ·have:x≠n:=by rintro rfl;exact h v List.mem_cons_self
   simp[this]
theorem acB {kindOf:Str→Option NameKind}{x:Str}{v:Value}:∀ {P:List Str}{vs:List Value}{i:Nat}{m:Str→Option Value},P.Nodup→P[i]?=some x→vs[i]?=some v→kindOf x=some .local →
  bindL kindOf (P.zip vs) m x=some v
 | [],_,_,_,_,h,_,_=>by simp at h
 | _::_,[],_,_,_,_,h,_=>by simp at h
 | p::P,w::vs,0,m,nd,h1,h2,hk=>by
  simp at h1 h2;subst h1;subst h2;show bindL kindOf ((p,w)::P.zip vs) m p=_;unfold bindL;rw[acC fun v hv=>(List.nodup_cons.mp nd).1 (List.of_mem_zip hv).1,if_pos hk];simp
 | p::P,w::vs,i+1,m,nd,h1,h2,hk=>by
  show bindL kindOf ((p,w)::P.zip vs) m x=_;unfold bindL;exact acB (i:=i) (List.nodup_cons.mp nd).2 (by simpa using h1) (by simpa using h2) hk
theorem acz {kindOf:Str→Option NameKind}{x:Str}{v:Value}:∀ {P:List Str}{vs:List Value}{i:Nat}{m:Str→Option Value},P.Nodup→P[i]?=some x→vs[i]?=some v→kindOf x≠some .local →
  bindC kindOf (P.zip vs) m x=some v
 | [],_,_,_,_,h,_,_=>by simp at h
 | _::_,[],_,_,_,_,h,_=>by simp at h
 | p::P,w::vs,0,m,nd,h1,h2,hk=>by
  simp at h1 h2;subst h1;subst h2;show bindC kindOf ((p,w)::P.zip vs) m p=_;unfold bindC;rw[acA fun v hv=>(List.nodup_cons.mp nd).1 (List.of_mem_zip hv).1,if_neg hk];simp
 | p::P,w::vs,i+1,m,nd,h1,h2,hk=>by
  show bindC kindOf ((p,w)::P.zip vs) m x=_;unfold bindC;exact acz (i:=i) (List.nodup_cons.mp nd).2 (by simpa using h1) (by simpa using h2) hk
def start (N:List Str) (vs:List V):St:=vs.map some++List.replicate (N.length-vs.length) none
def ab3 (CX:CXT) (P:Program) (w:World) (K:PySem.W.Frag) (mg:Str→Option Value) (base:Heap) (N:List Str) (qual:Str) (scope:Scope) (f:Addr) (cd:Value) (A:Around) (outer:List Env) (s:Shared) (H:Hp) (E:XK):Cx where
 prog:=P
 w:=w
 K:=K
 mg:=mg
 base:=base
 A:=A.deeper (envOfC qual scope s.heap.objs.size f cd)
 N:=N
 s_0:=s
 H_0:=H
 env:=envOfC qual scope s.heap.objs.size f cd
 outer:=outer
 stack:=envOfC qual scope s.heap.objs.size f cd::outer
 ex:=[]
 calm:=true
 fn:=fun _=>true
 pn:=[]
 xe:=fun e s'=>wpAny (model P w) (A.deeper (envOfC qual scope s.heap.objs.size f cd)) (leaving (envOfC qual scope s.heap.objs.size f cd) e) (fun _ s''=>CX outer H s E e s'') (fun e' s''=>CX outer H s E e' s'') s'
theorem adW {sc:Scope}{n:Nat}{x:Str}(h:sc.names.lookup x=some .cell):∃ c,(cellsFrom n sc.names []).lookup x=some c:=by
 have q:=PySem.W.cellsFrom_some sc.names n [] (.inl h);exact Option.isSome_iff_exists.mp q
theorem ah4 {CX:CXT}{P:Program}{w:World}{K:PySem.W.Frag}{mg:Str→Option Value}{base:Heap}{N ps:List Str}{qual:Str}{scope:Scope}{f:Addr}{cd:Value}{A:Around}{outer:List Env}{s s1:Shared}{H:Hp}{E:XK}{us:List Value}{vs:List V}
  (S:ay N ps scope) (hd:A.handled=none) (e0:zP P w K mg base A outer s H) (hl:vs.length=ps.length) (r:Vals vs us)
  (x:InCallC s s.heap.objs.size (bindL (envOfC qual scope s.heap.objs.size f cd).kindOf (ps.zip us) fun _=>none) (cellsFrom (s.heap.objs.size+1) scope.names []) (bindC (envOfC qual scope s.heap.objs.size f cd).kindOf (ps.zip us) fun _=>none) s1) :
  Inv (ab3 CX P w K mg base N qual scope f cd A outer s H E) [] (start N vs) H s1:=by
 have hpl:ps.length≤N.length:=by have:=congrArg List.length S.pre;rw[List.length_take] at this;omega
 obtain⟨h1,tk,rfl,hk⟩:=x.done;have noA:∀ b:Addr,b ∉ (ab3 CX P w K mg base N qual scope f cd A outer s H E).ex:=fun b z=>absurd (show b∈([]:List Addr) from z) (by simp);refine⟨⟨e0.mod,S.kind,rfl,rfl,Nat.le_refl _,fun y z c h1 h2=>?_,fun y hy=>?_,fun y c _ h=>?_,fun _=>hd,Around.frames_deeper e0.frames,.inr ⟨rfl,rfl⟩,fun b z=>absurd z (noA b),e0.bs,e0.bsz,fun b _ _=>noA b,fun b z=>absurd z (noA b),e0.oZ,e0.frf⟩,
  rfl,e0.bare,Un.kept hk,⟨_,x.toInCall.ns,fun i y v h1 h2 h3=>?_⟩,fun y c h=>⟨_,x.cell y c h⟩,e0.hok.fresh (Nat.le_refl _),fun y c h=>?_,fun p hp=>absurd (show p∈([]:List (Addr×Obj)) from hp) (by simp),e0.hok.kept hk,?_⟩
 ·exact name_of_addr x.apart (PySem.mem_of_lookup h1) (PySem.mem_of_lookup h2)
 ·have hy:scope.names.lookup y=some .cell∨scope.names.lookup y=some .free:=hy;rcases hy with hy|hy
  ·exact adW hy
  ·exact absurd rfl (S.alU _ (PySem.mem_of_lookup hy))
 ·exact Nat.le_of_lt (x.above y c (PySem.mem_of_lookup h))
 ·have hi:i<vs.length:=by
   unfold start at h2;by_cases hi:i<vs.length
   ·exact hi
   ·rw[List.getElem?_append_right (by simpa using hi)] at h2;rw[List.getElem?_replicate] at h2;split at h2 <;> cases h2
  have ha:vs[i]?=some v:=by
   unfold start at h2;rw[List.getElem?_append_left (by simpa using hi),List.getElem?_map] at h2;cases e:vs[i]? with
   | none=>rw[e] at h2;cases h2
   | some a=>rw[e] at h2;cases h2;rfl
  obtain⟨u,hu,rv⟩:=r.get ha;have hp:ps[i]?=some y:=by
   rw[← S.pre,List.getElem?_take_of_lt (by omega)];exact h1
  have ndP:ps.Nodup:=by rw[← S.pre];exact S.nd.sublist (List.take_sublist _ _)
  refine⟨u,rv,?_⟩;rcases S.par y (List.mem_of_getElem? hp) with k|k
  ·exact .inl ⟨k,acB ndP hp hu k⟩
  ·obtain⟨c,e⟩:=adW (n:=s.heap.objs.size+1) k;refine .inr ⟨.inl k,c,e,?_⟩;have q:=x.cell y c e;rw[acz ndP hp hu (by show scope.names.lookup y≠_;rw[k];decide)] at q;exact q
 ·exact e0.hok.fresh (Nat.le_of_lt (x.above y c (PySem.mem_of_lookup h)))
 ·unfold start;show _=N.length;rw[List.length_append,List.length_map,List.length_replicate];omega
theorem amX {CX:CXT}{P:Program}{w:World}{K:PySem.W.Frag}{mg:Str→Option Value}{base:Heap}{k:Nat}{f:Addr}{name qual:Str}{params:Arguments}{body:List Stmt}{scope:Scope}{dV kV doc pm cdv ct oc:Value}{an od:Option Addr}
  {osl:Array (Option Value)} {N ps:List Str} {sp:Sp} (lk:K.lookup f=some ⟨oc,od,.func (PySem.W.fnOf name qual params body scope dV kV doc pm an cdv ct),osl⟩) (hcd:PySem.W.codeIn K cdv qual=true) (S:ay N ps scope)
  (len:∀ vs H Q E,sp vs H Q E→vs.length=ps.length)
  (hbody:∀ (A:Around) (outer:List Env) (s:Shared) (H:Hp) (vs:List V) (Q:VK) (E:XK),bh k (A.deeper (envOfC qual scope s.heap.objs.size f cdv))→sp vs H Q E →
   ∃ t,PSs (ab3 CX P w K mg base N qual scope f cdv A outer s H E) body t∧t { nx:=fun _ H'=>Q .non H',rt:=Q } (start N vs) H) :
  aP P w K mg base CX (k+1) f (PySem.W.fnOf name qual params body scope dV kV doc pm an cdv ct) ps sp:=by
 refine⟨len,fun A outer s H args us vs Q E hr e0 hb r hsp=>?_⟩;have hl:=len _ _ _ _ hsp;have KX:K.In s.heap:=e0.mod.kin.keeps fun b o e=>(e0.bs b o e).1;have lim:s.heap.NoLimit:=e0.mod.nolimit.keeps fun b o e=>(e0.bs b o e).1;have hkind:∀ y∈ps.zip us,scope.names.lookup y.1=some .local∨(scope.names.lookup y.1=some .cell∧((cellsFrom (s.heap.objs.size+1) scope.names []).lookup y.1).isSome=true):=fun ⟨n,v⟩ hy=>by
  rcases S.par n (List.of_mem_zip hy).1 with q|q
  ·exact .inl q
  ·exact .inr ⟨q,PySem.W.cellsFrom_some _ _ _ (.inl q)⟩
 refine codeAny_call_function hr.depth (KX _ _ lk) rfl S.co S.gen rfl (PySem.W.codeRec_of KX hcd) (hb _ _ _ _ ?_);refine wpAny_newFunctionEnv_cells S.kind hkind fun env he s1 x=>?_;subst he;refine⟨lim.keeps x.toInCall.keep,codeAny_func ?_⟩;obtain⟨t,ht,hq⟩:=hbody A outer s H vs Q E (hr.deeper _) hsp;have I:Inv (ab3 CX P w K mg base N qual scope f cdv A outer s H E) [] (start N vs) H s1:=ah4 S hr.hd e0 hl r x;refine wpAny_mono (ht [] s1 (start N vs) H _ I hq) (fun fl s' hs=>?_) fun e s' hs=>hs;have fin:∀ {σ':St} {H':Hp} {v:V} {u:Value},Inv (ab3 CX P w K mg base N qual scope f cdv A outer s H E) [] σ' H' s'→RelV v u→Q v H'→CE outer P w H s Q u s':=
  fun {σ' H' v u} J rv q=>⟨v,H',J.os,J.bare,J.base,J.hok,rv,q⟩
 cases fl with
 | ret u=>
  obtain⟨v,σ',H',J,rv,q⟩:=hs;exact fin J rv q
 | next=>
  obtain⟨σ',H',J,q⟩:=hs;exact fin (v:=V.non) (u:=Value.none) J rfl q
 | brk=>
  obtain⟨_,_,_,q⟩:=hs;exact False.elim q
 | cont=>
  obtain⟨_,_,_,q⟩:=hs;exact False.elim q
section
variable {X:Cx}{x:Str}{p pos:Pos}{e:Expr}{es:List Expr}{t:TA}{id T:String}{r:List V→Hp→VK→Prop}
def tCB (r:List V→Hp→VK→Prop) (t:TA):TE:=fun σ H Q=>t σ H fun vs H1=>r vs H1 Q
theorem a6 (hc:nW X (.builtin id) r) (hg:Gl X x) (hm:X.mg x=none) (hv:bootBuiltins x=some (.builtin id)) (ha:PA X (e::es) t) (hn:x ≠ "__name__":=by decide) (hdb:(x == ("__debug__" : Str))=false:=by decide)
  (he:starEach (e::es) X.env=(false,eval e X.env)::starEach es X.env:=by rfl) (hpl:(backTo pos (starEach es X.env)).any (·.1)=false:=by rfl):PE X (.Call (.Name x p) (e::es) [] pos) (tCB r t):=by
 intro pins s σ H Q I h;refine wpAny_Call_Name_kw (ua I hg hm hv ?_ hn hdb);exact PyProof.Rows.callWith_builtin1 (thn (ha pos pins s σ H _ I h) fun us s1 ⟨vs,H1,I1,r1,q1⟩=>hc pins s1 σ H1 vs us Q I1 r1 q1) he hpl
theorem aim (hc:nW X (.type T) r) (hg:Gl X x) (hm:X.mg x=none) (hv:bootBuiltins x=some (.type T)) (ha:PA X (e::es) t) (hn:x ≠ "__name__":=by decide) (hdb:(x == ("__debug__" : Str))=false:=by decide)
  (he:starEach (e::es) X.env=(false,eval e X.env)::starEach es X.env:=by rfl) (hpl:(backTo pos (starEach es X.env)).any (·.1)=false:=by rfl):PE X (.Call (.Name x p) (e::es) [] pos) (tCB r t):=by
 intro pins s σ H Q I h;refine wpAny_Call_Name_kw (ua I hg hm hv ?_ hn hdb);exact PyProof.Rows.callWith_type1 (thn (ha pos pins s σ H _ I h) fun us s1 ⟨vs,H1,I1,r1,q1⟩=>hc pins s1 σ H1 vs us Q I1 r1 q1) he hpl
end
end L2
namespace HT
open PySem PyProof.Rows
section
variable {prog:Program}{w:World}{A:Around}{E:Value→Shared→Prop}{s:Shared}
def sIx (n d:Nat):Option Int→Nat
 | none=>d
 | some v=>if v<0 then (v+(n:Int)).toNat else min v.toNat n
theorem ajE (n d:Nat):sIx n d none=d:=rfl
theorem akZ (n d k:Nat):sIx n d (some (k:Int))=min k n:=by
 show(if(k:Int)<0 then ((k:Int)+(n:Int)).toNat else min (k:Int).toNat n)=min k n;rw[if_neg (by omega),Int.toNat_natCast]
theorem amb (n d:Nat) (hd:d≤n) (o:Option Int):sIx n d o≤n:=by
 cases o with
 | none=>exact hd
 | some v=>
  show(if v<0 then (v+(n:Int)).toNat else min v.toNat n)≤n;by_cases hv:v<0
  ·rw[if_pos hv];omega
  ·rw[if_neg hv];exact Nat.min_le_right _ _
theorem afY (v:Int) (n d:Nat):(if v<0 then max (v+(n:Int)) 0 else min v (n:Int))=((sIx n d (some v):Nat):Int):=by
 show(if v<0 then max (v+(n:Int)) 0 else min v (n:Int))=(((if v<0 then (v+(n:Int)).toNat else min v.toNat n):Nat):Int);by_cases hv:v<0
 ·simp only[if_pos hv];omega
 ·simp only[if_neg hv];omega
theorem agt (lo hi:Option Int) (n:Nat):Builtin.Slice.sliceAdjust lo hi 1 (n:Int)=(((sIx n 0 lo:Nat):Int),((sIx n n hi:Nat):Int)):=by
 have h1:¬ ((1:Int)<0):=by omega
 unfold Builtin.Slice.sliceAdjust;simp only[h1,if_false];refine Prod.ext ?_ ?_
 ·cases lo with
  | none=>rfl
  | some v=>exact afY v n 0
 ·cases hi with
  | none=>rfl
  | some v=>exact afY v n n
theorem aha (i j:Nat):Builtin.Slice.slicePlaces (i:Int) (j:Int) 1=j-i:=by
 unfold Builtin.Slice.slicePlaces;have h1:(1:Int) > 0:=by omega
 simp only[h1,if_true,Int.ediv_one];split <;> omega
theorem abE {v:Value}{o:Option Int}{Q:Option Int→Shared→Prop}(p:IsPart v o) (h:Q o s):wpAny (model prog w) A (Builtin.Slice.slicePartIndex v) Q E s:=by
 cases p with
 | none=>exact slicePart_none h
 | int i t=>exact slicePart_int h
theorem aaI {sl:Addr}{vl vu:Value}{lo hi:Option Int}{n:Nat}{Q:Int×Int×Nat→Shared→Prop}(hs:s.heap.IsSliceOf sl vl vu .none) (pl:IsPart vl lo) (pu:IsPart vu hi)
  (h:Q (((sIx n 0 lo:Nat):Int),1,sIx n n hi-sIx n 0 lo) s):wpAny (model prog w) A (Builtin.Slice.sliceApplied (.ref sl) (pure (n:Int))) Q E s:=by
 obtain⟨os,hos,hcs,hds⟩:=id hs;unfold Builtin.Slice.sliceApplied Builtin.Slice.sliceFields;refine wpAny_bind (wpAny_bind (wpAny_field hos hds (x:=vl) rfl (wpAny_bind (wpAny_field hos hds (x:=vu) rfl (wpAny_bind (wpAny_field hos hds (x:=.none) rfl (wpAny_pure ?_)))))));refine wpAny_bind (slicePart_none ?_);show wpAny _ _ (if((1:Int) == 0)=true then _ else _) _ _ s;rw[if_neg (by decide)];refine wpAny_bind (abE pl (wpAny_bind (abE pu (wpAny_bind (wpAny_pure ?_)))));show wpAny _ _ (match Builtin.Slice.sliceAdjust lo hi 1 (n:Int) with|(lo,hi)=>pure (lo,(1:Int),Builtin.Slice.slicePlaces lo hi 1)) _ _ s;rw[agt lo hi n];show wpAny _ _ (pure (((sIx n 0 lo:Nat):Int),(1:Int),Builtin.Slice.slicePlaces ((sIx n 0 lo:Nat):Int) ((sIx n n hi:Nat):Int) 1)) _ _ s;rw[aha];exact wpAny_pure h
theorem ajw (xs:Array Value) (i k:Nat):((List.range k).filterMap fun (m:Nat)=>xs[((i:Int)+(m:Int)*1).toNat]?).toArray=((xs.toList.drop i).take k).toArray:=by
 have e:(fun (m:Nat)=>xs[((i:Int)+(m:Int)*1).toNat]?)=fun m=>xs[i+m]?:=by
  funext m;have:((i:Int)+(m:Int)*1).toNat=i+m:=by omega
  rw[this]
 rw[e];have:=pick_run xs i k;rw[List.filterMap_map] at this;have e2:((fun x=>xs[x]?)∘fun x=>i+x)=fun m=>xs[i+m]?:=rfl;rw[e2] at this;rw[this]
theorem y9 {t sl:Addr}{items:Array Value}{vl vu:Value}{lo hi:Option Int}{Q:Value→Shared→Prop}(ht:IsTup s.heap t items) (hs:s.heap.IsSliceOf sl vl vu .none) (pl:IsPart vl lo) (pu:IsPart vu hi)
  (hw:¬ (sIx items.size 0 lo=0∧sIx items.size items.size hi=items.size))
  (h:Q (.ref s.heap.objs.size) { s with heap:=s.heap.push { cls:=.type "tuple",data:=.seq ((items.toList.drop (sIx items.size 0 lo)).take (sIx items.size items.size hi-sIx items.size 0 lo)).toArray } })
  (hsz:items.size≤sizeLine):wpAny (model prog w) A (getItem (.ref t) (.ref sl)) Q E s:=by
 have htake:sizeOk (.seq ((items.toList.drop (sIx items.size 0 lo)).take (sIx items.size items.size hi-sIx items.size 0 lo)).toArray):=by
  show((items.toList.drop (sIx items.size 0 lo)).take (sIx items.size items.size hi-sIx items.size 0 lo)).toArray.size≤sizeLine;rw[List.size_toArray,List.length_take,List.length_drop,Array.length_toList];omega
 have hj:sIx items.size items.size hi≤items.size:=amb _ _ (Nat.le_refl _) hi;obtain⟨os,hos,hcs,hds⟩:=id hs;have hTs:s.TypeIs (.ref sl) "slice":=⟨os,hos,hcs⟩;unfold getItem
 try with_reducible refine wpAny_holding ?_
 first|refine wpAny_bind (wpAny_pure ?_)|skip
 refine wpAny_bind (wpAny_sequenceKey ht.typeIs (by decide) ?_);refine wpAny_bind (wpAny_callSpecial?_slot (name:=Str.ofString "__getitem__") ht.typeIs PyProof.Rows.slot_tuple_getitem
  (wpAny_call_entry PyProof.Rows.slot_tuple_getitem ht.typeIs entry_tuple_getitem ?_ (args_tuple_getitem _ _)))
 show wpAny _ _ (Builtin.Tuple.tupleItemsOf (.ref t) >>= _) _ _ s;refine wpAny_bind (tupleItemsOf_ ht ?_);refine wpAny_bind (wpAny_typeOf hTs ?_);rw[if_pos (by decide)];refine wpAny_bind (aaI hs pl pu ?_);have hno:¬ ((((sIx items.size 0 lo:Nat):Int) == 0&&(1:Int) == 1&&(sIx items.size items.size hi-sIx items.size 0 lo) == items.size)=true):=by
  intro q;rw[Bool.and_eq_true,Bool.and_eq_true] at q;have q1:((sIx items.size 0 lo:Nat):Int)=0:=eq_of_beq q.1.1;have q2:sIx items.size items.size hi-sIx items.size 0 lo=items.size:=eq_of_beq q.2;exact hw ⟨by omega,by omega⟩
 show wpAny _ _ (if(((sIx items.size 0 lo:Nat):Int) == 0&&(1:Int) == 1&&(sIx items.size items.size hi-sIx items.size 0 lo) == items.size)=true then _ else _) _ _ s;rw[if_neg hno,ajw]
 first
  | exact wpAny_bind (m:=Builtin.Tuple.tupleExact _) (wpAny_newObj_type (wpAny_pure ⟨_,rfl,wpAny_pure h⟩) htake)
  | exact wpAny_bind (m:=Builtin.Tuple.tupleExact _) (wpAny_newObj_type (wpAny_bind (wpAny_pure (wpAny_pure ⟨_,rfl,wpAny_pure h⟩))) htake)
  | exact wpAny_bind (wpAny_bind (m:=Builtin.Tuple.tupleExact _) (wpAny_newObj_type (wpAny_pure (wpAny_pure ⟨_,rfl,wpAny_pure h⟩)) htake))
  | exact wpAny_bind (wpAny_bind (m:=Builtin.Tuple.tupleExact _) (wpAny_newObj_type (wpAny_pure ⟨_,rfl,wpAny_pure h⟩) htake))
end
end HT
namespace L2
open PySem PySem.Spec PyProof.Rows
abbrev TO:=St→Hp→(Option Int→Hp→Prop)→Prop
def PO (X:Cx) (e:Option Expr) (t:TO):Prop:=
 ∀ (pins:List (Addr×Obj)) (s:Shared) (σ:St) (H:Hp) (Q:Option Int→Hp→Prop),Inv X pins σ H s→t σ H Q →
  wpAny (model X.prog X.w) X.A (evalPart e X.env) (fun u s'=>∃ o H',Inv X pins σ H' s'∧IsPart u o∧Q o H') X.xe s
def alg:TO:=fun _ H Q=>Q none H
def anl (t:TE):TO:=fun σ H Q=>t σ H fun x H1=>∃ i,x = .int i∧Q (some i) H1
theorem intsAre_of {ns:List Int}:∀ {us:List Value},Vals (ns.map V.int) us→IntsAre us ns:=by
 induction ns with
 | nil=>intro us r;rw[List.map_nil] at r;cases r;exact .nil
 | cons n ns ih=>
  intro us r;rw[List.map_cons] at r;cases r with
  | cons r1 r2=>
   obtain⟨t,e⟩:=r1;subst e;exact .cons n t (ih r2)
section
variable {X:Cx}{e:Expr}{te:TE}{lo hi:Option Expr}{tl th:TO}{pos p2:Pos}
theorem acm:PO X none alg:=by
 intro pins s σ H Q I h;rw[evalPart_none];exact wpAny_pure ⟨none,H,I,.none,h⟩
theorem acn (h:PE X e te):PO X (some e) (anl te):=by
 intro pins s σ H Q I hw;rw[evalPart_some];refine thn (h pins s σ H _ I hw) fun u s1 ⟨x,H1,I1,r1,q1⟩=>?_;obtain⟨i,rfl,q⟩:=q1;obtain⟨t,rfl⟩:=r1;exact⟨some i,H1,I1,.int i t,q⟩
def SlR (X:Cx) (r:V→Option Int→Option Int→Hp→VK→Prop):Prop:=
 ∀ (pins:List (Addr×Obj)) (s:Shared) (σ:St) (H:Hp) (x:V) (v vl vu:Value) (lo hi:Option Int) (sl:Addr) (Q:VK),Inv X pins σ H s→RelV x v→s.heap.IsSliceOf sl vl vu .none→IsPart vl lo→IsPart vu hi→r x lo hi H Q →
  ∃ T id,typeLookup (.type T) "__getitem__" = pure (some (.builtin id))∧s.TypeIs v T∧wpAny (model X.prog X.w) X.A (getItem v (.ref sl)) (EP X pins σ Q) X.xe s
def tSl (r:V→Option Int→Option Int→Hp→VK→Prop) (te:TE) (tl th:TO):TE:=fun σ H Q=>te σ H fun x H1=>tl σ H1 fun l H2=>th σ H2 fun u H3=>r x l u H3 Q
theorem aap {r:V→Option Int→Option Int→Hp→VK→Prop}(hr:SlR X r) (he:PE X e te) (hl:PO X lo tl) (hu:PO X hi th):PE X (.Subscript e (.Slice lo hi none p2) pos) (tSl r te tl th):=by
 intro pins s σ H Q I h;refine Subscript_ (thn (he pins s σ H _ I h) fun v s1 ⟨x,H1,I1,r1,q1⟩=>?_);refine wpAny_Slice (thn (hl pins s1 σ H1 _ I1 q1) fun vl s2 ⟨l,H2,I2,pl,q2⟩=>thn (hu pins s2 σ H2 _ I2 q2) fun vu s3 ⟨u,H3,I3,pu,q3⟩=>?_);rw[evalPart_none];refine wpAny_pure ?_;have I4:Inv X pins σ H3 { s3 with heap:=s3.heap.push { cls:=.type "slice",data:=.fields #[vl,vu,.none] } }:=I3.kept (t':=s3.toks) fun b ob q=>Heap.get?_push_of_some _ q;obtain⟨T,id,hT,ht,hg⟩:=hr pins { s3 with heap:=s3.heap.push { cls:=.type "slice",data:=.fields #[vl,vu,.none] } } σ H3 x v vl vu l u s3.heap.objs.size Q I4 r1 (Heap.IsSliceOf.new ..) pl pu q3;show wpAny (model X.prog X.w) X.A (subscriptTail e (.Slice lo hi none p2) v (.ref s3.heap.objs.size)) (EP X pins σ Q) X.xe { s3 with heap:=s3.heap.push { cls:=.type "slice",data:=.fields #[vl,vu,.none] } };exact tail_any (ops:=[.ref s3.heap.objs.size,v]) ht hT hg (by with_unfolding_all rfl)
def ve (xs:List V) (lo hi:Option Int):List V:=(xs.drop (HT.sIx xs.length 0 lo)).take (HT.sIx xs.length xs.length hi-HT.sIx xs.length 0 lo)
theorem zg (xs:List V) (lo hi:Option Int):(ve xs lo hi).length≤xs.length:=by
 unfold ve;rw[List.length_take,List.length_drop];omega
def anK (K:PySem.W.Frag):V→Option Int→Option Int→Hp→VK→Prop:=fun x lo hi H Q=>∃ a xs,x = .ref a∧SqT K H a xs ∧
 ¬ (HT.sIx xs.length 0 lo=0∧HT.sIx xs.length xs.length hi=xs.length)∧∀ p,H p=none→Q (.ref p) (upd H p (.tup (ve xs lo hi)))
theorem amd:SlR X (anK X.K):=by
 intro pins s σ H x v vl vu lo hi sl Q I rx hs pl pu h;obtain⟨a,xs,rfl,hx,hw,q⟩:=h;cases rx;obtain⟨its,r,ht,hz⟩:=I.tuple hx;have hlen:its.toArray.size=xs.length:=by rw[List.size_toArray];exact r.length.symm
 refine⟨"tuple",_,PyProof.Rows.slot_tuple_getitem.lookup,ht.typeIs,?_⟩;refine HT.y9 ht hs pl pu (by rw[hlen];exact hw) ?_ (by rw[hlen];exact hz);rw[hlen];refine⟨.ref s.heap.objs.size,_,I.laid (t':=s.toks) (o:=.tup (ve xs lo hi)) (fun b ob q=>Heap.get?_push_of_some _ q) (Nat.le_refl _) ?_,rfl,q _ (I.hok.fresh (Nat.le_refl _))⟩;exact⟨Nat.le_trans (zg xs lo hi) hz,_,(r.drop (HT.sIx xs.length 0 lo)).take (HT.sIx xs.length xs.length hi-HT.sIx xs.length 0 lo),IsTup.new _ _⟩
end
def ixN (n:Nat) (i:Int):Option Nat:=if 0≤i then (if i<n then some i.toNat else none) else if -(n:Int)≤i then some (i+n).toNat else none
def atI {α:Type}(xs:List α) (i:Int):Option α:=(ixN xs.length i).bind fun j=>xs[j]?
theorem af5 {n:Nat}{i:Int}{j:Nat}(h:ixN n i=some j):seqIndex? i n=some j∧j<n∧-(n:Int)≤i∧i<n:=by
 unfold ixN at h;by_cases h0:0≤i
 ·rw[if_pos h0] at h;by_cases h1:i<n
  ·rw[if_pos h1] at h;have e:i.toNat=j:=Option.some.inj h;exact⟨by rw[seqIndex_of h0 h1,e],by omega,by omega,h1⟩
  ·rw[if_neg h1] at h;cases h
 ·rw[if_neg h0] at h;by_cases h1:-(n:Int)≤i
  ·rw[if_pos h1] at h;have e:(i+n).toNat=j:=Option.some.inj h;exact⟨by rw[seqIndex_neg (by omega) h1,e],by omega,h1,by omega⟩
  ·rw[if_neg h1] at h;cases h
theorem afW {α:Type}{xs:List α}{i:Int}{v:α}(h:atI xs i=some v):∃ j,seqIndex? i xs.length=some j∧xs[j]?=some v∧j<xs.length∧-(xs.length:Int)≤i∧i<xs.length:=by
 unfold atI at h;cases e:ixN xs.length i with
 | none=>rw[e] at h;cases h
 | some j=>
  rw[e] at h;obtain⟨h1,h2,h3,h4⟩:=af5 e;exact⟨j,h1,h,h2,h3,h4⟩
theorem iT {α:Type}{xs:List α}{j:Nat}{v:α}(h:xs[j]?=some v):atI xs (j:Int)=some v:=by
 have hj:j<xs.length:=(List.getElem?_eq_some_iff.mp h).1;have e:ixN xs.length (j:Int)=some j:=by
  unfold ixN;rw[if_pos (by omega),if_pos (by omega)];simp
 unfold atI;rw[e];exact h
theorem ai7 {α:Type}(xs:List α) (v:α):atI (xs++[v]) (-1)=some v:=by
 have hl:(xs++[v]).length=xs.length+1:=by simp
 have e:ixN (xs++[v]).length (-1)=some xs.length:=by
  unfold ixN;rw[hl,if_neg (by decide),if_pos (by omega)];congr 1;omega
 unfold atI;rw[e];show(xs++[v])[xs.length]?=some v;simp
def akh (b:Expr):Prop:=∀ o i,subscripted b false o i=operate [o,i] (getItem o i)
def IxR (X:Cx) (r:R2):Prop:=
 ∀ (value slice:Expr) (pins:List (Addr×Obj)) (s:Shared) (σ:St) (H:Hp) (x y:V) (v u:Value) (Q:VK),Inv X pins σ H s→RelV x v→RelV y u→r x y H Q →
  subscripted slice false v u=operate [v,u] (getItem v u)→wpAny (model X.prog X.w) X.A (subscriptTail value slice v u) (EP X pins σ Q) X.xe s
def MtR (X:Cx) (id:String) (r:V→List V→Hp→VK→Prop):Prop:=
 ∀ (pins:List (Addr×Obj)) (s:Shared) (σ:St) (H:Hp) (x:V) (xs:List V) (v:Value) (us:List Value) (Q:VK),Inv X pins σ H s→RelV x v→Vals xs us→r x xs H Q →
  wpAny (model X.prog X.w) X.A (call (.builtin id) (v::us)) (EP X pins σ Q) X.xe s
section
variable {X:Cx}{a b:Expr}{ta tb:TE}{pos:Pos}
theorem mz {r:R2}(hr:IxR X r) (ha:PE X a ta) (hb:PE X b tb) (hs:akh b):PE X (.Subscript a b pos) (tOp r ta tb):=by
 intro pins s σ H Q I h;exact Subscript_ (aja ha hb I h fun v u s2 x y H2 I2 rx ry q=>hr a b pins s2 σ H2 x y v u Q I2 rx ry q (hs _ _))
def al6 (K:PySem.W.Frag):R2:=fun x y H Q=>∃ p xs i v,x = .ref p∧y = .int i∧SqL K H p xs∧atI xs i=some v∧Q v H
def al7 (K:PySem.W.Frag):R2:=fun x y H Q=>∃ p xs i v,x = .ref p∧y = .int i∧SqT K H p xs∧atI xs i=some v∧Q v H
theorem lq:IxR X (al6 X.K):=by
 intro value slice pins s σ H x y v u Q I rx ry h hs;obtain⟨p,xs,i,z,rfl,rfl,hq,he,q⟩:=h;cases rx;obtain⟨t,rfl⟩:=ry;obtain⟨its,r,pl,hz⟩:=I.list hq;obtain⟨j,h1,h2,h3,h4,h5⟩:=afW he;obtain⟨w,ew,rw'⟩:=r.get h2;have hl:=r.length;have hn:=x6;have fin:EP X pins σ Q w s:=⟨z,H,I,rw',q⟩;by_cases h0:0≤i
 ·have hj:i.toNat=j:=by
   rw[seqIndex_of h0 h5] at h1;exact Option.some.inj h1
  exact item_listR pl.isList h0 (by omega) (by rw[hj];simpa using ew) fin hs
 ·have hj:(i+(its.toArray.size:Int)).toNat=j:=by
   rw[seqIndex_neg (by omega) h4] at h1;rw[List.size_toArray,← hl];exact Option.some.inj h1
  exact subscriptTail_builtinR (x:=w) pl.isList.typeIs slot_list_getitem.lookup
   (wpAny_getItem_list_neg (Q:=fun r s'=>r=w∧EP X pins σ Q r s') pl.isList (by omega) (by rw[List.size_toArray] <;> omega) (by omega) (by rw[hj];simpa using ew) ⟨rfl,fin⟩) hs
theorem aen:IxR X (al7 X.K):=by
 intro value slice pins s σ H x y v u Q I rx ry h hs;obtain⟨p,xs,i,z,rfl,rfl,hq,he,q⟩:=h;cases rx;obtain⟨t,rfl⟩:=ry;obtain⟨its,r,pl,hz⟩:=I.tuple hq;obtain⟨j,h1,h2,h3,h4,h5⟩:=afW he;obtain⟨w,ew,rw'⟩:=r.get h2;have hl:=r.length;have hn:=x6;have fin:EP X pins σ Q w s:=⟨z,H,I,rw',q⟩;exact subscriptTail_builtinR (x:=w) pl.typeIs slot_tuple_getitem.lookup
  (getItem_tuple (j:=j) (Q:=fun r s'=>r=w∧EP X pins σ Q r s') pl (by omega) (by omega) (by rw[List.size_toArray,← hl];exact h1) (by simpa using ew) ⟨rfl,fin⟩) hs
theorem agX (its:List Value) (n j:Nat) (u:Value):Obj.mapSeq (·.setIfInBounds j u) { cls:=.type "list",data:=.seq its.toArray n } = { cls:=.type "list",data:=.seq (its.set j u).toArray n }:=by
 simp[Obj.mapSeq]
theorem Inv.lst {pins:List (Addr×Obj)}{σ:St}{H:Hp}{s:Shared}{p:Addr}{xs:List V}(I:Inv X pins σ H s) (h:H p=some (.lst xs)) :
  ∃ (its:List Value) (n:Nat),Vals xs its∧s.heap.get? p=some { cls:=.type "list",data:=.seq its.toArray n }∧xs.length≤sizeLine:=by
 obtain⟨z,its,n,r,e⟩:=I.hok p _ h;exact⟨its,n,r,e,z⟩
theorem Inv.alS {pins:List (Addr×Obj)}{σ:St}{H:Hp}{s:Shared}{p:Addr}{xs ys:List V}{its its':List Value}{n n':Nat}{f:Obj→Obj}(I:Inv X pins σ H s) (h:H p=some (.lst xs))
  (ho:s.heap.get? p=some { cls:=.type "list",data:=.seq its.toArray n }) (hf:f { cls:=.type "list",data:=.seq its.toArray n } = { cls:=.type "list",data:=.seq its'.toArray n' }) (r:Vals ys its') (hz:ys.length≤sizeLine) (t:Nat) :
  Inv X pins σ (upd H p (.lst ys)) { s with heap:=s.heap.update p f,toks:=t }:=by
 have e:(s.heap.update p f).get? p=some { cls:=.type "list",data:=.seq its'.toArray n' }:=by
  rw[Heap.get?_update_self f ho (by rw[hf] <;> rfl),hf]
 refine I.write (x:=p) (e:=p) (by rw[h];trivial) (.inl rfl) (fun b u hb q=>(Heap.get?_update_other _ _ (Ne.symm hb)).trans q) ⟨_,e⟩ ?_;exact⟨hz,its',n',r,e⟩
def anc:V→V→V→Hp→(Hp→Prop)→Prop:=fun o i v H Q=>∃ p xs k j,o = .ref p∧i = .int k∧H p=some (.lst xs)∧ixN xs.length k=some j∧Q (upd H p (.lst (xs.set j v)))
theorem set_list:alo X anc:=by
 intro pins s σ H o i v ov iv u Q I ro ri rv h;obtain⟨p,xs,k,j,rfl,rfl,hp,hj,q⟩:=h;cases ro;obtain⟨t,rfl⟩:=ri;obtain⟨its,n,r,ho,hz⟩:=I.lst hp;obtain⟨h1,h2,h3,h4⟩:=af5 hj;have hl:=r.length;have hn:=x6;have I':Inv X pins σ (upd H p (.lst (xs.set j v))) { s with heap:=s.heap.update p (Obj.mapSeq (·.setIfInBounds j u)) }:=
  I.alS hp ho (agX its n j u) (r.set rv j) (by rw[List.length_set];exact hz) s.toks
 by_cases h0:0≤k
 ·have hk:k.toNat=j:=by
   rw[seqIndex_of h0 h4] at h1;exact Option.some.inj h1
  exact PySem.W.ki_setAt ho h0 (by omega) (by rw[List.size_toArray,← hl];exact h4) (by rw[hk];exact⟨_,I',q⟩)
 ·have hk:(k+(its.toArray.size:Int)).toNat=j:=by
   rw[seqIndex_neg (by omega) h3] at h1;rw[List.size_toArray,← hl];exact Option.some.inj h1
  exact PySem.W.ki_setBack ho (by omega) (by rw[List.size_toArray,← hl];exact h3) (by omega) (by rw[hk];exact⟨_,I',q⟩)
theorem ae4 (lo hi:Option Int) (n:Nat):(sliceBounds lo hi none n).1=((HT.sIx n 0 lo:Nat):Int)∧(sliceBounds lo hi none n).2.1=((HT.sIx n n hi:Nat):Int)∧(sliceBounds lo hi none n).2.2=1:=by
 refine⟨?_,?_,rfl⟩
 ·cases lo with
  | none=>simp[sliceBounds,HT.sIx]
  | some i=>
   simp only[sliceBounds,HT.sIx,Option.getD_none,show(1:Int) > 0 by decide,if_true];by_cases h:i<0
   ·simp only[h,if_true] <;> omega
   ·simp only[h,if_false] <;> omega
 ·cases hi with
  | none=>simp[sliceBounds,HT.sIx]
  | some i=>
   simp only[sliceBounds,HT.sIx,Option.getD_none,show(1:Int) > 0 by decide,if_true];by_cases h:i<0
   ·simp only[h,if_true] <;> omega
   ·simp only[h,if_false] <;> omega
theorem ady (its:List Value) (lo hi:Option Int):slicePick its.toArray lo hi none=((its.drop (HT.sIx its.length 0 lo)).take (HT.sIx its.length its.length hi-HT.sIx its.length 0 lo)).toArray:=by
 obtain⟨h1,h2,h3⟩:=ae4 lo hi its.toArray.size;unfold slicePick;rw[h1,h2,h3];simp only[sliceRange_one,pick_run,List.size_toArray] <;> rfl
def anJ (K:PySem.W.Frag):V→Option Int→Option Int→Hp→VK→Prop:=fun x lo hi H Q=>∃ a xs,x = .ref a∧SqL K H a xs∧∀ p,H p=none→Q (.ref p) (upd H p (.lst (ve xs lo hi)))
theorem agh:SlR X (anJ X.K):=by
 intro pins s σ H x v vl vu lo hi sl Q I rx hs pl pu h;obtain⟨a,xs,rfl,hx,q⟩:=h;cases rx;obtain⟨its,r,ht,hz⟩:=I.list hx;have hlen:=r.length;refine⟨"list",_,slot_list_getitem.lookup,ht.isList.typeIs,?_⟩;refine wpAny_getItem_list_slice ht.isList hs pl pu .none (by simp) ?_ (by rw[List.size_toArray] <;> omega);rw[ady,← hlen];refine⟨.ref s.heap.objs.size,_,I.laid (t':=s.toks) (o:=.lst (ve xs lo hi)) (fun b ob q=>Heap.get?_push_of_some _ q) (Nat.le_refl _) ?_,rfl,q _ (I.hok.fresh (Nat.le_refl _))⟩;exact⟨Nat.le_trans (zg xs lo hi) hz,_,0,(r.drop (HT.sIx xs.length 0 lo)).take (HT.sIx xs.length xs.length hi-HT.sIx xs.length 0 lo),Heap.get?_push_size _ rfl⟩
def pS:V→Bool
 | .non=>true
 | .bl _=>true
 | .int _=>true
 | .str _=>true
 | _=>false
def eqV:V→V→Bool
 | .non,.non=>true
 | .bl a,.bl b=>a == b
 | .bl a,.int b=>(if a then 1 else 0) == b
 | .int a,.bl b=>a == (if b then 1 else 0)
 | .int a,.int b=>a == b
 | .str a,.str b=>a == b
 | _,_=>false
theorem alA {A:Around}{s:Shared}{y x:V}{u v:Value}(ry:RelV y u) (rx:RelV x v) (fy:pS y=true) (fx:pS x=true):SeqAt.EqAt A s u v (eqV y x):=by
 cases y with
 | non=>
  cases ry;cases x with
  | non=>cases rx;exact SeqAt.EqAt.same _
  | bl b=>cases rx;exact SeqAt.EqAt.none_bool b
  | int b=>obtain⟨t,rfl⟩:=rx;exact SeqAt.EqAt.none_int b t
  | str b=>obtain⟨t,rfl⟩:=rx;exact SeqAt.EqAt.none_str b t
  | _=>exact absurd (show false=true from fx) Bool.false_ne_true
 | bl a=>
  cases ry;cases x with
  | non=>cases rx;exact SeqAt.EqAt.bool_none a
  | bl b=>cases rx;exact SeqAt.EqAt.bool_bool a b
  | int b=>obtain⟨t,rfl⟩:=rx;exact SeqAt.EqAt.bool_int a b t
  | str b=>obtain⟨t,rfl⟩:=rx;exact SeqAt.EqAt.bool_str a b t
  | _=>exact absurd (show false=true from fx) Bool.false_ne_true
 | int a=>
  obtain⟨t',rfl⟩:=ry;cases x with
  | non=>cases rx;exact SeqAt.EqAt.int_none a t'
  | bl b=>cases rx;exact SeqAt.EqAt.int_bool a t' b
  | int b=>obtain⟨t,rfl⟩:=rx;exact SeqAt.EqAt.int_int a t' b t
  | str b=>obtain⟨t,rfl⟩:=rx;exact SeqAt.EqAt.int_str a t' b t
  | _=>exact absurd (show false=true from fx) Bool.false_ne_true
 | str a=>
  obtain⟨t',rfl⟩:=ry;cases x with
  | non=>cases rx;exact SeqAt.EqAt.str_none a t'
  | bl b=>cases rx;exact SeqAt.EqAt.str_bool a t' b
  | int b=>obtain⟨t,rfl⟩:=rx;exact SeqAt.EqAt.str_int a t' b t
  | str b=>obtain⟨t,rfl⟩:=rx;exact SeqAt.EqAt.str_str a t' b t
  | _=>exact absurd (show false=true from fx) Bool.false_ne_true
 | _=>exact absurd (show false=true from fy) Bool.false_ne_true
def eqU (x:V) (u:Value):Bool:=match u with
 | .none=>eqV .non x
 | .bool b=>eqV (.bl b) x
 | .int i _=>eqV (.int i) x
 | .str z _=>eqV (.str z) x
 | _=>false
theorem ahJ {x y:V}{u:Value}(r:RelV y u) (f:pS y=true):eqU x u=eqV y x:=by
 cases y with
 | non=>cases r;rfl
 | bl b=>cases r;rfl
 | int i=>obtain⟨t,rfl⟩:=r;rfl
 | str z=>obtain⟨t,rfl⟩:=r;rfl
 | _=>exact absurd (show false=true from f) Bool.false_ne_true
theorem tZ {x:V}:∀ {xs:List V}{us:List Value},Vals xs us→xs.all pS=true→us.any (eqU x)=xs.any fun y=>eqV y x
 | _,_,.nil,_=>rfl
 | y::xs,u::us,.cons r t,f=>by
  rw[List.all_cons,Bool.and_eq_true] at f;rw[List.any_cons,List.any_cons,ahJ r f.1,tZ t f.2]
theorem ra {A:Around}{s:Shared}{x:V}{v:Value}(rx:RelV x v) (fx:pS x=true):∀ {xs:List V}{us:List Value},Vals xs us→xs.all pS=true→∀ u∈us,SeqAt.EqAt A s u v (eqU x u)
 | _,_,.nil,_=>fun u hu=>by cases hu
 | y::xs,u::us,.cons r t,f=>fun u' hu=>by
  rw[List.all_cons,Bool.and_eq_true] at f;rcases List.mem_cons.mp hu with rfl|hu
  ·rw[ahJ r f.1];exact alA r rx f.1 fx
  ·exact ra rx fx t f.2 u' hu
def inV (x:V) (xs:List V):Bool:=xs.any fun y=>eqV y x
def rIn (K:PySem.W.Frag) (neg:Bool):R2:=fun x y H Q=>∃ p xs,y = .ref p∧(SqL K H p xs∨SqT K H p xs)∧pS x=true∧xs.all pS=true∧Q (.bl (if neg then !inV x xs else inV x xs)) H
theorem yd:OpR X (compareOp .In) (rIn X.K false):=by
 intro pins s σ H x y v u Q I rx ry h;obtain⟨p,xs,rfl,hq,fx,fs,q⟩:=h;cases ry;rcases hq with hq|hq
 ·obtain⟨its,r,pl,hz⟩:=I.list hq;refine SeqAt.in_listAt (eqU x) pl.isList (fun w hw=>ra rx fx r fs w (by simpa using hw)) ⟨.bl _,H,I,rfl,?_⟩;rw[show its.toArray.any (eqU x)=its.any (eqU x) by simp,tZ r fs];exact q
 ·obtain⟨its,r,pl,hz⟩:=I.tuple hq;refine SeqAt.in_tupleAt (eqU x) pl (fun w hw=>ra rx fx r fs w (by simpa using hw)) ⟨.bl _,H,I,rfl,?_⟩;rw[show its.toArray.any (eqU x)=its.any (eqU x) by simp,tZ r fs];exact q
theorem rj:OpR X (compareOp .NotIn) (rIn X.K true):=by
 intro pins s σ H x y v u Q I rx ry h;obtain⟨p,xs,rfl,hq,fx,fs,q⟩:=h;cases ry;rcases hq with hq|hq
 ·obtain⟨its,r,pl,hz⟩:=I.list hq;refine SeqAt.notIn_listAt (eqU x) pl.isList (fun w hw=>ra rx fx r fs w (by simpa using hw)) ⟨.bl _,H,I,rfl,?_⟩;rw[show its.toArray.any (eqU x)=its.any (eqU x) by simp,tZ r fs];exact q
 ·obtain⟨its,r,pl,hz⟩:=I.tuple hq;refine SeqAt.notIn_tupleAt (eqU x) pl (fun w hw=>ra rx fx r fs w (by simpa using hw)) ⟨.bl _,H,I,rfl,?_⟩;rw[show its.toArray.any (eqU x)=its.any (eqU x) by simp,tZ r fs];exact q
theorem bB:nW X (.builtin "len") (fun xs H Q=>∃ p ys,xs = [.ref p]∧(SqL X.K H p ys∨SqT X.K H p ys)∧Q (.int ys.length) H):=by
 intro pins s σ H xs us Q I r h;obtain⟨p,ys,rfl,hq,q⟩:=h;obtain⟨u,rfl,rx⟩:=vals1 r;cases rx;have hn:=x6;rcases hq with hq|hq
 ·obtain⟨its,r',pl,hz⟩:=I.list hq;have hlen:=r'.length;exact Calls.call_len_list pl.isList (by simp only[List.size_toArray] <;> omega) ⟨.int ys.length,H,I.tok _,⟨s.toks+1,by rw[List.size_toArray,hlen]⟩,q⟩
 ·obtain⟨its,r',pl,hz⟩:=I.tuple hq;have hlen:=r'.length;exact len_tuple pl (by simp only[List.size_toArray] <;> omega) ⟨.int ys.length,H,I.tok _,⟨s.toks+1,by rw[List.size_toArray,hlen]⟩,q⟩
theorem adV:nW X (.type "list") (fun xs H Q=>∃ p ys,xs = [.ref p]∧(SqL X.K H p ys∨SqT X.K H p ys)∧∀ l,H l=none→Q (.ref l) (upd H l (.lst ys))):=by
 intro pins s σ H xs us Q I r h;obtain⟨p,ys,rfl,hq,q⟩:=h;obtain⟨u,rfl,rx⟩:=vals1 r;cases rx;have fin:∀ (its:List Value),Vals ys its→ys.length≤sizeLine→∀ (h':Heap) (c':Nat),(∀ b o',s.heap.get? b=some o'→h'.get? b=some o') →
   h'.get? s.heap.objs.size=some { cls:=.type "list",dict:=none,data:=.seq its.toArray c',slots:=#[] }→EP X pins σ Q (.ref s.heap.objs.size) { s with heap:=h' }:=fun its r' hz h' c' kp e=>
  ⟨.ref s.heap.objs.size,_,I.laid (t':=s.toks) kp (Nat.le_refl _) (show di X.prog X.w _ h' _ (.lst ys) from⟨hz,its,c',r',e⟩),rfl,q _ (I.hok.fresh (Nat.le_refl _))⟩
 rcases hq with hq|hq
 ·obtain⟨its,r',pl,hz⟩:=I.list hq;have hlen:=r'.length;obtain⟨o,ho,hc,n,hd⟩:=pl.isList;exact call_list_seq p (.inl rfl) ho hc hd (fun h' c' kp e=>fin its r' hz h' c' kp e) (by simp only[List.size_toArray] <;> omega)
 ·obtain⟨its,r',pl,hz⟩:=I.tuple hq;have hlen:=r'.length;obtain⟨o,ho,hc,n,hd⟩:=pl;exact call_list_seq p (.inr rfl) ho hc hd (fun h' c' kp e=>fin its r' hz h' c' kp e) (by simp only[List.size_toArray] <;> omega)
def tyV (K:PySem.W.Frag) (T:String) (x:V) (H:Hp):Prop:=match x with
 | .str _=>T = "str"
 | .int _=>T = "int"
 | .ref p=>(T = "list" ∧ ∃ xs,SqL K H p xs)∨(T = "tuple" ∧ ∃ o,K.lookup p=some o∧o.cls = .type "tuple" ∧ o.dict=none) ∨
   (T = "dict" ∧ ((∃ kvs,H p=some (.dK kvs))∨∃ kvs,H p=some (.dT kvs)))∨(T = "set" ∧ ∃ S n,H p=some (.set S n))
 | _=>False
theorem amH {pins:List (Addr×Obj)}{σ:St}{H:Hp}{s:Shared}{T:String}{x:V}{v:Value}(I:Inv X pins σ H s) (r:RelV x v) (ty:tyV X.K T x H) :
  s.TypeIs v T∧∀ a,v = .ref a→∃ ob,s.heap.get? a=some ob∧ob.dict=none:=by
 cases x with
 | str z=>
  obtain⟨t,rfl⟩:=r;cases (show T = "str" from ty);exact⟨typeIs_str s z t,fun _ e=>nomatch e⟩
 | int i=>
  obtain⟨t,rfl⟩:=r;cases (show T = "int" from ty);exact⟨typeIs_int s i t,fun _ e=>nomatch e⟩
 | ref p=>
  cases r;rcases ty with⟨rfl,xs,hq⟩|⟨rfl,o,hk,hc,hd⟩|⟨rfl,hk⟩|⟨rfl,S,n,hk⟩
  ·obtain⟨its,_,pl,_⟩:=I.list hq;refine⟨pl.isList.typeIs,fun a e=>?_⟩;cases e;obtain⟨o,n,e,c,hd,_⟩:=pl;exact⟨o,e,hd⟩
  ·refine⟨⟨o,I.kIn p o hk,hc⟩,fun a e=>?_⟩;cases e;exact⟨o,I.kIn _ o hk,hd⟩
  ·have z:∃ o,s.heap.get? p=some o∧o.ExactDict:=by
    rcases hk with⟨kvs,hk⟩|⟨kvs,hk⟩
    ·obtain⟨_,_,_,_,o,_,_,e,ex,_⟩:=I.hok p _ hk;exact⟨o,e,ex⟩
    ·obtain⟨_,_,_,_,o,_,_,e,ex,_⟩:=I.hok p _ hk;exact⟨o,e,ex⟩
   obtain⟨o,e,ex⟩:=z;refine⟨⟨o,e,ex.1⟩,fun a e2=>?_⟩;cases e2;exact⟨o,e,ex.2.1⟩
  ·obtain⟨o,_,_,_,e,ex,_⟩:=I.hok p _ hk;refine⟨⟨o,e,ex.1⟩,fun a e2=>?_⟩;cases e2;exact⟨o,e,ex.2.1⟩
 | _=>exact False.elim ty
def tBM (K:PySem.W.Frag) (T:String) (r:V→List V→Hp→VK→Prop) (to:TE) (t:TA):TE:=fun σ H Q=>to σ H fun x H1=>tyV K T x H1∧t σ H1 fun xs H2=>r x xs H2 Q
variable {o e:Expr}{es:List Expr}{to:TE}{t:TA}{name:Str}{apos cpos:Pos}{T id:String}{r:V→List V→Hp→VK→Prop}
theorem my (pa:PlainAttrs T) (slot:Slot T name id) (hty:typeOf (.builtin id)=pure (.type "method_descriptor")) (hm:MtR X id r) (ho:PE X o to) (ha:PA X (e::es) t)
  (hbase:attributeBase o name X.env (eval o X.env)=eval o X.env:=by rfl)
  (hfew:((backTo cpos (starEach (e::es) X.env)).all (fun x=>!x.1)&&(backToKw cpos (keywordEach [] X.env)).all (fun x=>x.1.isSome)
   && decide ((e::es).length+([]:List Keyword).length+(if([]:List Keyword).isEmpty then 0 else 1)<30))=true:=by rfl)
  (hline:(apos.endLine == cpos.line)=true:=by rfl) (hs:starEach (e::es) X.env=(false,eval e X.env)::starEach es X.env:=by rfl) (hplain:(backTo cpos (starEach es X.env)).any (·.1)=false:=by rfl) :
  PE X (.Call (.Attribute o name apos) (e::es) [] cpos) (tBM X.K T r to t):=by
 intro pins s σ H Q I h;refine wpAny_Call_method_late hbase hfew hline rfl (thn (ho pins s σ H _ I h) fun v s1 ⟨x,H1,I1,r1,ty,q1⟩=>?_);obtain⟨h1,h2⟩:=amH I1 r1 ty;refine⟨T,id,pa,slot,hty,h1,h2,?_⟩;have hA:=ha cpos pins s1 σ H1 _ I1 q1;rw[hs] at hA ⊢;refine Calls.callWith_builtin (by show(false||(backTo cpos (starEach es X.env)).any (·.1))=false;rw[hplain] <;> rfl) (Calls.evalArgs_plain ?_);exact thn hA fun us s2 ⟨vs,H2,I2,r2,q2⟩=>hm pins s2 σ H2 x vs v us Q I2 r1 r2 q2
end
def MtM (X:Cx) (id:String) (r:V→List V→Hp→VK→Prop):Prop:=
 ∀ (pins:List (Addr×Obj)) (s:Shared) (σ:St) (H:Hp) (x:V) (xs:List V) (v:Value) (us:List Value) (Q:VK),Inv X pins σ H s→RelV x v→Vals xs us→r x xs H Q →
  wpAny (model X.prog X.w) X.A (call (.builtin id) (v::us)) (EP X pins σ Q) X.xe s
theorem Vals.one:∀ {x:V}{us:List Value},Vals [x] us→∃ u,us = [u]∧RelV x u
 | _,_,.cons r .nil=>⟨_,rfl,r⟩
section
variable {X:Cx}{pins:List (Addr×Obj)}{σ:St}{H:Hp}{s:Shared}{l b:Addr}{xs ys zs:List V}
theorem Inv.ajr {its its':List Value}{n:Nat}{f:Array Value→Array Value}{t':Nat}(I:Inv X pins σ H s) (hH:H l=some (.lst xs))
  (e:s.heap.get? l=some { cls:=.type "list",data:=.seq its.toArray n }) (hf:f its.toArray=its'.toArray) (hv:Vals ys its') (hz:ys.length≤sizeLine) :
  Inv X pins σ (upd H l (.lst ys)) { s with heap:=s.heap.update l (Obj.mapSeq f),toks:=t' }:=by
 have q:=PySem.IsL.update e f;rw[hf] at q;refine I.write (x:=l) (e:=l) (by rw[hH];exact trivial) (.inl rfl) (fun b' u hb hu=>(Heap.get?_update_other s.heap (Obj.mapSeq f) (Ne.symm hb)).trans hu) ⟨_,q⟩ ?_;exact⟨hz,its',_,hv,q⟩
theorem Inv.anB {its:List Value}{t':Nat}(I:Inv X pins σ H s) (hv:Vals ys its) (hz:ys.length≤sizeLine) :
  Inv X pins σ (upd H s.heap.objs.size (.lst ys)) { s with heap:=s.heap.push { cls:=.type "list",data:=.seq its.toArray },toks:=t' }:=
 I.laid (fun _ _ q=>Heap.get?_push_of_some _ q) (Nat.le_refl _) ⟨hz,its,0,hv,Heap.get?_push_size _ rfl⟩
theorem Inv.fresh (I:Inv X pins σ H s):H s.heap.objs.size=none:=I.hok.fresh (Nat.le_refl _)
theorem Inv.aca (I:Inv X pins σ H s) (hH:H l=some (.lst xs)):xs.length≤sizeLine∧∃ (its:List Value) (n:Nat),Vals xs its∧xs.length=its.length∧s.heap.get? l=some { cls:=.type "list",data:=.seq its.toArray n }:=by
 obtain⟨z,its,n,r,e⟩:=I.hok l _ hH;exact⟨z,its,n,r,r.length,e⟩
theorem aev {n:Nat}(h:n≤sizeLine):Builtin.List.listTooLong n=false:=by
 unfold Builtin.List.listTooLong;exact decide_eq_false (by omega)
end
section
variable {X:Cx}
def akV:V→List V→Hp→VK→Prop:=fun x vs H Q=>∃ l xs y,x = .ref l∧vs = [y]∧H l=some (.lst xs)∧xs.length<sizeLine∧Q .non (upd H l (.lst (xs++[y])))
theorem hU:MtM X "list.append" akV:=by
 intro pins s σ H x vs v us Q I rx rv h;obtain⟨l,xs,y,rfl,rfl,hH,hz,q⟩:=h;cases rx;obtain⟨u,rfl,ru⟩:=rv.one;obtain⟨z,its,n,r,hl,e⟩:=I.aca hH;refine call_meets F.slot_list_append ⟨_,e,rfl⟩ F.entry_list_append (F.args_list_append_2 _ _) (PySem.list_append l its.toArray n u (by rw[List.size_toArray];omega)) ⟨e,?_⟩;refine⟨.non,_,I.ajr (its':=its++[u]) hH e (by simp) (r.append (.cons ru .nil)) ?_,rfl,q⟩;rw[List.length_append,List.length_singleton];omega
def akW:V→List V→Hp→VK→Prop:=fun x vs H Q=>∃ l b xs zs,x = .ref l∧vs = [.ref b]∧H l=some (.lst xs)∧H b=some (.lst zs)∧xs.length+zs.length≤sizeLine∧Q .non (upd H l (.lst (xs++zs)))
theorem aid:MtM X "list.extend" akW:=by
 intro pins s σ H x vs v us Q I rx rv h;obtain⟨l,b,xs,zs,rfl,rfl,hH,hB,hz,q⟩:=h;cases rx;obtain⟨u,rfl,ru⟩:=rv.one;cases ru;obtain⟨z,its,n,r,hl,e⟩:=I.aca hH;obtain⟨z2,its2,n2,r2,hl2,e2⟩:=I.aca hB;have hsz:its.toArray.size+its2.toArray.size≤sizeLine:=by rw[List.size_toArray,List.size_toArray];omega
 have hlong:¬ (!its.toArray.isEmpty&&Builtin.List.listTooLong (its.toArray.size+its2.toArray.size))=true:=by
  rw[aev hsz,Bool.and_false];exact Bool.false_ne_true
 refine call_meets F.slot_list_extend ⟨_,e,rfl⟩ F.entry_list_extend (F.args_list_extend_2 _ _)
  (AutoSeq1.list_extend_list_list_0 l its.toArray n b its2.toArray n2 hlong (by rw[List.size_toArray];omega) (by omega)) ⟨e,e2,?_⟩
 refine⟨.non,_,I.ajr (its':=its++its2) hH e (by simp) (r.append r2) ?_,rfl,q⟩;rw[List.length_append];omega
def anI:R2:=fun x y H Q=>∃ l b xs zs,x = .ref l∧y = .ref b∧H l=some (.lst xs)∧H b=some (.lst zs)∧xs.length+zs.length≤sizeLine∧∀ p,H p=none→Q (.ref p) (upd H p (.lst (xs++zs)))
theorem oE:OpR X (binaryOp .Add) anI:=by
 intro pins s σ H x y v u Q I rx ry h;obtain⟨l,b,xs,zs,rfl,rfl,hH,hB,hz,q⟩:=h;cases rx;cases ry;obtain⟨z,its,n,r,hl,e⟩:=I.aca hH;obtain⟨z2,its2,n2,r2,hl2,e2⟩:=I.aca hB;refine PySem.P.add_list e e2 ?_ (by rw[List.size_toArray,List.size_toArray];omega);have ea:its.toArray++its2.toArray=(its++its2).toArray:=by simp
 rw[ea];exact⟨.ref _,_,I.anB (t':=s.toks) (r.append r2) (by rw[List.length_append];omega),rfl,q _ I.fresh⟩
end
theorem Vals.ints:∀ {ns:List Int}{us:List Value},Vals (ns.map V.int) us→IntsAre us ns
 | [],us,h=>by
  rw[List.map_nil] at h;cases h;exact IntsAre.nil
 | n::ns,us,h=>by
  rw[List.map_cons] at h;cases h with
  | cons r t=>
   obtain⟨k,rfl⟩:=r;exact IntsAre.cons n k (Vals.ints t)
theorem yL:∀ {us:List Value}{ns:List Int},IntsAre us ns→Vals (ns.map V.int) us
 | _,_,.nil=>by rw[List.map_nil];exact Paired.nil
 | _,_,.cons n t h=>by rw[List.map_cons];exact Paired.cons (show RelV (V.int n) (Value.int n t) from⟨t,rfl⟩) (yL h)
theorem Vals.bls:∀ {bs:List Bool}{us:List Value},Vals (bs.map V.bl) us→us=bs.map Value.bool
 | [],us,h=>by
  rw[List.map_nil] at h;cases h;rfl
 | b::bs,us,h=>by
  rw[List.map_cons] at h;cases h with
  | cons r t=>
   cases r;rw[Vals.bls t,List.map_cons]
theorem Vals.ahd {a:Addr}{us:List Value}(r:Vals [V.ref a] us):us = [Value.ref a]:=by
 cases r with
 | cons r t=>
  cases t;cases r;rfl
section
variable {prog:Program}{w:World}{A:Around}{E:Value→Shared→Prop}{s:Shared}{l:Addr}{its:List Value}{ns:List Int}{Q:Value→Shared→Prop}
theorem ale (hh:A.handled=none) (hl:s.heap.IsList l its.toArray) (hi:IntsAre its ns)
  (h:∀ h' tk t',(∀ b o,s.heap.get? b=some o→h'.get? b=some o)→Q (.int ns.sum t') { s with heap:=h',toks:=tk }):wpAny (model prog w) A (call (.builtin "sum") [.ref l]) Q E s:=by
 obtain⟨xs,e⟩:=hi.allInts.items;have hn:numsOf (intItems xs).toList=ns:=by rw[← e];exact hi.numsOf
 rw[nums_intItems] at hn;rw[e] at hl;refine PySem.sum_intListG hh hl fun h' tk t' hk=>?_;have:=h h' tk t' hk;rw[preSum_eq,List.take_of_length_le (by simp),hn];exact this
end
section
variable {X:Cx}
def anM (K:PySem.W.Frag):List V→Hp→VK→Prop:=fun vs H Q=>∃ (a:Addr) (ns:List Int),vs = [V.ref a]∧SqL K H a (ns.map V.int)∧Q (.int ns.sum) H
theorem adZ (hc:X.calm=true):nW X (.builtin "sum") (anM X.K):=by
 intro pins s σ H vs us Q I r h;obtain⟨a,ns,rfl,hs,q⟩:=h;obtain⟨its,rv,hl,_⟩:=I.list hs;rw[Vals.ahd r];exact ale (I.ok.hd hc) hl.isList rv.ints fun h' tk t' hk=>⟨.int _,H,I.kept hk,⟨_,rfl⟩,q⟩
def akX (K:PySem.W.Frag):List V→Hp→VK→Prop:=fun vs H Q=>∃ (a:Addr) (ns:List Int),vs = [V.ref a]∧SqL K H a (ns.map V.int)∧ns.length<64 ∧
 ∀ (ns':List Int) (p:Addr),ns'.Perm ns→ns'.Pairwise (·≤·)→H p=none→Q (.ref p) (upd H p (.lst (ns'.map V.int)))
theorem ak2 {n:Nat}(h:n<64):n≤sizeLine:=by rw[sizeLine_eq];omega
theorem xE:nW X (.builtin "sorted") (akX X.K):=by
 intro pins s σ H vs us Q I r h;obtain⟨a,ns,rfl,hs,h64,q⟩:=h;obtain⟨its,rv,hl,_⟩:=I.list hs;rw[Vals.ahd r];have hi:=rv.ints;refine PyProof.Rows.sorted_ints hl.isList hi (by rw[hi.length];exact h64) fun out ns' h1 h2 h3=>?_;obtain⟨ep,he'⟩:=PyProof.Rows.sortedAll_at s.heap its out;have hlen:(ns'.map V.int).length≤sizeLine:=by rw[List.length_map,h2.length_eq];exact ak2 h64
 exact⟨.ref _,upd H (s.heap.objs.size+1) (.lst (ns'.map V.int)),I.laid (t':=s.toks) (fun _ _=>PyProof.Rows.sortedAll_old) (Nat.le_succ _) ⟨hlen,out.toList,ep,yL h1,he'⟩,rfl,q ns' _ h2 h3 (I.hok.fresh (Nat.le_succ _))⟩
end
theorem aem {prog:Program}{w:World}{A:Around}{E:Value→Shared→Prop}{s:Shared}{l:Addr}{items:Array Value}{Q:Value→Shared→Prop}(hl:s.heap.IsList l items)
  (h:∀ s₂:Shared,s₂ = { s with heap:=s.heap.push { cls:=.type "list_iterator",data:=.fields #[.ref l,.int 0 0] } } →
   (s₂.heap.IsListIter s.heap.objs.size l 0∧s₂.heap.IsList l items)→l≠s.heap.objs.size→Q (.ref s.heap.objs.size) s₂):wpAny (model prog w) A (pyIter (.ref l)) Q E s:=by
 have hlt:l<s.heap.objs.size:=by obtain⟨_,e,_⟩:=hl;exact Heap.lt_size e
 exact wpAny_pyIter_list hl (h _ rfl ⟨⟨_,Heap.get?_push_size _ rfl,rfl,rfl⟩,hl.push _⟩ (Nat.ne_of_lt hlt))
theorem zM {prog:Program}{w:World}{A:Around}{bs:List Bool}{its:List Value}(e:its=bs.map Value.bool) :
  TruthOf prog w A (fun i v=>its.toArray[i]?=some v) (fun i=>bs.getD i false):=fun i v s Q E hv hq=>by
 have hv':its[i]?=some v:=by simpa using hv
 rw[e,List.getElem?_map] at hv';obtain⟨b,hb,rfl⟩:=Option.map_eq_some_iff.mp hv';have hg:bs.getD i false=b:=by rw[List.getD_eq_getElem?_getD,hb] <;> rfl
 have hq':Q (bs.getD i false) s:=hq;rw[hg] at hq';exact wpAny_truthy_bool hq'
theorem any_range:∀ bs:List Bool,(List.range bs.length).any (fun i=>bs.getD i false)=bs.any id
 | []=>rfl
 | b::bs=>by
  rw[List.length_cons,List.range_succ_eq_map,List.any_cons,List.any_map,List.any_cons,← any_range bs]
  all_goals rfl
theorem all_range:∀ bs:List Bool,(List.range bs.length).all (fun i=>bs.getD i false)=bs.all id
 | []=>rfl
 | b::bs=>by
  rw[List.length_cons,List.range_succ_eq_map,List.all_cons,List.all_map,List.all_cons,← all_range bs]
  all_goals rfl
section
variable {X:Cx}
def anH (K:PySem.W.Frag):List V→Hp→VK→Prop:=fun vs H Q=>∃ (a:Addr) (bs:List Bool),vs = [V.ref a]∧SqL K H a (bs.map V.bl)∧Q (.bl (bs.any id)) H
def anG (K:PySem.W.Frag):List V→Hp→VK→Prop:=fun vs H Q=>∃ (a:Addr) (bs:List Bool),vs = [V.ref a]∧SqL K H a (bs.map V.bl)∧Q (.bl (bs.all id)) H
theorem alx (hc:X.calm=true):nW X (.builtin "any") (anH X.K):=by
 intro pins s σ H vs us Q I r h;obtain⟨a,bs,rfl,hs,q⟩:=h;obtain⟨its,rv,hl,_⟩:=I.list hs;rw[Vals.ahd r];have hb:=rv.bls;refine call_any_walk (aem hl.isList fun s₂ e2 st hne=>?_);subst e2;refine⟨_,_,_,_,_,_,_,rfl,Walks.list (A:=X.A.in1) (I.ok.hd hc) _ a hne its.toArray,st,zM hb,fun h' tk hk=>?_⟩;refine⟨.bl _,H,I.kept fun b o eo=>hk b o (fun hmem=>?_) (Heap.get?_push_of_some _ eo),?_,q⟩
 ·rcases List.mem_cons.mp hmem with e1|hmem
  ·exact absurd (e1 ▸ Heap.lt_size eo) (Nat.lt_irrefl _)
  ·cases hmem
 ·show Value.bool _=Value.bool _;rw[← any_range,hb,List.size_toArray,List.length_map]
theorem ahB (hc:X.calm=true):nW X (.builtin "all") (anG X.K):=by
 intro pins s σ H vs us Q I r h;obtain⟨a,bs,rfl,hs,q⟩:=h;obtain⟨its,rv,hl,_⟩:=I.list hs;rw[Vals.ahd r];have hb:=rv.bls;refine call_all_walk (aem hl.isList fun s₂ e2 st hne=>?_);subst e2;refine⟨_,_,_,_,_,_,_,rfl,Walks.list (A:=X.A.in1) (I.ok.hd hc) _ a hne its.toArray,st,zM hb,fun h' tk hk=>?_⟩;refine⟨.bl _,H,I.kept fun b o eo=>hk b o (fun hmem=>?_) (Heap.get?_push_of_some _ eo),?_,q⟩
 ·rcases List.mem_cons.mp hmem with e1|hmem
  ·exact absurd (e1 ▸ Heap.lt_size eo) (Nat.lt_irrefl _)
  ·cases hmem
 ·show Value.bool _=Value.bool _;rw[← all_range,hb,List.size_toArray,List.length_map]
end
abbrev ahv (h:Heap) (c:Addr) (v:Option Value):Prop:=h.IsCell c v
def anN (scope sc:Scope):Scope:=
 { scope with names:=scope.names.map fun (n,k)=>if(k == .free&&sc.kind == .function&&sc.names.lookup n == some .cell) then (n,.cell) else (n,k) }
def cI (cells:List (Str×Addr)):List (Str×NameKind)→List (Str×Addr)→List (Str×Addr)
 | [],acc=>acc
 | (n,k)::r,acc=>if k == .free then cI cells r ((n,(cells.lookup n).getD 0)::acc) else cI cells r acc
theorem xC (env:Env) (f:Str×NameKind→List (Str×Addr)→Sem (ForInStep (List (Str×Addr))))
  (hf:∀ n k c,f (n,k) c=if k == .free then (do let a ← cellOf env n;pure (.yield ((n,a)::c))) else pure (.yield c)) :
  ∀ (names:List (Str×NameKind)) (acc:List (Str×Addr)),(∀ y∈names,y.2 = .free→∃ c,env.cells.lookup y.1=some c)→forIn names acc f=pure (cI env.cells names acc)
 | [],acc,_=>by rw[List.forIn_nil];rfl
 | (n,k)::r,acc,h=>by
  rw[List.forIn_cons,hf];have ih:=fun acc=>xC env f hf r acc fun y hy=>h y (List.mem_cons_of_mem _ hy);unfold cI;by_cases hk:(k == NameKind.free)=true
  ·rw[if_pos hk,if_pos hk];obtain⟨c,hc⟩:=h (n,k) List.mem_cons_self (by simpa using hk);have e:cellOf env n=pure c:=by unfold cellOf;rw[hc]
   rw[e];have e2:(env.cells.lookup n).getD 0=c:=by rw[hc];rfl
   rw[e2];exact ih _
  ·rw[if_neg hk,if_neg hk];exact ih _
theorem agA {scope:Scope}{env:Env}(h:∀ y∈scope.names,y.2 = .free→∃ c,env.cells.lookup y.1=some c):closureFor scope env=pure (cI env.cells scope.names []):=by
 simp only[closureFor];rw[xC env _ (fun n k c=>rfl) scope.names [] h];rfl
theorem mem_lookup {α:Type}:∀ {l:List (Str×α)}{n:Str}{c:α},(n,c)∈l→∃ c',l.lookup n=some c'
 | (k,v)::r,n,c,h=>by
  rw[List.lookup_cons];cases hb:n == k with
  | true=>exact⟨_,rfl⟩
  | false=>
   rcases List.mem_cons.mp h with e|h
   ·cases e;simp at hb
   ·exact mem_lookup h
theorem nX {cells:List (Str×Addr)}:∀ {names:List (Str×NameKind)}{acc:List (Str×Addr)}{n:Str}{c:Addr},(n,c)∈cI cells names acc→(n,c)∈acc∨((n,.free)∈names∧c=(cells.lookup n).getD 0)
 | [],_,_,_,h=>.inl h
 | (m,k)::r,acc,n,c,h=>by
  unfold cI at h;split at h
  ·rename_i hk
   have hk:k = .free:=by simpa using hk
   rcases nX h with h|⟨h1,h2⟩
   ·rcases List.mem_cons.mp h with e|h
    ·cases e;exact .inr ⟨hk ▸ List.mem_cons_self,rfl⟩
    ·exact .inl h
   ·exact .inr ⟨List.mem_cons_of_mem _ h1,h2⟩
  ·rcases nX h with h|⟨h1,h2⟩
   ·exact .inl h
   ·exact .inr ⟨List.mem_cons_of_mem _ h1,h2⟩
theorem tj {cells:List (Str×Addr)}:∀ {names:List (Str×NameKind)}{acc:List (Str×Addr)}{p:Str×Addr},p∈acc→p∈cI cells names acc
 | [],_,_,h=>h
 | (m,k)::r,acc,p,h=>by
  unfold cI;split
  ·exact tj (List.mem_cons_of_mem _ h)
  ·exact tj h
theorem tm {cells:List (Str×Addr)}:∀ {names:List (Str×NameKind)}{acc:List (Str×Addr)}{n:Str},(n,.free)∈names→(n,(cells.lookup n).getD 0)∈cI cells names acc
 | (m,k)::r,acc,n,h=>by
  unfold cI;rcases List.mem_cons.mp h with e|h
  ·cases e;exact tj List.mem_cons_self
  ·split
   ·exact tm h
   ·exact tm h
theorem ot:∀ {names:List (Str×NameKind)}{h:Heap}{acc:List (Str×Addr)}{x:Str}{c:Addr},(x,c)∈cellsFrom h.objs.size names acc →
  (x,c)∈acc∨((x,.cell)∈names∧h.objs.size≤c∧ahv (pushCells h names) c none)
 | [],_,_,_,_,h=>.inl h
 | (n,k)::r,h,acc,x,c,hm=>by
  unfold cellsFrom at hm;unfold pushCells;split at hm
  ·rename_i hk
   rw[if_pos hk];have hk:k = .cell:=by simpa using hk
   rw[← Heap.size_push h { cls:=.type "cell",data:=.cell none }] at hm;rcases ot hm with hm|⟨h1,h2,h3⟩
   ·rcases List.mem_cons.mp hm with e|hm
    ·cases e;exact .inr ⟨hk ▸ List.mem_cons_self,Nat.le_refl _,_,pushCells_keeps r _ _ _ (Heap.get?_push_size _ rfl),rfl⟩
    ·exact .inl hm
   ·rw[Heap.size_push] at h2;exact .inr ⟨List.mem_cons_of_mem _ h1,Nat.le_of_succ_le h2,h3⟩
  ·rename_i hk
   rw[if_neg hk];rcases ot hm with hm|⟨h1,h2,h3⟩
   ·exact .inl hm
   ·exact .inr ⟨List.mem_cons_of_mem _ h1,h2,h3⟩
theorem rN:∀ {names:List (Str×NameKind)}{n:Nat}{acc:List (Str×Addr)}{p:Str×Addr},p∈acc→p∈cellsFrom n names acc
 | [],_,_,_,h=>h
 | (m,k)::r,n,acc,p,h=>by
  unfold cellsFrom;split
  ·exact rN (List.mem_cons_of_mem _ h)
  ·exact rN h
theorem xA:∀ {names:List (Str×NameKind)}{n:Nat}{acc:List (Str×Addr)}{x:Str},(x,.cell)∈names→∃ c,(x,c)∈cellsFrom n names acc
 | (m,k)::r,n,acc,x,h=>by
  unfold cellsFrom;rcases List.mem_cons.mp h with e|h
  ·cases e;exact⟨n,rN List.mem_cons_self⟩
  ·split
   ·exact xA h
   ·exact xA h
theorem xB:∀ {names:List (Str×NameKind)}{h:Heap}{acc:List (Str×Addr)}{x y:Str}{c:Addr},(∀ p∈acc,p.2<h.objs.size)→(∀ x y c,(x,c)∈acc→(y,c)∈acc→x=y) →
  (x,c)∈cellsFrom h.objs.size names acc→(y,c)∈cellsFrom h.objs.size names acc→x=y
 | [],_,_,_,_,_,_,hi,h1,h2=>hi _ _ _ h1 h2
 | (n,k)::r,h,acc,x,y,c,hl,hi,h1,h2=>by
  unfold cellsFrom at h1 h2;split at h1
  ·rename_i hk
   rw[if_pos hk] at h2;rw[← Heap.size_push h { cls:=.type "cell",data:=.cell none }] at h1 h2;refine xB (h:=h.push _) (fun p hp=>?_) (fun x y c a b=>?_) h1 h2
   ·rw[Heap.size_push];rcases List.mem_cons.mp hp with rfl|hp
    ·exact Nat.lt_succ_self _
    ·exact Nat.lt_succ_of_lt (hl p hp)
   ·rcases List.mem_cons.mp a with e|a <;> rcases List.mem_cons.mp b with e'|b
    ·cases e;cases e';rfl
    ·cases e;exact absurd (hl _ b) (Nat.lt_irrefl _)
    ·cases e';exact absurd (hl _ a) (Nat.lt_irrefl _)
    ·exact hi _ _ _ a b
  ·rename_i hk
   rw[if_neg hk] at h2;exact xB hl hi h1 h2
theorem afC {M:Model}{A:Around}{E:Value→Shared→Prop}{s:Shared}{scope:Scope}{globals:Addr}{closure:List (Str×Addr)}{qual:Str}{func:Option Addr}{code:Value}{around:Env}{builtins:Addr}{Q:Env→Shared→Prop}
  (h:Q (newEnv scope s.heap.objs.size globals (cellsFrom (s.heap.objs.size+1) scope.names closure) qual func code (some around) builtins)
   { s with heap:=pushCells (s.heap.push { cls:=.type "dict",data:=.dict #[] }) scope.names }) :
  wpAny M A (newFunctionEnv scope globals closure [] qual func code (some around) builtins) Q E s:=by
 simp only[newFunctionEnv,Option.isSome_some,if_true];refine wpAny_bind (wpAny_alloc ?_);refine wpAny_bind (wpAny_layCells _ (fun n k c=>rfl) scope.names closure _ _ ?_);rw[show({ s with heap:=s.heap.push { cls:=.type "dict",data:=.dict #[] } }:Shared).heap.objs.size=s.heap.objs.size+1 from Heap.size_push ..];rw[List.forIn_nil];exact wpAny_bind (wpAny_pure (wpAny_pure h))
theorem tE {sc:Scope}:∀ {names:List (Str×NameKind)}{x:Str}{k:NameKind},
  (names.map fun (n,k)=>if(k == NameKind.free&&sc.kind == .function&&sc.names.lookup n == some .cell) then (n,NameKind.cell) else (n,k)).lookup x=some k →
  ∃ k',names.lookup x=some k'∧(k=k'∨(k' = .free∧k = .cell))
 | [],_,_,h=>by simp at h
 | (n,k₀)::r,x,k,h=>by
  have ih:=@tE sc r x k;have h':List.lookup x ((if(k₀ == NameKind.free&&sc.kind == .function&&sc.names.lookup n == some .cell)=true then (n,NameKind.cell) else (n,k₀))::(r.map _))=some k:=h;cases hx:x == n with
  | true=>
   simp only[List.lookup_cons,hx];by_cases hc:(k₀ == NameKind.free&&sc.kind == .function&&sc.names.lookup n == some .cell)=true
   ·rw[if_pos hc] at h';simp only[List.lookup_cons,hx] at h';cases h';simp only[Bool.and_eq_true,beq_iff_eq] at hc;exact⟨k₀,rfl,.inr ⟨hc.1.1,rfl⟩⟩
   ·rw[if_neg hc] at h';simp only[List.lookup_cons,hx] at h';cases h';exact⟨_,rfl,.inl rfl⟩
  | false=>
   simp only[List.lookup_cons,hx];by_cases hc:(k₀ == NameKind.free&&sc.kind == .function&&sc.names.lookup n == some .cell)=true
   ·rw[if_pos hc] at h';simp only[List.lookup_cons,hx] at h';exact ih h'
   ·rw[if_neg hc] at h';simp only[List.lookup_cons,hx] at h';exact ih h'
structure d4 (N:List Str) (sc scope:Scope) (own:List (Str×Nat)):Prop where
 kind:scope.kind = .function
 uniq:∀ y∈scope.names,scope.names.lookup y.1=some y.2
 ix:∀ p∈own,N[p.2]?=some p.1
 free:∀ y∈scope.names,y.2 = .free→sc.names.lookup y.1=some .cell∨sc.names.lookup y.1=some .free
 own:∀ y∈scope.names,y.2 = .local∨y.2 = .cell→y.1∈own.map (·.1)∨y.1 ∉ N
def wipe (σ:St):List Nat→St
 | []=>σ
 | v::vs=>(wipe σ vs).set v none
theorem tX (σ:St):∀ vs:List Nat,(wipe σ vs).length=σ.length
 | []=>rfl
 | v::vs=>by unfold wipe;rw[List.length_set,tX σ vs]
theorem yM {σ:St}{i:Nat}{x:V}:∀ {vs:List Nat},(wipe σ vs)[i]?=some (some x)→σ[i]?=some (some x)∧i ∉ vs
 | [],h=>⟨h,by simp⟩
 | v::vs,h=>by
  unfold wipe at h;by_cases hi:v=i
  ·subst hi;by_cases hv:v<(wipe σ vs).length
   ·rw[List.getElem?_set_self hv] at h;cases h
   ·rw[List.getElem?_eq_none (by simpa using hv)] at h;cases h
  ·rw[List.getElem?_set_ne hi] at h;obtain⟨h1,h2⟩:=yM h;exact⟨h1,by simp only[List.mem_cons,not_or];exact⟨fun e=>hi e.symm,h2⟩⟩
abbrev Cx.blk (X:Cx) (s:Shared) (H:Hp) (scope:Scope) (cenv:Env) (fp:List Addr):Cx:={ X with s_0:=s,H_0:=H,env:=cenv,outer:=X.stack,ex:=fp,fn:=fun x=>scope.names.lookup x == some .cell,pn:=[],xe:=fun _ _=>False }
section
variable {X:Cx}{pins:List (Addr×Obj)}{σ:St}{H:Hp}{s:Shared}
theorem afl {scope:Scope}{own:List (Str×Nat)}{fp:List Addr}(I:Inv X pins σ H s) (ok:d4 X.N X.env.scope scope own) (hN:X.N.Nodup) (hfp:∀ b∈fp,qv X pins H b∧b<s.heap.objs.size) :
  Inv (X.blk s H scope (compEnvC scope (cellsFrom (s.heap.objs.size+1) scope.names (cI X.env.cells scope.names [])) s.heap.objs.size X.env) fp) [] (wipe σ (own.map (·.2))) H { s with heap:=pushCells (s.heap.push { cls:=.type "dict",data:=.dict #[] }) scope.names }:=by
 have hfree:∀ y∈scope.names,y.2 = .free→∃ c,X.env.cells.lookup y.1=some c:=fun y hy e=>by
  rcases ok.free y hy e with k|k
  ·exact I.ok.has _ (.inl k)
  ·exact I.ok.has _ (.inr k)
 generalize hcenv:compEnvC scope (cellsFrom (s.heap.objs.size+1) scope.names (cI X.env.cells scope.names [])) s.heap.objs.size X.env=cenv;have kp:∀ b o,s.heap.get? b=some o→(pushCells (s.heap.push { cls:=.type "dict",data:=.dict #[] }) scope.names).get? b=some o:=fun b o e=>pushCells_keeps _ _ _ _ (Heap.get?_push_of_some _ e);have hL:cenv.locals=s.heap.objs.size:=by rw[← hcenv];rfl
 have hcl:cenv.cells=cellsFrom (s.heap.objs.size+1) scope.names (cI X.env.cells scope.names []):=by rw[← hcenv];rfl
 have hsc:cenv.scope=anN scope X.env.scope:=by rw[← hcenv];rfl
 rw[← Heap.size_push s.heap { cls:=.type "dict",data:=.dict #[] }] at hcl;have cm:∀ {y c},(y,c)∈cI X.env.cells scope.names []→X.env.cells.lookup y=some c∧c<s.heap.objs.size:=fun {y c} hm=>by
  rcases nX hm with hm|⟨h1,rfl⟩
  ·cases hm
  ·obtain⟨c,hc⟩:=hfree _ h1 rfl;rw[hc];obtain⟨w,z⟩:=I.cell _ _ hc;exact⟨rfl,z.lt⟩
 have mem:∀ {y c},cenv.cells.lookup y=some c→(X.env.cells.lookup y=some c∧c<s.heap.objs.size)∨(s.heap.objs.size+1≤c∧ahv (pushCells (s.heap.push { cls:=.type "dict",data:=.dict #[] }) scope.names) c none):=fun {y c} e=>by
  rw[hcl] at e;rcases ot (PySem.mem_of_lookup e) with hm|⟨_,h2,h3⟩
  ·exact .inl (cm hm)
  ·rw[Heap.size_push] at h2;exact .inr ⟨h2,h3⟩
 have look:∀ {y},scope.names.lookup y=some .free→∃ c,cenv.cells.lookup y=some c∧X.env.cells.lookup y=some c:=fun {y} hl=>by
  have hy:(y,NameKind.free)∈scope.names:=PySem.mem_of_lookup hl;obtain⟨c',e'⟩:=mem_lookup (rN (names:=scope.names) (n:=(s.heap.push { cls:=.type "dict",data:=.dict #[] }).objs.size) (tm (cells:=X.env.cells) (acc:=[]) hy));rw[← hcl] at e';refine⟨c',e',?_⟩;rw[hcl] at e';rcases ot (PySem.mem_of_lookup e') with hm|⟨h1,_,_⟩
  ·exact(cm hm).1
  ·have:=ok.uniq _ h1;rw[hl] at this;cases this
 have okB:(X.blk s H scope cenv fp).Ok:=by
  refine⟨I.ok.mod,by show cenv.scope.kind=_;rw[hsc];exact ok.kind,by show cenv.globals=_;rw[← hcenv];exact I.ok.glob,by show cenv.builtins=_;rw[← hcenv];exact I.ok.blt,by show s.heap.objs.size≤cenv.locals;rw[hL];exact Nat.le_refl _,
   fun y z c e1 e2=>?_,fun y hy=>?_,fun y c z e=>?_,I.ok.hd,I.ok.frames,.inl rfl,fun b hb=>⟨?_,fun y c e z=>?_⟩,I.bs,Nat.le_trans I.ok.bsz I.sz,fun b o e hb=>?_,fun b hb z=>?_,I.stack,I.agl⟩
  ·have e1:cenv.cells.lookup y=some c:=e1;have e2:cenv.cells.lookup z=some c:=e2;rw[hcl] at e1 e2;refine xB (fun p hp=>?_) (fun y z c a b=>I.ok.inj y z c (cm a).1 (cm b).1) (PySem.mem_of_lookup e1) (PySem.mem_of_lookup e2);rw[Heap.size_push];exact Nat.lt_succ_of_lt (cm (y:=p.1) (c:=p.2) hp).2
  ·show ∃ c,cenv.cells.lookup y=some c;have key:∀ k,cenv.kindOf y=some k→(k = .cell∨k = .free)→∃ c,cenv.cells.lookup y=some c:=fun k hk hk'=>by
    unfold Env.kindOf at hk;rw[hsc] at hk;obtain⟨k',e,r⟩:=tE hk;have:k' = .cell∨k' = .free:=by
     rcases r with rfl|⟨rfl,_⟩
     ·exact hk'
     ·exact .inr rfl
    rcases this with rfl|rfl
    ·obtain⟨c,hm⟩:=xA (n:=(s.heap.push { cls:=.type "dict",data:=.dict #[] }).objs.size) (acc:=cI X.env.cells scope.names []) (PySem.mem_of_lookup e);obtain⟨c',e'⟩:=mem_lookup hm;exact⟨c',by rw[hcl];exact e'⟩
    ·obtain⟨c,h1,_⟩:=look e;exact⟨c,h1⟩
   rcases hy with hy|hy
   ·exact key _ hy (.inl rfl)
   ·exact key _ hy (.inr rfl)
  ·have z:(scope.names.lookup y == some NameKind.cell)=true:=z;have z:scope.names.lookup y=some .cell:=by simpa using z
   have e:cenv.cells.lookup y=some c:=e;rw[hcl] at e;rcases ot (PySem.mem_of_lookup e) with hm|⟨_,h2,_⟩
   ·rcases nX hm with hm|⟨h1,_⟩
    ·cases hm
    ·have q:=ok.uniq _ h1;rw[z] at q;cases q
   ·rw[Heap.size_push] at h2;exact Nat.le_of_succ_le h2
  ·show b≠cenv.locals;rw[hL];exact Nat.ne_of_lt (hfp b hb).2
  ·have e:cenv.cells.lookup y=some c:=e;rcases mem e with⟨h1,_⟩|⟨h1,_⟩
   ·exact(hfp b hb).1.2.2.2.2.1 y c h1 z
   ·have h2:s.heap.objs.size+1≤b:=by rw[← z];exact h1
    exact absurd (Nat.lt_of_lt_of_le (hfp b hb).2 (Nat.le_of_succ_le h2)) (Nat.lt_irrefl _)
  ·rcases (hfp b hb).1.2.2.2.1 with z|z
   ·exact I.ok.aeu b o e z
   ·exact absurd (Nat.lt_of_lt_of_le (Heap.lt_size e) (Nat.le_trans I.ok.bsz z)) (Nat.lt_irrefl _)
  ·rcases List.mem_cons.mp (I.ae9 b z) with z|z
   ·exact(hfp b hb).1.2.1 z
   ·exact(hfp b hb).1.2.2.1 z
 refine⟨okB,rfl,I.bare,Un.kept kp,⟨fun _=>none,?_,fun i y av e1 e2 e3=>?_⟩,fun y c e=>?_,?_,fun y c e=>?_,fun p hp=>?_,I.hok.kept kp,by rw[tX];exact I.len⟩
 ·show Heap.Ns _ cenv.locals _;rw[hL];exact Heap.Ns.keeps (Heap.Ns.new ..) fun b o e=>pushCells_keeps _ _ _ _ e
 ·obtain⟨e2,hne⟩:=yM e2;have hfr:scope.names.lookup y=some .free∧(cenv.kindOf y=some .cell∨cenv.kindOf y=some .free):=by
   have key:∀ k,cenv.scope.names.lookup y=some k→k = .local∨k = .cell∨k = .free→scope.names.lookup y=some .free∧(cenv.kindOf y=some .cell∨cenv.kindOf y=some .free):=fun k hk hk'=>by
    have hk0:=hk;rw[hsc] at hk;obtain⟨k',e,r⟩:=tE hk;have no:¬ (k' = .local∨k' = .cell):=fun hh=>by
     rcases ok.own _ (PySem.mem_of_lookup e) hh with e'|e'
     ·obtain⟨p,hp,hpy⟩:=List.mem_map.mp e';have e3:=ok.ix p hp;have:p.1=y:=hpy;rw[this] at e3;exact hne (List.mem_map.mpr ⟨p,hp,aae hN e3 e1⟩)
     ·exact e' (List.mem_of_getElem? e1)
    rcases r with rfl|⟨rfl,rfl⟩
    ·rcases hk' with rfl|rfl|rfl
     ·exact absurd (.inl rfl) no
     ·exact absurd (.inr rfl) no
     ·exact⟨e,.inr hk0⟩
    ·exact⟨e,.inl hk0⟩
   have e3:Vis cenv.scope y:=e3;rcases e3 with e3|e3|e3
   ·exact key _ e3 (.inl rfl)
   ·exact key _ e3 (.inr (.inl rfl))
   ·exact key _ e3 (.inr (.inr rfl))
  obtain⟨m,hn,hl⟩:=I.loc;have hvis:Vis X.env.scope y:=(ok.free _ (PySem.mem_of_lookup hfr.1) rfl).elim (fun k=>.inr (.inl k)) (fun k=>.inr (.inr k));obtain⟨w,r,q⟩:=hl i y av e1 e2 hvis;refine⟨w,r,.inr ⟨hfr.2,?_⟩⟩;obtain⟨c,h1,h2⟩:=look hfr.1;rcases q with⟨k,_⟩|⟨_,c',e',z⟩
  ·have k:X.env.scope.names.lookup y=some .local:=k;rcases ok.free _ (PySem.mem_of_lookup hfr.1) rfl with k'|k' <;> rw[show X.env.scope.names.lookup y=_ from k'] at k <;> cases k
  ·rw[h2] at e';cases e';exact⟨c,h1,z.keeps kp⟩
 ·have e:cenv.cells.lookup y=some c:=e;rcases mem e with⟨h1,_⟩|⟨_,z⟩
  ·obtain⟨w,z⟩:=I.cell y c h1;exact⟨w,z.keeps kp⟩
  ·exact⟨_,z⟩
 ·show H cenv.locals=none;rw[hL];exact I.hok.fresh (Nat.le_refl _)
 ·have e:cenv.cells.lookup y=some c:=e;rcases mem e with⟨h1,_⟩|⟨h1,_⟩
  ·exact I.jP y c h1
  ·exact I.hok.fresh (Nat.le_of_succ_le h1)
 ·exact absurd (show p∈([]:List (Addr×Obj))++[] from hp) (by simp)
theorem alr {E:Value→Shared→Prop}{D:Addr}{xs:List V}{y:V}{v:Value}{Q:Value→Shared→Prop}(I:Inv X pins σ H s) (hD:H D=some (.lst xs)) (hz:xs.length<sizeLine) (r:RelV y v)
  (h:∀ s',Inv X pins σ (upd H D (.lst (xs++[y]))) s'→Q .none s'):wpAny (model X.prog X.w) X.A (call (.builtin "list.append") [.ref D,v]) Q E s:=by
 obtain⟨hz',its,n,ri,e⟩:=I.hok D _ hD;have hl:=ri.length;refine append_at (hsz:=by rw[List.size_toArray];omega) e fun h' sb ho'=>?_;refine h { s with heap:=h' } (I.write (t':=s.toks) (by rw[hD];trivial) (.inl rfl) (fun b u hb q=>(sb.2 b hb).trans q) ⟨_,ho'⟩ ⟨by rw[List.length_append];exact hz,its++[v],n+1,ri.append (.cons r .nil),?_⟩);rw[ho'];simp
def PTs (X:Cx) (ifs:List Expr) (t:TT):Prop:=
 ∀ (pins:List (Addr×Obj)) (s:Shared) (σ:St) (H:Hp) (Q:Bool→Hp→Prop),Inv X pins σ H s→t σ H Q →
  wpAny (model X.prog X.w) X.A (forIn ifs true fun c r=>if r=true then do let ok ← isTrue c X.env (eval c X.env);pure (ForInStep.yield ok) else pure (ForInStep.yield r)) (TP X pins σ Q) X.xe s
def kq:TT:=fun _ H Q=>Q true H
theorem lD:PTs X [] kq:=fun _ _ _ H _ I h=>wpAny_tests_nil ⟨H,I,h⟩
theorem fU {c:Expr}{t:TT}(h:PT X c t):PTs X [c] t:=fun pins s σ H Q I hw=>wpAny_tests_one (h pins s σ H Q I hw)
end
theorem acy {α:Type}{t:Sem α}{Q Q':α→Shared→Prop}{M:Model}{A:Around}{E:Value→Shared→Prop}{s:Shared}(h:wpAny M A t Q (fun _ _=>False) s) (hQ:∀ a s,Q a s→Q' a s):wpAny M A t Q' E s:=wpAny_mono h hQ fun _ _ z=>False.elim z
theorem adX {prog:Program}{w:World}{A:Around}{R:Result→Shared→Prop}{s:Shared}{elt target iter:Expr}{ifs:List Expr}{scope:Scope}{pos:Pos}{it acc:Value}{env:Env}(I:Nat→Shared→Prop)
  (turn:∀ n s,I n s→wpAny (model prog w) A (pyNext it) (fun r s₁=>match r with
   | none=>R (.ok .next) s₁
   | some v=>wpAny (model prog w) A (letOwnedTupleGo target it v) (fun _ s₁'=>wpAny (model prog w) A (assign target env v) (fun _ s₂=>
     wpAny (model prog w) A (forIn ifs true fun c r=>if r=true then do let ok ← isTrue c env (eval c env);pure (ForInStep.yield ok) else pure (ForInStep.yield r)) (fun ok s₃=>
      if ok=true then wpAny (model prog w) A (eval elt env) (fun x s₄=>
       wpAny (model prog w) A (call (.builtin "list.append") [acc,x]) (fun _ s₅=>∃ m,m<n∧I m s₅) (notedBy (model prog w) A env fun e s'=>R (.error e) s') s₄) (notedBy (model prog w) A env fun e s'=>R (.error e) s') s₃
      else ∃ m,m<n∧I m s₃) (notedBy (model prog w) A env fun e s'=>R (.error e) s') s₂) (notedBy (model prog w) A env fun e s'=>R (.error e) s') s₁') (notedBy (model prog w) A env fun e s'=>R (.error e) s') s₁) (notedBy (model prog w) A env fun e s'=>R (.error e) s') s)
  (n:Nat) (h:I n s) :
  codeAny (model prog w) A (.compLoop (.ListComp elt [⟨target,iter,ifs,0⟩] scope pos) 0 it acc env) R s:=by
 refine codeAny_loop rfl I (fun n s hI=>?_) n h;show wpAny _ A ((compTurn (.ListComp elt [⟨target,iter,ifs,0⟩] scope pos) 0 it acc env).onRaise (fun x=>do noteFrame x env;theTreesLotGoes x)) _ _ s;refine wpAny_noted ?_;rw[compTurn_list];refine wpAny_bind (wpAny_standAt (wpAny_bind (wpAny_mono (turn n s hI) (fun r s₁ h₁=>?_) fun _ _ h'=>h')));cases r with
 | none=>exact wpAny_pure h₁
 | some v=>
  refine wpAny_bind (wpAny_mono h₁ (fun _ s₁' h₁'=>?_) fun _ _ h'=>h');refine wpAny_bind (wpAny_mono h₁' (fun _ s₂ h₂=>wpAny_bind (wpAny_mono h₂ (fun ok s₃ h₃=>?_) fun _ _ h'=>h')) fun _ _ h'=>h');cases ok with
  | false=>exact wpAny_pure ⟨rfl,h₃⟩
  | true=>
   exact wpAny_bind (wpAny_bind (wpAny_mono h₃ (fun x s₄ h₄=>wpAny_bind (wpAny_mono h₄ (fun _ s₅ h₅=>wpAny_pure (wpAny_pure ⟨rfl,h₅⟩)) fun _ _ h'=>h')) fun _ _ h'=>h'))
section
variable {X:Cx}
def tLc (wi:TI) (g:TG) (tt:TT) (te:TE) (vs:List Nat):TE:=fun σ H Q=>wi σ H fun J H1=>∀ D,H1 D=none→∃ W:Nat→Nat→Hp→Prop,(∃ m,W 0 m (upd H1 D (.lst [])))∧∀ i m H,W i m H →
 (J.stop i H∧Q (.ref D) H)∨(J.go i H∧∃ Nx:Hp→Prop,(∀ H',Nx H'→∃ m',m'<m∧W (i+1) m' H')∧∀ x H',J.yld i H x H'→g x (wipe σ vs) H' fun σ2 H2=>wipe σ2 vs=wipe σ vs∧tt σ2 H2 fun b H3=>
  if b=true then te σ2 H3 fun y H4=>∃ acc,H4 D=some (.lst acc)∧acc.length<sizeLine∧Nx (upd H4 D (.lst (acc++[y]))) else Nx H3)
theorem af6 {pins:List (Addr×Obj)}{s:Shared}{σ:St}{H:Hp}{Q:VK}{elt tg iter:Expr}{ifs:List Expr}{scope:Scope}{own:List (Str×Nat)}{pos pos':Pos}{wi:TI}{g:TG}{tt:TT}{te:TE}{use:Option (Value→Sem Unit)}{Qf:Value→Shared→Prop}
  (hc:X.calm=true) (hN:X.N.Nodup) (I:Inv X pins σ H s) (hi:PI X tg iter wi) (ok:d4 X.N X.env.scope scope own)
  (hg:∀ (s:Shared) (H:Hp) (C:Addr) (cl:List (Str×Addr)) (fp:List Addr),PG (X.blk s H scope (compEnvC scope cl C X.env) fp) tg g) (ht:∀ (s:Shared) (H:Hp) (C:Addr) (cl:List (Str×Addr)) (fp:List Addr),PTs (X.blk s H scope (compEnvC scope cl C X.env) fp) ifs tt)
  (he:∀ (s:Shared) (H:Hp) (C:Addr) (cl:List (Str×Addr)) (fp:List Addr),PE (X.blk s H scope (compEnvC scope cl C X.env) fp) elt te) (hs:∀ x,foldedSetIterable iter X.env x=pure x)
  (h:tLc wi g tt te (own.map (·.2)) σ H Q)
  (hRR:∀ D C s' m H',Inv X pins σ H' s'→Q (.ref D) H'→s'.heap.Ns C m→qv X pins H' C→compPost (model X.prog X.w) X.A X.xe use Qf (.ref D) C (.ok .next) s') :
  wpAny (model X.prog X.w) X.A (comprehension (.ListComp elt [⟨tg,iter,ifs,0⟩] scope pos) scope X.env pos' (newList []) false (eval iter X.env) use) Qf X.xe s:=by
 have hfree:∀ y∈scope.names,y.2 = .free→∃ c,X.env.cells.lookup y.1=some c:=fun y hy e=>by
  rcases ok.free y hy e with k|k
  ·exact I.ok.has _ (.inl k)
  ·exact I.ok.has _ (.inr k)
 refine wpAny_comprehension_free (use:=use) rfl hs (agA hfree) ok.kind (fun y hy e=>by rw[ok.uniq y hy,e])
  (thn (hi pins s σ H _ I h) fun xv s1 hx=>thn hx fun itv s2 h2=>?_)
 obtain⟨it,fp,tn,J,H2,e,I2,T,st2,f2,q⟩:=h2;subst e;refine wpAny_newObj_type (afC ?_) (by show 0≤sizeLine;decide);generalize hD:s2.heap.objs.size=D;have hDn:H2 D=none:=I2.hok.fresh (Nat.le_of_eq hD);obtain⟨W,⟨m0,w0⟩,turn⟩:=q D hDn;generalize hs3:({ s2 with heap:=s2.heap.push { cls:=.type "list",data:=.seq ([]:List Value).toArray } }:Shared)=s3;have I3:Inv X pins σ (upd H2 D (.lst [])) s3:=by
  rw[← hs3];refine I2.laid (t':=s2.toks) (fun b o e=>Heap.get?_push_of_some _ e) (Nat.le_of_eq hD) ⟨Nat.zero_le _,[],0,.nil,?_⟩;rw[← hD];exact Heap.get?_push_size _ rfl
 have h3:s3.heap=s2.heap.push { cls:=.type "list",data:=.seq ([]:List Value).toArray }:=by rw[← hs3]
 have sz:∀ b∈fp,b<s2.heap.objs.size:=fun b hb=>by
  obtain⟨o,e,_⟩:=T.obj _ _ st2 b hb;exact Heap.lt_size e
 have f3:∀ b∈fp,qv X pins (upd H2 D (.lst [])) b∧b<s3.heap.objs.size:=fun b hb=>by
  have hlt:=sz b hb;refine⟨⟨?_,(f2 b hb).2⟩,by rw[h3,Heap.size_push];exact Nat.lt_succ_of_lt hlt⟩;rw[ae (by rw[← hD];exact Nat.ne_of_lt hlt)];exact(f2 b hb).1
 have st3:tn 0 s3.heap:=T.keep _ _ _ st2 fun b _ o e=>by rw[h3];exact Heap.get?_push_of_some _ e
 have I4:=afl I3 ok hN f3;have pg:=hg s3 (upd H2 D (.lst [])) s3.heap.objs.size (cellsFrom (s3.heap.objs.size+1) scope.names (cI X.env.cells scope.names [])) fp;have pt:=ht s3 (upd H2 D (.lst [])) s3.heap.objs.size (cellsFrom (s3.heap.objs.size+1) scope.names (cI X.env.cells scope.names [])) fp;have pe:=he s3 (upd H2 D (.lst [])) s3.heap.objs.size (cellsFrom (s3.heap.objs.size+1) scope.names (cI X.env.cells scope.names [])) fp;show codeAny _ _ (.compStart (.ListComp elt [⟨tg,iter,ifs,0⟩] scope pos) 0 (.ref it) (.ref D) (compEnvC scope (cellsFrom (s3.heap.objs.size+1) scope.names (cI X.env.cells scope.names [])) s3.heap.objs.size X.env)) (compPost (model X.prog X.w) X.A X.xe use Qf (.ref D) s3.heap.objs.size) { s3 with heap:=pushCells (s3.heap.push { cls:=.type "dict",data:=.dict #[] }) scope.names };have nfp:∀ b∈fp,(upd H2 D (.lst [])) b=none:=fun b hb=>(f3 b hb).1.1;generalize hce:compEnvC scope (cellsFrom (s3.heap.objs.size+1) scope.names (cI X.env.cells scope.names [])) s3.heap.objs.size X.env=ce at I4 pg pt pe ⊢;have cL:ce.locals=s3.heap.objs.size:=by subst hce;rfl
 generalize hH3:upd H2 D (.lst [])=H3 at I3 I4 pg pt pe w0 nfp f3;generalize hs4:({ s3 with heap:=pushCells (s3.heap.push { cls:=.type "dict",data:=.dict #[] }) scope.names }:Shared)=s4 at I4 ⊢;have st4:tn 0 s4.heap:=T.keep _ _ _ st3 fun b _ o e=>by rw[← hs4];exact pushCells_keeps _ _ _ _ (Heap.get?_push_of_some _ e)
 have stat:∀ {σ':St} {H':Hp} {s':Shared},Inv (X.blk s3 H3 scope ce fp) [] σ' H' s'→(∀ b∈fp,H' b=none)→∀ b∈fp,qv (X.blk s3 H3 scope ce fp) [] H' b:=fun {σ' H' s'} I' hn b hb=>
  ⟨hn b hb,(I'.ok.exf b hb).1,I'.ok.ad3 b hb,.inl hb,fun x c e=>(I'.ok.exf b hb).2 x c e,fun p hp=>absurd (show p∈([]:List (Addr×Obj))++[] from hp) (by simp)⟩
 have loop:codeAny (model X.prog X.w) X.A (.compLoop (.ListComp elt [⟨tg,iter,ifs,0⟩] scope pos) 0 (.ref it) (.ref D) ce) (compPost (model X.prog X.w) X.A X.xe use Qf (.ref D) s3.heap.objs.size) s4:=by
  refine adX (fun n s'=>∃ i H',Inv (X.blk s3 H3 scope ce fp) [] (wipe σ (own.map (·.2))) H' s'∧tn i s'.heap∧(∀ b∈fp,H' b=none)∧W i n H') ?_ m0 ⟨0,H3,I4,st4,nfp,w0⟩;rintro n s5 ⟨i,H5,I5,st5,n5,w5⟩;rcases turn i n H5 w5 with⟨stop,qq⟩|⟨go,Nx,hNx,step⟩
  ·have td:=T.done (X.blk s3 H3 scope ce fp) rfl rfl rfl hc i [] s5 _ H5 (fun _ _=>False) I5 (stat I5 n5) st5 stop;refine acy td fun r s6 ⟨hr,I6⟩=>?_;subst hr;have I7:Inv X pins σ H5 s6:=I3.amM (ch:=fp) I6.os I6.base I6.hok I6.bare fun b hb=>⟨(f3 b hb).1.2.2.2.1,(f3 b hb).1.2.1,(f3 b hb).1.2.2.2.2.1,(f3 b hb).1.2.2.2.2.2⟩;have nC:H5 s3.heap.objs.size=none:=by
    have z:H5 ce.locals=none:=I6.free;rw[cL] at z;exact z
   obtain⟨m,hn,_⟩:=I6.loc;have hn:s6.heap.Ns ce.locals m:=hn;rw[cL] at hn;exact hRR D s3.heap.objs.size s6 m H5 I7 qq hn (I3.ab5 (Nat.le_refl _) nC)
  ·have ti:=T.item (X.blk s3 H3 scope ce fp) rfl rfl rfl hc i [] s5 _ H5 (fun _ _=>False) I5 (stat I5 n5) st5 go;refine acy ti fun r s6 ⟨u,hr,h6⟩=>?_;subst hr;refine acy h6 fun _ s7 ⟨x,H7,I7,r7,y7,st7,n7⟩=>?_;have I7':=I7.pinned (stat I7 n7) (T.obj _ _ st7);refine acy (pg _ s7 _ H7 x u _ I7' r7 (step x H7 y7)) fun _ s8 ⟨σ8,H8,I8,hw8,q8⟩=>?_;refine acy (pt _ s8 σ8 H8 _ I8 q8) fun b s9 ⟨H9,I9,q9⟩=>?_;have fin:∀ {s':Shared} {H':Hp},Inv (X.blk s3 H3 scope ce fp) ([]++yp fp s7.heap) σ8 H' s'→Nx H'→∃ m,m<n∧∃ i H',Inv (X.blk s3 H3 scope ce fp) [] (wipe σ (own.map (·.2))) H' s'∧tn i s'.heap∧(∀ b∈fp,H' b=none)∧W i m H':=fun {s' H'} I' nx=>by
    obtain⟨m',hm,w'⟩:=hNx H' nx;have pin':∀ b∈fp,∀ o,s7.heap.get? b=some o→s'.heap.get? b=some o∧H' b=none:=fun b hb o e=>
     let z:=I'.pin (b,o) (List.mem_append_right _ (List.mem_append_right _ (vA hb e)))
     ⟨z.1,z.2.1⟩
    have hl:(wipe σ (own.map (·.2))).length=σ8.length:=by rw[← hw8,tX]
    refine⟨m',hm,i+1,H',(I'.wt (pins:=[])).weak hl (fun j v e=>?_),T.keep _ _ _ st7 fun b hb o e=>(pin' b hb o e).1,fun b hb=>?_,w'⟩
    ·rw[← hw8] at e;exact(yM e).1
    ·obtain⟨o,e,_⟩:=T.obj _ _ st7 b hb;exact(pin' b hb o e).2
   cases b with
   | false=>
    simp only[Bool.false_eq_true,if_false] at q9 ⊢;exact fin I9 q9
   | true=>
    simp only[if_true] at q9 ⊢;refine acy (pe _ s9 σ8 H9 _ I9 q9) fun z s10 ⟨yv,H10,I10,r10,acc,hD10,hz10,nx⟩=>?_;exact alr (X:=X.blk s3 H3 scope ce fp) I10 hD10 hz10 r10 fun s11 I11=>fin I11 nx
 exact codeAny_compStart_list loop (T.self X.A 0 _ _ _ st4 loop)
theorem fO {elt tg iter:Expr}{ifs:List Expr}{scope:Scope}{own:List (Str×Nat)}{pos:Pos}{wi:TI}{g:TG}{tt:TT}{te:TE}(hc:X.calm=true) (hN:X.N.Nodup) (hi:PI X tg iter wi) (ok:d4 X.N X.env.scope scope own)
  (hg:∀ (s:Shared) (H:Hp) (C:Addr) (cl:List (Str×Addr)) (fp:List Addr),PG (X.blk s H scope (compEnvC scope cl C X.env) fp) tg g) (ht:∀ (s:Shared) (H:Hp) (C:Addr) (cl:List (Str×Addr)) (fp:List Addr),PTs (X.blk s H scope (compEnvC scope cl C X.env) fp) ifs tt)
  (he:∀ (s:Shared) (H:Hp) (C:Addr) (cl:List (Str×Addr)) (fp:List Addr),PE (X.blk s H scope (compEnvC scope cl C X.env) fp) elt te) (hs:∀ x,foldedSetIterable iter X.env x=pure x:=by intro _;rfl) :
  PE X (.ListComp elt [⟨tg,iter,ifs,0⟩] scope pos) (tLc wi g tt te (own.map (·.2))):=by
 intro pins s σ H Q I h;rw[eval_ListComp];refine af6 hc hN I hi ok hg ht he hs h fun D C s' m H' I' q hn f=>⟨m,hn,fun h'' sb=>?_⟩;obtain⟨f0,f1,f2,f3,f4,f5⟩:=f;exact⟨.ref D,H',I'.turned (t':=s'.toks) (fun b o hb e=>(sb.2 b hb).trans e) f0 f1 f3 f4 f5,rfl,q⟩
theorem vH {i:Nat}{y:Str}{py:Pos}{elt tg iter:Expr}{ifs:List Expr}{scope:Scope}{own:List (Str×Nat)}{pos spos:Pos}{wi:TI}{g:TG}{tt:TT}{te:TE}(hc:X.calm=true) (hN:X.N.Nodup) (hy:X.N[i]?=some y) (hyl:X.env.scope.names.lookup y=some .local)
  (hsw:swapsWith (.ListComp elt [⟨tg,iter,ifs,0⟩] scope pos) (some (.Name y py)) spos.line X.env=pure true) (hi:PI X tg iter wi) (ok:d4 X.N X.env.scope scope own)
  (hg:∀ (s:Shared) (H:Hp) (C:Addr) (cl:List (Str×Addr)) (fp:List Addr),PG (X.blk s H scope (compEnvC scope cl C X.env) fp) tg g) (ht:∀ (s:Shared) (H:Hp) (C:Addr) (cl:List (Str×Addr)) (fp:List Addr),PTs (X.blk s H scope (compEnvC scope cl C X.env) fp) ifs tt)
  (he:∀ (s:Shared) (H:Hp) (C:Addr) (cl:List (Str×Addr)) (fp:List Addr),PE (X.blk s H scope (compEnvC scope cl C X.env) fp) elt te) (hs:∀ x,foldedSetIterable iter X.env x=pure x:=by intro _;rfl) :
  PS X (.Assign [.Name y py] (.ListComp elt [⟨tg,iter,ifs,0⟩] scope pos) spos) (afa (tLc wi g tt te (own.map (·.2))) (cH i)):=by
 intro pins s σ H D I h;rw[exec_Assign_Name_used _ _ _ _ hsw];refine wpAny_bind (wpAny_standAt (wpAny_bind ?_));show wpAny _ X.A (do let _ ← comprehension (.ListComp elt [⟨tg,iter,ifs,0⟩] scope pos) scope X.env (firstIterPos [⟨tg,iter,ifs,0⟩] pos) (newList []) false (eval iter X.env) (some (assign (.Name y py) X.env))) _ _ s;have h:tLc wi g tt te (own.map (·.2)) σ H (fun x H1=>cH i x σ H1 D.nx):=h;refine wpAny_bind (thn (af6 (Qf:=fun _ s'=>SP X pins D .next s') hc hN I hi ok hg ht he hs h fun L C s' m H' I' q hn f=>?_) fun _ s' hq=>wpAny_pure (wpAny_pure hq));show wpAny _ _ (assign (.Name y py) X.env (.ref L)) _ _ _;refine wpAny_assign_Name (ac4 (v:=V.ref L) I' hN hy (.inl hyl) rfl (fun s2 I2 ⟨a,sb,ha⟩=>?_) (.inr hyl));obtain⟨f0,f1,f2,f3,f4,f5⟩:=f;have haC:C≠a:=by
  rcases ha with z|z
  ·rw[z];exact f1
  ·exact fun e=>f4 y a z e.symm
 refine⟨m,hn.sameBut sb haC,fun h3 sb3=>?_⟩;exact⟨_,H',I2.turned (t':=s2.toks) (fun b o hb e=>(sb3.2 b hb).trans e) f0 f1 f3 f4 f5,q⟩
end
theorem ajq {lo:Int}{n:Nat}{g:TG}{tt:TT}{te:TE}{vs:List Nat}{σ:St}{H1:Hp}{D:Addr}{Qd:Hp→Prop}(Pv:Nat→Hp→Prop) (h0:Pv 0 (upd H1 D (.lst [])))
  (hs:∀ i H,i<n→Pv i H→g (.int (lo+i)) (wipe σ vs) H fun σ2 H2=>wipe σ2 vs=wipe σ vs∧tt σ2 H2 fun b H3=>
   if b=true then te σ2 H3 fun y H4=>∃ acc,H4 D=some (.lst acc)∧acc.length<sizeLine∧Pv (i+1) (upd H4 D (.lst (acc++[y]))) else Pv (i+1) H3) (hd:∀ H,Pv n H→Qd H) :
  ∃ W:Nat→Nat→Hp→Prop,(∃ m,W 0 m (upd H1 D (.lst [])))∧∀ i m H,W i m H →
   ((Itr lo n).stop i H∧Qd H)∨((Itr lo n).go i H∧∃ Nx:Hp→Prop,(∀ H',Nx H'→∃ m',m'<m∧W (i+1) m' H')∧∀ x H',(Itr lo n).yld i H x H'→g x (wipe σ vs) H' fun σ2 H2=>wipe σ2 vs=wipe σ vs∧tt σ2 H2 fun b H3=>
    if b=true then te σ2 H3 fun y H4=>∃ acc,H4 D=some (.lst acc)∧acc.length<sizeLine∧Nx (upd H4 D (.lst (acc++[y]))) else Nx H3):=by
 refine⟨fun i m H=>m=n-i∧i≤n∧Pv i H,⟨n,by simp,Nat.zero_le _,h0⟩,?_⟩;rintro i m H ⟨rfl,hi,p⟩;by_cases hlt:i<n
 ·refine .inr ⟨hlt,Pv (i+1),fun H' p'=>⟨n-(i+1),by omega,rfl,hlt,p'⟩,fun x H' y=>?_⟩;obtain⟨e,y⟩:=y;subst e y;exact hs i _ hlt p
 ·have e:i=n:=by omega
  subst e;exact .inl ⟨Nat.le_refl _,hd H p⟩
section
variable {κ:Type}[DecidableEq κ]
def bg (kvs:List (κ×V)) (k:κ):Option V:=(kvs.find? fun kv=>decide (kv.1=k)).map (·.2)
def putK (kvs:List (κ×V)) (k:κ) (v:V):List (κ×V):=
 if(kvs.any fun kv=>decide (kv.1=k))=true then kvs.map (fun kv=>if kv.1=k then (kv.1,v) else kv) else kvs++[(k,v)]
theorem dU {p:κ×V}{r:List (κ×V)}{k:κ}(e:p.1=k):bg (p::r) k=some p.2:=by simp[bg,List.find?_cons,e]
theorem dz {p:κ×V}{r:List (κ×V)}{k:κ}(e:¬ p.1=k):bg (p::r) k=bg r k:=by simp[bg,List.find?_cons,e]
theorem k9 (k:κ):∀ kvs:List (κ×V),(kvs.any fun kv=>decide (kv.1=k))=(bg kvs k).isSome
 | []=>rfl
 | p::r=>by
  rw[List.any_cons];by_cases e:p.1=k
  ·simp only[dU e,decide_eq_true e,Bool.true_or,Option.isSome_some]
  ·rw[dz e,decide_eq_false e,Bool.false_or];exact k9 k r
theorem afh (k j:κ) (y:V):∀ kvs:List (κ×V),bg (kvs.map fun kv=>if kv.1=k then (kv.1,y) else kv) j=(bg kvs j).map fun x=>if j=k then y else x
 | []=>rfl
 | p::r=>by
  have ih:=afh k j y r;rw[List.map_cons];by_cases h:p.1=k
  ·rw[if_pos h];by_cases e:p.1=j
   ·rw[dU (p:=(p.1,y)) e,dU e,Option.map_some,if_pos (e.symm.trans h)]
   ·rw[dz (p:=(p.1,y)) e,dz e,ih]
  ·rw[if_neg h];by_cases e:p.1=j
   ·rw[dU (p:=p) e,dU e,Option.map_some,if_neg (fun z=>h (e.trans z))]
   ·rw[dz (p:=p) e,dz e,ih]
theorem ac9 (k j:κ) (y:V):∀ kvs:List (κ×V),bg kvs k=none→bg (kvs++[(k,y)]) j=if j=k then some y else bg kvs j
 | [],_=>by
  by_cases e:k=j
  ·rw[if_pos e.symm];exact dU (p:=(k,y)) e
  ·rw[if_neg (fun z=>e z.symm)];exact dz (p:=(k,y)) e
 | p::r,hn=>by
  rw[List.cons_append];have hk:¬ p.1=k:=fun z=>by rw[dU z] at hn;cases hn
  rw[dz hk] at hn;have ih:=ac9 k j y r hn;by_cases e:p.1=j
  ·rw[dU e,dU e,if_neg (fun z=>hk (e.trans z))]
  ·rw[dz e,dz e,ih]
theorem aj1 (kvs:List (κ×V)) (k j:κ) (y:V):bg (putK kvs k y) j=if j=k then some y else bg kvs j:=by
 unfold putK;by_cases a:(kvs.any fun kv=>decide (kv.1=k))=true
 ·rw[if_pos a,afh];rw[k9] at a;by_cases e:j=k
  ·obtain⟨x,hx⟩:=Option.isSome_iff_exists.mp a;rw[if_pos e,e,hx,Option.map_some,if_pos rfl]
  ·rw[if_neg e];cases bg kvs j with
   | none=>rfl
   | some x=>rw[Option.map_some,if_neg e]
 ·rw[if_neg a];refine ac9 k j y kvs ?_;rw[k9] at a;cases q:bg kvs k with
  | none=>rfl
  | some x=>rw[q] at a;exact(a rfl).elim
theorem tD (kvs:List (κ×V)) (k:κ) (v:V):(putK kvs k v).length≤kvs.length+1:=by
 unfold putK;split
 ·rw[List.length_map];omega
 ·rw[List.length_append,List.length_cons,List.length_nil];omega
theorem ji.lj {o:Option V}{u:Option Value}(r:ji o u):o.isSome=u.isSome:=by
 cases o with
 | none=>cases u with
  | none=>rfl
  | some _=>exact(show False from r).elim
 | some _=>cases u with
  | none=>exact(show False from r).elim
  | some _=>rfl
theorem KV.val {kvs:List (κ×V)}{vs:List (κ×Value)}(r:KV kvs vs) (k:κ):ji (bg kvs k) (valueAt vs k):=by
 unfold KV at r
 induction r with
 | nil=>exact True.intro
 | @cons p q ps qs h t ih=>
  obtain⟨h1,h2⟩:=h;by_cases e:p.1=k
  ·have e':q.1=k:=h1.symm.trans e;have b:valueAt (q::qs) k=some q.2:=by simp[valueAt,List.find?_cons,e']
   rw[dU e,b];exact h2
  ·have e':¬ q.1=k:=fun z=>e (h1.trans z);have b:valueAt (q::qs) k=valueAt qs k:=by simp[valueAt,List.find?_cons,e']
   rw[dz e,b];exact ih
theorem KV.any {kvs:List (κ×V)}{vs:List (κ×Value)}(r:KV kvs vs) (k:κ):(kvs.any fun kv=>decide (kv.1=k))=vs.any fun kv=>decide (kv.1=k):=by
 unfold KV at r
 induction r with
 | nil=>rfl
 | cons h t ih=>rw[List.any_cons,List.any_cons,ih,h.1]
theorem KV.ajC {kvs:List (κ×V)}{vs:List (κ×Value)}(r:KV kvs vs) (k:κ) {y:V}{u:Value}(ry:RelV y u) :
  KV (kvs.map fun kv=>if kv.1=k then (kv.1,y) else kv) (vs.map fun kv=>if kv.1=k then (kv.1,u) else kv):=by
 unfold KV at r ⊢
 induction r with
 | nil=>exact .nil
 | @cons p q ps qs h t ih=>
  rw[List.map_cons,List.map_cons];refine .cons ?_ ih;obtain⟨h1,h2⟩:=h;by_cases e:p.1=k
  ·rw[if_pos e,if_pos (h1.symm.trans e)];exact⟨h1,ry⟩
  ·rw[if_neg e,if_neg (fun z=>e (h1.trans z))];exact⟨h1,h2⟩
theorem KV.put {kvs:List (κ×V)}{vs:List (κ×Value)}(r:KV kvs vs) (k:κ) {y:V}{u:Value}(ry:RelV y u):KV (putK kvs k y) (stored vs k u):=by
 unfold putK stored;rw[r.any k];by_cases e:(vs.any fun kv=>decide (kv.1=k))=true
 ·rw[if_pos e,if_pos e];exact r.ajC k ry
 ·rw[if_neg e,if_neg e];exact Paired.snoc r ⟨rfl,ry⟩
theorem KV.length {kvs:List (κ×V)}{vs:List (κ×Value)}(r:KV kvs vs):kvs.length=vs.length:=Paired.length r
end
theorem si {P:Program}{w:World}{k:Key}{u:Value}(r:RelV (kV k) u):(bH P w).is k u=true:=by
 cases k with
 | inl i=>obtain⟨t,e⟩:=(show ∃ t,u=Value.int i t from r);subst e;exact afA P w i t
 | inr x=>obtain⟨t,e⟩:=(show ∃ t,u=Value.str x t from r);subst e;exact afB P w x t
theorem acQ {P:Program}{w:World}:∀ {ks:List Key}{us:List Value},Vals (ks.map kV) us→ItemsAre (bH P w) ks us
 | [],_,r=>by rw[List.map_nil] at r;cases r;exact .nil
 | k::ks,_,r=>by
  rw[List.map_cons] at r;cases r with
  | cons h t=>exact .cons (si h) (acQ t)
abbrev KT (H:Hp):List (List Key×V)→List (List Key×Addr×Value)→Prop:=Paired fun p q=>p.1=q.1∧H q.2.1=some (.tup (p.1.map kV))∧RelV p.2 q.2.2
theorem KT.val {H:Hp}{kvs:List (List Key×V)}{xs:List (List Key×Addr×Value)}(r:KT H kvs xs) (k:List Key):ji (bg kvs k) ((atKey xs k).map (·.2)):=by
 induction r with
 | nil=>exact True.intro
 | @cons p q ps qs h t ih=>
  obtain⟨h1,_,h2⟩:=h;by_cases e:p.1=k
  ·have e':q.1=k:=h1.symm.trans e;have b:atKey (q::qs) k=some q.2:=by simp[atKey,List.find?_cons,e']
   rw[dU e,b];exact h2
  ·have e':¬ q.1=k:=fun z=>e (h1.trans z);have b:atKey (q::qs) k=atKey qs k:=by simp[atKey,List.find?_cons,e']
   rw[dz e,b];exact ih
theorem KT.ajC {H:Hp}{kvs:List (List Key×V)}{xs:List (List Key×Addr×Value)}(r:KT H kvs xs) (k:List Key) {y:V}{u:Value}(ry:RelV y u) :
  KT H (kvs.map fun kv=>if kv.1=k then (kv.1,y) else kv) (xs.map (putAt k u)):=by
 induction r with
 | nil=>exact .nil
 | @cons p q ps qs h t ih=>
  rw[List.map_cons,List.map_cons];refine .cons ?_ ih;obtain⟨h1,h2,h3⟩:=h;unfold putAt;by_cases e:p.1=k
  ·rw[if_pos e,if_pos (h1.symm.trans e)];exact⟨h1,h2,ry⟩
  ·rw[if_neg e,if_neg (fun z=>e (h1.trans z))];exact⟨h1,h2,h3⟩
theorem KT.put {H:Hp}{kvs:List (List Key×V)}{xs:List (List Key×Addr×Value)}(r:KT H kvs xs) (k:List Key) {b:Addr}{y:V}{u:Value}(hb:H b=some (.tup (k.map kV))) (ry:RelV y u) :
  KT H (putK kvs k y) (storedH xs k b u):=by
 have e:(kvs.any fun kv=>decide (kv.1=k))=(atKey xs k).isSome:=by
  rw[k9,(r.val k).lj,Option.isSome_map]
 unfold putK storedH;rw[e];by_cases q:(atKey xs k).isSome=true
 ·rw[if_pos q,if_pos q];exact r.ajC k ry
 ·rw[if_neg q,if_neg q];exact Paired.snoc r ⟨rfl,hb,ry⟩
theorem KT.keeps {H H':Hp}{kvs:List (List Key×V)}{xs:List (List Key×Addr×Value)}(r:KT H kvs xs) (ht:∀ b ys,H b=some (.tup ys)→H' b=some (.tup ys)):KT H' kvs xs:=
 Paired.ajt r fun _ _ z=>⟨z.1,ht _ _ z.2.1,z.2.2⟩
section
variable {P:Program}{w:World}{H:Hp}{h:Heap}{a:Addr}
theorem akc {u:HO}(ok:HOk P w H h) (e:Rd H a u):di P w H h a u:=e.ok ok
theorem yU {kvs:List (Key×V)}(ok:HOk P w H h) (e:Rd H a (.dK kvs)):kvs.length≤sizeLine∧(a == sysModules)=false∧∃ vs,KV kvs vs∧h.DictOf (bH P w) a vs:=
 show di P w H h a (.dK kvs) from akc ok e
theorem aj5 {kvs:List (Key×V)}(ok:HOk P w H h) (e:H a=some (.dK kvs)):kvs.length≤sizeLine∧(a == sysModules)=false∧∃ vs,KV kvs vs∧h.DictOf (bH P w) a vs:=yU ok (.inl e)
theorem xY {ks:List Key}(ok:HOk P w H h) (e:H a=some (.tup (ks.map kV))):(tupleKind (bH P w)).is h ks a:=by
 obtain⟨_,its,r,o,h1,h2,n,h3⟩:=(show di P w H h a (.tup (ks.map kV)) from ok a _ e);exact⟨o,its.toArray,n,h1,h2,h3,by simpa using acQ r⟩
theorem aaU {kvs:List (List Key×V)}(ok:HOk P w H h) (e:Rd H a (.dT kvs)):kvs.length≤sizeLine∧(a == sysModules)=false ∧
  ∃ xs,KT H kvs xs∧h.DictOfH (tupleKind (bH P w)) a xs:=by
 obtain⟨z,y,xs,r,o,es,ep,h1,h2,h3,h4,h5⟩:=(show di P w H h a (.dT kvs) from akc ok e);refine⟨z,y,xs,r,o,es,ep,h1,h2,h3,h4,fun x hx=>?_,h5⟩;have all:∀ {l:List (List Key×V)} {m:List (List Key×Addr×Value)},KT H l m→∀ x∈m,(tupleKind (bH P w)).is h x.1 x.2.1:=by
  intro l m q
  induction q with
  | nil=>intro x hx;exact nomatch hx
  | @cons p q ps qs hq t ih=>
   intro x hx;rcases List.mem_cons.mp hx with e|hx
   ·subst e;exact xY ok (by rw[← hq.1];exact hq.2.1)
   ·exact ih x hx
 exact all r x hx
theorem amS {kvs:List (List Key×V)}(ok:HOk P w H h) (e:H a=some (.dT kvs)):kvs.length≤sizeLine∧(a == sysModules)=false ∧
  ∃ xs,KT H kvs xs∧h.DictOfH (tupleKind (bH P w)) a xs:=aaU ok (.inl e)
end
def hX (H:Hp) (a:Addr) (y:V) (r:Option V):Prop:=
 (∃ kvs k,Rd H a (.dK kvs)∧y=kV k∧r=bg kvs k)∨∃ kvs k b,Rd H a (.dT kvs)∧y = .ref b∧H b=some (.tup (k.map kV))∧r=bg kvs k
def mY (H:Hp) (a:Addr) (y v:V) (H':Hp):Prop:=
 (∃ kvs k,H a=some (.dK kvs)∧y=kV k∧kvs.length<sizeLine∧H'=upd H a (.dK (putK kvs k v))) ∨
 ∃ kvs k b,H a=some (.dT kvs)∧y = .ref b∧H b=some (.tup (k.map kV))∧kvs.length<sizeLine∧H'=upd H a (.dT (putK kvs k v))
theorem hX.k {H:Hp}{a:Addr}{kvs:List (Key×V)}{k:Key}(e:H a=some (.dK kvs)):hX H a (kV k) (bg kvs k):=.inl ⟨kvs,k,.inl e,rfl,rfl⟩
theorem mY.k {H:Hp}{a:Addr}{kvs:List (Key×V)}{k:Key}{v:V}(e:H a=some (.dK kvs)) (hl:kvs.length<sizeLine):mY H a (kV k) v (upd H a (.dK (putK kvs k v))):=.inl ⟨kvs,k,e,rfl,hl,rfl⟩
section
variable {X:Cx}{pins:List (Addr×Obj)}{σ:St}{H:Hp}{s:Shared}{a:Addr}{y v:V}{u r:Value}{o:Option V}{A:Around}{E:Value→Shared→Prop}
theorem Inv.big (I:Inv X pins σ H s):sysModules<s.heap.objs.size:=by
 have h:mainGlobals<s.heap.objs.size:=(I.mod.glob.keeps I.bk).lt;exact Nat.lt_trans (by decide) h
theorem ahD {Q:Value→Shared→Prop}(hu:A.units+1<cLine) (I:Inv X pins σ H s) (g:hX H a y (some v)) (ry:RelV y u) (h:∀ w' s',Inv X pins σ H s'→RelV v w'→Q w' s') :
  wpAny (model X.prog X.w) A (getItem (.ref a) u) Q E s:=by
 rcases g with⟨kvs,k,e,ey,l⟩|⟨kvs,k,b,e,ey,eb,l⟩
 ·subst ey;obtain⟨z,hd,vs,rel,dd⟩:=yU I.hok e;obtain⟨w',hw,rw'⟩:=ji.some_of (v:=v) (o:=valueAt vs k) (by rw[l];exact rel.val k);exact wpAny_getItem_of (si ry) dd.mapOf hw (h w' _ (I.tok _) rw')
 ·subst ey;cases (show u=Value.ref b from ry);obtain⟨z,hd,xs,rel,dd⟩:=aaU I.hok e;obtain⟨w',hw,rw'⟩:=ji.some_of (v:=v) (o:=(atKey xs k).map (·.2)) (by rw[l];exact rel.val k);obtain⟨p,hp,hp2⟩:=Option.map_eq_some_iff.mp hw;refine wpAny_getItem_heap (tupleKind_room_in1 hu) (xY I.hok eb) dd hp ?_;rw[hp2];exact h w' _ (I.tok _) rw'
theorem anv {Q:Value→Shared→Prop}(hu:A.units+1<cLine) (I:Inv X pins σ H s) (g:hX H a y o) (ry:RelV y u) (h:∀ s',Inv X pins σ H s'→Q (.bool o.isSome) s') :
  wpAny (model X.prog X.w) A (compareOp .In u (.ref a)) Q E s:=by
 rcases g with⟨kvs,k,e,ey,l⟩|⟨kvs,k,b,e,ey,eb,l⟩
 ·subst ey;obtain⟨z,hd,vs,rel,dd⟩:=yU I.hok e;refine wpAny_in_of (si ry) hd dd.mapOf ?_;rw[← (rel.val k).lj,← l];exact h _ (I.tok _)
 ·subst ey;cases (show u=Value.ref b from ry);obtain⟨z,hd,xs,rel,dd⟩:=aaU I.hok e;refine wpAny_in_heap (tupleKind_room_in1 hu) (xY I.hok eb) hd dd ?_;have q:=(rel.val k).lj;rw[Option.isSome_map] at q;rw[← q,← l];exact h _ (I.tok _)
theorem akq {Q:Value→Shared→Prop}(hu:A.units+1<cLine) (I:Inv X pins σ H s) (g:hX H a y o) (ry:RelV y u) (h:∀ s',Inv X pins σ H s'→Q (.bool (!o.isSome)) s') :
  wpAny (model X.prog X.w) A (compareOp .NotIn u (.ref a)) Q E s:=by
 rcases g with⟨kvs,k,e,ey,l⟩|⟨kvs,k,b,e,ey,eb,l⟩
 ·subst ey;obtain⟨z,hd,vs,rel,dd⟩:=yU I.hok e;refine wpAny_notIn_of (si ry) hd dd.mapOf ?_;rw[← (rel.val k).lj,← l];exact h _ (I.tok _)
 ·subst ey;cases (show u=Value.ref b from ry);obtain⟨z,hd,xs,rel,dd⟩:=aaU I.hok e;refine wpAny_notIn_heap (tupleKind_room_in1 hu) (xY I.hok eb) hd dd ?_;have q:=(rel.val k).lj;rw[Option.isSome_map] at q;rw[← q,← l];exact h _ (I.tok _)
theorem ab4 {h':Heap}{t':Nat}{ob:HO}(I:Inv X pins σ H s) (mu:Mut (H a)) (hs:Heap.SameBut a s.heap h') (he:∃ q,h'.get? a=some q) (new:di X.prog X.w (upd H a ob) h' a ob) :
  Inv X pins σ (upd H a ob) { s with heap:=h',toks:=t' }:=
 I.write (x:=a) (e:=a) mu (.inl rfl) (fun b q hb z=>(hs.2 b hb).trans z) he new
theorem ahG {P:Program}{w:World}{H':Hp}{h':Heap}{kvs:List (Key×V)}{vs:List (Key×Value)}(z:kvs.length≤sizeLine) (hd:(a == sysModules)=false) (rel:KV kvs vs) (dd:h'.DictOf (bH P w) a vs) :
  di P w H' h' a (.dK kvs):=⟨z,hd,vs,rel,dd⟩
theorem ahE {H':Hp}{Q:Unit→Shared→Prop}(hu:A.units+1<cLine) (I:Inv X pins σ H s) (g:mY H a y v H') (ry:RelV y u) (rv:RelV v r) (h:∀ s',Inv X pins σ H' s'→Q () s') :
  wpAny (model X.prog X.w) A (setItem (.ref a) u r) Q E s:=by
 rcases g with⟨kvs,k,e,ey,l,eH⟩|⟨kvs,k,b,e,ey,eb,l,eH⟩
 ·subst ey eH;obtain⟨z,hd,vs,rel,dd⟩:=aj5 I.hok e;have hz:vs.length≤sizeLine:=by rw[← rel.length];exact z
  have hl:(putK kvs k v).length≤sizeLine:=by have:=tD kvs k v;omega
  refine wpAny_setItem_pairs (hsz:=hz) (si ry) dd fun h' dd' hs=>h _ ?_;have he:∃ q,h'.get? a=some q:=let ⟨q,_,_,hq,_⟩:=dd';⟨q,hq⟩;exact ab4 I (by rw[e];exact True.intro) hs he (ahG hl hd (rel.put k rv) dd')
 ·subst ey eH;cases (show u=Value.ref b from ry);obtain⟨z,hd,xs,rel,dd⟩:=amS I.hok e;have hz:xs.length≤sizeLine:=by rw[← Paired.length rel];exact z
  have hl:(putK kvs k v).length≤sizeLine:=by have:=tD kvs k v;omega
  refine wpAny_setItem_heap (hsz:=hz) (tupleKind_room_in1 hu) (xY I.hok eb) dd fun h' dd' hs=>h _ ?_;obtain⟨q,es,ep,hq,h2,h3,h4,_,h5⟩:=dd';refine ab4 I (by rw[e];exact True.intro) hs ⟨q,hq⟩ ⟨hl,hd,_,(rel.put k eb rv).keeps fun c ys ec=>?_,q,es,ep,hq,h2,h3,h4,h5⟩;rw[ae (cp ec e (fun z=>nomatch z))];exact ec
end
section
variable {X:Cx}{pins:List (Addr×Obj)}{σ:St}{H:Hp}{s:Shared}{a:Addr}{kvs:List (Key×V)}{k:Key}{u:Value}{A:Around}{E:Value→Shared→Prop}
theorem aj4 {Q:Value→Shared→Prop}(I:Inv X pins σ H s) (e:Rd H a (.dK kvs)) (h:∀ t s',Inv X pins σ H s'→Q (.int kvs.length t) s'):wpAny (model X.prog X.w) A (call (.builtin "len") [.ref a]) Q E s:=by
 obtain⟨z,hd,vs,rel,dd⟩:=yU I.hok e;refine call_len_dict hd dd (by rw[← rel.length];rw[sizeLine_eq] at z;omega) ?_;rw[← rel.length];exact h _ _ (I.tok _)
end
def aiY (i:Expr):Prop:=∀ ov iv,subscripted i false ov iv=operate [ov,iv] (getItem ov iv)
theorem agm {prog:Program}{w:World}{A:Around}{E:Value→Shared→Prop}{s:Shared}{env:Env}{value slice:Expr}{pos:Pos}{T id:String}{Q:Value→Shared→Prop}
  (hl:typeLookup (.type T) "__getitem__" = pure (some (.builtin id))) (hs:aiY slice)
  (h:wpAny (model prog w) A (eval value env) (fun o s₁=>wpAny (model prog w) A (eval slice env) (fun i s₂=>s₂.TypeIs o T∧wpAny (model prog w) A (getItem o i) Q E s₂) E s₁) E s) :
  wpAny (model prog w) A (eval (.Subscript value slice pos) env) Q E s:=by
 refine Subscript_ (wpAny_mono h (fun o s₁ h₁=>wpAny_mono h₁ (fun i s₂ h₂=>?_) fun _ _ x=>x) fun _ _ x=>x);obtain⟨hT,h₂⟩:=h₂;unfold subscriptTail;refine wpAny_bind ?_;rw[getitemInPython_of_ne hT.not_modules];refine wpAny_bind (wpAny_specialOf hT hl ?_);have fin:wpAny (model prog w) A (subscripted slice false o i) (fun r s₃=>wpAny (model prog w) A (letTemporaryGo value o r >>= fun _=>pure r) Q E s₃) E s₂:=by
  rw[hs o i];exact wpAny_operating (wpAny_mono h₂ (fun r s₃ h₃=>wpAny_bind (wpAny_letTemporaryGo (wpAny_pure h₃))) fun _ _ x=>x)
 first
  | exact wpAny_pure (wpAny_bind fin)
  | exact wpAny_bind (wpAny_pure (wpAny_bind fin))
  | exact wpAny_bind fin
theorem afp {X:Cx}{pins:List (Addr×Obj)}{σ:St}{H:Hp}{s:Shared}{a:Addr}{y:V}{o:Option V}(I:Inv X pins σ H s) (g:hX H a y o):s.TypeIs (.ref a) "dict":=by
 rcases g with⟨kvs,k,e,_,_⟩|⟨kvs,k,b,e,_,_,_⟩
 ·obtain⟨_,_,vs,_,dd⟩:=yU I.hok e;exact dd.typeIs
 ·obtain⟨_,_,xs,_,dd⟩:=aaU I.hok e;exact dd.typeIs
def ahn (td ty:TE):TE:=fun σ H Q=>td σ H fun x H1=>ty σ H1 fun y H2=>∃ a v,x = .ref a∧hX H2 a y (some v)∧Q v H2
def anT (ty td:TE):TE:=fun σ H Q=>ty σ H fun y H1=>td σ H1 fun x H2=>∃ a o,x = .ref a∧hX H2 a y o∧Q (.bl o.isSome) H2
def alf (ty td:TE):TE:=fun σ H Q=>ty σ H fun y H1=>td σ H1 fun x H2=>∃ a o,x = .ref a∧hX H2 a y o∧Q (.bl (!o.isSome)) H2
def ane (td ty tv:TE):TS:=fun D σ H=>tv σ H fun v H1=>td σ H1 fun x H2=>ty σ H2 fun y H3=>∃ a H4,x = .ref a∧mY H3 a y v H4∧D.nx σ H4
section
variable {X:Cx}{o i e value:Expr}{pos pos' tpos:Pos}{td ty tv:TE}
theorem aF (hu:X.A.units+1<cLine) (ho:PE X o td) (hi:PE X i ty) (hs:aiY i):PE X (.Subscript o i pos) (ahn td ty):=by
 intro pins s σ H Q I h;refine agm PySem.F.slot_dict_getitem.lookup hs (thn (ho pins s σ H _ I h) fun u s1 ⟨x,H1,I1,rx,q1⟩=>thn (hi pins s1 σ H1 _ I1 q1) fun iv s2 ⟨y,H2,I2,ry,a,v,ex,g,q2⟩=>?_);subst ex;obtain rfl:u=Value.ref a:=rx;exact⟨afp I2 g,ahD hu I2 g ry fun w' s3 I3 rw'=>⟨v,H2,I3,rw',q2⟩⟩
theorem aeF (hu:X.A.units+1<cLine) (hi:PE X i ty) (ho:PE X o td):PC X .In i o (anT ty td):=by
 intro pins s σ H Q I h;refine thn (hi pins s σ H _ I h) fun iv s1 ⟨y,H1,I1,ry,q1⟩=>thn (ho pins s1 σ H1 _ I1 q1) fun u s2 ⟨x,H2,I2,rx,a,ov,ex,g,q2⟩=>?_;subst ex;obtain rfl:u=Value.ref a:=rx;exact anv hu I2 g ry fun s3 I3=>⟨.bl ov.isSome,H2,I3,rfl,q2⟩
theorem oF (hu:X.A.units+1<cLine) (hi:PE X i ty) (ho:PE X o td):PC X .NotIn i o (alf ty td):=by
 intro pins s σ H Q I h;refine thn (hi pins s σ H _ I h) fun iv s1 ⟨y,H1,I1,ry,q1⟩=>thn (ho pins s1 σ H1 _ I1 q1) fun u s2 ⟨x,H2,I2,rx,a,ov,ex,g,q2⟩=>?_;subst ex;obtain rfl:u=Value.ref a:=rx;exact akq hu I2 g ry fun s3 I3=>⟨.bl (!ov.isSome),H2,I3,rfl,q2⟩
theorem lB (hu:X.A.units+1<cLine) (ho:PE X o td) (hi:PE X i ty) (hv:PE X value tv) (hs:swapsWith value (some (.Subscript o i pos')) pos.line X.env=pure false) :
  PS X (.Assign [.Subscript o i pos'] value pos) (ane td ty tv):=by
 intro pins s σ H D I h;refine wpAny_Assign_Subscript (thn (hv pins s σ H _ I h) fun r s1 ⟨v,H1,I1,rv,q1⟩=>thn (ho pins s1 σ H1 _ I1 q1) fun u s2 ⟨x,H2,I2,rx,q2⟩=>thn (hi pins s2 σ H2 _ I2 q2) fun iv s3 ⟨y,H3,I3,ry,a,H4,ex,g,q3⟩=>?_) hs;subst ex;obtain rfl:u=Value.ref a:=rx;exact ahE hu I3 g ry rv fun s4 I4=>⟨σ,H4,I4,q3⟩
end
theorem ad0 {P:Program}{w:World}{H:Hp}(h:Heap) (hb:sysModules<h.objs.size):di P w H (h.push { cls:=.type "dict",data:=.dict #[] }) h.objs.size (.dK []):=
 ⟨Nat.zero_le _,beq_eq_false_iff_ne.mpr (Ne.symm (Nat.ne_of_lt hb)),[],.nil,Heap.DictOf.new h⟩
def amx:TE:=fun _ H Q=>∀ p,H p=none→Q (.ref p) (upd H p (.dK []))
section
variable {X:Cx}{pos:Pos}
theorem nv:PE X (.Dict [] [] pos) amx:=fun pins s σ H Q I h=>
 wpAny_Dict_empty ⟨.ref s.heap.objs.size,_,I.laid (a:=s.heap.objs.size) (o:=.dK []) (t':=s.toks) (fun _ _ q=>Heap.get?_push_of_some _ q) (Nat.le_refl _) (ad0 s.heap I.big),rfl,h _ (I.hok.fresh (Nat.le_refl _))⟩
end
def afc:List (TE×TE)→St→Hp→(List (V×V)→Hp→Prop)→Prop
 | [],_,H,Q=>Q [] H
 | (tk,tv)::r,σ,H,Q=>tk σ H fun x H1=>tv σ H1 fun y H2=>afc r σ H2 fun ps H3=>Q ((x,y)::ps) H3
abbrev VV:List (V×V)→List (Value×Value)→Prop:=Paired fun p q=>RelV p.1 q.1∧RelV p.2 q.2
def PPs (X:Cx) (pos:Pos) (keys:List (Option Expr)) (values:List Expr) (trs:List (TE×TE)):Prop:=
 ∀ (pins:List (Addr×Obj)) (s:Shared) (σ:St) (H:Hp) (Q:List (V×V)→Hp→Prop),Inv X pins σ H s→afc trs σ H Q →
  wpAny (model X.prog X.w) X.A (evalPairs (pairTrees keys values X.env pos)) (fun vs s'=>∃ ps H',Inv X pins σ H' s'∧VV ps vs∧Q ps H') X.xe s
theorem akT {X:Cx}{pos:Pos}:PPs X pos [] [] []:=fun pins s σ H Q I h=>pairTrees_nil_walk ⟨[],H,I,.nil,h⟩
theorem ajx {X:Cx}{pos:Pos}{k v:Expr}{ks:List (Option Expr)}{vs:List Expr}{tk tv:TE}{trs:List (TE×TE)}(hk:PE X k tk) (hv:PE X v tv) (hr:PPs X pos ks vs trs) :
  PPs X pos (some k::ks) (v::vs) ((tk,tv)::trs):=fun pins s σ H Q I h=>
 pairTrees_cons_walk (thn (hk pins s σ H _ I h) fun u s1 ⟨x,H1,I1,rx,q1⟩=>thn (hv pins s1 σ H1 _ I1 q1) fun w2 s2 ⟨y,H2,I2,ry,q2⟩=>
  thn (hr pins s2 σ H2 _ I2 q2) fun ws s3 ⟨ps,H3,I3,rel,q3⟩=>⟨(x,y)::ps,H3,I3,.cons ⟨rx,ry⟩ rel,q3⟩)
def ud (kvs more:List (Key×V)):List (Key×V):=more.foldl (fun acc kv=>putK acc kv.1 kv.2) kvs
theorem KV.merge:∀ {more:List (Key×V)}{rs:List (Key×Value)}{kvs:List (Key×V)}{vs:List (Key×Value)},KV more rs→KV kvs vs→KV (ud kvs more) (merged vs rs):=by
 intro more rs kvs vs r;unfold KV at r
 induction r generalizing kvs vs with
 | nil=>intro q;exact q
 | @cons p q ps qs h t ih=>
  intro r0;have e:KV (putK kvs p.1 p.2) (stored vs q.1 q.2):=by
   have:=r0.put p.1 h.2;rw[← h.1];exact this
  exact ih e
theorem wG:∀ (more kvs:List (Key×V)),(ud kvs more).length≤kvs.length+more.length
 | [],kvs=>by show kvs.length≤kvs.length+0;omega
 | p::r,kvs=>by
  have h1:=wG r (putK kvs p.1 p.2);have h2:=tD kvs p.1 p.2;show(ud (putK kvs p.1 p.2) r).length≤_;rw[List.length_cons];omega
theorem aaR {P:Program}{w:World}:∀ {kvs:List (Key×V)}{ws:List (Value×Value)},VV (kvs.map fun kv=>(kV kv.1,kv.2)) ws→∃ rs,Carries (bH P w) ws rs∧KV kvs rs
 | [],_,r=>by rw[List.map_nil] at r;cases r;exact⟨[],True.intro,.nil⟩
 | p::kvs,_,r=>by
  rw[List.map_cons] at r;cases r with
  | @cons a b as bs h t=>
   obtain⟨rs,c,q⟩:=aaR (P:=P) (w:=w) t;obtain⟨b1,b2⟩:=b;exact⟨(p.1,b2)::rs,⟨si h.1,rfl,c⟩,.cons ⟨rfl,h.2⟩ q⟩
def anh (trs:List (TE×TE)):TE:=fun σ H Q=>∀ p,H p=none→afc trs σ (upd H p (.dK [])) fun ps H2=>H2 p=some (.dK [])∧∃ kvs:List (Key×V),ps=kvs.map (fun kv=>(kV kv.1,kv.2))∧kvs.length≤15∧Q (.ref p) (upd H2 p (.dK (ud [] kvs)))
theorem akN {X:Cx}{pos:Pos}{keys:List (Option Expr)}{values:List Expr}{trs:List (TE×TE)}(h:PPs X pos keys values trs) (hall:keys.all (·.isSome)=true) (hl:keys.length=values.length) (h0:keys≠[])
  (h15:keys.length≤15):PE X (.Dict keys values pos) (anh trs):=by
 intro pins s σ H Q I q;have hn:=I.hok.fresh (Nat.le_refl s.heap.objs.size);have I1:=I.laid (a:=s.heap.objs.size) (o:=.dK []) (h':=s.heap.push { cls:=.type "dict",data:=.dict #[] }) (t':=s.toks) (fun _ _ q=>Heap.get?_push_of_some _ q) (Nat.le_refl _) (ad0 s.heap I.big);refine wpAny_Dict_walk (knd:=bH X.prog X.w) hall hl h0 h15 (thn (h pins _ σ _ _ I1 (q _ hn)) fun ws s2 ⟨ps,H2,I2,rel,e,kvs,ep,lk,q2⟩=>?_);subst ep;obtain⟨rs,c,rk⟩:=aaR (P:=X.prog) (w:=X.w) rel;obtain⟨z,hd,vs0,r0,dd⟩:=aj5 I2.hok e;cases r0;refine⟨rs,c,dd,fun h' dd' hs=>⟨.ref s.heap.objs.size,_,?_,rfl,q2⟩⟩;have hz:(ud [] kvs).length≤sizeLine:=by
  have h1:=wG kvs [];rw[List.length_nil] at h1;rw[sizeLine_eq];omega
 have he:∃ q,h'.get? s.heap.objs.size=some q:=let ⟨q,_,_,hq,_⟩:=dd';⟨q,hq⟩;exact ab4 I2 (by rw[e];exact True.intro) hs he (ahG hz hd (rk.merge .nil) dd')
theorem ab0:bootBuiltins "reversed" = some (.type "reversed"):=by decide +kernel
section
variable {X:Cx}{pins:List (Addr×Obj)}{σ:St}{H:Hp}{s:Shared}{h':Heap}
theorem Inv.ac8 {t':Nat}{ch:List Addr}{T:Addr}{ob:HO}(I:Inv X pins σ H s) (k:∀ b o,b ∉ ch→s.heap.get? b=some o→h'.get? b=some o) (hf:∀ b∈ch,qv X pins H b) (hT:s.heap.objs.size≤T)
  (new:di X.prog X.w (upd H T ob) h' T ob):Inv X pins σ (upd H T ob) { s with heap:=h',toks:=t' }:=by
 have hn:H T=none:=I.hok.fresh hT;have nit:∀ b u,H b=some u→b ∉ ch:=fun b u e z=>by
  have q:=(hf b z).1;rw[q] at e;cases e
 refine I.step (g':=s.gens) (d':=s.drawn) (ch:=ch) (fun b hb=>⟨(hf b hb).2.2.2.1,(hf b hb).2.1,(hf b hb).2.2.2.2.1,(hf b hb).2.2.2.2.2⟩) (fun b o _ _ hc e _=>k b o hc e) (fun b o _ _ hc e _=>⟨o.slots,k b o hc e⟩)
  (fun b o _ e n=>?_) (fun b o hc e=>⟨o,k b o hc e⟩) (fun b xs e=>?_) (fun b o u e=>?_) (fun b ps e=>⟨#[],?_⟩) (fun m hm=>?_) (fun b u e=>?_) I.bare
 ·rw[ae (Nat.ne_of_lt (Nat.lt_of_lt_of_le (Heap.lt_size e) hT))];exact n
 ·rw[ae (az e hn)];exact e
 ·rw[ae (az e hn)];exact e
 ·rw[ae (az e hn),e];simp
 ·obtain⟨o,es,ep,ho,r⟩:=hm;exact⟨o,es,ep,k _ o (fun z=>(hf _ z).2.1 rfl) ho,r⟩
 ·by_cases hb:b=T
  ·subst hb;rw[ah] at e;cases e;exact new
  ·rw[ae hb] at e;refine(I.hok b u e).mT (fun c v hc q=>k c v ?_ q) (fun c q=>by rw[ae (az q hn)];exact q) fun c xs q=>by rw[ae (az q hn)];exact q
   rcases hc with z|z
   ·rw[z];exact nit b u e
   ·exact nit c _ z
theorem Inv.lock {d:Addr}{u:HO}(I:Inv X pins σ H s) (h:H d=some u) (mu:Mut (some u)):∃ od,Inv X pins σ (upd H d (.frz od u)) s:=by
 have x:=I.hok d u h;have ex:∃ od,s.heap.get? d=some od:=by
  cases u with
  | lst xs=>obtain⟨_,_,_,_,e⟩:=x;exact⟨_,e⟩
  | dK kvs=>obtain⟨_,_,_,_,o,_,_,e,_⟩:=x;exact⟨o,e⟩
  | dT kvs=>obtain⟨_,_,_,_,o,_,_,e,_⟩:=x;exact⟨o,e⟩
  | set S n=>obtain⟨o,_,_,_,e,_⟩:=x;exact⟨o,e⟩
  | ins C dx fs=>obtain⟨_,_,_,e,_⟩:=x;exact⟨_,e⟩
  | ext φ=>obtain⟨_,⟨_,e⟩,_⟩:=x;exact⟨_,e⟩
  | _=>exact False.elim mu
 obtain⟨od,e⟩:=ex;have new:di X.prog X.w (upd H d (.frz od u)) s.heap d (.frz od u):=by
  refine⟨e,x.mT (fun b v _ q=>q) (fun b q=>?_) fun b xs q=>?_⟩
  ·rw[ae (fun z=>by rw[z,h] at q;cases q;exact mu)];exact q
  ·rw[ae (fun z=>by rw[z,h] at q;cases q;exact mu)];exact q
 exact⟨od,I.write (x:=d) (e:=d) (t':=s.toks) (h':=s.heap) (by rw[h];exact mu) (.inl rfl) (fun b v _ q=>q) ⟨od,e⟩ new⟩
theorem Inv.abp {d:Addr}{u:HO}(I:Inv X pins σ H s) (h:H d=some u) (mu:Mut (some u)):∀ o' u',X.H_0 d≠some (.frz o' u'):=fun o' u' e=>by
 have q:=I.base.qR d o' u' e;rw[h] at q;cases q;exact mu
theorem Inv.unlock {d:Addr}{od:Obj}{u:HO}(I:Inv X pins σ H s) (h:H d=some (.frz od u)) (hn:∀ o' u',X.H_0 d≠some (.frz o' u')):Inv X pins σ (upd H d u) s:=by
 have neH:∀ b o,H b=some o→(∀ o' u',o≠.frz o' u')→b≠d:=fun b o e hne z=>by
  rw[z,h] at e;cases e;exact hne _ _ rfl
 have neN:∀ b,H b=none→b≠d:=fun b e z=>by rw[z,h] at e;cases e
 refine⟨I.ok,I.os,I.bare,⟨I.base.keep,I.base.slot,fun b o e n hx=>?_,I.base.there,fun b xs e=>?_,fun b o x e=>?_,fun b ps e=>?_⟩,I.loc,I.cell,?_,fun x c e=>?_,fun p hp=>?_,fun b o e=>?_,I.len⟩
 ·rw[ae (neN b (I.base.free b o e n hx))];exact I.base.free b o e n hx
 ·have q:=I.base.wq b xs e;rw[ae (neH b _ q (fun _ _ z=>nomatch z))];exact q
 ·have q:=I.base.qR b o x e;rw[ae (fun z=>by rw[z] at e;exact hn _ _ e)];exact q
 ·obtain⟨m,q⟩:=I.base.wo b ps e;exact⟨m,by rw[ae (neH b _ q (fun _ _ z=>nomatch z))];exact q⟩
 ·rw[ae (neN _ I.free)];exact I.free
 ·rw[ae (neN c (I.jP x c e))];exact I.jP x c e
 ·obtain⟨e,n,r⟩:=I.pin p hp;exact⟨e,by rw[ae (neN _ n)];exact n,r⟩
 ·by_cases hb:b=d
  ·rw[hb,ah] at e;cases e;rw[hb];obtain⟨_,x⟩:=I.hok d _ h;exact x.mT (fun c v _ q=>q) (fun c q=>by rw[ae (neH c _ q (fun _ _ z=>nomatch z))];exact q) fun c xs q=>by rw[ae (neH c _ q (fun _ _ z=>nomatch z))];exact q
  ·rw[ae hb] at e;exact(I.hok b o e).mT (fun c v _ q=>q) (fun c q=>by rw[ae (neH c _ q (fun _ _ z=>nomatch z))];exact q) fun c xs q=>by rw[ae (neH c _ q (fun _ _ z=>nomatch z))];exact q
end
def anj (t:TS):TS:=fun D σ H=>∃ d u,H d=some u∧Mut (some u)∧∀ od,t ⟨fun σ' H'=>H' d=some (.frz od u)∧D.nx σ' (upd H' d u),fun v H'=>H' d=some (.frz od u)∧D.rt v (upd H' d u),fun σ' H'=>H' d=some (.frz od u)∧D.bk σ' (upd H' d u),fun σ' H'=>H' d=some (.frz od u)∧D.ct σ' (upd H' d u)⟩ σ (upd H d (.frz od u))
def amA (t:TE):TE:=fun σ H Q=>∃ d u,H d=some u∧Mut (some u)∧∀ od,t σ (upd H d (.frz od u)) fun v H'=>H' d=some (.frz od u)∧Q v (upd H' d u)
section
variable {X:Cx}
theorem nA {st:Stmt}{t:TS}(h:PS X st t):PS X st (anj t):=by
 intro pins s σ H D I hw;obtain⟨d,u,hd,mu,hw⟩:=hw;obtain⟨od,I1⟩:=I.lock hd mu;refine thn (h pins s σ _ _ I1 (hw od)) fun f s1 q=>?_;cases f with
 | next=>obtain⟨σ',H',I2,e,q⟩:=q;exact⟨σ',_,I2.unlock e (I.abp hd mu),q⟩
 | brk=>obtain⟨σ',H',I2,e,q⟩:=q;exact⟨σ',_,I2.unlock e (I.abp hd mu),q⟩
 | cont=>obtain⟨σ',H',I2,e,q⟩:=q;exact⟨σ',_,I2.unlock e (I.abp hd mu),q⟩
 | ret v=>obtain⟨x,σ',H',I2,r,e,q⟩:=q;exact⟨x,σ',_,I2.unlock e (I.abp hd mu),r,q⟩
theorem age {e:Expr}{t:TE}(h:PE X e t):PE X e (amA t):=by
 intro pins s σ H Q I hw;obtain⟨d,u,hd,mu,hw⟩:=hw;obtain⟨od,I1⟩:=I.lock hd mu;refine thn (h pins s σ _ _ I1 (hw od)) fun v s1 ⟨x,H1,I2,r,e2,q⟩=>?_;exact⟨x,_,I2.unlock e2 (I.abp hd mu),r,q⟩
theorem yn {tg:Expr}{pins:List (Addr×Obj)}{σ:St}{H:Hp}{s:Shared}{R:It→Hp→Prop}{J:It}{tn:Nat→Heap→Prop}{tk:Nat}(I:Inv X pins σ H s) (o:Obj)
  (T:Turn X.prog X.w X.K tg J [s.heap.objs.size] s.heap.objs.size tn) (st:tn 0 (s.heap.push o)) (q:R J H):PIE X pins σ tg R (.ref s.heap.objs.size) { s with heap:=s.heap.push o,toks:=tk }:=by
 refine⟨s.heap.objs.size,[s.heap.objs.size],tn,J,H,rfl,I.kept fun b ob e=>Heap.get?_push_of_some _ e,T,st,fun b hb=>?_,q⟩;have e:b=s.heap.objs.size:=by simpa using hb
 subst e;exact I.ab5 (Nat.le_refl _) (I.hok.fresh (Nat.le_refl _))
end
def Itv (K:PySem.W.Frag) (a:Addr) (n:Nat):It:=
 ⟨fun i H=>i<n∧∃ (xs:List V) (x:V),SqL K H a xs∧xs[n-1-i]?=some x,fun i H x H'=>H'=H∧∀ xs,SqL K H a xs→xs[n-1-i]?=some x,fun i _=>n≤i⟩
theorem aj0 {P:Program}{w:World}{K:PySem.W.Frag}{tg:Expr}(a it:Addr) (n:Nat):Turn P w K tg (Itv K a n) [it] it (fun i h=>i≤n∧h.IsRevIter it a ((n:Int)-1-(i:Nat))) where
 mem:=by simp
 obj:=fun i h st b hb=>by
  have e:b=it:=by simpa using hb
  subst e;obtain⟨_,o,e,c,d⟩:=st;exact⟨o,e,fun v z=>by rw[d] at z;cases z⟩
 keep:=fun i h h' st k=>⟨st.1,st.2.at fun o e=>k it (by simp) o e⟩
 item:=by
  intro X hP hw hK hc i pins s σ H E I hf st hg;subst hP hw hK;obtain⟨hin,xs,x,hq,hx⟩:=hg;obtain⟨its,rv,p,hz⟩:=I.list hq;obtain⟨u,hu,ru⟩:=rv.get hx;obtain⟨f0,f1,f2,f3,f4,f5⟩:=hf it (by simp);obtain⟨_,hit⟩:=st;have e1:(n:Int)-1-((i:Nat):Int)=((n-1-i:Nat):Int):=by omega
  rw[e1] at hit;refine wpAny_pyNext_rev_item hit p.isList (x:=u) (by simpa using hu) fun h' st' sb=>?_;have e2:((n-1-i:Nat):Int)-1=(n:Int)-1-((i+1:Nat):Int):=by omega
  rw[e2] at st';have I1:Inv X pins σ H { s with heap:=h' }:=I.turned (t':=s.toks) (fun b o hb e=>(sb.2 b hb).trans e) f0 f1 f3 f4 f5;obtain⟨o,e,c,d⟩:=id st';exact⟨u,rfl,vt (s:={ s with heap:=h' }) e c d (by decide) ⟨x,H,I1,ru,⟨rfl,fun ys hy=>by rw[I.aac hy hq];exact hx⟩,⟨hin,st'⟩,fun b hb=>(hf b hb).1⟩⟩
 done:=by
  intro X hP hw hK hc i pins s σ H E I hf st hg;subst hP hw hK;obtain⟨f0,f1,f2,f3,f4,f5⟩:=hf it (by simp);obtain⟨hin,hit⟩:=st;have hge:n≤i:=hg;have e1:(n:Int)-1-((i:Nat):Int) = -1:=by omega
  rw[e1] at hit;exact wpAny_pyNext_rev_end (I.ok.hd hc) hit fun h' eb=>⟨rfl,I.turned (t':=s.toks) (fun b o hb e=>eb b o hb e) f0 f1 f3 f4 f5⟩
 self:=fun A i s Q E st h=>wpAny_pyIter_revIter st.2 h
def anz (K:PySem.W.Frag) (ta:TA):TI:=fun σ H R=>ta σ H fun vs H1=>∃ (a:Addr) (xs:List V),vs = [.ref a]∧SqL K H1 a xs∧R (Itv K a xs.length) H1
section
variable {X:Cx}{tg:Expr}
theorem afM {e:Expr}{ta:TA}{p pos:Pos}(hg:Gl X "reversed") (hm:X.mg "reversed" = none) (ha:PA X [e] ta) (hs:starEach [e] X.env = [(false,eval e X.env)]:=by rfl):PI X tg (.Call (.Name "reversed" p) [e] [] pos) (anz X.K ta):=by
 intro pins s σ H R I h;refine Call_ (ua I hg hm ab0 (PyProof.Rows.callWith_type1 (thn (ha pos pins s σ H _ I h) fun us s1 ⟨vs,H1,I1,r1,q1⟩=>?_) hs rfl));obtain⟨a,xs,e,hq,q⟩:=q1;subst e;cases r1 with
 | cons r rr=>
  cases rr;cases r;obtain⟨its,rv,p',hz⟩:=I1.list hq;have hl:=rv.length;have e1:((its.toArray.size:Nat):Int)-1=(xs.length:Int)-1-((0:Nat):Int):=by simp only[List.size_toArray];omega
  refine call_reversed_list p'.isList (wpAny_pyIter_revIter (l:=a) (i:=((its.toArray.size:Nat):Int)-1) ⟨_,Heap.get?_push_size _ rfl,rfl,rfl⟩ ?_);refine yn (tk:=s1.toks) I1 _ (aj0 a _ xs.length) ⟨Nat.zero_le _,?_⟩ q;rw[← e1];exact⟨_,Heap.get?_push_size _ rfl,rfl,rfl⟩
end
section
variable {prog:Program}{w:World}{A:Around}{E:Value→Shared→Prop}{s:Shared}
theorem acR {d:Addr}{o:Obj}{es:Array DictEntry}{ep:Nat}{Q:Value→Shared→Prop}(hd:(d == sysModules)=false) (ho:s.heap.get? d=some o) (hc:o.ExactDict) (hdat:o.data = .dict es ep)
  (hQ:Q (.ref s.heap.objs.size) { s with heap:=s.heap.push { cls:=.type "dict_keyiterator",data:=.fields #[.ref d,.int 0 0,.int es.size 0,.int ep 0] } }) :
  wpAny (model prog w) A (pyIter (.ref d)) Q E s:=by
 have hT:s.TypeIs (.ref d) "dict":=⟨o,ho,hc.1⟩;refine wpAny_pyIter_slot hT F.slot_dict_iter (wpAny_call_entry F.slot_dict_iter hT F.entry_dict_iter ?_ (F.args_dict_iter_1 _));unfold Builtin.«dict.__iter__»;refine wpAny_bind ?_;unfold Builtin.Dict.dictSlotNone;refine wpAny_bind (wpAny_notOrdered_dict hT ?_);show wpAny _ _ (pure (Value.ref d)) _ _ s;refine wpAny_pure ?_;show wpAny _ _ (Builtin.Dict.showsAll d >>= _) _ _ s;unfold Builtin.Dict.showsAll;rw[if_neg (by rw[hd];exact Bool.false_ne_true)];refine wpAny_bind (wpAny_pure ?_);refine wpAny_bind (wpAny_dictEntries ho hdat ?_);refine wpAny_bind (wpAny_dictEpoch ho hdat ?_);refine wpAny_bind (wpAny_newObj_type (wpAny_pure ⟨_,rfl, "dict_keyiterator",_,⟨_,Heap.get?_push_size _ rfl,rfl⟩,F.slot_dict_keyiterator_next.lookup,?_⟩));simpa [rawInt] using hQ
theorem adk {it d:Addr}{i n ep:Nat}{od:Obj}{es:Array DictEntry}{en:DictEntry}{Q:Option Value→Shared→Prop}(hit:s.heap.IsKeyIter it d i n ep) (hod:s.heap.get? d=some od) (hdd:od.data = .dict es ep)
  (hsz:es.size=n) (hx:es[i]?=some en) (hQ:∀ h',h'.IsKeyIter it d (i+1) n ep→Heap.SameBut it s.heap h'→Q (some en.key) { s with heap:=h' }):wpAny (model prog w) A (pyNext (.ref it)) Q E s:=by
 obtain⟨o,ho,hc,hd⟩:=id hit;unfold pyNext;refine wpAny_bind (wpAny_attempt (wpAny_callSpecial?_slot (name:=Str.ofString "__next__") hit.typeIs F.slot_dict_keyiterator_next
  (wpAny_call_entry F.slot_dict_keyiterator_next hit.typeIs F.entry_dict_keyiterator_next ?_ (F.args_dict_keyiterator_next_1 _))))
 refine wpAny_bind (wpAny_pure ?_);refine wpAny_bind ?_;refine wpAny_bind ?_
 first|refine wpAny_bind (wpAny_typeNameOfWhole_keyiter hit.typeIs (wpAny_pure ?_))|refine wpAny_bind (wpAny_typeNameOf_keyiter hit.typeIs (wpAny_pure ?_))
 refine wpAny_bind (wpAny_fieldsOf ho hd ?_);have hown:Builtin.Dict_items.ownsTuple "dict_keyiterator" = false:=by decide
 simp only[hown,Bool.false_eq_true,if_false];show wpAny _ _ (if(Value.ref d == Value.none)=true then _ else _) _ _ s;rw[if_neg (show ¬ ((Value.ref d == Value.none)=true) from Bool.false_ne_true)];refine wpAny_bind (wpAny_pure ?_);refine wpAny_bind (wpAny_dictEntries hod hdd ?_);rw[if_neg (by rw[hsz];simp)];refine wpAny_bind (wpAny_pure ?_);refine wpAny_bind (wpAny_dictEpoch hod hdd ?_);rw[if_neg (by simp)];refine wpAny_pure ?_;obtain⟨hlt',hen⟩:=Array.getElem?_eq_some_iff.mp hx;simp only[show ¬ ((i:Int)<0) from by omega,if_false,Int.toNat_natCast,Array.getElem?_eq_getElem hlt'];refine wpAny_bind ?_
 first|refine wpAny_bind (wpAny_typeNameOfWhole_keyiter hit.typeIs (wpAny_pure ?_))|refine wpAny_bind (wpAny_typeNameOf_keyiter hit.typeIs (wpAny_pure ?_))
 refine wpAny_bind (wpAny_isOneOf_keyiter hit.typeIs ?_);show wpAny _ _ (setField (.ref it) 1 (rawInt ((i:Int)+1)) >>= _) _ _ s;refine wpAny_bind (wpAny_setField ho hd (by simp) ?_);have hit':(s.heap.update it (Obj.mapFields (·.setIfInBounds 1 (rawInt ((i:Int)+1))))).IsKeyIter it d (i+1) n ep:=
  ⟨_,Heap.get?_update_self _ ho (Obj.isFreed_of_fields (Obj.data_mapFields hd _)),(Obj.cls_mapFields ..).trans hc,by rw[Obj.data_mapFields hd];simp[rawInt]⟩
 refine wpAny_bind (wpAny_holding ?_);refine wpAny_bind (wpAny_isOneOf_keyiter (s:={ s with heap:=s.heap.update it (Obj.mapFields (·.setIfInBounds 1 (rawInt ((i:Int)+1)))) }) hit'.typeIs ?_);show wpAny _ _ (pure es[i].key) _ _ _;rw[hen];exact wpAny_pure (wpAny_pure ⟨_,rfl,wpAny_pure (hQ _ hit' (Heap.SameBut.update ..))⟩)
theorem x8 {it d:Addr}{i n ep:Nat}{od:Obj}{es:Array DictEntry}{Q:Option Value→Shared→Prop}(hh:A.handled=none) (hit:s.heap.IsKeyIter it d i n ep) (hod:s.heap.get? d=some od) (hdd:od.data = .dict es ep)
  (hsz:es.size=n) (hge:n≤i) (hQ:∀ h',Heap.ExtBut it s.heap h'→Q none { s with heap:=h' }):wpAny (model prog w) A (pyNext (.ref it)) Q E s:=by
 obtain⟨o,ho,hc,hd⟩:=id hit;unfold pyNext;refine wpAny_bind (wpAny_attempt (wpAny_callSpecial?_slot (name:=Str.ofString "__next__") hit.typeIs F.slot_dict_keyiterator_next
  (wpAny_call_entry F.slot_dict_keyiterator_next hit.typeIs F.entry_dict_keyiterator_next ?_ (F.args_dict_keyiterator_next_1 _))))
 refine wpAny_bind (wpAny_pure ?_);refine wpAny_bind ?_;refine wpAny_bind ?_
 first|refine wpAny_bind (wpAny_typeNameOfWhole_keyiter hit.typeIs (wpAny_pure ?_))|refine wpAny_bind (wpAny_typeNameOf_keyiter hit.typeIs (wpAny_pure ?_))
 refine wpAny_bind (wpAny_fieldsOf ho hd ?_);have hown:Builtin.Dict_items.ownsTuple "dict_keyiterator" = false:=by decide
 simp only[hown,Bool.false_eq_true,if_false];show wpAny _ _ (if(Value.ref d == Value.none)=true then _ else _) _ _ s;rw[if_neg (show ¬ ((Value.ref d == Value.none)=true) from Bool.false_ne_true)];refine wpAny_bind (wpAny_pure ?_);refine wpAny_bind (wpAny_dictEntries hod hdd ?_);rw[if_neg (by rw[hsz];simp)];refine wpAny_bind (wpAny_pure ?_);refine wpAny_bind (wpAny_dictEpoch hod hdd ?_);rw[if_neg (by simp)];refine wpAny_pure ?_;have hge':es.size≤i:=by rw[hsz];exact hge
 simp only[show ¬ ((i:Int)<0) from by omega,if_false,Int.toNat_natCast,Array.getElem?_eq_none hge'];refine wpAny_bind ?_
 first|refine wpAny_bind (wpAny_typeNameOfWhole_keyiter hit.typeIs (wpAny_pure ?_))|refine wpAny_bind (wpAny_typeNameOf_keyiter hit.typeIs (wpAny_pure ?_))
 show wpAny _ _ (setField (.ref it) 0 .none >>= _) _ _ s;refine wpAny_bind (wpAny_setField ho hd (by simp) ?_);show wpAny _ _ (newExc (.type "StopIteration") [] >>= _) _ _ _;refine wpAny_bind ?_;simp only[newExc,newTuple];refine wpAny_bind (wpAny_newObj_type ?_ (by size_fits));refine wpAny_bind (m:=firstArgMember _ _) (wpAny_of_eq (a:=Value.none) (by first|rfl|(simp only[firstArgMember];rfl)) ?_);refine wpAny_newObj_type ?_ (by size_fits);simp only[raiseNew];refine wpAny_bind (wpAny_handled ?_);rw[show A.in1.handled=none from hh];refine wpAny_bind (wpAny_pure (wpAny_throw ?_));refine wpAny_bind (wpAny_isInstance (T:="StopIteration") (b:=true) ⟨_,Heap.get?_push_size _ rfl,rfl⟩ isSubtype_stop ?_);exact wpAny_pure (hQ _ (((Heap.SameBut.update ..).extBut.push _).push _))
end
theorem aep {κ:Type}{kvs:List (κ×V)}{vs:List (κ×Value)}(h:KV kvs vs):∀ {i:Nat}{k:κ}{v:V},kvs[i]?=some (k,v)→∃ u,vs[i]?=some (k,u)∧RelV v u:=by
 unfold KV at h
 induction h with
 | nil=>intro i k v e;simp at e
 | @cons a b l₁ l₂ r t ih=>
  intro i k v e;cases i with
  | zero=>
   simp only[List.getElem?_cons_zero,Option.some.injEq] at e;subst e;refine⟨b.2,?_,r.2⟩;simp only[List.getElem?_cons_zero];exact congrArg some (Prod.ext r.1.symm rfl)
  | succ j=>
   simp only[List.getElem?_cons_succ] at e ⊢;exact ih e
theorem ag7 {α β:Type}{G:α→β→Prop}{l₁:List α}{l₂:List β}(h:Paired G l₁ l₂):∀ {i:Nat}{a:α},l₁[i]?=some a→∃ b,l₂[i]?=some b∧G a b:=by
 induction h with
 | nil=>intro i a e;simp at e
 | @cons a b l₁ l₂ r t ih=>
  intro i a' e;cases i with
  | zero=>
   simp only[List.getElem?_cons_zero,Option.some.injEq] at e;subst e;exact⟨b,rfl,r⟩
  | succ j=>
   simp only[List.getElem?_cons_succ] at e ⊢;exact ih e
theorem aeP {k:Key}{u:Value}(h:n9 k u=true):RelV (kV k) u:=by
 rcases d5 h with⟨i,t,rfl,rfl⟩|⟨x,t,rfl,rfl⟩
 ·exact⟨t,rfl⟩
 ·exact⟨t,rfl⟩
section
variable {X:Cx}{pins:List (Addr×Obj)}{σ:St}{H:Hp}{s:Shared}{d:Addr}{o:Obj}
theorem Inv.vk {kvs:List (Key×V)}(I:Inv X pins σ H s) (h:H d=some (.frz o (.dK kvs))) :
  (d == sysModules)=false∧s.heap.get? d=some o∧o.ExactDict∧∃ (es:Array DictEntry) (ep:Nat) (vs:List (Key×Value)),o.data = .dict es ep∧es.size=kvs.length∧KV kvs vs∧s.heap.DictAt (bH X.prog X.w) d vs ep:=by
 obtain⟨hd,z,hs,vs,kv,o',es,ep,ho,hx,hdt,r⟩:=I.hok d _ h;rw[hd] at ho;cases ho;refine⟨hs,hd,hx,es,ep,vs,hdt,?_,kv,o,es,hd,hx,hdt,r⟩;have l1:=r.2.1.length;have l2:kvs.length=vs.length:=Paired.length kv;rw[Array.length_toList] at l1;omega
theorem Inv.ajc {kvs:List (List Key×V)}(I:Inv X pins σ H s) (h:H d=some (.frz o (.dT kvs))) :
  (d == sysModules)=false∧s.heap.get? d=some o∧o.ExactDict∧∃ (es:Array DictEntry) (ep:Nat),o.data = .dict es ep∧es.size=kvs.length ∧
   ∀ (i:Nat) (k:List Key) (v:V),kvs[i]?=some (k,v)→∃ (en:DictEntry) (q:Addr),es[i]?=some en∧en.key = .ref q∧H q=some (.tup (k.map kV)):=by
 obtain⟨hd,z,hs,xs,pr,o',es,ep,ho,hx,hdt,he,_⟩:=I.hok d _ h;rw[hd] at ho;cases ho;refine⟨hs,hd,hx,es,ep,hdt,?_,fun i k v e=>?_⟩
 ·have l1:es.size=xs.length:=size_of_entries he;have l2:kvs.length=xs.length:=Paired.length pr;omega
 ·obtain⟨b,hb,e1,e2,_⟩:=ag7 pr e;have q:=entry_at he i;rw[hb] at q;exact⟨_,b.2.1,q,rfl,e2⟩
end
def Itk (d:Addr) (o:Obj) (kvs:List (Key×V)):It:=
 ⟨fun i H=>H d=some (.frz o (.dK kvs))∧i<kvs.length,fun i H x H'=>H'=H∧∃ k v,kvs[i]?=some (k,v)∧x=kV k,fun i H=>H d=some (.frz o (.dK kvs))∧kvs.length≤i⟩
def alm (d:Addr) (o:Obj) (kvs:List (List Key×V)):It:=
 ⟨fun i H=>H d=some (.frz o (.dT kvs))∧i<kvs.length,fun i H x H'=>H'=H∧∃ (k:List Key) (v:V) (q:Addr),kvs[i]?=some (k,v)∧x = .ref q∧H q=some (.tup (k.map kV)),fun i H=>H d=some (.frz o (.dT kvs))∧kvs.length≤i⟩
def Itd (d:Addr) (o:Obj) (kvs:List (Key×V)):It:=
 ⟨fun i H=>H d=some (.frz o (.dK kvs))∧i<kvs.length,fun i H x H'=>H'=H∧∃ k,kvs[i]?=some (k,x),fun i H=>H d=some (.frz o (.dK kvs))∧kvs.length≤i⟩
def Iti (d:Addr) (o:Obj) (kvs:List (Key×V)):It:=
 ⟨fun i H=>H d=some (.frz o (.dK kvs))∧i<kvs.length,fun i H x H'=>∃ T k v,kvs[i]?=some (k,v)∧x = .ref T∧H T=none∧H'=upd H T (.tup [kV k,v]),fun i H=>H d=some (.frz o (.dK kvs))∧kvs.length≤i⟩
theorem lb {o:Obj}{es es':Array DictEntry}{ep ep':Nat}(h:o.data = .dict es ep) (h':o.data = .dict es' ep'):es'=es∧ep'=ep:=by
 rw[h] at h';cases h';exact⟨rfl,rfl⟩
section
variable {P:Program}{w:World}{K:PySem.W.Frag}{tg:Expr}{d:Addr}{o:Obj}{es:Array DictEntry}{ep:Nat}
theorem aiO {kvs:List (Key×V)}(it:Addr) (hod:o.data = .dict es ep):Turn P w K tg (Itk d o kvs) [it] it (fun i h=>h.IsKeyIter it d i kvs.length ep) where
 mem:=by simp
 obj:=fun i h st b hb=>by
  have e:b=it:=by simpa using hb
  subst e;obtain⟨oi,e,c,dd⟩:=st;exact⟨oi,e,fun v z=>by rw[dd] at z;cases z⟩
 keep:=fun i h h' st k=>st.at fun oi e=>k it (by simp) oi e
 item:=by
  intro X hP hw hK hc i pins s σ H E I hf st hg;subst hP hw hK;obtain⟨hd,hi⟩:=hg;obtain⟨f0,f1,f2,f3,f4,f5⟩:=hf it (by simp);obtain⟨hs,hgd,hx,es',ep',vs,hdt,hsz,kv,hm⟩:=I.vk hd;obtain⟨rfl,rfl⟩:=lb hod hdt;obtain⟨⟨k,v⟩,hkv⟩:∃ p,kvs[i]?=some p:=⟨kvs[i],List.getElem?_eq_getElem hi⟩;obtain⟨u,hu,ru⟩:=aep kv hkv;have hl:kvs.length=vs.length:=Paired.length kv;rw[hl] at st;refine wpAny_pyNext_dict_item st hm hu fun key h' hkey st' sb=>?_;have I1:Inv X pins σ H { s with heap:=h' }:=I.turned (t':=s.toks) (fun b ob hb e=>(sb.2 b hb).trans e) f0 f1 f3 f4 f5;obtain⟨oi,e,c,dd⟩:=id st';refine⟨key,rfl,vt (s:={ s with heap:=h' }) e c dd (by decide) ⟨kV k,H,I1,aeP (show n9 k key=true from hkey),⟨rfl,k,v,hkv,rfl⟩,?_,fun b hb=>(hf b hb).1⟩⟩;show h'.IsKeyIter it d (i+1) kvs.length _;rw[hl];exact st'
 done:=by
  intro X hP hw hK hc i pins s σ H E I hf st hg;subst hP hw hK;obtain⟨hd,hi⟩:=hg;obtain⟨f0,f1,f2,f3,f4,f5⟩:=hf it (by simp);obtain⟨hs,hgd,hx,es',ep',vs,hdt,hsz,kv,hm⟩:=I.vk hd;obtain⟨rfl,rfl⟩:=lb hod hdt;exact x8 (I.ok.hd hc) st hgd hdt hsz hi fun h' eb=>⟨rfl,I.turned (t':=s.toks) (fun b ob hb e=>eb b ob hb e) f0 f1 f3 f4 f5⟩
 self:=fun A i s Q E st h=>wpAny_pyIter_keyiter st h
theorem ahr {kvs:List (List Key×V)}(it:Addr) (hod:o.data = .dict es ep):Turn P w K tg (alm d o kvs) [it] it (fun i h=>h.IsKeyIter it d i kvs.length ep) where
 mem:=by simp
 obj:=fun i h st b hb=>by
  have e:b=it:=by simpa using hb
  subst e;obtain⟨oi,e,c,dd⟩:=st;exact⟨oi,e,fun v z=>by rw[dd] at z;cases z⟩
 keep:=fun i h h' st k=>st.at fun oi e=>k it (by simp) oi e
 item:=by
  intro X hP hw hK hc i pins s σ H E I hf st hg;subst hP hw hK;obtain⟨hd,hi⟩:=hg;obtain⟨f0,f1,f2,f3,f4,f5⟩:=hf it (by simp);obtain⟨hs,hgd,hx,es',ep',hdt,hsz,ent⟩:=I.ajc hd;obtain⟨rfl,rfl⟩:=lb hod hdt;obtain⟨⟨k,v⟩,hkv⟩:∃ p,kvs[i]?=some p:=⟨kvs[i],List.getElem?_eq_getElem hi⟩;obtain⟨en,q,hen,hkey,hq⟩:=ent i k v hkv;refine adk st hgd hdt hsz hen fun h' st' sb=>?_;have I1:Inv X pins σ H { s with heap:=h' }:=I.turned (t':=s.toks) (fun b ob hb e=>(sb.2 b hb).trans e) f0 f1 f3 f4 f5;obtain⟨oi,e,c,dd⟩:=id st';exact⟨en.key,rfl,vt (s:={ s with heap:=h' }) e c dd (by decide) ⟨.ref q,H,I1,hkey,⟨rfl,k,v,q,hkv,rfl,hq⟩,st',fun b hb=>(hf b hb).1⟩⟩
 done:=by
  intro X hP hw hK hc i pins s σ H E I hf st hg;subst hP hw hK;obtain⟨hd,hi⟩:=hg;obtain⟨f0,f1,f2,f3,f4,f5⟩:=hf it (by simp);obtain⟨hs,hgd,hx,es',ep',hdt,hsz,ent⟩:=I.ajc hd;obtain⟨rfl,rfl⟩:=lb hod hdt;exact x8 (I.ok.hd hc) st hgd hdt hsz hi fun h' eb=>⟨rfl,I.turned (t':=s.toks) (fun b ob hb e=>eb b ob hb e) f0 f1 f3 f4 f5⟩
 self:=fun A i s Q E st h=>by
  refine wpAny_pyIter_slot st.typeIs F.slot_dict_keyiterator_iter (wpAny_call_entry F.slot_dict_keyiterator_iter st.typeIs F.entry_dict_keyiterator_iter ?_ (F.args_dict_keyiterator_iter_1 _));show wpAny _ _ (ret (.ref it)) _ _ s;exact wpAny_pure ⟨_,rfl, "dict_keyiterator",_,st.typeIs,F.slot_dict_keyiterator_next.lookup,h⟩
theorem aiQ {kvs:List (Key×V)}(it:Addr) (hod:o.data = .dict es ep):Turn P w K tg (Itd d o kvs) [it] it (fun i h=>h.IsValIter it d i kvs.length ep) where
 mem:=by simp
 obj:=fun i h st b hb=>by
  have e:b=it:=by simpa using hb
  subst e;obtain⟨oi,e,c,dd⟩:=st;exact⟨oi,e,fun v z=>by rw[dd] at z;cases z⟩
 keep:=fun i h h' st k=>st.at fun oi e=>k it (by simp) oi e
 item:=by
  intro X hP hw hK hc i pins s σ H E I hf st hg;subst hP hw hK;obtain⟨hd,hi⟩:=hg;obtain⟨f0,f1,f2,f3,f4,f5⟩:=hf it (by simp);obtain⟨hs,hgd,hx,es',ep',vs,hdt,hsz,kv,hm⟩:=I.vk hd;obtain⟨rfl,rfl⟩:=lb hod hdt;obtain⟨⟨k,v⟩,hkv⟩:∃ p,kvs[i]?=some p:=⟨kvs[i],List.getElem?_eq_getElem hi⟩;obtain⟨u,hu,ru⟩:=aep kv hkv;have hl:kvs.length=vs.length:=Paired.length kv;rw[hl] at st;refine wpAny_pyNext_values_item st hm hu fun h' st' sb=>?_;have I1:Inv X pins σ H { s with heap:=h' }:=I.turned (t':=s.toks) (fun b ob hb e=>(sb.2 b hb).trans e) f0 f1 f3 f4 f5;obtain⟨oi,e,c,dd⟩:=id st';refine⟨u,rfl,vt (s:={ s with heap:=h' }) e c dd (by decide) ⟨v,H,I1,ru,⟨rfl,k,hkv⟩,?_,fun b hb=>(hf b hb).1⟩⟩;show h'.IsValIter it d (i+1) kvs.length _;rw[hl];exact st'
 done:=by
  intro X hP hw hK hc i pins s σ H E I hf st hg;subst hP hw hK;obtain⟨hd,hi⟩:=hg;obtain⟨f0,f1,f2,f3,f4,f5⟩:=hf it (by simp);obtain⟨hs,hgd,hx,es',ep',vs,hdt,hsz,kv,hm⟩:=I.vk hd;obtain⟨rfl,rfl⟩:=lb hod hdt;have hl:kvs.length=vs.length:=Paired.length kv;rw[hl] at st;exact wpAny_pyNext_values_end (I.ok.hd hc) st hm (List.getElem?_eq_none (by omega)) fun h' eb=>⟨rfl,I.turned (t':=s.toks) (fun b ob hb e=>eb b ob hb e) f0 f1 f3 f4 f5⟩
 self:=fun A i s Q E st h=>wpAny_pyIter_valiter st h
theorem ahq {kvs:List (Key×V)}{elts:List Expr}{kk:Nat}{tpos:Pos}(it:Addr) (hod:o.data = .dict es ep) :
  Turn P w K (.Tuple elts kk tpos) (Iti d o kvs) [it] it (fun i h=>∃ ok ov,IsItemIter h it d i kvs.length ep ok ov) where
 mem:=by simp
 obj:=fun i h st b hb=>by
  have e:b=it:=by simpa using hb
  subst e;obtain⟨ok,ov,e⟩:=st;exact⟨_,e,fun v z=>nomatch z⟩
 keep:=fun i h h' st k=>let ⟨ok,ov,e⟩:=st;⟨ok,ov,k it (by simp) _ e⟩
 item:=by
  intro X hP hw hK hc i pins s σ H E I hf st hg;subst hP hw hK;obtain⟨hd,hi⟩:=hg;obtain⟨hs,hgd,hx,es',ep',vs,hdt,hsz,kv,hm⟩:=I.vk hd;obtain⟨rfl,rfl⟩:=lb hod hdt;obtain⟨⟨k,v⟩,hkv⟩:∃ p,kvs[i]?=some p:=⟨kvs[i],List.getElem?_eq_getElem hi⟩;obtain⟨u,hu,ru⟩:=aep kv hkv;have hl:kvs.length=vs.length:=Paired.length kv;obtain⟨ok,ov,he⟩:=st;rw[hl] at he;have hlt:it<s.heap.objs.size:=Heap.lt_size he;refine wpAny_pyNext_items_item he hm hu fun key h' hkey ho hT hz hk=>?_;refine⟨_,rfl,wpAny_letOwnedTupleGo_items (s:={ s with heap:=h' }) ho fun h'' he' sb=>?_⟩;have hT2:h''.get? s.heap.objs.size=some { cls:=.type "tuple",data:=.seq #[key,u] }:=(sb.2 _ (Nat.ne_of_gt hlt)).trans hT;have new:di X.prog X.w (upd H s.heap.objs.size (.tup [kV k,v])) h'' s.heap.objs.size (.tup [kV k,v]):=
   ⟨by show 2≤sizeLine;decide,[key,u],.cons (aeP (show n9 k key=true from hkey)) (.cons ru .nil),⟨_,hT2,rfl,_,rfl⟩⟩
  have I1:Inv X pins σ (upd H s.heap.objs.size (.tup [kV k,v])) { s with heap:=h'' }:=
   I.ac8 (t':=s.toks) (ch:=[it]) (fun b ob hb e=>(sb.2 b (by simpa using hb)).trans (hk b ob (by simpa using hb) e)) hf (Nat.le_refl _) new
  refine⟨.ref s.heap.objs.size,_,I1,rfl,⟨_,k,v,hkv,rfl,I.hok.fresh (Nat.le_refl _),rfl⟩,⟨key,u,?_⟩,fun b hb=>?_⟩
  ·rw[hl];exact he'
  ·have e:b=it:=by simpa using hb
   rw[e,ae (Nat.ne_of_lt hlt)];exact(hf it (by simp)).1
 done:=by
  intro X hP hw hK hc i pins s σ H E I hf st hg;subst hP hw hK;obtain⟨hd,hi⟩:=hg;obtain⟨f0,f1,f2,f3,f4,f5⟩:=hf it (by simp);obtain⟨hs,hgd,hx,es',ep',vs,hdt,hsz,kv,hm⟩:=I.vk hd;obtain⟨rfl,rfl⟩:=lb hod hdt;have hl:kvs.length=vs.length:=Paired.length kv;obtain⟨ok,ov,he⟩:=st;rw[hl] at he;exact wpAny_pyNext_items_end (I.ok.hd hc) he hm (List.getElem?_eq_none (by omega)) fun h' eb=>⟨rfl,I.turned (t':=s.toks) (fun b ob hb e=>eb b ob hb e) f0 f1 f3 f4 f5⟩
 self:=fun A i s Q E st h=>let ⟨_,_,e⟩:=st;PySem.W.kcp_self e h
end
def am2 (td:TE):TI:=fun σ H R=>td σ H fun x H1=>∃ d o,x = .ref d∧((∃ kvs,H1 d=some (.frz o (.dK kvs))∧R (Itk d o kvs) H1)∨∃ kvs,H1 d=some (.frz o (.dT kvs))∧R (alm d o kvs) H1)
def am5 (td:TE):TI:=fun σ H R=>td σ H fun x H1=>∃ d o kvs,x = .ref d∧H1 d=some (.frz o (.dK kvs))∧R (Itd d o kvs) H1
def alK (td:TE):TI:=fun σ H R=>td σ H fun x H1=>∃ d o kvs,x = .ref d∧H1 d=some (.frz o (.dK kvs))∧R (Iti d o kvs) H1
section
variable {X:Cx}{tg e:Expr}{td:TE}{apos cpos:Pos}
theorem akP (he:PE X e td):PI X tg e (am2 td):=by
 intro pins s σ H R I h;refine thn (he pins s σ H _ I h) fun u s1 ⟨x,H1,I1,rx,d,o,ex,q⟩=>?_;subst ex;obtain rfl:u=Value.ref d:=rx;rcases q with⟨kvs,hd,q⟩|⟨kvs,hd,q⟩
 ·obtain⟨hs,hgd,hx,es,ep,vs,hdt,hsz,kv,hm⟩:=I1.vk hd;refine acR hs hgd hx hdt (yn (tk:=s1.toks) I1 _ (aiO _ hdt) ⟨_,Heap.get?_push_size _ rfl,rfl,?_⟩ q);rw[hsz] <;> rfl
 ·obtain⟨hs,hgd,hx,es,ep,hdt,hsz,ent⟩:=I1.ajc hd;refine acR hs hgd hx hdt (yn (tk:=s1.toks) I1 _ (ahr _ hdt) ⟨_,Heap.get?_push_size _ rfl,rfl,?_⟩ q);rw[hsz] <;> rfl
theorem sA (he:PE X e td) (hbase:attributeBase e "values" X.env (eval e X.env)=eval e X.env:=by rfl) (hline:(apos.endLine == cpos.line)=true:=by rfl):PI X tg (.Call (.Attribute e "values" apos) [] [] cpos) (am5 td):=by
 intro pins s σ H R I h;refine wpAny_Call_method (T:="dict") (id:="dict.values") hbase rfl hline F.plainAttrs_dict F.slot_dict_values F.type_dict_values (thn (he pins s σ H _ I h) fun u s1 ⟨x,H1,I1,rx,d,o,kvs,ex,hd,q⟩=>?_);subst ex;obtain rfl:u=Value.ref d:=rx;obtain⟨hs,hgd,hx,es,ep,vs,hdt,hsz,kv,hm⟩:=I1.vk hd;have hl:kvs.length=vs.length:=Paired.length kv;refine⟨hm.dictOf.typeIs,hm.dictOf.mapOf.noDict,?_⟩;have I2:Inv X pins σ H1 { s1 with heap:=s1.heap.push { cls:=.type "dict_values",data:=.fields #[.ref d] } }:=I1.kept (t':=s1.toks) fun b ob q=>Heap.get?_push_of_some _ q;have fin:wpAny (model X.prog X.w) X.A (pyIter (.ref s1.heap.objs.size)) (PIE X pins σ tg R) X.xe { s1 with heap:=s1.heap.push { cls:=.type "dict_values",data:=.fields #[.ref d] } }:=by
  refine wpAny_pyIter_values (d:=d) (knd:=bH X.prog X.w) ⟨_,Heap.get?_push_size _ rfl,rfl,rfl⟩ (hm.push _) (yn (tk:=s1.toks) I2 _ (aiQ _ hdt) ⟨_,Heap.get?_push_size _ rfl,rfl,?_⟩ q);rw[hl] <;> rfl
 show wpAny _ _ (callWith cpos (.builtin "dict.values") [.ref d] [] []) _ X.xe s1;exact method_meetsIn F.slot_dict_values F.entry_dict_values rfl (PySem.evalArgs_none ⟨rfl,hm.dictOf.typeIs,F.args_dict_values_1 _,_,meets_dict_values (bH X.prog X.w) d hs,⟨vs,hm.dictOf⟩,fin⟩)
theorem aas {elts:List Expr}{kk:Nat}{tpos:Pos}(he:PE X e td) (hbase:attributeBase e "items" X.env (eval e X.env)=eval e X.env:=by rfl) (hline:(apos.endLine == cpos.line)=true:=by rfl) :
  PI X (.Tuple elts kk tpos) (.Call (.Attribute e "items" apos) [] [] cpos) (alK td):=by
 intro pins s σ H R I h;refine wpAny_Call_method (T:="dict") (id:="dict.items") hbase rfl hline F.plainAttrs_dict F.slot_dict_items F.type_dict_items (thn (he pins s σ H _ I h) fun u s1 ⟨x,H1,I1,rx,d,o,kvs,ex,hd,q⟩=>?_);subst ex;obtain rfl:u=Value.ref d:=rx;obtain⟨hs,hgd,hx,es,ep,vs,hdt,hsz,kv,hm⟩:=I1.vk hd;have hl:kvs.length=vs.length:=Paired.length kv;refine⟨hm.dictOf.typeIs,hm.dictOf.mapOf.noDict,?_⟩;have I2:Inv X pins σ H1 { s1 with heap:=s1.heap.push { cls:=.type "dict_items",data:=.fields #[.ref d] } }:=I1.kept (t':=s1.toks) fun b ob q=>Heap.get?_push_of_some _ q;have fin:wpAny (model X.prog X.w) X.A (pyIter (.ref s1.heap.objs.size)) (PIE X pins σ (.Tuple elts kk tpos) R) X.xe { s1 with heap:=s1.heap.push { cls:=.type "dict_items",data:=.fields #[.ref d] } }:=by
  refine wpAny_pyIter_items (d:=d) (knd:=bH X.prog X.w) ⟨_,Heap.get?_push_size _ rfl,rfl,rfl⟩ (hm.push _) (yn (tk:=s1.toks) I2 _ (ahq _ hdt) ⟨.none,.none,?_⟩ q);rw[hl];exact Heap.get?_push_size _ rfl
 show wpAny _ _ (callWith cpos (.builtin "dict.items") [.ref d] [] []) _ X.xe s1;exact method_meetsIn F.slot_dict_items F.entry_dict_items rfl (PySem.evalArgs_none ⟨rfl,hm.dictOf.typeIs,F.args_dict_items_1 _,_,meets_dict_items (bH X.prog X.w) d hs,⟨vs,hm.dictOf⟩,fin⟩)
end
def Ite (K:PySem.W.Frag) (a:Addr):It:=
 ⟨fun i H=>∃ (xs:List V) (x:V),SqL K H a xs∧xs[i]?=some x,fun i H v H'=>∃ T x,v = .ref T∧H T=none∧H'=upd H T (.tup [.int (i:Nat),x])∧∀ xs,SqL K H a xs→xs[i]?=some x,fun i H=>∃ xs:List V,SqL K H a xs∧xs.length≤i⟩
theorem aiN {P:Program}{w:World}{K:PySem.W.Frag}{elts:List Expr}{kk:Nat}{tpos:Pos}(a e it:Addr) :
  Turn P w K (.Tuple elts kk tpos) (Ite K a) [e,it] e (fun i h=>(∃ old,IsEnum h e it ((i:Nat):Int) old)∧h.IsListIter it a i∧e≠it) where
 mem:=by simp
 obj:=fun i h st b hb=>by
  obtain⟨⟨old,he⟩,⟨o,ho,hc,hd⟩,_⟩:=st;have e':b=e∨b=it:=by simpa using hb
  rcases e' with z|z
  ·rw[z];exact⟨_,he,fun v q=>nomatch q⟩
  ·rw[z];exact⟨o,ho,fun v q=>by rw[hd] at q;cases q⟩
 keep:=fun i h h' st k=>let ⟨⟨old,he⟩,hi,hne⟩:=st;⟨⟨old,k e (by simp) _ he⟩,hi.at fun o q=>k it (by simp) o q,hne⟩
 item:=by
  intro X hP hw hK hc i pins s σ H E I hf st hg;subst hP hw hK;obtain⟨⟨old,he⟩,hit,hne⟩:=st;obtain⟨xs,x,hq,hx⟩:=hg;obtain⟨its,rv,p,hz⟩:=I.list hq;obtain⟨u,hu,ru⟩:=rv.get hx;have hel:e<s.heap.objs.size:=Heap.lt_size he;have hil:it<s.heap.objs.size:=by obtain⟨_,q,_⟩:=hit;exact Heap.lt_size q
  refine wpAny_pyNext_enum_item he hit p.isList (x:=u) (by simpa using hu) hne fun h' ho hit' hT hsz hk=>?_;refine⟨_,rfl,wpAny_letOwnedTupleGo_enum (s:={ s with heap:=h',toks:=s.toks+1 }) ho fun h'' he' sb=>?_⟩;have hT2:h''.get? s.heap.objs.size=some { cls:=.type "tuple",data:=.seq #[.int i s.toks,u] }:=(sb.2 _ (Nat.ne_of_gt hel)).trans hT;have new:di X.prog X.w (upd H s.heap.objs.size (.tup [.int (i:Nat),x])) h'' s.heap.objs.size (.tup [.int (i:Nat),x]):=
   ⟨by show 2≤sizeLine;decide,[.int i s.toks,u],.cons ⟨_,rfl⟩ (.cons ru .nil),⟨_,hT2,rfl,_,rfl⟩⟩
  have I1:Inv X pins σ (upd H s.heap.objs.size (.tup [.int (i:Nat),x])) { s with heap:=h'',toks:=s.toks+1 }:=
   I.ac8 (ch:=[e,it]) (fun b ob hb q=>(sb.2 b (fun z=>hb (by simp[z]))).trans (hk b ob (fun z=>hb (by simp[z])) (fun z=>hb (by simp[z])) q)) hf (Nat.le_refl _) new
  refine⟨.ref s.heap.objs.size,_,I1,rfl,⟨_,x,rfl,I.hok.fresh (Nat.le_refl _),rfl,fun ys hy=>by rw[I.aac hy hq];exact hx⟩,⟨⟨u,?_⟩,hit'.at fun o q=>(sb.2 it (Ne.symm hne)).trans q,hne⟩,fun b hb=>?_⟩
  ·have e1:((i+1:Nat):Int)=(i:Int)+1:=by omega
   rw[e1];exact he'
  ·have hb':b<s.heap.objs.size:=by
    have e':b=e∨b=it:=by simpa using hb
    rcases e' with z|z
    ·rw[z];exact hel
    ·rw[z];exact hil
   rw[ae (Nat.ne_of_lt hb')];exact(hf b hb).1
 done:=by
  intro X hP hw hK hc i pins s σ H E I hf st hg;subst hP hw hK;obtain⟨⟨old,he⟩,hit,hne⟩:=st;obtain⟨xs,hq,hx⟩:=hg;obtain⟨its,rv,p,hz⟩:=I.list hq;obtain⟨f0,f1,f2,f3,f4,f5⟩:=hf it (by simp);have hl:=rv.length;exact wpAny_pyNext_enum_end (I.ok.hd hc) he hit p.isList (by simp;omega) fun h' eb=>⟨rfl,I.turned (t':=s.toks) (fun b o hb q=>eb b o hb q) f0 f1 f3 f4 f5⟩
 self:=fun A i s Q E st h=>let ⟨⟨_,he⟩,_⟩:=st;wpAny_pyIter_enum he h
def am1 (K:PySem.W.Frag) (ta:TA):TI:=fun σ H R=>ta σ H fun vs H1=>∃ a xs,vs = [.ref a]∧SqL K H1 a xs∧R (Ite K a) H1
theorem akO {X:Cx}{e:Expr}{ta:TA}{p pos tpos:Pos}{elts:List Expr}{kk:Nat}(hg:Gl X "enumerate") (hm:X.mg "enumerate" = none) (ha:PA X [e] ta) (hs:starEach [e] X.env = [(false,eval e X.env)]:=by rfl) :
  PI X (.Tuple elts kk tpos) (.Call (.Name "enumerate" p) [e] [] pos) (am1 X.K ta):=by
 intro pins s σ H R I h;refine Call_ (ua I hg hm boot_enumerate (PyProof.Rows.callWith_type1 (thn (ha pos pins s σ H _ I h) fun us s1 ⟨vs,H1,I1,r1,q1⟩=>?_) hs rfl));obtain⟨a,xs,ex,hq,q⟩:=q1;subst ex;cases r1 with
 | cons r rr=>
  cases rr;cases r;obtain⟨its,rv,p',hz⟩:=I1.list hq;refine call_enumerate_list p'.isList fun h' he hit hsz hk=>wpAny_pyIter_enum he ?_;have I2:Inv X pins σ H1 { s1 with heap:=h' }:=I1.kept (t':=s1.toks) hk;refine⟨s1.heap.objs.size+1,[s1.heap.objs.size+1,s1.heap.objs.size],_,_,H1,rfl,I2,aiN a (s1.heap.objs.size+1) s1.heap.objs.size,⟨⟨.none,he⟩,hit,Nat.succ_ne_self _⟩,fun b hb=>?_,q⟩;have e':b=s1.heap.objs.size+1∨b=s1.heap.objs.size:=by simpa using hb
  have hle:s1.heap.objs.size≤b:=by
   rcases e' with z|z
   ·rw[z];exact Nat.le_add_right _ _
   ·rw[z];exact Nat.le_refl _
  exact I1.ab5 hle (I1.hok.fresh hle)
def inClass (s:Stmt) (j:Nat):Stmt:=match s with
 | .ClassDef _ _ _ body _ _ _ _ _ _ _=>body.getD j (.Pass ⟨0,0,0,0⟩)
 | _=>.Pass ⟨0,0,0,0⟩
def la (s:Stmt):Arguments:=match s with
 | .FunctionDef _ a _ _ _ _ _ _ _ _=>a
 | _=>{ posonlyargs:=[],args:=[],vararg:=none,kwonlyargs:=[],kw_defaults:=[],kwarg:=none,defaults:=[] }
def jO (s:Stmt):List Stmt:=match s with
 | .FunctionDef _ _ b _ _ _ _ _ _ _=>b
 | _=>[]
def aj (s:Stmt):Scope:=match s with
 | .FunctionDef _ _ _ _ _ _ sc _ _ _=>sc
 | _=>{ kind:=.function,names:=[],isGenerator:=false,isCoroutine:=false }
abbrev CX0:CXT:=fun _ _ _ _ _ _=>False
abbrev E0:XK:=fun _ _ _=>False
theorem aE {X:Cx}:Passes CX0 X E0:=fun _ _ _ _ _ _ _ h=>h.elim
structure Fun (K:PySem.W.Frag) (x qual:Str) (st:Stmt) (f:Addr) (fd:FuncData):Prop where
 ex:∃ (oc:Value) (od:Option Addr) (kV doc pm:Value) (an:Option Addr) (cdv ct:Value) (osl:Array (Option Value)),
  fd=PySem.W.fnOf x qual (la st) (jO st) (aj st) .none kV doc pm an cdv ct∧K.lookup f=some ⟨oc,od,.func fd,osl⟩∧PySem.W.codeIn K cdv qual=true
 kp:PySem.W.keepIn K (.ref f)=true
section
variable {P:Program}{w:World}{K:PySem.W.Frag}{mg:Str→Option Value}{base:Heap}
theorem Fun.ok {x qual:Str}{st:Stmt}{f:Addr}{fd:FuncData}{N ps:List Str}{k:Nat}{sp:Sp}(F:Fun K x qual st f fd) (S:ay N ps (aj st)) (len:∀ vs H Q E,sp vs H Q E→vs.length=ps.length)
  (hbody:∀ (cdv:Value) (A:Around) (outer:List Env) (s:Shared) (H:Hp) (vs:List V) (Q:VK) (E:XK),bh k (A.deeper (envOfC qual (aj st) s.heap.objs.size f cdv))→sp vs H Q E →
   ∃ t,PSs (ab3 CX0 P w K mg base N qual (aj st) f cdv A outer s H E).nox (jO st) t∧t { nx:=fun _ H'=>Q .non H',rt:=Q } (start N vs) H):aP P w K mg base CX0 (k+1) f fd ps sp:=by
 obtain⟨oc,od,kV,doc,pm,an,cdv,ct,osl,rfl,lk,hcd⟩:=F.ex;refine amX lk hcd S len fun A outer s H vs Q E hr hsp=>?_;obtain⟨t,h,q⟩:=hbody cdv A outer s H vs Q E hr hsp;exact⟨t,h.nox,q⟩
theorem Fun.binds {x qual:Str}{st:Stmt}{f:Addr}{fd:FuncData}{ps:List Str}(F:Fun K x qual st f fd)
  (h:∀ (kV doc pm:Value) (an:Option Addr) (cdv ct:Value) (us:List Value),us.length=ps.length→bindArgs (PySem.W.fnOf x qual (la st) (jO st) (aj st) .none kV doc pm an cdv ct) ⟨us,[]⟩=pure (ps.zip us)):Binds K fd ps []:=by
 obtain⟨oc,od,kV,doc,pm,an,cdv,ct,osl,rfl,lk,hcd⟩:=F.ex;exact .all (h kV doc pm an cdv ct)
theorem alC {x qual:Str}{st:Stmt}{f:Addr}{oc:Value}{od an:Option Addr}{osl:Array (Option Value)}{kV doc pm cdv ct:Value}(l:K.lookup f=some ⟨oc,od,.func (PySem.W.fnOf x qual (la st) (jO st) (aj st) .none kV doc pm an cdv ct),osl⟩)
  (c:PySem.W.codeIn K cdv qual=true) (k:PySem.W.keepIn K (.ref f)=true):Fun K x qual st f (PySem.W.fnOf x qual (la st) (jO st) (aj st) .none kV doc pm an cdv ct):=⟨⟨oc,od,kV,doc,pm,an,cdv,ct,osl,rfl,l,c⟩,k⟩
end
theorem bX {A:Around}{k:Nat}(hr:bh k A):A.units+1<cLine:=Nat.lt_of_le_of_lt (Nat.add_le_add_left (by decide:1≤64) _) hr.units
theorem bo {n:Nat}(h:n≤1000):n<sizeLine:=Nat.lt_of_le_of_lt h (by decide)
section
variable {X:Cx}
theorem pv (i:Nat) {x:Str}{pos:Pos}(hN:X.N[i]?=some x:=by rfl) (hv:Vis X.env.scope x:=by first|exact Or.inl rfl|exact Or.inr (Or.inl rfl)|exact Or.inr (Or.inr rfl)) (hd:(x == ("__debug__" : Str))=false:=by decide)
  (hcd:(x == ("__classdict__" : Str))=false:=by decide):PE X (.Name x pos) (bG i):=al1 hN hv hd hcd
theorem oq:nW X (.builtin "len") (fun xs H Q=>∃ a kvs,xs = [V.ref a]∧H a=some (.dK kvs)∧Q (.int kvs.length) H):=by
 intro pins s σ H xs us Q I r h;obtain⟨a,kvs,rfl,ha,q⟩:=h;obtain⟨u,rfl,ru⟩:=vals1 r;cases ru;exact aj4 I (.inl ha) fun t s' I'=>⟨.int kvs.length,H,I',⟨t,rfl⟩,q⟩
end
theorem cR {A B:Prop}(h:B):if false=true then A else B:=by
 rw[if_neg Bool.false_ne_true];exact h
theorem cS {A B:Prop}(h:A):if true=true then A else B:=by
 rw[if_pos rfl];exact h
theorem a8 {c A B:Prop}[Decidable c] (h1:c→A) (h2:¬ c→B):if c then A else B:=by
 by_cases h:c
 ·rw[if_pos h];exact h1 h
 ·rw[if_neg h];exact h2 h
def ao (H H':Hp):Prop:=∀ b o,H b=some o→H' b=some o
theorem ao.refl (H:Hp):ao H H:=fun _ _ h=>h
theorem ao.trans {H H1 H2:Hp}(a:ao H H1) (b:ao H1 H2):ao H H2:=fun c o h=>b c o (a c o h)
theorem ao.free {H H':Hp}(e:ao H H') {l:Addr}(h:H' l=Option.none):H l=Option.none:=by
 cases q:H l with
 | none=>rfl
 | some o=>
  rw[e l o q] at h;cases h
theorem ao.seq {K:PySem.W.Frag}{H H':Hp}{a:Addr}{xs:List V}(e:ao H H') (h:SqL K H a xs):SqL K H' a xs:=by
 rcases h with (h|⟨o,h⟩)|h
 ·exact .inl (.inl (e _ _ h))
 ·exact .inl (.inr ⟨o,e _ _ h⟩)
 ·exact .inr h
section
variable {κ:Type}[DecidableEq κ]
theorem alj {kvs:List (κ×V)}{k:κ}{v:V}(h:bg kvs k=some v):k∈kvs.map (·.1):=by
 have q:(kvs.any fun kv=>decide (kv.1=k))=true:=by
  rw[k9,h]
  all_goals rfl
 obtain⟨p,hp,e⟩:=List.any_eq_true.mp q;exact List.mem_map.mpr ⟨p,hp,of_decide_eq_true e⟩
end
theorem abo {α:Type}{l:List α}(hN:l.Nodup) {i j:Nat}{x:α}(a:l[i]?=some x) (b:l[j]?=some x):i=j:=by
 obtain⟨h1,e1⟩:=List.getElem?_eq_some_iff.mp a;obtain⟨h2,e2⟩:=List.getElem?_eq_some_iff.mp b;exact(List.getElem_inj hN).mp (e1.trans e2.symm)
theorem ao.made {H H1:Hp}{x dx C:Addr}(nx:H x=Option.none) (nd:H dx=Option.none) (k:∀ b o,(upd (upd H dx (.own x)) x (.ins C dx [])) b=some o→b≠x→H1 b=some o):ao H H1:=fun b o e=>
 k b o (by rw[ae (az e nx),ae (az e nd)];exact e) (az e nx)
end L2
section
set_option maxHeartbeats 2000000
namespace L2
open PySem PySem.Spec PyProof.Rows
open PySem.W (WData Codec OpenSpec Well WellAll ReadsW ReadsAllW)
mutual
inductive Dw (K:PySem.W.Frag) (H:Hp):V→WData→Prop
 | non:Dw K H .non .none
 | bl (b:Bool):Dw K H (.bl b) (.bool b)
 | int (i:Int):Dw K H (.int i) (.int i)
 | str (x:Str):Dw K H (.str x) (.str x)
 | byt (b:Array UInt8):Dw K H (.byt b) (.bytes b.toList)
 | lst {a:Addr} {xs:List V} {ds:List WData}:SqL K H a xs→ky K H xs ds→Dw K H (.ref a) (.list ds)
 | tup {a:Addr} {xs:List V} {ds:List WData}:SqT K H a xs→ky K H xs ds→Dw K H (.ref a) (.tuple ds)
inductive ky (K:PySem.W.Frag) (H:Hp):List V→List WData→Prop
 | nil:ky K H [] []
 | cons {v:V} {vs:List V} {d:WData} {ds:List WData}:Dw K H v d→ky K H vs ds→ky K H (v::vs) (d::ds)
end
theorem af1 {K:PySem.W.Frag}{H:Hp}:∀ ns:List Int,ky K H (ns.map V.int) (ns.map WData.int)
 | []=>.nil
 | n::r=>.cons (.int n) (af1 r)
theorem af4 {K:PySem.W.Frag}{H:Hp}:∀ (ns:List Int) (xs:List V),ky K H xs (ns.map WData.int)→xs=ns.map V.int
 | [],xs,h=>by
  cases h;rfl
 | n::r,xs,h=>by
  cases h with
  | cons h1 h2=>
   cases h1;rw[af4 r _ h2] <;> rfl
section
variable {P:Program}{w:World}{K:PySem.W.Frag}{H:Hp}{h:Heap}{R:PySem.W.WRecords}{cl:Str→Option Addr}
theorem amu {a:Addr}{xs:List V}(hok:HOk P w H h) (KX:K.In h) (q:SqL K H a xs):∃ (its:List Value) (o:Obj) (n:Nat),Vals xs its∧h.get? a=some o∧o.cls = .type "list" ∧ o.data = .seq its.toArray n:=by
 rcases q with q|⟨o,its,n,e,hc,_,hd,_,hv⟩
 ·obtain⟨_,its,n,hv,e⟩:=(show di P w H h a (.lst xs) from q.ok hok);exact⟨its,_,n,hv,e,rfl,rfl⟩
 ·exact⟨its.toList,o,n,hv,KX _ _ e,hc,by simp[hd]⟩
theorem amv {a:Addr}{xs:List V}(hok:HOk P w H h) (KX:K.In h) (q:SqT K H a xs):∃ (its:List Value) (o:Obj) (n:Nat),Vals xs its∧h.get? a=some o∧o.cls = .type "tuple" ∧ o.data = .seq its.toArray n:=by
 rcases q with q|⟨o,its,n,e,hc,hd,_,hv⟩
 ·obtain⟨_,its,hv,o,e,hc,n,hd⟩:=(show di P w H h a (.tup xs) from q.ok hok);exact⟨its,o,n,hv,e,hc,hd⟩
 ·exact⟨its.toList,o,n,hv,KX _ _ e,hc,by simp[hd]⟩
mutual
theorem Dw.reads (hok:HOk P w H h) (KX:K.In h):∀ (d:WData) (v:V) (u:Value),Dw K H v d→RelV v u→∃ as,ReadsW R cl h u d as
 | .none,_,_,x,r=>by
  cases x;cases r;exact⟨_,ReadsW.none⟩
 | .bool b,_,_,x,r=>by
  cases x;cases r;exact⟨_,ReadsW.bool b⟩
 | .int i,_,_,x,r=>by
  cases x;obtain⟨t,rfl⟩:=r;exact⟨_,ReadsW.int i t⟩
 | .str s,_,_,x,r=>by
  cases x;obtain⟨t,rfl⟩:=r;exact⟨_,ReadsW.str s t⟩
 | .bytes b,_,_,x,r=>by
  cases x;obtain⟨t,rfl⟩:=r;exact⟨_,ReadsW.bytes _ t⟩
 | .list ds,_,_,x,r=>by
  cases x with
  | lst hs ha=>
   cases r;obtain⟨its,o,n,rv,ho,hc,hd⟩:=amu hok KX hs;obtain⟨as,hr⟩:=Dw.readsAll hok KX ds _ its ha rv;exact⟨_,ReadsW.list ho hc hd hr⟩
 | .tuple ds,_,_,x,r=>by
  cases x with
  | tup hs ha=>
   cases r;obtain⟨its,o,n,rv,ho,hc,hd⟩:=amv hok KX hs;obtain⟨as,hr⟩:=Dw.readsAll hok KX ds _ its ha rv;exact⟨_,ReadsW.tuple ho hc hd hr⟩
 | .float _,_,_,x,_=>by cases x
 | .dict _,_,_,x,_=>by cases x
 | .bytearray _,_,_,x,_=>by cases x
 | .set _,_,_,x,_=>by cases x
 | .frozenset _,_,_,x,_=>by cases x
 | .obj _ _,_,_,x,_=>by cases x
theorem Dw.readsAll (hok:HOk P w H h) (KX:K.In h):∀ (ds:List WData) (vs:List V) (us:List Value),ky K H vs ds→Vals vs us→∃ as,ReadsAllW R cl h us ds as
 | [],_,_,x,r=>by
  cases x;cases r;exact⟨_,ReadsAllW.nil⟩
 | d::ds,_,_,x,r=>by
  cases x with
  | cons h1 h2=>
   cases r with
   | cons r1 r2=>
    obtain⟨as,q1⟩:=Dw.reads hok KX d _ _ h1 r1;obtain⟨bs,q2⟩:=Dw.readsAll hok KX ds _ _ h2 r2;exact⟨_,ReadsAllW.cons q1 q2⟩
end
end
mutual
def plW:WData→Bool
 | .none=>true
 | .bool _=>true
 | .int _=>true
 | .str _=>true
 | .bytes _=>true
 | .list xs=>o6 xs
 | .tuple xs=>o6 xs
 | _=>false
def o6:List WData→Bool
 | []=>true
 | x::r=>plW x&&o6 r
end
theorem aeL {α:Type}{f:α→WData}(h:∀ a,plW (f a)=true):∀ l:List α,o6 (l.map f)=true
 | []=>rfl
 | x::r=>by
  show(plW (f x)&&o6 (r.map f))=true;rw[h x,aeL h r] <;> rfl
theorem oG:∀ (c:Codec) (a:c.denote),plW (c.enc a)=true
 | .unit,_=>rfl
 | .bool,_=>rfl
 | .int _ _,_=>rfl
 | .nat _ _,_=>rfl
 | .u8,_=>rfl
 | .bytes _ _,_=>rfl
 | .text _ _ _ _,_=>rfl
 | .list _ _ c,a=>aeL (fun x=>oG c x) a
 | .pair c d,a=>by
  show(plW (c.enc a.1)&&(plW (d.enc a.2)&&true))=true;rw[oG c a.1,oG d a.2] <;> rfl
 | .triple c d e,a=>by
  show(plW (c.enc a.1)&&(plW (d.enc a.2.1)&&(plW (e.enc a.2.2)&&true)))=true;rw[oG c a.1,oG d a.2.1,oG e a.2.2] <;> rfl
 | .option c,none=>rfl
 | .option c,some x=>oG c x
theorem acX:∀ (cs:List Codec) (a:Codec.denoteAll cs),o6 (Codec.encAll cs a)=true
 | [],_=>rfl
 | c::cs,a=>by
  show(plW (c.enc a.1)&&o6 (Codec.encAll cs a.2))=true;rw[oG c a.1,acX cs a.2] <;> rfl
theorem wu:∀ {xs:List WData}{d:WData},d∈xs→d.weight≤WData.weightAll xs
 | [],d,h=>absurd h (by simp)
 | x::r,d,h=>by
  show d.weight≤x.weight+1+WData.weightAll r;rcases List.mem_cons.mp h with e|m
  ·rw[e];omega
  ·have z:=wu m;omega
def toV:Value→V
 | .none=>.non
 | .bool b=>.bl b
 | .int i _=>.int i
 | .str x _=>.str x
 | .bytes b _=>.byt b
 | .ref a=>.ref a
 | _=>.non
def OkU (A:List Addr):Value→Prop
 | .none=>True
 | .bool _=>True
 | .int _ _=>True
 | .str _ _=>True
 | .bytes _ _=>True
 | .ref a=>a∈A
 | _=>False
theorem OkU.mono {A B:List Addr}(h:∀ a∈A,a∈B):∀ {u:Value},OkU A u→OkU B u:=fun {u} x=>by
 cases u with
 | ref a=>exact h a x
 | none=>trivial
 | bool b=>trivial
 | int i t=>trivial
 | str s t=>trivial
 | bytes b t=>trivial
 | _=>exact False.elim x
theorem ajB {A:List Addr}{u:Value}(x:OkU A u):RelV (toV u) u:=by
 cases u with
 | ref a=>rfl
 | none=>rfl
 | bool b=>rfl
 | int i t=>exact⟨t,rfl⟩
 | str s t=>exact⟨t,rfl⟩
 | bytes b t=>exact⟨t,rfl⟩
 | _=>exact False.elim x
theorem nV {A:List Addr}:∀ {vs:List Value},(∀ u∈vs,OkU A u)→Vals (vs.map toV) vs
 | [],_=>.nil
 | u::r,h=>.cons (ajB (h u (List.mem_cons_self ..))) (nV fun x hx=>h x (List.mem_cons_of_mem _ hx))
def kx (h:Heap) (A:List Addr) (a:Addr):Prop:=∃ vs:List Value,vs.length≤sizeLine∧(∀ u∈vs,OkU A u) ∧
 (h.get? a=some { cls:=.type "list",data:=.seq vs.toArray }∨h.get? a=some { cls:=.type "tuple",data:=.seq vs.toArray })
theorem kx.mono {h:Heap}{A B:List Addr}{a:Addr}(k:∀ a∈A,a∈B) (x:kx h A a):kx h B a:=by
 obtain⟨vs,h1,h2,h3⟩:=x;exact⟨vs,h1,fun u hu=>(h2 u hu).mono k,h3⟩
theorem oo {P:Params}{h:Heap}:∀ {vs:List Value}{ds:List WData},WellAll P h vs ds→vs.length=ds.length
 | _,_,.nil=>rfl
 | _,_,.cons _ b=>by
  show _+1=_+1;rw[oo b]
theorem adb {P:Params}{h:Heap}{v:Value}{ds:List WData}(x:Well P h v (.list ds)):∃ (a:Addr) (vs:List Value),v = .ref a∧h.get? a=some { cls:=.type "list",data:=.seq vs.toArray }∧WellAll P h vs ds:=by
 cases x with
 | list ho hall=>exact⟨_,_,rfl,ho,hall⟩
theorem abV {P:Params}{h:Heap}{v:Value}{ds:List WData}(x:Well P h v (.tuple ds)):∃ (a:Addr) (vs:List Value),v = .ref a∧h.get? a=some { cls:=.type "tuple",data:=.seq vs.toArray }∧WellAll P h vs ds:=by
 cases x with
 | tuple ho hall=>exact⟨_,_,rfl,ho,hall⟩
theorem ada {P:Params}{h:Heap}{us:List Value}{d:WData}{ds:List WData}(x:WellAll P h us (d::ds)):∃ (v:Value) (vs:List Value),us=v::vs∧Well P h v d∧WellAll P h vs ds:=by
 cases x with
 | cons a b=>exact⟨_,_,rfl,a,b⟩
theorem af7 {n:Nat}(h:n≤1048576):n≤sizeLine:=Nat.le_trans h (by decide)
section
variable {P:Params}{h:Heap}
mutual
theorem ai4:∀ (d:WData) (v:Value),Well P h v d→plW d=true→d.weight≤1048576→∃ A:List Addr,OkU A v∧∀ a∈A,kx h A a
 | .none,_,x,_,_=>by
  cases x;exact⟨[],trivial,fun a m=>absurd m (by simp)⟩
 | .bool b,_,x,_,_=>by
  cases x;exact⟨[],trivial,fun a m=>absurd m (by simp)⟩
 | .int i,_,x,_,_=>by
  cases x;exact⟨[],trivial,fun a m=>absurd m (by simp)⟩
 | .str s,_,x,_,_=>by
  cases x;exact⟨[],trivial,fun a m=>absurd m (by simp)⟩
 | .bytes b,_,x,_,_=>by
  cases x;exact⟨[],trivial,fun a m=>absurd m (by simp)⟩
 | .list ds,_,x,p,z=>by
  obtain⟨a,vs,rfl,ho,hall⟩:=adb x;have z2:WData.weightAll ds≤1048576:=z;obtain⟨A,h1,h2⟩:=vb ds _ hall p fun d hd=>Nat.le_trans (wu hd) z2;have k:∀ b∈A,b∈a::A:=fun b hb=>List.mem_cons_of_mem _ hb;refine⟨a::A,List.mem_cons_self ..,fun b hb=>?_⟩;rcases List.mem_cons.mp hb with e|m
  ·rw[e];exact⟨vs,af7 (by rw[oo hall];exact Nat.le_trans (PySem.W.length_le_weightAllW ds) z2),fun u hu=>(h1 u hu).mono k,.inl ho⟩
  ·exact(h2 b m).mono k
 | .tuple ds,_,x,p,z=>by
  obtain⟨a,vs,rfl,ho,hall⟩:=abV x;have z2:WData.weightAll ds≤1048576:=z;obtain⟨A,h1,h2⟩:=vb ds _ hall p fun d hd=>Nat.le_trans (wu hd) z2;have k:∀ b∈A,b∈a::A:=fun b hb=>List.mem_cons_of_mem _ hb;refine⟨a::A,List.mem_cons_self ..,fun b hb=>?_⟩;rcases List.mem_cons.mp hb with e|m
  ·rw[e];exact⟨vs,af7 (by rw[oo hall];exact Nat.le_trans (PySem.W.length_le_weightAllW ds) z2),fun u hu=>(h1 u hu).mono k,.inr ho⟩
  ·exact(h2 b m).mono k
 | .float _,_,_,p,_=>Bool.noConfusion (show false=true from p)
 | .dict _,_,_,p,_=>Bool.noConfusion (show false=true from p)
 | .bytearray _,_,_,p,_=>Bool.noConfusion (show false=true from p)
 | .set _,_,_,p,_=>Bool.noConfusion (show false=true from p)
 | .frozenset _,_,_,p,_=>Bool.noConfusion (show false=true from p)
 | .obj _ _,_,_,p,_=>Bool.noConfusion (show false=true from p)
theorem vb:∀ (ds:List WData) (vs:List Value),WellAll P h vs ds→o6 ds=true→(∀ d∈ds,d.weight≤1048576)→∃ A:List Addr,(∀ u∈vs,OkU A u)∧∀ a∈A,kx h A a
 | [],_,x,_,_=>by
  cases x;exact⟨[],fun u m=>absurd m (by simp),fun a m=>absurd m (by simp)⟩
 | d::ds,_,x,p,z=>by
  obtain⟨v,vs,rfl,x1,x2⟩:=ada x;have q:plW d=true∧o6 ds=true:=Bool.and_eq_true_iff.mp p;obtain⟨A,a1,a2⟩:=ai4 d v x1 q.1 (z d (List.mem_cons_self ..));obtain⟨B,b1,b2⟩:=vb ds vs x2 q.2 fun e he=>z e (List.mem_cons_of_mem _ he);have kA:∀ b∈A,b∈A++B:=fun b hb=>List.mem_append.mpr (.inl hb);have kB:∀ b∈B,b∈A++B:=fun b hb=>List.mem_append.mpr (.inr hb);refine⟨A++B,fun u hu=>?_,fun b hb=>?_⟩
  ·rcases List.mem_cons.mp hu with e|m
   ·rw[e];exact a1.mono kA
   ·exact(b1 u m).mono kB
  ·rcases List.mem_append.mp hb with m|m
   ·exact(a2 b m).mono kA
   ·exact(b2 b m).mono kB
end
end
def agR (o:Obj):Option HO:=match o.data with
 | .seq vs _=>if(o.cls == Value.type "list")=true then some (.frz o (.lst (vs.toList.map toV))) else some (.frz o (.tup (vs.toList.map toV)))
 | _=>none
def ie (K:PySem.W.Frag) (h:Heap) (A:List Addr):Hp:=fun b=>if b∈A then (if(K.lookup b).isNone=true then (h.get? b).bind agR else none) else none
def aaQ (H:Hp):Prop:=∀ b,H b=none∨∃ o u,H b=some (.frz o u)
theorem aek (vs:List Value):agR { cls:=.type "list",data:=.seq vs.toArray } = some (.frz { cls:=.type "list",data:=.seq vs.toArray } (.lst (vs.map toV))):=by
 show(if(Value.type "list" == Value.type "list")=true then some (HO.frz { cls:=.type "list",data:=.seq vs.toArray } (.lst (vs.toArray.toList.map toV))) else some (HO.frz { cls:=.type "list",data:=.seq vs.toArray } (.tup (vs.toArray.toList.map toV))))=_;rw[if_pos (beq_self_eq_true _)]
theorem ael (vs:List Value):agR { cls:=.type "tuple",data:=.seq vs.toArray } = some (.frz { cls:=.type "tuple",data:=.seq vs.toArray } (.tup (vs.map toV))):=by
 show(if(Value.type "tuple" == Value.type "list")=true then some (HO.frz { cls:=.type "tuple",data:=.seq vs.toArray } (.lst (vs.toArray.toList.map toV))) else some (HO.frz { cls:=.type "tuple",data:=.seq vs.toArray } (.tup (vs.toArray.toList.map toV))))=_;rw[if_neg (by decide)]
section
variable {P:Program}{w:World}{K:PySem.W.Frag}{h:Heap}{A:List Addr}
theorem yO {b:Addr}{o:Obj}(hb:b∈A) (hk:K.lookup b=none) (e:h.get? b=some o):ie K h A b=agR o:=by
 unfold ie;rw[if_pos hb,hk,if_pos (show(none:Option Obj).isNone=true from rfl),e] <;> rfl
theorem akE {b:Addr}{u:HO}(q:ie K h A b=some u):b∈A∧K.lookup b=none:=by
 unfold ie at q;by_cases hb:b∈A
 ·rw[if_pos hb] at q;cases hk:K.lookup b with
  | none=>exact⟨hb,rfl⟩
  | some o=>
   rw[hk,if_neg (by simp)] at q;cases q
 ·rw[if_neg hb] at q;cases q
theorem yP (ar:∀ a∈A,kx h A a) {b:Addr}{u:HO}(q:ie K h A b=some u):K.lookup b=none∧∃ vs:List Value,vs.length≤sizeLine∧(∀ u∈vs,OkU A u) ∧
  ((h.get? b=some { cls:=.type "list",data:=.seq vs.toArray }∧u = .frz { cls:=.type "list",data:=.seq vs.toArray } (.lst (vs.map toV))) ∨
   (h.get? b=some { cls:=.type "tuple",data:=.seq vs.toArray }∧u = .frz { cls:=.type "tuple",data:=.seq vs.toArray } (.tup (vs.map toV)))):=by
 obtain⟨hb,hk⟩:=akE q;obtain⟨vs,h1,h2,h3⟩:=ar b hb;refine⟨hk,vs,h1,h2,?_⟩;rcases h3 with e|e
 ·rw[yO hb hk e,aek] at q;exact .inl ⟨e,(Option.some.inj q).symm⟩
 ·rw[yO hb hk e,ael] at q;exact .inr ⟨e,(Option.some.inj q).symm⟩
theorem ahx (ar:∀ a∈A,kx h A a):aaQ (ie K h A):=fun b=>by
 cases q:ie K h A b with
 | none=>exact .inl rfl
 | some u=>
  obtain⟨_,vs,_,_,⟨_,e⟩|⟨_,e⟩⟩:=yP ar q
  ·exact .inr ⟨_,_,by rw[e]⟩
  ·exact .inr ⟨_,_,by rw[e]⟩
theorem akj (ar:∀ a∈A,kx h A a):HOk P w (ie K h A) h:=fun b u q=>by
 obtain⟨_,vs,h1,h2,⟨e,rfl⟩|⟨e,rfl⟩⟩:=yP ar q
 ·exact⟨e,by rw[List.length_map];exact h1,vs,_,nV h2,e⟩
 ·exact⟨e,by rw[List.length_map];exact h1,vs,nV h2,_,e,rfl,_,rfl⟩
theorem y4 {c c':Value}{vs us:List Value}(e:(some { cls:=c,data:=.seq vs.toArray }:Option Obj)=some { cls:=c',data:=.seq us.toArray }):c=c'∧vs=us:=by
 have e1:=Option.some.inj e;have e2:c=c':=congrArg Obj.cls e1;have e3:Data.seq vs.toArray=Data.seq us.toArray:=congrArg Obj.data e1;injection e3 with e4;refine⟨e2,?_⟩;have e5:=congrArg Array.toList e4;simpa using e5
theorem ant (KX:K.In h) (ar:∀ a∈A,kx h A a) {a:Addr}{vs:List Value}(ha:a∈A) (e:h.get? a=some { cls:=.type "list",data:=.seq vs.toArray }):(∀ u∈vs,OkU A u)∧SqL K (ie K h A) a (vs.map toV):=by
 obtain⟨us,h1,h2,h3⟩:=ar a ha;have hu:us=vs:=by
  rcases h3 with q|q
  ·rw[e] at q;exact(y4 q).2.symm
  ·rw[e] at q;exact absurd (Value.type.inj (y4 q).1) (by decide)
 subst hu;refine⟨h2,?_⟩;cases hk:K.lookup a with
 | none=>exact .inl (.inr ⟨_,by rw[yO ha hk e,aek]⟩)
 | some o=>
  have e2:=KX a o hk;rw[e] at e2;obtain rfl:=Option.some.inj e2;exact .inr ⟨_,us.toArray,_,hk,rfl,rfl,rfl,by rw[List.size_toArray];exact h1,by simpa using nV h2⟩
theorem anu (KX:K.In h) (ar:∀ a∈A,kx h A a) {a:Addr}{vs:List Value}(ha:a∈A) (e:h.get? a=some { cls:=.type "tuple",data:=.seq vs.toArray }):(∀ u∈vs,OkU A u)∧SqT K (ie K h A) a (vs.map toV):=by
 obtain⟨us,h1,h2,h3⟩:=ar a ha;have hu:us=vs:=by
  rcases h3 with q|q
  ·rw[e] at q;exact absurd (Value.type.inj (y4 q).1) (by decide)
  ·rw[e] at q;exact(y4 q).2.symm
 subst hu;refine⟨h2,?_⟩;cases hk:K.lookup a with
 | none=>exact .inl (.inr ⟨_,by rw[yO ha hk e,ael]⟩)
 | some o=>
  have e2:=KX a o hk;rw[e] at e2;obtain rfl:=Option.some.inj e2;exact .inr ⟨_,us.toArray,_,hk,rfl,rfl,by rw[List.size_toArray];exact h1,by simpa using nV h2⟩
mutual
theorem aly {Pm:Params}(KX:K.In h) (ar:∀ a∈A,kx h A a):∀ (d:WData) (v:Value),Well Pm h v d→plW d=true→OkU A v→Dw K (ie K h A) (toV v) d
 | .none,_,x,_,_=>by
  cases x;exact .non
 | .bool b,_,x,_,_=>by
  cases x;exact .bl b
 | .int i,_,x,_,_=>by
  cases x;exact .int i
 | .str s,_,x,_,_=>by
  cases x;exact .str s
 | .bytes b,_,x,_,_=>by
  cases x;have z:=Dw.byt (K:=K) (H:=ie K h A) b.toArray;exact z
 | .list ds,_,x,p,hu=>by
  obtain⟨a,vs,rfl,ho,hall⟩:=adb x;obtain⟨h2,hs⟩:=ant KX ar hu ho;exact .lst hs (aaV KX ar ds _ hall p h2)
 | .tuple ds,_,x,p,hu=>by
  obtain⟨a,vs,rfl,ho,hall⟩:=abV x;obtain⟨h2,hs⟩:=anu KX ar hu ho;exact .tup hs (aaV KX ar ds _ hall p h2)
 | .float _,_,_,p,_=>Bool.noConfusion (show false=true from p)
 | .dict _,_,_,p,_=>Bool.noConfusion (show false=true from p)
 | .bytearray _,_,_,p,_=>Bool.noConfusion (show false=true from p)
 | .set _,_,_,p,_=>Bool.noConfusion (show false=true from p)
 | .frozenset _,_,_,p,_=>Bool.noConfusion (show false=true from p)
 | .obj _ _,_,_,p,_=>Bool.noConfusion (show false=true from p)
theorem aaV {Pm:Params}(KX:K.In h) (ar:∀ a∈A,kx h A a):∀ (ds:List WData) (vs:List Value),WellAll Pm h vs ds→o6 ds=true→(∀ u∈vs,OkU A u)→ky K (ie K h A) (vs.map toV) ds
 | [],_,x,_,_=>by
  cases x;exact .nil
 | d::ds,_,x,p,hu=>by
  obtain⟨v,vs,rfl,x1,x2⟩:=ada x;have q:plW d=true∧o6 ds=true:=Bool.and_eq_true_iff.mp p;exact .cons (aly KX ar d v x1 q.1 (hu _ (List.mem_cons_self ..))) (aaV KX ar ds vs x2 q.2 fun u m=>hu u (List.mem_cons_of_mem _ m))
end
end
theorem aiH {P:Program}{w:World}{K:PySem.W.Frag}{mg mb:Str→Option Value}{CX:CXT}{k:Nat}{fa:Addr}{fd:FuncData}{ps:List Str}{sp:Sp}{s₁:Shared}{vals:List Value}{ds:List WData}{R:PySem.W.WRecords}{cl:Str→Option Addr}{d0:WData}
  (KX:K.In s₁.heap) (hns:s₁.heap.Ns mainGlobals mg) (hb:s₁.heap.Ns builtinsNs mb) (hbb:∀ x:Str,x ≠ "__name__" → mb x=bootBuiltins x) (hlim:s₁.heap.NoLimit) (hg:s₁.gens = #[])
  (hwl:WellAll w.params s₁.heap vals ds) (hpl:o6 ds=true) (hwt:∀ d∈ds,d.weight≤1048576) (hr:bh k callerA)
  (F:∀ base:Heap,K.In base→base.Ns mainGlobals mg→aP P w K mg base CX k fa fd ps sp) (hbind:∀ (s:Shared) (us:List Value),us.length=ps.length→BindsTo s fd ⟨us,[]⟩ (ps.zip us)) (hlen:ds.length=ps.length)
  (hsp:∀ (H:Hp) (xs:List V),aaQ H→ky K H xs ds→sp xs H (fun v H'=>Dw K H' v d0) fun _ _ _=>False)
  (hCX:∀ H e s',CX [] H s₁ (fun _ _ _=>False) e s'→False) :
  codeAny (model P w) callerA (.call (.ref fa) ⟨vals,[]⟩) (fun r s'=>∃ u as,r = .ok (.ret u)∧ReadsW R cl s'.heap u d0 as∧OldK s₁.heap s'.heap∧s'.os=s₁.os∧AllBare s'.gens) s₁:=by
 obtain⟨A,ho,ar⟩:=vb ds vals hwl hpl hwt;have hO:aaQ (ie K s₁.heap A):=ahx ar;have hok:HOk P w (ie K s₁.heap A) s₁.heap:=akj ar;have hS:=aaV KX ar ds vals hwl hpl ho;have hV:=nV ho;have hK:∀ b u,ie K s₁.heap A b=some u→K.lookup b=none:=fun b u q=>(yP ar q).1;have noA:∀ {b:Addr} {o:Obj} {es:Array DictEntry} {ep:Nat},s₁.heap.get? b=some o→o.data = .dict es ep→ie K s₁.heap A b=none:=fun {b o es ep} e d=>by
  cases q:ie K s₁.heap A b with
  | none=>rfl
  | some u=>
   obtain⟨_,vs,_,_,⟨e2,_⟩|⟨e2,_⟩⟩:=yP ar q
   ·rw[e2] at e;cases e;have d':Data.seq vs.toArray _=Data.dict es ep:=d;cases d'
   ·rw[e2] at e;cases e;have d':Data.seq vs.toArray _=Data.dict es ep:=d;cases d'
 generalize ie K s₁.heap A=H at hO hok hS hK noA;have base_of:∀ {b:Addr} {o:Obj},s₁.heap.get? b=some o→H b=none→(vv s₁.heap H).get? b=some o:=fun e n=>ajh e n;have nsK:∀ {b:Addr} {m:Str→Option Value},s₁.heap.Ns b m→(vv s₁.heap H).Ns b m:=fun {b m} ⟨o,es,ep,e,d,r⟩=>⟨o,es,ep,base_of e (noA e d),d,r⟩;have nK:∀ b o,K.lookup b=some o→H b=none:=fun b o e=>by
  cases q:H b with
  | none=>rfl
  | some u=>
   rw[hK b u q] at e;cases e
 have hKb:K.In (vv s₁.heap H):=fun b o e=>base_of (KX b o e) (nK b o e);have hM:Mod K mg (vv s₁.heap H):=⟨hKb,nsK hns,⟨mb,nsK hb,hbb⟩,let ⟨mc,h1,h2⟩:=hlim;⟨mc,nsK h1,h2⟩⟩;have e0:zP P w K mg (vv s₁.heap H) callerA [] s₁ H:=⟨rfl,hM,fun b o e=>akF e,Nat.le_of_eq (ah2 _ _),trivial,fun b hb=>absurd (show b∈([]:List Addr) from hb) (by simp),hok,.of_eq hg⟩;have hl:vals.length=ps.length:=by rw[oo hwl];exact hlen
 refine codeAny_mono ((F _ hKb (nsK hns)).run callerA [] s₁ H ⟨vals,[]⟩ vals (vals.map toV) _ _ hr e0 (hbind s₁ vals hl) hV (hsp H _ hO hS)) fun r s' x=>?_;cases r with
 | error e=>exact(hCX H e s' x).elim
 | ok fl=>
  cases fl with
  | next=>exact False.elim x
  | brk=>exact False.elim x
  | cont=>exact False.elim x
  | ret u=>
   obtain⟨v,H',os,bare,un,hok',r',q⟩:=x;have kept:∀ b o,s₁.heap.get? b=some o→s'.heap.get? b=some o:=fun b o e=>by
    cases q2:H b with
    | none=>exact un.keep b o e q2 (by intro z;exact absurd (show b∈([]:List Addr) from z) (by simp)) (by simp)
    | some u2=>
     rcases hO b with z|⟨ob,u3,z⟩
     ·rw[q2] at z;cases z
     ·have z2:=un.qR b ob _ z;obtain⟨e1,_⟩:=hok b _ z;obtain⟨e2,_⟩:=hok' b _ z2;rw[e] at e1;cases e1;exact e2
   have KX':K.In s'.heap:=fun b o e=>kept b o (KX b o e);obtain⟨as,hrd⟩:=Dw.reads (R:=R) (cl:=cl) hok' KX' d0 v u q r';exact⟨u,as,rfl,hrd,OldK.of_keep kept,os,bare⟩
theorem ab9 {ds:List WData}(h:WData.layableAll ds=true):∀ d∈ds,d.weight≤1048576:=fun d hd=>
 (PySem.W.layableW_iff.mp (List.all_eq_true.mp h d hd)).2.2
theorem aaW:∀ (cs:List Codec) (a:Codec.denoteAll cs),(Codec.encAll cs a).length=cs.length
 | [],_=>rfl
 | c::cs,a=>by
  show(Codec.encAll cs a.2).length+1=cs.length+1;rw[aaW cs a.2]
theorem aiV {r:OpenSpec}{k:Nat}{q:Program}{loose:List Str}{XP:(Str→Option Value)→Heap→Prop}{YP:World→Heap→Prop}{d:DefRec}{K:Params→PySem.W.Frag}{CX:World→CXT}{ps:List Str}{sp:World→Sp}
  (hwell:r.wellSaid=true) (hdf:d.params.defaults = []) (hlen:r.args.length=ps.length) (hr:bh k callerA)
  (hY:∀ (w:World) (h:Heap),YP w h→(K w.params).In h)
  (F:∀ (w:World) (mg:Str→Option Value) (fa:Addr) (h:Heap),YP w h→(K w.params).In h→h.Ns mainGlobals mg→mg d.name=some (.ref fa) →
   ∃ fd:FuncData,(∀ (s:Shared) (us:List Value),us.length=ps.length→BindsTo s fd ⟨us,[]⟩ (ps.zip us)) ∧
    ∀ base:Heap,(K w.params).In base→base.Ns mainGlobals mg→aP r.prog w (K w.params) mg base (CX w) k fa fd ps (sp w))
  (hsp:∀ (w:World) (H:Hp) (xs:List V) (a:Codec.denoteAll r.args),aaQ H→Codec.withinAll r.args a=true→Codec.app r.args r.asked a=true→ky (K w.params) H xs (Codec.encAll r.args a) →
   sp w xs H (fun v H'=>Dw (K w.params) H' v (r.ret.enc (Codec.app r.args r.f a))) fun _ _ _=>False)
  (hCX:∀ (w:World) (H:Hp) (s:Shared) (e:Value) (s':Shared),CX w [] H s (fun _ _ _=>False) e s'→False) :
  PySem.W.WalkOS q loose XP YP r d [] (fun f vs=>PySem.call f vs):=by
 intro w s_0 s₁ mg mb G Y fa o pm cd doc dV kV ho hd hcd hD hmg hg args vals as hpre hlay hrd hwl hlo;obtain⟨a,e1,e2⟩:=PySem.W.os_pre_some hpre;obtain⟨e3,hwi⟩:=Codec.encAll_of_decAll r.args args a e1;subst e3;have KX:=hY w _ Y;obtain⟨fd,hb,hF⟩:=F w mg fa _ Y KX G.T.g hmg;refine PySem.W.enter_call (codeAny_mono (aiH (R:=[]) (cl:=classAt s_0.heap) (d0:=r.ret.enc (Codec.app r.args r.f a)) KX G.T.g G.T.b G.T.builtins G.T.nolimit hg hwl (acX _ _) (ab9 hlay) hr hF hb (by rw[aaW];exact hlen)
  (fun H xs hO hS=>hsp w H xs a hO hwi e2 hS) fun H e s'=>hCX w H s₁ e s') fun r' s' hq=>?_)
 obtain⟨u,as',rfl,h1,h2,h3,h4⟩:=hq;exact⟨.inl ⟨u,_,as',rfl,fun _=>rfl,h1,(OpenSpec.post_iff hwell hwi _ _).mpr rfl,fun z=>Bool.noConfusion (show false=true from z)⟩,h2,h3,h4⟩
theorem ahu {r:OpenSpec}{k:Nat}{q:Program}{loose:List Str}{XP:(Str→Option Value)→Heap→Prop}{YP:World→Heap→Prop}{d:DefRec}{K:Params→PySem.W.Frag}{CX:CXT}{ps:List Str}{sp:PySem.W.Frag→Sp}
  (hwell:r.wellSaid=true) (hdf:d.params.defaults = []) (hlen:r.args.length=ps.length) (hr:bh k callerA)
  (hY:∀ (w:World) (h:Heap),YP w h→(K w.params).In h)
  (F:∀ (w:World) (mg:Str→Option Value) (fa:Addr) (h:Heap),YP w h→(K w.params).In h→h.Ns mainGlobals mg→mg d.name=some (.ref fa) →
   ∃ fd:FuncData,(∀ (s:Shared) (us:List Value),us.length=ps.length→BindsTo s fd ⟨us,[]⟩ (ps.zip us)) ∧
    ∀ base:Heap,(K w.params).In base→base.Ns mainGlobals mg→aP r.prog w (K w.params) mg base CX k fa fd ps (sp (K w.params)))
  (hsp:∀ (K:PySem.W.Frag) (H:Hp) (xs:List V) (a:Codec.denoteAll r.args),aaQ H→Codec.withinAll r.args a=true→Codec.app r.args r.asked a=true→ky K H xs (Codec.encAll r.args a) →
   sp K xs H (fun v H'=>Dw K H' v (r.ret.enc (Codec.app r.args r.f a))) fun _ _ _=>False)
  (hCX:∀ (H:Hp) (s:Shared) (e:Value) (s':Shared),CX [] H s (fun _ _ _=>False) e s'→False) :
  PySem.W.WalkOS q loose XP YP r d [] (fun f vs=>PySem.call f vs):=
 aiV (K:=K) (CX:=fun _=>CX) (sp:=fun w=>sp (K w.params)) hwell hdf hlen hr hY F (fun w H xs a h1 h2 h3 h4=>hsp (K w.params) H xs a h1 h2 h3 h4) fun _ H s e s'=>hCX H s e s'
end L2
end
namespace Mt
open Vbexam
theorem bZ:∀ {l m:List Nat},l.Nodup→(∀ x∈l,x∈m)→l.length≤m.length
 | [],m,_,_=>Nat.zero_le _
 | a::l,m,hn,hs=>by
  have ha:a∈m:=hs a (List.mem_cons_self ..);have h1:=List.nodup_cons.mp hn;have ih:=bZ (l:=l) (m:=m.erase a) h1.2 (fun x hx=>by
   have hx':=hs x (List.mem_cons_of_mem _ hx);have ne:x≠a:=fun e=>h1.1 (e ▸ hx);exact(List.mem_erase_of_ne ne).mpr hx')
  have e:=List.length_erase_of_mem ha;have:0<m.length:=List.length_pos_of_mem ha;rw[e] at ih;rw[List.length_cons];omega
theorem lu {α β:Type}{f:α→β}:∀ {l:List α},l.Nodup→(∀ x∈l,∀ y∈l,f x=f y→x=y)→(l.map f).Nodup
 | [],_,_=>List.nodup_nil
 | a::l,hn,hi=>by
  have h1:=List.nodup_cons.mp hn;rw[List.map_cons];refine List.nodup_cons.mpr ⟨fun hm=>?_,lu h1.2 fun x hx y hy e=>hi x (List.mem_cons_of_mem _ hx) y (List.mem_cons_of_mem _ hy) e⟩;obtain⟨b,hb,e⟩:=List.mem_map.mp hm;exact h1.1 ((hi b (List.mem_cons_of_mem _ hb) a (List.mem_cons_self ..) e) ▸ hb)
structure Mg (g:Graph) (f:Nat→Option Nat):Prop where
 bu:∀ i j,f i=some j→i<g.length∧j∈g.getD i []
 inj:∀ i i' j,f i=some j→f i'=some j→i=i'
def dom (g:Graph) (f:Nat→Option Nat):List Nat:=(List.range g.length).filter fun i=>(f i).isSome
def dk (g:Graph) (f:Nat→Option Nat):Nat:=(dom g f).length
theorem ju {g:Graph}{f:Nat→Option Nat}:(dom g f).Nodup:=List.nodup_range.filter _
theorem a9 {g:Graph}{f:Nat→Option Nat}{i:Nat}:i∈dom g f↔i<g.length∧∃ j,f i=some j:=by
 unfold dom;rw[List.mem_filter,List.mem_range,Option.isSome_iff_exists]
structure ja (g:Graph) (k:Nat):Prop where
 some:∃ f,Mg g f∧dk g f=k
 most:∀ f,Mg g f→dk g f≤k
theorem ja.uniq {g:Graph}{k k':Nat}(h:ja g k) (h':ja g k'):k=k':=by
 obtain⟨f,hf,e⟩:=h.some;obtain⟨f',hf',e'⟩:=h'.some;have:=h'.most f hf;have:=h.most f' hf';omega
def taken (m:Match):List Nat:=(List.range m.length).filter fun c=>m.getD c 0 != 0
theorem hJ {m:Match}{c:Nat}:c∈taken m↔m.getD c 0≠0:=by
 unfold taken;rw[List.mem_filter,List.mem_range];constructor
 ·rintro⟨_,h⟩;simpa using h
 ·intro h;refine⟨?_,by simpa using h⟩;by_cases hc:c<m.length
  ·exact hc
  ·exact absurd (by simp[List.getD_eq_getElem?_getD,List.getElem?_eq_none (Nat.le_of_not_lt hc)]) h
theorem zL {m:Match}:(taken m).Nodup:=List.nodup_range.filter _
theorem vh:∀ (m:List Nat),((List.range m.length).filter fun c=>m.getD c 0 != 0).length=(m.filter fun x=>x != 0).length:=by
 intro m
 induction m with
 | nil=>rfl
 | cons a m ih=>
  rw[List.length_cons,List.range_succ_eq_map,List.filter_cons,List.filter_cons];have e:((List.map Nat.succ (List.range m.length)).filter fun c=>(a::m).getD c 0 != 0).length=(m.filter fun x=>x != 0).length:=by
   rw[List.filter_map,List.length_map,← ih];congr 1
  by_cases ha:a=0
  ·subst ha;simpa using e
  ·have h1:((a::m).getD 0 0 != 0)=true:=by simpa using ha
   have h2:(a != 0)=true:=by simpa using ha
   rw[if_pos h1,if_pos h2,List.length_cons,List.length_cons,e]
structure Good (g:Graph) (n:Nat) (m:Match):Prop where
 len:m.length=n
 bu:∀ c i,m.getD c 0=i+1→i<g.length∧c∈g.getD i []
 inj:∀ c c' i,m.getD c 0=i+1→m.getD c' 0=i+1→c=c'
def at_ (m:Match) (i:Nat):Option Nat:=(List.range m.length).find? fun c=>m.getD c 0 == i+1
theorem eK {m:Match}{i c:Nat}(h:at_ m i=some c):m.getD c 0=i+1:=by
 have:=List.find?_some h;simpa using this
theorem pU {m:Match}{c:Nat}(h:m.getD c 0≠0):c<m.length:=by
 by_cases hc:c<m.length
 ·exact hc
 ·exact absurd (by simp[List.getD_eq_getElem?_getD,List.getElem?_eq_none (Nat.le_of_not_lt hc)]) h
theorem qh {m:Match}{i c:Nat}(h:at_ m i=none):m.getD c 0≠i+1:=by
 intro e;have hc:c<m.length:=pU (by rw[e];exact Nat.succ_ne_zero _);have:=List.find?_eq_none.mp h c (List.mem_range.mpr hc);exact this (beq_iff_eq.mpr e)
theorem Good.aj3 {g:Graph}{n:Nat}{m:Match}(G:Good g n m) {c i:Nat}(h:m.getD c 0=i+1):at_ m i=some c:=by
 cases e:at_ m i with
 | none=>exact absurd h (qh e)
 | some c'=>rw[G.inj c' c i (eK e) h]
theorem Good.mg {g:Graph}{n:Nat}{m:Match}(G:Good g n m):Mg g (at_ m) where
 bu i j h:=G.bu j i (eK h)
 inj i i' j h h':=by
  have e1:=eK h;have e2:=eK h';omega
theorem Good.dk {g:Graph}{n:Nat}{m:Match}(G:Good g n m):dk g (at_ m)=(m.filter fun x=>x != 0).length:=by
 rw[← vh m];show(dom g (at_ m)).length=(taken m).length;apply Nat.le_antisymm
 ·have h:=bZ (l:=(dom g (at_ m)).map fun i=>(at_ m i).getD 0) (m:=taken m)
   (lu ju (fun x hx y hy e=>by
    obtain⟨_,jx,ex⟩:=a9.mp hx;obtain⟨_,jy,ey⟩:=a9.mp hy;rw[ex,ey] at e;have e':jx=jy:=e;subst e';exact G.mg.inj x y jx ex ey))
   (fun x hx=>by
    obtain⟨i,hi,e⟩:=List.mem_map.mp hx;obtain⟨_,j,ej⟩:=a9.mp hi;rw[ej] at e;have e':j=x:=e;subst e';exact hJ.mpr (by rw[eK ej];exact Nat.succ_ne_zero _))
  rwa [List.length_map] at h
 ·have h:=bZ (l:=(taken m).map fun c=>m.getD c 0-1) (m:=dom g (at_ m))
   (lu zL (fun x hx y hy e=>by
    have h1:=hJ.mp hx;have h2:=hJ.mp hy;have e1:m.getD x 0=(m.getD x 0-1)+1:=by omega
    have e2:m.getD y 0=(m.getD x 0-1)+1:=by
     have e:m.getD x 0-1=m.getD y 0-1:=e;omega
    exact G.inj x y _ e1 e2))
   (fun x hx=>by
    obtain⟨c,hc,e⟩:=List.mem_map.mp hx;have h1:=hJ.mp hc;have e:m.getD c 0-1=x:=e;have e1:m.getD c 0=x+1:=by omega
    exact a9.mpr ⟨(G.bu c x e1).1,c,G.aj3 e1⟩)
  rwa [List.length_map] at h
def aaO (g:Graph) (m:Match) (S:List Nat):Prop:=∀ c∈S,∃ i,m.getD c 0=i+1∧∀ d∈g.getD i [],d∈S
theorem afm {g:Graph}{m:Match}{S:List Nat}(C:aaO g m S)
  (F:∀ i,i<g.length→at_ m i=none→∀ d∈g.getD i [],d∈S) (f:Nat→Option Nat) (hf:Mg g f):dk g f≤(m.filter fun x=>x != 0).length:=by
 rw[← vh m];show(dom g f).length≤(taken m).length
 let phi:Nat→Nat:=fun i=>if(f i).getD 0∈S then (f i).getD 0 else (at_ m i).getD 0
 have out:∀ i j,f i=some j→¬ j∈S→∃ c,at_ m i=some c∧¬ c∈S:=by
  intro i j e hj;have he:=hf.bu i j e;cases ea:at_ m i with
  | none=>exact absurd (F i he.1 ea j he.2) hj
  | some c=>
   refine⟨c,rfl,fun hc=>hj ?_⟩;obtain⟨i',e',hi'⟩:=C c hc;have:i'=i:=by have:=eK ea;omega
   subst this;exact hi' j he.2
 have h:=bZ (l:=(dom g f).map phi) (m:=taken m)
  (lu ju (fun x hx y hy e=>by
   obtain⟨_,jx,ex⟩:=a9.mp hx;obtain⟨_,jy,ey⟩:=a9.mp hy;have e:(if(f x).getD 0∈S then (f x).getD 0 else (at_ m x).getD 0)=(if(f y).getD 0∈S then (f y).getD 0 else (at_ m y).getD 0):=e;rw[ex,ey] at e;simp only[Option.getD_some] at e;by_cases hx':jx∈S
   ·by_cases hy':jy∈S
    ·rw[if_pos hx',if_pos hy'] at e;subst e;exact hf.inj x y jx ex ey
    ·obtain⟨c,hc,hcS⟩:=out y jy ey hy';rw[if_pos hx',if_neg hy',hc] at e;have e:jx=c:=e;exact absurd (e ▸ hx') hcS
   ·obtain⟨c,hc,hcS⟩:=out x jx ex hx';by_cases hy':jy∈S
    ·rw[if_neg hx',if_pos hy',hc] at e;have e:c=jy:=e;exact absurd (e ▸ hy') hcS
    ·obtain⟨c',hc',_⟩:=out y jy ey hy';rw[if_neg hx',if_neg hy',hc,hc'] at e;have e:c=c':=e;subst e;have:=eK hc;have:=eK hc';omega))
  (fun x hx=>by
   obtain⟨i,hi,e⟩:=List.mem_map.mp hx;obtain⟨_,j,ej⟩:=a9.mp hi;have e:(if(f i).getD 0∈S then (f i).getD 0 else (at_ m i).getD 0)=x:=e;rw[ej] at e;simp only[Option.getD_some] at e;by_cases hj:j∈S
   ·rw[if_pos hj] at e;subst e;obtain⟨i',e',_⟩:=C j hj;exact hJ.mpr (by rw[e'];exact Nat.succ_ne_zero _)
   ·obtain⟨c,hc,_⟩:=out i j ej hj;rw[if_neg hj,hc] at e;have e:c=x:=e;subst e;exact hJ.mpr (by rw[eK hc];exact Nat.succ_ne_zero _))
 rwa [List.length_map] at h
theorem ng {m:Match}{c d v:Nat}:(m.set c v).getD d 0=if c=d∧c<m.length then v else m.getD d 0:=by
 rw[List.getD_eq_getElem?_getD,List.getD_eq_getElem?_getD,List.getElem?_set];by_cases h:c=d
 ·subst h;by_cases hl:c<m.length
  ·simp[hl]
  ·simp[hl]
 ·simp[h]
structure alk (g:Graph) (m:Match) (seen cands seen':List Nat):Prop where
 sub:∀ c∈seen,c∈seen'
 agz:∀ c∈cands,c∈seen'
 aaH:∀ c∈seen',c∈seen∨∃ i,m.getD c 0=i+1∧∀ d∈g.getD i [],d∈seen'
structure Done (g:Graph) (m:Match) (seen:List Nat) (i:Nat) (cands:List Nat) (m':Match):Prop where
 len:m'.length=m.length
 keep:∀ c∈seen,m'.getD c 0=m.getD c 0
 here:∃ c,c∈cands∧¬ c∈seen∧m'.getD c 0=i+1∧∀ d,m'.getD d 0=i+1→d=c∨d∈seen
 more:∃ c0,c0<m.length∧m.getD c0 0=0∧∀ d,m'.getD d 0≠0↔m.getD d 0≠0∨d=c0
 bu:∀ c x,m'.getD c 0=x+1→m.getD c 0=x+1∨(c∈g.getD x []∧x<g.length)∨(x=i∧c∈cands)
 inj:∀ c c' x,x≠i→m'.getD c 0=x+1→m'.getD c' 0=x+1→c=c'
 vals:∀ x,x≠i→((∃ c,m'.getD c 0=x+1)↔∃ c,m.getD c 0=x+1)
structure Ready (g:Graph) (n:Nat) (m:Match) (seen:List Nat) (i:Nat):Prop where
 len:m.length=n
 bu:∀ c x,m.getD c 0=x+1→x<g.length∧c∈g.getD x []
 inj:∀ c c' x,m.getD c 0=x+1→m.getD c' 0=x+1→c=c'
 here:∀ c,m.getD c 0=i+1→c∈seen
theorem l8 {g:Graph}{n L:Nat}(hg:∀ i,∀ c∈g.getD i [],c<n) (hL:∀ i,(g.getD i []).length≤L) :
  ∀ (k:Nat) (m:Match) (seen:List Nat) (i:Nat) (cands:List Nat),Ready g n m seen i→seen.Nodup→(∀ c∈seen,c<n)→(∀ c∈cands,c<n)→(n-seen.length)*(L+1)+cands.length+1≤k →
   ((augment g k m seen i cands).1=true→Done g m seen i cands (augment g k m seen i cands).2.1) ∧
   ((augment g k m seen i cands).1=false→(augment g k m seen i cands).2.1=m∧alk g m seen cands (augment g k m seen i cands).2.2) ∧
   (augment g k m seen i cands).2.2.Nodup∧(∀ c∈(augment g k m seen i cands).2.2,c<n)∧seen.length≤(augment g k m seen i cands).2.2.length
 | 0,m,seen,i,cands,_,_,_,_,hk=>by omega
 | k+1,m,seen,i,[],R,hn,hs,hc,hk=>by
  unfold augment;refine⟨fun h=>(Bool.noConfusion h),fun _=>⟨rfl,fun c hc=>hc,fun c hc=>(by cases hc),fun c hc=>Or.inl hc⟩,hn,hs,Nat.le_refl _⟩
 | k+1,m,seen,i,c::r,R,hn,hs,hc,hk=>by
  unfold augment;have hcn:c<n:=hc c (List.mem_cons_self ..);have hr:∀ d∈r,d<n:=fun d hd=>hc d (List.mem_cons_of_mem _ hd);have hk':(n-seen.length)*(L+1)+(r.length+1)+1≤k+1:=hk;by_cases h1:seen.contains c=true
  ·rw[if_pos h1];have hcs:c∈seen:=List.contains_iff_mem.mp h1;obtain⟨a1,a2,a3⟩:=l8 hg hL k m seen i r R hn hs hr (by omega);refine⟨fun h=>?_,fun h=>?_,a3⟩
   ·have D:=a1 h;obtain⟨e,he1,he2⟩:=D.here;exact⟨D.len,D.keep,⟨e,List.mem_cons_of_mem _ he1,he2⟩,D.more,fun c' x hx=>(D.bu c' x hx).imp_right (Or.imp_right (And.imp_right (List.mem_cons_of_mem _))),D.inj,D.vals⟩
   ·obtain⟨e,F⟩:=a2 h;refine⟨e,F.sub,fun d hd=>?_,F.aaH⟩;cases hd with
    | head=>exact F.sub c hcs
    | tail _ hd=>exact F.agz d hd
  ·rw[if_neg h1];have hcs:¬ c∈seen:=fun h=>h1 (List.contains_iff_mem.mpr h);have hn1:(c::seen).Nodup:=List.nodup_cons.mpr ⟨hcs,hn⟩;have hs1:∀ d∈c::seen,d<n:=fun d hd=>by
    cases hd with
    | head=>exact hcn
    | tail _ hd=>exact hs d hd
   have hlen:(c::seen).length≤n:=by
    have:=bZ (m:=List.range n) hn1 (fun x hx=>List.mem_range.mpr (hs1 x hx))
    rwa [List.length_range] at this
   rw[List.length_cons] at hlen;by_cases h2:m.getD c 0=0
   ·have e:(if m.getD c 0=0 then (true,m.set c (i+1),c::seen) else
     (if(augment g k m (c::seen) (m.getD c 0-1) (g.getD (m.getD c 0-1) [])).1=true then (true,(augment g k m (c::seen) (m.getD c 0-1) (g.getD (m.getD c 0-1) [])).2.1.set c (i+1),(augment g k m (c::seen) (m.getD c 0-1) (g.getD (m.getD c 0-1) [])).2.2) else augment g k (augment g k m (c::seen) (m.getD c 0-1) (g.getD (m.getD c 0-1) [])).2.1 (augment g k m (c::seen) (m.getD c 0-1) (g.getD (m.getD c 0-1) [])).2.2 i r))=(true,m.set c (i+1),c::seen):=if_pos h2
    simp only[e];have hcm:c<m.length:=by rw[R.len];exact hcn
    refine⟨fun _=>?_,fun h=>Bool.noConfusion h,hn1,hs1,by rw[List.length_cons];omega⟩;have gs:∀ d,(m.set c (i+1)).getD d 0=if c=d then i+1 else m.getD d 0:=fun d=>by
     rw[ng];by_cases h:c=d
     ·rw[if_pos ⟨h,hcm⟩,if_pos h]
     ·rw[if_neg (fun q=>h q.1),if_neg h]
    refine⟨List.length_set,fun d hd=>?_,⟨c,List.mem_cons_self ..,hcs,?_,fun d hd=>?_⟩,⟨c,hcm,h2,fun d=>?_⟩,fun d x hx=>?_,fun d d' x hxi hx hx'=>?_,fun x hxi=>?_⟩
    ·rw[gs,if_neg (fun (q:c=d)=>hcs (q ▸ hd))]
    ·rw[gs,if_pos rfl]
    ·rw[gs] at hd;by_cases h:c=d
     ·exact Or.inl h.symm
     ·rw[if_neg h] at hd;exact Or.inr (R.here d hd)
    ·rw[gs];by_cases h:c=d
     ·rw[if_pos h];exact⟨fun _=>Or.inr h.symm,fun _=>Nat.succ_ne_zero _⟩
     ·rw[if_neg h];exact⟨Or.inl,fun q=>q.elim id fun q=>absurd q.symm h⟩
    ·rw[gs] at hx;by_cases h:c=d
     ·rw[if_pos h] at hx;exact Or.inr (Or.inr ⟨by omega,h ▸ List.mem_cons_self ..⟩)
     ·rw[if_neg h] at hx;exact Or.inl hx
    ·rw[gs] at hx hx';by_cases h:c=d
     ·rw[if_pos h] at hx;omega
     ·by_cases h':c=d'
      ·rw[if_pos h'] at hx';omega
      ·rw[if_neg h] at hx;rw[if_neg h'] at hx';exact R.inj d d' x hx hx'
    ·constructor
     ·rintro⟨d,hd⟩;rw[gs] at hd;by_cases h:c=d
      ·rw[if_pos h] at hd;omega
      ·rw[if_neg h] at hd;exact⟨d,hd⟩
     ·rintro⟨d,hd⟩;refine⟨d,?_⟩;rw[gs,if_neg]
      ·exact hd
      ·intro h;rw[← h,h2] at hd;omega
   ·obtain⟨w,hw⟩:∃ w,m.getD c 0=w+1:=⟨m.getD c 0-1,by omega⟩;have hw1:m.getD c 0-1=w:=by omega
    simp only[if_neg h2,hw1];have Rw:Ready g n m (c::seen) w:=⟨R.len,R.bu,R.inj,fun d hd=>by
     rw[R.inj d c w hd hw];exact List.mem_cons_self ..⟩
    have mono:∀ (s:List Nat),seen.length+1≤s.length→(n-s.length)*(L+1)+(L+1)≤(n-seen.length)*(L+1):=by
     intro s h;have:n-s.length+1≤n-seen.length:=by omega
     calc (n-s.length)*(L+1)+(L+1)=(n-s.length+1)*(L+1):=by rw[Nat.succ_mul]
      _≤_:=Nat.mul_le_mul_right _ this
    have mk1:=mono (c::seen) (by rw[List.length_cons];omega);have hLw:=hL w;obtain⟨a1,a2,a3,a4,a5⟩:=l8 hg hL k m (c::seen) w (g.getD w []) Rw hn1 hs1 (hg w) (by omega);generalize hx:augment g k m (c::seen) w (g.getD w [])=x at a1 a2 a3 a4 a5 ⊢;rw[List.length_cons] at a5;by_cases h3:x.1=true
    ·simp only[if_pos h3];have D:=a1 h3;refine⟨fun _=>?_,fun h=>Bool.noConfusion h,a3,a4,by omega⟩;have hcm:c<x.2.1.length:=by rw[D.len,R.len];exact hcn
     have gs:∀ d,(x.2.1.set c (i+1)).getD d 0=if c=d then i+1 else x.2.1.getD d 0:=fun d=>by
      rw[ng];by_cases h:c=d
      ·rw[if_pos ⟨h,hcm⟩,if_pos h]
      ·rw[if_neg (fun q=>h q.1),if_neg h]
     have hiw:i≠w:=fun q=>hcs (R.here c (by rw[q];exact hw));have hxc:x.2.1.getD c 0=w+1:=by rw[D.keep c (List.mem_cons_self ..)];exact hw
     obtain⟨e,he1,he2,he3,he4⟩:=D.here;obtain⟨c0,hc0,hc1,hc2⟩:=D.more;refine⟨by rw[List.length_set];exact D.len,fun d hd=>?_,⟨c,List.mem_cons_self ..,hcs,?_,fun d hd=>?_⟩,⟨c0,hc0,hc1,fun d=>?_⟩,fun d y hy=>?_,fun d d' y hyi hy hy'=>?_,fun y hyi=>?_⟩
     ·rw[gs,if_neg (fun (q:c=d)=>hcs (q ▸ hd))];exact D.keep d (List.mem_cons_of_mem _ hd)
     ·rw[gs,if_pos rfl]
     ·rw[gs] at hd;by_cases h:c=d
      ·exact Or.inl h.symm
      ·rw[if_neg h] at hd;rcases D.bu d i hd with h'|h'|h'
       ·exact Or.inr (R.here d h')
       ·obtain⟨d2,hd2⟩:=(D.vals i hiw).mp ⟨d,hd⟩;have s2:=R.here d2 hd2;have k2:=D.keep d2 (List.mem_cons_of_mem _ s2);rw[hd2] at k2;exact Or.inr (D.inj d d2 i hiw hd k2 ▸ s2)
       ·exact absurd h'.1 hiw
     ·rw[gs];by_cases h:c=d
      ·rw[if_pos h];subst h;exact⟨fun _=>Or.inl h2,fun _=>Nat.succ_ne_zero _⟩
      ·rw[if_neg h];exact hc2 d
     ·rw[gs] at hy;by_cases h:c=d
      ·rw[if_pos h] at hy;exact Or.inr (Or.inr ⟨by omega,h ▸ List.mem_cons_self ..⟩)
      ·rw[if_neg h] at hy;rcases D.bu d y hy with h'|h'|h'
       ·exact Or.inl h'
       ·exact Or.inr (Or.inl h')
       ·rw[h'.1];exact Or.inr (Or.inl ⟨h'.2,(R.bu c w hw).1⟩)
     ·rw[gs] at hy hy';by_cases h:c=d
      ·rw[if_pos h] at hy;omega
      ·by_cases h':c=d'
       ·rw[if_pos h'] at hy';omega
       ·rw[if_neg h] at hy;rw[if_neg h'] at hy';by_cases hyw:y=w
        ·subst hyw;have one:∀ z,¬ c=z→x.2.1.getD z 0=y+1→z=e:=fun z hz hzy=>by
          rcases he4 z hzy with q|q
          ·exact q
          ·have kz:=D.keep z q;rw[hzy] at kz;exact absurd (R.inj c z y hw kz.symm) hz
         rw[one d h hy,one d' h' hy']
        ·exact D.inj d d' y hyw hy hy'
     ·constructor
      ·rintro⟨d,hd⟩;rw[gs] at hd;by_cases h:c=d
       ·rw[if_pos h] at hd;omega
       ·rw[if_neg h] at hd;by_cases hyw:y=w
        ·exact⟨c,by rw[hyw];exact hw⟩
        ·exact(D.vals y hyw).mp ⟨d,hd⟩
      ·rintro⟨d,hd⟩;by_cases hyw:y=w
       ·subst hyw;refine⟨e,?_⟩;rw[gs,if_neg]
        ·exact he3
        ·intro q;exact he2 (q ▸ List.mem_cons_self ..)
       ·obtain⟨d2,hd2⟩:=(D.vals y hyw).mpr ⟨d,hd⟩;refine⟨d2,?_⟩;rw[gs,if_neg]
        ·exact hd2
        ·intro q;rw[← q,hxc] at hd2;omega
    ·have h3':x.1=false:=by cases e:x.1 with|true=>exact absurd e h3|false=>rfl
     simp only[if_neg h3];obtain⟨em,F⟩:=a2 h3';rw[em];have mk2:=mono x.2.2 (by omega);have R2:Ready g n m x.2.2 i:=⟨R.len,R.bu,R.inj,fun d hd=>F.sub d (List.mem_cons_of_mem _ (R.here d hd))⟩;obtain⟨b1,b2,b3,b4,b5⟩:=l8 hg hL k m x.2.2 i r R2 a3 a4 hr (by omega);refine⟨fun h=>?_,fun h=>?_,b3,b4,by omega⟩
     ·have D:=b1 h;obtain⟨e,he1,he2,he3,he4⟩:=D.here;refine⟨D.len,fun d hd=>D.keep d (F.sub d (List.mem_cons_of_mem _ hd)),⟨e,List.mem_cons_of_mem _ he1,fun q=>he2 (F.sub e (List.mem_cons_of_mem _ q)),he3,fun d hd=>?_⟩,D.more,fun c' x hx=>(D.bu c' x hx).imp_right (Or.imp_right (And.imp_right (List.mem_cons_of_mem _))),D.inj,D.vals⟩;rcases he4 d hd with q|q
      ·exact Or.inl q
      ·have kd:=D.keep d q;rw[hd] at kd;exact Or.inr (R.here d kd.symm)
     ·obtain⟨e,F2⟩:=b2 h;refine⟨e,fun d hd=>F2.sub d (F.sub d (List.mem_cons_of_mem _ hd)),fun d hd=>?_,fun d hd=>?_⟩
      ·cases hd with
       | head=>exact F2.sub c (F.sub c (List.mem_cons_self ..))
       | tail _ hd=>exact F2.agz d hd
      ·rcases F2.aaH d hd with q|q
       ·rcases F.aaH d q with q'|⟨i',q1,q2⟩
        ·cases q' with
         | head=>exact Or.inr ⟨w,hw,fun z hz=>F2.sub z (F.agz z hz)⟩
         | tail _ q'=>exact Or.inl q'
        ·exact Or.inr ⟨i',q1,fun z hz=>F2.sub z (q2 z hz)⟩
       ·exact Or.inr q
theorem jK {g:Graph}{S:List Nat}:∀ (k:Nat) (m:Match) (seen:List Nat) (i:Nat) (cands:List Nat),aaO g m S→(∀ c∈S,c<m.length) →
  ((∀ c∈cands,c∈S)→(augment g k m seen i cands).1=false)∧(augment g k m seen i cands).2.1.length=m.length∧(∀ c∈S,(augment g k m seen i cands).2.1.getD c 0=m.getD c 0)
 | 0,m,seen,i,cands,C,hS=>by
  unfold augment;exact⟨fun _=>rfl,rfl,fun _ _=>rfl⟩
 | k+1,m,seen,i,[],C,hS=>by
  unfold augment;exact⟨fun _=>rfl,rfl,fun _ _=>rfl⟩
 | k+1,m,seen,i,c::r,C,hS=>by
  unfold augment;by_cases h1:seen.contains c=true
  ·rw[if_pos h1];obtain⟨a1,a2,a3⟩:=jK k m seen i r C hS;exact⟨fun h=>a1 fun d hd=>h d (List.mem_cons_of_mem _ hd),a2,a3⟩
  ·rw[if_neg h1];by_cases h2:m.getD c 0=0
   ·simp only[if_pos h2];have hcS:¬ c∈S:=fun h=>by
     obtain⟨i',e,_⟩:=C c h;omega
    refine⟨fun h=>absurd (h c (List.mem_cons_self ..)) hcS,List.length_set,fun d hd=>?_⟩;rw[ng,if_neg];rintro⟨q,_⟩;exact hcS (q ▸ hd)
   ·simp only[if_neg h2];obtain⟨a1,a2,a3⟩:=jK k m (c::seen) (m.getD c 0-1) (g.getD (m.getD c 0-1) []) C hS;generalize augment g k m (c::seen) (m.getD c 0-1) (g.getD (m.getD c 0-1) [])=x at a1 a2 a3 ⊢;have hin:c∈S→x.1=false:=fun h=>by
     obtain⟨i',e,hi'⟩:=C c h;have:m.getD c 0-1=i':=by omega
     rw[this] at a1;exact a1 hi'
    by_cases h3:x.1=true
    ·simp only[if_pos h3];have hcS:¬ c∈S:=fun h=>by
      rw[hin h] at h3;cases h3
     refine⟨fun h=>absurd (h c (List.mem_cons_self ..)) hcS,by rw[List.length_set];exact a2,fun d hd=>?_⟩;rw[ng,if_neg]
     ·exact a3 d hd
     ·rintro⟨q,_⟩;exact hcS (q ▸ hd)
    ·simp only[if_neg h3];have C2:aaO g x.2.1 S:=fun d hd=>by
      obtain⟨i',e,hi'⟩:=C d hd;exact⟨i',by rw[a3 d hd];exact e,hi'⟩
     obtain⟨b1,b2,b3⟩:=jK k x.2.1 x.2.2 i r C2 (fun d hd=>by rw[a2];exact hS d hd);exact⟨fun h=>b1 fun d hd=>h d (List.mem_cons_of_mem _ hd),by rw[b2,a2],fun d hd=>by rw[b3 d hd,a3 d hd]⟩
structure adL (g:Graph) (n k:Nat) (m:Match):Prop where
 good:Good g n m
 below:∀ c x,m.getD c 0=x+1→x<k
 aaH:∃ S,aaO g m S∧∀ i,i<k→at_ m i=none→∀ d∈g.getD i [],d∈S
theorem aiR {g:Graph}{n k:Nat}{m:Match}(hg:∀ i,∀ c∈g.getD i [],c<n) (hL:∀ i,(g.getD i []).length≤n) (hn:n≤10) (hk:k<g.length) (U:adL g n k m) :
  adL g n (k+1) (augment g FUEL m [] k (g.getD k [])).2.1:=by
 have R:Ready g n m [] k:=⟨U.good.len,U.good.bu,U.good.inj,fun c hc=>absurd (U.below c k hc) (Nat.lt_irrefl _)⟩;have fuel:(n-([]:List Nat).length)*(n+1)+(g.getD k []).length+1≤FUEL:=by
  have h1:=hL k;have h2:(n-0)*(n+1)≤10*11:=Nat.mul_le_mul (by omega) (by omega);show(n-0)*(n+1)+(g.getD k []).length+1≤400;omega
 obtain⟨a1,a2,a3,a4,_⟩:=l8 hg hL FUEL m [] k (g.getD k []) R List.nodup_nil (fun _ h=>by cases h) (hg k) fuel;obtain⟨S,C,F⟩:=U.aaH;have hS:∀ c∈S,c<m.length:=fun c hc=>by
  obtain⟨i,e,_⟩:=C c hc;exact pU (by omega)
 obtain⟨_,c2,c3⟩:=jK FUEL m [] k (g.getD k []) C hS;generalize augment g FUEL m [] k (g.getD k [])=x at a1 a2 a3 a4 c2 c3;cases h:x.1 with
 | true=>
  have D:=a1 h;have G':Good g n x.2.1:=by
   refine⟨D.len.trans U.good.len,fun c i e=>?_,fun c c' i e e'=>?_⟩
   ·rcases D.bu c i e with q|q|q
    ·exact U.good.bu c i q
    ·exact⟨q.2,q.1⟩
    ·rw[q.1];exact⟨hk,q.2⟩
   ·by_cases hi:i=k
    ·subst hi;obtain⟨z,_,_,_,hz⟩:=D.here;have one:=fun d (hd:x.2.1.getD d 0=i+1)=>(hz d hd).resolve_right (fun q=>by cases q);rw[one c e,one c' e']
    ·exact D.inj c c' i hi e e'
  refine⟨G',fun c y e=>?_,S,fun c hc=>?_,fun i hi ha d hd=>?_⟩
  ·by_cases hy:y=k
   ·omega
   ·obtain⟨d,hd⟩:=(D.vals y hy).mp ⟨c,e⟩;have:=U.below d y hd;omega
  ·obtain⟨i,e,hi⟩:=C c hc;exact⟨i,by rw[c3 c hc];exact e,hi⟩
  ·have hik:i≠k:=fun q=>by
    subst q;obtain⟨z,_,_,hz,_⟩:=D.here;exact qh ha hz
   refine F i (by omega) ?_ d hd;cases e:at_ m i with
   | none=>rfl
   | some c=>
    obtain⟨d',hd'⟩:=(D.vals i hik).mpr ⟨c,eK e⟩;exact absurd hd' (qh ha)
 | false=>
  obtain⟨em,Fl⟩:=a2 h;rw[em];refine⟨U.good,fun c y e=>Nat.lt_succ_of_lt (U.below c y e),S++x.2.2,fun c hc=>?_,fun i hi ha d hd=>?_⟩
  ·rcases List.mem_append.mp hc with q|q
   ·obtain⟨i,e,hi⟩:=C c q;exact⟨i,e,fun d hd=>List.mem_append_left _ (hi d hd)⟩
   ·rcases Fl.aaH c q with q'|⟨i,e,hi⟩
    ·cases q'
    ·exact⟨i,e,fun d hd=>List.mem_append_right _ (hi d hd)⟩
  ·by_cases hik:i=k
   ·subst hik;exact List.mem_append_right _ (Fl.agz d hd)
   ·exact List.mem_append_left _ (F i (by omega) ha d hd)
theorem t6 {n c:Nat}:(List.replicate n 0).getD c 0=0:=by
 rw[List.getD_eq_getElem?_getD,List.getElem?_replicate];by_cases h:c<n
 ·simp[h]
 ·simp[h]
structure Within (g:Graph) (n:Nat):Prop where
 few:n≤10
 lt:∀ i,∀ c∈g.getD i [],c<n
 nodup:∀ i,(g.getD i []).Nodup
theorem Within.len {g:Graph}{n:Nat}(W:Within g n) (i:Nat):(g.getD i []).length≤n:=by
 have:=bZ (m:=List.range n) (W.nodup i) (fun x hx=>List.mem_range.mpr (W.lt i x hx))
 rwa [List.length_range] at this
theorem yK {g:Graph}{n:Nat}(W:Within g n):∀ k,k≤g.length→adL g n k ((List.range k).foldl (fun m i=>(augment g FUEL m [] i (g.getD i [])).2.1) (List.replicate n 0))
 | 0,_=>by
  have z:∀ c,(List.replicate n 0).getD c 0=0:=fun c=>t6;show adL g n 0 (List.replicate n 0);refine⟨⟨List.length_replicate,fun c i e=>?_,fun c c' i e _=>?_⟩,fun c x e=>?_,[],fun c hc=>(by cases hc),fun i hi=>absurd hi (Nat.not_lt_zero _)⟩
  ·rw[z] at e;omega
  ·rw[z] at e;omega
  ·rw[z] at e;omega
 | k+1,h=>by
  rw[List.range_succ,List.foldl_append];exact aiR W.lt W.len W.few (by omega) (yK W k (by omega))
theorem rD {g:Graph}{n:Nat}(W:Within g n):adL g n g.length (matched g n):=yK W g.length (Nat.le_refl _)
theorem cT {g:Graph}{n:Nat}(W:Within g n):ja g (size g n):=by
 have U:=rD W;obtain⟨S,C,F⟩:=U.aaH;exact⟨⟨_,U.good.mg,U.good.dk⟩,fun f hf=>afm C F f hf⟩
structure c6 (g:Graph) (f:Nat→Option Nat):Prop where
 mg:Mg g f
 most:∀ h,Mg g h→dk g h≤dk g f
theorem ja.best {g:Graph}{k:Nat}(M:ja g k) {f:Nat→Option Nat}(hf:Mg g f) (e:dk g f=k):c6 g f:=⟨hf,fun h hh=>e ▸ M.most h hh⟩
theorem c6.max {g:Graph}{f:Nat→Option Nat}(B:c6 g f):ja g (dk g f):=⟨⟨f,B.mg,rfl⟩,B.most⟩
theorem c6.akn {g:Graph}{f h:Nat→Option Nat}(B:c6 g f) (B':c6 g h):dk g f=dk g h:=Nat.le_antisymm (B'.most f B.mg) (B.most h B'.mg)
theorem vd {g g':Graph}{f h:Nat→Option Nat}(phi:Nat→Nat) (inj:∀ x∈dom g f,∀ y∈dom g f,phi x=phi y→x=y) (into:∀ x∈dom g f,phi x∈dom g' h):dk g f≤dk g' h:=by
 have q:=bZ (l:=(dom g f).map phi) (m:=dom g' h) (lu ju inj) (fun x hx=>by
  obtain⟨i,hi,rfl⟩:=List.mem_map.mp hx;exact into i hi)
 rwa [List.length_map] at q
def turn (f:Nat→Option Nat) (u c i:Nat):Nat→Option Nat:=fun x=>if x=u then some c else if x=i then none else f x
theorem ac7 {g:Graph}{f:Nat→Option Nat}(B:c6 g f) {u c i:Nat}(hu:u<g.length) (fu:f u=none) (hc:c∈g.getD u []) (fi:f i=some c):c6 g (turn f u c i):=by
 have hiu:i≠u:=fun e=>by rw[e,fu] at fi;cases fi
 have M:Mg g (turn f u c i):=by
  refine⟨fun x j h=>?_,fun x x' j h h'=>?_⟩
  ·unfold turn at h;by_cases hx:x=u
   ·rw[if_pos hx] at h;cases h;exact hx ▸ ⟨hu,hc⟩
   ·rw[if_neg hx] at h;by_cases hx2:x=i
    ·rw[if_pos hx2] at h;cases h
    ·rw[if_neg hx2] at h;exact B.mg.bu x j h
  ·unfold turn at h h';by_cases hx:x=u
   ·rw[if_pos hx] at h;cases h;by_cases hx':x'=u
    ·rw[hx,hx']
    ·rw[if_neg hx'] at h';by_cases hx2:x'=i
     ·rw[if_pos hx2] at h';cases h'
     ·rw[if_neg hx2] at h';exact absurd (B.mg.inj x' i c h' fi) hx2
   ·rw[if_neg hx] at h;by_cases hx2:x=i
    ·rw[if_pos hx2] at h;cases h
    ·rw[if_neg hx2] at h;by_cases hx':x'=u
     ·rw[if_pos hx'] at h';cases h';exact absurd (B.mg.inj x i c h fi) hx2
     ·rw[if_neg hx'] at h';by_cases hx2':x'=i
      ·rw[if_pos hx2'] at h';cases h'
      ·rw[if_neg hx2'] at h';exact B.mg.inj x x' j h h'
 have le:dk g f≤dk g (turn f u c i):=by
  refine vd (fun x=>if x=i then u else x) (fun x hx y hy e=>?_) (fun x hx=>?_)
  ·have xu:x≠u:=fun q=>by
    obtain⟨_,j,ej⟩:=a9.mp hx;rw[q,fu] at ej;cases ej
   have yu:y≠u:=fun q=>by
    obtain⟨_,j,ej⟩:=a9.mp hy;rw[q,fu] at ej;cases ej
   have e:(if x=i then u else x)=(if y=i then u else y):=e;by_cases h1:x=i
   ·by_cases h2:y=i
    ·rw[h1,h2]
    ·rw[if_pos h1,if_neg h2] at e;exact absurd e.symm yu
   ·by_cases h2:y=i
    ·rw[if_neg h1,if_pos h2] at e;exact absurd e xu
    ·rwa [if_neg h1,if_neg h2] at e
  ·show(if x=i then u else x)∈_;obtain⟨hl,j,ej⟩:=a9.mp hx;by_cases h1:x=i
   ·rw[if_pos h1];exact a9.mpr ⟨hu,c,by unfold turn;rw[if_pos rfl]⟩
   ·rw[if_neg h1];refine a9.mpr ⟨hl,j,?_⟩;unfold turn;rw[if_neg (fun q=>by rw[q,fu] at ej;cases ej),if_neg h1];exact ej
 exact⟨M,fun h hh=>Nat.le_trans (B.most h hh) le⟩
def more (f:Nat→Option Nat) (u c:Nat):Nat→Option Nat:=fun x=>if x=u then some c else f x
theorem aaf {g:Graph}{f:Nat→Option Nat}(B:c6 g f) {u c:Nat}(hu:u<g.length) (fu:f u=none) (hc:c∈g.getD u []) (free:∀ x,f x≠some c):False:=by
 have M:Mg g (more f u c):=by
  refine⟨fun x j h=>?_,fun x x' j h h'=>?_⟩
  ·unfold more at h;by_cases hx:x=u
   ·rw[if_pos hx] at h;cases h;exact hx ▸ ⟨hu,hc⟩
   ·rw[if_neg hx] at h;exact B.mg.bu x j h
  ·unfold more at h h';by_cases hx:x=u
   ·rw[if_pos hx] at h;cases h;by_cases hx':x'=u
    ·rw[hx,hx']
    ·rw[if_neg hx'] at h';exact absurd h' (free x')
   ·rw[if_neg hx] at h;by_cases hx':x'=u
    ·rw[if_pos hx'] at h';cases h';exact absurd h (free x)
    ·rw[if_neg hx'] at h';exact B.mg.inj x x' j h h'
 have h1:=B.most _ M;have q:=bZ (l:=u::dom g f) (m:=dom g (more f u c)) (List.nodup_cons.mpr ⟨(fun h=>by
   obtain⟨_,j,ej⟩:=a9.mp h;rw[fu] at ej;cases ej),ju⟩) (fun x hx=>by
   by_cases e:x=u
   ·exact a9.mpr ⟨e ▸ hu,c,by unfold more;rw[if_pos e]⟩
   ·cases hx with
    | head=>exact absurd rfl e
    | tail _ hx=>
     obtain⟨hl,j,ej⟩:=a9.mp hx;exact a9.mpr ⟨hl,j,by unfold more;rw[if_neg e];exact ej⟩)
 rw[List.length_cons] at q;unfold dk at h1;omega
inductive cO (g:Graph) (f:Nat→Option Nat):Nat→Prop
 | free {i:Nat}:i<g.length→f i=none→cO g f i
 | step {i c i':Nat}:cO g f i→c∈g.getD i []→f i'=some c→cO g f i'
def CN (g:Graph) (f:Nat→Option Nat):Nat→Nat→Prop
 | 0,i=>i<g.length∧f i=none
 | k+1,i=>CN g f k i∨∃ i0 c,CN g f k i0∧c∈g.getD i0 []∧f i=some c
theorem cO.cn {g:Graph}{f:Nat→Option Nat}{i:Nat}(h:cO g f i):∃ k,CN g f k i:=by
 induction h with
 | free h1 h2=>exact⟨0,h1,h2⟩
 | step _ hc hf ih=>
  obtain⟨k,hk⟩:=ih;exact⟨k+1,Or.inr ⟨_,_,hk,hc,hf⟩⟩
theorem CN.lt {g:Graph}{f:Nat→Option Nat}(M:Mg g f):∀ {k i:Nat},CN g f k i→i<g.length
 | 0,_,h=>h.1
 | _+1,_,Or.inl h=>CN.lt M h
 | _+1,_,Or.inr ⟨_,_,_,_,h⟩=>(M.bu _ _ h).1
theorem cO.lt {g:Graph}{f:Nat→Option Nat}(M:Mg g f) {i:Nat}(h:cO g f i):i<g.length:=by
 obtain⟨k,hk⟩:=h.cn;exact CN.lt M hk
theorem yR {g:Graph}{f:Nat→Option Nat}(B:c6 g f):∀ (k i:Nat),CN g f k i→∃ h,c6 g h∧h i=none∧(∀ c,(∃ x,h x=some c)↔∃ x,f x=some c)∧∀ x,¬ CN g f k x→h x=f x
 | 0,i,hi=>⟨f,B,hi.2,fun _=>Iff.rfl,fun _ _=>rfl⟩
 | k+1,i,hi=>by
  by_cases hk:CN g f k i
  ·obtain⟨h,h1,h2,h3,h4⟩:=yR B k i hk;exact⟨h,h1,h2,h3,fun x hx=>h4 x fun q=>hx (Or.inl q)⟩
  ·obtain⟨i0,c,q0,qc,qf⟩:=hi.resolve_left hk;obtain⟨h,h1,h2,h3,h4⟩:=yR B k i0 q0;have hi':h i=some c:=(h4 i hk).trans qf;have hne:i≠i0:=fun e=>hk (e ▸ q0);refine⟨turn h i0 c i,ac7 h1 (CN.lt B.mg q0) h2 qc hi',?_,fun d=>?_,fun x hx=>?_⟩
   ·unfold turn;rw[if_neg hne,if_pos rfl]
   ·rw[← h3 d];constructor
    ·rintro⟨x,e⟩;unfold turn at e;by_cases hx:x=i0
     ·rw[if_pos hx] at e;cases e;exact⟨i,hi'⟩
     ·rw[if_neg hx] at e;by_cases hx2:x=i
      ·rw[if_pos hx2] at e;cases e
      ·rw[if_neg hx2] at e;exact⟨x,e⟩
    ·rintro⟨x,e⟩;by_cases hx:x=i
     ·rw[hx,hi'] at e;cases e;exact⟨i0,by unfold turn;rw[if_pos rfl]⟩
     ·refine⟨x,?_⟩;unfold turn;rw[if_neg (fun q=>by rw[q,h2] at e;cases e),if_neg hx];exact e
   ·unfold turn;rw[if_neg (fun (q:x=i0)=>hx (Or.inl (q ▸ q0))),if_neg (fun (q:x=i)=>hx (q ▸ hi))];exact h4 x fun q=>hx (Or.inl q)
theorem cO.left {g:Graph}{f:Nat→Option Nat}(B:c6 g f) {i:Nat}(h:cO g f i):∃ h,c6 g h∧h i=none:=by
 obtain⟨k,hk⟩:=h.cn;obtain⟨h,h1,h2,_⟩:=yR B k i hk;exact⟨h,h1,h2⟩
theorem cO.matched {g:Graph}{f:Nat→Option Nat}(B:c6 g f) {i c:Nat}(h:cO g f i) (hc:c∈g.getD i []):∃ x,f x=some c:=by
 obtain⟨k,hk⟩:=h.cn;obtain⟨h',h1,h2,h3,_⟩:=yR B k i hk;rw[← h3 c];refine Classical.byContradiction fun q=>aaf h1 (CN.lt B.mg hk) h2 hc fun x e=>q ⟨x,e⟩
theorem qJ {g:Graph}{f:Nat→Option Nat}(B:c6 g f) {i:Nat}:cO g f i↔i<g.length∧∃ h,c6 g h∧h i=none:=by
 refine⟨fun h=>⟨h.lt B.mg,h.left B⟩,?_⟩;rintro⟨hi,h,Bh,hn⟩;refine Classical.byContradiction fun nc=>?_;have mi:∃ j,f i=some j:=by
  cases e:f i with
  | none=>exact absurd (cO.free hi e) nc
  | some j=>exact⟨j,rfl⟩
 have who:∀ c,(∃ x,cO g f x∧c∈g.getD x [])→∃ y,f y=some c∧cO g f y:=fun c ⟨x,hx,hc⟩=>by
  obtain⟨y,hy⟩:=hx.matched B hc;exact⟨y,hy,cO.step hx hc hy⟩
 have ex:∀ x,∃ y,(∀ c,h x=some c→((∃ z,cO g f z∧c∈g.getD z [])→f y=some c∧cO g f y)∧(¬ (∃ z,cO g f z∧c∈g.getD z [])→y=x)):=fun x=>by
  cases e:h x with
  | none=>exact⟨0,fun c hc=>by cases hc⟩
  | some c=>
   by_cases hz:∃ z,cO g f z∧c∈g.getD z []
   ·obtain⟨y,h1,h2⟩:=who c hz;exact⟨y,fun c' hc'=>by cases hc';exact⟨fun _=>⟨h1,h2⟩,fun q=>absurd hz q⟩⟩
   ·exact⟨x,fun c' hc'=>by cases hc';exact⟨fun q=>absurd q hz,fun _=>rfl⟩⟩
 obtain⟨phi,hphi⟩:=Classical.axiomOfChoice ex;have q:=bZ (l:=i::(dom g h).map phi) (m:=dom g f) (List.nodup_cons.mpr ⟨fun hm=>?_,lu ju (fun x hx y hy e=>?_)⟩) (fun x hx=>?_)
 ·rw[List.length_cons,List.length_map] at q;have:=Bh.akn B;unfold dk at this;omega
 ·obtain⟨x,hx,e⟩:=List.mem_map.mp hm;obtain⟨_,c,ec⟩:=a9.mp hx;have p:=hphi x c ec;by_cases hz:∃ z,cO g f z∧c∈g.getD z []
  ·exact nc (e ▸ (p.1 hz).2)
  ·have:=p.2 hz;rw[e] at this;rw[← this,hn] at ec;cases ec
 ·obtain⟨_,c,ec⟩:=a9.mp hx;obtain⟨_,d,ed⟩:=a9.mp hy;have p:=hphi x c ec;have p':=hphi y d ed;by_cases hz:∃ z,cO g f z∧c∈g.getD z []
  ·by_cases hz':∃ z,cO g f z∧d∈g.getD z []
   ·have e1:=(p.1 hz).1;have e2:=(p'.1 hz').1;rw[e,e2] at e1;cases e1;exact Bh.mg.inj x y c ec ed
   ·have e1:=p'.2 hz';have e2:=(p.1 hz).2;rw[e,e1] at e2;exact absurd ⟨y,e2,(Bh.mg.bu y d ed).2⟩ hz'
  ·by_cases hz':∃ z,cO g f z∧d∈g.getD z []
   ·have e1:=p.2 hz;have e2:=(p'.1 hz').2;rw[← e,e1] at e2;exact absurd ⟨x,e2,(Bh.mg.bu x c ec).2⟩ hz
   ·rw[← p.2 hz,← p'.2 hz'];exact e
 ·cases hx with
  | head=>
   obtain⟨j,ej⟩:=mi;exact a9.mpr ⟨hi,j,ej⟩
  | tail _ hx=>
   obtain⟨x',hx',e⟩:=List.mem_map.mp hx;obtain⟨hl,c,ec⟩:=a9.mp hx';have p:=hphi x' c ec;by_cases hz:∃ z,cO g f z∧c∈g.getD z []
   ·have e1:=(p.1 hz).1;rw[e] at e1;exact a9.mpr ⟨(B.mg.bu _ _ e1).1,c,e1⟩
   ·have e1:=p.2 hz;rw[e] at e1;rw[e1];cases e2:f x' with
    | none=>exact absurd ⟨x',cO.free hl e2,(Bh.mg.bu x' c ec).2⟩ hz
    | some j=>exact a9.mpr ⟨hl,j,e2⟩
theorem getD_map {α β:Type}(f:α→β) (l:List α) (i:Nat) (a:α) (b:β) (e:f a=b):(l.map f).getD i b=f (l.getD i a):=by
 rw[List.getD_eq_getElem?_getD,List.getD_eq_getElem?_getD,List.getElem?_map];cases l[i]? with
 | none=>exact e.symm
 | some x=>rfl
theorem cD {g:Graph}{j:Nat}:(dropCode g j).length=g.length:=List.length_map _
theorem dg {g:Graph}{j x:Nat}:(dropCode g j).getD x []=(g.getD x []).filter fun c=>c != j:=getD_map _ g x [] [] rfl
theorem zO {g:Graph}{x:Nat}(F:List Nat×Nat→List Nat) (hF:∀ i,F ([],i) = []):(g.zipIdx.map F).getD x []=F (g.getD x [],x):=by
 rw[List.getD_eq_getElem?_getD,List.getD_eq_getElem?_getD,List.getElem?_map,List.getElem?_zipIdx];cases g[x]? with
 | none=>exact(hF x).symm
 | some l=>simp
theorem b6 {g:Graph}{i:Nat}:(dropFound g i).length=g.length:=by
 unfold dropFound;rw[List.length_map,List.length_zipIdx]
theorem cw {g:Graph}{i x:Nat}:(dropFound g i).getD x []=if x=i then[] else g.getD x []:=
 zO (fun y=>if y.2=i then[] else y.1) fun k=>by by_cases h:k=i <;> simp[h]
theorem gX {g:Graph}{i j:Nat}:(dropEdge g i j).length=g.length:=by
 unfold dropEdge;rw[List.length_map,List.length_zipIdx]
theorem gh {g:Graph}{i j x:Nat}:(dropEdge g i j).getD x []=if x=i then (g.getD x []).filter (fun c=>c != j) else g.getD x []:=
 zO (fun y=>if y.2=i then y.1.filter (fun c=>c != j) else y.1) fun k=>by by_cases h:k=i <;> simp[h]
theorem fS {l:List Nat}{j c:Nat}:c∈l.filter (fun c=>c != j)↔c∈l∧c≠j:=by
 rw[List.mem_filter];simp
theorem Within.code {g:Graph}{n:Nat}(W:Within g n) (j:Nat):Within (dropCode g j) n:=⟨W.few,fun i c hc=>by
 rw[dg] at hc;exact W.lt i c (fS.mp hc).1,fun i=>by
 rw[dg];exact(W.nodup i).filter _⟩
theorem Within.found {g:Graph}{n:Nat}(W:Within g n) (j:Nat):Within (dropFound g j) n:=⟨W.few,fun i c hc=>by
 rw[cw] at hc;by_cases h:i=j
 ·rw[if_pos h] at hc;cases hc
 ·rw[if_neg h] at hc;exact W.lt i c hc,fun i=>by
 rw[cw];by_cases h:i=j
 ·rw[if_pos h];exact List.nodup_nil
 ·rw[if_neg h];exact W.nodup i⟩
theorem Within.bu {g:Graph}{n:Nat}(W:Within g n) (k j:Nat):Within (dropEdge g k j) n:=⟨W.few,fun i c hc=>by
 rw[gh] at hc;by_cases h:i=k
 ·rw[if_pos h] at hc;exact W.lt i c (fS.mp hc).1
 ·rw[if_neg h] at hc;exact W.lt i c hc,fun i=>by
 rw[gh];by_cases h:i=k
 ·rw[if_pos h];exact(W.nodup i).filter _
 ·rw[if_neg h];exact W.nodup i⟩
theorem dA {g g':Graph}(e:g'.length=g.length) (f:Nat→Option Nat):dk g' f=dk g f:=by
 unfold dk dom;rw[e]
theorem Mg.part {g g':Graph}{f:Nat→Option Nat}(M:Mg g' f) (e:g'.length=g.length) (s:∀ i c,c∈g'.getD i []→c∈g.getD i []):Mg g f:=
 ⟨fun i j h=>⟨e ▸ (M.bu i j h).1,s i j (M.bu i j h).2⟩,M.inj⟩
theorem acd {g:Graph}{j:Nat}{f:Nat→Option Nat}:Mg (dropCode g j) f↔Mg g f∧∀ i,f i≠some j:=by
 constructor
 ·intro M;refine⟨M.part cD fun i c h=>?_,fun i h=>?_⟩
  ·rw[dg] at h;exact(fS.mp h).1
  ·have:=(M.bu i j h).2;rw[dg] at this;exact(fS.mp this).2 rfl
 ·rintro⟨M,hj⟩;refine⟨fun i c h=>⟨(by rw[cD];exact(M.bu i c h).1),?_⟩,M.inj⟩;rw[dg];exact fS.mpr ⟨(M.bu i c h).2,fun e=>hj i (e ▸ h)⟩
theorem nq {g:Graph}{k:Nat}{f:Nat→Option Nat}:Mg (dropFound g k) f↔Mg g f∧f k=none:=by
 constructor
 ·intro M;refine⟨M.part b6 fun i c h=>?_,?_⟩
  ·rw[cw] at h;by_cases e:i=k
   ·rw[if_pos e] at h;cases h
   ·rwa [if_neg e] at h
  ·cases e:f k with
   | none=>rfl
   | some j=>
    have:=(M.bu k j e).2;rw[cw,if_pos rfl] at this;cases this
 ·rintro⟨M,hk⟩;refine⟨fun i c h=>⟨(by rw[b6];exact(M.bu i c h).1),?_⟩,M.inj⟩;rw[cw,if_neg (fun e=>by rw[e,hk] at h;cases h)];exact(M.bu i c h).2
theorem af8 {g:Graph}{k j:Nat}{f:Nat→Option Nat}:Mg (dropEdge g k j) f↔Mg g f∧f k≠some j:=by
 constructor
 ·intro M;refine⟨M.part gX fun i c h=>?_,fun h=>?_⟩
  ·rw[gh] at h;by_cases e:i=k
   ·rw[if_pos e] at h;exact(fS.mp h).1
   ·rwa [if_neg e] at h
  ·have:=(M.bu k j h).2;rw[gh,if_pos rfl] at this;exact(fS.mp this).2 rfl
 ·rintro⟨M,hk⟩;refine⟨fun i c h=>⟨(by rw[gX];exact(M.bu i c h).1),?_⟩,M.inj⟩;rw[gh];by_cases e:i=k
  ·rw[if_pos e];exact fS.mpr ⟨(M.bu i c h).2,fun q=>hk (by rw[← e,h,q])⟩
  ·rw[if_neg e];exact(M.bu i c h).2
def less (f:Nat→Option Nat) (i:Nat):Nat→Option Nat:=fun x=>if x=i then none else f x
theorem af9 {g:Graph}{f:Nat→Option Nat}(M:Mg g f) (i:Nat):Mg g (less f i):=by
 refine⟨fun x j h=>?_,fun x y j h h'=>?_⟩
 ·unfold less at h;by_cases e:x=i
  ·rw[if_pos e] at h;cases h
  ·rw[if_neg e] at h;exact M.bu x j h
 ·unfold less at h h';by_cases e:x=i
  ·rw[if_pos e] at h;cases h
  ·rw[if_neg e] at h;by_cases e':y=i
   ·rw[if_pos e'] at h';cases h'
   ·rw[if_neg e'] at h';exact M.inj x y j h h'
theorem rM {g:Graph}{f:Nat→Option Nat}{u c:Nat}(hu:u<g.length) (fu:f u=none):dk g (more f u c)=dk g f+1:=by
 apply Nat.le_antisymm
 ·have q:=bZ (l:=dom g (more f u c)) (m:=u::dom g f) ju (fun x hx=>by
   obtain⟨hl,j,ej⟩:=a9.mp hx;unfold more at ej;by_cases e:x=u
   ·exact e ▸ List.mem_cons_self ..
   ·rw[if_neg e] at ej;exact List.mem_cons_of_mem _ (a9.mpr ⟨hl,j,ej⟩))
  exact q
 ·have q:=bZ (l:=u::dom g f) (m:=dom g (more f u c)) (List.nodup_cons.mpr ⟨(fun h=>by
   obtain⟨_,j,ej⟩:=a9.mp h;rw[fu] at ej;cases ej),ju⟩) (fun x hx=>by
   by_cases e:x=u
   ·exact a9.mpr ⟨e ▸ hu,c,by unfold more;rw[if_pos e]⟩
   ·cases hx with
    | head=>exact absurd rfl e
    | tail _ hx=>
     obtain⟨hl,j,ej⟩:=a9.mp hx;exact a9.mpr ⟨hl,j,by unfold more;rw[if_neg e];exact ej⟩)
  exact q
theorem acU {f:Nat→Option Nat}{i j:Nat}(h:f i=some j):more (less f i) i j=f:=by
 funext x;unfold more less;by_cases e:x=i
 ·rw[if_pos e,e,h]
 ·rw[if_neg e,if_neg e]
theorem oy {f:Nat→Option Nat}{i:Nat}:less f i i=none:=if_pos rfl
theorem aga {g:Graph}{f:Nat→Option Nat}(M:Mg g f) {u c:Nat}(hu:u<g.length) (hc:c∈g.getD u []) (fu:f u=none) (free:∀ x,f x≠some c):Mg g (more f u c):=by
 refine⟨fun x j h=>?_,fun x x' j h h'=>?_⟩
 ·unfold more at h;by_cases hx:x=u
  ·rw[if_pos hx] at h;cases h;exact hx ▸ ⟨hu,hc⟩
  ·rw[if_neg hx] at h;exact M.bu x j h
 ·unfold more at h h';by_cases hx:x=u
  ·rw[if_pos hx] at h;cases h;by_cases hx':x'=u
   ·rw[hx,hx']
   ·rw[if_neg hx'] at h';exact absurd h' (free x')
  ·rw[if_neg hx] at h;by_cases hx':x'=u
   ·rw[if_pos hx'] at h';cases h';exact absurd h (free x)
   ·rw[if_neg hx'] at h';exact M.inj x x' j h h'
theorem agb {g:Graph}{f:Nat→Option Nat}{i j:Nat}(M:Mg g f) (h:f i=some j):Mg (dropCode (dropFound g i) j) (less f i)∧dk g f=dk g (less f i)+1:=by
 refine⟨acd.mpr ⟨nq.mpr ⟨af9 M i,oy⟩,fun x e=>?_⟩,?_⟩
 ·unfold less at e;by_cases q:x=i
  ·rw[if_pos q] at e;cases e
  ·rw[if_neg q] at e;exact q (M.inj x i j e h)
 ·have:=rM (g:=g) (f:=less f i) (u:=i) (c:=j) (M.bu i j h).1 oy
  rwa [acU h] at this
theorem ace {g:Graph}{f:Nat→Option Nat}{i j:Nat}(hi:i<g.length) (hj:j∈g.getD i []) (M:Mg (dropCode (dropFound g i) j) f):Mg g (more f i j)∧dk g (more f i j)=dk g f+1:=by
 obtain⟨M1,hf⟩:=acd.mp M;obtain⟨M2,fi⟩:=nq.mp M1;exact⟨aga M2 hi hj fi hf,rM hi fi⟩
theorem m8 {g:Graph}{i j:Nat}:(dropCode (dropFound g i) j).length=g.length:=cD.trans b6
theorem yX {g:Graph}{i j s t:Nat}(hi:i<g.length) (hj:j∈g.getD i []) (S:ja g s) (T:ja (dropCode (dropFound g i) j) t):1+t=s↔∃ f,c6 g f∧f i=some j:=by
 constructor
 ·intro e;obtain⟨f,hf,cf⟩:=T.some;obtain⟨M,c⟩:=ace hi hj hf;rw[dA m8] at cf;exact⟨more f i j,S.best M (by omega),by unfold more;rw[if_pos rfl]⟩
 ·rintro⟨f,B,h⟩;obtain⟨M,c⟩:=agb B.mg h;have h1:=T.most _ M;rw[dA m8] at h1;have h2:=B.max.uniq S;obtain⟨f',hf',cf'⟩:=T.some;obtain⟨M',c'⟩:=ace hi hj hf';rw[dA m8] at cf';have h3:=S.most _ M';omega
theorem ai2 {g g':Graph}{s t:Nat}(e:g'.length=g.length) (p:(Nat→Option Nat)→Prop) (hp:∀ f,Mg g' f↔Mg g f∧¬ p f) (S:ja g s) (T:ja g' t):t≠s↔∀ f,c6 g f→p f:=by
 constructor
 ·intro h f B;refine Classical.byContradiction fun q=>h ?_;have M:=(hp f).mpr ⟨B.mg,q⟩;have h1:=T.most f M;rw[dA e] at h1;have h2:=B.max.uniq S;obtain⟨f',hf',cf'⟩:=T.some;rw[dA e] at cf';have h3:=S.most f' ((hp f').mp hf').1;omega
 ·intro h q;obtain⟨f',hf',cf'⟩:=T.some;rw[dA e] at cf';obtain⟨M,np⟩:=(hp f').mp hf';exact np (h f' (S.best M (cf'.trans q)))
theorem aiK {g:Graph}{n:Nat}(W:Within g n) (i j:Nat):size (dropEdge g i j) n≠size g n↔∀ f,c6 g f→f i=some j:=
 ai2 gX (fun f=>f i=some j) (fun _=>af8) (cT W) (cT (W.bu i j))
theorem vz {g:Graph}{n:Nat}(W:Within g n) (i j:Nat) (hi:i<g.length):may g n i j=true↔∃ f,c6 g f∧f i=some j:=by
 unfold may;rw[Bool.and_eq_true,List.contains_iff_mem,beq_iff_eq];constructor
 ·rintro⟨hj,e⟩;exact(yX hi hj (cT W) (cT ((W.found i).code j))).mp e
 ·rintro⟨f,B,h⟩;have hj:=(B.mg.bu i j h).2;exact⟨hj,(yX hi hj (cT W) (cT ((W.found i).code j))).mpr ⟨f,B,h⟩⟩
theorem aet {g:Graph}{n:Nat}(W:Within g n) (j:Nat):(!((List.range g.length).any fun i=>may g n i j))=true↔∀ f,c6 g f→∀ i,f i≠some j:=by
 rw[Bool.not_eq_true',← Bool.not_eq_true,List.any_eq_true];constructor
 ·intro h f B i e;have hi:=(B.mg.bu i j e).1;exact h ⟨i,List.mem_range.mpr hi,(vz W i j hi).mpr ⟨f,B,e⟩⟩
 ·rintro h ⟨i,hi,e⟩;obtain⟨f,B,q⟩:=(vz W i j (List.mem_range.mp hi)).mp e;exact h f B i q
theorem ad8 {g:Graph}{n:Nat}(W:Within g n) (i:Nat) (hi:i<g.length):(!((g.getD i []).any fun j=>may g n i j))=true↔∀ f,c6 g f→f i=none:=by
 rw[Bool.not_eq_true',← Bool.not_eq_true,List.any_eq_true];constructor
 ·intro h f B;cases e:f i with
  | none=>rfl
  | some j=>exact absurd ⟨j,(B.mg.bu i j e).2,(vz W i j hi).mpr ⟨f,B,e⟩⟩ h
 ·rintro h ⟨j,hj,e⟩;obtain⟨f,B,q⟩:=(vz W i j hi).mp e;rw[h f B] at q;cases q
def before:Option Nat→Option Nat→Prop
 | some j,some j'=>j≤j'
 | none,some _=>False
 | _,none=>True
def code:Option Nat→Nat
 | none=>0
 | some j=>j+1
def Lex (g:Graph) (is:List Nat) (f:Nat→Option Nat):Prop:=∀ a i b,is=a++i::b→∀ h,c6 g h→(∀ x∈a,h x=f x)→before (f i) (h i)
theorem agF {l:List Nat}{p:Nat→Bool}{j j':Nat}(hs:l.Pairwise (· < ·)) (h:l.find? p=some j) (hj:j'∈l) (pj:p j'=true):j≤j':=by
 induction l with
 | nil=>cases hj
 | cons a l ih=>
  have hs':=List.pairwise_cons.mp hs;by_cases pa:p a=true
  ·rw[List.find?_cons_of_pos pa] at h;cases h;cases hj with
   | head=>exact Nat.le_refl _
   | tail _ hj=>exact Nat.le_of_lt (hs'.1 j' hj)
  ·rw[List.find?_cons_of_neg pa] at h;cases hj with
   | head=>exact absurd pj pa
   | tail _ hj=>exact ih hs'.2 h hj
theorem vi {n:Nat}:∀ (is:List Nat) (g:Graph) (best:Nat),Within g n→(∀ i,(g.getD i []).Pairwise (· < ·))→ja g best→is.Nodup→(∀ i∈is,i<g.length)→(∀ x,¬ x∈is→g.getD x [] = []) →
  ∃ f,c6 g f∧first n g best is=is.map (fun i=>code (f i))∧Lex g is f
 | [],g,best,W,hs,S,_,_,hx=>by
  obtain⟨f,M,c⟩:=S.some;refine⟨f,S.best M c,rfl,fun a i b e=>?_⟩;cases a <;> cases e
 | i::r,g,best,W,hs,S,nd,hl,hx=>by
  have hi:=hl i (List.mem_cons_self ..);have nd':=List.nodup_cons.mp nd;unfold first
  cases e:(g.getD i []).find? fun j=>1+size (dropCode (dropFound g i) j) n == best with
  | some j=>
   simp only;have hj:=List.mem_of_find?_eq_some e;have pj:1+size (dropCode (dropFound g i) j) n=best:=by
    have:=List.find?_some e;simpa using this
   have W':=(W.found i).code j;have S':ja (dropCode (dropFound g i) j) (best-1):=by
    have:=cT W';have q:best-1=size (dropCode (dropFound g i) j) n:=by omega
    rwa [q]
   have gd:∀ x,(dropCode (dropFound g i) j).getD x []=(if x=i then[] else g.getD x []).filter fun c=>c != j:=fun x=>by rw[dg,cw]
   obtain⟨f,B,ef,L⟩:=vi r (dropCode (dropFound g i) j) (best-1) W' (fun x=>by
     rw[gd];by_cases q:x=i
     ·rw[if_pos q];exact List.Pairwise.nil
     ·rw[if_neg q];exact(hs x).filter _) S' nd'.2 (fun x hx=>by rw[m8];exact hl x (List.mem_cons_of_mem _ hx)) (fun x hxr=>by
     rw[gd];by_cases q:x=i
     ·rw[if_pos q];rfl
     ·rw[if_neg q,hx x (fun m=>by cases m with|head=>exact q rfl|tail _ m=>exact hxr m)];rfl)
   obtain⟨M,c⟩:=ace hi hj B.mg;have cf:=B.max.uniq S';rw[dA m8] at cf;have BM:c6 g (more f i j):=S.best M (by omega);have mi:more f i j i=some j:=if_pos rfl;have mr:∀ x,x≠i→more f i j x=f x:=fun x q=>if_neg q;refine⟨more f i j,BM,?_,?_⟩
   ·rw[List.map_cons,ef,mi];show(j+1)::_=(j+1)::_;congr 1;refine List.map_congr_left fun x hx=>?_;rw[mr x fun q=>nd'.1 (q ▸ hx)]
   ·intro a y b ey h Bh ag;cases a with
    | nil=>
     cases ey;rw[mi];cases eh:h i with
     | none=>exact True.intro
     | some j'=>
      show j≤j';have hj':=(Bh.mg.bu i j' eh).2;refine agF (hs i) e hj' ?_;rw[beq_iff_eq];exact(yX hi hj' S (cT ((W.found i).code j'))).mpr ⟨h,Bh,eh⟩
    | cons a0 a=>
     cases ey;have hii:h i=some j:=(ag i (List.mem_cons_self ..)).trans mi;obtain⟨Mh,ch⟩:=agb Bh.mg hii;have ceq:=Bh.max.uniq S;have Bl:c6 (dropCode (dropFound g i) j) (less h i):=S'.best Mh (by rw[dA m8];omega);have hyr:y∈a++y::b:=List.mem_append_right _ (List.mem_cons_self ..);have yi:y≠i:=fun q=>nd'.1 (q ▸ hyr);have:=L a y b rfl (less h i) Bl (fun x hx=>by
      have xi:x≠i:=fun q=>nd'.1 (q ▸ List.mem_append_left _ hx);show(if x=i then none else h x)=f x;rw[if_neg xi,ag x (List.mem_cons_of_mem _ hx),mr x xi])
     rw[mr y yi];have el:less h i y=h y:=if_neg yi
     rwa [el] at this
  | none=>
   simp only;have no:∀ h,c6 g h→h i=none:=fun h Bh=>by
    cases eh:h i with
    | none=>rfl
    | some j'=>
     have hj':=(Bh.mg.bu i j' eh).2;have q:=List.find?_eq_none.mp e j' hj';exact absurd (beq_iff_eq.mpr ((yX hi hj' S (cT ((W.found i).code j'))).mpr ⟨h,Bh,eh⟩)) q
   have W':=W.found i;have S':ja (dropFound g i) best:=by
    obtain⟨f,M,c⟩:=S.some;have B:=S.best M c;refine⟨⟨f,nq.mpr ⟨M,no f B⟩,by rw[dA b6];exact c⟩,fun h Mh=>?_⟩;rw[dA b6];exact S.most h (nq.mp Mh).1
   obtain⟨f,B,ef,L⟩:=vi r (dropFound g i) best W' (fun x=>by
     rw[cw];by_cases q:x=i
     ·rw[if_pos q];exact List.Pairwise.nil
     ·rw[if_neg q];exact hs x) S' nd'.2 (fun x hx=>by rw[b6];exact hl x (List.mem_cons_of_mem _ hx)) (fun x hxr=>by
     rw[cw];by_cases q:x=i
     ·rw[if_pos q]
     ·rw[if_neg q,hx x (fun m=>by cases m with|head=>exact q rfl|tail _ m=>exact hxr m)])
   obtain⟨M,fi⟩:=nq.mp B.mg;have cf:=B.max.uniq S';rw[dA b6] at cf;have BM:c6 g f:=S.best M cf;refine⟨f,BM,?_,?_⟩
   ·rw[List.map_cons,ef,fi];rfl
   ·intro a y b ey h Bh ag;cases a with
    | nil=>
     cases ey;rw[no h Bh];cases f i <;> exact True.intro
    | cons a0 a=>
     cases ey;have ceq:=Bh.max.uniq S;exact L a y b rfl h (S'.best (nq.mpr ⟨Bh.mg,no h Bh⟩) (by rw[dA b6];exact ceq)) (fun x hx=>ag x (List.mem_cons_of_mem _ hx))
theorem aa9 {g:Graph}{n:Nat}(W:Within g n) (hs:∀ i,(g.getD i []).Pairwise (· < ·)):∃ f,c6 g f∧firstMatch g n=(List.range g.length).map (fun i=>code (f i))∧Lex g (List.range g.length) f:=
 vi (List.range g.length) g (size g n) W hs (cT W) List.nodup_range (fun i hi=>List.mem_range.mp hi) (fun x hx=>by
  have h:g.length≤x:=Nat.le_of_not_lt fun q=>hx (List.mem_range.mpr q);rw[List.getD_eq_getElem?_getD,List.getElem?_eq_none h];rfl)
def adds (cs l:List Nat):List Nat:=l.foldl (fun l c=>if l.contains c=true then l else l++[c]) cs
theorem rH {cs l:List Nat}{c:Nat}:adds cs (c::l)=adds (if cs.contains c=true then cs else cs++[c]) l:=rfl
theorem aad {x:Nat}:∀ {l cs:List Nat},x∈adds cs l↔x∈cs∨x∈l
 | [],cs=>by
  show x∈cs↔_;simp
 | c::l,cs=>by
  rw[rH,aad];by_cases h:cs.contains c=true
  ·rw[if_pos h,List.mem_cons];have hc:=List.contains_iff_mem.mp h;constructor
   ·rintro (q|q)
    ·exact Or.inl q
    ·exact Or.inr (Or.inr q)
   ·rintro (q|q|q)
    ·exact Or.inl q
    ·exact Or.inl (q ▸ hc)
    ·exact Or.inr q
  ·rw[if_neg h,List.mem_append,List.mem_singleton,List.mem_cons,or_assoc]
theorem va:∀ {l cs:List Nat},cs.Nodup→(adds cs l).Nodup
 | [],_,h=>h
 | c::l,cs,h=>by
  rw[rH];by_cases q:cs.contains c=true
  ·rw[if_pos q];exact va h
  ·rw[if_neg q];refine va (List.nodup_append.mpr ⟨h,List.nodup_cons.mpr ⟨List.not_mem_nil,List.nodup_nil⟩,fun a ha b hb e=>?_⟩);rw[List.mem_singleton] at hb;exact q (List.contains_iff_mem.mpr (by rw[← hb,← e];exact ha))
theorem zZ:∀ {l cs:List Nat},∃ r,adds cs l=cs++r
 | [],cs=>⟨[],(List.append_nil _).symm⟩
 | c::l,cs=>by
  rw[rH];by_cases q:cs.contains c=true
  ·rw[if_pos q];exact zZ
  ·rw[if_neg q];obtain⟨r,e⟩:=zZ (l:=l) (cs:=cs++[c]);exact⟨c::r,by rw[e,List.append_assoc];rfl⟩
theorem abY:∀ {l cs:List Nat},(∀ x∈l,x∈cs)→adds cs l=cs
 | [],_,_=>rfl
 | c::l,cs,h=>by
  rw[rH,if_pos (List.contains_iff_mem.mpr (h c (List.mem_cons_self ..)))];exact abY fun x hx=>h x (List.mem_cons_of_mem _ hx)
def om (g:Graph) (fs cs:List Nat):List Nat:=adds cs (fs.flatMap fun i=>g.getD i [])
def vX (m:Match) (fs more:List Nat):List Nat:=adds fs (more.flatMap fun c=>if m.getD c 0=0 then[] else[m.getD c 0-1])
theorem p6 {g:Graph}{m:Match}{k:Nat}{fs cs:List Nat}:reach g m (k+1) fs cs=reach g m k (vX m fs (om g fs cs)) (om g fs cs):=rfl
theorem acT {g:Graph}{fs cs:List Nat}{c:Nat}:c∈om g fs cs↔c∈cs∨∃ i∈fs,c∈g.getD i []:=by
 unfold om;rw[aad,List.mem_flatMap]
theorem sv {m:Match}{fs more:List Nat}{i:Nat}:i∈vX m fs more↔i∈fs∨∃ c∈more,m.getD c 0=i+1:=by
 unfold vX;rw[aad,List.mem_flatMap];refine or_congr_right ⟨?_,?_⟩
 ·rintro⟨c,hc,h⟩;by_cases e:m.getD c 0=0
  ·rw[if_pos e] at h;cases h
  ·rw[if_neg e,List.mem_singleton] at h;exact⟨c,hc,by omega⟩
 ·rintro⟨c,hc,h⟩;refine⟨c,hc,?_⟩;rw[if_neg (by omega),List.mem_singleton];omega
structure aiZ (g:Graph) (m:Match) (x:List Nat×List Nat):Prop where
 agH:∀ i∈x.1,∀ c∈g.getD i [],c∈x.2
 back:∀ c∈x.2,∀ i,m.getD c 0=i+1→i∈x.1
theorem zG {g:Graph}{m:Match}{fs cs:List Nat}(S:aiZ g m (fs,cs)):∀ k,reach g m k fs cs=(fs,cs)
 | 0=>rfl
 | k+1=>by
  have e1:om g fs cs=cs:=abY fun c hc=>by
   obtain⟨i,hi,hc⟩:=List.mem_flatMap.mp hc;exact S.agH i hi c hc
  have e2:vX m fs cs=fs:=abY fun i hi=>by
   obtain⟨c,hc,h⟩:=List.mem_flatMap.mp hi;by_cases e:m.getD c 0=0
   ·rw[if_pos e] at h;cases h
   ·rw[if_neg e,List.mem_singleton] at h;exact S.back c hc i (by omega)
  rw[p6,e1,e2];exact zG S k
theorem abA {g:Graph}{n:Nat}{m:Match}(G:Good g n m):∀ (k:Nat) (fs cs:List Nat),fs.Nodup→(∀ i∈fs,i<g.length)→g.length+1≤k+fs.length→aiZ g m (reach g m k fs cs)
 | 0,fs,cs,nd,hl,hk=>by
  have:=bZ (m:=List.range g.length) nd (fun x hx=>List.mem_range.mpr (hl x hx));rw[List.length_range] at this;omega
 | k+1,fs,cs,nd,hl,hk=>by
  rw[p6];have nd':(vX m fs (om g fs cs)).Nodup:=va nd;have hl':∀ i∈vX m fs (om g fs cs),i<g.length:=fun i hi=>by
   rcases sv.mp hi with q|⟨c,_,q⟩
   ·exact hl i q
   ·exact(G.bu c i q).1
  obtain⟨r,er⟩:∃ r,vX m fs (om g fs cs)=fs++r:=zZ;cases r with
  | nil=>
   rw[List.append_nil] at er;rw[er];have S:aiZ g m (fs,om g fs cs):=⟨fun i hi c hc=>acT.mpr (Or.inr ⟨i,hi,hc⟩),fun c hc i hi=>by
    show i∈fs;rw[← er];exact sv.mpr (Or.inr ⟨c,hc,hi⟩)⟩
   rw[zG S];exact S
  | cons a r=>
   refine abA G k _ _ nd' hl' ?_;rw[er,List.length_append,List.length_cons];omega
theorem acZ {g:Graph}{m:Match}:∀ (k:Nat) (fs cs:List Nat) (i:Nat),i∈fs→i∈(reach g m k fs cs).1
 | 0,_,_,_,h=>h
 | k+1,fs,cs,i,h=>by
  rw[p6];exact acZ k _ _ i (sv.mpr (Or.inl h))
theorem zF {g:Graph}{n:Nat}{m:Match}(G:Good g n m):∀ (k:Nat) (fs cs:List Nat),(∀ i∈fs,cO g (at_ m) i)→(∀ c∈cs,∃ i,cO g (at_ m) i∧c∈g.getD i []) →
  (∀ i∈(reach g m k fs cs).1,cO g (at_ m) i)∧∀ c∈(reach g m k fs cs).2,∃ i,cO g (at_ m) i∧c∈g.getD i []
 | 0,fs,cs,h1,h2=>⟨h1,h2⟩
 | k+1,fs,cs,h1,h2=>by
  rw[p6];have h2':∀ c∈om g fs cs,∃ i,cO g (at_ m) i∧c∈g.getD i []:=fun c hc=>by
   rcases acT.mp hc with q|⟨i,hi,q⟩
   ·exact h2 c q
   ·exact⟨i,h1 i hi,q⟩
  refine zF G k _ _ (fun i hi=>?_) h2';rcases sv.mp hi with q|⟨c,hc,q⟩
  ·exact h1 i q
  ·obtain⟨i0,c0,e0⟩:=h2' c hc;exact cO.step c0 e0 (G.aj3 q)
def Left (g:Graph) (i:Nat):Prop:=i<g.length∧∃ h,c6 g h∧h i=none
theorem eI {g:Graph}{n:Nat}(W:Within g n):Good g n (matched g n)∧c6 g (at_ (matched g n)):=by
 have U:=rD W;exact⟨U.good,(cT W).best U.good.mg U.good.dk⟩
theorem afo {m:Match}{i:Nat}:m.contains (i+1)=true↔∃ c,at_ m i=some c:=by
 rw[List.contains_iff_mem];constructor
 ·intro h;obtain⟨c,hc,e⟩:=List.getElem_of_mem h;cases q:at_ m i with
  | some d=>exact⟨d,rfl⟩
  | none=>
   refine absurd ?_ (qh q (c:=c));rw[List.getD_eq_getElem?_getD,List.getElem?_eq_getElem hc,Option.getD_some];exact e
 ·rintro⟨c,h⟩;have e:=eK h;have hc:c<m.length:=pU (by omega);rw[List.getD_eq_getElem?_getD,List.getElem?_eq_getElem hc,Option.getD_some] at e;exact e ▸ List.getElem_mem hc
theorem aaT {g:Graph}{n:Nat}(W:Within g n):∃ xs ys:List Nat,cover g n=((List.range g.length).filter (fun i=>!(xs.contains i)),(List.range n).filter fun j=>ys.contains j) ∧
  (∀ i,i∈xs↔Left g i)∧(∀ j,j∈ys↔∃ i,Left g i∧j∈g.getD i []):=by
 obtain⟨G,B⟩:=eI W
 let free:=(List.range g.length).filter fun i=>!((matched g n).contains (i+1))
 have hf:∀ i,i∈free↔i<g.length∧at_ (matched g n) i=none:=fun i=>by
  show i∈(List.range g.length).filter _↔_;rw[List.mem_filter,List.mem_range,Bool.not_eq_true',← Bool.not_eq_true,afo];refine and_congr_right fun _=>⟨fun h=>?_,fun h ⟨c,e⟩=>by rw[h] at e;cases e⟩;cases e:at_ (matched g n) i with
  | none=>rfl
  | some c=>exact absurd ⟨c,e⟩ h
 have nd:free.Nodup:=List.nodup_range.filter _;have sh:=abA G (g.length+1) free [] nd (fun i hi=>((hf i).mp hi).1) (by omega);have so:=zF G (g.length+1) free [] (fun i hi=>cO.free ((hf i).mp hi).1 ((hf i).mp hi).2) (fun c hc=>by cases hc);have su:=acZ (g:=g) (m:=matched g n) (g.length+1) free [];have com:∀ i,cO g (at_ (matched g n)) i→i∈(reach g (matched g n) (g.length+1) free []).1:=fun i h=>by
  induction h with
  | free h1 h2=>exact su _ ((hf _).mpr ⟨h1,h2⟩)
  | step _ hc he ih=>exact sh.back _ (sh.agH _ ih _ hc) _ (eK he)
 refine⟨(reach g (matched g n) (g.length+1) free []).1,(reach g (matched g n) (g.length+1) free []).2,rfl,fun i=>?_,fun j=>?_⟩
 ·exact⟨fun h=>(qJ B).mp (so.1 i h),fun h=>com i ((qJ B).mpr h)⟩
 ·constructor
  ·intro h;obtain⟨i,hi,hj⟩:=so.2 j h;exact⟨i,(qJ B).mp hi,hj⟩
  ·rintro⟨i,hi,hj⟩;exact sh.agH i (com i ((qJ B).mpr hi)) j hj
theorem ahZ {found:List Bytes}{codes:List Nat}:(graph found codes).length=found.length:=List.length_map _
theorem abe {found:List Bytes}{codes:List Nat}{i:Nat}:(graph found codes).getD i []=if i<found.length then (List.range codes.length).filter (fun j=>fits (found.getD i []) (codes.getD j 0)) else[]:=by
 unfold graph;by_cases h:i<found.length
 ·rw[if_pos h,List.getD_eq_getElem?_getD,List.getElem?_map,List.getElem?_eq_getElem h,List.getD_eq_getElem?_getD,List.getElem?_eq_getElem h];rfl
 ·rw[if_neg h,List.getD_eq_getElem?_getD,List.getElem?_map,List.getElem?_eq_none (Nat.le_of_not_lt h)];rfl
theorem abf {found:List Bytes}{codes:List Nat}(i:Nat):((graph found codes).getD i []).Pairwise (· < ·):=by
 rw[abe];by_cases h:i<found.length
 ·rw[if_pos h];exact List.pairwise_lt_range.filter _
 ·rw[if_neg h];exact List.Pairwise.nil
theorem ah0 {found:List Bytes}{codes:List Nat}{i j:Nat}:j∈(graph found codes).getD i []↔i<found.length∧j<codes.length∧fits (found.getD i []) (codes.getD j 0)=true:=by
 rw[abe];by_cases h:i<found.length
 ·rw[if_pos h,List.mem_filter,List.mem_range];exact⟨fun q=>⟨h,q⟩,fun q=>q.2⟩
 ·rw[if_neg h];exact⟨(fun q=>by cases q),fun q=>absurd q.1 h⟩
theorem aei {found:List Bytes}{codes:List Nat}(h:codes.length≤10):Within (graph found codes) codes.length:=
 ⟨h,fun _ _ hc=>(ah0.mp hc).2.1,fun i=>(abf i).imp fun h=>Nat.ne_of_lt h⟩
end Mt
namespace Bx
open Vbexam
inductive Dep (s:St):Nat→Nat→Prop
 | root {b:Nat}:(box s b).inside=0→Dep s b 0
 | step {b k:Nat}:(box s b).inside≠0→Dep s (box s b).inside k→Dep s b (k+1)
theorem Dep.uniq {s:St}{b k:Nat}(h:Dep s b k):∀ {k':Nat},Dep s b k'→k=k':=by
 induction h with
 | root e=>
  intro k' h';cases h' with
  | root _=>rfl
  | step n _=>exact absurd e n
 | step n _ ih=>
  intro k' h';cases h' with
  | root e=>exact absurd e n
  | step _ h''=>rw[ih h'']
structure jI (s:St):Prop where
 few:s.boxes.length≤10
 ins:∀ b,1≤b→b≤s.boxes.length→(box s b).inside≤s.boxes.length
 dep:∀ b,1≤b→b≤s.boxes.length→∃ k,Dep s b k
theorem bZ:∀ {l m:List Nat},l.Nodup→(∀ x∈l,x∈m)→l.length≤m.length
 | [],m,_,_=>Nat.zero_le _
 | a::l,m,hn,hs=>by
  have ha:a∈m:=hs a (List.mem_cons_self ..);have h1:=List.nodup_cons.mp hn;have ih:=bZ (l:=l) (m:=m.erase a) h1.2 (fun x hx=>by
   have hx':=hs x (List.mem_cons_of_mem _ hx);have ne:x≠a:=fun e=>h1.1 (e ▸ hx);exact(List.mem_erase_of_ne ne).mpr hx')
  have e:=List.length_erase_of_mem ha;have:0<m.length:=List.length_pos_of_mem ha;rw[e] at ih;rw[List.length_cons];omega
theorem Dep.way {s:St}(O:jI s) {b k:Nat}(h:Dep s b k) (h1:1≤b) (h2:b≤s.boxes.length):∃ l:List Nat,l.length=k+1∧l.Nodup∧∀ x∈l,1≤x∧x≤s.boxes.length∧∃ j,j≤k∧Dep s x j:=by
 induction h with
 | @root b e=>exact⟨[b],rfl,List.nodup_cons.mpr ⟨List.not_mem_nil,List.nodup_nil⟩,fun x hx=>by
   rw[List.mem_singleton] at hx;subst hx;exact⟨h1,h2,0,Nat.le_refl _,Dep.root e⟩⟩
 | @step b k n d ih=>
  obtain⟨l,e1,e2,e3⟩:=ih (by omega) (O.ins b h1 h2);refine⟨b::l,by rw[List.length_cons,e1],List.nodup_cons.mpr ⟨fun hb=>?_,e2⟩,fun x hx=>?_⟩
  ·obtain⟨_,_,j,hj,dj⟩:=e3 b hb;have:=Dep.uniq (Dep.step n d) dj;omega
  ·cases hx with
   | head=>exact⟨h1,h2,k+1,Nat.le_refl _,Dep.step n d⟩
   | tail _ hx=>
    obtain⟨a1,a2,j,hj,dj⟩:=e3 x hx;exact⟨a1,a2,j,by omega,dj⟩
theorem jI.depth {s:St}(O:jI s) {b k:Nat}(h:Dep s b k) (h1:1≤b) (h2:b≤s.boxes.length):k<s.boxes.length:=by
 obtain⟨l,e1,e2,e3⟩:=h.way O h1 h2;have:=bZ (m:=(List.range s.boxes.length).map (· + 1)) e2 (fun x hx=>by
  obtain⟨a1,a2,_⟩:=e3 x hx;exact List.mem_map.mpr ⟨x-1,List.mem_range.mpr (by omega),by omega⟩)
 rw[List.length_map,List.length_range] at this;omega
theorem ag6 {s:St}{b k:Nat}(h:Dep s b k):∀ {n m:Nat},k≤n→k≤m→outer s n b=outer s m b:=by
 induction h with
 | @root b e=>
  intro n m _ _;cases n <;> cases m <;> simp[outer,e]
 | @step b k n d ih=>
  intro n' m' h h';obtain⟨n1,rfl⟩:∃ z,n'=z+1:=⟨n'-1,by omega⟩;obtain⟨m1,rfl⟩:∃ z,m'=z+1:=⟨m'-1,by omega⟩;unfold outer;rw[if_neg n,if_neg n];exact ih (by omega) (by omega)
theorem afT {s:St}{o b k:Nat}(h:Dep s b k):∀ {n m:Nat},k≤n→k≤m→within s o n b=within s o m b:=by
 induction h with
 | @root b e=>
  intro n m _ _;cases n <;> cases m <;> simp[within,e]
 | @step b k n d ih=>
  intro n' m' h h';obtain⟨n1,rfl⟩:∃ z,n'=z+1:=⟨n'-1,by omega⟩;obtain⟨m1,rfl⟩:∃ z,m'=z+1:=⟨m'-1,by omega⟩;unfold within;rw[ih (n:=n1) (m:=m1) (by omega) (by omega)]
theorem afn {s:St}{b k:Nat}(h:Dep s b k):∀ {n m:Nat},k≤n→k≤m→coldBy s n b=coldBy s m b:=by
 induction h with
 | @root b e=>
  intro n m _ _;cases n <;> cases m <;> simp[coldBy,e]
 | @step b k n d ih=>
  intro n' m' h h';obtain⟨n1,rfl⟩:∃ z,n'=z+1:=⟨n'-1,by omega⟩;obtain⟨m1,rfl⟩:∃ z,m'=z+1:=⟨m'-1,by omega⟩;unfold coldBy;rw[ih (n:=n1) (m:=m1) (by omega) (by omega)]
theorem afK {s:St}{b k:Nat}(h:Dep s b k):∀ {n m:Nat},k≤n→k≤m→openBy s n b=openBy s m b:=by
 induction h with
 | @root b e=>
  intro n m _ _;cases n <;> cases m <;> simp[openBy,e]
 | @step b k n d ih=>
  intro n' m' h h';obtain⟨n1,rfl⟩:∃ z,n'=z+1:=⟨n'-1,by omega⟩;obtain⟨m1,rfl⟩:∃ z,m'=z+1:=⟨m'-1,by omega⟩;unfold openBy;rw[ih (n:=n1) (m:=m1) (by omega) (by omega)]
section
variable {s:St}(O:jI s) {b:Nat}(h1:1≤b) (h2:b≤s.boxes.length)
include O h1 h2
theorem jI.agC:∃ k,Dep s b k∧k≤9:=by
 obtain⟨k,d⟩:=O.dep b h1 h2;have:=O.depth d h1 h2;have:=O.few;exact⟨k,d,by omega⟩
theorem uh (e:(box s b).inside=0):outermost s b=b:=by
 show outer s 10 b=b;unfold outer;rw[if_pos e]
theorem nu (e:(box s b).inside≠0):outermost s b=outermost s (box s b).inside:=by
 obtain⟨k,d,hk⟩:=O.agC h1 h2;show outer s 10 b=outer s 10 (box s b).inside;cases d with
 | root q=>exact absurd q e
 | @step _ k _ d=>
  rw[outer,if_neg e];exact ag6 d (by omega) (by omega)
theorem ab8 (o:Nat):isIn s o b=(b == o||((box s b).inside != 0&&isIn s o (box s b).inside)):=by
 obtain⟨k,d,hk⟩:=O.agC h1 h2;show within s o 10 b=(b == o||((box s b).inside != 0&&within s o 10 (box s b).inside));rw[within];cases d with
 | root q=>simp[q]
 | @step _ k _ d=>rw[afT d (n:=9) (m:=10) (by omega) (by omega)]
theorem ah5:isOpen s b=((box s b).wax == 0&&((box s b).inside == 0||isOpen s (box s b).inside)):=by
 obtain⟨k,d,hk⟩:=O.agC h1 h2;show openBy s 10 b=((box s b).wax == 0&&((box s b).inside == 0||openBy s 10 (box s b).inside));rw[openBy];cases d with
 | root q=>simp[q]
 | @step _ k _ d=>rw[afK d (n:=9) (m:=10) (by omega) (by omega)]
theorem akp:coldBy s BOXES b=((box s b).frost||((box s b).inside != 0&&coldBy s BOXES (box s b).inside)):=by
 obtain⟨k,d,hk⟩:=O.agC h1 h2;show coldBy s 10 b=((box s b).frost||((box s b).inside != 0&&coldBy s 10 (box s b).inside));rw[coldBy];cases d with
 | root q=>simp[q]
 | @step _ k _ d=>rw[afn d (n:=9) (m:=10) (by omega) (by omega)]
theorem aeE:1≤outermost s b∧outermost s b≤s.boxes.length∧(box s (outermost s b)).inside=0:=by
 obtain⟨k,d⟩:=O.dep b h1 h2
 induction d with
 | @root b e=>rw[uh O h1 h2 e];exact⟨h1,h2,e⟩
 | @step b k n d ih=>
  rw[nu O h1 h2 n];exact ih (by omega) (O.ins b h1 h2)
theorem afy (e:(box s b).inside≠0):holderOfBox s b=holderOfBox s (box s b).inside:=by
 unfold holderOfBox;rw[nu O h1 h2 e]
end
end Bx
namespace Wf
open Vbexam Bx
structure Ok (s:St):Prop where
 bx:jI s
 few:s.pieces.length≤40
 nd:(s.pieces.map (·.label)).Nodup
 lab:∀ p∈s.pieces,∃ k,k≤9999∧p.label=labelOf k
 inb:∀ p∈s.pieces,p.box≤s.boxes.length
 gone:∀ p∈s.pieces,p.gone=true→p.box=0
 par:∀ (i:Nat) (p:Piece) (q:Nat),s.pieces[i]?=some p→p.parent=some q→∃ j p',j<i∧s.pieces[j]?=some p'∧p'.label=q
theorem ajS:Ok start:=by
 refine⟨⟨Nat.zero_le _,fun b h1 h2=>?_,fun b h1 h2=>?_⟩,Nat.zero_le _,List.nodup_nil,fun p hp=>?_,fun p hp=>?_,fun p hp=>?_,fun i p q h=>?_⟩
 ·exact absurd h1 (by have:b≤0:=h2;omega)
 ·exact absurd h1 (by have:b≤0:=h2;omega)
 ·cases hp
 ·cases hp
 ·cases hp
 ·simp[start] at h
theorem p5 {s:St}{n:Nat}{p:Piece}(h:piece s n=some p):p∈s.pieces∧p.label=n:=by
 have h1:=List.mem_of_find?_eq_some h;have h2:=List.find?_some h;exact⟨h1,by simpa using h2⟩
theorem mB {s:St}{n:Nat}(h:piece s n=none):∀ p∈s.pieces,p.label≠n:=fun p hp e=>by
 have:=List.find?_eq_none.mp h p hp;simp[e] at this
theorem not_isSome {α:Type}{o:Option α}(h:¬ o.isSome=true):o=none:=by
 cases o with
 | none=>rfl
 | some _=>exact absurd rfl h
theorem Ok.map {s:St}(O:Ok s) (g:Piece→Piece) (t:Nat) (hl:∀ p,(g p).label=p.label) (hp:∀ p,(g p).parent=p.parent) (hb:∀ p∈s.pieces,(g p).box≤s.boxes.length) (hg:∀ p∈s.pieces,(g p).gone=true→(g p).box=0) :
  Ok { s with time:=t,pieces:=s.pieces.map g }:=by
 have em:(s.pieces.map g).map (·.label)=s.pieces.map (·.label):=by
  rw[List.map_map];exact List.map_congr_left fun p _=>hl p
 refine⟨⟨O.bx.few,O.bx.ins,fun b h1 h2=>?_⟩,by show(s.pieces.map g).length≤40;rw[List.length_map];exact O.few,by show((s.pieces.map g).map (·.label)).Nodup;rw[em];exact O.nd,fun p hq=>?_,fun p hq=>?_,fun p hq=>?_,fun i p q h e=>?_⟩
 ·obtain⟨k,d⟩:=O.bx.dep b h1 h2;refine⟨k,?_⟩
  induction d with
  | root e=>exact Dep.root e
  | @step b k n d ih=>exact Dep.step n (ih (Nat.pos_of_ne_zero n) (O.bx.ins b h1 h2))
 ·obtain⟨p',h1,rfl⟩:=List.mem_map.mp hq;rw[hl];exact O.lab p' h1
 ·obtain⟨p',h1,rfl⟩:=List.mem_map.mp hq;exact hb p' h1
 ·obtain⟨p',h1,rfl⟩:=List.mem_map.mp hq;exact hg p' h1
 ·have h:(s.pieces.map g)[i]?=some p:=h;rw[List.getElem?_map] at h;obtain⟨p0,h0,rfl⟩:=Option.map_eq_some_iff.mp h;rw[hp] at e;obtain⟨j,p',h1,h2,h3⟩:=O.par i p0 q h0 e;refine⟨j,g p',h1,?_,by rw[hl];exact h3⟩;show(s.pieces.map g)[j]?=_;rw[List.getElem?_map,h2];rfl
theorem Ok.set {s:St}(O:Ok s) (n:Nat) (f:Piece→Piece) (hl:∀ p,(f p).label=p.label) (hp:∀ p,(f p).parent=p.parent) (hb:∀ p∈s.pieces,p.label=n→(f p).box≤s.boxes.length) (hg:∀ p∈s.pieces,p.label=n→(f p).gone=true→(f p).box=0):Ok (setPiece s n f):=by
 refine O.map (fun p=>if p.label=n then f p else p) s.time (fun p=>?_) (fun p=>?_) (fun p hm=>?_) (fun p hm=>?_)
 ·by_cases h:p.label=n
  ·rw[if_pos h,hl]
  ·rw[if_neg h]
 ·by_cases h:p.label=n
  ·rw[if_pos h,hp]
  ·rw[if_neg h]
 ·by_cases h:p.label=n
  ·rw[if_pos h];exact hb p hm h
  ·rw[if_neg h];exact O.inb p hm
 ·by_cases h:p.label=n
  ·rw[if_pos h];exact hg p hm h
  ·rw[if_neg h];exact O.gone p hm
theorem Ok.add {s:St}(O:Ok s) (x:Piece) (h40:s.pieces.length<40) (hl:∃ k,k≤9999∧x.label=labelOf k) (hn:∀ p∈s.pieces,p.label≠x.label) (hb:x.box≤s.boxes.length) (hg:x.gone=true→x.box=0)
  (hp:∀ q,x.parent=some q→∃ p∈s.pieces,p.label=q):Ok (addPiece s x):=by
 refine⟨⟨O.bx.few,O.bx.ins,fun b h1 h2=>?_⟩,?_,?_,fun p hq=>?_,fun p hq=>?_,fun p hq=>?_,fun i p q h e=>?_⟩
 ·obtain⟨k,d⟩:=O.bx.dep b h1 h2;refine⟨k,?_⟩
  induction d with
  | root e=>exact Dep.root e
  | @step b k n d ih=>exact Dep.step n (ih (Nat.pos_of_ne_zero n) (O.bx.ins b h1 h2))
 ·show(s.pieces++[x]).length≤40;rw[List.length_append,List.length_singleton];omega
 ·show((s.pieces++[x]).map (·.label)).Nodup;rw[List.map_append];refine List.nodup_append.mpr ⟨O.nd,List.nodup_cons.mpr ⟨List.not_mem_nil,List.nodup_nil⟩,fun a ha b hb' e=>?_⟩;obtain⟨p,hp1,rfl⟩:=List.mem_map.mp ha;have:b=x.label:=by simpa using hb'
  exact hn p hp1 (e.trans this)
 ·rcases List.mem_append.mp hq with h|h
  ·exact O.lab p h
  ·rw[List.mem_singleton.mp h];exact hl
 ·rcases List.mem_append.mp hq with h|h
  ·exact O.inb p h
  ·rw[List.mem_singleton.mp h];exact hb
 ·rcases List.mem_append.mp hq with h|h
  ·exact O.gone p h
  ·rw[List.mem_singleton.mp h];exact hg
 ·have h:(s.pieces++[x])[i]?=some p:=h;have up:∀ (j:Nat) (p':Piece),s.pieces[j]?=some p'→(addPiece s x).pieces[j]?=some p':=fun j p' hj=>by
   show(s.pieces++[x])[j]?=some p';rw[List.getElem?_append_left (List.getElem?_eq_some_iff.mp hj).1];exact hj
  by_cases hi:i<s.pieces.length
  ·rw[List.getElem?_append_left hi] at h;obtain⟨j,p',h1,h2,h3⟩:=O.par i p q h e;exact⟨j,p',h1,up j p' h2,h3⟩
  ·rw[List.getElem?_append_right (by omega)] at h;have hx:x=p:=by
    cases hz:i-s.pieces.length with
    | zero=>rw[hz] at h;simpa using h
    | succ z=>rw[hz] at h;simp at h
   subst hx;obtain⟨p',h1,h2⟩:=hp q e;obtain⟨j,hj,ej⟩:=List.getElem_of_mem h1;exact⟨j,p',by omega,up j p' (by rw[List.getElem?_eq_getElem hj,ej]),h2⟩
theorem ab1 {s:St}{b:Nat}{f:Box→Box}(hb:1≤b) (hl:b≤s.boxes.length) {x:Nat}(hx:1≤x):box (setBox s b f) x=if x=b then f (box s x) else box s x:=by
 show(s.boxes.modify (b-1) f).getD (x-1) _=if x=b then f (s.boxes.getD (x-1) _) else s.boxes.getD (x-1) _
 rw[List.getD_eq_getElem?_getD,List.getD_eq_getElem?_getD,List.getElem?_modify];by_cases h:x=b
 ·subst h;rw[if_pos rfl,List.getElem?_eq_getElem (show x-1<s.boxes.length by omega)];simp
 ·rw[if_neg h];have e:¬ b-1=x-1:=by omega
  simp[e]
theorem e9 {s:St}{b:Nat}{f:Box→Box}:(setBox s b f).boxes.length=s.boxes.length:=List.length_modify ..
theorem Ok.boxes {s s':St}(O:Ok s) (hp:s'.pieces=s.pieces) (hl:s'.boxes.length=s.boxes.length) (B:jI s'):Ok s':=by
 refine⟨B,by rw[hp];exact O.few,by rw[hp];exact O.nd,fun p h=>O.lab p (hp ▸ h),fun p h=>?_,fun p h=>O.gone p (hp ▸ h),fun i p q h e=>?_⟩
 ·rw[hl];exact O.inb p (hp ▸ h)
 ·rw[hp] at h ⊢;exact O.par i p q h e
theorem vx {s s':St}(O:jI s) (hl:s'.boxes.length=s.boxes.length) (hi:∀ b,1≤b→(box s' b).inside=(box s b).inside):jI s':=by
 refine⟨by rw[hl];exact O.few,fun b h1 h2=>by rw[hi b h1,hl];exact O.ins b h1 (hl ▸ h2),fun b h1 h2=>?_⟩;rw[hl] at h2;obtain⟨k,d⟩:=O.dep b h1 h2;refine⟨k,?_⟩
 induction d with
 | @root b e=>exact Dep.root ((hi b h1).trans e)
 | @step b k n d ih=>
  have e:=hi b h1;refine Dep.step (by rw[e];exact n) ?_;rw[e];exact ih (Nat.pos_of_ne_zero n) (O.ins b h1 h2)
theorem Ok.setBox {s:St}(O:Ok s) {b:Nat}{f:Box→Box}(h1:1≤b) (h2:b≤s.boxes.length) (hf:∀ x,(f x).inside=x.inside):Ok (setBox s b f):=by
 refine O.boxes rfl e9 (vx O.bx e9 fun x hx=>?_);rw[ab1 h1 h2 hx];by_cases h:x=b
 ·rw[if_pos h,hf]
 ·rw[if_neg h]
theorem Ok.hands {s:St}(O:Ok s) (hs:List Hand):Ok { s with hands:=hs }:=
 O.boxes (s':={ s with hands:=hs }) rfl rfl (vx O.bx rfl fun _ _=>rfl)
theorem Ok.newBox {s:St}(O:Ok s) (h:s.boxes.length<10) (p:Nat):Ok { s with boxes:=s.boxes++[{ holder:=p }] }:=by
 have old:∀ b,1≤b→b≤s.boxes.length→box { s with boxes:=s.boxes++[{ holder:=p }] } b=box s b:=fun b h1 h2=>by
  show(s.boxes++[({ holder:=p }:Box)]).getD (b-1) _=s.boxes.getD (b-1) _;rw[List.getD_eq_getElem?_getD,List.getD_eq_getElem?_getD,List.getElem?_append_left (by omega)]
 have new:(box { s with boxes:=s.boxes++[{ holder:=p }] } (s.boxes.length+1)).inside=0:=by
  show((s.boxes++[({ holder:=p }:Box)]).getD (s.boxes.length+1-1) { holder:=0 }).inside=0;rw[List.getD_eq_getElem?_getD,Nat.add_sub_cancel,List.getElem?_append_right (Nat.le_refl _),Nat.sub_self];rfl
 have mT:∀ b k,Dep s b k→1≤b→b≤s.boxes.length→Dep { s with boxes:=s.boxes++[{ holder:=p }] } b k:=fun b k d=>by
  induction d with
  | @root b q=>
   intro h1 e;exact Dep.root (by rw[old b h1 e];exact q)
  | @step b k n d ih=>
   intro h1 e;have z:=old b h1 e;refine Dep.step (by rw[z];exact n) ?_;rw[z];exact ih (Nat.pos_of_ne_zero n) (O.bx.ins b h1 e)
 have hlen:(s.boxes++[({ holder:=p }:Box)]).length=s.boxes.length+1:=by rw[List.length_append,List.length_singleton]
 refine⟨⟨?_,fun b h1 h2=>?_,fun b h1 h2=>?_⟩,O.few,O.nd,O.lab,fun q hq=>?_,O.gone,O.par⟩
 ·show(s.boxes++[({ holder:=p }:Box)]).length≤10;omega
 ·have h2:b≤(s.boxes++[({ holder:=p }:Box)]).length:=h2;show _≤(s.boxes++[({ holder:=p }:Box)]).length;rw[hlen] at h2 ⊢;by_cases e:b≤s.boxes.length
  ·rw[old b h1 e];have:=O.bx.ins b h1 e;omega
  ·have:b=s.boxes.length+1:=by omega
   subst this;rw[new];omega
 ·have h2:b≤(s.boxes++[({ holder:=p }:Box)]).length:=h2;rw[hlen] at h2;by_cases e:b≤s.boxes.length
  ·obtain⟨k,d⟩:=O.bx.dep b h1 e;exact⟨k,mT b k d h1 e⟩
  ·have:b=s.boxes.length+1:=by omega
   subst this;exact⟨0,Dep.root new⟩
 ·show q.box≤(s.boxes++[({ holder:=p }:Box)]).length;have:=O.inb q hq;omega
theorem Ok.unnest {s:St}(O:Ok s) {b h:Nat}(h1:1≤b) (h2:b≤s.boxes.length):Ok (Vbexam.setBox s b fun x=>{ x with inside:=0,holder:=h }):=by
 have bs:=fun x (hx:1≤x)=>ab1 (s:=s) (f:=fun x=>{ x with inside:=0,holder:=h }) h1 h2 hx;refine O.boxes rfl e9 ⟨by rw[e9];exact O.bx.few,fun x hx hl=>?_,fun x hx hl=>?_⟩
 ·rw[e9] at hl ⊢;rw[bs x hx];by_cases e:x=b
  ·rw[if_pos e];exact Nat.zero_le _
  ·rw[if_neg e];exact O.bx.ins x hx hl
 ·rw[e9] at hl;obtain⟨k,d⟩:=O.bx.dep x hx hl;clear h2
  induction d with
  | @root x q=>
   refine⟨0,Dep.root ?_⟩;rw[bs x hx];by_cases e:x=b
   ·rw[if_pos e]
   ·rw[if_neg e];exact q
  | @step x k n d ih=>
   by_cases e:x=b
   ·exact⟨0,Dep.root (by rw[bs x hx,if_pos e])⟩
   ·obtain⟨k',d'⟩:=ih (Nat.pos_of_ne_zero n) (O.bx.ins x hx hl);have z:(box (Vbexam.setBox s b fun x=>{ x with inside:=0,holder:=h }) x).inside=(box s x).inside:=by rw[bs x hx,if_neg e]
    exact⟨k'+1,Dep.step (by rw[z];exact n) (by rw[z];exact d')⟩
theorem Ok.nest {s:St}(O:Ok s) {b o:Nat}(h1:1≤b) (h2:b≤s.boxes.length) (o1:1≤o) (o2:o≤s.boxes.length) (hr:(box s b).inside=0) (hi:isIn s b o=false):Ok (Vbexam.setBox s b fun x=>{ x with inside:=o }):=by
 have bs:=fun x (hx:1≤x)=>ab1 (s:=s) (f:=fun x=>{ x with inside:=o }) h1 h2 hx;have away:∀ x k,Dep s x k→1≤x→x≤s.boxes.length→isIn s b x=false→Dep (Vbexam.setBox s b fun x=>{ x with inside:=o }) x k:=by
  intro x k d
  induction d with
  | @root x q=>
   intro hx hl hn;rw[ab8 O.bx hx hl] at hn;have e:x≠b:=fun e=>by simp[e] at hn
   exact Dep.root (by rw[bs x hx,if_neg e];exact q)
  | @step x k n d ih=>
   intro hx hl hn;rw[ab8 O.bx hx hl] at hn;have e:x≠b:=fun e=>by simp[e] at hn
   have z:(box (Vbexam.setBox s b fun x=>{ x with inside:=o }) x).inside=(box s x).inside:=by rw[bs x hx,if_neg e]
   refine Dep.step (by rw[z];exact n) ?_;rw[z];refine ih (Nat.pos_of_ne_zero n) (O.bx.ins x hx hl) ?_;simpa [e,n] using hn
 obtain⟨ko,dO⟩:=O.bx.dep o o1 o2;have dO':=away o ko dO o1 o2 hi;have dB:Dep (Vbexam.setBox s b fun x=>{ x with inside:=o }) b (ko+1):=by
  have z:(box (Vbexam.setBox s b fun x=>{ x with inside:=o }) b).inside=o:=by rw[bs b h1,if_pos rfl]
  exact Dep.step (by rw[z];omega) (by rw[z];exact dO')
 refine O.boxes rfl e9 ⟨by rw[e9];exact O.bx.few,fun x hx hl=>?_,fun x hx hl=>?_⟩
 ·rw[e9] at hl ⊢;rw[bs x hx];by_cases e:x=b
  ·rw[if_pos e];exact o2
  ·rw[if_neg e];exact O.bx.ins x hx hl
 ·rw[e9] at hl;obtain⟨k,d⟩:=O.bx.dep x hx hl;clear dO dO' o1 o2 hi
  induction d with
  | @root x q=>
   by_cases e:x=b
   ·exact⟨ko+1,e ▸ dB⟩
   ·exact⟨0,Dep.root (by rw[bs x hx,if_neg e];exact q)⟩
  | @step x k n d ih=>
   have e:x≠b:=fun e=>n (by rw[e];exact hr);obtain⟨k',d'⟩:=ih (Nat.pos_of_ne_zero n) (O.bx.ins x hx hl);have z:(box (Vbexam.setBox s b fun x=>{ x with inside:=o }) x).inside=(box s x).inside:=by rw[bs x hx,if_neg e]
   exact⟨k'+1,Dep.step (by rw[z];exact n) (by rw[z];exact d')⟩
theorem jQ {x lo hi:Int}:inR x lo hi=true↔lo≤x∧x≤hi:=by
 unfold inR;rw[Bool.and_eq_true,decide_eq_true_eq,decide_eq_true_eq]
theorem aeq {k:Int}(h:inR k 0 9999=true):∃ j,j≤9999∧labelOf k.toNat=labelOf j:=⟨k.toNat,by have:=jQ.mp h;omega,rfl⟩
theorem jS {s:St}(O:Ok s) {n:Int}{k:Piece→St×List Int}(h:∀ p∈s.pieces,p.label=n.toNat→p.gone=false→Ok (k p).1):Ok (ofPiece s n k).1:=by
 unfold ofPiece;cases e:piece s n.toNat with
 | none=>exact O
 | some p=>
  obtain⟨h1,h2⟩:=p5 e;show Ok (if p.gone=true then (s,[-3]) else k p).1;by_cases g:p.gone=true
  ·rw[if_pos g];exact O
  ·rw[if_neg g];exact h p h1 h2 (by simpa using g)
theorem gI {s:St}(O:Ok s) {b:Int}{k:Nat→St×List Int}(hb:boxIn b=true) (h:1≤b.toNat→b.toNat≤s.boxes.length→Ok (k b.toNat).1):Ok (ofBox s b k).1:=by
 unfold ofBox;have:=jQ.mp hb;by_cases c:(s.boxes.length:Int)<b
 ·rw[if_pos c];exact O
 ·rw[if_neg c];exact h (by omega) (by omega)
theorem vC {s:St}(O:Ok s) {b:Int}{t:List Int}{k:List Bytes→List Nat→List Int}:Ok (ofFound s b t k).1:=by
 unfold ofFound ofBox;by_cases c:(s.boxes.length:Int)<b
 ·rw[if_pos c];exact O
 ·rw[if_neg c];cases patterns (t.length+1) (t.map Int.toNat) with
  | none=>exact O
  | some l=>
   show Ok (if FOUND<l.length∨EXPECTED<(manifest s b.toNat).length then (s,[-5]) else (s,k l (manifest s b.toNat))).1;by_cases d:FOUND<l.length∨EXPECTED<(manifest s b.toNat).length
   ·rw[if_pos d];exact O
   ·rw[if_neg d];exact O
theorem bU {c:Prop}[Decidable c] {a b:St×List Int}(ha:c→Ok a.1) (hb:¬ c→Ok b.1):Ok (if c then a else b).1:=by
 by_cases h:c
 ·rw[if_pos h];exact ha h
 ·rw[if_neg h];exact hb h
theorem alp {s:St}(O:Ok s) {x:Call}(hr:ranged x=true):Ok (act s x).1:=by
 cases x with
 | sample k m p=>
  have hk:=(Bool.and_eq_true _ _ |>.mp hr).1;refine bU (fun _=>O) fun h1=>bU (fun _=>O) fun h2=>?_;exact O.add _ (Nat.lt_of_not_le h2) (aeq hk) (fun p hp=>mB (not_isSome h1) p hp) (Nat.zero_le _) (fun _=>rfl) (fun q e=>by cases e)
 | split n k m=>
  obtain⟨_,hr⟩:=Bool.and_eq_true _ _ |>.mp hr;have hk:=(Bool.and_eq_true _ _ |>.mp hr).1;refine jS O fun p hp hl hg=>bU (fun _=>O) fun _=>bU (fun _=>O) fun _=>bU (fun _=>O) fun h1=>bU (fun _=>O) fun h2=>?_;have O1:Ok (setPiece s p.label fun x=>{ x with now:=x.now-m.toNat }):=O.set _ _ (fun _=>rfl) (fun _=>rfl) (fun q hq _=>O.inb q hq) (fun q hq _=>O.gone q hq);refine O1.add _ ?_ (aeq hk) (fun q hq=>?_) (O.inb p hp) (fun e=>by cases e) (fun q e=>?_)
  ·show(s.pieces.map _).length<40;rw[List.length_map];exact Nat.lt_of_not_le h2
  ·obtain⟨q',h3,rfl⟩:=List.mem_map.mp hq;have:=mB (not_isSome h1) q' h3;by_cases e:q'.label=p.label
   ·rw[if_pos e];exact this
   ·rw[if_neg e];exact this
  ·cases e;exact⟨_,List.mem_map.mpr ⟨p,hp,rfl⟩,by rw[if_pos rfl]⟩
 | use n m=>
  refine jS O fun p hp hl hg=>bU (fun _=>O) fun _=>bU (fun _=>O) fun _=>?_;refine O.set _ _ (fun _=>rfl) (fun _=>rfl) (fun q hq _=>?_) (fun q hq _ e=>?_)
  ·show(if p.now-m.toNat=0 then 0 else q.box)≤_;by_cases z:p.now-m.toNat=0
   ·rw[if_pos z];exact Nat.zero_le _
   ·rw[if_neg z];exact O.inb q hq
  ·have e:(p.now-m.toNat == 0)=true:=e;show(if p.now-m.toNat=0 then 0 else q.box)=0;rw[if_pos (by simpa using e)]
 | lose n=>exact jS O fun p hp hl hg=>O.set _ _ (fun _=>rfl) (fun _=>rfl) (fun q hq _=>Nat.zero_le _) (fun q hq _ e=>rfl)
 | newBox p=>exact bU (fun _=>O) fun h=>O.newBox (Nat.lt_of_not_le h) _
 | put n b=>
  have hb:=(Bool.and_eq_true _ _ |>.mp hr).2;refine jS O fun p hp hl hg=>gI O hb fun h1 h2=>bU (fun _=>O) fun _=>bU (fun _=>O) fun _=>bU (fun _=>O) fun _=>?_;refine O.set _ _ (fun _=>rfl) (fun _=>rfl) (fun q hq _=>h2) (fun q hq hql e=>?_);have:q=p:=by
   obtain⟨i,hi,ei⟩:=List.getElem_of_mem hq;obtain⟨j,hj,ej⟩:=List.getElem_of_mem hp;have hi':i<(s.pieces.map (·.label)).length:=by rw[List.length_map];exact hi
   have hj':j<(s.pieces.map (·.label)).length:=by rw[List.length_map];exact hj
   have:=(List.getElem_inj (h₀:=hi') (h₁:=hj') O.nd).mp (by rw[List.getElem_map,List.getElem_map,ei,ej];exact hql);subst this;rw[← ei,← ej]
  rw[this] at e;have e:p.gone=true:=e;rw[hg] at e;cases e
 | take n=>exact jS O fun p hp hl hg=>bU (fun _=>O) fun _=>bU (fun _=>O) fun _=>O.set _ _ (fun _=>rfl) (fun _=>rfl) (fun q hq _=>Nat.zero_le _) (fun q hq _ e=>rfl)
 | nest b o=>
  obtain⟨hb,ho⟩:=Bool.and_eq_true _ _ |>.mp hr;refine gI O hb fun h1 h2=>gI O ho fun o1 o2=>bU (fun _=>O) fun c1=>bU (fun _=>O) fun c2=>bU (fun _=>O) fun _=>bU (fun _=>O) fun _=>?_;exact O.nest h1 h2 o1 o2 (by simpa using c1) (by simpa using c2)
 | unnest b=>exact gI O hr fun h1 h2=>bU (fun _=>O) fun _=>bU (fun _=>O) fun _=>O.unnest h1 h2
 | lock b n=>exact gI O (Bool.and_eq_true _ _ |>.mp hr).1 fun h1 h2=>bU (fun _=>O) fun _=>O.setBox h1 h2 fun _=>rfl
 | open_ b n=>exact gI O (Bool.and_eq_true _ _ |>.mp hr).1 fun h1 h2=>bU (fun _=>O) fun _=>bU (fun _=>O) fun _=>bU (fun _=>O) fun _=>O.setBox h1 h2 fun _=>rfl
 | handPiece n p q=>
  refine jS O fun x hx hl hg=>bU (fun _=>O) fun _=>bU (fun _=>O) fun _=>bU (fun _=>O) fun _=>?_;exact(O.set x.label (fun y=>{ y with holder:=q.toNat }) (fun _=>rfl) (fun _=>rfl) (fun q hq _=>O.inb q hq) (fun q hq _=>O.gone q hq)).hands _
 | handBox b p q=>
  refine gI O (Bool.and_eq_true _ _ |>.mp hr).1 fun h1 h2=>bU (fun _=>O) fun _=>bU (fun _=>O) fun _=>bU (fun _=>O) fun _=>?_;exact(O.setBox (f:=fun x=>{ x with holder:=q.toNat }) h1 h2 fun _=>rfl).hands _
 | frost b f=>exact gI O (Bool.and_eq_true _ _ |>.mp hr).1 fun h1 h2=>O.setBox h1 h2 fun _=>rfl
 | pass m=>
  refine bU (fun _=>O) fun _=>O.map (fun p=>if p.gone=true∨cold s p=true then p else { p with warm:=p.warm+m.toNat }) _ (fun p=>?_) (fun p=>?_) (fun p hp=>?_) (fun p hp=>?_)
  ·by_cases c:p.gone=true∨cold s p=true
   ·rw[if_pos c]
   ·rw[if_neg c]
  ·by_cases c:p.gone=true∨cold s p=true
   ·rw[if_pos c]
   ·rw[if_neg c]
  ·by_cases c:p.gone=true∨cold s p=true
   ·rw[if_pos c];exact O.inb p hp
   ·rw[if_neg c];exact O.inb p hp
  ·by_cases c:p.gone=true∨cold s p=true
   ·rw[if_pos c];exact O.gone p hp
   ·rw[if_neg c];exact O.gone p hp
 | piece n=>
  show Ok (match piece s n.toNat with|none=>(s,[-2])|some p=>(s,_)).1;cases piece s n.toNat <;> exact O
 | box b=>exact gI O hr fun _ _=>O
 | manifest b=>exact gI O hr fun _ _=>O
 | sums n=>
  show Ok (match piece s n.toNat with|none=>(s,[-2])|some p=>(s,_)).1;cases piece s n.toNat <;> exact O
 | read t=>exact bU (fun _=>O) fun _=>O
 | best b t=>exact vC O
 | sure b t=>exact vC O
 | cover b t=>exact vC O
 | chain n=>
  show Ok (match piece s n.toNat with|none=>(s,[-2])|some p=>(s,_)).1;cases piece s n.toNat <;> exact O
 | warm m=>exact O
 | label k=>exact O
theorem acb {x n:Nat}:∀ {l:List Nat},x∈put n l↔x=n∨x∈l
 | []=>by simp[put]
 | m::r=>by
  unfold put;by_cases h:n<m
  ·rw[if_pos h,List.mem_cons]
  ·rw[if_neg h];by_cases e:n=m
   ·rw[if_pos e,e,List.mem_cons];constructor
    ·exact Or.inr
    ·rintro (q|q)
     ·exact Or.inl q
     ·exact q
   ·rw[if_neg e,List.mem_cons,acb,List.mem_cons];constructor
    ·rintro (q|q|q)
     ·exact Or.inr (Or.inl q)
     ·exact Or.inl q
     ·exact Or.inr (Or.inr q)
    ·rintro (q|q|q)
     ·exact Or.inr (Or.inl q)
     ·exact Or.inl q
     ·exact Or.inr (Or.inr q)
theorem acY {n:Nat}:∀ {l:List Nat},l.Pairwise (· < ·)→(put n l).Pairwise (· < ·)
 | [],_=>List.pairwise_singleton _ _
 | m::r,h=>by
  have h':=List.pairwise_cons.mp h;unfold put;by_cases c:n<m
  ·rw[if_pos c];refine List.pairwise_cons.mpr ⟨fun x hx=>?_,h⟩;rcases List.mem_cons.mp hx with e|e
   ·omega
   ·have:=h'.1 x e;omega
  ·rw[if_neg c];by_cases e:n=m
   ·rw[if_pos e];exact h
   ·rw[if_neg e];refine List.pairwise_cons.mpr ⟨fun x hx=>?_,acY h'.2⟩;rcases acb.mp hx with q|q
    ·omega
    ·exact h'.1 x q
def rise (l:List Nat):List Nat:=l.foldr put []
theorem vB {x:Nat}:∀ {l:List Nat},x∈rise l↔x∈l
 | []=>Iff.rfl
 | a::l=>by
  show x∈put a (rise l)↔_;rw[acb,vB,List.mem_cons]
theorem p7:∀ (l:List Nat),(rise l).Pairwise (· < ·)
 | []=>List.Pairwise.nil
 | _::l=>acY (p7 l)
theorem ac0:∀ {l m:List Nat},l.Pairwise (· < ·)→m.Pairwise (· < ·)→(∀ x,x∈l↔x∈m)→l=m
 | [],[],_,_,_=>rfl
 | [],b::m,_,_,h=>absurd ((h b).mpr (List.mem_cons_self ..)) List.not_mem_nil
 | a::l,[],_,_,h=>absurd ((h a).mp (List.mem_cons_self ..)) List.not_mem_nil
 | a::l,b::m,hl,hm,h=>by
  have hl':=List.pairwise_cons.mp hl;have hm':=List.pairwise_cons.mp hm;have e:a=b:=by
   have h1:=List.mem_cons.mp ((h a).mp (List.mem_cons_self ..));have h2:=List.mem_cons.mp ((h b).mpr (List.mem_cons_self ..));rcases h1 with q|q
   ·exact q
   ·rcases h2 with q'|q'
    ·exact q'.symm
    ·have:=hm'.1 a q;have:=hl'.1 b q';omega
  subst e;have:=ac0 hl'.2 hm'.2 (fun x=>by
   constructor
   ·intro hx;have:=hl'.1 x hx;exact(List.mem_cons.mp ((h x).mp (List.mem_cons_of_mem _ hx))).resolve_left (by omega)
   ·intro hx;have:=hm'.1 x hx;exact(List.mem_cons.mp ((h x).mpr (List.mem_cons_of_mem _ hx))).resolve_left (by omega))
  rw[this]
theorem ai8 {ns:List Int}(h:∀ x∈ns,0≤x):(ns.map Int.toNat).map (fun (n:Nat)=>(n:Int))=ns:=by
 rw[List.map_map];have:∀ x∈ns,((fun (n:Nat)=>(n:Int))∘Int.toNat) x=id x:=fun x hx=>by
  show((x.toNat:Nat):Int)=x;have:=h x hx;omega
 rw[List.map_congr_left this,List.map_id]
theorem tV {l:List Nat}(nd:l.Nodup) {ns:List Int}(hp:ns.Perm (l.map fun (n:Nat)=>(n:Int))) (hs:ns.Pairwise (·≤·)):ns=(rise l).map fun (n:Nat)=>(n:Int):=by
 have h0:∀ x∈ns,0≤x:=fun x hx=>by
  obtain⟨n,_,rfl⟩:=List.mem_map.mp (hp.mem_iff.mp hx);omega
 have ndl:(l.map fun (n:Nat)=>(n:Int)).Nodup:=by
  refine List.pairwise_map.mpr (nd.imp fun h e=>h ?_);omega
 have ndn:ns.Nodup:=hp.nodup_iff.mpr ndl;have hlt:ns.Pairwise (· < ·):=(List.Pairwise.and hs ndn).imp fun ⟨a,b⟩=>by omega
 have e:=ai8 h0;have hm:(ns.map Int.toNat).Pairwise (· < ·):=by
  have h2:ns.Pairwise (fun a b=>a.toNat<b.toNat):=List.Pairwise.imp_of_mem (fun {a b} ha hb h=>by
   have:=h0 a ha;omega) hlt
  exact List.pairwise_map.mpr h2
 have:ns.map Int.toNat=rise l:=by
  refine ac0 hm (p7 l) fun x=>?_;rw[vB];constructor
  ·intro hx;obtain⟨y,hy,rfl⟩:=List.mem_map.mp hx;obtain⟨n,hn,rfl⟩:=List.mem_map.mp (hp.mem_iff.mp hy);simpa using hn
  ·intro hx;exact List.mem_map.mpr ⟨(x:Int),hp.mem_iff.mpr (List.mem_map.mpr ⟨x,hx,rfl⟩),by simp⟩
 rw[← this,e]
theorem q5 {s:St}(O:Ok s) (q:Piece→Bool):((s.pieces.filter q).map fun p=>p.label).Nodup:=
 O.nd.sublist (List.filter_sublist.map _)
theorem oa {s:St}(O:Ok s) (o:Nat):manifest s o=rise ((s.pieces.filter fun p=>p.box != 0&&isIn s o p.box).map fun p=>p.label):=by
 show rise ((s.pieces.filter fun p=>p.box != 0&&(!p.gone&&isIn s o p.box)).map fun p=>p.label)=_;congr 2;refine List.filter_congr fun p hp=>?_;cases g:p.gone with
 | false=>rfl
 | true=>
  rw[O.gone p hp g];rfl
theorem rK {s s':St}(h:s'.boxes=s.boxes) (b:Nat):box s' b=box s b:=by
 unfold box;rw[h]
theorem zD {s s':St}(h:s'.boxes=s.boxes):∀ (k b:Nat),outer s' k b=outer s k b
 | 0,b=>rfl
 | k+1,b=>by
  unfold outer;rw[rK h,zD h k]
theorem za {s s':St}(h:s'.boxes=s.boxes) (b:Nat):holderOfBox s' b=holderOfBox s b:=by
 unfold holderOfBox outermost;rw[zD h,rK h]
theorem t7 {s s':St}(h:s'.boxes=s.boxes) {p p':Piece}(e1:p'.box=p.box) (e2:p'.holder=p.holder):holderOf s' p'=holderOf s p:=by
 unfold holderOf;rw[e1,e2,za h]
theorem wY {s s':St}(h:∀ b,(box s' b).inside=(box s b).inside) (o:Nat):∀ (k b:Nat),within s' o k b=within s o k b
 | 0,b=>rfl
 | k+1,b=>by
  unfold within;rw[h b,wY h o k]
theorem abl {s s':St}(hp:s'.pieces=s.pieces) (h:∀ b,(box s' b).inside=(box s b).inside) (o:Nat):manifest s' o=manifest s o:=by
 unfold manifest isIn;rw[hp];simp only[wY h]
theorem agS {s:St}{i:Nat}{y:Box}(h:∀ z,s.boxes[i]?=some z→y.inside=z.inside) (b:Nat):(box { s with boxes:=s.boxes.set i y } b).inside=(box s b).inside:=by
 show((s.boxes.set i y).getD (b-1) _).inside=(s.boxes.getD (b-1) _).inside;rw[List.getD_eq_getElem?_getD,List.getD_eq_getElem?_getD,List.getElem?_set];by_cases e:i=b-1
 ·subst e;by_cases hl:b-1<s.boxes.length
  ·rw[if_pos rfl,if_pos hl,List.getElem?_eq_getElem hl];exact h _ (List.getElem?_eq_getElem hl)
  ·rw[if_pos rfl,if_neg hl,List.getElem?_eq_none (Nat.le_of_not_lt hl)]
 ·rw[if_neg e]
def joined:List Bytes→Bytes
 | []=>[]
 | [p]=>p
 | p::r=>p++32::joined r
theorem gi {b:Bytes}(h:isPattern b=true):b.length=6:=by
 unfold isPattern at h;rw[Bool.and_eq_true] at h;simpa using h.1
theorem tu {p:Bytes}{r:List Bytes}(h:r≠[]):joined (p::r)=p++32::joined r:=by
 cases r with
 | nil=>exact absurd rfl h
 | cons a r=>rfl
theorem wK:∀ (k:Nat) (b:Bytes) (l:List Bytes),patterns k b=some l→l≠[]∧(∀ p∈l,isPattern p=true)∧b=joined l
 | 0,b,l,h=>by cases h
 | k+1,b,l,h=>by
  unfold patterns at h;by_cases hp:isPattern (b.take 6)=false
  ·rw[if_pos hp] at h;cases h
  ·have hp':isPattern (b.take 6)=true:=by simpa using hp
   rw[if_neg hp] at h;have eb:b=b.take 6++b.drop 6:=(List.take_append_drop 6 b).symm;cases e:b.drop 6 with
   | nil=>
    rw[e] at h;cases h;rw[e,List.append_nil] at eb;exact⟨by simp,fun p hm=>by rw[List.mem_singleton.mp hm];exact hp',eb⟩
   | cons c r=>
    rw[e] at h eb;by_cases hc:c=32
    ·subst hc;have h:(patterns k r).map (fun l=>b.take 6::l)=some l:=h;obtain⟨l',h1,rfl⟩:=Option.map_eq_some_iff.mp h;obtain⟨n1,n2,n3⟩:=wK k r l' h1;refine⟨by simp,fun p hm=>?_,?_⟩
     ·rcases List.mem_cons.mp hm with q|q
      ·rw[q];exact hp'
      ·exact n2 p q
     ·rw[tu n1,← n3];exact eb
    ·simp[hc] at h
theorem sx:∀ (k:Nat) (l:List Bytes),l≠[]→(∀ p∈l,isPattern p=true)→l.length≤k→patterns k (joined l)=some l
 | 0,l,hn,_,hk=>absurd (List.length_eq_zero_iff.mp (Nat.le_zero.mp hk)) hn
 | k+1,[],hn,_,_=>absurd rfl hn
 | k+1,[p],_,hp,_=>by
  have h:=hp p (List.mem_cons_self ..);have hl:=gi h;unfold patterns;show(if isPattern (p.take 6)=false then none else match p.drop 6 with | []=>some [p.take 6] | 32::r=>(patterns k r).map fun l=>p.take 6::l|_=>none)=some [p];rw[List.take_of_length_le (by omega),List.drop_of_length_le (by omega),if_neg (by rw[h];decide)]
 | k+1,p::q::r,_,hp,hk=>by
  have h:=hp p (List.mem_cons_self ..);have hl:=gi h;have ih:=sx k (q::r) (by simp) (fun x hx=>hp x (List.mem_cons_of_mem _ hx)) (by simp at hk ⊢;omega);unfold patterns;show(if isPattern ((p++32::joined (q::r)).take 6)=false then none else match (p++32::joined (q::r)).drop 6 with | []=>some [(p++32::joined (q::r)).take 6] | 32::t=>(patterns k t).map fun l=>(p++32::joined (q::r)).take 6::l|_=>none)=some (p::q::r);rw[List.take_append_of_le_length (by omega),List.take_of_length_le (by omega),show(p++32::joined (q::r)).drop 6=32::joined (q::r) by rw[← hl,List.drop_left],if_neg (by rw[h];decide)];show(patterns k (joined (q::r))).map (fun l=>p::l)=_;rw[ih];rfl
theorem abk:∀ {l:List Bytes},l≠[]→(∀ p∈l,isPattern p=true)→(joined l).length+1=7*l.length
 | [],h,_=>absurd rfl h
 | [p],_,hp=>by
  have:=gi (hp p (List.mem_cons_self ..));show p.length+1=7;omega
 | p::q::r,_,hp=>by
  have h1:=gi (hp p (List.mem_cons_self ..));have h2:=abk (l:=q::r) (by simp) (fun x hx=>hp x (List.mem_cons_of_mem _ hx));show(p++32::joined (q::r)).length+1=7*(r.length+1+1);rw[List.length_append,List.length_cons];rw[List.length_cons] at h2;omega
theorem yk {b:Bytes}{l:List Bytes}:patterns (b.length+1) b=some l↔l≠[]∧(∀ p∈l,isPattern p=true)∧b=joined l:=by
 refine⟨wK _ _ _,?_⟩;rintro⟨h1,h2,rfl⟩;have:=abk h1 h2;exact sx _ l h1 h2 (by omega)
inductive Fam (s:St) (n:Nat):Nat→Prop
 | self:Fam s n n
 | step {m:Nat} {p:Piece}:Fam s n m→p∈s.pieces→p.parent=some m→Fam s n p.label
theorem ahQ {s:St}{n m x:Nat}(h:Fam s n m) (h':Fam s m x):Fam s n x:=by
 induction h' with
 | self=>exact h
 | step _ h1 h2 ih=>exact .step ih h1 h2
theorem aa7 {s:St}:∀ (k n x:Nat),x∈family s k n→Fam s n x
 | 0,n,x,h=>by
  have h:x∈[n]:=h;rw[List.mem_singleton.mp h];exact .self
 | k+1,n,x,h=>by
  have h:x∈n::(s.pieces.filter fun p=>p.parent == some n).flatMap fun p=>family s k p.label:=h;rcases List.mem_cons.mp h with e|h
  ·rw[e];exact .self
  ·obtain⟨p,hp,hx⟩:=List.mem_flatMap.mp h;rw[List.mem_filter] at hp;have ih:=aa7 k p.label x hx;have e:p.parent=some n:=by simpa using hp.2
   exact ahQ (.step .self hp.1 e) ih
inductive abW (s:St) (n:Nat):Nat→Nat→Prop
 | self:abW s n 0 n
 | step {k m:Nat} {p:Piece}:abW s n k m→p∈s.pieces→p.parent=some m→abW s n (k+1) p.label
theorem Fam.n {s:St}{n x:Nat}(h:Fam s n x):∃ k,abW s n k x:=by
 induction h with
 | self=>exact⟨0,.self⟩
 | step _ h1 h2 ih=>
  obtain⟨k,hk⟩:=ih;exact⟨k+1,.step hk h1 h2⟩
theorem zt {s:St}:∀ (k n x:Nat),x∈family s k n→x∈family s (k+1) n
 | 0,n,x,h=>by
  have h:x∈[n]:=h;rw[List.mem_singleton.mp h];exact List.mem_cons_self ..
 | k+1,n,x,h=>by
  have h:x∈n::(s.pieces.filter fun p=>p.parent == some n).flatMap fun p=>family s k p.label:=h;show x∈n::(s.pieces.filter fun p=>p.parent == some n).flatMap fun p=>family s (k+1) p.label;rcases List.mem_cons.mp h with e|h
  ·rw[e];exact List.mem_cons_self ..
  ·obtain⟨p,hp,hx⟩:=List.mem_flatMap.mp h;exact List.mem_cons_of_mem _ (List.mem_flatMap.mpr ⟨p,hp,zt k p.label x hx⟩)
theorem zu {s:St}:∀ (k n m:Nat) (p:Piece),m∈family s k n→p∈s.pieces→p.parent=some m→p.label∈family s (k+1) n
 | 0,n,m,p,h,hp,e=>by
  have h:m∈[n]:=h;rw[List.mem_singleton.mp h] at e;show p.label∈n::(s.pieces.filter fun p=>p.parent == some n).flatMap fun p=>family s 0 p.label;exact List.mem_cons_of_mem _ (List.mem_flatMap.mpr ⟨p,List.mem_filter.mpr ⟨hp,by simpa using e⟩,List.mem_cons_self ..⟩)
 | k+1,n,m,p,h,hp,e=>by
  have h:m∈n::(s.pieces.filter fun p=>p.parent == some n).flatMap fun p=>family s k p.label:=h;show p.label∈n::(s.pieces.filter fun p=>p.parent == some n).flatMap fun p=>family s (k+1) p.label;rcases List.mem_cons.mp h with q|h
  ·rw[q] at e;exact List.mem_cons_of_mem _ (List.mem_flatMap.mpr ⟨p,List.mem_filter.mpr ⟨hp,by simpa using e⟩,by unfold family;exact List.mem_cons_self ..⟩)
  ·obtain⟨p',hp',hx⟩:=List.mem_flatMap.mp h;exact List.mem_cons_of_mem _ (List.mem_flatMap.mpr ⟨p',hp',zu k p'.label m p hx hp e⟩)
theorem afr {s:St}{n k x:Nat}(h:abW s n k x):x∈family s k n:=by
 induction h with
 | self=>exact List.mem_cons_self ..
 | step _ h1 h2 ih=>exact zu _ _ _ _ ih h1 h2
theorem abn {l:List Nat}(hN:l.Nodup) {i j x:Nat}(a:l[i]?=some x) (b:l[j]?=some x):i=j:=by
 obtain⟨h1,e1⟩:=List.getElem?_eq_some_iff.mp a;obtain⟨h2,e2⟩:=List.getElem?_eq_some_iff.mp b;exact(List.getElem_inj hN).mp (e1.trans e2.symm)
theorem aa6 {s:St}(O:Ok s) {n k x:Nat}(h:abW s n k x) (i0:Nat) (p0:Piece) (h0:s.pieces[i0]?=some p0) (e0:p0.label=n):∃ i p,s.pieces[i]?=some p∧p.label=x∧i0+k≤i:=by
 induction h with
 | self=>exact⟨i0,p0,h0,e0,Nat.le_refl _⟩
 | @step k m p _ h1 h2 ih=>
  obtain⟨i,q,hq,eq,hi⟩:=ih;obtain⟨j,hj,ej⟩:=List.getElem_of_mem h1;have hp:s.pieces[j]?=some p:=by rw[List.getElem?_eq_getElem hj,ej]
  obtain⟨j',p',hlt,hp',el⟩:=O.par j p m hp h2;have:j'=i:=abn O.nd (x:=m) (by rw[List.getElem?_map,hp'];exact congrArg some el) (by rw[List.getElem?_map,hq];exact congrArg some eq);exact⟨j,p,hp,rfl,by omega⟩
theorem pV {s:St}(O:Ok s) {p0:Piece}(h0:p0∈s.pieces) (x:Nat):x∈family s PIECES p0.label↔Fam s p0.label x:=by
 refine⟨aa7 _ _ _,fun h=>?_⟩;obtain⟨k,hk⟩:=h.n;obtain⟨i0,hi,ei⟩:=List.getElem_of_mem h0;obtain⟨i,p,hp,_,hle⟩:=aa6 O hk i0 p0 (by rw[List.getElem?_eq_getElem hi,ei]) rfl;have:=(List.getElem?_eq_some_iff.mp hp).1;have:=O.few;have up:∀ d j,j+d=40→∀ y,y∈family s j p0.label→y∈family s 40 p0.label:=by
  intro d
  induction d with
  | zero=>intro j e y hy;have:j=40:=(by omega);subst this;exact hy
  | succ d ih=>intro j e y hy;exact ih (j+1) (by omega) y (zt j _ y hy)
 exact up (40-k) k (by omega) x (afr hk)
theorem alB {s:St}(O:Ok s) {p:Piece}(hp:p∈s.pieces) (n:Nat):Fam s n p.label↔p.label=n∨∃ m,p.parent=some m∧Fam s n m:=by
 constructor
 ·intro h;generalize e:p.label=x at h;cases h with
  | self=>exact .inl rfl
  | @step m q h1 h2 h3=>
   refine .inr ⟨m,?_,h1⟩;have:p=q:=by
    obtain⟨i,hi,ei⟩:=List.getElem_of_mem hp;obtain⟨j,hj,ej⟩:=List.getElem_of_mem h2;have:i=j:=abn O.nd (x:=q.label) (by rw[List.getElem?_map,List.getElem?_eq_getElem hi,ei];exact congrArg some e) (by rw[List.getElem?_map,List.getElem?_eq_getElem hj,ej];rfl);subst this;rw[← ei,← ej]
   rw[this];exact h3
 ·rintro (h|⟨m,h1,h2⟩)
  ·rw[h];exact .self
  ·exact .step h2 hp h1
end Wf
namespace Rows
open Vbexam
inductive Form:List Int→Call→Prop
 | sample (k m p:Int):Form [0,k,m,p] (.sample k m p)
 | split (n k m:Int):Form [1,n,k,m] (.split n k m)
 | use (n m:Int):Form [2,n,m] (.use n m)
 | lose (n:Int):Form [3,n] (.lose n)
 | newBox (p:Int):Form [4,p] (.newBox p)
 | put (n b:Int):Form [5,n,b] (.put n b)
 | take (n:Int):Form [6,n] (.take n)
 | nest (b o:Int):Form [7,b,o] (.nest b o)
 | unnest (b:Int):Form [8,b] (.unnest b)
 | lock (b n:Int):Form [9,b,n] (.lock b n)
 | open_ (b n:Int):Form [10,b,n] (.open_ b n)
 | handPiece (n p q:Int):Form [11,n,p,q] (.handPiece n p q)
 | handBox (b p q:Int):Form [12,b,p,q] (.handBox b p q)
 | frost (b f:Int):Form [13,b,f] (.frost b f)
 | pass (m:Int):Form [14,m] (.pass m)
 | piece (n:Int):Form [15,n] (.piece n)
 | box (b:Int):Form [16,b] (.box b)
 | manifest (b:Int):Form [17,b] (.manifest b)
 | sums (n:Int):Form [18,n] (.sums n)
 | read (t:List Int) (h:t.length≤98):Form (19::(t.length:Int)::t) (.read t)
 | best (b:Int) (t:List Int) (h:t.length≤97):Form (20::b::(t.length:Int)::t) (.best b t)
 | sure (b:Int) (t:List Int) (h:t.length≤97):Form (21::b::(t.length:Int)::t) (.sure b t)
 | cover (b:Int) (t:List Int) (h:t.length≤97):Form (22::b::(t.length:Int)::t) (.cover b t)
 | chain (n:Int):Form [23,n] (.chain n)
 | warm (m:Int):Form [24,m] (.warm m)
 | label (k:Int):Form [25,k] (.label k)
theorem yS (t:List Int):cut ((t.length:Int)::t)=some (t,[]):=by
 unfold cut;simp
theorem ajD {l:List Int}{x r:List Int}(h:PyFlat.row l=some (x,r)):l=(x.length:Int)::(x++r):=by
 cases l with
 | nil=>cases h
 | cons n l=>
  unfold PyFlat.row at h;dsimp only at h;by_cases c:0≤n∧n.toNat≤l.length
  ·simp only[if_pos c,Option.some.injEq,Prod.mk.injEq] at h;obtain⟨rfl,rfl⟩:=h;rw[List.take_append_drop,List.length_take,Nat.min_eq_left c.2];rw[Int.toNat_of_nonneg c.1]
  ·rw[if_neg c] at h;cases h
theorem akd {l:List Int}{xs:List (List Int)}{r:List Int}(h:PyFlat.rows 1 l=some (xs,r)):∃ x,xs = [x]∧l=(x.length:Int)::(x++r):=by
 unfold PyFlat.rows at h;cases e:PyFlat.row l with
 | none=>rw[e] at h;cases h
 | some y=>
  obtain⟨x,r'⟩:=y;rw[e] at h;have h:some (x::[],r')=some (xs,r):=h;cases h;exact⟨x,rfl,ajD e⟩
theorem take1 {r:List Int}(h:¬ r.length<1):∃ a,r.take 1 = [a]∧r=a::r.drop 1:=by
 match r,h with
 | a::r,_=>exact⟨a,rfl,rfl⟩
theorem take2 {r:List Int}(h:¬ r.length<2):∃ a b,r.take 2 = [a,b]∧r=a::b::r.drop 2:=by
 match r,h with
 | a::b::r,_=>exact⟨a,b,rfl,rfl⟩
 | [_],h=>exact absurd (by simp) h
theorem take3 {r:List Int}(h:¬ r.length<3):∃ a b c,r.take 3 = [a,b,c]∧r=a::b::c::r.drop 3:=by
 match r,h with
 | a::b::c::r,_=>exact⟨a,b,c,rfl,rfl⟩
 | [_],h=>exact absurd (by simp) h
 | [_,_],h=>exact absurd (by simp) h
structure Is (l:List Int) (c:List (List Int)) (t w:List Int) (x:Call):Prop where
 eq:l=w++t
 anw:Form w x
 does:∀ s,VbexamNeutral.step s (PyVbexam.whole c)=Vbexam.step s x
theorem shaped {p:Int}{n k:Nat}{r:List Int}{c:List (List Int)}{t:List Int}(hs:PyVbexam.shape p=some (n,k)) (h:PyFlat.call PyVbexam.shape (p::r)=some (c,t)):¬ r.length<n∧∃ xs,PyFlat.rows k (r.drop n)=some (xs,t)∧c=(p::r.take n)::xs:=by
 unfold PyFlat.call at h;dsimp only at h;rw[hs] at h;dsimp only at h;by_cases q:r.length<n
 ·rw[if_pos q] at h;cases h
 ·rw[if_neg q] at h;cases e:PyFlat.rows k (r.drop n) with
  | none=>rw[e] at h;cases h
  | some y=>
   obtain⟨xs,t'⟩:=y;rw[e] at h;cases h;exact⟨q,xs,rfl,rfl⟩
theorem amT {p:Int}{r:List Int}{c:List (List Int)}{t:List Int}(hs:PyVbexam.shape p=some (1,0)) (h:PyFlat.call PyVbexam.shape (p::r)=some (c,t)):∃ a,p::r = [p,a]++t∧c = [[p,a]]:=by
 obtain⟨q,xs,e,ec⟩:=shaped hs h;cases e;obtain⟨a,e1,e2⟩:=take1 q;exact⟨a,by rw[e2];rfl,by rw[ec,e1]⟩
theorem amU {p:Int}{r:List Int}{c:List (List Int)}{t:List Int}(hs:PyVbexam.shape p=some (2,0)) (h:PyFlat.call PyVbexam.shape (p::r)=some (c,t)):∃ a b,p::r = [p,a,b]++t∧c = [[p,a,b]]:=by
 obtain⟨q,xs,e,ec⟩:=shaped hs h;cases e;obtain⟨a,b,e1,e2⟩:=take2 q;exact⟨a,b,by rw[e2];rfl,by rw[ec,e1]⟩
theorem amV {p:Int}{r:List Int}{c:List (List Int)}{t:List Int}(hs:PyVbexam.shape p=some (3,0)) (h:PyFlat.call PyVbexam.shape (p::r)=some (c,t)):∃ a b d,p::r = [p,a,b,d]++t∧c = [[p,a,b,d]]:=by
 obtain⟨q,xs,e,ec⟩:=shaped hs h;cases e;obtain⟨a,b,d,e1,e2⟩:=take3 q;exact⟨a,b,d,by rw[e2];rfl,by rw[ec,e1]⟩
theorem amW {p:Int}{r:List Int}{c:List (List Int)}{t:List Int}(hs:PyVbexam.shape p=some (0,1)) (h:PyFlat.call PyVbexam.shape (p::r)=some (c,t)):∃ x,p::r=(p::(x.length:Int)::x)++t∧c = [[p],x]:=by
 obtain⟨q,xs,e,ec⟩:=shaped hs h;obtain⟨x,e1,e2⟩:=akd e;refine⟨x,?_,by rw[ec,e1];rfl⟩;rw[List.drop_zero] at e2;rw[e2];rfl
theorem ad6 {p:Int}{r:List Int}{c:List (List Int)}{t:List Int}(hs:PyVbexam.shape p=some (1,1)) (h:PyFlat.call PyVbexam.shape (p::r)=some (c,t)):∃ a x,p::r=(p::a::(x.length:Int)::x)++t∧c = [[p,a],x]:=by
 obtain⟨q,xs,e,ec⟩:=shaped hs h;obtain⟨x,e1,e2⟩:=akd e;obtain⟨a,e3,e4⟩:=take1 q;refine⟨a,x,?_,by rw[ec,e1,e3]⟩;rw[e4,e2];rfl
theorem ajj {x:List Int}(h:PyInside.call PyVbexam.bound [[19],x]=true):x.length≤98:=by
 simp[PyInside.call,PyVbexam.bound,PyInside.each,PyInside.lists] at h;exact h.1
theorem ajk {a:Int}{x:List Int}(h:PyInside.call PyVbexam.bound [[20,a],x]=true):x.length≤97:=by
 simp[PyInside.call,PyVbexam.bound,PyInside.each,PyInside.lists] at h;exact h.2.1
theorem ajl {a:Int}{x:List Int}(h:PyInside.call PyVbexam.bound [[21,a],x]=true):x.length≤97:=by
 simp[PyInside.call,PyVbexam.bound,PyInside.each,PyInside.lists] at h;exact h.2.1
theorem ajm {a:Int}{x:List Int}(h:PyInside.call PyVbexam.bound [[22,a],x]=true):x.length≤97:=by
 simp[PyInside.call,PyVbexam.bound,PyInside.each,PyInside.lists] at h;exact h.2.1
theorem amP (b:Int) (t:List Int):decode (20::b::(t.length:Int)::t)=some (.best b t):=by
 show(match cut ((t.length:Int)::t) with|some (t,[])=>some (Call.best b t)|_=>none)=_;rw[yS]
theorem amQ (b:Int) (t:List Int):decode (21::b::(t.length:Int)::t)=some (.sure b t):=by
 show(match cut ((t.length:Int)::t) with|some (t,[])=>some (Call.sure b t)|_=>none)=_;rw[yS]
theorem amR (b:Int) (t:List Int):decode (22::b::(t.length:Int)::t)=some (.cover b t):=by
 show(match cut ((t.length:Int)::t) with|some (t,[])=>some (Call.cover b t)|_=>none)=_;rw[yS]
theorem amO (t:List Int):decode (19::(t.length:Int)::t)=some (.read t):=by
 show(match cut ((t.length:Int)::t) with|some (t,[])=>some (Call.read t)|_=>none)=_;rw[yS]
theorem adC {s:St}{l:List Int}{x:Call}(h:decode l=some x):Vbexam.does s l=Vbexam.step s x:=by
 unfold Vbexam.does;rw[h]
theorem is1 {p:Int}{r:List Int}{c:List (List Int)}{t:List Int}(hs:PyVbexam.shape p=some (1,0)) (h:PyFlat.call PyVbexam.shape (p::r)=some (c,t)) (mk:Int→Call) (hf:∀ a,Form [p,a] (mk a)) (hd:∀ a s,VbexamNeutral.step s (PyVbexam.whole [[p,a]])=Vbexam.step s (mk a)):∃ w x,Is (p::r) c t w x:=by
 obtain⟨a,e,ec⟩:=amT hs h;exact⟨_,_,e,hf a,fun s=>by rw[ec];exact hd a s⟩
theorem is2 {p:Int}{r:List Int}{c:List (List Int)}{t:List Int}(hs:PyVbexam.shape p=some (2,0)) (h:PyFlat.call PyVbexam.shape (p::r)=some (c,t)) (mk:Int→Int→Call) (hf:∀ a b,Form [p,a,b] (mk a b)) (hd:∀ a b s,VbexamNeutral.step s (PyVbexam.whole [[p,a,b]])=Vbexam.step s (mk a b)):∃ w x,Is (p::r) c t w x:=by
 obtain⟨a,b,e,ec⟩:=amU hs h;exact⟨_,_,e,hf a b,fun s=>by rw[ec];exact hd a b s⟩
theorem is3 {p:Int}{r:List Int}{c:List (List Int)}{t:List Int}(hs:PyVbexam.shape p=some (3,0)) (h:PyFlat.call PyVbexam.shape (p::r)=some (c,t)) (mk:Int→Int→Int→Call) (hf:∀ a b d,Form [p,a,b,d] (mk a b d)) (hd:∀ a b d s,VbexamNeutral.step s (PyVbexam.whole [[p,a,b,d]])=Vbexam.step s (mk a b d)):∃ w x,Is (p::r) c t w x:=by
 obtain⟨a,b,d,e,ec⟩:=amV hs h;exact⟨_,_,e,hf a b d,fun s=>by rw[ec];exact hd a b d s⟩
theorem afQ {p:Int}(h:PyVbexam.shape p≠none):0≤p∧p≤25:=by
 refine Classical.byContradiction fun q=>h ?_;unfold PyVbexam.shape
 repeat rw[if_neg (by omega)]
theorem akm {l:List Int}{c:List (List Int)}{t:List Int}(h:PyFlat.call PyVbexam.shape l=some (c,t)) (hb:PyInside.call PyVbexam.bound c=true):∃ w x,Is l c t w x:=by
 cases l with
 | nil=>cases h
 | cons p r=>
  have hp:0≤p∧p≤25:=afQ fun e=>by
   unfold PyFlat.call at h;dsimp only at h;rw[e] at h;cases h
  obtain⟨j,hj,ej⟩:∃ j:Nat,j≤25∧p=(j:Int):=⟨p.toNat,by omega,by omega⟩;subst ej
  match j,hj,h with
  | 0,_,h=>exact is3 rfl h Call.sample Form.sample fun _ _ _ _=>rfl
  | 1,_,h=>exact is3 rfl h Call.split Form.split fun _ _ _ _=>rfl
  | 2,_,h=>exact is2 rfl h Call.use Form.use fun _ _ _=>rfl
  | 3,_,h=>exact is1 rfl h Call.lose Form.lose fun _ _=>rfl
  | 4,_,h=>exact is1 rfl h Call.newBox Form.newBox fun _ _=>rfl
  | 5,_,h=>exact is2 rfl h Call.put Form.put fun _ _ _=>rfl
  | 6,_,h=>exact is1 rfl h Call.take Form.take fun _ _=>rfl
  | 7,_,h=>exact is2 rfl h Call.nest Form.nest fun _ _ _=>rfl
  | 8,_,h=>exact is1 rfl h Call.unnest Form.unnest fun _ _=>rfl
  | 9,_,h=>exact is2 rfl h Call.lock Form.lock fun _ _ _=>rfl
  | 10,_,h=>exact is2 rfl h Call.open_ Form.open_ fun _ _ _=>rfl
  | 11,_,h=>exact is3 rfl h Call.handPiece Form.handPiece fun _ _ _ _=>rfl
  | 12,_,h=>exact is3 rfl h Call.handBox Form.handBox fun _ _ _ _=>rfl
  | 13,_,h=>exact is2 rfl h Call.frost Form.frost fun _ _ _=>rfl
  | 14,_,h=>exact is1 rfl h Call.pass Form.pass fun _ _=>rfl
  | 15,_,h=>exact is1 rfl h Call.piece Form.piece fun _ _=>rfl
  | 16,_,h=>exact is1 rfl h Call.box Form.box fun _ _=>rfl
  | 17,_,h=>exact is1 rfl h Call.manifest Form.manifest fun _ _=>rfl
  | 18,_,h=>exact is1 rfl h Call.sums Form.sums fun _ _=>rfl
  | 19,_,h=>
   obtain⟨x,e,ec⟩:=amW rfl h;subst ec;exact⟨_,_,e,Form.read x (ajj hb),fun s=>adC (amO x)⟩
  | 20,_,h=>
   obtain⟨b,x,e,ec⟩:=ad6 rfl h;subst ec;exact⟨_,_,e,Form.best b x (ajk hb),fun s=>adC (amP b x)⟩
  | 21,_,h=>
   obtain⟨b,x,e,ec⟩:=ad6 rfl h;subst ec;exact⟨_,_,e,Form.sure b x (ajl hb),fun s=>adC (amQ b x)⟩
  | 22,_,h=>
   obtain⟨b,x,e,ec⟩:=ad6 rfl h;subst ec;exact⟨_,_,e,Form.cover b x (ajm hb),fun s=>adC (amR b x)⟩
  | 23,_,h=>exact is1 rfl h Call.chain Form.chain fun _ _=>rfl
  | 24,_,h=>exact is1 rfl h Call.warm Form.warm fun _ _=>rfl
  | 25,_,h=>exact is1 rfl h Call.label Form.label fun _ _=>rfl
  | j+26,hj,_=>omega
inductive Reads:List Int→List (List Int×Call)→Prop
 | nil:Reads [] []
 | cons {w t:List Int} {x:Call} {cs:List (List Int×Call)}:Form w x→Reads t cs→Reads (w++t) ((w,x)::cs)
def told (s:St):List (List Int×Call)→List Int
 | []=>[]
 | (_,x)::cs=>((Vbexam.step s x).2.length:Int)::(Vbexam.step s x).2++told (Vbexam.step s x).1 cs
theorem zf:∀ (f:Nat) {l:List Int}{raw:List (List (List Int))},PyFlat.calls PyVbexam.shape f l=some raw→PyInside.calls PyVbexam.bound raw=true →
  ∃ cs,Reads l cs∧cs.length=raw.length∧∀ s,PyFlat.told (PyFlat.played VbexamNeutral.step s (raw.map PyVbexam.whole))=told s cs
 | f,[],raw,h,_=>by
  have:raw = []:=by cases f <;> cases h <;> rfl
  subst this;exact⟨[],.nil,rfl,fun s=>rfl⟩
 | 0,p::r,raw,h,_=>by cases h
 | f+1,p::r,raw,h,hb=>by
  unfold PyFlat.calls at h;cases e:PyFlat.call PyVbexam.shape (p::r) with
  | none=>rw[e] at h;cases h
  | some y=>
   obtain⟨c,t⟩:=y;rw[e] at h;simp only at h;cases e2:PyFlat.calls PyVbexam.shape f t with
   | none=>rw[e2] at h;cases h
   | some raw'=>
    rw[e2] at h;cases h;have hb':(PyInside.call PyVbexam.bound c&&raw'.all (PyInside.call PyVbexam.bound))=true:=by
     have:(c::raw').all (PyInside.call PyVbexam.bound)=true:=hb
     rwa [List.all_cons] at this
    obtain⟨h1,h2⟩:=Bool.and_eq_true _ _ |>.mp hb';obtain⟨cs,R,el,ht⟩:=zf f e2 h2;obtain⟨w,x,I⟩:=akm e h1;refine⟨(w,x)::cs,I.eq ▸ .cons I.anw R,by rw[List.length_cons,List.length_cons,el],fun s=>?_⟩;have hd:=I.does s;show((((VbexamNeutral.step s (PyVbexam.whole c)).2).length:Int)::(VbexamNeutral.step s (PyVbexam.whole c)).2)++PyFlat.told (PyFlat.played VbexamNeutral.step (VbexamNeutral.step s (PyVbexam.whole c)).1 (raw'.map PyVbexam.whole))=_;rw[ht,hd];rfl
theorem afj {l:List Int}(h:PyVbexam.answers_asked l=true):∃ cs,Reads l cs∧cs.length≤200∧PyVbexam.answers l=told start cs∧(told start cs).length≤10000000:=by
 unfold PyVbexam.answers_asked at h;cases e:PyFlat.calls PyVbexam.shape l.length l with
 | none=>rw[e] at h;cases h
 | some raw=>
  rw[e] at h;simp only[Bool.and_eq_true] at h;obtain⟨⟨⟨⟨h1,h2⟩,h3⟩,h4⟩,h5⟩:=h;obtain⟨cs,R,el,ht⟩:=zf l.length e h3;have ea:PyVbexam.answers l=told start cs:=by
   unfold PyVbexam.answers PyVbexam.calls;rw[e];exact ht _
  refine⟨cs,R,?_,ea,?_⟩
  ·rw[el];unfold PyFlat.atMost at h2;exact of_decide_eq_true h2
  ·rw[← ea];unfold PyFlat.short at h5;exact of_decide_eq_true h5
end Rows
namespace Mt
open Vbexam
theorem l7 {g:Graph}{n:Nat}(hg:∀ i,∀ c∈g.getD i [],c<n):∀ (k:Nat) (m:Match) (seen:List Nat) (i:Nat) (cands:List Nat),seen.Nodup→(∀ c∈seen,c<n)→(∀ c∈cands,c<n) →
  ((augment g k m seen i cands).1=false→(augment g k m seen i cands).2.1=m)∧(augment g k m seen i cands).2.2.Nodup∧(∀ c∈(augment g k m seen i cands).2.2,c<n)∧seen.length≤(augment g k m seen i cands).2.2.length∧(augment g k m seen i cands).2.1.length=m.length
 | 0,m,seen,i,cands,hn,hs,_=>⟨fun _=>rfl,hn,hs,Nat.le_refl _,rfl⟩
 | k+1,m,seen,i,[],hn,hs,_=>⟨fun _=>rfl,hn,hs,Nat.le_refl _,rfl⟩
 | k+1,m,seen,i,c::r,hn,hs,hc=>by
  have hcn:c<n:=hc c (List.mem_cons_self ..);have hr:∀ d∈r,d<n:=fun d hd=>hc d (List.mem_cons_of_mem _ hd);unfold augment;by_cases h1:seen.contains c=true
  ·rw[if_pos h1];exact l7 hg k m seen i r hn hs hr
  ·rw[if_neg h1];have nc:c ∉ seen:=fun q=>h1 (List.contains_iff_mem.mpr q);have n1:(c::seen).Nodup:=List.nodup_cons.mpr ⟨nc,hn⟩;have s1:∀ d∈c::seen,d<n:=fun d hd=>(List.mem_cons.mp hd).elim (fun e=>e ▸ hcn) (hs d);by_cases h2:m.getD c 0=0
   ·simp only[h2,if_true];exact⟨fun h=>(by simp at h),n1,s1,by simp,by simp⟩
   ·simp only[h2,if_false];have A:=l7 hg k m (c::seen) (m.getD c 0-1) (g.getD (m.getD c 0-1) []) n1 s1 (hg _);generalize augment g k m (c::seen) (m.getD c 0-1) (g.getD (m.getD c 0-1) [])=x at A;obtain⟨a1,a2,a3,a4,a5⟩:=A;have a4:seen.length+1≤x.2.2.length:=a4;cases h3:x.1 with
    | true=>exact⟨fun h=>(by simp at h),a2,a3,(by show seen.length≤x.2.2.length;omega),(by simp[a5])⟩
    | false=>
     simp only[Bool.false_eq_true,if_false];obtain⟨b1,b2,b3,b4,b5⟩:=l7 hg k x.2.1 x.2.2 i r a2 a3 hr;exact⟨fun h=>(b1 h).trans (a1 h3),b2,b3,by omega,b5.trans a5⟩
structure Ml (ml:List (Nat×Nat)) (m:Match):Prop where
 nd:(ml.map fun p=>p.1).Nodup
 iff:∀ j i,(j,i)∈ml↔m.getD j 0=i+1
def ahb (ml:List (Nat×Nat)) (j i:Nat):List (Nat×Nat):=if ml.any (fun p=>p.1 == j)=true then ml.map fun p=>if p.1=j then (j,i) else p else ml++[(j,i)]
theorem Ml.nil {n:Nat}:Ml [] (List.replicate n 0):=⟨List.nodup_nil,fun j i=>by rw[t6];simp⟩
theorem Ml.put {ml:List (Nat×Nat)}{m:Match}(M:Ml ml m) {j i:Nat}(hj:j<m.length):Ml (ahb ml j i) (m.set j (i+1)):=by
 unfold ahb;by_cases h:ml.any (fun p=>p.1 == j)=true
 ·rw[if_pos h];have e:(ml.map fun p=>if p.1=j then (j,i) else p).map (fun p=>p.1)=ml.map fun p=>p.1:=by
   rw[List.map_map];refine List.map_congr_left fun p _=>?_;show(if p.1=j then (j,i) else p).1=p.1;by_cases q:p.1=j
   ·rw[if_pos q];exact q.symm
   ·rw[if_neg q]
  refine⟨by rw[e];exact M.nd,fun a b=>?_⟩;rw[ng,List.mem_map];obtain⟨p0,hp0,e0⟩:=List.any_eq_true.mp h;have e0:p0.1=j:=by simpa using e0
  constructor
  ·rintro⟨p,hp,e⟩;by_cases q:p.1=j
   ·rw[if_pos q] at e;cases e;rw[if_pos ⟨rfl,hj⟩]
   ·rw[if_neg q] at e;subst e;rw[if_neg (fun z=>q z.1.symm)];exact(M.iff a b).mp hp
  ·intro z;by_cases q:j=a
   ·rw[if_pos ⟨q,hj⟩] at z;refine⟨p0,hp0,?_⟩;rw[if_pos e0,← q,show i=b by omega]
   ·rw[if_neg (fun w=>q w.1)] at z;exact⟨(a,b),(M.iff a b).mpr z,if_neg fun w=>q w.symm⟩
 ·rw[if_neg h];have nj:∀ b,(j,b) ∉ ml:=fun b q=>h (List.any_eq_true.mpr ⟨_,q,by simp⟩);refine⟨?_,fun a b=>?_⟩
  ·rw[List.map_append];refine List.nodup_append.mpr ⟨M.nd,by simp,fun x hx y hy e=>?_⟩;obtain⟨p,hp,ep⟩:=List.mem_map.mp hx;have:y=j:=by simpa using hy
   refine nj p.2 ?_;rw[← this,← e,← ep];exact hp
  ·rw[ng,List.mem_append];by_cases q:j=a
   ·subst q;rw[if_pos ⟨rfl,hj⟩];constructor
    ·rintro (z|z)
     ·exact absurd z (nj b)
     ·have:b=i:=by simpa using z
      rw[this]
    ·intro z;refine .inr ?_;simp;omega
   ·rw[if_neg (fun w=>q w.1)];constructor
    ·rintro (z|z)
     ·exact(M.iff a b).mp z
     ·have:a=j∧b=i:=by simpa using z
      exact absurd this.1.symm q
    ·intro z;exact .inl ((M.iff a b).mpr z)
theorem Ml.length {ml:List (Nat×Nat)}{m:Match}(M:Ml ml m):ml.length=(m.filter fun x=>x != 0).length:=by
 rw[← vh m];have h1:(ml.map fun p=>p.1).length=ml.length:=List.length_map _;rw[← h1];refine Nat.le_antisymm (bZ M.nd fun x hx=>?_) (bZ (zL (m:=m)) fun x hx=>?_)
 ·obtain⟨p,hp,e⟩:=List.mem_map.mp hx;refine hJ.mpr ?_;have:=(M.iff p.1 p.2).mp hp;rw[← e];omega
 ·have:=hJ.mp hx;refine List.mem_map.mpr ⟨(x,m.getD x 0-1),(M.iff _ _).mpr (by omega),rfl⟩
theorem Ml.look {ml:List (Nat×Nat)}{m:Match}(M:Ml ml m) (j:Nat):(ml.find? fun p=>p.1 == j)=if m.getD j 0=0 then none else some (j,m.getD j 0-1):=by
 by_cases h:m.getD j 0=0
 ·rw[if_pos h,List.find?_eq_none];intro p hp q;have q:p.1=j:=by simpa using q
  have:=(M.iff p.1 p.2).mp hp;rw[q] at this;omega
 ·rw[if_neg h];have hm:(j,m.getD j 0-1)∈ml:=(M.iff _ _).mpr (by omega);cases e:ml.find? fun p=>p.1 == j with
  | none=>exact absurd (by simp) (List.find?_eq_none.mp e _ hm)
  | some p=>
   have h1:=List.find?_some e;have h1:p.1=j:=by simpa using h1
   have h2:=(M.iff p.1 p.2).mp (List.mem_of_find?_eq_some e);rw[h1] at h2;have:p=(p.1,p.2):=rfl;rw[this,h1,h2];rfl
theorem tF {g:Graph}{n:Nat}(W:Within g n):(matched g n).length=n:=(rD W).good.len
theorem ahH {g:Graph}{f:Nat→Option Nat}(B:c6 g f) {i j:Nat}(hi:i<g.length) (hj:j∈g.getD i []):∃ h,c6 g h∧∃ x,h x=some j:=by
 by_cases e:∃ x,f x=some j
 ·exact⟨f,B,e⟩
 ·have free:∀ x,f x≠some j:=fun x q=>e ⟨x,q⟩;cases fi:f i with
  | none=>exact(aaf B hi fi hj free).elim
  | some j'=>
   refine⟨more (less f i) i j,?_,i,if_pos rfl⟩;have M1:=af9 B.mg i;have free1:∀ x,less f i x≠some j:=fun x q=>by
    unfold less at q;by_cases z:x=i
    ·rw[if_pos z] at q;cases q
    ·rw[if_neg z] at q;exact free x q
   have M2:=aga M1 hi hj oy free1;have c1:dk g (more (less f i) i j)=dk g (less f i)+1:=rM hi oy;have c2:dk g (more (less f i) i j')=dk g (less f i)+1:=rM hi oy;rw[acU fi] at c2;exact B.max.best M2 (by rw[c1,c2])
theorem agD {g:Graph}{f:Nat→Option Nat}(B:c6 g f) {i j:Nat}(hi:i<g.length) (hj:j∈g.getD i []):∃ h,c6 g h∧∃ y,h i=some y:=by
 cases fi:f i with
 | some y=>exact⟨f,B,y,fi⟩
 | none=>
  by_cases e:∃ x,f x=some j
  ·obtain⟨x,hx⟩:=e;exact⟨turn f i j x,ac7 B hi fi hj hx,j,if_pos rfl⟩
  ·exact(aaf B hi fi hj fun x q=>e ⟨x,q⟩).elim
theorem adj {g:Graph}{n:Nat}(W:Within g n) (j:Nat):(!((List.range g.length).any fun i=>may g n i j)) = !(g.any fun l=>l.contains j):=by
 have h1:=aet W j;rw[Bool.eq_iff_iff,h1];obtain⟨_,B⟩:=eI W;constructor
 ·intro h;cases e:g.any fun l=>l.contains j with
  | false=>rfl
  | true=>
   obtain⟨l,hl,hj⟩:=List.any_eq_true.mp e;obtain⟨i,hi,ei⟩:=List.getElem_of_mem hl;have hj:j∈g.getD i []:=by
    rw[List.getD_eq_getElem?_getD,List.getElem?_eq_getElem hi,ei];exact List.contains_iff_mem.mp hj
   obtain⟨h',B',x,hx⟩:=ahH B hi hj;exact absurd hx (h h' B' x)
 ·intro e f Bf i q;obtain⟨hi,hj⟩:=Bf.mg.bu i j q;have:g.any (fun l=>l.contains j)=true:=List.any_eq_true.mpr ⟨g.getD i [],by
   rw[List.getD_eq_getElem?_getD,List.getElem?_eq_getElem hi];exact List.getElem_mem hi,List.contains_iff_mem.mpr hj⟩
  rw[this] at e;cases e
theorem adg {g:Graph}{n:Nat}(W:Within g n) (i:Nat) (hi:i<g.length):(!((g.getD i []).any fun j=>may g n i j))=decide ((g.getD i []).length=0):=by
 have h1:=ad8 W i hi;rw[Bool.eq_iff_iff,h1];obtain⟨_,B⟩:=eI W;rw[decide_eq_true_iff];constructor
 ·intro h;cases e:g.getD i [] with
  | nil=>rfl
  | cons j r=>
   obtain⟨h',B',y,hy⟩:=agD B hi (j:=j) (by rw[e];exact List.mem_cons_self ..);rw[h h' B'] at hy;cases hy
 ·intro e f Bf;cases q:f i with
  | none=>rfl
  | some j=>
   have:=(Bf.mg.bu i j q).2;rw[List.length_eq_zero_iff.mp e] at this;cases this
theorem z6 {a b:Graph}(h:a.length=b.length) (e:∀ x,a.getD x []=b.getD x []):a=b:=by
 refine List.ext_getElem? fun x=>?_;have:=e x;rw[List.getD_eq_getElem?_getD,List.getD_eq_getElem?_getD] at this;by_cases hx:x<a.length
 ·rw[List.getElem?_eq_getElem hx,List.getElem?_eq_getElem (h ▸ hx)] at this ⊢;exact congrArg some this
 ·rw[List.getElem?_eq_none (Nat.le_of_not_lt hx),List.getElem?_eq_none (by omega)]
theorem drop_getD {g:Graph}{i x:Nat}:(g.drop i).getD x []=g.getD (i+x) []:=by
 rw[List.getD_eq_getElem?_getD,List.getD_eq_getElem?_getD,List.getElem?_drop]
theorem Within.drop {g:Graph}{n:Nat}(W:Within g n) (i:Nat):Within (g.drop i) n:=⟨W.few,fun x c hc=>by
 rw[drop_getD] at hc;exact W.lt _ c hc,fun x=>by
 rw[drop_getD];exact W.nodup _⟩
theorem size_drop {g:Graph}{n i:Nat}(W:Within g n) (hi:i≤g.length) (he:∀ x,x<i→g.getD x [] = []):size (g.drop i) n=size g n:=by
 have S:=cT W;have T:=cT (W.drop i);have len:(g.drop i).length=g.length-i:=List.length_drop;refine Nat.le_antisymm ?_ ?_
 ·obtain⟨f,M,c⟩:=T.some;have M':Mg g (fun x=>if x<i then none else f (x-i)):=by
   refine⟨fun x j e=>?_,fun x y j e e'=>?_⟩
   ·by_cases h:x<i
    ·rw[if_pos h] at e;cases e
    ·rw[if_neg h] at e;obtain⟨h1,h2⟩:=M.bu _ _ e;rw[drop_getD,show i+(x-i)=x by omega] at h2;exact⟨by omega,h2⟩
   ·by_cases h:x<i
    ·rw[if_pos h] at e;cases e
    ·by_cases h':y<i
     ·rw[if_pos h'] at e';cases e'
     ·rw[if_neg h] at e;rw[if_neg h'] at e';have:=M.inj _ _ _ e e';omega
  have:=S.most _ M';rw[← c];refine Nat.le_trans (vd (fun x=>i+x) (fun x _ y _ e=>by omega) fun x hx=>?_) this;obtain⟨h1,j,hj⟩:=a9.mp hx;refine a9.mpr ⟨by omega,j,?_⟩;show(if i+x<i then none else f (i+x-i))=some j;rw[if_neg (by omega),show i+x-i=x by omega];exact hj
 ·obtain⟨f,M,c⟩:=S.some;have lo:∀ x j,f x=some j→i≤x:=fun x j e=>by
   refine Nat.le_of_not_lt fun h=>?_;have:=(M.bu x j e).2;rw[he x h] at this;cases this
  have M':Mg (g.drop i) (fun x=>f (i+x)):=by
   refine⟨fun x j e=>?_,fun x y j e e'=>?_⟩
   ·obtain⟨h1,h2⟩:=M.bu _ _ e;rw[drop_getD];exact⟨by omega,h2⟩
   ·have:=M.inj _ _ _ e e';omega
  have:=T.most _ M';rw[← c];refine Nat.le_trans (vd (fun x=>x-i) (fun x hx y hy e=>?_) fun x hx=>?_) this
  ·obtain⟨_,j,hj⟩:=a9.mp hx;obtain⟨_,j',hj'⟩:=a9.mp hy;have:=lo x j hj;have:=lo y j' hj';omega
  ·obtain⟨h1,j,hj⟩:=a9.mp hx;have:=lo x j hj;refine a9.mpr ⟨by omega,j,?_⟩;show f (i+(x-i))=some j;rw[show i+(x-i)=x by omega];exact hj
def pick (n:Nat) (l:List Nat) (r:Graph) (most:Nat):Option Nat:=l.find? fun j=>1+size (dropCode r j) n == most
def c4 (n:Nat):Nat→Graph→Nat→List Nat
 | 0,_,_=>[]
 | _+1,[],_=>[]
 | k+1,l::r,most=>match pick n l r most with
  | some j=>(j+1)::c4 n k (dropCode r j) (most-1)
  | none=>0::c4 n k r most
theorem ye {n:Nat}:∀ (k i:Nat) (g:Graph) (best:Nat),Within g n→i+k=g.length→(∀ x,x<i→g.getD x [] = [])→first n g best (List.range' i k)=c4 n k (g.drop i) best
 | 0,i,g,best,W,hk,he=>rfl
 | k+1,i,g,best,W,hk,he=>by
  have hi:i<g.length:=by omega
  have hd:g.drop i=g.getD i []::g.drop (i+1):=by
   rw[List.drop_eq_getElem_cons hi,List.getD_eq_getElem?_getD,List.getElem?_eq_getElem hi];rfl
  rw[List.range'_succ,hd];have e1:∀ j,(dropCode (dropFound g i) j).drop (i+1)=dropCode (g.drop (i+1)) j:=fun j=>by
   refine z6 ?_ fun x=>?_
   ·rw[List.length_drop,cD,b6,cD,List.length_drop]
   ·rw[drop_getD,dg,dg,drop_getD,cw,if_neg (by omega)]
  have e0:(dropFound g i).drop (i+1)=g.drop (i+1):=by
   refine z6 ?_ fun x=>?_
   ·rw[List.length_drop,b6,List.length_drop]
   ·rw[drop_getD,drop_getD,cw,if_neg (by omega)]
  have z0:∀ x,x<i+1→(dropFound g i).getD x [] = []:=fun x hx=>by
   rw[cw];by_cases q:x=i
   ·rw[if_pos q]
   ·rw[if_neg q];exact he x (by omega)
  have z1:∀ j x,x<i+1→(dropCode (dropFound g i) j).getD x [] = []:=fun j x hx=>by
   rw[dg,z0 x hx];rfl
  have es:∀ j,size (dropCode (dropFound g i) j) n=size (dropCode (g.drop (i+1)) j) n:=fun j=>by
   rw[← e1 j];refine(size_drop ((W.found i).code j) ?_ (z1 j)).symm;rw[cD,b6];omega
  show(match (g.getD i []).find? fun j=>1+size (dropCode (dropFound g i) j) n == best with
   | some j=>(j+1)::first n (dropCode (dropFound g i) j) (best-1) (List.range' (i+1) k)
   | none=>0::first n (dropFound g i) best (List.range' (i+1) k))=(match pick n (g.getD i []) (g.drop (i+1)) best with
  | some j=>(j+1)::c4 n k (dropCode (g.drop (i+1)) j) (best-1)
  | none=>0::c4 n k (g.drop (i+1)) best)
  have ep:((g.getD i []).find? fun j=>1+size (dropCode (dropFound g i) j) n == best)=pick n (g.getD i []) (g.drop (i+1)) best:=by
   unfold pick;congr 1;funext j;rw[es j]
  rw[ep];cases pick n (g.getD i []) (g.drop (i+1)) best with
  | some j=>
   show(j+1)::_=(j+1)::_;rw[ye k (i+1) _ _ ((W.found i).code j) (by rw[cD,b6];omega) (z1 j),e1 j]
  | none=>
   show 0::_=0::_;rw[ye k (i+1) _ _ (W.found i) (by rw[b6];omega) z0,e0]
theorem adf {g:Graph}{n:Nat}(W:Within g n):firstMatch g n=c4 n g.length g (size g n):=by
 unfold firstMatch;rw[List.range_eq_range',ye g.length 0 g (size g n) W (by omega) (fun x hx=>by omega)];rfl
theorem aeI {n:Nat}{l:List Nat}{r:Graph}{most j:Nat}(h:pick n l r most=some j):j∈l:=List.mem_of_find?_eq_some h
theorem afs {g:Graph}{n:Nat}(W:Within g n) (hs:∀ i,(g.getD i []).Pairwise (· < ·)):(firstMatch g n).length=size g n+(firstMatch g n).count 0:=by
 obtain⟨f,B,e,_⟩:=aa9 W hs;have c:size g n=dk g f:=(cT W).uniq B.max;rw[c,e];unfold dk dom;generalize List.range g.length=l
 induction l with
 | nil=>rfl
 | cons a l ih=>
  rw[List.map_cons,List.length_cons,List.count_cons,List.filter_cons,ih];cases f a with
  | none=>simp[code];omega
  | some j=>simp[code];omega
theorem ae3 {g:Graph}{n:Nat}(W:Within g n) (i j:Nat):size (dropEdge g i j) n≤size g n:=by
 obtain⟨f,M,c⟩:=(cT (W.bu i j)).some;rw[← c,dA gX];exact(cT W).most f (af8.mp M).1
theorem ae2 {g:Graph}{n:Nat}(W:Within g n) (j:Nat):size (dropCode g j) n≤size g n:=by
 obtain⟨f,M,c⟩:=(cT (W.code j)).some;rw[← c,dA cD];exact(cT W).most f (acd.mp M).1
def yZ (g:Graph) (n i:Nat):Nat:=match at_ (matched g n) i with
 | some j=>if size (dropEdge g i j) n<size g n then j+1 else 0
 | none=>0
theorem aiJ {g:Graph}{n:Nat}(W:Within g n) (i:Nat):sureOf g n i=yZ g n i:=by
 obtain⟨_,B⟩:=eI W;unfold sureOf yZ;cases e:(g.getD i []).find? fun j=>size (dropEdge g i j) n != size g n with
 | some j=>
  have h:=List.find?_some e;have h:size (dropEdge g i j) n≠size g n:=by simpa using h
  rw[(aiK W i j).mp h _ B];have:=ae3 W i j;show j+1=if _ then _ else _
  rw[if_pos (by omega)]
 | none=>
  cases q:at_ (matched g n) i with
  | none=>rfl
  | some j=>
   have hj:=(B.mg.bu i j q).2;have:=List.find?_eq_none.mp e j hj;have:size (dropEdge g i j) n=size g n:=by simpa using this
   show 0=if _ then _ else _
   rw[if_neg (by omega)]
theorem ajZ {g:Graph}{n:Nat}(W:Within g n):surelyThere g n=(List.range n).filter fun j=>decide (size (dropCode g j) n<size g n):=by
 unfold surelyThere;refine List.filter_congr fun j _=>?_;have:=ae2 W j;rw[Bool.eq_iff_iff,decide_eq_true_iff];simp;omega
theorem agY {g:Graph}{n:Nat}(W:Within g n):surelyMissing g n=(List.range n).filter fun j=>!(g.any fun l=>l.contains j):=by
 unfold surelyMissing;exact List.filter_congr fun j _=>adj W j
theorem agG {g:Graph}{n:Nat}(W:Within g n):surelyForeign g n=(List.range g.length).filter fun i=>decide ((g.getD i []).length=0):=by
 unfold surelyForeign;exact List.filter_congr fun i hi=>adg W i (List.mem_range.mp hi)
theorem adY {g:Graph}{n:Nat}(W:Within g n) {xs:List Nat}(hx:∀ i,i∈xs↔cO g (at_ (matched g n)) i) :
  cover g n=((List.range g.length).filter (fun i=>!(xs.contains i)),(List.range n).filter fun j=>(xs.map fun i=>g.getD i []).any fun l=>l.contains j):=by
 obtain⟨_,B⟩:=eI W;obtain⟨xs',ys',e,h1,h2⟩:=aaT W;rw[e];have hl:∀ i,Left g i↔i∈xs:=fun i=>((hx i).trans (qJ B)).symm;refine Prod.ext ?_ ?_
 ·refine List.filter_congr fun i _=>?_;have:xs'.contains i=xs.contains i:=by
   rw[Bool.eq_iff_iff,List.contains_iff_mem,List.contains_iff_mem,h1,hl]
  rw[this]
 ·refine List.filter_congr fun j _=>?_;rw[Bool.eq_iff_iff,List.contains_iff_mem,h2,List.any_eq_true];constructor
  ·rintro⟨i,hi,hj⟩;exact⟨g.getD i [],List.mem_map.mpr ⟨i,(hl i).mp hi,rfl⟩,List.contains_iff_mem.mpr hj⟩
  ·rintro⟨l,hl',hj⟩;obtain⟨i,hi,rfl⟩:=List.mem_map.mp hl';exact⟨i,(hl i).mpr hi,List.contains_iff_mem.mp hj⟩
theorem afk {m:Match}{i:Nat}:at_ m i=none↔∀ j,m.getD j 0≠i+1:=by
 constructor
 ·intro h j;exact qh h
 ·intro h;cases e:at_ m i with
  | none=>rfl
  | some j=>exact absurd (eK e) (h j)
end Mt
namespace Wf
open Vbexam Bx
def fz (x:List Bytes×Bytes) (c:Nat):List Bytes×Bytes:=if c=32 then (x.1++[x.2],[]) else (x.1,x.2++[c])
def partsOf (t:Bytes):List Bytes×Bytes:=t.foldl fz ([],[])
def parts (t:Bytes):List Bytes:=(partsOf t).1++[(partsOf t).2]
theorem aby (t:Bytes) (c:Nat):partsOf (t++[c])=fz (partsOf t) c:=by
 unfold partsOf;rw[List.foldl_append];rfl
theorem n8:∀ (l:List Bytes) (p:Bytes),l≠[]→joined (l++[p])=joined l++32::p
 | [],p,h=>absurd rfl h
 | [a],p,_=>rfl
 | a::b::l,p,_=>by
  show a++32::joined (b::l++[p])=(a++32::joined (b::l))++32::p;rw[n8 (b::l) p (by simp)];simp
theorem afz:∀ (l:List Bytes) (p:Bytes) (c:Nat),joined (l++[p++[c]])=joined (l++[p])++[c]
 | [],p,c=>rfl
 | a::l,p,c=>by
  rw[n8 (a::l) _ (by simp),n8 (a::l) _ (by simp)];simp
theorem yj (t:Bytes):joined (parts t)=t:=by
 have key:∀ (k:Nat),k≤t.length→joined (parts (t.take k))=t.take k:=by
  intro k
  induction k with
  | zero=>intro _;rfl
  | succ k ih=>
   intro hk;have e:t.take (k+1)=t.take k++[t[k]]:=by
    rw[List.take_succ,List.getElem?_eq_getElem (by omega)];rfl
   rw[e];unfold parts;rw[aby];unfold fz;have ih:=ih (by omega);unfold parts at ih;by_cases h:t[k]=32
   ·rw[if_pos h];show joined (((partsOf (t.take k)).1++[(partsOf (t.take k)).2])++[[]])=_;rw[n8 _ _ (by simp),ih,h]
   ·rw[if_neg h];show joined ((partsOf (t.take k)).1++[(partsOf (t.take k)).2++[t[k]]])=_;rw[afz,ih]
 have:=key t.length (Nat.le_refl _)
 rwa [List.take_length] at this
theorem fold_plain:∀ (p:Bytes) (fr:List Bytes) (cur:Bytes),(∀ c∈p,c≠32)→p.foldl fz (fr,cur)=(fr,cur++p)
 | [],fr,cur,_=>by simp
 | c::p,fr,cur,h=>by
  rw[List.foldl_cons];have e:fz (fr,cur) c=(fr,cur++[c]):=if_neg (h c (List.mem_cons_self ..));rw[e,fold_plain p fr _ fun d hd=>h d (List.mem_cons_of_mem _ hd),List.append_assoc];rfl
theorem zx:∀ (l:List Bytes) (fr:List Bytes),l≠[]→(∀ p∈l,∀ c∈p,c≠32)→((joined l).foldl fz (fr,[])).1++[((joined l).foldl fz (fr,[])).2]=fr++l
 | [],fr,h,_=>absurd rfl h
 | [p],fr,_,hp=>by
  show(p.foldl fz (fr,[])).1++[(p.foldl fz (fr,[])).2]=_;rw[fold_plain p fr [] (hp p (List.mem_cons_self ..))];rfl
 | p::q::r,fr,_,hp=>by
  have ih:=zx (q::r) (fr++[p]) (by simp) fun x hx=>hp x (List.mem_cons_of_mem _ hx);have e:(joined (p::q::r)).foldl fz (fr,[])=(joined (q::r)).foldl fz (fr++[p],[]):=by
   rw[tu (by simp),List.foldl_append,fold_plain p fr [] (hp p (List.mem_cons_self ..)),List.foldl_cons];rfl
  rw[e,ih];simp
theorem ads {b:Bytes}(h:isPattern b=true):∀ c∈b,c≠32:=fun c hc e=>by
 unfold isPattern at h;rw[Bool.and_eq_true] at h;have:=List.all_eq_true.mp h.2 c hc;subst e;simp at this
theorem ack (t:Bytes):patterns (t.length+1) t=if(parts t).all isPattern=true then some (parts t) else none:=by
 by_cases h:(parts t).all isPattern=true
 ·rw[if_pos h];exact yk.mpr ⟨by unfold parts;simp,fun p hp=>List.all_eq_true.mp h p hp,(yj t).symm⟩
 ·rw[if_neg h];cases e:patterns (t.length+1) t with
  | none=>rfl
  | some l=>
   obtain⟨h1,h2,h3⟩:=yk.mp e;have:=zx l [] h1 fun p hp=>ads (h2 p hp);have e2:parts t=l:=by
    unfold parts partsOf;rw[h3];simpa using this
   rw[e2] at h;exact absurd (List.all_eq_true.mpr h2) h
def jR (c:Nat):Bool:=decide (48≤c)&&decide (c≤57)
def ig (b:Bytes) (n t:Nat):Bool:=jR (b.getD (5-t) 0)&&decide (b.getD (5-t) 0≠48+n / 10 ^ t % 10)
theorem akt {b:Bytes}(hb:isPattern b=true) (n:Nat):fits b n=(List.range 6).all fun t=>!ig b n t:=by
 have hl:=gi hb;unfold isPattern at hb;rw[Bool.and_eq_true] at hb;have hd:∀ i,i<6→b.getD i 0=63∨jR (b.getD i 0)=true:=fun i hi=>by
  have hm:b.getD i 0∈b:=by
   rw[List.getD_eq_getElem?_getD,List.getElem?_eq_getElem (by omega)];exact List.getElem_mem _
  have:=List.all_eq_true.mp hb.2 _ hm;simpa [jR] using this
 have one:∀ i,i<6→(b.getD i 0 == 63||b.getD i 0 == 48+digitOf n i) = !ig b n (5-i):=fun i hi=>by
  unfold ig digitOf;rw[show 5-(5-i)=i by omega];generalize hq:n / 10 ^ (5-i) % 10=q;have hq10:q<10:=by rw[← hq];exact Nat.mod_lt _ (by decide)
  rcases hd i hi with h|h
  ·rw[h];rfl
  ·unfold jR at h ⊢;generalize b.getD i 0=c at h ⊢;have h':48≤c∧c≤57:=by simpa using h
   rw[h,Bool.true_and,Bool.eq_iff_iff];simp;omega
 show((List.range 6).all fun i=>b.getD i 0 == 63||b.getD i 0 == 48+digitOf n i)=_;rw[show List.range 6 = [0,1,2,3,4,5] from rfl];simp only[List.all_cons,List.all_nil];rw[one 0 (by decide),one 1 (by decide),one 2 (by decide),one 3 (by decide),one 4 (by decide),one 5 (by decide)];simp only[Nat.sub_zero,Nat.sub_self,show 5-1=4 from rfl,show 5-2=3 from rfl,show 5-3=2 from rfl,show 5-4=1 from rfl];cases ig b n 0 <;> cases ig b n 1 <;> cases ig b n 2 <;> cases ig b n 3 <;> cases ig b n 4 <;> cases ig b n 5 <;> rfl
def kD (s:St) (n:Nat) (q:Piece):Bool:=(family s PIECES n).contains q.label
def later (s:St) (n:Nat) (l:List Piece):List Piece:=l.filter fun q=>kD s n q&&q.label != n
theorem ag9 {s:St}(O:Ok s) {p q:Piece}(hp:p∈s.pieces) (hq:q∈s.pieces) (e:p.label=q.label):p=q:=by
 obtain⟨i,hi,ei⟩:=List.getElem_of_mem hp;obtain⟨j,hj,ej⟩:=List.getElem_of_mem hq;have:i=j:=abn O.nd (x:=q.label) (by rw[List.getElem?_map,List.getElem?_eq_getElem hi,ei];exact congrArg some e) (by rw[List.getElem?_map,List.getElem?_eq_getElem hj,ej];rfl);subst this;rw[← ei,← ej]
theorem ah9 {s:St}(O:Ok s) {p0:Piece}(h0:p0∈s.pieces) {i:Nat}{q:Piece}(hq:s.pieces[i]?=some q) :
  (kD s p0.label q&&q.label != p0.label)=true↔∃ m,q.parent=some m∧(m=p0.label∨∃ r∈later s p0.label (s.pieces.take i),r.label=m):=by
 have hqm:=List.mem_of_getElem? hq;unfold kD;rw[Bool.and_eq_true,List.contains_iff_mem,pV O h0,alB O hqm];have ne:(q.label != p0.label)=true↔q.label≠p0.label:=by simp
 rw[ne];constructor
 ·rintro⟨h|⟨m,h1,h2⟩,h3⟩
  ·exact absurd h h3
  ·refine⟨m,h1,?_⟩;by_cases e:m=p0.label
   ·exact .inl e
   ·obtain⟨j,p',hlt,hp',el⟩:=O.par i q m hq h1;refine .inr ⟨p',?_,el⟩;unfold later;rw[List.mem_filter];refine⟨List.mem_of_getElem? (i:=j) (by rw[List.getElem?_take,if_pos hlt];exact hp'),?_⟩;unfold kD;rw[Bool.and_eq_true,List.contains_iff_mem,pV O h0,el];exact⟨h2,by simpa using e⟩
 ·rintro⟨m,h1,h2⟩;have hm:Fam s p0.label m:=by
   rcases h2 with e|⟨r,hr,e⟩
   ·rw[e];exact .self
   ·unfold later at hr;rw[List.mem_filter] at hr;unfold kD at hr;have:=hr.2;rw[Bool.and_eq_true,List.contains_iff_mem,pV O h0,e] at this;exact this.1
  refine⟨.inr ⟨m,h1,hm⟩,fun e=>?_⟩;have:q=p0:=ag9 O hqm h0 e;subst this;obtain⟨k,hk⟩:=hm.n;obtain⟨i',p',hp',el,hle⟩:=aa6 O hk i q hq rfl;obtain⟨j,p'',hlt,hp'',el'⟩:=O.par i q m hq h1;have:i'=j:=abn O.nd (x:=m) (by rw[List.getElem?_map,hp'];exact congrArg some el) (by rw[List.getElem?_map,hp''];exact congrArg some el');omega
theorem zw {α:Type}[DecidableEq α] (F:Piece→Bool) (n:Nat):∀ (l:List Piece),(l.map fun p=>p.label).Nodup→∀ p∈l,p.label=n→F p=true→(l.filter F).Perm (p::l.filter fun q=>F q&&q.label != n)
 | [],_,p,hp,_,_=>by cases hp
 | a::l,nd,p,hp,hn,hF=>by
  rw[List.map_cons] at nd;obtain⟨n1,n2⟩:=List.nodup_cons.mp nd;rcases List.mem_cons.mp hp with e|hp
  ·subst e;have e1:(l.filter fun q=>F q&&q.label != n)=l.filter F:=by
    refine List.filter_congr fun q hq=>?_;have:q.label≠n:=fun z=>n1 (List.mem_map.mpr ⟨q,hq,z.trans hn.symm⟩);simp[this]
   rw[List.filter_cons_of_pos hF,List.filter_cons_of_neg (by simp[hn]),e1]
  ·have ne:a.label≠n:=fun z=>n1 (List.mem_map.mpr ⟨p,hp,hn.trans z.symm⟩);have ih:=zw (α:=α) F n l n2 p hp hn hF;by_cases h:F a=true
   ·rw[List.filter_cons_of_pos h,List.filter_cons_of_pos (by simp[h,ne])];exact(ih.cons a).trans (List.Perm.swap p a _)
   ·rw[List.filter_cons_of_neg h,List.filter_cons_of_neg (by simp[h])];exact ih
theorem ade {s:St}(O:Ok s) {p0:Piece}(h0:p0∈s.pieces):(familyOf s p0.label).Perm (p0::later s p0.label s.pieces):=
 zw (α:=Nat) (kD s p0.label) p0.label s.pieces O.nd p0 h0 rfl (by
  unfold kD;rw[List.contains_iff_mem,pV O h0];exact .self)
theorem ac6:∀ l:List Nat,((total l:Nat):Int)=(l.map fun (n:Nat)=>(n:Int)).sum
 | []=>rfl
 | a::l=>by
  show((a+total l:Nat):Int)=_;rw[List.map_cons,List.sum_cons,← ac6 l];omega
theorem ahp {l m:List Nat}(h:l.Perm m):total l=total m:=by
 unfold total;exact h.foldr_eq' (fun x _ y _ z=>by show y+(x+z)=x+(y+z);omega) 0
end Wf
set_option maxHeartbeats 4000000
namespace My
open PySem PySem.Spec PyProof.Rows L2
def top (i:Nat):Stmt:=PySem.Challenge.pw_rocksamples_s01_answers.main.body.getD i (.Pass ⟨0,0,0,0⟩)
abbrev vN:Stmt:=top 1
abbrev rm:Stmt:=inClass (top 3) 0
abbrev vJ:Stmt:=inClass (top 4) 0
abbrev rn:Stmt:=inClass (top 5) 0
abbrev kh:Stmt:=inClass (top 5) 1
abbrev jF:Stmt:=inClass (top 5) 2
abbrev iN:Stmt:=inClass (top 5) 3
abbrev mG:Stmt:=inClass (top 5) 4
abbrev iK:Stmt:=inClass (top 5) 5
abbrev i6:Stmt:=inClass (top 5) 6
abbrev mF:Stmt:=inClass (top 5) 7
abbrev kf:Stmt:=inClass (top 5) 8
abbrev iL:Stmt:=inClass (top 5) 9
abbrev nB:Stmt:=inClass (top 5) 10
abbrev jG:Stmt:=inClass (top 5) 11
abbrev kg:Stmt:=inClass (top 5) 12
abbrev iM:Stmt:=inClass (top 5) 13
abbrev aax:Stmt:=top 11
abbrev pf:Stmt:=top 12
abbrev ahf:Stmt:=top 13
abbrev aeT:Stmt:=top 14
abbrev vO:Stmt:=top 15
abbrev ahe:Stmt:=top 16
abbrev aeV:Stmt:=top 17
abbrev aeU:Stmt:=top 18
abbrev aay:Stmt:=top 19
abbrev vR:Stmt:=top 20
abbrev vP:Stmt:=top 21
abbrev ki:Stmt:=top 22
abbrev aeS:Stmt:=top 23
abbrev yA:Stmt:=top 24
abbrev tQ:Stmt:=top 25
abbrev yB:Stmt:=top 26
abbrev tP:Stmt:=top 28
abbrev rp:Stmt:=top 31
abbrev mH:Stmt:=top 32
abbrev mJ:Stmt:=top 33
abbrev sC:Stmt:=top 34
abbrev je:Stmt:=top 35
abbrev kj:Stmt:=top 36
abbrev pd:Stmt:=top 37
abbrev g4:Stmt:=top 38
abbrev oe:Stmt:=top 39
abbrev jT:Stmt:=top 40
abbrev sE:Stmt:=top 41
abbrev iQ:Stmt:=top 42
abbrev iP:Stmt:=top 43
abbrev sD:Stmt:=top 44
abbrev iO:Stmt:=top 45
abbrev eQ:Stmt:=top 46
abbrev vM:Stmt:=top 53
abbrev mI:Stmt:=top 54
abbrev vQ:Stmt:=top 55
abbrev aeR:Stmt:=top 56
abbrev yz:Stmt:=top 60
abbrev tO:Stmt:=top 61
abbrev rB:Stmt:=top 62
abbrev vS:Stmt:=top 63
abbrev mO:Stmt:=top 64
abbrev og:Stmt:=top 65
abbrev mM:Stmt:=top 66
abbrev tR:Stmt:=top 67
abbrev tS:Stmt:=top 68
abbrev rq:Stmt:=top 69
abbrev mN:Stmt:=top 70
abbrev oh:Stmt:=top 71
abbrev rA:Stmt:=top 72
abbrev jH:Stmt:=top 75
abbrev jd:Stmt:=top 76
abbrev aeW:Stmt:=top 77
abbrev o7:Stmt:=inClass (top 85) 0
abbrev mE:Stmt:=inClass (top 85) 1
abbrev iJ:Stmt:=inClass (top 85) 2
abbrev gz:Stmt:=inClass (top 85) 3
abbrev gJ:Stmt:=inClass (top 85) 4
abbrev sG:Stmt:=top 86
abbrev vL:Stmt:=top 87
abbrev mL:Stmt:=top 88
abbrev o9:Stmt:=top 89
abbrev mK:Stmt:=top 90
abbrev k4:Stmt:=top 91
abbrev o8:Stmt:=top 92
abbrev yy:Stmt:=top 93
theorem aH {N P:List Str}{sc:Scope}(h1:sc.kind = .function:=by rfl) (h2:sc.isCoroutine=false:=by rfl) (h3:sc.isGenerator=false:=by rfl) (h4:N.Nodup:=by decide +kernel) (h5:N.take P.length=P:=by rfl) (h6:∀ x∈P,sc.names.lookup x=some .local∨sc.names.lookup x=some .cell:=by decide +kernel) (h7:∀ y∈sc.names,y.2≠.free:=by decide +kernel):ay N P sc:=⟨h1,h2,h3,h4,h5,h6,h7⟩
theorem afP:ay ["k"] ["k"] (aj vN):=aH
theorem adt:ay ["self", "label", "mass", "holder"] ["self", "label", "mass", "holder"] (aj rm):=aH
theorem afN:ay ["self", "holder"] ["self", "holder"] (aj vJ):=aH
theorem adu:ay ["self"] ["self"] (aj rn):=aH
theorem oI:ay ["self", "number"] ["self", "number"] (aj kh):=aH
theorem w8:ay ["self", "number"] ["self", "number"] (aj jF):=aH
theorem um:ay ["self", "piece"] ["self", "piece"] (aj iN):=aH
theorem rC:ay ["self", "number"] ["self", "number"] (aj mG):=aH
theorem uj:ay ["self", "piece"] ["self", "piece"] (aj iK):=aH
theorem mP:ay ["self", "number"] ["self", "number"] (aj i6):=aH
theorem aaC:ay ["self", "piece"] ["self", "piece"] (aj mF):=aH
theorem oH:ay ["self", "inner", "number"] ["self", "inner", "number"] (aj kf):=aH
theorem kl:ay ["self", "number", "piece"] ["self", "number"] (aj iL):=aH
theorem jf:ay ["self", "piece", "labels", "members", "other"] ["self", "piece"] (aj nB):=aH
theorem w9:ay ["self", "piece"] ["self", "piece"] (aj jG):=aH
theorem yD:ay ["self", "piece"] ["self", "piece"] (aj kg):=aH
theorem uk:ay ["self", "giver", "taker", "labels"] ["self", "giver", "taker", "labels"] (aj iM):=aH
theorem ac1:ay ["store", "given", "label"] ["store", "given"] (aj aax):=aH
theorem jU:ay ["store", "given", "piece", "label", "part"] ["store", "given"] (aj pf):=aH
theorem aiv:ay ["store", "given", "piece"] ["store", "given"] (aj ahf):=aH
theorem acu:ay ["store", "given", "piece", "mass"] ["store", "given"] (aj aeT):=aH
theorem zI:ay ["store", "given", "number"] ["store", "given"] (aj vO):=aH
theorem ae0:ay ["store", "given", "piece", "number"] ["store", "given"] (aj ahe):=aH
theorem agg:ay ["store", "given", "piece"] ["store", "given"] (aj aeV):=aH
theorem y3:ay ["store", "given", "number", "outer", "box"] ["store", "given"] (aj aeU):=aH
theorem ac2:ay ["store", "given", "box"] ["store", "given"] (aj aay):=aH
theorem zK:ay ["store", "given", "box"] ["store", "given"] (aj vR):=aH
theorem zJ:ay ["store", "given", "box"] ["store", "given"] (aj vP):=aH
theorem yE:ay ["store", "around", "holder", "given"] ["store", "around", "holder", "given"] (aj ki):=aH
theorem acs:ay ["store", "given", "piece", "refusal"] ["store", "given"] (aj aeS):=aH
theorem p8:ay ["store", "given", "box", "refusal", "labels"] ["store", "given"] (aj yA):=aH
theorem yF:ay ["store", "given", "box"] ["store", "given"] (aj tQ):=aH
theorem vW:ay ["store", "given", "minute", "piece"] ["store", "given"] (aj yB):=aH
theorem aeZ:ay ["store", "number", "given"] ["store", "number", "given"] (aj tP):=aH
theorem pq:ay ["readings", "matched", "seen", "found", "label"] ["readings", "matched", "seen", "found"] (aj rp):=aH
theorem k5:ay ["readings", "matched", "found"] ["readings"] (aj mH):=aH
theorem aaD:ay ["readings"] ["readings"] (aj mJ):=aH
theorem vT:ay ["labels", "label", "other"] ["labels", "label"] (aj sC):=aH
theorem k6:ay ["readings", "label", "labels"] ["readings", "label"] (aj je):=aH
theorem oJ:ay ["readings", "found", "label", "rest"] ["readings", "found", "label"] (aj kj):=aH
theorem uo:ay ["readings", "most", "label"] ["readings", "most"] (aj pd):=aH
theorem cg:ay ["readings", "chosen", "most", "rest", "label"] ["readings"] (aj g4):=aH
theorem g7:ay ["readings", "matched", "sure", "label", "found", "labels"] ["readings"] (aj oe):=aH
theorem jg:ay ["readings", "expected", "most", "label"] ["readings", "expected"] (aj jT):=aH
theorem vU:ay ["readings", "label", "labels"] ["readings", "label"] (aj sE):=aH
theorem km:ay ["readings", "expected", "label"] ["readings", "expected"] (aj iQ):=aH
theorem gS:ay ["readings", "found", "labels"] ["readings"] (aj iP):=aH
theorem ff:ay ["readings", "matched", "placed", "reached", "seen", "place", "labels", "label", "found"] ["readings"] (aj sD):=aH
theorem gQ:ay ["readings", "reached", "found"] ["readings"] (aj iO):=aH
theorem dq:ay ["readings", "expected", "reached", "found", "label"] ["readings", "expected"] (aj eQ):=aH
theorem afO:ay ["sign"] ["sign"] (aj vM):=aH
theorem pw:ay ["signs", "sign"] ["signs"] (aj mI):=aH
theorem tT:ay ["text", "parts", "sign"] ["text"] (aj vQ):=aH
theorem acr:ay ["label", "pattern", "sign"] ["label", "pattern"] (aj aeR):=aH
theorem ahg:ay ["numbers"] ["numbers"] (aj yz):=aH
theorem aeY:ay ["truth"] ["truth"] (aj tO):=aH
theorem px:ay ["store", "given", "piece", "masses"] ["store", "given"] (aj rB):=aH
theorem oj:ay ["store", "given", "number", "box", "frost"] ["store", "given"] (aj vS):=aH
theorem aaG:ay ["store", "given"] ["store", "given"] (aj mO):=aH
theorem dF:ay ["store", "given", "piece", "family", "masses", "used", "lost", "one"] ["store", "given"] (aj og):=aH
theorem kF:ay ["store", "given", "pattern", "label"] ["store", "given"] (aj mM):=aH
theorem yG:ay ["readings", "expected", "chosen"] ["readings", "expected"] (aj tR):=aH
theorem mR:ay ["readings", "expected", "sure", "there", "missing"] ["readings", "expected"] (aj tS):=aH
theorem adv:ay ["readings", "expected"] ["readings", "expected"] (aj rq):=aH
theorem iS:ay ["store", "given", "handings", "told", "handing"] ["store", "given"] (aj mN):=aH
theorem mS:ay ["store", "given", "pieces", "piece"] ["store", "given"] (aj oh):=aH
theorem adw:ay ["store", "given"] ["store", "given"] (aj rA):=aH
theorem mX:ay ["found", "expected", "part"] ["found", "expected"] (aj jH):=aH
theorem df:ay ["store", "number", "given", "found", "expected", "refusal", "readings", "pattern", "label"] ["store", "number", "given"] (aj jd):=aH
theorem ak0:ay ["store", "number", "given"] ["store", "number", "given"] (aj aeW):=aH
theorem acp:ay ["self", "numbers"] ["self", "numbers"] (aj o7):=aH
theorem aaB:ay ["self"] ["self"] (aj mE):=aH
theorem lE:ay ["self", "number"] ["self"] (aj iJ):=aH
theorem f7:ay ["self", "length", "turn"] ["self"] (aj gz):=aH
theorem rG:ay ["self", "name"] ["self", "name"] (aj gJ):=aH
theorem vV:ay ["numbers", "number"] ["numbers"] (aj sG):=aH
theorem zH:ay ["name", "value", "bounds"] ["name", "value"] (aj vL):=aH
theorem aaF:ay ["store", "call", "label"] ["store", "call", "label"] (aj mL):=aH
theorem acq:ay ["store", "number"] ["store", "number"] (aj o9):=aH
theorem aaE:ay ["store", "call", "name", "value"] ["store", "call", "name", "value"] (aj mK):=aH
theorem eM:ay ["store", "call", "given", "name", "value", "refusal"] ["store", "call", "given"] (aj k4):=aH
theorem g5:ay ["store", "reader", "call", "given", "name", "refusal"] ["store", "reader"] (aj o8):=aH
theorem mQ:ay ["calls", "store", "reader", "given_back", "answer"] ["calls"] (aj yy):=aH
structure aN (K:PySem.W.Frag) (x qual:Str) (st:Stmt) (ps:List Str) where
 f:Addr
 fd:FuncData
 F:Fun K x qual st f fd
 b:Binds K fd ps []
 bt:∀ (s:Shared) (us:List Value),us.length=ps.length→BindsTo s fd ⟨us,[]⟩ (ps.zip us)
structure Cs where
 Piece:Addr
 Box:Addr
 aI:Addr
 Reader:Addr
set_option genInjectivity false in
set_option genSizeOf false in
structure Pg (K:PySem.W.Frag) (mg:Str→Option Value) where
 c:Cs
 aD:Cls K c.Piece
 ab6:mg "Piece" = some (.ref c.Piece)
 b7:cu K c.Piece "label"
 cX:cu K c.Piece "source"
 eN:cu K c.Piece "made"
 bz:cu K c.Piece "mass"
 dI:cu K c.Piece "used"
 dH:cu K c.Piece "lost"
 cE:cu K c.Piece "gone"
 bc:cu K c.Piece "box"
 bN:cu K c.Piece "holder"
 cF:cu K c.Piece "warm"
 bP:Cls K c.Box
 aj8:mg "Box" = some (.ref c.Box)
 bf:c.Piece≠c.Box
 cq:cu K c.Box "holder"
 bb:cu K c.Box "outer"
 dh:cu K c.Box "seal"
 fh:cu K c.Box "frost"
 aq:Cls K c.aI
 af3:mg "Store" = some (.ref c.aI)
 br:c.Piece≠c.aI
 cG:c.Box≠c.aI
 aO:cu K c.aI "pieces"
 aU:cu K c.aI "boxes"
 ck:cu K c.aI "handings"
 cZ:cu K c.aI "minute"
 c7:Cls K c.Reader
 ad9:mg "Reader" = some (.ref c.Reader)
 fo:c.Piece≠c.Reader
 gj:c.Box≠c.Reader
 fq:c.aI≠c.Reader
 cM:cu K c.Reader "numbers"
 cY:cu K c.Reader "place"
 d7:aN K "label_of" "label_of" vN ["k"]
 pT:mg "label_of" = some (.ref d7.f)
 fV:aN K "__init__" "Piece.__init__" rm ["self", "label", "mass", "holder"]
 kX:Mk K c.Piece fV.f
 jN:aN K "__init__" "Box.__init__" vJ ["self", "holder"]
 ue:Mk K c.Box jN.f
 gW:aN K "__init__" "Store.__init__" rn ["self"]
 nr:Mk K c.aI gW.f
 eL:aN K "outermost" "Store.outermost" kh ["self", "number"]
 pN:Meth K c.aI "outermost" eL.f
 bS:aN K "box_holder" "Store.box_holder" jF ["self", "number"]
 dX:Meth K c.aI "box_holder" bS.f
 cC:aN K "piece_holder" "Store.piece_holder" iN ["self", "piece"]
 iG:Meth K c.aI "piece_holder" cC.f
 bL:aN K "is_open" "Store.is_open" mG ["self", "number"]
 cW:Meth K c.aI "is_open" bL.f
 cA:aN K "is_reachable" "Store.is_reachable" iK ["self", "piece"]
 iD:Meth K c.aI "is_reachable" cA.f
 cP:aN K "is_in_frost" "Store.is_in_frost" i6 ["self", "number"]
 i5:Meth K c.aI "is_in_frost" cP.f
 fk:aN K "is_cold" "Store.is_cold" mF ["self", "piece"]
 sr:Meth K c.aI "is_cold" fk.f
 dt:aN K "is_within" "Store.is_within" kf ["self", "inner", "number"]
 kb:Meth K c.aI "is_within" dt.f
 c9:aN K "manifest" "Store.manifest" iL ["self", "number"]
 iE:Meth K c.aI "manifest" c9.f
 fT:aN K "family" "Store.family" nB ["self", "piece"]
 uc:Meth K c.aI "family" fT.f
 c8:aN K "make_loose" "Store.make_loose" jG ["self", "piece"]
 jD:Meth K c.aI "make_loose" c8.f
 du:aN K "make_gone" "Store.make_gone" kg ["self", "piece"]
 kc:Meth K c.aI "make_gone" du.f
 cB:aN K "note_handing" "Store.note_handing" iM ["self", "giver", "taker", "labels"]
 iF:Meth K c.aI "note_handing" cB.f
 il:aN K "sample" "sample" aax ["store", "given"]
 ajd:mg "sample" = some (.ref il.f)
 dG:aN K "split_piece" "split_piece" pf ["store", "given"]
 adh:mg "split_piece" = some (.ref dG.f)
 pR:aN K "use" "use" ahf ["store", "given"]
 amZ:mg "use" = some (.ref pR.f)
 md:aN K "lose" "lose" aeT ["store", "given"]
 alG:mg "lose" = some (.ref md.f)
 fJ:aN K "make_box" "make_box" vO ["store", "given"]
 agK:mg "make_box" = some (.ref fJ.f)
 pQ:aN K "put" "put" ahe ["store", "given"]
 amY:mg "put" = some (.ref pQ.f)
 mf:aN K "take" "take" aeV ["store", "given"]
 alI:mg "take" = some (.ref mf.f)
 me:aN K "nest" "nest" aeU ["store", "given"]
 alH:mg "nest" = some (.ref me.f)
 ip:aN K "unnest" "unnest" aay ["store", "given"]
 aje:mg "unnest" = some (.ref ip.f)
 fL:aN K "seal_box" "seal_box" vR ["store", "given"]
 agM:mg "seal_box" = some (.ref fL.f)
 fK:aN K "open_box" "open_box" vP ["store", "given"]
 agL:mg "open_box" = some (.ref fK.f)
 cj:aN K "handing_refusal" "handing_refusal" ki ["store", "around", "holder", "given"]
 j6:mg "handing_refusal" = some (.ref cj.f)
 ma:aN K "hand" "hand" aeS ["store", "given"]
 alF:mg "hand" = some (.ref ma.f)
 gr:aN K "handbox" "handbox" yA ["store", "given"]
 ahV:mg "handbox" = some (.ref gr.f)
 eX:aN K "set_frost" "set_frost" tQ ["store", "given"]
 aft:mg "set_frost" = some (.ref eX.f)
 gx:aN K "pass_by" "pass_by" yB ["store", "given"]
 ahW:mg "pass_by" = some (.ref gx.f)
 gD:aN K "carry_out" "carry_out" tP ["store", "number", "given"]
 zy:mg "carry_out" = some (.ref gD.f)
 bQ:aN K "find_place" "find_place" rp ["readings", "matched", "seen", "found"]
 qT:mg "find_place" = some (.ref bQ.f)
 b9:aN K "best_matching" "best_matching" mH ["readings"]
 jb:mg "best_matching" = some (.ref b9.f)
 bp:aN K "most_readings" "most_readings" mJ ["readings"]
 fm:mg "most_readings" = some (.ref bp.f)
 gp:aN K "all_but" "all_but" sC ["labels", "label"]
 xT:mg "all_but" = some (.ref gp.f)
 cb:aN K "without_label" "without_label" je ["readings", "label"]
 jc:mg "without_label" = some (.ref cb.f)
 dv:aN K "without_reading" "without_reading" kj ["readings", "found", "label"]
 pM:mg "without_reading" = some (.ref dv.f)
 fC:aN K "first_label" "first_label" pd ["readings", "most"]
 wF:mg "first_label" = some (.ref fC.f)
 cv:aN K "first_best_matching" "first_best_matching" g4 ["readings"]
 lh:mg "first_best_matching" = some (.ref cv.f)
 gE:aN K "surely_is" "surely_is" oe ["readings"]
 zz:mg "surely_is" = some (.ref gE.f)
 eU:aN K "surely_there" "surely_there" jT ["readings", "expected"]
 t5:mg "surely_there" = some (.ref eU.f)
 gw:aN K "is_read" "is_read" sE ["readings", "label"]
 xV:mg "is_read" = some (.ref gw.f)
 dQ:aN K "surely_missing" "surely_missing" iQ ["readings", "expected"]
 qX:mg "surely_missing" = some (.ref dQ.f)
 dN:aN K "surely_foreign" "surely_foreign" iP ["readings"]
 qW:mg "surely_foreign" = some (.ref dN.f)
 gq:aN K "come_to" "come_to" sD ["readings"]
 xU:mg "come_to" = some (.ref gq.f)
 dM:aN K "found_of_cover" "found_of_cover" iO ["readings"]
 qU:mg "found_of_cover" = some (.ref dM.f)
 cQ:aN K "expected_of_cover" "expected_of_cover" eQ ["readings", "expected"]
 mV:mg "expected_of_cover" = some (.ref cQ.f)
 fI:aN K "is_digit" "is_digit" vM ["sign"]
 vn:mg "is_digit" = some (.ref fI.f)
 d6:aN K "is_pattern" "is_pattern" mI ["signs"]
 qV:mg "is_pattern" = some (.ref d6.f)
 ik:aN K "parts_of" "parts_of" vQ ["text"]
 abb:mg "parts_of" = some (.ref ik.f)
 l9:aN K "fits" "fits" aeR ["label", "pattern"]
 aec:mg "fits" = some (.ref l9.f)
 bw:aN K "counted" "counted" yz ["numbers"]
 fg:mg "counted" = some (.ref bw.f)
 dE:aN K "as_number" "as_number" tO ["truth"]
 n0:mg "as_number" = some (.ref dE.f)
 eF:aN K "tell_piece" "tell_piece" rB ["store", "given"]
 aeh:mg "tell_piece" = some (.ref eF.f)
 fM:aN K "tell_box" "tell_box" vS ["store", "given"]
 agN:mg "tell_box" = some (.ref fM.f)
 cV:aN K "tell_manifest" "tell_manifest" mO ["store", "given"]
 abc:mg "tell_manifest" = some (.ref cV.f)
 eZ:aN K "tell_sums" "tell_sums" og ["store", "given"]
 afv:mg "tell_sums" = some (.ref eZ.f)
 ek:aN K "read_label" "read_label" mM ["store", "given"]
 aed:mg "read_label" = some (.ref ek.f)
 eY:aN K "tell_best" "tell_best" tR ["readings", "expected"]
 afu:mg "tell_best" = some (.ref eY.f)
 e7:aN K "tell_sure" "tell_sure" tS ["readings", "expected"]
 afw:mg "tell_sure" = some (.ref e7.f)
 eC:aN K "tell_cover" "tell_cover" rq ["readings", "expected"]
 aef:mg "tell_cover" = some (.ref eC.f)
 eA:aN K "tell_chain" "tell_chain" mN ["store", "given"]
 aee:mg "tell_chain" = some (.ref eA.f)
 e8:aN K "tell_warm" "tell_warm" oh ["store", "given"]
 afx:mg "tell_warm" = some (.ref e8.f)
 eD:aN K "tell_label" "tell_label" rA ["store", "given"]
 aeg:mg "tell_label" = some (.ref eD.f)
 dc:aN K "matching_refusal" "matching_refusal" jH ["found", "expected"]
 ox:mg "matching_refusal" = some (.ref dc.f)
 eE:aN K "tell_matching" "tell_matching" jd ["store", "number", "given"]
 sg:mg "tell_matching" = some (.ref eE.f)
 qK:aN K "tell" "tell" aeW ["store", "number", "given"]
 ahX:mg "tell" = some (.ref qK.f)
 gc:aN K "__init__" "Reader.__init__" o7 ["self", "numbers"]
 lx:Mk K c.Reader gc.f
 fj:aN K "at_end" "Reader.at_end" mE ["self"]
 sj:Meth K c.Reader "at_end" fj.f
 bR:aN K "read_number" "Reader.read_number" iJ ["self"]
 eG:Meth K c.Reader "read_number" bR.f
 dW:aN K "read_text" "Reader.read_text" gz ["self"]
 oz:Meth K c.Reader "read_text" dW.f
 cJ:aN K "read_argument" "Reader.read_argument" gJ ["self", "name"]
 kr:Meth K c.Reader "read_argument" cJ.f
 jt:aN K "is_text" "is_text" sG ["numbers"]
 acP:mg "is_text" = some (.ref jt.f)
 ij:aN K "in_range" "in_range" vL ["name", "value"]
 aba:mg "in_range" = some (.ref ij.f)
 d9:aN K "piece_refusal" "piece_refusal" mL ["store", "call", "label"]
 sf:mg "piece_refusal" = some (.ref d9.f)
 fB:aN K "box_refusal" "box_refusal" o9 ["store", "number"]
 wD:mg "box_refusal" = some (.ref fB.f)
 d8:aN K "named_refusal" "named_refusal" mK ["store", "call", "name", "value"]
 se:mg "named_refusal" = some (.ref d8.f)
 dJ:aN K "common_refusal" "common_refusal" k4 ["store", "call", "given"]
 qS:mg "common_refusal" = some (.ref dJ.f)
 fA:aN K "answer_next" "answer_next" o8 ["store", "reader"]
 wC:mg "answer_next" = some (.ref fA.f)
 hC:aN K "answers" "answers" yy ["calls"]
 acO:mg "answers" = some (.ref hC.f)
 o3:∃ u,mg "MOST_PIECES" = some u∧RelV (.int 40) u
 xQ:∃ u,mg "MOST_BOXES" = some u∧RelV (.int 10) u
 sd:∃ u,mg "MOST_HANDINGS" = some u∧RelV (.int 200) u
 wB:∃ u,mg "LAST_MINUTE" = some u∧RelV (.int 1000000000) u
 mn:∃ u,mg "NO_LABEL" = some u∧RelV (.int 0) u
 ow:∃ u,mg "SIGNS_OF_A_LABEL" = some u∧RelV (.int 6) u
 aeb:∃ u,mg "ZERO" = some u∧RelV (.int 48) u
 ahU:∃ u,mg "NINE" = some u∧RelV (.int 57) u
 aea:∃ u,mg "UNREAD" = some u∧RelV (.int 63) u
 af2:∃ u,mg "BLANK" = some u∧RelV (.int 32) u
 xS:∃ u,mg "MOST_FOUND" = some u∧RelV (.int 8) u
 rZ:∃ u,mg "MOST_EXPECTED" = some u∧RelV (.int 10) u
 rX:∃ u,mg "FIRST_TELLING" = some u∧RelV (.int 15) u
 xR:∃ u,mg "MOST_BYTES" = some u∧RelV (.int 60) u
 rY:∃ u,mg "GREATEST_BYTE" = some u∧RelV (.int 255) u
 vc:mg "all" = none
 yQ:mg "any" = none
 iU:mg "enumerate" = none
 cU:mg "len" = none
 qI:mg "list" = none
 jL:mg "range" = none
 jM:mg "reversed" = none
 jr:mg "sorted" = none
 rJ:mg "sum" = none
structure aV (K:PySem.W.Frag) (f:Addr) (x qual:Str) (st:Stmt):Prop where
 ex:∃ (oc:Value) (od:Option Addr) (kV doc pm:Value) (an:Option Addr) (cdv ct:Value) (osl:Array (Option Value)),K.lookup f=some ⟨oc,od,.func (PySem.W.fnOf x qual (la st) (jO st) (aj st) .none kV doc pm an cdv ct),osl⟩∧PySem.W.codeIn K cdv qual=true
 kp:PySem.W.keepIn K (.ref f)=true
theorem aV.mk' {K:PySem.W.Frag}{f:Addr}{x qual:Str}{st:Stmt}{oc:Value}{od an:Option Addr}{osl:Array (Option Value)}{kV doc pm cdv ct:Value}(l:K.lookup f=some ⟨oc,od,.func (PySem.W.fnOf x qual (la st) (jO st) (aj st) .none kV doc pm an cdv ct),osl⟩)
  (c:PySem.W.codeIn K cdv qual=true) (k:PySem.W.keepIn K (.ref f)=true):aV K f x qual st:=⟨⟨oc,od,kV,doc,pm,an,cdv,ct,osl,l,c⟩,k⟩
theorem aV.agI {K:PySem.W.Frag}{f:Addr}{x qual:Str}{st:Stmt}(F:aV K f x qual st) (ps:List Str)
  (h:∀ (kV doc pm:Value) (an:Option Addr) (cdv ct:Value) (us:List Value),us.length=ps.length→bindArgs (PySem.W.fnOf x qual (la st) (jO st) (aj st) .none kV doc pm an cdv ct) ⟨us,[]⟩=pure (ps.zip us)) :
  ∃ fd,Fun K x qual st f fd∧∀ (s:Shared) (us:List Value),us.length=ps.length→BindsTo s fd ⟨us,[]⟩ (ps.zip us):=by
 obtain⟨⟨oc,od,kV,doc,pm,an,cdv,ct,osl,l,c⟩,k⟩:=F;exact⟨_,alC l c k,fun s us hu=>.of_eq (h kV doc pm an cdv ct us hu)⟩
noncomputable def aV.def_ {K:PySem.W.Frag}{f:Addr}{x qual:Str}{st:Stmt}{ps:List Str}(F:aV K f x qual st)
  (h:∀ (kV doc pm:Value) (an:Option Addr) (cdv ct:Value) (us:List Value),us.length=ps.length→bindArgs (PySem.W.fnOf x qual (la st) (jO st) (aj st) .none kV doc pm an cdv ct) ⟨us,[]⟩=pure (ps.zip us)):aN K x qual st ps:=
 ⟨f,(F.agI ps h).choose,(F.agI ps h).choose_spec.1,(F.agI ps h).choose_spec.1.binds h,(F.agI ps h).choose_spec.2⟩
noncomputable def anb {K:PySem.W.Frag}{h:Heap}{mg:Str→Option Value}(X:K.In h) (G:h.Ns mainGlobals mg)
  {cy:Addr}
  (zT:PySem.W.nsIn K mainGlobals "Piece" = some (some (.ref cy)))
  (aaq:PySem.W.plainGet K cy Str.empty=true)
  (z7:PySem.W.hasDictIn K cy=true)
  (aat:PySem.W.plainOver K cy=true)
  (aaz:PySem.W.findIn K (.ref cy) "__setattr__" = some (some (.builtin "object.__setattr__")))
  (kX:PySem.W.makesIn K cy=true)
  (z9:PySem.W.keepIn K (.ref cy)=true)
  (b7:PySem.W.findIn K (.ref cy) "label" = some none)
  (cX:PySem.W.findIn K (.ref cy) "source" = some none)
  (eN:PySem.W.findIn K (.ref cy) "made" = some none)
  (bz:PySem.W.findIn K (.ref cy) "mass" = some none)
  (dI:PySem.W.findIn K (.ref cy) "used" = some none)
  (dH:PySem.W.findIn K (.ref cy) "lost" = some none)
  (cE:PySem.W.findIn K (.ref cy) "gone" = some none)
  (bc:PySem.W.findIn K (.ref cy) "box" = some none)
  (bN:PySem.W.findIn K (.ref cy) "holder" = some none)
  (cF:PySem.W.findIn K (.ref cy) "warm" = some none)
  {gL:Addr}
  (adM:PySem.W.nsIn K mainGlobals "Box" = some (some (.ref gL)))
  (aeH:PySem.W.plainGet K gL Str.empty=true)
  (aej:PySem.W.hasDictIn K gL=true)
  (aeM:PySem.W.plainOver K gL=true)
  (aeX:PySem.W.findIn K (.ref gL) "__setattr__" = some (some (.builtin "object.__setattr__")))
  (ue:PySem.W.makesIn K gL=true)
  (aeo:PySem.W.keepIn K (.ref gL)=true)
  (bf:cy≠gL)
  (cq:PySem.W.findIn K (.ref gL) "holder" = some none)
  (bb:PySem.W.findIn K (.ref gL) "outer" = some none)
  (dh:PySem.W.findIn K (.ref gL) "seal" = some none)
  (fh:PySem.W.findIn K (.ref gL) "frost" = some none)
  {bK:Addr}
  (zU:PySem.W.nsIn K mainGlobals "Store" = some (some (.ref bK)))
  (aar:PySem.W.plainGet K bK Str.empty=true)
  (z8:PySem.W.hasDictIn K bK=true)
  (aau:PySem.W.plainOver K bK=true)
  (aaA:PySem.W.findIn K (.ref bK) "__setattr__" = some (some (.builtin "object.__setattr__")))
  (nr:PySem.W.makesIn K bK=true)
  (aaa:PySem.W.keepIn K (.ref bK)=true)
  (br:cy≠bK)
  (cG:gL≠bK)
  (aO:PySem.W.findIn K (.ref bK) "pieces" = some none)
  (aU:PySem.W.findIn K (.ref bK) "boxes" = some none)
  (ck:PySem.W.findIn K (.ref bK) "handings" = some none)
  (cZ:PySem.W.findIn K (.ref bK) "minute" = some none)
  {cN:Addr}
  (xm:PySem.W.nsIn K mainGlobals "Reader" = some (some (.ref cN)))
  (ym:PySem.W.plainGet K cN Str.empty=true)
  (xW:PySem.W.hasDictIn K cN=true)
  (yq:PySem.W.plainOver K cN=true)
  (yC:PySem.W.findIn K (.ref cN) "__setattr__" = some (some (.builtin "object.__setattr__")))
  (lx:PySem.W.makesIn K cN=true)
  (xX:PySem.W.keepIn K (.ref cN)=true)
  (fo:cy≠cN)
  (gj:gL≠cN)
  (fq:bK≠cN)
  (cM:PySem.W.findIn K (.ref cN) "numbers" = some none)
  (cY:PySem.W.findIn K (.ref cN) "place" = some none)
  {aa0:Addr}
  (uY:PySem.W.nsIn K mainGlobals "label_of" = some (some (.ref aa0)))
  (uN:aV K aa0 "label_of" "label_of" vN)
  {qL:Addr}
  (qz:PySem.W.findIn K (.ref cy) "__init__" = some (some (.ref qL)))
  (qY:PySem.W.isFn K (.ref qL)=true)
  (qj:aV K qL "__init__" "Piece.__init__" rm)
  {vg:Addr}
  (uT:PySem.W.findIn K (.ref gL) "__init__" = some (some (.ref vg)))
  (vw:PySem.W.isFn K (.ref vg)=true)
  (uK:aV K vg "__init__" "Box.__init__" vJ)
  {qM:Addr}
  (qA:PySem.W.findIn K (.ref bK) "__init__" = some (some (.ref qM)))
  (qZ:PySem.W.isFn K (.ref qM)=true)
  (qk:aV K qM "__init__" "Store.__init__" rn)
  {j5:Addr}
  (j0:PySem.W.findIn K (.ref bK) "outermost" = some (some (.ref j5)))
  (ka:PySem.W.isFn K (.ref j5)=true)
  (gP:aV K j5 "outermost" "Store.outermost" kh)
  {jw:Addr}
  (jl:PySem.W.findIn K (.ref bK) "box_holder" = some (some (.ref jw)))
  (jB:PySem.W.isFn K (.ref jw)=true)
  (gm:aV K jw "box_holder" "Store.box_holder" jF)
  {iw:Addr}
  (ic:PySem.W.findIn K (.ref bK) "piece_holder" = some (some (.ref iw)))
  (iC:PySem.W.isFn K (.ref iw)=true)
  (fH:aV K iw "piece_holder" "Store.piece_holder" iN)
  {mm:Addr}
  (lT:PySem.W.findIn K (.ref bK) "is_open" = some (some (.ref mm)))
  (mw:PySem.W.isFn K (.ref mm)=true)
  (i9:aV K mm "is_open" "Store.is_open" mG)
  {ir:Addr}
  (ia:PySem.W.findIn K (.ref bK) "is_reachable" = some (some (.ref ir)))
  (iA:PySem.W.isFn K (.ref ir)=true)
  (fF:aV K ir "is_reachable" "Store.is_reachable" iK)
  {i3:Addr}
  (iY:PySem.W.findIn K (.ref bK) "is_in_frost" = some (some (.ref i3)))
  (i4:PySem.W.isFn K (.ref i3)=true)
  (f6:aV K i3 "is_in_frost" "Store.is_in_frost" i6)
  {mj:Addr}
  (lS:PySem.W.findIn K (.ref bK) "is_cold" = some (some (.ref mj)))
  (mv:PySem.W.isFn K (.ref mj)=true)
  (i8:aV K mj "is_cold" "Store.is_cold" mF)
  {j3:Addr}
  (jY:PySem.W.findIn K (.ref bK) "is_within" = some (some (.ref j3)))
  (j8:PySem.W.isFn K (.ref j3)=true)
  (gN:aV K j3 "is_within" "Store.is_within" kf)
  {kS:Addr}
  (kL:PySem.W.findIn K (.ref bK) "manifest" = some (some (.ref kS)))
  (kW:PySem.W.isFn K (.ref kS)=true)
  (hZ:aV K kS "manifest" "Store.manifest" iL)
  {m9:Addr}
  (m5:PySem.W.findIn K (.ref bK) "family" = some (some (.ref m9)))
  (nh:PySem.W.isFn K (.ref m9)=true)
  (jJ:aV K m9 "family" "Store.family" nB)
  {jz:Addr}
  (jm:PySem.W.findIn K (.ref bK) "make_loose" = some (some (.ref jz)))
  (jC:PySem.W.isFn K (.ref jz)=true)
  (gn:aV K jz "make_loose" "Store.make_loose" jG)
  {j4:Addr}
  (jZ:PySem.W.findIn K (.ref bK) "make_gone" = some (some (.ref j4)))
  (j9:PySem.W.isFn K (.ref j4)=true)
  (gO:aV K j4 "make_gone" "Store.make_gone" kg)
  {iu:Addr}
  (ib:PySem.W.findIn K (.ref bK) "note_handing" = some (some (.ref iu)))
  (iB:PySem.W.isFn K (.ref iu)=true)
  (fG:aV K iu "note_handing" "Store.note_handing" iM)
  {ad4:Addr}
  (zX:PySem.W.nsIn K mainGlobals "sample" = some (some (.ref ad4)))
  (zQ:aV K ad4 "sample" "sample" aax)
  {wA:Addr}
  (oX:PySem.W.nsIn K mainGlobals "split_piece" = some (some (.ref wA)))
  (oQ:aV K wA "split_piece" "split_piece" pf)
  {aj7:Addr}
  (ags:PySem.W.nsIn K mainGlobals "use" = some (some (.ref aj7)))
  (agq:aV K aj7 "use" "use" ahf)
  {ahM:Addr}
  (adR:PySem.W.nsIn K mainGlobals "lose" = some (some (.ref ahM)))
  (adG:aV K ahM "lose" "lose" aeT)
  {aa1:Addr}
  (uZ:PySem.W.nsIn K mainGlobals "make_box" = some (some (.ref aa1)))
  (uO:aV K aa1 "make_box" "make_box" vO)
  {aj6:Addr}
  (agr:PySem.W.nsIn K mainGlobals "put" = some (some (.ref aj6)))
  (agp:aV K aj6 "put" "put" ahe)
  {ahO:Addr}
  (adT:PySem.W.nsIn K mainGlobals "take" = some (some (.ref ahO)))
  (adI:aV K ahO "take" "take" aeV)
  {ahN:Addr}
  (adS:PySem.W.nsIn K mainGlobals "nest" = some (some (.ref ahN)))
  (adH:aV K ahN "nest" "nest" aeU)
  {ad5:Addr}
  (zY:PySem.W.nsIn K mainGlobals "unnest" = some (some (.ref ad5)))
  (zR:aV K ad5 "unnest" "unnest" aay)
  {aa4:Addr}
  (u5:PySem.W.nsIn K mainGlobals "seal_box" = some (some (.ref aa4)))
  (uR:aV K aa4 "seal_box" "seal_box" vR)
  {aa2:Addr}
  (u1:PySem.W.nsIn K mainGlobals "open_box" = some (some (.ref aa2)))
  (uP:aV K aa2 "open_box" "open_box" vP)
  {pK:Addr}
  (j1:PySem.W.nsIn K mainGlobals "handing_refusal" = some (some (.ref pK)))
  (jV:aV K pK "handing_refusal" "handing_refusal" ki)
  {ahL:Addr}
  (adQ:PySem.W.nsIn K mainGlobals "hand" = some (some (.ref ahL)))
  (adF:aV K ahL "hand" "hand" aeS)
  {acJ:Addr}
  (xt:PySem.W.nsIn K mainGlobals "handbox" = some (some (.ref acJ)))
  (xg:aV K acJ "handbox" "handbox" yA)
  {zk:Addr}
  (sU:PySem.W.nsIn K mainGlobals "set_frost" = some (some (.ref zk)))
  (sJ:aV K zk "set_frost" "set_frost" tQ)
  {acM:Addr}
  (xy:PySem.W.nsIn K mainGlobals "pass_by" = some (some (.ref acM)))
  (xk:aV K acM "pass_by" "pass_by" yB)
  {zj:Addr}
  (sT:PySem.W.nsIn K mainGlobals "carry_out" = some (some (.ref zj)))
  (sI:aV K zj "carry_out" "carry_out" tP)
  {xH:Addr}
  (qB:PySem.W.nsIn K mainGlobals "find_place" = some (some (.ref xH)))
  (ql:aV K xH "find_place" "find_place" rp)
  {rP:Addr}
  (lU:PySem.W.nsIn K mainGlobals "best_matching" = some (some (.ref rP)))
  (lF:aV K rP "best_matching" "best_matching" mH)
  {rQ:Addr}
  (lV:PySem.W.nsIn K mainGlobals "most_readings" = some (some (.ref rQ)))
  (lG:aV K rQ "most_readings" "most_readings" mJ)
  {acF:Addr}
  (xo:PySem.W.nsIn K mainGlobals "all_but" = some (some (.ref acF)))
  (xa:aV K acF "all_but" "all_but" sC)
  {rW:Addr}
  (l6:PySem.W.nsIn K mainGlobals "without_label" = some (some (.ref rW)))
  (lM:aV K rW "without_label" "without_label" je)
  {pL:Addr}
  (j2:PySem.W.nsIn K mainGlobals "without_reading" = some (some (.ref pL)))
  (jW:aV K pL "without_reading" "without_reading" kj)
  {wz:Addr}
  (oW:PySem.W.nsIn K mainGlobals "first_label" = some (some (.ref wz)))
  (oP:aV K wz "first_label" "first_label" pd)
  {lg:Addr}
  (gV:PySem.W.nsIn K mainGlobals "first_best_matching" = some (some (.ref lg)))
  (gU:aV K lg "first_best_matching" "first_best_matching" g4)
  {zm:Addr}
  (sV:PySem.W.nsIn K mainGlobals "surely_is" = some (some (.ref zm)))
  (sL:aV K zm "surely_is" "surely_is" oe)
  {t4:Addr}
  (m6:PySem.W.nsIn K mainGlobals "surely_there" = some (some (.ref t4)))
  (mZ:aV K t4 "surely_there" "surely_there" jT)
  {acK:Addr}
  (xw:PySem.W.nsIn K mainGlobals "is_read" = some (some (.ref acK)))
  (xh:aV K acK "is_read" "is_read" sE)
  {qQ:Addr}
  (kQ:PySem.W.nsIn K mainGlobals "surely_missing" = some (some (.ref qQ)))
  (kJ:aV K qQ "surely_missing" "surely_missing" iQ)
  {qP:Addr}
  (kP:PySem.W.nsIn K mainGlobals "surely_foreign" = some (some (.ref qP)))
  (kI:aV K qP "surely_foreign" "surely_foreign" iP)
  {acH:Addr}
  (xq:PySem.W.nsIn K mainGlobals "come_to" = some (some (.ref acH)))
  (xc:aV K acH "come_to" "come_to" sD)
  {qO:Addr}
  (kO:PySem.W.nsIn K mainGlobals "found_of_cover" = some (some (.ref qO)))
  (kH:aV K qO "found_of_cover" "found_of_cover" iO)
  {mU:Addr}
  (iZ:PySem.W.nsIn K mainGlobals "expected_of_cover" = some (some (.ref mU)))
  (iX:aV K mU "expected_of_cover" "expected_of_cover" eQ)
  {aaZ:Addr}
  (uX:PySem.W.nsIn K mainGlobals "is_digit" = some (some (.ref aaZ)))
  (uM:aV K aaZ "is_digit" "is_digit" vM)
  {xI:Addr}
  (qC:PySem.W.nsIn K mainGlobals "is_pattern" = some (some (.ref xI)))
  (qm:aV K xI "is_pattern" "is_pattern" mI)
  {aa3:Addr}
  (u4:PySem.W.nsIn K mainGlobals "parts_of" = some (some (.ref aa3)))
  (uQ:aV K aa3 "parts_of" "parts_of" vQ)
  {ahK:Addr}
  (adP:PySem.W.nsIn K mainGlobals "fits" = some (some (.ref ahK)))
  (adE:aV K ahK "fits" "fits" aeR)
  {acI:Addr}
  (xr:PySem.W.nsIn K mainGlobals "counted" = some (some (.ref acI)))
  (xf:aV K acI "counted" "counted" yz)
  {zi:Addr}
  (sS:PySem.W.nsIn K mainGlobals "as_number" = some (some (.ref zi)))
  (sH:aV K zi "as_number" "as_number" tO)
  {xO:Addr}
  (qH:PySem.W.nsIn K mainGlobals "tell_piece" = some (some (.ref xO)))
  (qu:aV K xO "tell_piece" "tell_piece" rB)
  {aa5:Addr}
  (u7:PySem.W.nsIn K mainGlobals "tell_box" = some (some (.ref aa5)))
  (uS:aV K aa5 "tell_box" "tell_box" vS)
  {rT:Addr}
  (lY:PySem.W.nsIn K mainGlobals "tell_manifest" = some (some (.ref rT)))
  (lK:aV K rT "tell_manifest" "tell_manifest" mO)
  {zp:Addr}
  (sX:PySem.W.nsIn K mainGlobals "tell_sums" = some (some (.ref zp)))
  (sN:aV K zp "tell_sums" "tell_sums" og)
  {xJ:Addr}
  (qD:PySem.W.nsIn K mainGlobals "read_label" = some (some (.ref xJ)))
  (qo:aV K xJ "read_label" "read_label" mM)
  {zo:Addr}
  (sW:PySem.W.nsIn K mainGlobals "tell_best" = some (some (.ref zo)))
  (sM:aV K zo "tell_best" "tell_best" tR)
  {zq:Addr}
  (sY:PySem.W.nsIn K mainGlobals "tell_sure" = some (some (.ref zq)))
  (sO:aV K zq "tell_sure" "tell_sure" tS)
  {xM:Addr}
  (qF:PySem.W.nsIn K mainGlobals "tell_cover" = some (some (.ref xM)))
  (qr:aV K xM "tell_cover" "tell_cover" rq)
  {xK:Addr}
  (qE:PySem.W.nsIn K mainGlobals "tell_chain" = some (some (.ref xK)))
  (qp:aV K xK "tell_chain" "tell_chain" mN)
  {zr:Addr}
  (sZ:PySem.W.nsIn K mainGlobals "tell_warm" = some (some (.ref zr)))
  (sP:aV K zr "tell_warm" "tell_warm" oh)
  {xN:Addr}
  (qG:PySem.W.nsIn K mainGlobals "tell_label" = some (some (.ref xN)))
  (qt:aV K xN "tell_label" "tell_label" rA)
  {ou:Addr}
  (jn:PySem.W.nsIn K mainGlobals "matching_refusal" = some (some (.ref ou)))
  (jh:aV K ou "matching_refusal" "matching_refusal" jH)
  {rV:Addr}
  (lZ:PySem.W.nsIn K mainGlobals "tell_matching" = some (some (.ref rV)))
  (lL:aV K rV "tell_matching" "tell_matching" jd)
  {ahP:Addr}
  (adU:PySem.W.nsIn K mainGlobals "tell" = some (some (.ref ahP)))
  (adJ:aV K ahP "tell" "tell" aeW)
  {oY:Addr}
  (oT:PySem.W.findIn K (.ref cN) "__init__" = some (some (.ref oY)))
  (o5:PySem.W.isFn K (.ref oY)=true)
  (oM:aV K oY "__init__" "Reader.__init__" o7)
  {mh:Addr}
  (lR:PySem.W.findIn K (.ref cN) "at_end" = some (some (.ref mh)))
  (mq:PySem.W.isFn K (.ref mh)=true)
  (i7:aV K mh "at_end" "Reader.at_end" mE)
  {iq:Addr}
  (h9:PySem.W.findIn K (.ref cN) "read_number" = some (some (.ref iq)))
  (iz:PySem.W.isFn K (.ref iq)=true)
  (fE:aV K iq "read_number" "Reader.read_number" iJ)
  {jv:Addr}
  (jj:PySem.W.findIn K (.ref cN) "read_text" = some (some (.ref jv)))
  (jA:PySem.W.isFn K (.ref jv)=true)
  (gk:aV K jv "read_text" "Reader.read_text" gz)
  {gF:Addr}
  (gB:PySem.W.findIn K (.ref cN) "read_argument" = some (some (.ref gF)))
  (gH:PySem.W.isFn K (.ref gF)=true)
  (eW:aV K gF "read_argument" "Reader.read_argument" gJ)
  {acL:Addr}
  (xx:PySem.W.nsIn K mainGlobals "is_text" = some (some (.ref acL)))
  (xj:aV K acL "is_text" "is_text" sG)
  {aaY:Addr}
  (uW:PySem.W.nsIn K mainGlobals "in_range" = some (some (.ref aaY)))
  (uL:aV K aaY "in_range" "in_range" vL)
  {rS:Addr}
  (lX:PySem.W.nsIn K mainGlobals "piece_refusal" = some (some (.ref rS)))
  (lJ:aV K rS "piece_refusal" "piece_refusal" mL)
  {wy:Addr}
  (oV:PySem.W.nsIn K mainGlobals "box_refusal" = some (some (.ref wy)))
  (oO:aV K wy "box_refusal" "box_refusal" o9)
  {rR:Addr}
  (lW:PySem.W.nsIn K mainGlobals "named_refusal" = some (some (.ref rR)))
  (lI:aV K rR "named_refusal" "named_refusal" mK)
  {qN:Addr}
  (kN:PySem.W.nsIn K mainGlobals "common_refusal" = some (some (.ref qN)))
  (kG:aV K qN "common_refusal" "common_refusal" k4)
  {wx:Addr}
  (oU:PySem.W.nsIn K mainGlobals "answer_next" = some (some (.ref wx)))
  (oN:aV K wx "answer_next" "answer_next" o8)
  {acG:Addr}
  (xp:PySem.W.nsIn K mainGlobals "answers" = some (some (.ref acG)))
  (xb:aV K acG "answers" "answers" yy)
  {adA:Tok}
  (oS:PySem.W.nsIn K mainGlobals "MOST_PIECES" = some (some (.int 40 adA)))
  {afd:Tok}
  (qw:PySem.W.nsIn K mainGlobals "MOST_BOXES" = some (some (.int 10 afd)))
  {abK:Tok}
  (lQ:PySem.W.nsIn K mainGlobals "MOST_HANDINGS" = some (some (.int 200 abK)))
  {adz:Tok}
  (oR:PySem.W.nsIn K mainGlobals "LAST_MINUTE" = some (some (.int 1000000000 adz)))
  {aho:Tok}
  (uU:PySem.W.nsIn K mainGlobals "NO_LABEL" = some (some (.int 0 aho)))
  {yI:Tok}
  (jk:PySem.W.nsIn K mainGlobals "SIGNS_OF_A_LABEL" = some (some (.int 6 yI)))
  {amF:Tok}
  (adO:PySem.W.nsIn K mainGlobals "ZERO" = some (some (.int 48 amF)))
  {amE:Tok}
  (adN:PySem.W.nsIn K mainGlobals "NINE" = some (some (.int 57 amE)))
  {ajX:Tok}
  (zW:PySem.W.nsIn K mainGlobals "UNREAD" = some (some (.int 63 ajX)))
  {alh:Tok}
  (abX:PySem.W.nsIn K mainGlobals "BLANK" = some (some (.int 32 alh)))
  {aff:Tok}
  (qy:PySem.W.nsIn K mainGlobals "MOST_FOUND" = some (some (.int 8 aff)))
  {abJ:Tok}
  (lP:PySem.W.nsIn K mainGlobals "MOST_EXPECTED" = some (some (.int 10 abJ)))
  {abH:Tok}
  (lN:PySem.W.nsIn K mainGlobals "FIRST_TELLING" = some (some (.int 15 abH)))
  {afe:Tok}
  (qx:PySem.W.nsIn K mainGlobals "MOST_BYTES" = some (some (.int 60 afe)))
  {abI:Tok}
  (lO:PySem.W.nsIn K mainGlobals "GREATEST_BYTE" = some (some (.int 255 abI)))
  (vc:PySem.W.nsIn K mainGlobals "all" = some none)
  (yQ:PySem.W.nsIn K mainGlobals "any" = some none)
  (iU:PySem.W.nsIn K mainGlobals "enumerate" = some none)
  (cU:PySem.W.nsIn K mainGlobals "len" = some none)
  (qI:PySem.W.nsIn K mainGlobals "list" = some none)
  (jL:PySem.W.nsIn K mainGlobals "range" = some none)
  (jM:PySem.W.nsIn K mainGlobals "reversed" = some none)
  (jr:PySem.W.nsIn K mainGlobals "sorted" = some none)
  (rJ:PySem.W.nsIn K mainGlobals "sum" = some none):Pg K mg where
 c:=⟨cy,gL,bK,cN⟩
 aD:=⟨aaq,z7,aat,aaz⟩
 ab6:=PySem.W.mg_of X G zT
 b7:=b7
 cX:=cX
 eN:=eN
 bz:=bz
 dI:=dI
 dH:=dH
 cE:=cE
 bc:=bc
 bN:=bN
 cF:=cF
 bP:=⟨aeH,aej,aeM,aeX⟩
 aj8:=PySem.W.mg_of X G adM
 bf:=bf
 cq:=cq
 bb:=bb
 dh:=dh
 fh:=fh
 aq:=⟨aar,z8,aau,aaA⟩
 af3:=PySem.W.mg_of X G zU
 br:=br
 cG:=cG
 aO:=aO
 aU:=aU
 ck:=ck
 cZ:=cZ
 c7:=⟨ym,xW,yq,yC⟩
 ad9:=PySem.W.mg_of X G xm
 fo:=fo
 gj:=gj
 fq:=fq
 cM:=cM
 cY:=cY
 d7:=uN.def_ fun _ _ _ _ _ _ us hl=>match us,hl with | [_],_=>rfl
 pT:=PySem.W.mg_of X G uY
 fV:=qj.def_ fun _ _ _ _ _ _ us hl=>match us,hl with | [_,_,_,_],_=>rfl
 kX:=⟨kX,qz,qY,z9⟩
 jN:=uK.def_ fun _ _ _ _ _ _ us hl=>match us,hl with | [_,_],_=>rfl
 ue:=⟨ue,uT,vw,aeo⟩
 gW:=qk.def_ fun _ _ _ _ _ _ us hl=>match us,hl with | [_],_=>rfl
 nr:=⟨nr,qA,qZ,aaa⟩
 eL:=gP.def_ fun _ _ _ _ _ _ us hl=>match us,hl with | [_,_],_=>rfl
 pN:=⟨j0,ka,gP.kp⟩
 bS:=gm.def_ fun _ _ _ _ _ _ us hl=>match us,hl with | [_,_],_=>rfl
 dX:=⟨jl,jB,gm.kp⟩
 cC:=fH.def_ fun _ _ _ _ _ _ us hl=>match us,hl with | [_,_],_=>rfl
 iG:=⟨ic,iC,fH.kp⟩
 bL:=i9.def_ fun _ _ _ _ _ _ us hl=>match us,hl with | [_,_],_=>rfl
 cW:=⟨lT,mw,i9.kp⟩
 cA:=fF.def_ fun _ _ _ _ _ _ us hl=>match us,hl with | [_,_],_=>rfl
 iD:=⟨ia,iA,fF.kp⟩
 cP:=f6.def_ fun _ _ _ _ _ _ us hl=>match us,hl with | [_,_],_=>rfl
 i5:=⟨iY,i4,f6.kp⟩
 fk:=i8.def_ fun _ _ _ _ _ _ us hl=>match us,hl with | [_,_],_=>rfl
 sr:=⟨lS,mv,i8.kp⟩
 dt:=gN.def_ fun _ _ _ _ _ _ us hl=>match us,hl with | [_,_,_],_=>rfl
 kb:=⟨jY,j8,gN.kp⟩
 c9:=hZ.def_ fun _ _ _ _ _ _ us hl=>match us,hl with | [_,_],_=>rfl
 iE:=⟨kL,kW,hZ.kp⟩
 fT:=jJ.def_ fun _ _ _ _ _ _ us hl=>match us,hl with | [_,_],_=>rfl
 uc:=⟨m5,nh,jJ.kp⟩
 c8:=gn.def_ fun _ _ _ _ _ _ us hl=>match us,hl with | [_,_],_=>rfl
 jD:=⟨jm,jC,gn.kp⟩
 du:=gO.def_ fun _ _ _ _ _ _ us hl=>match us,hl with | [_,_],_=>rfl
 kc:=⟨jZ,j9,gO.kp⟩
 cB:=fG.def_ fun _ _ _ _ _ _ us hl=>match us,hl with | [_,_,_,_],_=>rfl
 iF:=⟨ib,iB,fG.kp⟩
 il:=zQ.def_ fun _ _ _ _ _ _ us hl=>match us,hl with | [_,_],_=>rfl
 ajd:=PySem.W.mg_of X G zX
 dG:=oQ.def_ fun _ _ _ _ _ _ us hl=>match us,hl with | [_,_],_=>rfl
 adh:=PySem.W.mg_of X G oX
 pR:=agq.def_ fun _ _ _ _ _ _ us hl=>match us,hl with | [_,_],_=>rfl
 amZ:=PySem.W.mg_of X G ags
 md:=adG.def_ fun _ _ _ _ _ _ us hl=>match us,hl with | [_,_],_=>rfl
 alG:=PySem.W.mg_of X G adR
 fJ:=uO.def_ fun _ _ _ _ _ _ us hl=>match us,hl with | [_,_],_=>rfl
 agK:=PySem.W.mg_of X G uZ
 pQ:=agp.def_ fun _ _ _ _ _ _ us hl=>match us,hl with | [_,_],_=>rfl
 amY:=PySem.W.mg_of X G agr
 mf:=adI.def_ fun _ _ _ _ _ _ us hl=>match us,hl with | [_,_],_=>rfl
 alI:=PySem.W.mg_of X G adT
 me:=adH.def_ fun _ _ _ _ _ _ us hl=>match us,hl with | [_,_],_=>rfl
 alH:=PySem.W.mg_of X G adS
 ip:=zR.def_ fun _ _ _ _ _ _ us hl=>match us,hl with | [_,_],_=>rfl
 aje:=PySem.W.mg_of X G zY
 fL:=uR.def_ fun _ _ _ _ _ _ us hl=>match us,hl with | [_,_],_=>rfl
 agM:=PySem.W.mg_of X G u5
 fK:=uP.def_ fun _ _ _ _ _ _ us hl=>match us,hl with | [_,_],_=>rfl
 agL:=PySem.W.mg_of X G u1
 cj:=jV.def_ fun _ _ _ _ _ _ us hl=>match us,hl with | [_,_,_,_],_=>rfl
 j6:=PySem.W.mg_of X G j1
 ma:=adF.def_ fun _ _ _ _ _ _ us hl=>match us,hl with | [_,_],_=>rfl
 alF:=PySem.W.mg_of X G adQ
 gr:=xg.def_ fun _ _ _ _ _ _ us hl=>match us,hl with | [_,_],_=>rfl
 ahV:=PySem.W.mg_of X G xt
 eX:=sJ.def_ fun _ _ _ _ _ _ us hl=>match us,hl with | [_,_],_=>rfl
 aft:=PySem.W.mg_of X G sU
 gx:=xk.def_ fun _ _ _ _ _ _ us hl=>match us,hl with | [_,_],_=>rfl
 ahW:=PySem.W.mg_of X G xy
 gD:=sI.def_ fun _ _ _ _ _ _ us hl=>match us,hl with | [_,_,_],_=>rfl
 zy:=PySem.W.mg_of X G sT
 bQ:=ql.def_ fun _ _ _ _ _ _ us hl=>match us,hl with | [_,_,_,_],_=>rfl
 qT:=PySem.W.mg_of X G qB
 b9:=lF.def_ fun _ _ _ _ _ _ us hl=>match us,hl with | [_],_=>rfl
 jb:=PySem.W.mg_of X G lU
 bp:=lG.def_ fun _ _ _ _ _ _ us hl=>match us,hl with | [_],_=>rfl
 fm:=PySem.W.mg_of X G lV
 gp:=xa.def_ fun _ _ _ _ _ _ us hl=>match us,hl with | [_,_],_=>rfl
 xT:=PySem.W.mg_of X G xo
 cb:=lM.def_ fun _ _ _ _ _ _ us hl=>match us,hl with | [_,_],_=>rfl
 jc:=PySem.W.mg_of X G l6
 dv:=jW.def_ fun _ _ _ _ _ _ us hl=>match us,hl with | [_,_,_],_=>rfl
 pM:=PySem.W.mg_of X G j2
 fC:=oP.def_ fun _ _ _ _ _ _ us hl=>match us,hl with | [_,_],_=>rfl
 wF:=PySem.W.mg_of X G oW
 cv:=gU.def_ fun _ _ _ _ _ _ us hl=>match us,hl with | [_],_=>rfl
 lh:=PySem.W.mg_of X G gV
 gE:=sL.def_ fun _ _ _ _ _ _ us hl=>match us,hl with | [_],_=>rfl
 zz:=PySem.W.mg_of X G sV
 eU:=mZ.def_ fun _ _ _ _ _ _ us hl=>match us,hl with | [_,_],_=>rfl
 t5:=PySem.W.mg_of X G m6
 gw:=xh.def_ fun _ _ _ _ _ _ us hl=>match us,hl with | [_,_],_=>rfl
 xV:=PySem.W.mg_of X G xw
 dQ:=kJ.def_ fun _ _ _ _ _ _ us hl=>match us,hl with | [_,_],_=>rfl
 qX:=PySem.W.mg_of X G kQ
 dN:=kI.def_ fun _ _ _ _ _ _ us hl=>match us,hl with | [_],_=>rfl
 qW:=PySem.W.mg_of X G kP
 gq:=xc.def_ fun _ _ _ _ _ _ us hl=>match us,hl with | [_],_=>rfl
 xU:=PySem.W.mg_of X G xq
 dM:=kH.def_ fun _ _ _ _ _ _ us hl=>match us,hl with | [_],_=>rfl
 qU:=PySem.W.mg_of X G kO
 cQ:=iX.def_ fun _ _ _ _ _ _ us hl=>match us,hl with | [_,_],_=>rfl
 mV:=PySem.W.mg_of X G iZ
 fI:=uM.def_ fun _ _ _ _ _ _ us hl=>match us,hl with | [_],_=>rfl
 vn:=PySem.W.mg_of X G uX
 d6:=qm.def_ fun _ _ _ _ _ _ us hl=>match us,hl with | [_],_=>rfl
 qV:=PySem.W.mg_of X G qC
 ik:=uQ.def_ fun _ _ _ _ _ _ us hl=>match us,hl with | [_],_=>rfl
 abb:=PySem.W.mg_of X G u4
 l9:=adE.def_ fun _ _ _ _ _ _ us hl=>match us,hl with | [_,_],_=>rfl
 aec:=PySem.W.mg_of X G adP
 bw:=xf.def_ fun _ _ _ _ _ _ us hl=>match us,hl with | [_],_=>rfl
 fg:=PySem.W.mg_of X G xr
 dE:=sH.def_ fun _ _ _ _ _ _ us hl=>match us,hl with | [_],_=>rfl
 n0:=PySem.W.mg_of X G sS
 eF:=qu.def_ fun _ _ _ _ _ _ us hl=>match us,hl with | [_,_],_=>rfl
 aeh:=PySem.W.mg_of X G qH
 fM:=uS.def_ fun _ _ _ _ _ _ us hl=>match us,hl with | [_,_],_=>rfl
 agN:=PySem.W.mg_of X G u7
 cV:=lK.def_ fun _ _ _ _ _ _ us hl=>match us,hl with | [_,_],_=>rfl
 abc:=PySem.W.mg_of X G lY
 eZ:=sN.def_ fun _ _ _ _ _ _ us hl=>match us,hl with | [_,_],_=>rfl
 afv:=PySem.W.mg_of X G sX
 ek:=qo.def_ fun _ _ _ _ _ _ us hl=>match us,hl with | [_,_],_=>rfl
 aed:=PySem.W.mg_of X G qD
 eY:=sM.def_ fun _ _ _ _ _ _ us hl=>match us,hl with | [_,_],_=>rfl
 afu:=PySem.W.mg_of X G sW
 e7:=sO.def_ fun _ _ _ _ _ _ us hl=>match us,hl with | [_,_],_=>rfl
 afw:=PySem.W.mg_of X G sY
 eC:=qr.def_ fun _ _ _ _ _ _ us hl=>match us,hl with | [_,_],_=>rfl
 aef:=PySem.W.mg_of X G qF
 eA:=qp.def_ fun _ _ _ _ _ _ us hl=>match us,hl with | [_,_],_=>rfl
 aee:=PySem.W.mg_of X G qE
 e8:=sP.def_ fun _ _ _ _ _ _ us hl=>match us,hl with | [_,_],_=>rfl
 afx:=PySem.W.mg_of X G sZ
 eD:=qt.def_ fun _ _ _ _ _ _ us hl=>match us,hl with | [_,_],_=>rfl
 aeg:=PySem.W.mg_of X G qG
 dc:=jh.def_ fun _ _ _ _ _ _ us hl=>match us,hl with | [_,_],_=>rfl
 ox:=PySem.W.mg_of X G jn
 eE:=lL.def_ fun _ _ _ _ _ _ us hl=>match us,hl with | [_,_,_],_=>rfl
 sg:=PySem.W.mg_of X G lZ
 qK:=adJ.def_ fun _ _ _ _ _ _ us hl=>match us,hl with | [_,_,_],_=>rfl
 ahX:=PySem.W.mg_of X G adU
 gc:=oM.def_ fun _ _ _ _ _ _ us hl=>match us,hl with | [_,_],_=>rfl
 lx:=⟨lx,oT,o5,xX⟩
 fj:=i7.def_ fun _ _ _ _ _ _ us hl=>match us,hl with | [_],_=>rfl
 sj:=⟨lR,mq,i7.kp⟩
 bR:=fE.def_ fun _ _ _ _ _ _ us hl=>match us,hl with | [_],_=>rfl
 eG:=⟨h9,iz,fE.kp⟩
 dW:=gk.def_ fun _ _ _ _ _ _ us hl=>match us,hl with | [_],_=>rfl
 oz:=⟨jj,jA,gk.kp⟩
 cJ:=eW.def_ fun _ _ _ _ _ _ us hl=>match us,hl with | [_,_],_=>rfl
 kr:=⟨gB,gH,eW.kp⟩
 jt:=xj.def_ fun _ _ _ _ _ _ us hl=>match us,hl with | [_],_=>rfl
 acP:=PySem.W.mg_of X G xx
 ij:=uL.def_ fun _ _ _ _ _ _ us hl=>match us,hl with | [_,_],_=>rfl
 aba:=PySem.W.mg_of X G uW
 d9:=lJ.def_ fun _ _ _ _ _ _ us hl=>match us,hl with | [_,_,_],_=>rfl
 sf:=PySem.W.mg_of X G lX
 fB:=oO.def_ fun _ _ _ _ _ _ us hl=>match us,hl with | [_,_],_=>rfl
 wD:=PySem.W.mg_of X G oV
 d8:=lI.def_ fun _ _ _ _ _ _ us hl=>match us,hl with | [_,_,_,_],_=>rfl
 se:=PySem.W.mg_of X G lW
 dJ:=kG.def_ fun _ _ _ _ _ _ us hl=>match us,hl with | [_,_,_],_=>rfl
 qS:=PySem.W.mg_of X G kN
 fA:=oN.def_ fun _ _ _ _ _ _ us hl=>match us,hl with | [_,_],_=>rfl
 wC:=PySem.W.mg_of X G oU
 hC:=xb.def_ fun _ _ _ _ _ _ us hl=>match us,hl with | [_],_=>rfl
 acO:=PySem.W.mg_of X G xp
 o3:=⟨_,PySem.W.mg_of X G oS,⟨_,rfl⟩⟩
 xQ:=⟨_,PySem.W.mg_of X G qw,⟨_,rfl⟩⟩
 sd:=⟨_,PySem.W.mg_of X G lQ,⟨_,rfl⟩⟩
 wB:=⟨_,PySem.W.mg_of X G oR,⟨_,rfl⟩⟩
 mn:=⟨_,PySem.W.mg_of X G uU,⟨_,rfl⟩⟩
 ow:=⟨_,PySem.W.mg_of X G jk,⟨_,rfl⟩⟩
 aeb:=⟨_,PySem.W.mg_of X G adO,⟨_,rfl⟩⟩
 ahU:=⟨_,PySem.W.mg_of X G adN,⟨_,rfl⟩⟩
 aea:=⟨_,PySem.W.mg_of X G zW,⟨_,rfl⟩⟩
 af2:=⟨_,PySem.W.mg_of X G abX,⟨_,rfl⟩⟩
 xS:=⟨_,PySem.W.mg_of X G qy,⟨_,rfl⟩⟩
 rZ:=⟨_,PySem.W.mg_of X G lP,⟨_,rfl⟩⟩
 rX:=⟨_,PySem.W.mg_of X G lN,⟨_,rfl⟩⟩
 xR:=⟨_,PySem.W.mg_of X G qx,⟨_,rfl⟩⟩
 rY:=⟨_,PySem.W.mg_of X G lO,⟨_,rfl⟩⟩
 vc:=PySem.W.mg_none_of X G vc
 yQ:=PySem.W.mg_none_of X G yQ
 iU:=PySem.W.mg_none_of X G iU
 cU:=PySem.W.mg_none_of X G cU
 qI:=PySem.W.mg_none_of X G qI
 jL:=PySem.W.mg_none_of X G jL
 jM:=PySem.W.mg_none_of X G jM
 jr:=PySem.W.mg_none_of X G jr
 rJ:=PySem.W.mg_none_of X G rJ
structure jX (P:Program) (w:World) (K:PySem.W.Frag) (a:Addr) (kvs:List (Key×V)):Prop where
 sys:(a == sysModules)=false
 at_:∃ (o:Obj) (es:Array DictEntry) (ep:Nat) (vs:List (Key×Value)),K.lookup a=some o∧o.ExactDict∧o.data = .dict es ep∧KeysOf (bH P w) es∧Pairs (bH P w) es.toList vs∧(vs.map (·.1)).Nodup∧KV kvs vs
section
variable {X:Cx}{o i e:Expr}{pos pos':Pos}{td ty:TE}{pins:List (Addr×Obj)}{σ:L2.St}{H:Hp}{s:Shared}{a:Addr}{kvs:List (Key×V)}
theorem jX.dictOf (M:jX X.prog X.w X.K a kvs) (I:Inv X pins σ H s):∃ vs,KV kvs vs∧s.heap.DictOf (bH X.prog X.w) a vs:=by
 obtain⟨o,es,ep,vs,h1,h2,h3,h4,h5,h6,h7⟩:=M.at_;exact⟨vs,h7,o,es,ep,I.kIn a o h1,h2,h3,h4,h5,h6⟩
def ank (kvs:List (Key×V)) (ty:TE):TE:=fun σ H Q=>ty σ H fun y H1=>∃ k v,y=kV k∧bg kvs k=some v∧Q v H1
theorem ui {x:Str}(M:jX X.prog X.w X.K a kvs) (hg:Gl X x) (hm:X.mg x=some (.ref a)) (hi:PE X i ty) (hs:aiY i) (hd:(x == ("__debug__" : Str))=false:=by decide):PE X (.Subscript (.Name x pos') i pos) (ank kvs ty):=by
 intro pins s σ H Q I h;refine agm PySem.F.slot_dict_getitem.lookup hs (qi I hg hm (thn (hi pins s σ H _ I h) fun iv s2 ⟨y,H2,I2,ry,k,v,ey,g,q2⟩=>?_) hd);subst ey;obtain⟨vs,rel,dd⟩:=M.dictOf I2;obtain⟨w',hw,rw'⟩:=ji.some_of (v:=v) (o:=valueAt vs k) (by rw[← g];exact rel.val k);exact⟨dd.typeIs,wpAny_getItem_of (si ry) dd.mapOf hw ⟨v,H2,I2.tok _,rw',q2⟩⟩
def anV (kvs:List (Key×V)) (ty:TE):TE:=fun σ H Q=>ty σ H fun y H1=>∃ k,y=kV k∧Q (.bl (bg kvs k).isSome) H1
theorem alZ {x:Str}(M:jX X.prog X.w X.K a kvs) (hg:Gl X x) (hm:X.mg x=some (.ref a)) (hi:PE X i ty) (hd:(x == ("__debug__" : Str))=false:=by decide):PC X .In i (.Name x pos') (anV kvs ty):=by
 intro pins s σ H Q I h;refine thn (hi pins s σ H _ I h) fun iv s1 ⟨y,H1,I1,ry,k,ey,q1⟩=>qi I1 hg hm ?_ hd;subst ey;obtain⟨vs,rel,dd⟩:=M.dictOf I1;refine wpAny_in_of (si ry) M.sys dd.mapOf ?_;rw[← (rel.val k).lj];exact⟨.bl (bg kvs k).isSome,H1,I1.tok _,rfl,q1⟩
def amw (X:Cx) (CX:CXT) (E:XK) (tf:TE) (t:TA):TE:=fun σ H Q=>tf σ H fun x H1=>∃ (f:Addr) (fd:FuncData) (k:Nat) (ps:List Str) (sp:Sp),x = .ref f∧aP X.prog X.w X.K X.mg X.base CX k f fd ps sp∧bh k X.A∧PySem.W.keepIn X.K (.ref f)=true∧Binds X.K fd ps [] ∧
 t σ H1 fun vs H2=>sp vs H2 Q E
theorem aan {CX:CXT}{E:XK}{fe:Expr}{es:List Expr}{t:TA}{tf:TE}(hf:PE X fe tf) (hx:Passes CX X E) (ha:PA X (e::es) t)
  (ht:eval (.Call fe (e::es) [] pos) X.env=(do callWith pos (← eval fe X.env) [] (backTo pos (starEach (e::es) X.env)) (backToKw pos (keywordEach [] X.env))):=by rfl)
  (he:starEach (e::es) X.env=(false,eval e X.env)::starEach es X.env:=by rfl) (hpl:(backTo pos (starEach es X.env)).any (·.1)=false:=by rfl) :
  PE X (.Call fe (e::es) [] pos) (amw X CX E tf t):=by
 intro pins s σ H Q I h;rw[ht];refine wpAny_bind (thn (hf pins s σ H _ I h) fun u s1 ⟨x,H1,I1,rx,f,fd,k,ps,sp,ex,F,hr,hk,hb,q⟩=>?_);subst ex;obtain rfl:u=Value.ref f:=rx;refine PySem.W.callWith_K (h₀:=X.base) I.ok.mod.kin hk (thn (ha pos pins s1 σ H1 _ I1 q) fun us s2 ⟨vs,H2,I2,r,q2⟩=>⟨I2.kIn,?_⟩) he hpl;have q3:sp (vs++[]) H2 Q E:=by
  rw[List.append_nil];exact q2
 exact abC F hr hb .nil hx I2 r q3
end
theorem akA {d:Addr}{o:Obj}{kvs:List (Key×V)}{g:TG}{tt:TT}{te:TE}{vs:List Nat}{σ:L2.St}{H1:Hp}{D:Addr}{Qd:Hp→Prop}(Pv:Nat→Hp→Prop) (h0:Pv 0 (upd H1 D (.lst [])))
  (hl:∀ i H,i≤kvs.length→Pv i H→H d=some (.frz o (.dK kvs)))
  (hs:∀ (i:Nat) k x H,kvs[i]?=some (k,x)→Pv i H→g x (wipe σ vs) H fun σ2 H2=>wipe σ2 vs=wipe σ vs∧tt σ2 H2 fun b H3=>
   if b=true then te σ2 H3 fun y H4=>∃ acc,H4 D=some (.lst acc)∧acc.length<sizeLine∧Pv (i+1) (upd H4 D (.lst (acc++[y]))) else Pv (i+1) H3) (hd:∀ H,Pv kvs.length H→Qd H) :
  ∃ W:Nat→Nat→Hp→Prop,(∃ m,W 0 m (upd H1 D (.lst [])))∧∀ i m H,W i m H →
   ((Itd d o kvs).stop i H∧Qd H)∨((Itd d o kvs).go i H∧∃ Nx:Hp→Prop,(∀ H',Nx H'→∃ m',m'<m∧W (i+1) m' H')∧∀ x H',(Itd d o kvs).yld i H x H'→g x (wipe σ vs) H' fun σ2 H2=>wipe σ2 vs=wipe σ vs∧tt σ2 H2 fun b H3=>
    if b=true then te σ2 H3 fun y H4=>∃ acc,H4 D=some (.lst acc)∧acc.length<sizeLine∧Nx (upd H4 D (.lst (acc++[y]))) else Nx H3):=by
 refine⟨fun i m H=>m=kvs.length-i∧i≤kvs.length∧Pv i H,⟨kvs.length,by simp,Nat.zero_le _,h0⟩,?_⟩;rintro i m H ⟨rfl,hi,p⟩;have q:=hl i H hi p;by_cases hlt:i<kvs.length
 ·refine .inr ⟨⟨q,hlt⟩,Pv (i+1),fun H' p'=>⟨kvs.length-(i+1),by omega,rfl,hlt,p'⟩,fun x H' y=>?_⟩;obtain⟨e,k,y⟩:=y;subst e;exact hs i k x _ y p
 ·have e:i=kvs.length:=by omega
  subst e;exact .inl ⟨⟨q,Nat.le_refl _⟩,hd H p⟩
theorem ad7 {d:Addr}{o:Obj}{kvs:List (Key×V)}{g:TG}{tb:TS}{D:Ends}{σ:L2.St}{H:Hp}(Pv:Nat→L2.St→Hp→Prop) (h0:Pv 0 σ H) (hl:∀ i σ H,i≤kvs.length→Pv i σ H→H d=some (.frz o (.dK kvs)))
  (hs:∀ (i:Nat) k x σ H,kvs[i]?=some (k,x)→Pv i σ H→g x σ H fun σ2 H2=>tb { D with nx:=Pv (i+1),ct:=Pv (i+1),bk:=D.nx } σ2 H2) (hd:∀ σ H,Pv kvs.length σ H→D.nx σ H) :
  ∃ W:Nat→Nat→L2.St→Hp→Prop,(∃ m,W 0 m σ H)∧∀ i m σ H,W i m σ H →
   ((Itd d o kvs).stop i H∧D.nx σ H)∨((Itd d o kvs).go i H∧∃ N:L2.St→Hp→Prop,(∀ σ' H',N σ' H'→∃ m',m'<m∧W (i+1) m' σ' H')∧∀ x H',(Itd d o kvs).yld i H x H'→g x σ H' fun σ2 H2=>tb { D with nx:=N,ct:=N,bk:=D.nx } σ2 H2):=by
 refine⟨fun i m σ H=>m=kvs.length-i∧i≤kvs.length∧Pv i σ H,⟨kvs.length,by simp,Nat.zero_le _,h0⟩,?_⟩;rintro i m σ H ⟨rfl,hi,p⟩;have q:=hl i σ H hi p;by_cases hlt:i<kvs.length
 ·refine .inr ⟨⟨q,hlt⟩,Pv (i+1),fun σ' H' p'=>⟨kvs.length-(i+1),by omega,rfl,hlt,p'⟩,fun x H' y=>?_⟩;obtain⟨e,k,y⟩:=y;subst e;exact hs i k x σ _ y p
 ·have e:i=kvs.length:=by omega
  subst e;exact .inl ⟨⟨q,Nat.le_refl _⟩,hd σ H p⟩
def src (p:Vbexam.Piece):Int:=match p.parent with
 | none=>-1
 | some q=>(q:Int)
def pF (p:Vbexam.Piece) (h:Int):List (Str×V):=[("label",.int p.label),("source",.int (src p)),("made",.int p.all),("mass",.int p.now),("used",.int p.used),("lost",.int p.lost),("gone",.bl p.gone),("box",.int p.box),("holder",.int h),("warm",.int p.warm)]
def bF (x:Vbexam.Box):List (Str×V):=[("holder",.int x.holder),("outer",.int x.inside),("seal",.int x.wax),("frost",.bl x.frost)]
def sF (dP dB lH:Addr) (t:Nat):List (Str×V):=[("pieces",.ref dP),("boxes",.ref dB),("handings",.ref lH),("minute",.int t)]
def qd (c:Cs) (H:Hp) (a:Addr) (p:Vbexam.Piece):Prop:=∃ (dx:Addr) (h:Int),(p.box=0→h=(p.holder:Int))∧H a=some (.ins c.Piece dx (pF p h))
def aaN (c:Cs) (H:Hp) (a:Addr) (x:Vbexam.Box):Prop:=∃ dx:Addr,H a=some (.ins c.Box dx (bF x))
def pk (ps:List Vbexam.Piece) (pa:List Addr):List (Key×V):=((ps.map fun p=>p.label).zip pa).map fun x=>(Sum.inl (x.1:Int),V.ref x.2)
def bk (ba:List Addr):List (Key×V):=ba.zipIdx.map fun x=>(Sum.inl ((x.2:Int)+1),V.ref x.1)
def aaP (H:Hp) (v:V) (h:Vbexam.Hand):Prop:=∃ t l:Addr,v = .ref t∧H t=some (.tup [.int h.time,.int h.giver,.int h.taker,.ref l])∧H l=some (.lst (h.labels.map fun (n:Nat)=>V.int (n:Int)))
structure Ix where
 S:Addr
 dP:Addr
 dB:Addr
 lH:Addr
 pa:List Addr
 ba:List Addr
 hv:List V
structure a7 (c:Cs) (H:Hp) (x:Ix) (s:Vbexam.St):Prop where
 st:∃ dx,H x.S=some (.ins c.aI dx (sF x.dP x.dB x.lH s.time))
 dP:Rd H x.dP (.dK (pk s.pieces x.pa))
 dB:Rd H x.dB (.dK (bk x.ba))
 nPB:x.dB≠x.dP
 dy:x.pa.length=s.pieces.length
 f9:x.ba.length=s.boxes.length
 pnd:x.pa.Nodup
 bnd:x.ba.Nodup
 ps:∀ (i:Nat) (p:Vbexam.Piece) (a:Addr),s.pieces[i]?=some p→x.pa[i]?=some a→qd c H a p
 bs:∀ (i:Nat) (y:Vbexam.Box) (a:Addr),s.boxes[i]?=some y→x.ba[i]?=some a→aaN c H a y
 lH:H x.lH=some (.lst x.hv)
 hlen:x.hv.length=s.hands.length
 hs:∀ (i:Nat) (v:V) (h:Vbexam.Hand),x.hv[i]?=some v→s.hands[i]?=some h→aaP H v h
 ok:Wf.Ok s
theorem take_snoc {α:Type}:∀ {l:List α}{i:Nat}{x:α},l[i]?=some x→l.take (i+1)=l.take i++[x]
 | [],i,x,h=>by simp at h
 | a::l,0,x,h=>by
  have e:a=x:=Option.some.inj h;subst e;rfl
 | a::l,i+1,x,h=>by
  have ih:=take_snoc (l:=l) (i:=i) (x:=x) h;show a::l.take (i+1)=a::l.take i++[x];rw[ih];rfl
theorem aes (l:List Nat):(l.map fun (n:Nat)=>(n:Int)).map V.int=l.map fun (n:Nat)=>V.int (n:Int):=by
 rw[List.map_map];rfl
theorem afi:∀ (ba:List Addr) (k:Nat) (n:Int),bg ((ba.zipIdx k).map fun x=>((Sum.inl ((x.2:Int)+1):Key),V.ref x.1)) (Sum.inl n)=if(k:Int)+1≤n then (ba[(n-1-k).toNat]?).map V.ref else none
 | [],k,n=>by
  by_cases h:(k:Int)+1≤n
  ·rw[if_pos h];rfl
  ·rw[if_neg h];rfl
 | a::ba,k,n=>by
  rw[List.zipIdx_cons,List.map_cons];by_cases e:(k:Int)+1=n
  ·rw[dU (by rw[e]),if_pos (by omega),show(n-1-k).toNat=0 by omega];rfl
  ·rw[dz (by intro q;injection q with q;exact e q),afi ba (k+1) n];by_cases h:(k:Int)+1≤n
   ·rw[if_pos h,if_pos (by omega),show(n-1-k).toNat=(n-1-((k+1:Nat):Int)).toNat+1 by omega];rfl
   ·rw[if_neg h,if_neg (by omega)]
theorem alu {ba:List Addr}{b:Nat}{a:Addr}(h1:1≤b) (h:ba[b-1]?=some a):bg (bk ba) (Sum.inl (b:Int))=some (.ref a):=by
 unfold bk;rw[afi,if_pos (by omega),show((b:Int)-1-((0:Nat):Int)).toNat=b-1 by omega,h];rfl
theorem afX {ba:List Addr}{b:Nat}(h:ba.length<b):bg (bk ba) (Sum.inl (b:Int))=none:=by
 unfold bk;rw[afi,if_pos (by omega),show((b:Int)-1-((0:Nat):Int)).toNat=b-1 by omega,List.getElem?_eq_none (by omega)];rfl
theorem aeJ {ps:List Vbexam.Piece}{pa:List Addr}{i:Nat}{k:Key}{v:V}(h:(pk ps pa)[i]?=some (k,v)):∃ p a,ps[i]?=some p∧pa[i]?=some a∧v=V.ref a:=by
 unfold pk at h;rw[List.getElem?_map] at h;obtain⟨y,hy,e⟩:=Option.map_eq_some_iff.mp h;obtain⟨h1,h2⟩:=List.getElem?_zip_eq_some.mp hy;rw[List.getElem?_map] at h1;obtain⟨p,hp,_⟩:=Option.map_eq_some_iff.mp h1;cases e;exact⟨p,y.2,hp,h2,rfl⟩
theorem a7.box {c:Cs}{H:Hp}{x:Ix}{s:Vbexam.St}(T:a7 c H x s) {b:Nat}(h1:1≤b) (h2:b≤s.boxes.length):∃ a,x.ba[b-1]?=some a∧aaN c H a (Vbexam.box s b)∧bg (bk x.ba) (Sum.inl (b:Int))=some (.ref a):=by
 have hb:b-1<x.ba.length:=by rw[T.f9];omega
 have hs:b-1<s.boxes.length:=by omega
 refine⟨x.ba[b-1],List.getElem?_eq_getElem hb,?_,alu h1 (List.getElem?_eq_getElem hb)⟩;refine T.bs (b-1) _ _ ?_ (List.getElem?_eq_getElem hb);show s.boxes[b-1]?=some (s.boxes.getD (b-1) _);rw[List.getD_eq_getElem?_getD,List.getElem?_eq_getElem hs];rfl
theorem a7.j7 {c:Cs}{H:Hp}{x:Ix}{s:Vbexam.St}(T:a7 c H x s) {b:Nat}{v:V}(h:bg (bk x.ba) (Sum.inl (b:Int))=some v):hX H x.dB (.int (b:Int)) (some v):=by
 exact .inl ⟨_,Sum.inl (b:Int),T.dB,rfl,h.symm⟩
theorem a7.keep {c:Cs}{H H':Hp}{x:Ix}{s:Vbexam.St}(T:a7 c H x s) (h:ao H H'):a7 c H' x s where
 st:=let ⟨dx,e⟩:=T.st;⟨dx,h _ _ e⟩
 dP:=T.dP.elim (fun e=>.inl (h _ _ e)) fun ⟨o,e⟩=>.inr ⟨o,h _ _ e⟩
 dB:=T.dB.elim (fun e=>.inl (h _ _ e)) fun ⟨o,e⟩=>.inr ⟨o,h _ _ e⟩
 nPB:=T.nPB
 dy:=T.dy
 f9:=T.f9
 pnd:=T.pnd
 bnd:=T.bnd
 ps i p a h1 h2:=let ⟨dx,z,e1,e2⟩:=T.ps i p a h1 h2;⟨dx,z,e1,h _ _ e2⟩
 bs i p a h1 h2:=let ⟨dx,e2⟩:=T.bs i p a h1 h2;⟨dx,h _ _ e2⟩
 lH:=h _ _ T.lH
 hlen:=T.hlen
 hs i v q h1 h2:=let ⟨t,l,e1,e2,e3⟩:=T.hs i v q h1 h2;⟨t,l,e1,h _ _ e2,h _ _ e3⟩
 ok:=T.ok
theorem a7.lock {c:Cs}{H:Hp}{x:Ix}{s:Vbexam.St}(T:a7 c H x s) (hP:H x.dP=some (.dK (pk s.pieces x.pa))) (od:Obj):a7 c (upd H x.dP (.frz od (.dK (pk s.pieces x.pa)))) x s:=by
 have ne:∀ b o,H b=some o→o≠.dK (pk s.pieces x.pa)→(upd H x.dP (.frz od (.dK (pk s.pieces x.pa)))) b=some o:=fun b o e n=>by
  rw[ae (cp e hP n)];exact e
 refine⟨?_,.inr ⟨od,ah⟩,?_,T.nPB,T.dy,T.f9,T.pnd,T.bnd,fun i p a h1 h2=>?_,fun i p a h1 h2=>?_,ne _ _ T.lH (by intro z;cases z),T.hlen,fun i v q h1 h2=>?_,T.ok⟩
 ·obtain⟨dx,e⟩:=T.st;exact⟨dx,ne _ _ e (by intro z;cases z)⟩
 ·rcases T.dB with e|⟨o,e⟩
  ·exact .inl (by rw[ae T.nPB];exact e)
  ·exact .inr ⟨o,by rw[ae T.nPB];exact e⟩
 ·obtain⟨dx,z,e1,e2⟩:=T.ps i p a h1 h2;exact⟨dx,z,e1,ne _ _ e2 (by intro z;cases z)⟩
 ·obtain⟨dx,e2⟩:=T.bs i p a h1 h2;exact⟨dx,ne _ _ e2 (by intro z;cases z)⟩
 ·obtain⟨t,l,e1,e2,e3⟩:=T.hs i v q h1 h2;exact⟨t,l,e1,ne _ _ e2 (by intro z;cases z),ne _ _ e3 (by intro z;cases z)⟩
structure ax (c:Cs) (H:Hp) (x:Ix) (s:Vbexam.St):Prop where
 rd:a7 c H x s
 eP:H x.dP=some (.dK (pk s.pieces x.pa))
 eB:H x.dB=some (.dK (bk x.ba))
def foot (x:Ix):List Addr:=x.S::x.dP::x.dB::x.lH::(x.pa++x.ba)
theorem a7.al3 {c:Cs}{H:Hp}{x:Ix}{s:Vbexam.St}(T:a7 c H x s) {i:Nat}{p:Vbexam.Piece}(h:s.pieces[i]?=some p):∃ a,x.pa[i]?=some a∧qd c H a p:=by
 have hi:=(List.getElem?_eq_some_iff.mp h).1;have ha:i<x.pa.length:=by rw[T.dy];exact hi
 exact⟨x.pa[i],List.getElem?_eq_getElem ha,T.ps i p _ h (List.getElem?_eq_getElem ha)⟩
theorem a7.alw {c:Cs}{H:Hp}{x:Ix}{s:Vbexam.St}(T:a7 c H x s) {i:Nat}{a:Addr}(h:x.ba[i]?=some a):∃ y,s.boxes[i]?=some y∧aaN c H a y:=by
 have hi:=(List.getElem?_eq_some_iff.mp h).1;have hs:i<s.boxes.length:=by rw[← T.f9];exact hi
 exact⟨s.boxes[i],List.getElem?_eq_getElem hs,T.bs i _ _ (List.getElem?_eq_getElem hs) h⟩
theorem ax.fQ {c:Cs}{H:Hp}{x:Ix}{s:Vbexam.St}(T:ax c H x s) {b:Addr}(h:b∈foot x):∃ o,H b=some o:=by
 unfold foot at h;rcases List.mem_cons.mp h with e|h
 ·obtain⟨dx,q⟩:=T.rd.st;exact⟨_,e ▸ q⟩
 rcases List.mem_cons.mp h with e|h
 ·exact⟨_,e ▸ T.eP⟩
 rcases List.mem_cons.mp h with e|h
 ·exact⟨_,e ▸ T.eB⟩
 rcases List.mem_cons.mp h with e|h
 ·exact⟨_,e ▸ T.rd.lH⟩
 rcases List.mem_append.mp h with h|h
 ·obtain⟨i,hi,e⟩:=List.getElem_of_mem h;have hs:i<s.pieces.length:=by rw[← T.rd.dy];exact hi
  obtain⟨dx,z,_,q⟩:=T.rd.ps i _ _ (List.getElem?_eq_getElem hs) (List.getElem?_eq_getElem hi);exact⟨_,e ▸ q⟩
 ·obtain⟨i,hi,e⟩:=List.getElem_of_mem h;obtain⟨y,_,dx,q⟩:=T.rd.alw (List.getElem?_eq_getElem hi);exact⟨_,e ▸ q⟩
structure Step (c:Cs) (H H':Hp) (x x':Ix) (s':Vbexam.St):Prop where
 st:ax c H' x' s'
 S:x'.S=x.S
 keep:∀ b o,H b=some o→b ∉ foot x→H' b=some o
 old:∀ b,b∈foot x'→b∈foot x∨H b=none
 sub:∀ b,b∈foot x→b∈foot x'
theorem aiT:∀ {ps:List Vbexam.Piece}{pa:List Addr}{i:Nat}{p:Vbexam.Piece}{a:Addr},(ps.map (·.label)).Nodup→ps[i]?=some p→pa[i]?=some a→bg (pk ps pa) (Sum.inl (p.label:Int))=some (.ref a)
 | [],_,i,p,a,_,h,_=>by simp at h
 | _::_,[],i,p,a,_,_,h=>by simp at h
 | q::ps,b::pa,0,p,a,_,h,h'=>by
  have e:q=p:=Option.some.inj h;have e':b=a:=Option.some.inj h';subst e e';exact dU rfl
 | q::ps,b::pa,i+1,p,a,nd,h,h'=>by
  have nd':=List.nodup_cons.mp (show(q.label::ps.map (·.label)).Nodup from nd);have hm:p∈ps:=List.mem_of_getElem? (show ps[i]?=some p from h);show bg (((Sum.inl (q.label:Int):Key),V.ref b)::pk ps pa) _=_;rw[dz (fun e=>nd'.1 (by
   injection e with e;have e:q.label=p.label:=Int.ofNat_inj.mp e;exact e ▸ List.mem_map.mpr ⟨p,hm,rfl⟩))]
  exact aiT nd'.2 h h'
theorem ku:∀ {ps:List Vbexam.Piece}{pa:List Addr}{n:Nat},(∀ p∈ps,p.label≠n)→bg (pk ps pa) (Sum.inl (n:Int))=none
 | [],_,_,_=>rfl
 | _::_,[],_,_=>rfl
 | q::ps,b::pa,n,h=>by
  show bg (((Sum.inl (q.label:Int):Key),V.ref b)::pk ps pa) _=_;rw[dz (fun e=>h q (List.mem_cons_self ..) (by
   injection e with e;exact Int.ofNat_inj.mp e))]
  exact ku fun p hp=>h p (List.mem_cons_of_mem _ hp)
theorem a7.o4 {c:Cs}{H:Hp}{x:Ix}{s:Vbexam.St}(T:a7 c H x s) {n:Nat}{o:Option V}(h:bg (pk s.pieces x.pa) (Sum.inl (n:Int))=o):hX H x.dP (.int (n:Int)) o:=
 .inl ⟨_,Sum.inl (n:Int),T.dP,rfl,h.symm⟩
theorem a7.piece {c:Cs}{H:Hp}{x:Ix}{s:Vbexam.St}(T:a7 c H x s) {n:Nat}{p:Vbexam.Piece}(h:Vbexam.piece s n=some p):∃ (i:Nat) (a:Addr),s.pieces[i]?=some p∧x.pa[i]?=some a∧qd c H a p∧bg (pk s.pieces x.pa) (Sum.inl (n:Int))=some (.ref a):=by
 obtain⟨h1,h2⟩:=Wf.p5 h;obtain⟨i,hi,e⟩:=List.getElem_of_mem h1;have hp:s.pieces[i]?=some p:=by rw[List.getElem?_eq_getElem hi,e]
 obtain⟨a,ha,hA⟩:=T.al3 hp;exact⟨i,a,hp,ha,hA,h2 ▸ aiT T.ok.nd hp ha⟩
theorem gK {s:Vbexam.St}(O:Wf.Ok s) {i:Nat}{p:Vbexam.Piece}(h:s.pieces[i]?=some p) (f:Vbexam.Piece→Vbexam.Piece):Vbexam.setPiece s p.label f = { s with pieces:=s.pieces.set i (f p) }:=by
 have:(s.pieces.map fun q=>if q.label=p.label then f q else q)=s.pieces.set i (f p):=by
  refine List.ext_getElem? fun j=>?_;rw[List.getElem?_map,List.getElem?_set];have hi:=(List.getElem?_eq_some_iff.mp h).1;by_cases e:i=j
  ·subst e;rw[if_pos rfl,if_pos hi,h];show some (if p.label=p.label then f p else p)=_;rw[if_pos rfl]
  ·rw[if_neg e];cases q:s.pieces[j]? with
   | none=>rfl
   | some p'=>
    show some (if p'.label=p.label then f p' else p')=_;rw[if_neg];intro z;refine e (abo O.nd (x:=p.label) ?_ ?_)
    ·rw[List.getElem?_map,h];rfl
    ·rw[List.getElem?_map,q];exact congrArg some z
 show({ s with pieces:=_ }:Vbexam.St)=_;rw[this]
theorem agU {ps:List Vbexam.Piece}{i:Nat}{p p':Vbexam.Piece}(h:ps[i]?=some p) (e:p'.label=p.label):(ps.set i p').map (fun p=>p.label)=ps.map fun p=>p.label:=by
 refine List.ext_getElem? fun j=>?_;rw[List.getElem?_map,List.getElem?_map,List.getElem?_set];by_cases hj:i=j
 ·subst hj;rw[if_pos rfl,if_pos (List.getElem?_eq_some_iff.mp h).1,h];exact congrArg some e
 ·rw[if_neg hj]
theorem aeK {ps:List Vbexam.Piece}{pa:List Addr}{i:Nat}{p p':Vbexam.Piece}(h:ps[i]?=some p) (e:p'.label=p.label):pk (ps.set i p') pa=pk ps pa:=by
 unfold pk;rw[agU h e]
theorem ax.tU {c:Cs}{H:Hp}{x:Ix}{s:Vbexam.St}(T:ax c H x s) {i:Nat}{p p':Vbexam.Piece}{a:Addr}{u:HO}(h:s.pieces[i]?=some p) (ha:x.pa[i]?=some a) (el:p'.label=p.label)
  (hu:∃ (dx:Addr) (z:Int),(p'.box=0→z=(p'.holder:Int))∧u = .ins c.Piece dx (pF p' z)) (O:Wf.Ok { s with pieces:=s.pieces.set i p' }) (hc:c.Piece≠c.Box) (hc':c.Piece≠c.aI):ax c (upd H a u) x { s with pieces:=s.pieces.set i p' }:=by
 obtain⟨dx0,z0,_,hA⟩:=T.rd.ps i p a h ha;have hi:=(List.getElem?_eq_some_iff.mp h).1;have ne:∀ b o,H b=some o→(∀ C dx fs,o = .ins C dx fs→C≠c.Piece)→(upd H a u) b=some o:=fun b o e n=>by
  rw[ae]
  ·exact e
  ·intro q;rw[q,hA] at e;cases e;exact n _ _ _ rfl rfl
 have lst:∀ b xs,H b=some (.lst xs)→(upd H a u) b=some (.lst xs):=fun b xs e=>ne b _ e fun _ _ _ q=>by cases q
 refine⟨⟨?_,?_,?_,T.rd.nPB,?_,T.rd.f9,T.rd.pnd,T.rd.bnd,fun j q b hq hb=>?_,fun j q b hq hb=>?_,lst _ _ T.rd.lH,T.rd.hlen,fun j v q hv hq=>?_,O⟩,?_,?_⟩
 ·obtain⟨dx,e⟩:=T.rd.st;exact⟨dx,ne _ _ e fun C _ _ q=>by cases q;exact fun z=>hc' z.symm⟩
 ·refine .inl ?_;show(upd H a u) x.dP=some (.dK (pk (s.pieces.set i p') x.pa));rw[aeK h el];exact ne _ _ T.eP fun _ _ _ q=>by cases q
 ·exact .inl (ne _ _ T.eB fun _ _ _ q=>by cases q)
 ·show x.pa.length=(s.pieces.set i p').length;rw[List.length_set];exact T.rd.dy
 ·have hq:(s.pieces.set i p')[j]?=some q:=hq;by_cases e:i=j
  ·subst e;rw[List.getElem?_set_self hi] at hq;cases hq;have:b=a:=Option.some.inj (hb.symm.trans ha);subst this;obtain⟨dx,z,e1,e2⟩:=hu;exact⟨dx,z,e1,by rw[ah,e2]⟩
  ·rw[List.getElem?_set_ne e] at hq;obtain⟨dx,z,e1,e2⟩:=T.rd.ps j q b hq hb;refine⟨dx,z,e1,?_⟩;rw[ae (fun (w:b=a)=>e (abo T.rd.pnd ha (by rw[← w];exact hb)))];exact e2
 ·obtain⟨dx,e⟩:=T.rd.bs j q b hq hb;exact⟨dx,ne _ _ e fun C _ _ q=>by cases q;exact fun z=>hc z.symm⟩
 ·obtain⟨t,l,e1,e2,e3⟩:=T.rd.hs j v q hv hq;exact⟨t,l,e1,ne _ _ e2 (fun _ _ _ q=>by cases q),lst _ _ e3⟩
 ·show(upd H a u) x.dP=some (.dK (pk (s.pieces.set i p') x.pa));rw[aeK h el];exact ne _ _ T.eP fun _ _ _ q=>by cases q
 ·exact ne _ _ T.eB fun _ _ _ q=>by cases q
theorem ax.vY {c:Cs}{H:Hp}{x:Ix}{s':Vbexam.St}{i:Nat}{a:Addr}{u:HO}(ha:x.pa[i]?=some a) (T':ax c (upd H a u) x s'):Step c H (upd H a u) x x s':=by
 refine⟨T',rfl,fun b o e n=>?_,fun b h=>.inl h,fun _ h=>h⟩;rw[ae]
 ·exact e
 ·intro q;refine n ?_;rw[q];unfold foot;exact List.mem_cons_of_mem _ (List.mem_cons_of_mem _ (List.mem_cons_of_mem _ (List.mem_cons_of_mem _ (List.mem_append_left _ (List.mem_of_getElem? ha)))))
theorem ax.keep {c:Cs}{H H':Hp}{x:Ix}{s:Vbexam.St}(T:ax c H x s) (h:ao H H'):ax c H' x s:=⟨T.rd.keep h,h _ _ T.eP,h _ _ T.eB⟩
theorem d3 {s:Vbexam.St}{b:Nat}(h1:1≤b) (h2:b≤s.boxes.length) (f:Vbexam.Box→Vbexam.Box):Vbexam.setBox s b f = { s with boxes:=s.boxes.set (b-1) (f (Vbexam.box s b)) }:=by
 have:s.boxes.modify (b-1) f=s.boxes.set (b-1) (f (Vbexam.box s b)):=by
  refine List.ext_getElem? fun j=>?_;rw[List.getElem?_modify,List.getElem?_set];by_cases e:b-1=j
  ·subst e;rw[if_pos rfl,if_pos (by omega),List.getElem?_eq_getElem (show b-1<s.boxes.length by omega)];show some (if b-1=b-1 then f _ else _)=some (f (s.boxes.getD (b-1) _));rw[if_pos rfl,List.getD_eq_getElem?_getD,List.getElem?_eq_getElem (show b-1<s.boxes.length by omega)];rfl
  ·rw[if_neg e];cases s.boxes[j]? with
   | none=>rfl
   | some y=>
    show some (if b-1=j then f y else y)=_;rw[if_neg e]
 show({ s with boxes:=_ }:Vbexam.St)=_;rw[this]
theorem ax.setB {c:Cs}{H:Hp}{x:Ix}{s:Vbexam.St}(T:ax c H x s) {i:Nat}{y':Vbexam.Box}{a:Addr}{u:HO}(ha:x.ba[i]?=some a)
  (hu:∃ dx:Addr,u = .ins c.Box dx (bF y')) (O:Wf.Ok { s with boxes:=s.boxes.set i y' }) (hc:c.Piece≠c.Box) (hc':c.Box≠c.aI):ax c (upd H a u) x { s with boxes:=s.boxes.set i y' }:=by
 obtain⟨y,hy,dx0,hA⟩:=T.rd.alw ha;have hi:=(List.getElem?_eq_some_iff.mp hy).1;have ne:∀ b o,H b=some o→(∀ C dx fs,o = .ins C dx fs→C≠c.Box)→(upd H a u) b=some o:=fun b o e n=>by
  rw[ae]
  ·exact e
  ·intro q;rw[q,hA] at e;cases e;exact n _ _ _ rfl rfl
 have lst:∀ b xs,H b=some (.lst xs)→(upd H a u) b=some (.lst xs):=fun b xs e=>ne b _ e fun _ _ _ q=>by cases q
 have eP:=ne _ _ T.eP (fun _ _ _ q=>by cases q);have eB:=ne _ _ T.eB (fun _ _ _ q=>by cases q);refine⟨⟨?_,.inl eP,.inl eB,T.rd.nPB,T.rd.dy,?_,T.rd.pnd,T.rd.bnd,fun j q b hq hb=>?_,fun j q b hq hb=>?_,lst _ _ T.rd.lH,T.rd.hlen,fun j v q hv hq=>?_,O⟩,eP,eB⟩
 ·obtain⟨dx,e⟩:=T.rd.st;exact⟨dx,ne _ _ e fun C _ _ q=>by cases q;exact fun z=>hc' z.symm⟩
 ·show x.ba.length=(s.boxes.set i y').length;rw[List.length_set];exact T.rd.f9
 ·obtain⟨dx,z,e1,e2⟩:=T.rd.ps j q b hq hb;exact⟨dx,z,e1,ne _ _ e2 fun C _ _ q=>by cases q;exact hc⟩
 ·have hq:(s.boxes.set i y')[j]?=some q:=hq;by_cases e:i=j
  ·subst e;rw[List.getElem?_set_self hi] at hq;cases hq;have:b=a:=Option.some.inj (hb.symm.trans ha);subst this;obtain⟨dx,e2⟩:=hu;exact⟨dx,by rw[ah,e2]⟩
  ·rw[List.getElem?_set_ne e] at hq;obtain⟨dx,e2⟩:=T.rd.bs j q b hq hb;refine⟨dx,?_⟩;rw[ae (fun (w:b=a)=>e (abo T.rd.bnd ha (by rw[← w];exact hb)))];exact e2
 ·obtain⟨t,l,e1,e2,e3⟩:=T.rd.hs j v q hv hq;exact⟨t,l,e1,ne _ _ e2 (fun _ _ _ q=>by cases q),lst _ _ e3⟩
theorem ax.y6 {c:Cs}{H:Hp}{x:Ix}{s':Vbexam.St}{i:Nat}{a:Addr}{u:HO}(ha:x.ba[i]?=some a) (T':ax c (upd H a u) x s'):Step c H (upd H a u) x x s':=by
 refine⟨T',rfl,fun b o e n=>?_,fun b h=>.inl h,fun _ h=>h⟩;rw[ae]
 ·exact e
 ·intro q;refine n ?_;rw[q];unfold foot;exact List.mem_cons_of_mem _ (List.mem_cons_of_mem _ (List.mem_cons_of_mem _ (List.mem_cons_of_mem _ (List.mem_append_right _ (List.mem_of_getElem? ha)))))
theorem vI {kvs:List (Key×V)}{k:Key}{v:V}(h:bg kvs k=none):putK kvs k v=kvs++[(k,v)]:=by
 unfold putK;rw[k9,h];rfl
theorem akR {ps:List Vbexam.Piece}{pa:List Addr}(e:pa.length=ps.length) (p:Vbexam.Piece) (a:Addr):pk (ps++[p]) (pa++[a])=pk ps pa++[(Sum.inl (p.label:Int),V.ref a)]:=by
 unfold pk;rw[List.map_append,List.zip_append (by rw[List.length_map,e]),List.map_append];rfl
theorem akl (ba:List Addr) (a:Addr):bk (ba++[a])=bk ba++[(Sum.inl ((ba.length:Int)+1),V.ref a)]:=by
 unfold bk;rw[List.zipIdx_append,List.map_append];simp
theorem dR {α:Type}{l:List α}{y z:α}{j:Nat}(h:(l++[y])[j]?=some z):l[j]?=some z∨(j=l.length∧z=y):=by
 by_cases hj:j<l.length
 ·rw[List.getElem?_append_left hj] at h;exact .inl h
 ·rw[List.getElem?_append_right (Nat.le_of_not_lt hj)] at h;cases e:j-l.length with
  | zero=>
   rw[e] at h;exact .inr ⟨by omega,(Option.some.inj h).symm⟩
  | succ n=>
   rw[e] at h;simp at h
theorem ax.alq {c:Cs}{H H1:Hp}{x:Ix}{s:Vbexam.St}(T:ax c H x s) (sm:ao H H1) {a:Addr}{p:Vbexam.Piece}(ha:H a=none) (hA:qd c H1 a p) (hn:∀ q∈s.pieces,q.label≠p.label) (O:Wf.Ok (Vbexam.addPiece s p)) :
  Step c H (upd H1 x.dP (.dK (putK (pk s.pieces x.pa) (Sum.inl (p.label:Int)) (.ref a)))) x { x with pa:=x.pa++[a] } (Vbexam.addPiece s p):=by
 have T1:=T.keep sm;have na:a ∉ x.pa:=fun h=>by
  obtain⟨o,e⟩:=T.fQ (b:=a) (by unfold foot;exact List.mem_cons_of_mem _ (List.mem_cons_of_mem _ (List.mem_cons_of_mem _ (List.mem_cons_of_mem _ (List.mem_append_left _ h)))));rw[ha] at e;cases e
 rw[vI (ku hn),← akR T.rd.dy];have ne:∀ b o,H1 b=some o→(∀ kvs,o≠.dK kvs)→(upd H1 x.dP (.dK (pk (s.pieces++[p]) (x.pa++[a])))) b=some o:=fun b o e n=>by
  rw[ae (cp e T1.eP (n _))];exact e
 have eB:(upd H1 x.dP (.dK (pk (s.pieces++[p]) (x.pa++[a])))) x.dB=some (.dK (bk x.ba)):=by
  rw[ae T.rd.nPB];exact T1.eB
 refine⟨⟨⟨?_,.inl ah,.inl eB,T.rd.nPB,?_,T.rd.f9,?_,T.rd.bnd,fun j q b hq hb=>?_,fun j q b hq hb=>?_,ne _ _ T1.rd.lH (fun _ q=>by cases q),T.rd.hlen,fun j v q hv hq=>?_,O⟩,ah,eB⟩,rfl,fun b o e n=>?_,fun b h=>?_,fun b h=>by unfold foot at h ⊢;simp only[List.mem_cons,List.mem_append,List.not_mem_nil,or_false] at h ⊢;rcases h with h|h|h|h|h|h <;> simp[h]⟩
 ·obtain⟨dx,e⟩:=T1.rd.st;exact⟨dx,ne _ _ e fun _ q=>by cases q⟩
 ·show(x.pa++[a]).length=(s.pieces++[p]).length;rw[List.length_append,List.length_append,T.rd.dy];rfl
 ·exact List.nodup_append.mpr ⟨T.rd.pnd,List.nodup_cons.mpr ⟨List.not_mem_nil,List.nodup_nil⟩,fun b hb b' hb' e=>na (by rw[← List.mem_singleton.mp hb',← e];exact hb)⟩
 ·have fin:qd c H1 b q:=by
   rcases dR hq with h1|⟨e1,e2⟩
   ·rcases dR hb with h2|⟨e3,e4⟩
    ·exact T1.rd.ps j q b h1 h2
    ·have:=(List.getElem?_eq_some_iff.mp h1).1;rw[T.rd.dy] at e3;omega
   ·rcases dR hb with h2|⟨e3,e4⟩
    ·have:=(List.getElem?_eq_some_iff.mp h2).1;rw[T.rd.dy] at this;omega
    ·rw[e2,e4];exact hA
  obtain⟨dx,z,e1,e2⟩:=fin;exact⟨dx,z,e1,ne _ _ e2 fun _ q=>by cases q⟩
 ·obtain⟨dx,e⟩:=T1.rd.bs j q b hq hb;exact⟨dx,ne _ _ e fun _ q=>by cases q⟩
 ·obtain⟨t,l,e1,e2,e3⟩:=T1.rd.hs j v q hv hq;exact⟨t,l,e1,ne _ _ e2 (fun _ q=>by cases q),ne _ _ e3 (fun _ q=>by cases q)⟩
 ·rw[ae]
  ·exact sm b o e
  ·intro q;exact n (q ▸ (by unfold foot;exact List.mem_cons_of_mem _ (List.mem_cons_self ..)))
 ·unfold foot at h ⊢;simp only[List.mem_cons,List.mem_append,List.not_mem_nil,or_false] at h ⊢;rcases h with h|h|h|h|(h|h)|h
  ·exact .inl (.inl h)
  ·exact .inl (.inr (.inl h))
  ·exact .inl (.inr (.inr (.inl h)))
  ·exact .inl (.inr (.inr (.inr (.inl h))))
  ·exact .inl (.inr (.inr (.inr (.inr (.inl h)))))
  ·exact .inr (h ▸ ha)
  ·exact .inl (.inr (.inr (.inr (.inr (.inr h)))))
theorem ax.anq {c:Cs}{H H1:Hp}{x:Ix}{s:Vbexam.St}(T:ax c H x s) (sm:ao H H1) {a:Addr}{y:Vbexam.Box}(ha:H a=none) (hA:aaN c H1 a y) (O:Wf.Ok { s with boxes:=s.boxes++[y] }) :
  Step c H (upd H1 x.dB (.dK (putK (bk x.ba) (Sum.inl ((s.boxes.length+1:Nat):Int)) (.ref a)))) x { x with ba:=x.ba++[a] } { s with boxes:=s.boxes++[y] }:=by
 have T1:=T.keep sm;have na:a ∉ x.ba:=fun h=>by
  obtain⟨o,e⟩:=T.fQ (b:=a) (by unfold foot;exact List.mem_cons_of_mem _ (List.mem_cons_of_mem _ (List.mem_cons_of_mem _ (List.mem_cons_of_mem _ (List.mem_append_right _ h)))));rw[ha] at e;cases e
 rw[vI (afX (by rw[T.rd.f9];omega)),show(((s.boxes.length+1:Nat):Int))=(x.ba.length:Int)+1 by rw[T.rd.f9];omega,← akl];have ne:∀ b o,H1 b=some o→(∀ kvs,o≠.dK kvs)→(upd H1 x.dB (.dK (bk (x.ba++[a])))) b=some o:=fun b o e n=>by
  rw[ae (cp e T1.eB (n _))];exact e
 have eP:(upd H1 x.dB (.dK (bk (x.ba++[a])))) x.dP=some (.dK (pk s.pieces x.pa)):=by
  rw[ae T.rd.nPB.symm];exact T1.eP
 refine⟨⟨⟨?_,.inl eP,.inl ah,T.rd.nPB,T.rd.dy,?_,T.rd.pnd,?_,fun j q b hq hb=>?_,fun j q b hq hb=>?_,ne _ _ T1.rd.lH (fun _ q=>by cases q),T.rd.hlen,fun j v q hv hq=>?_,O⟩,eP,ah⟩,rfl,fun b o e n=>?_,fun b h=>?_,fun b h=>by unfold foot at h ⊢;simp only[List.mem_cons,List.mem_append,List.not_mem_nil,or_false] at h ⊢;rcases h with h|h|h|h|h|h <;> simp[h]⟩
 ·obtain⟨dx,e⟩:=T1.rd.st;exact⟨dx,ne _ _ e fun _ q=>by cases q⟩
 ·show(x.ba++[a]).length=(s.boxes++[y]).length;rw[List.length_append,List.length_append,T.rd.f9];rfl
 ·exact List.nodup_append.mpr ⟨T.rd.bnd,List.nodup_cons.mpr ⟨List.not_mem_nil,List.nodup_nil⟩,fun b hb b' hb' e=>na (by rw[← List.mem_singleton.mp hb',← e];exact hb)⟩
 ·obtain⟨dx,z,e1,e⟩:=T1.rd.ps j q b hq hb;exact⟨dx,z,e1,ne _ _ e fun _ q=>by cases q⟩
 ·have fin:aaN c H1 b q:=by
   rcases dR hq with h1|⟨e1,e2⟩
   ·rcases dR hb with h2|⟨e3,e4⟩
    ·exact T1.rd.bs j q b h1 h2
    ·have:=(List.getElem?_eq_some_iff.mp h1).1;rw[T.rd.f9] at e3;omega
   ·rcases dR hb with h2|⟨e3,e4⟩
    ·have:=(List.getElem?_eq_some_iff.mp h2).1;rw[T.rd.f9] at this;omega
    ·rw[e2,e4];exact hA
  obtain⟨dx,e2⟩:=fin;exact⟨dx,ne _ _ e2 fun _ q=>by cases q⟩
 ·obtain⟨t,l,e1,e2,e3⟩:=T1.rd.hs j v q hv hq;exact⟨t,l,e1,ne _ _ e2 (fun _ q=>by cases q),ne _ _ e3 (fun _ q=>by cases q)⟩
 ·rw[ae]
  ·exact sm b o e
  ·intro q;exact n (q ▸ (by unfold foot;exact List.mem_cons_of_mem _ (List.mem_cons_of_mem _ (List.mem_cons_self ..))))
 ·unfold foot at h ⊢;simp only[List.mem_cons,List.mem_append,List.not_mem_nil,or_false] at h ⊢;rcases h with h|h|h|h|h|(h|h)
  ·exact .inl (.inl h)
  ·exact .inl (.inr (.inl h))
  ·exact .inl (.inr (.inr (.inl h)))
  ·exact .inl (.inr (.inr (.inr (.inl h))))
  ·exact .inl (.inr (.inr (.inr (.inr (.inl h)))))
  ·exact .inl (.inr (.inr (.inr (.inr (.inr h)))))
  ·exact .inr (h ▸ ha)
theorem ax.anr {c:Cs}{H H1:Hp}{x:Ix}{s:Vbexam.St}(T:ax c H x s) (sm:ao H H1) {t:Addr}{h:Vbexam.Hand}(hA:aaP H1 (.ref t) h) (nl:∀ l,H1 t=some (.tup [.int h.time,.int h.giver,.int h.taker,.ref l])→l≠x.lH) :
  Step c H (upd H1 x.lH (.lst (x.hv++[.ref t]))) x { x with hv:=x.hv++[.ref t] } { s with hands:=s.hands++[h] }:=by
 have T1:=T.keep sm;have ne:∀ b o,H1 b=some o→(∀ xs,o≠.lst xs)→(upd H1 x.lH (.lst (x.hv++[.ref t]))) b=some o:=fun b o e n=>by
  rw[ae (cp e T1.rd.lH (n _))];exact e
 have eP:=ne _ _ T1.eP (fun _ q=>by cases q);have eB:=ne _ _ T1.eB (fun _ q=>by cases q);refine⟨⟨⟨?_,.inl eP,.inl eB,T.rd.nPB,T.rd.dy,T.rd.f9,T.rd.pnd,T.rd.bnd,fun j q b hq hb=>?_,fun j q b hq hb=>?_,ah,?_,fun j v q hv hq=>?_,T.rd.ok.hands _⟩,eP,eB⟩,rfl,fun b o e n=>?_,fun b h=>.inl h,fun _ h=>h⟩
 ·obtain⟨dx,e⟩:=T1.rd.st;exact⟨dx,ne _ _ e fun _ q=>by cases q⟩
 ·obtain⟨dx,z,e1,e⟩:=T1.rd.ps j q b hq hb;exact⟨dx,z,e1,ne _ _ e fun _ q=>by cases q⟩
 ·obtain⟨dx,e⟩:=T1.rd.bs j q b hq hb;exact⟨dx,ne _ _ e fun _ q=>by cases q⟩
 ·show(x.hv++[V.ref t]).length=(s.hands++[h]).length;rw[List.length_append,List.length_append,T.rd.hlen];rfl
 ·rcases dR hv with h1|⟨e1,e2⟩
  ·rcases dR hq with h2|⟨e3,e4⟩
   ·obtain⟨t',l,e1,e2,e3⟩:=T1.rd.hs j v q h1 h2;refine⟨t',l,e1,ne _ _ e2 (fun _ q=>by cases q),?_⟩;rw[ae]
    ·exact e3
    ·intro z;rw[z,T1.rd.lH] at e3;injection e3 with e3;injection e3 with e3;rw[e3,List.getElem?_map] at h1;obtain⟨n,_,e5⟩:=Option.map_eq_some_iff.mp h1;rw[e1] at e5;cases e5
   ·have:=(List.getElem?_eq_some_iff.mp h1).1;rw[T.rd.hlen] at this;omega
  ·rcases dR hq with h2|⟨e3,e4⟩
   ·have:=(List.getElem?_eq_some_iff.mp h2).1;rw[T.rd.hlen] at e1;omega
   ·obtain⟨t',l,q1,q2,q3⟩:=hA;cases q1;rw[e2,e4];refine⟨t,l,rfl,ne _ _ q2 (fun _ q=>by cases q),?_⟩;rw[ae (nl l q2)];exact q3
 ·rw[ae]
  ·exact sm b o e
  ·intro q;exact n (q ▸ (by unfold foot;exact List.mem_cons_of_mem _ (List.mem_cons_of_mem _ (List.mem_cons_of_mem _ (List.mem_cons_self ..)))))
theorem Step.refl {c:Cs}{H:Hp}{x:Ix}{s:Vbexam.St}(T:ax c H x s):Step c H H x x s:=⟨T,rfl,fun _ _ e _=>e,fun _ h=>.inl h,fun _ h=>h⟩
theorem Step.free {c:Cs}{H H':Hp}{x x':Ix}{s s':Vbexam.St}(T:ax c H x s) (S:Step c H H' x x' s') {l:Addr}(h:H' l=none):H l=none:=by
 cases e:H l with
 | none=>rfl
 | some o=>
  by_cases m:l∈foot x
  ·obtain⟨o',e'⟩:=S.st.fQ (S.sub l m);rw[h] at e';cases e'
  ·rw[S.keep l o e m] at h;cases h
theorem Step.new {c:Cs}{H H':Hp}{x x':Ix}{s':Vbexam.St}(S:Step c H H' x x' s') {l:Addr}(h:H' l=none) (u:HO):Step c H (upd H' l u) x x' s':=by
 have sm:ao H' (upd H' l u):=fun b o e=>by rw[ae (az e h)];exact e
 exact⟨S.st.keep sm,S.S,fun b o e n=>sm b o (S.keep b o e n),S.old,S.sub⟩
theorem Step.trans {c:Cs}{H H1 H2:Hp}{x x1 x2:Ix}{s s1 s2:Vbexam.St}(T:ax c H x s) (A:Step c H H1 x x1 s1) (B:Step c H1 H2 x1 x2 s2):Step c H H2 x x2 s2:=by
 refine⟨B.st,B.S.trans A.S,fun b o e n=>B.keep b o (A.keep b o e n) fun m=>?_,fun b h=>?_,fun b h=>B.sub b (A.sub b h)⟩
 ·rcases A.old b m with q|q
  ·exact n q
  ·rw[q] at e;cases e
 ·rcases B.old b h with q|q
  ·exact A.old b q
  ·exact .inr (A.free T q)
def eR (c:Cs) (H:Hp) (x:Ix) (r:Vbexam.St×List Int) (Q:VK):Prop:=∀ (H':Hp) (x':Ix) (l:Addr),Step c H H' x x' r.1→H l=none→H' l=some (.lst (r.2.map V.int))→l ∉ foot x'→Q (.ref l) H'
theorem eR.done {c:Cs}{H H1:Hp}{x x1:Ix}{s:Vbexam.St}{r:Vbexam.St×List Int}{Q:VK}(k:eR c H x r Q) (T:ax c H x s) (S:Step c H H1 x x1 r.1) {l:Addr}(h:H1 l=none) {vs:List V}(e:vs=r.2.map V.int):Q (.ref l) (upd H1 l (.lst vs)):=by
 refine k _ x1 l (S.new h _) (S.free T h) (by rw[ah,e]) fun m=>?_;obtain⟨o,q⟩:=S.st.fQ m;rw[h] at q;cases q
theorem fX {s:Vbexam.St}{n:Int}{p:Vbexam.Piece}{k:Vbexam.Piece→Vbexam.St×List Int}(h:Vbexam.piece s n.toNat=some p) (g:p.gone=false):Vbexam.ofPiece s n k=k p:=by
 unfold Vbexam.ofPiece;rw[h];simp[g]
theorem fW {s:Vbexam.St}{b:Nat}{k:Nat→Vbexam.St×List Int}(h:b≤s.boxes.length):Vbexam.ofBox s (b:Int) k=k b:=by
 unfold Vbexam.ofBox;rw[if_neg (by omega)];rfl
theorem adi (l:Addr) (items:Array Value) (n:Nat) (b:Addr) (dd:Option Addr) (sl) (items2:Array Value) (n2:Nat) (hs0:¬(!items.isEmpty&&Builtin.List.listTooLong (items.size+items2.size))=true) (hs1:items.size≤sizeLine) (hs2:items.size+items2.size≤sizeLine+1) :
  Meets (Builtin.«list.extend» ⟨[.ref l,.ref b],[]⟩) (fun _ R s=>s.heap.get? l=some { cls:=.type "list",dict:=none,data:=.seq items n,slots:=#[] }∧s.heap.get? b=some { cls:=.type "tuple",dict:=dd,data:=.seq items2 n2,slots:=sl }∧R (.ok (.ret Value.none)) { s with heap:=s.heap.update l (Obj.mapSeq fun x=>x++items2),toks:=s.toks }):=
 .of_wp fun prog w A R s h=>by
  obtain⟨hp,g,d,tk,os⟩:=s;obtain⟨hl,hb,h⟩:=h;have f1:=PySem.AutoSeq1.idx_int;have f2:=PySem.AutoSeq1.sub_tuple_tuple;have f3:=PySem.AutoSeq1.sub_list_list;have f4:=PySem.AutoSeq1.sub_tuple_list;have f5:=PySem.AutoSeq1.sub_list_tuple;have hz':(items++items2).size≤sizeLine+1:=by rw[Array.size_append];exact hs2
  wp_walk using (wpAny_updateSeq hl rfl (hz:=hs1) (_hz':=hz')),PySem.AutoSeq1.wpAny_loadPart' hl,PySem.AutoSeq1.wpAny_loadPart' hb;exact⟨_,rfl,h⟩
section
variable {X:Cx}
def ajy:V→List V→Hp→VK→Prop:=fun x vs H Q=>∃ l b xs zs,x = .ref l∧vs = [.ref b]∧H l=some (.lst xs)∧H b=some (.tup zs)∧xs.length+zs.length≤sizeLine∧Q .non (upd H l (.lst (xs++zs)))
theorem agZ:MtM X "list.extend" ajy:=by
 intro pins s σ H x vs v us Q I rx rv h;obtain⟨l,b,xs,zs,rfl,rfl,hH,hB,hz,q⟩:=h;cases rx;obtain⟨u,rfl,ru⟩:=rv.one;cases ru;obtain⟨z,its,n,r,hl,e⟩:=I.aca hH;obtain⟨its2,r2,ht,hz2⟩:=I.tuple (SqT.of hB);obtain⟨⟨cls,dd,data,sl⟩,ho,hc,n2,hd⟩:=ht;simp only at hc hd;subst hc hd;have hl2:=r2.length;have hsz:its.toArray.size+its2.toArray.size≤sizeLine:=by rw[List.size_toArray,List.size_toArray];omega
 have hlong:¬ (!its.toArray.isEmpty&&Builtin.List.listTooLong (its.toArray.size+its2.toArray.size))=true:=by
  rw[aev hsz,Bool.and_false];exact Bool.false_ne_true
 refine call_meets F.slot_list_extend ⟨_,e,rfl⟩ F.entry_list_extend (F.args_list_extend_2 _ _)
  (adi l its.toArray n b dd sl its2.toArray n2 hlong (by rw[List.size_toArray];omega) (by omega)) ⟨e,ho,?_⟩
 refine⟨.non,_,I.ajr (its':=its++its2) hH e (by simp) (r.append r2) ?_,rfl,q⟩;rw[List.length_append];omega
def al5 (K:PySem.W.Frag):V→List V→Hp→VK→Prop:=fun x vs H Q=>∃ (l:Addr) (ns:List Int) (k:Int),x = .ref l∧vs = [.int k]∧SqL K H l (ns.map V.int)∧Q (.int (ns.count k:Nat)) H
theorem ahy:nW X (.builtin "len") (fun xs H Q=>∃ a kvs,xs = [V.ref a]∧Rd H a (.dK kvs)∧Q (.int kvs.length) H):=by
 intro pins s σ H xs us Q I r h;obtain⟨a,kvs,rfl,ha,q⟩:=h;obtain⟨u,rfl,ru⟩:=vals1 r;cases ru;exact aj4 I ha fun t s' I'=>⟨.int kvs.length,H,I',⟨t,rfl⟩,q⟩
theorem aic:MtR X "list.count" (al5 X.K):=by
 intro pins s σ H x xs v us Q I rx rv h;obtain⟨l,ns,k,rfl,rfl,hH,q⟩:=h;cases rx;obtain⟨u,rfl,ru⟩:=Vals.one rv;obtain⟨t,rfl⟩:=ru;obtain⟨its,r,pl,hz⟩:=I.list hH;exact PyProof.Rows.count_list_ints (vs:=its) pl.isList (intsAre_of r) ⟨.int (ns.count k:Nat),H,I.tok _,⟨_,rfl⟩,q⟩
def amz (td:TE):TE:=fun σ H Q=>td σ H fun x H1=>∃ d kvs,x = .ref d∧H1 d=some (.dK kvs)∧kvs.length≤1000∧∀ l,H1 l=none→Q (.ref l) (upd H1 l (.lst (kvs.map (·.2))))
theorem agn {prog:Program}{w:World}:∀ {kvs:List (Key×V)}{vs:List (Key×Value)},KV kvs vs→∀ us:List Value,us.length=vs.length→(∀ (j:Nat) (v:Value),us[j]?=some v→∃ k,vs[j]?=some (k,v))→Vals (kvs.map (·.2)) us
 | _,_,.nil,us,hl,_=>by
  have:us = []:=List.length_eq_zero_iff.mp hl;subst this;exact .nil
 | _,_,.cons (b:=b) r t,us,hl,h=>by
  cases us with
  | nil=>simp at hl
  | cons u us=>
   obtain⟨k,e⟩:=h 0 u rfl;simp only[List.getElem?_cons_zero,Option.some.injEq] at e;have r2:=r.2;rw[e] at r2;exact .cons r2 (agn (prog:=prog) (w:=w) t us (by simpa using hl) fun j v hv=>by simpa using h (j+1) v (by simpa using hv))
theorem afL {e:Expr}{td:TE}{p pos apos cpos:Pos}(hc:X.calm=true) (hg:Gl X "list") (hm:X.mg "list" = none) (hd:PE X e td)
  (he:starEach [.Call (.Attribute e "values" apos) [] [] cpos] X.env = [(false,eval (.Call (.Attribute e "values" apos) [] [] cpos) X.env)]:=by rfl)
  (hbase:attributeBase e "values" X.env (eval e X.env)=eval e X.env:=by rfl) (hline:(apos.endLine == cpos.line)=true:=by rfl) :
  PE X (.Call (.Name "list" p) [.Call (.Attribute e "values" apos) [] [] cpos] [] pos) (amz td):=by
 intro pins s σ H Q I h;refine wpAny_Call_Name_kw (ua I hg hm PyProof.Rows.boot_list ?_ (by decide) (by decide));refine PyProof.Rows.callWith_type1 ?_ he rfl;rw[he];show wpAny _ _ (spliced ((false,eval (.Call (.Attribute e "values" apos) [] [] cpos) X.env)::[])) _ _ s;refine Calls.spliced_cons ?_;refine wpAny_Call_method (T:="dict") (id:="dict.values") hbase rfl hline F.plainAttrs_dict F.slot_dict_values F.type_dict_values (thn (hd pins s σ H _ I h) fun u s1 ⟨x,H1,I1,rx,d,kvs,ex,hdk,hn,q⟩=>?_);subst ex;obtain rfl:u=Value.ref d:=rx;obtain⟨hz,hS,vs,r,m⟩:kvs.length≤sizeLine∧(d == sysModules)=false∧∃ vs,KV kvs vs∧s1.heap.DictOf (bH X.prog X.w) d vs:=I1.hok d _ hdk;obtain⟨ep,hat⟩:=m.dictAt;have hl:kvs.length=vs.length:=Paired.length r;refine⟨m.typeIs,m.mapOf.noDict,?_⟩;have I2:Inv X pins σ H1 { s1 with heap:=s1.heap.push { cls:=.type "dict_values",data:=.fields #[.ref d] } }:=I1.kept (t':=s1.toks) fun b ob q=>Heap.get?_push_of_some _ q;show wpAny _ _ (callWith cpos (.builtin "dict.values") [.ref d] [] []) _ X.xe s1;refine method_meetsIn F.slot_dict_values F.entry_dict_values rfl (PySem.evalArgs_none ⟨rfl,m.typeIs,F.args_dict_values_1 _,_,meets_dict_values (bH X.prog X.w) d hS,⟨vs,m⟩,?_⟩);refine Calls.spliced_nil ?_;refine PySem.W.kdl_call (PySem.W.kdl_values (knd:=bH X.prog X.w) (kvs:=vs) (ep:=ep) (r:=s1.heap.objs.size)) (I1.ok.hd hc) ⟨⟨_,Heap.get?_push_size _ rfl,rfl,rfl⟩,hat.push _⟩ (by omega) fun h' tk acc' c' kp e hacc=>?_;have rv:Vals (kvs.map (·.2)) acc'.toList:=agn (prog:=X.prog) (w:=X.w) r acc'.toList (by rw[Array.length_toList];exact hacc.1) fun j v hv=>hacc.2 j v (by rw[← Array.getElem?_toList];exact hv);refine⟨.ref _,_,I2.laid (t':=tk) (o:=.lst (kvs.map (·.2))) kp (Nat.le_refl _) ⟨by rw[List.length_map];omega,acc'.toList,c',rv,by rw[Array.toArray_toList];exact e⟩,rfl,q _ (I2.hok.fresh (Nat.le_refl _))⟩
end
theorem x5 {J:It}{g:TG}{tt:TT}{te:TE}{vs:List Nat}{σ:L2.St}{H1:Hp}{D:Addr}{Qd:Hp→Prop}{α:Type}(items:List α) (Y:α→V→Hp→Prop) (kp:α→Bool) (out:α→V)
  (hgo:∀ (i:Nat) H,i<items.length→ao H1 H→J.go i H) (hstop:∀ H,ao H1 H→J.stop items.length H)
  (hy:∀ (i:Nat) x H v H',items[i]?=some x→ao H1 H→J.yld i H v H'→ao H H'∧Y x v H')
  (hD:H1 D=none) (hz:items.length≤1000)
  (hs:∀ (i:Nat) x v H,items[i]?=some x→ao H1 H→Y x v H→∀ (R:Hp→Prop) (R':VK),(∀ H',ao H H'→kp x=false→R H')→(∀ H',ao H H'→kp x=true→R' (out x) H') →
   g v (wipe σ vs) H fun σ2 H2=>wipe σ2 vs=wipe σ vs∧tt σ2 H2 fun b H3=>if b=true then te σ2 H3 R' else R H3)
  (hd:∀ H,ao H1 H→H D=some (.lst ((items.filter kp).map out))→Qd H) :
  ∃ W:Nat→Nat→Hp→Prop,(∃ m,W 0 m (upd H1 D (.lst [])))∧∀ i m H,W i m H →
   (J.stop i H∧Qd H)∨(J.go i H∧∃ Nx:Hp→Prop,(∀ H',Nx H'→∃ m',m'<m∧W (i+1) m' H')∧∀ x H',J.yld i H x H'→g x (wipe σ vs) H' fun σ2 H2=>wipe σ2 vs=wipe σ vs∧tt σ2 H2 fun b H3=>
    if b=true then te σ2 H3 fun y H4=>∃ acc,H4 D=some (.lst acc)∧acc.length<sizeLine∧Nx (upd H4 D (.lst (acc++[y]))) else Nx H3):=by
 refine⟨fun i m H=>m=items.length-i∧i≤items.length∧ao H1 H∧H D=some (.lst (((items.take i).filter kp).map out)),⟨_,rfl,Nat.zero_le _,fun b o e=>?_,ah⟩,?_⟩
 ·rw[ae (az e hD)];exact e
 rintro i m H ⟨rfl,hi,sm,hH⟩;by_cases hlt:i<items.length
 ·have hx:items[i]?=some items[i]:=List.getElem?_eq_getElem hlt;refine .inr ⟨hgo i H hlt sm,fun H'=>ao H1 H'∧H' D=some (.lst (((items.take (i+1)).filter kp).map out)),fun H' p=>⟨_,by omega,rfl,hlt,p⟩,fun v H' y=>?_⟩;obtain⟨sm',hY⟩:=hy i _ H v H' hx sm y;have et:items.take (i+1)=items.take i++[items[i]]:=take_snoc hx;refine hs i _ v H' hx (sm.trans sm') hY _ _ (fun H'' s2 e=>⟨(sm.trans sm').trans s2,?_⟩) (fun H'' s2 e=>⟨_,s2 _ _ (sm' _ _ hH),?_,fun b o q=>?_,?_⟩)
  ·rw[s2 _ _ (sm' _ _ hH),et,List.filter_append,List.filter_cons_of_neg (by rw[e];decide),List.filter_nil,List.append_nil]
  ·rw[List.length_map];refine bo (Nat.le_trans (List.length_filter_le _ _) ?_);rw[List.length_take];omega
  ·rw[ae (az q hD)];exact s2 _ _ (sm' _ _ (sm b o q))
  ·rw[ah,et,List.filter_append,List.filter_cons_of_pos e,List.filter_nil,List.map_append];rfl
 ·have e:i=items.length:=by omega
  subst e;rw[List.take_length] at hH;exact .inl ⟨hstop H sm,hd H sm hH⟩
theorem dS {K:PySem.W.Frag}{a:Addr}{g:TG}{tt:TT}{te:TE}{vs:List Nat}{σ:L2.St}{H1:Hp}{D:Addr}{Qd:Hp→Prop}{α:Type}(items:List α) (val:α→V) (kp:α→Bool) (out:α→V)
  (ha:H1 a=some (.lst (items.map val))) (hD:H1 D=none) (hz:items.length≤1000)
  (hs:∀ (i:Nat) x H,items[i]?=some x→ao H1 H→∀ (R:Hp→Prop) (R':VK),(∀ H',ao H H'→kp x=false→R H')→(∀ H',ao H H'→kp x=true→R' (out x) H') →
   g (val x) (wipe σ vs) H fun σ2 H2=>wipe σ2 vs=wipe σ vs∧tt σ2 H2 fun b H3=>if b=true then te σ2 H3 R' else R H3)
  (hd:∀ H,ao H1 H→H D=some (.lst ((items.filter kp).map out))→Qd H) :
  ∃ W:Nat→Nat→Hp→Prop,(∃ m,W 0 m (upd H1 D (.lst [])))∧∀ i m H,W i m H →
   ((Itl K a).stop i H∧Qd H)∨((Itl K a).go i H∧∃ Nx:Hp→Prop,(∀ H',Nx H'→∃ m',m'<m∧W (i+1) m' H')∧∀ x H',(Itl K a).yld i H x H'→g x (wipe σ vs) H' fun σ2 H2=>wipe σ2 vs=wipe σ vs∧tt σ2 H2 fun b H3=>
    if b=true then te σ2 H3 fun y H4=>∃ acc,H4 D=some (.lst acc)∧acc.length<sizeLine∧Nx (upd H4 D (.lst (acc++[y]))) else Nx H3):=by
 refine x5 items (fun x v _=>v=val x) kp out (fun i H hi sm=>⟨_,val items[i],SqL.of (sm _ _ ha),by rw[List.getElem?_map,List.getElem?_eq_getElem hi];rfl⟩)
  (fun H sm=>⟨_,SqL.of (sm _ _ ha),by rw[List.length_map];exact Nat.le_refl _⟩) (fun i x H v H' hx sm y=>?_) hD hz (fun i x v H hx sm e=>by subst e;exact hs i x H hx sm) hd
 obtain⟨rfl,y⟩:=y;have:=y _ (SqL.of (sm _ _ ha));rw[List.getElem?_map,hx] at this;exact⟨ao.refl _,(Option.some.inj this).symm⟩
theorem ajn {d:Addr}{o:Obj}{kvs:List (Key×V)}{g:TG}{tt:TT}{te:TE}{vs:List Nat}{σ:L2.St}{H1:Hp}{D:Addr}{Qd:Hp→Prop}{α:Type}(items:List α) (val:α→V) (kp:α→Bool) (out:α→V)
  (hd':H1 d=some (.frz o (.dK kvs))) (hk:kvs.map (·.2)=items.map val) (hD:H1 D=none) (hz:items.length≤1000)
  (hs:∀ (i:Nat) x H,items[i]?=some x→ao H1 H→∀ (R:Hp→Prop) (R':VK),(∀ H',ao H H'→kp x=false→R H')→(∀ H',ao H H'→kp x=true→R' (out x) H') →
   g (val x) (wipe σ vs) H fun σ2 H2=>wipe σ2 vs=wipe σ vs∧tt σ2 H2 fun b H3=>if b=true then te σ2 H3 R' else R H3)
  (hd:∀ H,ao H1 H→H D=some (.lst ((items.filter kp).map out))→Qd H) :
  ∃ W:Nat→Nat→Hp→Prop,(∃ m,W 0 m (upd H1 D (.lst [])))∧∀ i m H,W i m H →
   ((Itd d o kvs).stop i H∧Qd H)∨((Itd d o kvs).go i H∧∃ Nx:Hp→Prop,(∀ H',Nx H'→∃ m',m'<m∧W (i+1) m' H')∧∀ x H',(Itd d o kvs).yld i H x H'→g x (wipe σ vs) H' fun σ2 H2=>wipe σ2 vs=wipe σ vs∧tt σ2 H2 fun b H3=>
    if b=true then te σ2 H3 fun y H4=>∃ acc,H4 D=some (.lst acc)∧acc.length<sizeLine∧Nx (upd H4 D (.lst (acc++[y]))) else Nx H3):=by
 have hl:kvs.length=items.length:=by
  have:=congrArg List.length hk
  rwa [List.length_map,List.length_map] at this
 refine x5 items (fun x v _=>v=val x) kp out (fun i H hi sm=>⟨sm _ _ hd',by omega⟩) (fun H sm=>⟨sm _ _ hd',by omega⟩) (fun i x H v H' hx sm y=>?_) hD hz (fun i x v H hx sm e=>by subst e;exact hs i x H hx sm) hd;obtain⟨rfl,k,y⟩:=y;have:=congrArg (fun l=>l[i]?) hk;simp only[List.getElem?_map,y,hx] at this;exact⟨ao.refl _,Option.some.inj this⟩
theorem ajp {d:Addr}{o:Obj}{kvs:List (Key×V)}{g:TG}{tt:TT}{te:TE}{vs:List Nat}{σ:L2.St}{H1:Hp}{D:Addr}{Qd:Hp→Prop}{α:Type}(items:List α) (val:α→V) (kp:α→Bool) (out:α→V)
  (hd':H1 d=some (.frz o (.dK kvs))) (hk:kvs.map (fun p=>kV p.1)=items.map val) (hD:H1 D=none) (hz:items.length≤1000)
  (hs:∀ (i:Nat) x H,items[i]?=some x→ao H1 H→∀ (R:Hp→Prop) (R':VK),(∀ H',ao H H'→kp x=false→R H')→(∀ H',ao H H'→kp x=true→R' (out x) H') →
   g (val x) (wipe σ vs) H fun σ2 H2=>wipe σ2 vs=wipe σ vs∧tt σ2 H2 fun b H3=>if b=true then te σ2 H3 R' else R H3)
  (hd:∀ H,ao H1 H→H D=some (.lst ((items.filter kp).map out))→Qd H) :
  ∃ W:Nat→Nat→Hp→Prop,(∃ m,W 0 m (upd H1 D (.lst [])))∧∀ i m H,W i m H →
   ((Itk d o kvs).stop i H∧Qd H)∨((Itk d o kvs).go i H∧∃ Nx:Hp→Prop,(∀ H',Nx H'→∃ m',m'<m∧W (i+1) m' H')∧∀ x H',(Itk d o kvs).yld i H x H'→g x (wipe σ vs) H' fun σ2 H2=>wipe σ2 vs=wipe σ vs∧tt σ2 H2 fun b H3=>
    if b=true then te σ2 H3 fun y H4=>∃ acc,H4 D=some (.lst acc)∧acc.length<sizeLine∧Nx (upd H4 D (.lst (acc++[y]))) else Nx H3):=by
 have hl:kvs.length=items.length:=by
  have:=congrArg List.length hk
  rwa [List.length_map,List.length_map] at this
 refine x5 items (fun x v _=>v=val x) kp out (fun i H hi sm=>⟨sm _ _ hd',by omega⟩) (fun H sm=>⟨sm _ _ hd',by omega⟩) (fun i x H v H' hx sm y=>?_) hD hz (fun i x v H hx sm e=>by subst e;exact hs i x H hx sm) hd;obtain⟨rfl,k,w,y,e⟩:=y;have:=congrArg (fun l=>l[i]?) hk;simp only[List.getElem?_map,y,hx] at this;exact⟨ao.refl _,e.trans (Option.some.inj this)⟩
theorem aer {n:Nat}{g:TG}{tt:TT}{te:TE}{vs:List Nat}{σ:L2.St}{H1:Hp}{D:Addr}{Qd:Hp→Prop}(kp:Nat→Bool) (out:Nat→V) (hD:H1 D=none) (hz:n≤1000)
  (hs:∀ (i:Nat) H,i<n→ao H1 H→∀ (R:Hp→Prop) (R':VK),(∀ H',ao H H'→kp i=false→R H')→(∀ H',ao H H'→kp i=true→R' (out i) H') →
   g (.int i) (wipe σ vs) H fun σ2 H2=>wipe σ2 vs=wipe σ vs∧tt σ2 H2 fun b H3=>if b=true then te σ2 H3 R' else R H3)
  (hd:∀ H,ao H1 H→H D=some (.lst (((List.range n).filter kp).map out))→Qd H) :
  ∃ W:Nat→Nat→Hp→Prop,(∃ m,W 0 m (upd H1 D (.lst [])))∧∀ i m H,W i m H →
   ((Itr 0 n).stop i H∧Qd H)∨((Itr 0 n).go i H∧∃ Nx:Hp→Prop,(∀ H',Nx H'→∃ m',m'<m∧W (i+1) m' H')∧∀ x H',(Itr 0 n).yld i H x H'→g x (wipe σ vs) H' fun σ2 H2=>wipe σ2 vs=wipe σ vs∧tt σ2 H2 fun b H3=>
    if b=true then te σ2 H3 fun y H4=>∃ acc,H4 D=some (.lst acc)∧acc.length<sizeLine∧Nx (upd H4 D (.lst (acc++[y]))) else Nx H3):=by
 refine x5 (List.range n) (fun x v _=>v = .int (x:Nat)) kp out (fun i H hi sm=>by rw[List.length_range] at hi;exact hi) (fun H sm=>by rw[List.length_range];exact Nat.le_refl _) (fun i x H v H' hx sm y=>?_) hD (by rw[List.length_range];exact hz)
  (fun i x v H hx sm e=>by subst e;exact hs x H (List.mem_range.mp (List.mem_of_getElem? hx)) sm) hd
 obtain⟨rfl,y⟩:=y;have hi:=(List.getElem?_eq_some_iff.mp hx).1;rw[List.length_range] at hi;rw[List.getElem?_range hi] at hx;have:=Option.some.inj hx;subst this;refine⟨ao.refl _,y.trans ?_⟩;show V.int (0+(i:Int))=V.int (i:Int);rw[Int.zero_add]
theorem ajo {K:PySem.W.Frag}{a:Addr}{g:TG}{tt:TT}{te:TE}{vs:List Nat}{σ:L2.St}{H1:Hp}{D:Addr}{Qd:Hp→Prop}{α:Type}(items:List α) (val:α→V) (kp:α×Nat→Bool) (out:α×Nat→V)
  (ha:H1 a=some (.lst (items.map val))) (hD:H1 D=none) (hz:items.length≤1000)
  (hs:∀ (i:Nat) x T H,items[i]?=some x→ao H1 H→H T=some (.tup [.int i,val x])→∀ (R:Hp→Prop) (R':VK),(∀ H',ao H H'→kp (x,i)=false→R H')→(∀ H',ao H H'→kp (x,i)=true→R' (out (x,i)) H') →
   g (.ref T) (wipe σ vs) H fun σ2 H2=>wipe σ2 vs=wipe σ vs∧tt σ2 H2 fun b H3=>if b=true then te σ2 H3 R' else R H3)
  (hd:∀ H,ao H1 H→H D=some (.lst ((items.zipIdx.filter kp).map out))→Qd H) :
  ∃ W:Nat→Nat→Hp→Prop,(∃ m,W 0 m (upd H1 D (.lst [])))∧∀ i m H,W i m H →
   ((Ite K a).stop i H∧Qd H)∨((Ite K a).go i H∧∃ Nx:Hp→Prop,(∀ H',Nx H'→∃ m',m'<m∧W (i+1) m' H')∧∀ x H',(Ite K a).yld i H x H'→g x (wipe σ vs) H' fun σ2 H2=>wipe σ2 vs=wipe σ vs∧tt σ2 H2 fun b H3=>
    if b=true then te σ2 H3 fun y H4=>∃ acc,H4 D=some (.lst acc)∧acc.length<sizeLine∧Nx (upd H4 D (.lst (acc++[y]))) else Nx H3):=by
 have hlen:items.zipIdx.length=items.length:=List.length_zipIdx;refine x5 items.zipIdx (fun x v H=>∃ T,v = .ref T∧H T=some (.tup [.int x.2,val x.1])) kp out (fun i H hi sm=>⟨_,val (items[i]'(by omega)),SqL.of (sm _ _ ha),by rw[List.getElem?_map,List.getElem?_eq_getElem (by omega)];rfl⟩)
  (fun H sm=>⟨_,SqL.of (sm _ _ ha),by rw[List.length_map,hlen];exact Nat.le_refl _⟩) (fun i x H v H' hx sm y=>?_) hD (by rw[hlen];exact hz) (fun i x v H hx sm e=>?_) hd
 ·obtain⟨T,u,rfl,hT,rfl,y⟩:=y;have y:=y _ (SqL.of (sm _ _ ha));rw[List.getElem?_zipIdx] at hx;obtain⟨z,hz',e⟩:=Option.map_eq_some_iff.mp hx;rw[List.getElem?_map,hz'] at y;have y:=Option.some.inj y;cases e;refine⟨fun b o q=>by rw[ae (az q hT)];exact q,T,rfl,?_⟩;rw[ah,← y];simp
 ·obtain⟨T,rfl,hT⟩:=e;rw[List.getElem?_zipIdx] at hx;obtain⟨z,hz',e⟩:=Option.map_eq_some_iff.mp hx;cases e;have e0:0+i=i:=Nat.zero_add i;rw[e0] at hT ⊢;exact hs i z T H hz' sm hT
theorem aku {K:PySem.W.Frag}{a:Addr}{xs:List V}{g:TG}{tb:TS}{D:Ends}{σ:L2.St}{H:Hp}(Pv:Nat→L2.St→Hp→Prop) (h0:Pv 0 σ H) (hl:∀ i σ H,i≤xs.length→Pv i σ H→SqL K H a xs)
  (hs:∀ (i:Nat) x σ H,i<xs.length→xs[xs.length-1-i]?=some x→Pv i σ H→g x σ H fun σ2 H2=>tb { D with nx:=Pv (i+1),ct:=Pv (i+1),bk:=D.nx } σ2 H2) (hd:∀ σ H,Pv xs.length σ H→D.nx σ H) :
  ∃ W:Nat→Nat→L2.St→Hp→Prop,(∃ m,W 0 m σ H)∧∀ i m σ H,W i m σ H →
   ((Itv K a xs.length).stop i H∧D.nx σ H)∨((Itv K a xs.length).go i H∧∃ N:L2.St→Hp→Prop,(∀ σ' H',N σ' H'→∃ m',m'<m∧W (i+1) m' σ' H')∧∀ x H',(Itv K a xs.length).yld i H x H'→g x σ H' fun σ2 H2=>tb { D with nx:=N,ct:=N,bk:=D.nx } σ2 H2):=by
 refine⟨fun i m σ H=>m=xs.length-i∧i≤xs.length∧Pv i σ H,⟨xs.length,by simp,Nat.zero_le _,h0⟩,?_⟩;rintro i m σ H ⟨rfl,hi,p⟩;have q:=hl i σ H hi p;by_cases hlt:i<xs.length
 ·have hx:xs[xs.length-1-i]?=some (xs[xs.length-1-i]'(by omega)):=List.getElem?_eq_getElem (by omega);refine .inr ⟨⟨hlt,xs,_,q,hx⟩,Pv (i+1),fun σ' H' p'=>⟨xs.length-(i+1),by omega,rfl,hlt,p'⟩,fun x H' y=>?_⟩;obtain⟨e,y⟩:=y;subst e;exact hs i x σ _ hlt (y xs q) p
 ·have e:i=xs.length:=by omega
  subst e;exact .inl ⟨Nat.le_refl _,hd σ H p⟩
theorem xP {d:Addr}{o:Obj}{kvs:List (Key×V)}{g:TG}{tb:TS}{D:Ends}{σ:L2.St}{H:Hp}(Pv:Nat→L2.St→Hp→Prop) (h0:Pv 0 σ H) (hl:∀ i σ H,i≤kvs.length→Pv i σ H→H d=some (.frz o (.dK kvs)))
  (hs:∀ (i:Nat) k v σ H T,kvs[i]?=some (k,v)→Pv i σ H→H T=none→g (.ref T) σ (upd H T (.tup [kV k,v])) fun σ2 H2=>tb { D with nx:=Pv (i+1),ct:=Pv (i+1),bk:=D.nx } σ2 H2) (hd:∀ σ H,Pv kvs.length σ H→D.nx σ H) :
  ∃ W:Nat→Nat→L2.St→Hp→Prop,(∃ m,W 0 m σ H)∧∀ i m σ H,W i m σ H →
   ((Iti d o kvs).stop i H∧D.nx σ H)∨((Iti d o kvs).go i H∧∃ N:L2.St→Hp→Prop,(∀ σ' H',N σ' H'→∃ m',m'<m∧W (i+1) m' σ' H')∧∀ x H',(Iti d o kvs).yld i H x H'→g x σ H' fun σ2 H2=>tb { D with nx:=N,ct:=N,bk:=D.nx } σ2 H2):=by
 refine⟨fun i m σ H=>m=kvs.length-i∧i≤kvs.length∧Pv i σ H,⟨kvs.length,by simp,Nat.zero_le _,h0⟩,?_⟩;rintro i m σ H ⟨rfl,hi,p⟩;have q:=hl i σ H hi p;by_cases hlt:i<kvs.length
 ·refine .inr ⟨⟨q,hlt⟩,Pv (i+1),fun σ' H' p'=>⟨kvs.length-(i+1),by omega,rfl,hlt,p'⟩,fun x H' y=>?_⟩;obtain⟨T,k,v,h1,h2,h3,h4⟩:=y;subst h2 h4;exact hs i k v σ H T h1 p h3
 ·have e:i=kvs.length:=by omega
  subst e;exact .inl ⟨⟨q,Nat.le_refl _⟩,hd σ H p⟩
theorem yes {σ:L2.St}{H:Hp}{te:TE}{R:Hp→Prop}{R':VK}(h:te σ H R'):kq σ H fun b H3=>if b=true then te σ H3 R' else R H3:=by
 show if true=true then te σ H R' else R H
 rw[if_pos rfl];exact h
theorem hE {α:Type}(l:List α):(l.filter fun _=>true)=l:=List.filter_eq_self.mpr fun _ _=>rfl
def iv (l:List Nat):List V:=l.map fun (n:Nat)=>V.int (n:Int)
theorem ll (l:List Nat):iv l=(Vbexam.ints l).map V.int:=by
 unfold iv Vbexam.ints;rw[List.map_map];rfl
theorem cc (l:List Nat):(iv l).length=l.length:=List.length_map _
def m4 (H:Hp) (vs:List V) (Q:VK):Prop:=∀ (H':Hp) (l:Addr),ao H H'→H l=none→H' l=some (.lst vs)→Q (.ref l) H'
theorem m4.here {H H1:Hp}{vs:List V}{Q:VK}(k:m4 H vs Q) (sm:ao H H1) {l:Addr}(h:H1 l=none) {us:List V}(e:us=vs):Q (.ref l) (upd H1 l (.lst us)):=
 k _ l (fun b o q=>by rw[ae (az (sm b o q) h)];exact sm b o q) (sm.free h) (by rw[ah,e])
theorem bO {H H1:Hp}(sm:ao H H1) {l:Addr}(h:H1 l=none) (u:HO):ao H (upd H1 l u):=fun b o q=>by rw[ae (az (sm b o q) h)];exact sm b o q
def cz (H:Hp) (r:Addr) (rows:List (List Nat)):Prop:=∃ as:List Addr,H r=some (.lst (as.map V.ref))∧as.length=rows.length∧∀ (i:Nat) a l,as[i]?=some a→rows[i]?=some l→H a=some (.lst (iv l))
theorem cz.keep {H H':Hp}{r:Addr}{rows:List (List Nat)}(R:cz H r rows) (sm:ao H H'):cz H' r rows:=by
 obtain⟨as,h1,h2,h3⟩:=R;exact⟨as,sm _ _ h1,h2,fun i a l e e'=>sm _ _ (h3 i a l e e')⟩
theorem cz.row {H:Hp}{r:Addr}{rows:List (List Nat)}(R:cz H r rows) {i:Nat}(hi:i<rows.length):∃ (as:List Addr) (a:Addr),H r=some (.lst (as.map V.ref))∧as.length=rows.length∧as[i]?=some a∧H a=some (.lst (iv (rows.getD i []))):=by
 obtain⟨as,h1,h2,h3⟩:=R;have ha:as[i]?=some (as[i]'(by omega)):=List.getElem?_eq_getElem (by omega);exact⟨as,_,h1,h2,ha,h3 i _ _ ha (by rw[List.getElem?_eq_getElem hi,List.getD_eq_getElem?_getD,List.getElem?_eq_getElem hi];rfl)⟩
def RdF (H0 H:Hp) (r:Addr) (rows:List (List Nat)):Prop:=∃ as:List Addr,H r=some (.lst (as.map V.ref))∧as.length=rows.length∧(∀ (i:Nat) a l,as[i]?=some a→rows[i]?=some l→H a=some (.lst (iv l)))∧∀ a∈as,H0 a=none
theorem RdF.rd {H0 H:Hp}{r:Addr}{rows:List (List Nat)}(R:RdF H0 H r rows):cz H r rows:=by
 obtain⟨as,h1,h2,h3,_⟩:=R;exact⟨as,h1,h2,h3⟩
theorem RdF.upd {H0 H:Hp}{r lc:Addr}{rows:List (List Nat)}{o u:HO}(R:RdF H0 H r rows) (h:H0 lc=some o) (hr:H0 r=none):cz (L2.upd H lc u) r rows:=by
 obtain⟨as,h1,h2,h3,h4⟩:=R;refine⟨as,?_,h2,fun i a l e e'=>?_⟩
 ·rw[ae (fun z=>by rw[z,h] at hr;cases hr)];exact h1
 ·rw[ae (fun z=>by have:=h4 a (List.mem_of_getElem? e);rw[z,h] at this;cases this)];exact h3 i a l e e'
def aln (H:Hp) (rows:List (List Nat)) (Q:VK):Prop:=∀ (H':Hp) (r:Addr),ao H H'→H r=none→cz H' r rows→Q (.ref r) H'
theorem akz {K:PySem.W.Frag}{a:Addr}{g:TG}{te:TE}{vs:List Nat}{σ:L2.St}{H1:Hp}{D:Addr}{Qd:Hp→Prop}{α:Type}(items:List α) (val:α→V) (out:α→List Nat)
  (ha:H1 a=some (.lst (items.map val))) (hD:H1 D=none) (hz:items.length≤1000)
  (hs:∀ (i:Nat) x H,items[i]?=some x→ao H1 H→∀ (R:Hp→Prop) (R':VK),(∀ H' l,ao H H'→H l=none→H' l=some (.lst (iv (out x)))→R' (.ref l) H') →
   g (val x) (wipe σ vs) H fun σ2 H2=>wipe σ2 vs=wipe σ vs∧kq σ2 H2 fun b H3=>if b=true then te σ2 H3 R' else R H3)
  (hd:∀ H,ao H1 H→RdF H1 H D (items.map out)→Qd H) :
  ∃ W:Nat→Nat→Hp→Prop,(∃ m,W 0 m (upd H1 D (.lst [])))∧∀ i m H,W i m H →
   ((Itl K a).stop i H∧Qd H)∨((Itl K a).go i H∧∃ Nx:Hp→Prop,(∀ H',Nx H'→∃ m',m'<m∧W (i+1) m' H')∧∀ x H',(Itl K a).yld i H x H'→g x (wipe σ vs) H' fun σ2 H2=>wipe σ2 vs=wipe σ vs∧kq σ2 H2 fun b H3=>
    if b=true then te σ2 H3 fun y H4=>∃ acc,H4 D=some (.lst acc)∧acc.length<sizeLine∧Nx (upd H4 D (.lst (acc++[y]))) else Nx H3):=by
 let Pv:Nat→Hp→Prop:=fun i H=>ao H1 H∧∃ as:List Addr,H D=some (.lst (as.map V.ref))∧as.length=i∧(∀ b∈as,b≠D∧H1 b=none)∧∀ (j:Nat) b x,as[j]?=some b→items[j]?=some x→H b=some (.lst (iv (out x)))
 refine⟨fun i m H=>m=items.length-i∧i≤items.length∧Pv i H,⟨_,rfl,Nat.zero_le _,fun b o e=>?_,[],ah,rfl,fun b h=>(by cases h),fun j b x e=>by simp at e⟩,?_⟩
 ·rw[ae (az e hD)];exact e
 rintro i m H ⟨rfl,hi,sm,as,hH,hl,hne,hrow⟩;have ha':=SqL.of (K:=K) (sm _ _ ha);by_cases hlt:i<items.length
 ·have hx:items[i]?=some items[i]:=List.getElem?_eq_getElem hlt;refine .inr ⟨⟨_,val items[i],ha',by rw[List.getElem?_map,hx];rfl⟩,Pv (i+1),fun H' p=>⟨_,by omega,rfl,hlt,p⟩,fun v H' y=>?_⟩;obtain⟨rfl,y⟩:=y;have y:=y _ ha';rw[List.getElem?_map,hx] at y;have y:=Option.some.inj y;subst y;have smD:∀ {H'':Hp} (u:HO),ao H' H''→ao H1 (upd H'' D u):=fun u s2 b o q=>by
   rw[ae (az q hD)];exact s2 _ _ (sm b o q)
  refine hs i _ H' hx sm _ _ fun H'' l s2 hl0 hl2=>⟨_,s2 _ _ hH,by rw[List.length_map];exact bo (by omega),smD _ s2,as++[l],by rw[ah,List.map_append];rfl,by rw[List.length_append,hl];rfl,fun b hb=>?_,fun j b x h1 h2=>?_⟩
  ·rcases List.mem_append.mp hb with q|q
   ·exact hne b q
   ·rw[List.mem_singleton.mp q];exact⟨fun e=>(by rw[e,hH] at hl0;cases hl0),sm.free hl0⟩
  ·rcases dR h1 with q|⟨q,e⟩
   ·rw[ae (hne b (List.mem_of_getElem? q)).1];exact s2 _ _ (hrow j b x q h2)
   ·rw[q,hl,hx] at h2;cases h2;rw[e,ae (fun z=>by rw[z,hH] at hl0;cases hl0)];exact hl2
 ·have e:i=items.length:=by omega
  subst e;refine .inl ⟨⟨_,ha',by rw[List.length_map];exact Nat.le_refl _⟩,hd H sm ⟨as,hH,by rw[List.length_map];exact hl,fun j b l h1 h2=>?_,fun b hb=>(hne b hb).2⟩⟩;rw[List.getElem?_map] at h2;obtain⟨x,hx,e⟩:=Option.map_eq_some_iff.mp h2;rw[hrow j b x h1 hx,← e]
section
variable {P:Program}{w:World}{K:PySem.W.Frag}{mg:Str→Option Value}{base:Heap}(T:Pg K mg)
def ake (c:Cs) (g:Vbexam.St→Nat→V):Sp:=fun vs H Q _=>∃ (x:Ix) (s:Vbexam.St) (b:Nat),vs = [.ref x.S,.int b]∧a7 c H x s∧1≤b∧b≤s.boxes.length∧Q (g s b) H
theorem ya:aP P w K mg base CX0 1 T.eL.f T.eL.fd ["self", "number"] (ake T.c fun s b=>.int (Vbexam.outermost s b)):=by
 refine T.eL.F.ok oI (fun vs H Q E h=>?_) (fun cdv A outer s₀ H vs Q E hr h=>?_)
 ·obtain⟨x,s,b,rfl,_⟩:=h;rfl
 ·obtain⟨x,s,b,rfl,S,h1,h2,k⟩:=h;have hu:=bX hr;refine⟨_,ab (k3 PassesOwn.never (aQ fc (au (aF hu (au (pv 0) rfl) (pv 1) (fun _ _=>rfl)) rfl) aw (aX _))
    (ai (aJ (i:=1) oI.nd rfl (Or.inl rfl) (au (aF hu (au (pv 0) rfl) (pv 1) (fun _ _=>rfl)) rfl))))
   (ai (ak (pv 1))),?_⟩
  obtain⟨dx,hS⟩:=S.st;obtain⟨k0,d0⟩:=S.ok.bx.dep b h1 h2;refine⟨fun m σ H'=>∃ n:Nat,σ = [some (.ref x.S),some (.int n)]∧H'=H∧1≤n∧n≤s.boxes.length∧Bx.Dep s n m∧Vbexam.outermost s n=Vbexam.outermost s b,⟨k0,b,rfl,rfl,h1,h2,d0,rfl⟩,?_⟩;rintro m σ H' ⟨n,rfl,rfl,n1,n2,dn,en⟩;obtain⟨a,ha,⟨da,hA⟩,hv⟩:=S.box n1 n2;refine⟨_,rfl,x.S,T.c.aI,dx,_,_,rfl,hS,T.aq,T.aU,rfl,_,rfl,x.dB,_,rfl,S.j7 hv,a,T.c.Box,da,_,_,rfl,hA,T.bP,T.bb,rfl,rfl,_,rfl,?_⟩;refine a8 (fun e=>?_) (fun e=>?_)
  ·have e:(Vbexam.box s n).inside≠0:=fun z=>by simp[z] at e
   cases dn with
   | root q=>exact absurd q e
   | @step _ m _ dn=>
    refine⟨fun σ' H''=>σ' = [some (.ref x.S),some (.int (Vbexam.box s n).inside)]∧H''=H',?_,?_⟩
    ·rintro σ' H'' ⟨rfl,rfl⟩;exact⟨m,Nat.lt_succ_self _,_,rfl,rfl,Nat.pos_of_ne_zero e,S.ok.bx.ins n n1 n2,dn,(Bx.nu S.ok.bx n1 n2 e).symm.trans en⟩
    ·refine⟨_,rfl,x.S,T.c.aI,dx,_,_,rfl,hS,T.aq,T.aU,rfl,_,rfl,x.dB,_,rfl,S.j7 hv,a,T.c.Box,da,_,_,rfl,hA,T.bP,T.bb,rfl,rfl,rfl⟩
  ·have e:(Vbexam.box s n).inside=0:=by
    refine Classical.byContradiction fun z=>e ?_;simpa using z
   refine⟨_,rfl,?_⟩;rw[Bx.uh S.ok.bx n1 n2 e] at en;rw[en];exact k
def ni (s:Vbexam.St) (o b:Nat):Bool:=b != 0&&Vbexam.isIn s o b
def ae7 (c:Cs):Sp:=fun vs H Q _=>∃ (x:Ix) (s:Vbexam.St) (b o:Nat),vs = [.ref x.S,.int b,.int o]∧a7 c H x s∧b≤s.boxes.length∧Q (.bl (ni s o b)) H
theorem oA:aP P w K mg base CX0 1 T.dt.f T.dt.fd ["self", "inner", "number"] (ae7 T.c):=by
 refine T.dt.F.ok oH (fun vs H Q E h=>?_) (fun cdv A outer s₀ H vs Q E hr h=>?_)
 ·obtain⟨x,s,b,o,rfl,_⟩:=h;rfl
 ·obtain⟨x,s,b,o,rfl,S,h2,k⟩:=h;have hu:=bX hr;refine⟨_,ab (k3 PassesOwn.never (aQ fc (pv 1) aw (aX _))
    (ab (aY (aQ iI (pv 1) (pv 2) (aX _)) (ai (ak fN)) aL)
    (ai (aJ (i:=1) oH.nd rfl (Or.inl rfl) (au (aF hu (au (pv 0) rfl) (pv 1) (fun _ _=>rfl)) rfl)))))
   (ai (ak fN)),?_⟩
  obtain⟨dx,hS⟩:=S.st;refine⟨fun m σ H'=>∃ n:Nat,σ = [some (.ref x.S),some (.int n),some (.int o)]∧H'=H∧n≤s.boxes.length∧(n≠0→∃ j,m=j+1∧Bx.Dep s n j)∧ni s o n=ni s o b,?_,?_⟩
  ·by_cases e:b=0
   ·exact⟨0,b,rfl,rfl,h2,fun z=>absurd e z,rfl⟩
   ·obtain⟨k0,d0⟩:=S.ok.bx.dep b (Nat.pos_of_ne_zero e) h2;exact⟨k0+1,b,rfl,rfl,h2,fun _=>⟨k0,rfl,d0⟩,rfl⟩
  rintro m σ H' ⟨n,rfl,rfl,n2,dn,en⟩;refine⟨_,rfl,rfl,_,rfl,?_⟩;refine a8 (fun e=>?_) (fun e=>?_)
  ·have e:n≠0:=fun z=>by simp[z] at e
   have n1:=Nat.pos_of_ne_zero e;obtain⟨j,rfl,dj⟩:=dn e;obtain⟨a,ha,⟨da,hA⟩,hv⟩:=S.box n1 n2;have hin:ni s o n=(n == o||ni s o (Vbexam.box s n).inside):=by
    unfold ni;rw[Bx.ab8 S.ok.bx n1 n2];simp[e]
   refine⟨fun σ' H''=>σ' = [some (.ref x.S),some (.int (Vbexam.box s n).inside),some (.int o)]∧H''=H'∧n≠o,?_,?_⟩
   ·rintro σ' H'' ⟨rfl,rfl,no⟩;cases dj with
    | root q=>exact⟨0,Nat.succ_pos _,_,rfl,rfl,S.ok.bx.ins n n1 n2,fun z=>absurd q z,by rw[← en,hin];simp[no]⟩
    | @step _ m nz dj=>exact⟨m+1,Nat.lt_succ_self _,_,rfl,rfl,S.ok.bx.ins n n1 n2,fun _=>⟨m,rfl,dj⟩,by rw[← en,hin];simp[no]⟩
   ·refine⟨_,rfl,_,rfl,rfl,_,rfl,?_⟩;refine a8 (fun e2=>?_) (fun e2=>?_)
    ·have e2:n=o:=Int.ofNat_inj.mp (by simpa using e2);have:ni s o b=true:=by rw[← en,hin];simp[e2]
     rw[this] at k;exact k
    ·have e2:n≠o:=fun q=>absurd q (by have:=e2;simp at this;omega);exact⟨_,rfl,x.S,T.c.aI,dx,_,_,rfl,hS,T.aq,T.aU,rfl,_,rfl,x.dB,_,rfl,S.j7 hv,a,T.c.Box,da,_,_,rfl,hA,T.bP,T.bb,rfl,rfl,rfl,e2⟩
  ·have e:n=0:=by simpa using e
   have:ni s o b=false:=by rw[← en,e];rfl
   rw[this] at k;exact k
def ahj (c:Cs):Sp:=fun vs H Q _=>∃ (x:Ix) (s:Vbexam.St) (o:Nat),vs = [.ref x.S,.int o]∧a7 c H x s∧H x.dP=some (.dK (pk s.pieces x.pa)) ∧
 ∀ (H':Hp) (l:Addr),ao H H'→H l=none→H' l=some (.lst ((Vbexam.manifest s o).map fun (n:Nat)=>V.int (n:Int)))→Q (.ref l) H'
def akb (K:PySem.W.Frag) (c:Cs):TT:=fun σ H Q=>abG c.aI "is_within" (ae7 c) [] E0 (bG 0) (fP (yH K (bG 2) "box") (fP (bG 1) kn)) σ H fun x H'=>∃ k,xl K x H' k∧Q k H'
def aka (K:PySem.W.Frag):TE:=yH K (bG 2) "label"
theorem ke:aP P w K mg base CX0 2 T.c9.f T.c9.fd ["self", "number"] (ahj T.c):=by
 refine T.c9.F.ok kl (fun vs H Q E h=>?_) (fun cdv A outer s₀ H vs Q E hr h=>?_)
 ·obtain⟨x,s,o,rfl,_⟩:=h;rfl
 ·obtain⟨x,s,o,rfl,S,hP,k⟩:=h;have hu:=bX hr;refine⟨_,ai (ak (a6 xE (by rfl) T.jr PyProof.Rows.boot_sorted (aa (age (fO (own:=[("piece",2)]) (g:=cH 2) (te:=aka K) (tt:=akb K T.c)
   rfl kl.nd (sA (au (pv 0) rfl)) ?bk ?gg ?tt ?ee)) af))),?rd⟩
  case bk=>
   show d4 (["self", "number", "piece"]:List Str) (aj iL) _ _;exact⟨rfl,by decide +kernel,by decide +kernel,by decide +kernel,by decide +kernel⟩
  case gg=>exact fun _ _ _ _ _=>aZ (i:=2) kl.nd rfl (Or.inl rfl) (Or.inr rfl)
  case tt=>
   intro _ _ _ _ _;refine fU (bJ ?_ (fun _=>rfl));exact bj (pv 0) T.aq T.kb (oA T) hr T.dt.b .nil aE (aa (au (pv 2) rfl) (aa (pv 1) af))
  case ee=>exact fun _ _ _ _ _=>au (pv 2) rfl
  obtain⟨dx,hS⟩:=S.st;refine⟨x.dP,_,hP,trivial,fun od=>?_⟩;have S1:=S.lock hP od;have hS1:(upd H x.dP (.frz od (.dK (pk s.pieces x.pa)))) x.S=some (.ins T.c.aI dx (sF x.dP x.dB x.lH s.time)):=by
   rw[ae (cp hS hP (by intro z;cases z))];exact hS
  generalize hH1:upd H x.dP (.frz od (.dK (pk s.pieces x.pa)))=H1 at S1 hS1;have hd1:H1 x.dP=some (.frz od (.dK (pk s.pieces x.pa))):=by rw[← hH1,ah]
  refine⟨_,rfl,x.S,T.c.aI,dx,_,_,rfl,hS1,T.aq,T.aO,rfl,x.dP,od,_,rfl,hd1,fun D hD=>?_⟩
  let sel:List Vbexam.Piece→List Nat:=fun l=>(l.filter fun p=>ni s o p.box).map fun p=>p.label
  refine akA (g:=cH 2) (vs:=[2]) (σ:=[some (.ref x.S),some (.int o),none]) (tt:=akb K T.c) (te:=aka K) (H1:=H1) (D:=D) (Pv:=fun i H'=>ao H1 H'∧H' D=some (.lst ((sel (s.pieces.take i)).map fun (n:Nat)=>V.int (n:Int)))) ⟨fun b q e=>?_,?_⟩ (fun i H' hi p=>p.1 _ _ hd1) (fun i kk v H' hi p=>?_) (fun H' p=>?_)
  ·rw[ae (az e hD)];exact e
  ·rw[ah];rfl
  ·obtain⟨p0,a,hp,ha,rfl⟩:=aeJ hi;obtain⟨da,h,hh,hA⟩:=(S1.keep p.1).ps i p0 a hp ha;refine⟨rfl,?_⟩;have hin:=S.ok.inb p0 (List.mem_of_getElem? hp);refine⟨_,rfl,x.S,dx,_,rfl,p.1 _ _ hS1,rfl,_,rfl,a,T.c.Piece,da,_,_,rfl,hA,T.aD,T.bc,rfl,_,rfl,x,s,p0.box,o,rfl,S1.keep p.1,hin,_,rfl,?_⟩;have e1:sel (s.pieces.take (i+1))=sel (s.pieces.take i)++(if ni s o p0.box=true then[p0.label] else[]):=by
    show((s.pieces.take (i+1)).filter _).map _=_;rw[take_snoc hp,List.filter_append,List.map_append];by_cases z:ni s o p0.box=true
    ·rw[if_pos z,List.filter_cons,if_pos z];rfl
    ·rw[if_neg z,List.filter_cons,if_neg z];rfl
   refine a8 (fun e=>?_) (fun e=>?_)
   ·refine⟨_,rfl,a,T.c.Piece,da,_,_,rfl,hA,T.aD,T.b7,rfl,_,p.2,?_,fun b q e=>?_,?_⟩
    ·rw[List.length_map,List.length_map];refine bo (Nat.le_trans (List.length_filter_le _ _) ?_);rw[List.length_take];have:=S.ok.few;omega
    ·rw[ae (az e hD)];exact p.1 b q e
    ·rw[ah,e1,if_pos e,List.map_append];rfl
   ·refine⟨p.1,?_⟩;rw[p.2,e1,if_neg e,List.append_nil]
  ·have hlen:(pk s.pieces x.pa).length=s.pieces.length:=by
    unfold pk;rw[List.length_map,List.length_zip,List.length_map,S.dy,Nat.min_self]
   rw[hlen,List.take_length] at p;have ndP:D≠x.dP:=fun e=>by rw[e,hd1] at hD;cases hD
   refine⟨p.1 _ _ hd1,D,(sel s.pieces).map fun (n:Nat)=>(n:Int),rfl,SqL.of ?_,?_,fun ns' q hp hs hq=>?_⟩
   ·rw[ae ndP,p.2,aes]
   ·rw[List.length_map,List.length_map];refine Nat.lt_of_le_of_lt (List.length_filter_le _ _) ?_;have:=S.ok.few;omega
   ·have e1:=Wf.tV (Wf.q5 S.ok _) hp hs;have e2:ns'=(Vbexam.manifest s o).map fun (n:Nat)=>(n:Int):=by
     rw[e1,Wf.oa S.ok];rfl
    have sm:ao H (upd H' x.dP (.dK (pk s.pieces x.pa))):=fun b u e=>by
     by_cases z:b=x.dP
     ·rw[z,ah,← hP,← z];exact e
     ·rw[ae z];refine p.1 _ _ ?_;rw[← hH1,ae z];exact e
    refine k _ q (fun b u e=>?_) (sm.free hq) ?_
    ·rw[ae (az (sm b u e) hq)];exact sm b u e
    ·rw[ah,e2,aes]
end
theorem pX {s:Vbexam.St}(O:Wf.Ok s) {i:Nat}{p p':Vbexam.Piece}(h:s.pieces[i]?=some p) (hl:p'.label=p.label) (hp:p'.parent=p.parent) (hb:p'.box≤s.boxes.length) (hg:p'.gone=true→p'.box=0):Wf.Ok { s with pieces:=s.pieces.set i p' }:=by
 have e:(s.pieces.map fun q=>if q.label=p.label then { q with parent:=p'.parent,all:=p'.all,now:=p'.now,used:=p'.used,lost:=p'.lost,gone:=p'.gone,holder:=p'.holder,box:=p'.box,warm:=p'.warm } else q)=s.pieces.set i p':=by
  have:=gK O h (fun q=>{ q with parent:=p'.parent,all:=p'.all,now:=p'.now,used:=p'.used,lost:=p'.lost,gone:=p'.gone,holder:=p'.holder,box:=p'.box,warm:=p'.warm });have:=congrArg Vbexam.St.pieces this;have e2:({ p with parent:=p'.parent,all:=p'.all,now:=p'.now,used:=p'.used,lost:=p'.lost,gone:=p'.gone,holder:=p'.holder,box:=p'.box,warm:=p'.warm }:Vbexam.Piece)=p':=by
   cases p';cases p;cases hl;rfl
  rw[e2] at this;exact this
 have O':=O.map (fun q=>if q.label=p.label then { q with parent:=(if q.label=p.label then q.parent else q.parent),all:=p'.all,now:=p'.now,used:=p'.used,lost:=p'.lost,gone:=p'.gone,holder:=p'.holder,box:=p'.box,warm:=p'.warm } else q) s.time (fun q=>by by_cases c:q.label=p.label <;> simp[c]) (fun q=>by by_cases c:q.label=p.label <;> simp[c]) (fun q hq=>by
  by_cases c:q.label=p.label
  ·simp only[c,if_true];exact hb
  ·simp only[c,if_false];exact O.inb q hq) (fun q hq=>by
  by_cases c:q.label=p.label
  ·simp only[c,if_true];exact hg
  ·simp only[c,if_false];exact O.gone q hq)
 have e3:(s.pieces.map fun q=>if q.label=p.label then { q with parent:=(if q.label=p.label then q.parent else q.parent),all:=p'.all,now:=p'.now,used:=p'.used,lost:=p'.lost,gone:=p'.gone,holder:=p'.holder,box:=p'.box,warm:=p'.warm } else q)=s.pieces.set i p':=by
  rw[← e];refine List.map_congr_left fun q hq=>?_;by_cases c:q.label=p.label
  ·have:q=p:=by
    obtain⟨j,hj,ej⟩:=List.getElem_of_mem hq;have:j=i:=abo O.nd (x:=p.label) (by rw[List.getElem?_map,List.getElem?_eq_getElem hj,ej];exact congrArg some c) (by rw[List.getElem?_map,h];rfl);subst this;rw[List.getElem?_eq_getElem hj,ej] at h;exact Option.some.inj h
   subst this;simp[hp]
  ·simp[c]
 rw[e3] at O';exact O'
section
variable {P:Program}{w:World}{K:PySem.W.Frag}{mg:Str→Option Value}{base:Heap}(T:Pg K mg)
theorem eO:aP P w K mg base CX0 2 T.bS.f T.bS.fd ["self", "number"] (ake T.c fun s b=>.int (Vbexam.holderOfBox s b)):=by
 refine T.bS.F.ok w8 (fun vs H Q E h=>?_) (fun cdv A outer s₀ H vs Q E hr h=>?_)
 ·obtain⟨x,s,b,rfl,_⟩:=h;rfl
 ·obtain⟨x,s,b,rfl,S,h1,h2,k⟩:=h;have hu:=bX hr;refine⟨_,ai (ak (au (aF hu (au (pv 0) rfl) (bj (pv 0) T.aq T.pN (ya T) hr T.eL.b .nil aE (aa (pv 1) af)) (fun _ _=>rfl)) rfl)),?_⟩;obtain⟨dx,hS⟩:=S.st;obtain⟨r1,r2,_⟩:=Bx.aeE S.ok.bx h1 h2;obtain⟨a,ha,⟨da,hA⟩,hv⟩:=S.box r1 r2;refine⟨_,rfl,x.S,T.c.aI,dx,_,_,rfl,hS,T.aq,T.aU,rfl,_,rfl,x.S,dx,_,rfl,hS,rfl,_,rfl,x,s,b,rfl,S,h1,h2,x.dB,_,rfl,S.j7 hv,a,T.c.Box,da,_,_,rfl,hA,T.bP,T.cq,rfl,?_⟩;exact k
def acv (c:Cs) (g:Vbexam.St→Vbexam.Piece→V):Sp:=fun vs H Q _=>∃ (x:Ix) (s:Vbexam.St) (i:Nat) (p:Vbexam.Piece) (a:Addr),vs = [.ref x.S,.ref a]∧a7 c H x s∧s.pieces[i]?=some p∧x.pa[i]?=some a∧Q (g s p) H
theorem lA:aP P w K mg base CX0 3 T.cC.f T.cC.fd ["self", "piece"] (acv T.c fun s p=>.int (Vbexam.holderOf s p)):=by
 refine T.cC.F.ok um (fun vs H Q E h=>?_) (fun cdv A outer s₀ H vs Q E hr h=>?_)
 ·obtain⟨x,s,i,p,a,rfl,_⟩:=h;rfl
 ·obtain⟨x,s,i,p,a,rfl,S,hp,ha,k⟩:=h;refine⟨_,ab (aY (aQ iI (au (pv 1) rfl) aw (aX _)) (ai (ak (au (pv 1) rfl))) aL)
   (ai (ak (bj (pv 0) T.aq T.dX (eO T) hr T.bS.b .nil aE (aa (au (pv 1) rfl) af)))),?_⟩
  obtain⟨dx,hS⟩:=S.st;obtain⟨da,z,hz,hA⟩:=S.ps i p a hp ha;have hin:=S.ok.inb p (List.mem_of_getElem? hp);refine⟨_,rfl,a,T.c.Piece,da,_,_,rfl,hA,T.aD,T.bc,rfl,rfl,_,rfl,?_⟩;refine a8 (fun e=>?_) (fun e=>?_)
  ·have e:p.box=0:=by simpa using e
   refine⟨_,rfl,a,T.c.Piece,da,_,_,rfl,hA,T.aD,T.bN,rfl,?_⟩;have k:Q (.int (Vbexam.holderOf s p)) H:=k;unfold Vbexam.holderOf at k;rw[if_pos e] at k;rw[hz e];exact k
  ·have e:¬ p.box=0:=by simpa using e
   have k:Q (.int (Vbexam.holderOf s p)) H:=k;unfold Vbexam.holderOf at k;rw[if_neg e] at k;exact⟨_,rfl,x.S,dx,_,rfl,hS,rfl,_,rfl,a,T.c.Piece,da,_,_,rfl,hA,T.aD,T.bc,rfl,x,s,p.box,rfl,S,Nat.pos_of_ne_zero e,hin,k⟩
def openAt (s:Vbexam.St) (b:Nat):Bool:=b == 0||Vbexam.isOpen s b
def amn (c:Cs):Sp:=fun vs H Q _=>∃ (x:Ix) (s:Vbexam.St) (b:Nat),vs = [.ref x.S,.int b]∧a7 c H x s∧b≤s.boxes.length∧Q (.bl (openAt s b)) H
theorem de:aP P w K mg base CX0 1 T.bL.f T.bL.fd ["self", "number"] (amn T.c):=by
 refine T.bL.F.ok rC (fun vs H Q E h=>?_) (fun cdv A outer s₀ H vs Q E hr h=>?_)
 ·obtain⟨x,s,b,rfl,_⟩:=h;rfl
 ·obtain⟨x,s,b,rfl,S,h2,k⟩:=h;have hu:=bX hr;refine⟨_,ab (k3 PassesOwn.never (aQ fc (pv 1) aw (aX _))
    (ab (aY (aQ fc (au (aF hu (au (pv 0) rfl) (pv 1) (fun _ _=>rfl)) rfl) aw (aX _)) (ai (ak fN)) aL)
    (ai (aJ (i:=1) rC.nd rfl (Or.inl rfl) (au (aF hu (au (pv 0) rfl) (pv 1) (fun _ _=>rfl)) rfl)))))
   (ai (ak fN)),?_⟩
  obtain⟨dx,hS⟩:=S.st;refine⟨fun m σ H'=>∃ n:Nat,σ = [some (.ref x.S),some (.int n)]∧H'=H∧n≤s.boxes.length∧(n≠0→∃ j,m=j+1∧Bx.Dep s n j)∧openAt s n=openAt s b,?_,?_⟩
  ·by_cases e:b=0
   ·exact⟨0,b,rfl,rfl,h2,fun z=>absurd e z,rfl⟩
   ·obtain⟨k0,d0⟩:=S.ok.bx.dep b (Nat.pos_of_ne_zero e) h2;exact⟨k0+1,b,rfl,rfl,h2,fun _=>⟨k0,rfl,d0⟩,rfl⟩
  rintro m σ H' ⟨n,rfl,rfl,n2,dn,en⟩;refine⟨_,rfl,rfl,_,rfl,?_⟩;refine a8 (fun e=>?_) (fun e=>?_)
  ·have e:n≠0:=fun z=>by simp[z] at e
   have n1:=Nat.pos_of_ne_zero e;obtain⟨j,rfl,dj⟩:=dn e;obtain⟨a,ha,⟨da,hA⟩,hv⟩:=S.box n1 n2;have hin:openAt s n=((Vbexam.box s n).wax == 0&&openAt s (Vbexam.box s n).inside):=by
    unfold openAt;rw[Bx.ah5 S.ok.bx n1 n2];simp[e]
   refine⟨fun σ' H''=>σ' = [some (.ref x.S),some (.int (Vbexam.box s n).inside)]∧H''=H'∧(Vbexam.box s n).wax=0,?_,?_⟩
   ·rintro σ' H'' ⟨rfl,rfl,no⟩;cases dj with
    | root q=>exact⟨0,Nat.succ_pos _,_,rfl,rfl,S.ok.bx.ins n n1 n2,fun z=>absurd q z,by rw[← en,hin];simp[no]⟩
    | @step _ m nz dj=>exact⟨m+1,Nat.lt_succ_self _,_,rfl,rfl,S.ok.bx.ins n n1 n2,fun _=>⟨m,rfl,dj⟩,by rw[← en,hin];simp[no]⟩
   ·refine⟨_,rfl,x.S,T.c.aI,dx,_,_,rfl,hS,T.aq,T.aU,rfl,_,rfl,x.dB,_,rfl,S.j7 hv,a,T.c.Box,da,_,_,rfl,hA,T.bP,T.dh,rfl,rfl,_,rfl,?_⟩;refine a8 (fun e2=>?_) (fun e2=>?_)
    ·have e2:(Vbexam.box s n).wax≠0:=fun z=>by simp[z] at e2
     have:openAt s b=false:=by rw[← en,hin];simp[e2]
     rw[this] at k;exact k
    ·have e2:(Vbexam.box s n).wax=0:=by simpa using e2
     exact⟨_,rfl,x.S,T.c.aI,dx,_,_,rfl,hS,T.aq,T.aU,rfl,_,rfl,x.dB,_,rfl,S.j7 hv,a,T.c.Box,da,_,_,rfl,hA,T.bP,T.bb,rfl,rfl,rfl,e2⟩
  ·have e:n=0:=by simpa using e
   have:openAt s b=true:=by rw[← en,e];rfl
   rw[this] at k;exact k
theorem ly:aP P w K mg base CX0 2 T.cA.f T.cA.fd ["self", "piece"] (acv T.c fun s p=>.bl (Vbexam.reachable s p)):=by
 refine T.cA.F.ok uj (fun vs H Q E h=>?_) (fun cdv A outer s₀ H vs Q E hr h=>?_)
 ·obtain⟨x,s,i,p,a,rfl,_⟩:=h;rfl
 ·obtain⟨x,s,i,p,a,rfl,S,hp,ha,k⟩:=h;refine⟨_,ai (ak (bj (pv 0) T.aq T.cW (de T) hr T.bL.b .nil aE (aa (au (pv 1) rfl) af))),?_⟩;obtain⟨dx,hS⟩:=S.st;obtain⟨da,z,hz,hA⟩:=S.ps i p a hp ha;exact⟨_,rfl,x.S,dx,_,rfl,hS,rfl,_,rfl,a,T.c.Piece,da,_,_,rfl,hA,T.aD,T.bc,rfl,x,s,p.box,rfl,S,S.ok.inb p (List.mem_of_getElem? hp),k⟩
end
def loose (s:Vbexam.St) (p:Vbexam.Piece):Vbexam.Piece:={ p with box:=0,holder:=Vbexam.holderOf s p }
def agj (c:Cs) (g:Vbexam.St→Vbexam.Piece→Vbexam.Piece):Sp:=fun vs H Q _=>∃ (x:Ix) (s:Vbexam.St) (i:Nat) (p:Vbexam.Piece) (a:Addr),vs = [.ref x.S,.ref a]∧ax c H x s∧s.pieces[i]?=some p∧x.pa[i]?=some a ∧
 ∀ u:HO,ax c (upd H a u) x { s with pieces:=s.pieces.set i (g s p) }→Q .non (upd H a u)
section
variable {P:Program}{w:World}{K:PySem.W.Frag}{mg:Str→Option Value}{base:Heap}(T:Pg K mg)
theorem mW:aP P w K mg base CX0 4 T.c8.f T.c8.fd ["self", "piece"] (agj T.c loose):=by
 refine T.c8.F.ok w9 (fun vs H Q E h=>?_) (fun cdv A outer s₀ H vs Q E hr h=>?_)
 ·obtain⟨x,s,i,p,a,rfl,_⟩:=h;rfl
 ·obtain⟨x,s,i,p,a,rfl,S,hp,ha,k⟩:=h;refine⟨_,ab (bC (pv 1) (bj (pv 0) T.aq T.iG (lA T) hr T.cC.b .nil aE (aa (pv 1) af)) rfl) (ai (bC (pv 1) aw rfl)),?_⟩;obtain⟨dx,hS⟩:=S.rd.st;obtain⟨da,z,hz,hA⟩:=S.rd.ps i p a hp ha;refine⟨_,rfl,x.S,dx,_,rfl,hS,rfl,_,rfl,x,s,i,p,a,rfl,S.rd,hp,ha,_,rfl,a,T.c.Piece,da,_,rfl,hA,T.aD,T.bN,(by show 10<1000;decide),_,rfl,a,T.c.Piece,da,_,rfl,ah,T.aD,T.bc,(by show 10<1000;decide),?_⟩;rw[b8];refine k _ (S.tU hp ha rfl ⟨da,(Vbexam.holderOf s p:Int),fun _=>rfl,rfl⟩ (pX S.rd.ok hp rfl rfl (Nat.zero_le _) fun _=>rfl) T.bf T.br)
def gZ (s:Vbexam.St) (p:Vbexam.Piece):Vbexam.Piece:={ loose s p with gone:=true }
theorem oB:aP P w K mg base CX0 5 T.du.f T.du.fd ["self", "piece"] (agj T.c gZ):=by
 refine T.du.F.ok yD (fun vs H Q E h=>?_) (fun cdv A outer s₀ H vs Q E hr h=>?_)
 ·obtain⟨x,s,i,p,a,rfl,_⟩:=h;rfl
 ·obtain⟨x,s,i,p,a,rfl,S,hp,ha,k⟩:=h;refine⟨_,ab (dZ (bj (pv 0) T.aq T.jD (mW T) hr T.c8.b .nil aE (aa (pv 1) af))) (ai (bC (pv 1) fN rfl)),?_⟩;obtain⟨dx,hS⟩:=S.rd.st;refine⟨_,rfl,x.S,dx,_,rfl,hS,rfl,_,rfl,x,s,i,p,a,rfl,S,hp,ha,fun u S1=>?_⟩;have hi:=(List.getElem?_eq_some_iff.mp hp).1;have hp1:({ s with pieces:=s.pieces.set i (loose s p) }:Vbexam.St).pieces[i]?=some (loose s p):=List.getElem?_set_self hi;obtain⟨da,z,hz,hA⟩:=S1.rd.ps i _ a hp1 ha;refine⟨_,rfl,a,T.c.Piece,da,_,rfl,hA,T.aD,T.cE,(by show 10<1000;decide),?_⟩;have S2:=S1.tU (p':=gZ s p) (u:=.ins T.c.Piece da (pF (gZ s p) z)) hp1 ha rfl ⟨da,z,hz,rfl⟩ (pX S1.rd.ok hp1 rfl rfl (Nat.zero_le _) fun _=>rfl) T.bf T.br;have e:({ ({ s with pieces:=s.pieces.set i (loose s p) }:Vbexam.St) with pieces:=(s.pieces.set i (loose s p)).set i (gZ s p) }:Vbexam.St) = { s with pieces:=s.pieces.set i (gZ s p) }:=by
   rw[List.set_set]
  rw[b8] at S2;have S2:ax T.c (upd H a (.ins T.c.Piece da (pF (gZ s p) z))) x { s with pieces:=(s.pieces.set i (loose s p)).set i (gZ s p) }:=S2;rw[List.set_set] at S2;have q:=k _ S2;rw[b8];exact q
def amm (c:Cs):Sp:=fun vs H Q _=>∃ (x:Ix) (s:Vbexam.St) (p q:Nat) (l:Addr) (ls:List Nat),vs = [.ref x.S,.int p,.int q,.ref l]∧ax c H x s∧s.hands.length<200∧H l=some (.lst (ls.map fun (n:Nat)=>V.int (n:Int)))∧l≠x.lH ∧
 ∀ (H':Hp) (x':Ix),Step c H H' x x' { s with hands:=s.hands++[{ time:=s.time,giver:=p,taker:=q,labels:=ls }] }→Q .non H'
theorem lz:aP P w K mg base CX0 1 T.cB.f T.cB.fd ["self", "giver", "taker", "labels"] (amm T.c):=by
 refine T.cB.F.ok uk (fun vs H Q E h=>?_) (fun cdv A outer s₀ H vs Q E hr h=>?_)
 ·obtain⟨x,s,p,q,l,ls,rfl,_⟩:=h;rfl
 ·obtain⟨x,s,p,q,l,ls,rfl,S,hn,hl,nl,k⟩:=h;refine⟨_,ai (dZ (my PySem.F.plainAttrs_list PySem.F.slot_list_append PySem.F.type_list_append hU (au (pv 0) rfl) (aa (ain (aa (au (pv 0) rfl) (aa (pv 1) (aa (pv 2) (aa (pv 3) af))))) af))),?_⟩;obtain⟨dx,hS⟩:=S.rd.st;refine⟨_,rfl,x.S,T.c.aI,dx,_,_,rfl,hS,T.aq,T.ck,rfl,.inl ⟨rfl,_,SqL.of S.rd.lH⟩,?_⟩;refine⟨_,rfl,x.S,T.c.aI,dx,_,_,rfl,hS,T.aq,T.cZ,rfl,_,rfl,_,rfl,_,rfl,(by show 4≤sizeLine;decide),fun t ht=>?_⟩;have sm:ao H (upd H t (.tup [.int s.time,.int p,.int q,.ref l])):=fun b o e=>by
   rw[ae (az e ht)];exact e
  refine⟨x.lH,x.hv,_,rfl,rfl,sm _ _ S.rd.lH,bo (by rw[S.rd.hlen];omega),?_⟩;refine k _ _ (S.anr sm (t:=t) (h:={ time:=s.time,giver:=p,taker:=q,labels:=ls }) ⟨t,l,rfl,ah,sm _ _ hl⟩ fun l' e=>?_);rw[ah] at e;injection e with e;injection e with e;simp at e;rw[← e];exact nl
def acV (l m h:Int):List (Str×V):=[("label",.int l),("source",.int (-1)),("made",.int m),("mass",.int m),("used",.int 0),("lost",.int 0),("gone",.bl false),("box",.int 0),("holder",.int h),("warm",.int 0)]
def afR (C:Addr):Sp:=fun vs H Q _=>∃ (p dx:Addr) (l m h:Int),vs = [.ref p,.int l,.int m,.int h]∧H p=some (.ins C dx [])∧∀ H':Hp,H' p=some (.ins C dx (acV l m h))→(∀ b o,H b=some o→b≠p→H' b=some o)→Q .non H'
def akD (h:Int):List (Str×V):=[("holder",.int h),("outer",.int 0),("seal",.int 0),("frost",.bl false)]
def aix (C:Addr):Sp:=fun vs H Q _=>∃ (p dx:Addr) (h:Int),vs = [.ref p,.int h]∧H p=some (.ins C dx [])∧∀ H':Hp,H' p=some (.ins C dx (akD h))→(∀ b o,H b=some o→b≠p→H' b=some o)→Q .non H'
theorem wH:aP P w K mg base CX0 1 T.fV.f T.fV.fd ["self", "label", "mass", "holder"] (afR T.c.Piece):=by
 refine T.fV.F.ok adt (fun vs H Q E h=>?_) (fun cdv A outer s₀ H vs Q E hr h=>?_)
 ·obtain⟨p,dx,l,m,h,rfl,_⟩:=h;rfl
 ·obtain⟨p,dx,l,m,h,rfl,hp,k⟩:=h
  ·skip
   refine⟨_,ab (bC (pv 0) (pv 1) rfl) (ab (bC (pv 0) (bY bD aw) rfl) (ab (bC (pv 0) (pv 2) rfl) (ab (bC (pv 0) (pv 2) rfl) (ab (bC (pv 0) aw rfl) (ab (bC (pv 0) aw rfl) (ab (bC (pv 0) fN rfl) (ab (bC (pv 0) aw rfl) (ab (bC (pv 0) (pv 3) rfl) (ai (bC (pv 0) aw rfl)))))))))),?_⟩;refine⟨_,rfl,_,rfl,p,T.c.Piece,dx,_,rfl,hp,T.aD,T.b7,(by show 0<1000;decide),?_⟩;refine⟨_,rfl,_,rfl,p,T.c.Piece,dx,_,rfl,ah,T.aD,T.cX,(by show 1<1000;decide),?_⟩;refine⟨_,rfl,_,rfl,p,T.c.Piece,dx,_,rfl,ah,T.aD,T.eN,(by show 2<1000;decide),?_⟩;refine⟨_,rfl,_,rfl,p,T.c.Piece,dx,_,rfl,ah,T.aD,T.bz,(by show 3<1000;decide),?_⟩;refine⟨_,rfl,p,T.c.Piece,dx,_,rfl,ah,T.aD,T.dI,(by show 4<1000;decide),?_⟩;refine⟨_,rfl,p,T.c.Piece,dx,_,rfl,ah,T.aD,T.dH,(by show 5<1000;decide),?_⟩;refine⟨_,rfl,p,T.c.Piece,dx,_,rfl,ah,T.aD,T.cE,(by show 6<1000;decide),?_⟩;refine⟨_,rfl,p,T.c.Piece,dx,_,rfl,ah,T.aD,T.bc,(by show 7<1000;decide),?_⟩;refine⟨_,rfl,_,rfl,p,T.c.Piece,dx,_,rfl,ah,T.aD,T.bN,(by show 8<1000;decide),?_⟩;refine⟨_,rfl,p,T.c.Piece,dx,_,rfl,ah,T.aD,T.cF,(by show 9<1000;decide),?_⟩;simp only[b8];exact k _ ah fun b o e hb=>by rw[ae hb];exact e
theorem afD:aP P w K mg base CX0 1 T.jN.f T.jN.fd ["self", "holder"] (aix T.c.Box):=by
 refine T.jN.F.ok afN (fun vs H Q E h=>?_) (fun cdv A outer s₀ H vs Q E hr h=>?_)
 ·obtain⟨p,dx,h,rfl,_⟩:=h;rfl
 ·obtain⟨p,dx,h,rfl,hp,k⟩:=h
  ·skip
   refine⟨_,ab (bC (pv 0) (pv 1) rfl) (ab (bC (pv 0) aw rfl) (ab (bC (pv 0) aw rfl) (ai (bC (pv 0) fN rfl)))),?_⟩;refine⟨_,rfl,_,rfl,p,T.c.Box,dx,_,rfl,hp,T.bP,T.cq,(by show 0<1000;decide),?_⟩;refine⟨_,rfl,p,T.c.Box,dx,_,rfl,ah,T.bP,T.bb,(by show 1<1000;decide),?_⟩;refine⟨_,rfl,p,T.c.Box,dx,_,rfl,ah,T.bP,T.dh,(by show 2<1000;decide),?_⟩;refine⟨_,rfl,p,T.c.Box,dx,_,rfl,ah,T.bP,T.fh,(by show 3<1000;decide),?_⟩;simp only[b8];exact k _ ah fun b o e hb=>by rw[ae hb];exact e
end
def gv (l:List (Str×Int)):List (Key×V):=l.map fun x=>(Sum.inr x.1,V.int x.2)
theorem bW {H:Hp}{g:Addr}{l:List (Str×Int)}{n:Str}{z:Int}(h:H g=some (.dK (gv l))) (e:bg (gv l) (Sum.inr n)=some (.int z)):hX H g (.str n) (some (.int z)):=.inl ⟨_,Sum.inr n,.inl h,rfl,e.symm⟩
theorem bI {v:V}:[v].length≤sizeLine:=by
 show 1≤sizeLine;decide
theorem ah8 (k:Nat):100*(k:Int)+98-100*(k:Int) % 97=((Vbexam.labelOf k:Nat):Int):=by
 unfold Vbexam.labelOf;omega
section
variable {P:Program}{w:World}{K:PySem.W.Frag}{mg:Str→Option Value}{base:Heap}(T:Pg K mg)
def ak6:Sp:=fun vs H Q _=>∃ k:Nat,vs = [.int k]∧k≤9999∧Q (.int (Vbexam.labelOf k:Nat)) H
theorem tJ:aP P w K mg base CX0 1 T.d7.f T.d7.fd ["k"] ak6:=by
 refine T.d7.F.ok afP (fun vs H Q E h=>?_) (fun cdv A outer s₀ H vs Q E hr h=>?_)
 ·obtain⟨k,rfl,_⟩:=h;rfl
 ·obtain⟨k,rfl,hk,q⟩:=h;refine⟨_,ai (ak (fw ail (fw yc (fw aik aw (pv 0)) aw) (fw aij (fw aik aw (pv 0)) aw))),?_⟩;refine⟨_,rfl,_,_,rfl,rfl,.inl ⟨by decide,by decide⟩,_,_,rfl,rfl,_,rfl,_,_,rfl,rfl,.inl ⟨by decide,by decide⟩,_,_,rfl,rfl,(by show(0:Int)<97;decide),_,_,rfl,rfl,?_⟩;show Q (.int (100*(k:Int)+98-100*(k:Int) % 97)) H;rw[ah8];exact q
def ajQ (c:Cs):Sp:=fun vs H Q _=>∃ (x:Ix) (s:Vbexam.St) (g:Addr) (k m p:Nat),vs = [.ref x.S,.ref g]∧ax c H x s∧H g=some (.dK (gv [("k",(k:Int)),("mass",(m:Int)),("p",(p:Int))]))∧k≤9999∧eR c H x (Vbexam.act s (.sample k m p)) Q
theorem aih:aP P w K mg base CX0 3 T.il.f T.il.fd ["store", "given"] (ajQ T.c):=by
 refine T.il.F.ok ac1 (fun vs H Q E h=>?_) (fun cdv A outer s₀ H vs Q E hr h=>?_)
 ·obtain⟨x,s,g,k,m,p,rfl,_⟩:=h;rfl
 ·obtain⟨x,s,g,k,m,p,rfl,S,hg,hk,po⟩:=h;have hu:=bX hr;have hr1:bh 1 _:=hr.mono (by decide);obtain⟨u40,g40,r40⟩:=T.o3;refine⟨_,ab (aJ (i:=2) ac1.nd rfl (Or.inl rfl) (aK (tJ T) hr1 rfl T.pT T.d7.F.kp T.d7.b .nil aE (aa (aF hu (pv 1) aW (fun _ _=>rfl)) af)))
   (ab (aY (mC (aeF hu (pv 2) (au (pv 0) rfl))) (ai (ak (aS (aa (bY bD aw) af)))) aL)
   (ab (aY (aQ yY (a6 oq (by rfl) T.cU PySem.boot_len (aa (au (pv 0) rfl) af)) (cK rfl g40 r40) (aX _)) (ai (ak (aS (aa (bY bD aw) af)))) aL)
   (ab (lB hu (au (pv 0) rfl) (pv 2) (y1 T.kX (wH T) hr rfl T.ab6 T.fV.b .nil aE (aa (pv 2) (aa (aF hu (pv 1) aW (fun _ _=>rfl)) (aa (aF hu (pv 1) aW (fun _ _=>rfl)) af)))) rfl)
   (ai (ak (aS (aa (pv 2) af))))))),?_⟩
  obtain⟨dx,hS⟩:=S.rd.st;refine⟨_,rfl,g,_,rfl,bW hg rfl,k,rfl,hk,?_⟩;have act:Vbexam.act s (.sample k m p)=if(Vbexam.piece s (Vbexam.labelOf k)).isSome=true then (s,[-4]) else if Vbexam.PIECES≤s.pieces.length then (s,[-5]) else (Vbexam.addPiece s { label:=Vbexam.labelOf k,parent:=none,all:=m,now:=m,holder:=p },[(Vbexam.labelOf k:Int)]):=rfl
  rw[act] at po;refine⟨_,rfl,_,rfl,x.S,T.c.aI,dx,_,_,rfl,hS,T.aq,T.aO,rfl,x.dP,_,rfl,S.rd.o4 rfl,_,rfl,?_⟩;cases e:Vbexam.piece s (Vbexam.labelOf k) with
  | some p0=>
   obtain⟨i,a,_,_,_,hv⟩:=S.rd.piece e;rw[hv];refine cS ?_;rw[e,if_pos (show(some p0).isSome=true from rfl)] at po;exact⟨_,rfl,bI,fun l hl=>po.done S (Step.refl S) hl rfl⟩
  | none=>
   have hn:=Wf.mB e;rw[ku hn];refine cR ?_;rw[e] at po;rw[if_neg (by simp)] at po;have hlen:(pk s.pieces x.pa).length=s.pieces.length:=by
    unfold pk;rw[List.length_map,List.length_zip,List.length_map,S.rd.dy,Nat.min_self]
   refine⟨_,rfl,x.S,T.c.aI,dx,_,_,rfl,hS,T.aq,T.aO,rfl,x.dP,_,rfl,S.eP,_,_,rfl,rfl,_,rfl,?_⟩;rw[hlen];refine a8 (fun q=>?_) (fun q=>?_)
   ·have q:Vbexam.PIECES≤s.pieces.length:=by
     have q:(40:Int)≤s.pieces.length:=by simpa using q
     show 40≤s.pieces.length;omega
    rw[if_pos q] at po;exact⟨_,rfl,bI,fun l hl=>po.done S (Step.refl S) hl rfl⟩
   ·have q:¬ Vbexam.PIECES≤s.pieces.length:=fun z=>q (by
     have z:40≤s.pieces.length:=z;simp;omega)
    rw[if_neg q] at po;refine⟨_,rfl,_,rfl,g,_,rfl,bW hg rfl,_,rfl,g,_,rfl,bW hg rfl,?_⟩;intro a da ha hda nea;refine⟨a,da,_,_,_,rfl,ah,fun H1 h1 k1=>⟨rfl,?_⟩⟩;have sm:ao H H1:=ao.made ha hda k1;have hS1:=sm _ _ hS;refine⟨_,rfl,x.S,T.c.aI,dx,_,_,rfl,hS1,T.aq,T.aO,rfl,_,rfl,x.dP,_,rfl,mY.k (k:=Sum.inl (Vbexam.labelOf k:Int)) (sm _ _ S.eP) (bo (by rw[hlen];exact Nat.le_trans S.rd.ok.few (by decide))),?_⟩;have St:=S.alq sm (a:=a) (p:={ label:=Vbexam.labelOf k,parent:=none,all:=m,now:=m,holder:=p }) ha ⟨da,p,fun _=>rfl,h1⟩ (fun q hq=>hn q hq)
     (S.rd.ok.add _ (Nat.lt_of_not_le q) ⟨k,hk,rfl⟩ (fun q hq=>hn q hq) (Nat.zero_le _) (fun _=>rfl) (fun q e=>by cases e))
    exact⟨_,rfl,bI,fun l hl=>po.done S St hl rfl⟩
end
theorem aip {c:Cs}{H:Hp}{x:Ix}{s:Vbexam.St}(S:a7 c H x s):(pk s.pieces x.pa).length=s.pieces.length:=by
 unfold pk;rw[List.length_map,List.length_zip,List.length_map,S.dy,Nat.min_self]
theorem ajG {H H1:Hp}(sm:ao H H1) (a:Addr) (u:HO):ao (upd H a u) (upd H1 a u):=fun b o e=>by
 by_cases z:b=a
 ·rw[z,ah] at e ⊢;exact e
 ·rw[ae z] at e ⊢;exact sm b o e
theorem ajF {H H1:Hp}(sm:ao H H1) {a:Addr}(ha:H a=none) (u:HO):ao H (upd H1 a u):=fun b o e=>by
 rw[ae (az e ha)];exact sm b o e
section
variable {P:Program}{w:World}{K:PySem.W.Frag}{mg:Str→Option Value}{base:Heap}(T:Pg K mg)
def alb (c:Cs):Sp:=fun vs H Q _=>∃ (x:Ix) (s:Vbexam.St) (g:Addr) (n k m:Nat) (p:Vbexam.Piece),vs = [.ref x.S,.ref g]∧ax c H x s∧H g=some (.dK (gv [("n",(n:Int)),("k",(k:Int)),("mass",(m:Int))]))∧g ∉ foot x∧Vbexam.piece s n=some p∧p.gone=false∧Vbexam.ranged (.split n k m)=true ∧
 eR c H x (Vbexam.act s (.split n k m)) Q
theorem acj:aP P w K mg base CX0 4 T.dG.f T.dG.fd ["store", "given"] (alb T.c):=by
 refine T.dG.F.ok jU (fun vs H Q E h=>?_) (fun cdv A outer s₀ H vs Q E hr h=>?_)
 ·obtain⟨x,s,g,n,k,m,p,rfl,_⟩:=h;rfl
 ·obtain⟨x,s,g,n,k,m,p,rfl,S,hg,hgf,hpn,hgo,hrg,po⟩:=h;have hk:k≤9999:=by
   have h1:=(Bool.and_eq_true _ _ |>.mp hrg).2;have h2:=Wf.jQ.mp (Bool.and_eq_true _ _ |>.mp h1).1;omega
  have hu:=bX hr;have hr1:bh 1 _:=hr.mono (by decide);have hr2:bh 2 _:=hr.mono (by decide);obtain⟨u40,g40,r40⟩:=T.o3;refine⟨_,ab (aJ (i:=2) jU.nd rfl (Or.inl rfl) (aF hu (au (pv 0) rfl) (aF hu (pv 1) aW (fun _ _=>rfl)) (fun _ _=>rfl)))
   (ab (aJ (i:=3) jU.nd rfl (Or.inl rfl) (aK (tJ T) hr1 rfl T.pT T.d7.F.kp T.d7.b .nil aE (aa (aF hu (pv 1) aW (fun _ _=>rfl)) af)))
   (ab (aY (fD (bJ (bj (pv 0) T.aq T.iD (ly T) hr2 T.cA.b .nil aE (aa (pv 2) af)) (fun _=>rfl))) (ai (ak (aS (aa (bY bD aw) af)))) aL)
   (ab (aY (aQ vE (au (pv 2) rfl) (aF hu (pv 1) aW (fun _ _=>rfl)) (aX _)) (ai (ak (aS (aa (bY bD aw) af)))) aL)
   (ab (aY (mC (aeF hu (pv 3) (au (pv 0) rfl))) (ai (ak (aS (aa (bY bD aw) af)))) aL)
   (ab (aY (aQ yY (a6 oq (by rfl) T.cU PySem.boot_len (aa (au (pv 0) rfl) af)) (cK rfl g40 r40) (aX _)) (ai (ak (aS (aa (bY bD aw) af)))) aL)
   (ab (aJ (i:=4) jU.nd rfl (Or.inl rfl) (y1 T.kX (wH T) hr2 rfl T.ab6 T.fV.b .nil aE (aa (pv 3) (aa (aF hu (pv 1) aW (fun _ _=>rfl)) (aa (au (pv 2) rfl) af)))))
   (ab (bC (pv 4) (au (pv 2) rfl) rfl)
   (ab (bC (pv 4) (au (pv 2) rfl) rfl)
   (ab (bC (pv 4) (au (pv 2) rfl) rfl)
   (ab (lC (pv 2) (aF hu (pv 1) aW (fun _ _=>rfl)) ah3)
   (ab (lB hu (au (pv 0) rfl) (pv 3) (pv 4) rfl)
   (ai (ak (aS (aa (pv 3) af))))))))))))))),?_⟩
  obtain⟨dx,hS⟩:=S.rd.st;obtain⟨i,a,hp,ha,⟨da,z,hz,hA⟩,hv⟩:=S.rd.piece hpn;have hlab:p.label=n:=(Wf.p5 hpn).2;have act:Vbexam.act s (.split n k m)=if Vbexam.reachable s p=false then (s,[-4]) else if(p.now:Int)≤m then (s,[-5]) else if(Vbexam.piece s (Vbexam.labelOf k)).isSome=true then (s,[-6]) else if Vbexam.PIECES≤s.pieces.length then (s,[-7])
    else (Vbexam.addPiece (Vbexam.setPiece s p.label fun x=>{ x with now:=x.now-m }) { label:=Vbexam.labelOf k,parent:=some p.label,all:=m,now:=m,holder:=p.holder,box:=p.box,warm:=p.warm },[(Vbexam.labelOf k:Int)]):=fX hpn hgo
  rw[act] at po;refine⟨_,rfl,x.S,T.c.aI,dx,_,_,rfl,hS,T.aq,T.aO,rfl,_,rfl,g,_,rfl,bW hg rfl,x.dP,_,rfl,S.rd.o4 hv,?_⟩;refine⟨_,rfl,g,_,rfl,bW hg rfl,k,rfl,hk,?_⟩;refine⟨_,rfl,x.S,dx,_,rfl,hS,rfl,_,rfl,x,s,i,p,a,rfl,S.rd,hp,ha,_,rfl,?_⟩;cases e1:Vbexam.reachable s p with
  | false=>
   rw[if_pos e1] at po;refine cS ?_;exact⟨_,rfl,bI,fun l hl=>po.done S (Step.refl S) hl rfl⟩
  | true=>
  rw[if_neg (by rw[e1];decide)] at po;refine cR ?_;refine⟨_,rfl,a,T.c.Piece,da,_,_,rfl,hA,T.aD,T.bz,rfl,_,rfl,g,_,rfl,bW hg rfl,_,_,rfl,rfl,_,rfl,?_⟩;refine a8 (fun e2=>?_) (fun e2=>?_)
  ·rw[if_pos (by simpa using e2)] at po;exact⟨_,rfl,bI,fun l hl=>po.done S (Step.refl S) hl rfl⟩
  have e2:¬ (p.now:Int)≤m:=by simpa using e2
  rw[if_neg e2] at po;refine⟨_,rfl,_,rfl,x.S,T.c.aI,dx,_,_,rfl,hS,T.aq,T.aO,rfl,x.dP,_,rfl,S.rd.o4 rfl,_,rfl,?_⟩;cases e:Vbexam.piece s (Vbexam.labelOf k) with
  | some p0=>
   obtain⟨_,_,_,_,_,hv0⟩:=S.rd.piece e;rw[hv0];refine cS ?_;rw[e,if_pos (show(some p0).isSome=true from rfl)] at po;exact⟨_,rfl,bI,fun l hl=>po.done S (Step.refl S) hl rfl⟩
  | none=>
  have hn:=Wf.mB e;rw[ku hn];refine cR ?_;rw[e,if_neg (show ¬ (none:Option Vbexam.Piece).isSome=true from by simp)] at po;refine⟨_,rfl,x.S,T.c.aI,dx,_,_,rfl,hS,T.aq,T.aO,rfl,x.dP,_,rfl,S.eP,_,_,rfl,rfl,_,rfl,?_⟩;rw[aip S.rd];refine a8 (fun q=>?_) (fun q=>?_)
  ·have q:Vbexam.PIECES≤s.pieces.length:=by
    have q:(40:Int)≤s.pieces.length:=by simpa using q
    show 40≤s.pieces.length;omega
   rw[if_pos q] at po;exact⟨_,rfl,bI,fun l hl=>po.done S (Step.refl S) hl rfl⟩
  have q:¬ Vbexam.PIECES≤s.pieces.length:=fun z=>q (by
   have z:40≤s.pieces.length:=z;simp;omega)
  rw[if_neg q] at po;refine⟨_,rfl,_,rfl,g,_,rfl,bW hg rfl,_,rfl,a,T.c.Piece,da,_,_,rfl,hA,T.aD,T.bN,rfl,?_⟩;intro a' da' ha' hda' nea';refine⟨a',da',_,_,_,rfl,ah,fun H1 h1 k1=>⟨rfl,?_⟩⟩;have sm:ao H H1:=ao.made ha' hda' k1;have naa:a≠a':=az hA ha';have hA1:=sm _ _ hA;refine⟨_,rfl,a,T.c.Piece,da,_,_,rfl,hA1,T.aD,T.b7,rfl,_,rfl,a',T.c.Piece,da',_,rfl,h1,T.aD,T.cX,(by show 10<1000;decide),?_⟩;refine⟨_,rfl,a,T.c.Piece,da,_,_,rfl,(by rw[ae naa];exact hA1),T.aD,T.bc,rfl,_,rfl,a',T.c.Piece,da',_,rfl,ah,T.aD,T.bc,(by show 10<1000;decide),?_⟩;rw[b8];refine⟨_,rfl,a,T.c.Piece,da,_,_,rfl,(by rw[ae naa];exact hA1),T.aD,T.cF,rfl,_,rfl,a',T.c.Piece,da',_,rfl,ah,T.aD,T.cF,(by show 10<1000;decide),?_⟩;rw[b8];generalize hp':({ label:=Vbexam.labelOf k,parent:=some p.label,all:=m,now:=m,holder:=p.holder,box:=p.box,warm:=p.warm }:Vbexam.Piece)=p';have hpF:eV "warm" (V.int p.warm) (eV "box" (V.int p.box) (eV "source" (V.int p.label) (acV (Vbexam.labelOf k) m z)))=pF p' z:=by
   rw[← hp'];rfl
  rw[hpF];have sm2:ao H (upd H1 a' (.ins T.c.Piece da' (pF p' z))):=ajF sm ha' _;generalize hH2:upd H1 a' (.ins T.c.Piece da' (pF p' z))=H2 at sm2 ⊢;have hA2:H2 a'=some (.ins T.c.Piece da' (pF p' z)):=by rw[← hH2,ah]
  refine⟨_,rfl,a,T.c.Piece,da,_,_,rfl,sm2 _ _ hA,T.aD,T.bz,rfl,_,rfl,g,_,rfl,bW (sm2 _ _ hg) rfl,_,_,rfl,rfl,da,_,sm2 _ _ hA,(by show 10<1000;decide),?_⟩;have hlt:m<p.now:=by omega
  have e5:eV "mass" (V.int ((p.now:Int)-m)) (pF p z)=pF { p with now:=p.now-m } z:=by
   show[_,_,_,(_,V.int ((p.now:Int)-m)),_,_,_,_,_,_] = [_,_,_,(_,V.int ((p.now-m:Nat):Int)),_,_,_,_,_,_];rw[show((p.now-m:Nat):Int)=(p.now:Int)-m by omega];rfl
  rw[e5];have S1:=S.tU (p':={ p with now:=p.now-m }) (u:=.ins T.c.Piece da (pF { p with now:=p.now-m } z)) hp ha rfl ⟨da,z,hz,rfl⟩ (pX S.rd.ok hp rfl rfl (S.rd.ok.inb p (List.mem_of_getElem? hp)) (S.rd.ok.gone p (List.mem_of_getElem? hp))) T.bf T.br;have es:=gK S.rd.ok hp (fun x=>{ x with now:=x.now-m });rw[← es] at S1;have St1:=ax.vY ha S1;have hna:(upd H a (.ins T.c.Piece da (pF { p with now:=p.now-m } z))) a'=none:=by
   rw[ae naa.symm];exact ha'
  have sm3:=ajG sm2 a (.ins T.c.Piece da (pF { p with now:=p.now-m } z));have hS3:(upd H2 a (.ins T.c.Piece da (pF { p with now:=p.now-m } z))) x.S=some (.ins T.c.aI dx (sF x.dP x.dB x.lH s.time)):=by
   rw[ae (cp hS hA (by intro q;injection q with q;exact T.br q.symm))];exact sm2 _ _ hS
  refine⟨_,rfl,_,rfl,x.S,T.c.aI,dx,_,_,rfl,hS3,T.aq,T.aO,rfl,_,rfl,x.dP,_,rfl,mY.k (k:=Sum.inl (Vbexam.labelOf k:Int)) (sm3 _ _ S1.eP) (bo (by rw[aip S1.rd];exact Nat.le_trans S1.rd.ok.few (by decide))),?_⟩;have hn1:∀ q∈(Vbexam.setPiece s p.label fun x=>{ x with now:=x.now-m }).pieces,q.label≠p'.label:=fun q hq=>by
   rw[← hp'];obtain⟨q',h3,rfl⟩:=List.mem_map.mp hq;have:=hn q' h3;by_cases c:q'.label=p.label
   ·rw[if_pos c];exact this
   ·rw[if_neg c];exact this
  have O2:=Wf.alp S.rd.ok (x:=.split n k m);rw[act,if_neg (by rw[e1];decide),if_neg e2,e,if_neg (show ¬ (none:Option Vbexam.Piece).isSome=true from by simp),if_neg q,hp'] at O2;rw[hp'] at po;have St2:=S1.alq sm3 (a:=a') (p:=p') hna ⟨da',z,fun hb=>(by rw[← hp'] at hb ⊢;exact hz hb),by rw[ae naa.symm];exact hA2⟩ hn1 (O2 hrg);have el:(p'.label:Int)=(Vbexam.labelOf k:Int):=by rw[← hp']
  rw[el] at St2;exact⟨_,rfl,bI,fun l hl=>po.done S (Step.trans S St1 St2) hl rfl⟩
def ang (c:Cs):Sp:=fun vs H Q _=>∃ (x:Ix) (s:Vbexam.St) (g:Addr) (n m:Nat) (p:Vbexam.Piece),vs = [.ref x.S,.ref g]∧ax c H x s∧H g=some (.dK (gv [("n",(n:Int)),("mass",(m:Int))]))∧g ∉ foot x∧Vbexam.piece s n=some p∧p.gone=false ∧
 eR c H x (Vbexam.act s (.use n m)) Q
theorem alX:aP P w K mg base CX0 6 T.pR.f T.pR.fd ["store", "given"] (ang T.c):=by
 refine T.pR.F.ok aiv (fun vs H Q E h=>?_) (fun cdv A outer s₀ H vs Q E hr h=>?_)
 ·obtain⟨x,s,g,n,m,p,rfl,_⟩:=h;rfl
 ·obtain⟨x,s,g,n,m,p,rfl,S,hg,hgf,hpn,hgo,po⟩:=h;have hu:=bX hr;have hr2:bh 2 _:=hr.mono (by decide);refine⟨_,ab (aJ (i:=2) aiv.nd rfl (Or.inl rfl) (aF hu (au (pv 0) rfl) (aF hu (pv 1) aW (fun _ _=>rfl)) (fun _ _=>rfl)))
   (ab (aY (fD (bJ (bj (pv 0) T.aq T.iD (ly T) hr2 T.cA.b .nil aE (aa (pv 2) af)) (fun _=>rfl))) (ai (ak (aS (aa (bY bD aw) af)))) aL)
   (ab (aY (aQ abx (au (pv 2) rfl) (aF hu (pv 1) aW (fun _ _=>rfl)) (aX _)) (ai (ak (aS (aa (bY bD aw) af)))) aL)
   (ab (lC (pv 2) (aF hu (pv 1) aW (fun _ _=>rfl)) ah3)
   (ab (lC (pv 2) (aF hu (pv 1) aW (fun _ _=>rfl)) abg)
   (ab (aY (aQ iI (au (pv 2) rfl) aw (aX _)) (ai (dZ (bj (pv 0) T.aq T.kc (oB T) hr T.du.b .nil aE (aa (pv 2) af)))) aL)
   (ai (ak (aS (aa (au (pv 2) rfl) af))))))))),?_⟩
  obtain⟨dx,hS⟩:=S.rd.st;obtain⟨i,a,hp,ha,⟨da,z,hz,hA⟩,hv⟩:=S.rd.piece hpn;have hi:=(List.getElem?_eq_some_iff.mp hp).1;have act:Vbexam.act s (.use n m)=if Vbexam.reachable s p=false then (s,[-4]) else if(p.now:Int)<m then (s,[-5])
    else (Vbexam.setPiece s p.label fun x=>{ x with now:=p.now-m,used:=x.used+m,gone:=p.now-m == 0,holder:=Vbexam.holderOf s p,box:=if p.now-m=0 then 0 else x.box },[((p.now-m:Nat):Int)]):=fX hpn hgo
  rw[act] at po;refine⟨_,rfl,x.S,T.c.aI,dx,_,_,rfl,hS,T.aq,T.aO,rfl,_,rfl,g,_,rfl,bW hg rfl,x.dP,_,rfl,S.rd.o4 hv,?_⟩;refine⟨_,rfl,x.S,dx,_,rfl,hS,rfl,_,rfl,x,s,i,p,a,rfl,S.rd,hp,ha,_,rfl,?_⟩;cases e1:Vbexam.reachable s p with
  | false=>
   rw[if_pos e1] at po;refine cS ?_;exact⟨_,rfl,bI,fun l hl=>po.done S (Step.refl S) hl rfl⟩
  | true=>
  rw[if_neg (by rw[e1];decide)] at po;refine cR ?_;refine⟨_,rfl,a,T.c.Piece,da,_,_,rfl,hA,T.aD,T.bz,rfl,_,rfl,g,_,rfl,bW hg rfl,_,_,rfl,rfl,_,rfl,?_⟩;refine a8 (fun e2=>?_) (fun e2=>?_)
  ·rw[if_pos (by simpa using e2)] at po;exact⟨_,rfl,bI,fun l hl=>po.done S (Step.refl S) hl rfl⟩
  have e2:¬ (p.now:Int)<m:=by simpa using e2
  rw[if_neg e2,gK S.rd.ok hp] at po;have nga:g≠a:=cp hg hA (by intro q;cases q);refine⟨_,rfl,a,T.c.Piece,da,_,_,rfl,hA,T.aD,T.bz,rfl,_,rfl,g,_,rfl,bW hg rfl,_,_,rfl,rfl,da,_,hA,(by show 10<1000;decide),?_⟩;refine⟨_,rfl,a,T.c.Piece,da,_,_,rfl,ah,T.aD,T.dI,rfl,_,rfl,g,_,rfl,bW (by rw[ae nga];exact hg) rfl,_,_,rfl,rfl,da,_,ah,(by show 10<1000;decide),?_⟩;rw[b8];have hnow:((p.now-m:Nat):Int)=(p.now:Int)-m:=by omega
  have e5:eV "used" (V.int ((p.used:Int)+m)) (eV "mass" (V.int ((p.now:Int)-m)) (pF p z))=pF { p with now:=p.now-m,used:=p.used+m } z:=by
   show[_,_,_,(_,V.int ((p.now:Int)-m)),(_,V.int ((p.used:Int)+m)),_,_,_,_,_] = [_,_,_,(_,V.int ((p.now-m:Nat):Int)),(_,V.int ((p.used+m:Nat):Int)),_,_,_,_,_];rw[hnow];rfl
  have hin:=S.rd.ok.inb p (List.mem_of_getElem? hp);rw[e5];refine⟨_,rfl,a,T.c.Piece,da,_,_,rfl,ah,T.aD,T.bz,rfl,rfl,_,rfl,?_⟩;refine a8 (fun e6=>?_) (fun e6=>?_)
  ·have e6:p.now-m=0:=by simpa using e6
   have S1:=S.tU (p':={ p with now:=p.now-m,used:=p.used+m }) (u:=.ins T.c.Piece da (pF { p with now:=p.now-m,used:=p.used+m } z)) hp ha rfl ⟨da,z,hz,rfl⟩ (pX S.rd.ok hp rfl rfl hin (S.rd.ok.gone p (List.mem_of_getElem? hp))) T.bf T.br;have hp1:({ s with pieces:=s.pieces.set i { p with now:=p.now-m,used:=p.used+m } }:Vbexam.St).pieces[i]?=some { p with now:=p.now-m,used:=p.used+m }:=List.getElem?_set_self hi;obtain⟨dx1,hS1⟩:=S1.rd.st;refine⟨_,rfl,x.S,dx1,_,rfl,hS1,rfl,_,rfl,x,_,i,_,a,rfl,S1,hp1,ha,fun u S2=>?_⟩;have S2:ax T.c (upd (upd H a (.ins T.c.Piece da (pF { p with now:=p.now-m,used:=p.used+m } z))) a u) x { s with pieces:=(s.pieces.set i { p with now:=p.now-m,used:=p.used+m }).set i (gZ { s with pieces:=s.pieces.set i { p with now:=p.now-m,used:=p.used+m } } { p with now:=p.now-m,used:=p.used+m }) }:=S2;rw[List.set_set,b8] at S2;have eg:gZ { s with pieces:=s.pieces.set i { p with now:=p.now-m,used:=p.used+m } } { p with now:=p.now-m,used:=p.used+m } = { p with now:=p.now-m,used:=p.used+m,gone:=p.now-m == 0,holder:=Vbexam.holderOf s p,box:=if p.now-m=0 then 0 else p.box }:=by
    unfold gZ loose;rw[Wf.t7 (s:=s) (p:=p) rfl rfl rfl,e6];rfl
   rw[eg] at S2;rw[b8];have hp2:({ s with pieces:=s.pieces.set i { p with now:=p.now-m,used:=p.used+m,gone:=p.now-m == 0,holder:=Vbexam.holderOf s p,box:=if p.now-m=0 then 0 else p.box } }:Vbexam.St).pieces[i]?=some { p with now:=p.now-m,used:=p.used+m,gone:=p.now-m == 0,holder:=Vbexam.holderOf s p,box:=if p.now-m=0 then 0 else p.box }:=List.getElem?_set_self hi;obtain⟨da2,z2,_,hA2⟩:=S2.rd.ps i _ a hp2 ha;exact⟨_,rfl,a,T.c.Piece,da2,_,_,rfl,hA2,T.aD,T.bz,rfl,bI,fun l hl=>po.done S (ax.vY ha S2) hl rfl⟩
  ·have e6:¬ p.now-m=0:=by
    intro q;rw[q] at e6;exact e6 (decide_eq_true rfl)
   have S2:=S.tU (p':={ p with now:=p.now-m,used:=p.used+m,gone:=p.now-m == 0,holder:=Vbexam.holderOf s p,box:=if p.now-m=0 then 0 else p.box }) (u:=.ins T.c.Piece da (pF { p with now:=p.now-m,used:=p.used+m } z)) hp ha rfl ⟨da,z,fun hb=>(by
     have hb:(if p.now-m=0 then 0 else p.box)=0:=hb;rw[if_neg e6] at hb;show z=(Vbexam.holderOf s p:Int);unfold Vbexam.holderOf;rw[if_pos hb];exact hz hb),(by
     congr 1;unfold pF;rw[if_neg e6,hgo];have:(p.now-m == 0)=false:=by simpa using e6
     rw[this];rfl)⟩ (pX S.rd.ok hp rfl rfl (by
     show(if p.now-m=0 then 0 else p.box)≤_;rw[if_neg e6];exact hin) (fun hg'=>by
     have hg':(p.now-m == 0)=true:=hg';exact absurd (by simpa using hg') e6)) T.bf T.br
   exact⟨_,rfl,a,T.c.Piece,da,_,_,rfl,ah,T.aD,T.bz,rfl,bI,fun l hl=>po.done S (ax.vY ha S2) hl rfl⟩
def ami (c:Cs):Sp:=fun vs H Q _=>∃ (x:Ix) (s:Vbexam.St) (g:Addr) (n:Nat) (p:Vbexam.Piece),vs = [.ref x.S,.ref g]∧ax c H x s∧H g=some (.dK (gv [("n",(n:Int))]))∧g ∉ foot x∧Vbexam.piece s n=some p∧p.gone=false ∧
 eR c H x (Vbexam.act s (.lose n)) Q
theorem akH:aP P w K mg base CX0 6 T.md.f T.md.fd ["store", "given"] (ami T.c):=by
 refine T.md.F.ok acu (fun vs H Q E h=>?_) (fun cdv A outer s₀ H vs Q E hr h=>?_)
 ·obtain⟨x,s,g,n,p,rfl,_⟩:=h;rfl
 ·obtain⟨x,s,g,n,p,rfl,S,hg,hgf,hpn,hgo,po⟩:=h;have hu:=bX hr;refine⟨_,ab (aJ (i:=2) acu.nd rfl (Or.inl rfl) (aF hu (au (pv 0) rfl) (aF hu (pv 1) aW (fun _ _=>rfl)) (fun _ _=>rfl)))
   (ab (aJ (i:=3) acu.nd rfl (Or.inl rfl) (au (pv 2) rfl))
   (ab (lC (pv 2) (pv 3) abg)
   (ab (bC (pv 2) aw rfl)
   (ab (dZ (bj (pv 0) T.aq T.kc (oB T) hr T.du.b .nil aE (aa (pv 2) af)))
   (ai (ak (aS (aa (pv 3) af)))))))),?_⟩
  obtain⟨dx,hS⟩:=S.rd.st;obtain⟨i,a,hp,ha,⟨da,z,hz,hA⟩,hv⟩:=S.rd.piece hpn;have hi:=(List.getElem?_eq_some_iff.mp hp).1;have hin:=S.rd.ok.inb p (List.mem_of_getElem? hp);have act:Vbexam.act s (.lose n)=(Vbexam.setPiece s p.label fun x=>{ x with lost:=x.lost+x.now,now:=0,gone:=true,holder:=Vbexam.holderOf s p,box:=0 },[(p.now:Int)]):=fX hpn hgo;rw[act,gK S.rd.ok hp] at po;refine⟨_,rfl,x.S,T.c.aI,dx,_,_,rfl,hS,T.aq,T.aO,rfl,_,rfl,g,_,rfl,bW hg rfl,x.dP,_,rfl,S.rd.o4 hv,?_⟩;refine⟨_,rfl,a,T.c.Piece,da,_,_,rfl,hA,T.aD,T.bz,rfl,?_⟩;refine⟨_,rfl,a,T.c.Piece,da,_,_,rfl,hA,T.aD,T.dH,rfl,_,rfl,_,_,rfl,rfl,da,_,hA,(by show 10<1000;decide),?_⟩;refine⟨_,rfl,a,T.c.Piece,da,_,rfl,ah,T.aD,T.bz,(by show 10<1000;decide),?_⟩;rw[b8];have S1:=S.tU (p':={ p with lost:=p.lost+p.now,now:=0 }) (u:=.ins T.c.Piece da (pF { p with lost:=p.lost+p.now,now:=0 } z)) hp ha rfl ⟨da,z,hz,rfl⟩ (pX S.rd.ok hp rfl rfl hin (S.rd.ok.gone p (List.mem_of_getElem? hp))) T.bf T.br;have hp1:({ s with pieces:=s.pieces.set i { p with lost:=p.lost+p.now,now:=0 } }:Vbexam.St).pieces[i]?=some { p with lost:=p.lost+p.now,now:=0 }:=List.getElem?_set_self hi;obtain⟨dx1,hS1⟩:=S1.rd.st;refine⟨_,rfl,x.S,dx1,_,rfl,hS1,rfl,_,rfl,x,_,i,_,a,rfl,S1,hp1,ha,fun u S2=>?_⟩;have S2:ax T.c (upd (upd H a (.ins T.c.Piece da (pF { p with lost:=p.lost+p.now,now:=0 } z))) a u) x { s with pieces:=(s.pieces.set i { p with lost:=p.lost+p.now,now:=0 }).set i (gZ { s with pieces:=s.pieces.set i { p with lost:=p.lost+p.now,now:=0 } } { p with lost:=p.lost+p.now,now:=0 }) }:=S2;rw[List.set_set,b8] at S2;have eg:gZ { s with pieces:=s.pieces.set i { p with lost:=p.lost+p.now,now:=0 } } { p with lost:=p.lost+p.now,now:=0 } = { p with lost:=p.lost+p.now,now:=0,gone:=true,holder:=Vbexam.holderOf s p,box:=0 }:=by
   unfold gZ loose;rw[Wf.t7 (s:=s) (p:=p) rfl rfl rfl];rfl
  rw[eg] at S2;rw[b8];exact⟨_,rfl,bI,fun l hl=>po.done S (ax.vY ha S2) hl rfl⟩
def ajO (c:Cs):Sp:=fun vs H Q _=>∃ (x:Ix) (s:Vbexam.St) (g:Addr) (p:Nat),vs = [.ref x.S,.ref g]∧ax c H x s∧H g=some (.dK (gv [("p",(p:Int))]))∧g ∉ foot x∧eR c H x (Vbexam.act s (.newBox p)) Q
theorem alv {ba:List Addr}:(bk ba).length=ba.length:=by
 unfold bk;rw[List.length_map,List.length_zipIdx]
theorem afF:aP P w K mg base CX0 3 T.fJ.f T.fJ.fd ["store", "given"] (ajO T.c):=by
 refine T.fJ.F.ok zI (fun vs H Q E h=>?_) (fun cdv A outer s₀ H vs Q E hr h=>?_)
 ·obtain⟨x,s,g,p,rfl,_⟩:=h;rfl
 ·obtain⟨x,s,g,p,rfl,S,hg,hgf,po⟩:=h;have hu:=bX hr;obtain⟨u10,g10,r10⟩:=T.xQ;refine⟨_,ab (aY (aQ yY (a6 oq (by rfl) T.cU PySem.boot_len (aa (au (pv 0) rfl) af)) (cK rfl g10 r10) (aX _)) (ai (ak (aS (aa (bY bD aw) af)))) aL)
   (ab (aJ (i:=2) zI.nd rfl (Or.inl rfl) (fw yc (a6 oq (by rfl) T.cU PySem.boot_len (aa (au (pv 0) rfl) af)) aw))
   (ab (lB hu (au (pv 0) rfl) (pv 2) (y1 T.ue (afD T) hr rfl T.aj8 T.jN.b .nil aE (aa (aF hu (pv 1) aW (fun _ _=>rfl)) af)) rfl)
   (ai (ak (aS (aa (pv 2) af)))))),?_⟩
  obtain⟨dx,hS⟩:=S.rd.st;have hlen:(bk x.ba).length=s.boxes.length:=alv.trans S.rd.f9;have act:Vbexam.act s (.newBox p)=if Vbexam.BOXES≤s.boxes.length then (s,[-5]) else ({ s with boxes:=s.boxes++[{ holder:=p }] },[(s.boxes.length:Int)+1]):=rfl
  rw[act] at po;refine⟨_,rfl,x.S,T.c.aI,dx,_,_,rfl,hS,T.aq,T.aU,rfl,x.dB,_,rfl,S.eB,_,_,rfl,rfl,_,rfl,?_⟩;rw[hlen];refine a8 (fun q=>?_) (fun q=>?_)
  ·have q:Vbexam.BOXES≤s.boxes.length:=by
    have q:(10:Int)≤s.boxes.length:=by simpa using q
    show 10≤s.boxes.length;omega
   rw[if_pos q] at po;exact⟨_,rfl,bI,fun l hl=>po.done S (Step.refl S) hl rfl⟩
  have q:¬ Vbexam.BOXES≤s.boxes.length:=fun z=>q (by
   have z:10≤s.boxes.length:=z;simp;omega)
  rw[if_neg q] at po;refine⟨_,rfl,x.S,T.c.aI,dx,_,_,rfl,hS,T.aq,T.aU,rfl,x.dB,_,rfl,S.eB,_,_,rfl,rfl,?_⟩;rw[hlen];refine⟨_,rfl,g,_,rfl,bW hg rfl,?_⟩;intro a da ha hda nea;refine⟨a,da,_,rfl,ah,fun H1 h1 k1=>⟨rfl,?_⟩⟩;have sm:ao H H1:=ao.made ha hda k1;have en:((s.boxes.length+1:Nat):Int)=(s.boxes.length:Int)+1:=by omega
  have St:=S.anq sm (a:=a) (y:={ holder:=p }) ha ⟨da,h1⟩ (S.rd.ok.newBox (Nat.lt_of_not_le q) p);rw[en] at St;refine⟨_,rfl,x.S,T.c.aI,dx,_,_,rfl,sm _ _ hS,T.aq,T.aU,rfl,_,rfl,x.dB,_,rfl,mY.k (k:=Sum.inl ((s.boxes.length:Int)+1)) (sm _ _ S.eB) (bo (by rw[hlen];exact Nat.le_trans S.rd.ok.bx.few (by decide))),?_⟩;exact⟨_,rfl,bI,fun l hl=>po.done S St hl rfl⟩
def anf (c:Cs):Sp:=fun vs H Q _=>∃ (x:Ix) (s:Vbexam.St) (g:Addr) (n b:Nat) (p:Vbexam.Piece),vs = [.ref x.S,.ref g]∧ax c H x s∧H g=some (.dK (gv [("n",(n:Int)),("b",(b:Int))]))∧g ∉ foot x∧Vbexam.piece s n=some p∧p.gone=false∧1≤b∧b≤s.boxes.length ∧
 eR c H x (Vbexam.act s (.put n b)) Q
theorem alW:aP P w K mg base CX0 3 T.pQ.f T.pQ.fd ["store", "given"] (anf T.c):=by
 refine T.pQ.F.ok ae0 (fun vs H Q E h=>?_) (fun cdv A outer s₀ H vs Q E hr h=>?_)
 ·obtain⟨x,s,g,n,b,p,rfl,_⟩:=h;rfl
 ·obtain⟨x,s,g,n,b,p,rfl,S,hg,hgf,hpn,hgo,b1,b2,po⟩:=h;have hu:=bX hr;have hr1:bh 1 _:=hr.mono (by decide);refine⟨_,ab (aJ (i:=2) ae0.nd rfl (Or.inl rfl) (aF hu (au (pv 0) rfl) (aF hu (pv 1) aW (fun _ _=>rfl)) (fun _ _=>rfl)))
   (ab (aJ (i:=3) ae0.nd rfl (Or.inl rfl) (aF hu (pv 1) aW (fun _ _=>rfl)))
   (ab (aY (aQ fc (au (pv 2) rfl) aw (aX _)) (ai (ak (aS (aa (bY bD aw) af)))) aL)
   (ab (aY (fD (bJ (bj (pv 0) T.aq T.cW (de T) hr1 T.bL.b .nil aE (aa (pv 3) af)) (fun _=>rfl))) (ai (ak (aS (aa (bY bD aw) af)))) aL)
   (ab (aY (aQ fc (au (pv 2) rfl) (bj (pv 0) T.aq T.dX (eO T) hr T.bS.b .nil aE (aa (pv 3) af)) (aX _)) (ai (ak (aS (aa (bY bD aw) af)))) aL)
   (ab (bC (pv 2) (pv 3) rfl)
   (ai (ak (aS (aa aw af))))))))),?_⟩
  obtain⟨dx,hS⟩:=S.rd.st;obtain⟨i,a,hp,ha,⟨da,z,hz,hA⟩,hv⟩:=S.rd.piece hpn;have act:Vbexam.act s (.put n b)=if p.box≠0 then (s,[-4]) else if Vbexam.isOpen s b=false then (s,[-5]) else if Vbexam.holderOfBox s b≠p.holder then (s,[-6]) else (Vbexam.setPiece s p.label fun x=>{ x with box:=b },[0]):=
   (fX hpn hgo).trans (fW b2)
  rw[act] at po;refine⟨_,rfl,x.S,T.c.aI,dx,_,_,rfl,hS,T.aq,T.aO,rfl,_,rfl,g,_,rfl,bW hg rfl,x.dP,_,rfl,S.rd.o4 hv,?_⟩;refine⟨_,rfl,g,_,rfl,bW hg rfl,?_⟩;refine⟨_,rfl,a,T.c.Piece,da,_,_,rfl,hA,T.aD,T.bc,rfl,rfl,_,rfl,?_⟩;refine a8 (fun e=>?_) (fun e=>?_)
  ·have e:p.box≠0:=fun q=>by simp[q] at e
   rw[if_pos e] at po;exact⟨_,rfl,bI,fun l hl=>po.done S (Step.refl S) hl rfl⟩
  have e:p.box=0:=by simpa using e
  rw[if_neg (by simpa using e)] at po;refine⟨_,rfl,x.S,dx,_,rfl,hS,rfl,_,rfl,x,s,b,rfl,S.rd,b2,_,rfl,?_⟩;have eo:openAt s b=Vbexam.isOpen s b:=by
   unfold openAt;rw[show(b == 0)=false by simp;omega];rfl
  rw[eo];cases e1:Vbexam.isOpen s b with
  | false=>
   rw[if_pos e1] at po;refine cS ?_;exact⟨_,rfl,bI,fun l hl=>po.done S (Step.refl S) hl rfl⟩
  | true=>
  rw[if_neg (by rw[e1];decide)] at po;refine cR ?_;refine⟨_,rfl,a,T.c.Piece,da,_,_,rfl,hA,T.aD,T.bN,rfl,_,rfl,x.S,dx,_,rfl,hS,rfl,_,rfl,x,s,b,rfl,S.rd,b1,b2,rfl,_,rfl,?_⟩;rw[hz e];refine a8 (fun e2=>?_) (fun e2=>?_)
  ·have e2:Vbexam.holderOfBox s b≠p.holder:=fun q=>by simp[q] at e2
   rw[if_pos e2] at po;exact⟨_,rfl,bI,fun l hl=>po.done S (Step.refl S) hl rfl⟩
  have e2:Vbexam.holderOfBox s b=p.holder:=by
   have e2:(p.holder:Int)=Vbexam.holderOfBox s b:=by simpa using e2
   omega
  rw[if_neg (by simpa using e2),gK S.rd.ok hp] at po;refine⟨_,rfl,_,rfl,a,T.c.Piece,da,_,rfl,hA,T.aD,T.bc,(by show 10<1000;decide),?_⟩;have S1:=S.tU (p':={ p with box:=b }) (u:=.ins T.c.Piece da (pF { p with box:=b } z)) hp ha rfl ⟨da,z,fun q=>absurd (show b=0 from q) (by omega),rfl⟩ (pX S.rd.ok hp rfl rfl b2 (fun q=>by
   have q:p.gone=true:=q;rw[hgo] at q;cases q)) T.bf T.br
  exact⟨bI,fun l hl=>po.done S (ax.vY ha S1) hl rfl⟩
def ams (c:Cs):Sp:=fun vs H Q _=>∃ (x:Ix) (s:Vbexam.St) (g:Addr) (n:Nat) (p:Vbexam.Piece),vs = [.ref x.S,.ref g]∧ax c H x s∧H g=some (.dK (gv [("n",(n:Int))]))∧g ∉ foot x∧Vbexam.piece s n=some p∧p.gone=false ∧
 eR c H x (Vbexam.act s (.take n)) Q
theorem akJ:aP P w K mg base CX0 5 T.mf.f T.mf.fd ["store", "given"] (ams T.c):=by
 refine T.mf.F.ok agg (fun vs H Q E h=>?_) (fun cdv A outer s₀ H vs Q E hr h=>?_)
 ·obtain⟨x,s,g,n,p,rfl,_⟩:=h;rfl
 ·obtain⟨x,s,g,n,p,rfl,S,hg,hgf,hpn,hgo,po⟩:=h;have hu:=bX hr;have hr1:bh 1 _:=hr.mono (by decide);refine⟨_,ab (aJ (i:=2) agg.nd rfl (Or.inl rfl) (aF hu (au (pv 0) rfl) (aF hu (pv 1) aW (fun _ _=>rfl)) (fun _ _=>rfl)))
   (ab (aY (aQ iI (au (pv 2) rfl) aw (aX _)) (ai (ak (aS (aa (bY bD aw) af)))) aL)
   (ab (aY (fD (bJ (bj (pv 0) T.aq T.cW (de T) hr1 T.bL.b .nil aE (aa (au (pv 2) rfl) af)) (fun _=>rfl))) (ai (ak (aS (aa (bY bD aw) af)))) aL)
   (ab (dZ (bj (pv 0) T.aq T.jD (mW T) hr T.c8.b .nil aE (aa (pv 2) af)))
   (ai (ak (aS (aa (au (pv 2) rfl) af))))))),?_⟩
  obtain⟨dx,hS⟩:=S.rd.st;obtain⟨i,a,hp,ha,⟨da,z,hz,hA⟩,hv⟩:=S.rd.piece hpn;have hi:=(List.getElem?_eq_some_iff.mp hp).1;have hin:=S.rd.ok.inb p (List.mem_of_getElem? hp);have act:Vbexam.act s (.take n)=if p.box=0 then (s,[-4]) else if Vbexam.isOpen s p.box=false then (s,[-5]) else (Vbexam.setPiece s p.label fun x=>{ x with box:=0,holder:=Vbexam.holderOfBox s p.box },[(Vbexam.holderOfBox s p.box:Int)]):=fX hpn hgo
  rw[act] at po;refine⟨_,rfl,x.S,T.c.aI,dx,_,_,rfl,hS,T.aq,T.aO,rfl,_,rfl,g,_,rfl,bW hg rfl,x.dP,_,rfl,S.rd.o4 hv,?_⟩;refine⟨_,rfl,a,T.c.Piece,da,_,_,rfl,hA,T.aD,T.bc,rfl,rfl,_,rfl,?_⟩;refine a8 (fun e=>?_) (fun e=>?_)
  ·rw[if_pos (by simpa using e)] at po;exact⟨_,rfl,bI,fun l hl=>po.done S (Step.refl S) hl rfl⟩
  have e:¬ p.box=0:=by simpa using e
  rw[if_neg e] at po;refine⟨_,rfl,x.S,dx,_,rfl,hS,rfl,_,rfl,a,T.c.Piece,da,_,_,rfl,hA,T.aD,T.bc,rfl,x,s,p.box,rfl,S.rd,hin,_,rfl,?_⟩;have eo:openAt s p.box=Vbexam.isOpen s p.box:=by
   unfold openAt;rw[show(p.box == 0)=false by simpa using e];rfl
  rw[eo];cases e1:Vbexam.isOpen s p.box with
  | false=>
   rw[if_pos e1] at po;refine cS ?_;exact⟨_,rfl,bI,fun l hl=>po.done S (Step.refl S) hl rfl⟩
  | true=>
  rw[if_neg (by rw[e1];decide),gK S.rd.ok hp] at po;refine cR ?_;refine⟨_,rfl,x.S,dx,_,rfl,hS,rfl,_,rfl,x,_,i,_,a,rfl,S,hp,ha,fun u S2=>?_⟩;have eg:loose s p = { p with box:=0,holder:=Vbexam.holderOfBox s p.box }:=by
   unfold loose Vbexam.holderOf;rw[if_neg e]
  rw[eg] at S2;have hp2:({ s with pieces:=s.pieces.set i { p with box:=0,holder:=Vbexam.holderOfBox s p.box } }:Vbexam.St).pieces[i]?=some { p with box:=0,holder:=Vbexam.holderOfBox s p.box }:=List.getElem?_set_self hi;obtain⟨da2,z2,hz2,hA2⟩:=S2.rd.ps i _ a hp2 ha;refine⟨_,rfl,a,T.c.Piece,da2,_,_,rfl,hA2,T.aD,T.bN,rfl,bI,fun l hl=>po.done S (ax.vY ha S2) hl ?_⟩;rw[hz2 rfl];rfl
end
theorem pZ {s:Vbexam.St}{b:Nat}(h:1≤b):openAt s b=Vbexam.isOpen s b:=by
 unfold openAt;rw[show(b == 0)=false by simp;omega];rfl
section
variable {P:Program}{w:World}{K:PySem.W.Frag}{mg:Str→Option Value}{base:Heap}(T:Pg K mg)
def amk (c:Cs):Sp:=fun vs H Q _=>∃ (x:Ix) (s:Vbexam.St) (g:Addr) (b o:Nat),vs = [.ref x.S,.ref g]∧ax c H x s∧H g=some (.dK (gv [("b",(b:Int)),("o",(o:Int))]))∧g ∉ foot x∧1≤b∧b≤s.boxes.length∧1≤o∧o≤s.boxes.length ∧
 eR c H x (Vbexam.act s (.nest b o)) Q
theorem akI:aP P w K mg base CX0 3 T.me.f T.me.fd ["store", "given"] (amk T.c):=by
 refine T.me.F.ok y3 (fun vs H Q E h=>?_) (fun cdv A outer s₀ H vs Q E hr h=>?_)
 ·obtain⟨x,s,g,b,o,rfl,_⟩:=h;rfl
 ·obtain⟨x,s,g,b,o,rfl,S,hg,hgf,b1,b2,o1,o2,po⟩:=h;have hu:=bX hr;have hr1:bh 1 _:=hr.mono (by decide);refine⟨_,ab (aJ (i:=2) y3.nd rfl (Or.inl rfl) (aF hu (pv 1) aW (fun _ _=>rfl)))
   (ab (aJ (i:=3) y3.nd rfl (Or.inl rfl) (aF hu (pv 1) aW (fun _ _=>rfl)))
   (ab (aJ (i:=4) y3.nd rfl (Or.inl rfl) (aF hu (au (pv 0) rfl) (pv 2) (fun _ _=>rfl)))
   (ab (aY (aQ fc (au (pv 4) rfl) aw (aX _)) (ai (ak (aS (aa (bY bD aw) af)))) aL)
   (ab (aY (bJ (bj (pv 0) T.aq T.kb (oA T) hr1 T.dt.b .nil aE (aa (pv 3) (aa (pv 2) af))) (fun _=>rfl)) (ai (ak (aS (aa (bY bD aw) af)))) aL)
   (ab (aY (fD (bJ (bj (pv 0) T.aq T.cW (de T) hr1 T.bL.b .nil aE (aa (pv 3) af)) (fun _=>rfl))) (ai (ak (aS (aa (bY bD aw) af)))) aL)
   (ab (aY (aQ fc (au (pv 4) rfl) (bj (pv 0) T.aq T.dX (eO T) hr T.bS.b .nil aE (aa (pv 3) af)) (aX _)) (ai (ak (aS (aa (bY bD aw) af)))) aL)
   (ab (bC (pv 4) (pv 3) rfl)
   (ai (ak (aS (aa aw af))))))))))),?_⟩
  obtain⟨dx,hS⟩:=S.rd.st;obtain⟨a,ha,⟨da,hA⟩,hv⟩:=S.rd.box b1 b2;have act:Vbexam.act s (.nest b o)=if(Vbexam.box s b).inside≠0 then (s,[-4]) else if Vbexam.isIn s b o=true then (s,[-5]) else if Vbexam.isOpen s o=false then (s,[-6]) else if Vbexam.holderOfBox s o≠(Vbexam.box s b).holder then (s,[-7])
    else (Vbexam.setBox s b fun x=>{ x with inside:=o },[0]):=by
   rw[show Vbexam.act s (.nest b o)=Vbexam.ofBox s b (fun b=>Vbexam.ofBox s o fun o=>if(Vbexam.box s b).inside≠0 then (s,[-4]) else if Vbexam.isIn s b o=true then (s,[-5]) else if Vbexam.isOpen s o=false then (s,[-6]) else if Vbexam.holderOfBox s o≠(Vbexam.box s b).holder then (s,[-7])
    else (Vbexam.setBox s b fun x=>{ x with inside:=o },[0])) from rfl,fW b2,fW o2]
  rw[act] at po;refine⟨_,rfl,g,_,rfl,bW hg rfl,?_⟩;refine⟨_,rfl,g,_,rfl,bW hg rfl,?_⟩;refine⟨_,rfl,x.S,T.c.aI,dx,_,_,rfl,hS,T.aq,T.aU,rfl,_,rfl,x.dB,_,rfl,S.rd.j7 hv,?_⟩;refine⟨_,rfl,a,T.c.Box,da,_,_,rfl,hA,T.bP,T.bb,rfl,rfl,_,rfl,?_⟩;refine a8 (fun e=>?_) (fun e=>?_)
  ·have e:(Vbexam.box s b).inside≠0:=fun q=>by simp[q] at e
   rw[if_pos e] at po;exact⟨_,rfl,bI,fun l hl=>po.done S (Step.refl S) hl rfl⟩
  have e:(Vbexam.box s b).inside=0:=by simpa using e
  rw[if_neg (by simpa using e)] at po;refine⟨_,rfl,x.S,dx,_,rfl,hS,rfl,_,rfl,_,rfl,x,s,o,b,rfl,S.rd,o2,_,rfl,?_⟩;have ei:ni s b o=Vbexam.isIn s b o:=by
   unfold ni;rw[show(o != 0)=true by simp;omega];rfl
  rw[ei];cases e1:Vbexam.isIn s b o with
  | true=>
   rw[if_pos e1] at po;refine cS ?_;exact⟨_,rfl,bI,fun l hl=>po.done S (Step.refl S) hl rfl⟩
  | false=>
  rw[if_neg (by rw[e1];decide)] at po;refine cR ?_;refine⟨_,rfl,x.S,dx,_,rfl,hS,rfl,_,rfl,x,s,o,rfl,S.rd,o2,_,rfl,?_⟩;rw[pZ o1];cases e2:Vbexam.isOpen s o with
  | false=>
   rw[if_pos e2] at po;refine cS ?_;exact⟨_,rfl,bI,fun l hl=>po.done S (Step.refl S) hl rfl⟩
  | true=>
  rw[if_neg (by rw[e2];decide)] at po;refine cR ?_;refine⟨_,rfl,a,T.c.Box,da,_,_,rfl,hA,T.bP,T.cq,rfl,_,rfl,x.S,dx,_,rfl,hS,rfl,_,rfl,x,s,o,rfl,S.rd,o1,o2,rfl,_,rfl,?_⟩;refine a8 (fun e3=>?_) (fun e3=>?_)
  ·have e3:Vbexam.holderOfBox s o≠(Vbexam.box s b).holder:=fun q=>by simp[q] at e3
   rw[if_pos e3] at po;exact⟨_,rfl,bI,fun l hl=>po.done S (Step.refl S) hl rfl⟩
  have e3:Vbexam.holderOfBox s o=(Vbexam.box s b).holder:=by
   have e3:((Vbexam.box s b).holder:Int)=Vbexam.holderOfBox s o:=by simpa using e3
   omega
  have O2:=S.rd.ok.nest b1 b2 o1 o2 e e1;rw[if_neg (by simpa using e3),d3 b1 b2] at po;rw[d3 b1 b2] at O2;refine⟨_,rfl,_,rfl,a,T.c.Box,da,_,rfl,hA,T.bP,T.bb,(by show 4<1000;decide),?_⟩;have S1:=S.setB (u:=.ins T.c.Box da (bF { Vbexam.box s b with inside:=o })) ha ⟨da,rfl⟩ O2 T.bf T.cG;exact⟨bI,fun l hl=>po.done S (ax.y6 ha S1) hl rfl⟩
def anQ (c:Cs) (mk:Int→Vbexam.Call):Sp:=fun vs H Q _=>∃ (x:Ix) (s:Vbexam.St) (g:Addr) (b:Nat),vs = [.ref x.S,.ref g]∧ax c H x s∧H g=some (.dK (gv [("b",(b:Int))]))∧g ∉ foot x∧1≤b∧b≤s.boxes.length ∧
 eR c H x (Vbexam.act s (mk b)) Q
theorem aii:aP P w K mg base CX0 3 T.ip.f T.ip.fd ["store", "given"] (anQ T.c .unnest):=by
 refine T.ip.F.ok ac2 (fun vs H Q E h=>?_) (fun cdv A outer s₀ H vs Q E hr h=>?_)
 ·obtain⟨x,s,g,b,rfl,_⟩:=h;rfl
 ·obtain⟨x,s,g,b,rfl,S,hg,hgf,b1,b2,po⟩:=h;have hu:=bX hr;have hr1:bh 1 _:=hr.mono (by decide);refine⟨_,ab (aJ (i:=2) ac2.nd rfl (Or.inl rfl) (aF hu (au (pv 0) rfl) (aF hu (pv 1) aW (fun _ _=>rfl)) (fun _ _=>rfl)))
   (ab (aY (aQ iI (au (pv 2) rfl) aw (aX _)) (ai (ak (aS (aa (bY bD aw) af)))) aL)
   (ab (aY (fD (bJ (bj (pv 0) T.aq T.cW (de T) hr1 T.bL.b .nil aE (aa (au (pv 2) rfl) af)) (fun _=>rfl))) (ai (ak (aS (aa (bY bD aw) af)))) aL)
   (ab (bC (pv 2) (bj (pv 0) T.aq T.dX (eO T) hr T.bS.b .nil aE (aa (au (pv 2) rfl) af)) rfl)
   (ab (bC (pv 2) aw rfl)
   (ai (ak (aS (aa (au (pv 2) rfl) af)))))))),?_⟩
  obtain⟨dx,hS⟩:=S.rd.st;obtain⟨a,ha,⟨da,hA⟩,hv⟩:=S.rd.box b1 b2;have act:Vbexam.act s (.unnest b)=if(Vbexam.box s b).inside=0 then (s,[-4]) else if Vbexam.isOpen s (Vbexam.box s b).inside=false then (s,[-5]) else (Vbexam.setBox s b fun x=>{ x with inside:=0,holder:=Vbexam.holderOfBox s b },[(Vbexam.holderOfBox s b:Int)]):=by
   rw[show Vbexam.act s (.unnest b)=Vbexam.ofBox s b (fun b=>if(Vbexam.box s b).inside=0 then (s,[-4]) else if Vbexam.isOpen s (Vbexam.box s b).inside=false then (s,[-5]) else (Vbexam.setBox s b fun x=>{ x with inside:=0,holder:=Vbexam.holderOfBox s b },[(Vbexam.holderOfBox s b:Int)])) from rfl,fW b2]
  rw[act] at po;have hin:=S.rd.ok.bx.ins b b1 b2;refine⟨_,rfl,x.S,T.c.aI,dx,_,_,rfl,hS,T.aq,T.aU,rfl,_,rfl,g,_,rfl,bW hg rfl,x.dB,_,rfl,S.rd.j7 hv,?_⟩;refine⟨_,rfl,a,T.c.Box,da,_,_,rfl,hA,T.bP,T.bb,rfl,rfl,_,rfl,?_⟩;refine a8 (fun e=>?_) (fun e=>?_)
  ·rw[if_pos (by simpa using e)] at po;exact⟨_,rfl,bI,fun l hl=>po.done S (Step.refl S) hl rfl⟩
  have e:¬ (Vbexam.box s b).inside=0:=by simpa using e
  rw[if_neg e] at po;refine⟨_,rfl,x.S,dx,_,rfl,hS,rfl,_,rfl,a,T.c.Box,da,_,_,rfl,hA,T.bP,T.bb,rfl,x,s,_,rfl,S.rd,hin,_,rfl,?_⟩;rw[pZ (Nat.pos_of_ne_zero e)];cases e1:Vbexam.isOpen s (Vbexam.box s b).inside with
  | false=>
   rw[if_pos e1] at po;refine cS ?_;exact⟨_,rfl,bI,fun l hl=>po.done S (Step.refl S) hl rfl⟩
  | true=>
  have O2:=S.rd.ok.unnest (h:=Vbexam.holderOfBox s b) b1 b2;rw[if_neg (by rw[e1];decide),d3 b1 b2] at po;rw[d3 b1 b2] at O2;refine cR ?_;refine⟨_,rfl,x.S,dx,_,rfl,hS,rfl,_,rfl,a,T.c.Box,da,_,_,rfl,hA,T.bP,T.bb,rfl,x,s,_,rfl,S.rd,Nat.pos_of_ne_zero e,hin,_,rfl,a,T.c.Box,da,_,rfl,hA,T.bP,T.cq,(by show 4<1000;decide),?_⟩;refine⟨_,rfl,a,T.c.Box,da,_,rfl,ah,T.bP,T.bb,(by show 4<1000;decide),?_⟩;rw[b8];dsimp only;rw[← Bx.afy S.rd.ok.bx b1 b2 e];have S1:=S.setB (u:=.ins T.c.Box da (bF { Vbexam.box s b with inside:=0,holder:=Vbexam.holderOfBox s b })) ha ⟨da,rfl⟩ O2 T.bf T.cG;exact⟨_,rfl,a,T.c.Box,da,_,_,rfl,ah,T.bP,T.cq,rfl,bI,fun l hl=>po.done S (ax.y6 ha S1) hl rfl⟩
def aiC (c:Cs) (mk:Int→Int→Vbexam.Call):Sp:=fun vs H Q _=>∃ (x:Ix) (s:Vbexam.St) (g:Addr) (b m:Nat),vs = [.ref x.S,.ref g]∧ax c H x s∧H g=some (.dK (gv [("b",(b:Int)),("mark",(m:Int))]))∧g ∉ foot x∧1≤b∧b≤s.boxes.length ∧
 eR c H x (Vbexam.act s (mk b m)) Q
theorem afI:aP P w K mg base CX0 2 T.fL.f T.fL.fd ["store", "given"] (aiC T.c .lock):=by
 refine T.fL.F.ok zK (fun vs H Q E h=>?_) (fun cdv A outer s₀ H vs Q E hr h=>?_)
 ·obtain⟨x,s,g,b,m,rfl,_⟩:=h;rfl
 ·obtain⟨x,s,g,b,m,rfl,S,hg,hgf,b1,b2,po⟩:=h;have hu:=bX hr;refine⟨_,ab (aY (fD (bJ (bj (pv 0) T.aq T.cW (de T) hr T.bL.b .nil aE (aa (aF hu (pv 1) aW (fun _ _=>rfl)) af)) (fun _=>rfl))) (ai (ak (aS (aa (bY bD aw) af)))) aL)
   (ab (aJ (i:=2) zK.nd rfl (Or.inl rfl) (aF hu (au (pv 0) rfl) (aF hu (pv 1) aW (fun _ _=>rfl)) (fun _ _=>rfl)))
   (ab (bC (pv 2) (aF hu (pv 1) aW (fun _ _=>rfl)) rfl)
   (ai (ak (aS (aa aw af)))))),?_⟩
  obtain⟨dx,hS⟩:=S.rd.st;obtain⟨a,ha,⟨da,hA⟩,hv⟩:=S.rd.box b1 b2;have act:Vbexam.act s (.lock b m)=if Vbexam.isOpen s b=false then (s,[-4]) else (Vbexam.setBox s b fun x=>{ x with wax:=m },[0]):=by
   rw[show Vbexam.act s (.lock b m)=Vbexam.ofBox s b (fun b=>if Vbexam.isOpen s b=false then (s,[-4]) else (Vbexam.setBox s b fun x=>{ x with wax:=m },[0])) from rfl,fW b2]
  rw[act] at po;refine⟨_,rfl,x.S,dx,_,rfl,hS,rfl,_,rfl,g,_,rfl,bW hg rfl,x,s,b,rfl,S.rd,b2,_,rfl,?_⟩;rw[pZ b1];cases e1:Vbexam.isOpen s b with
  | false=>
   rw[if_pos e1] at po;refine cS ?_;exact⟨_,rfl,bI,fun l hl=>po.done S (Step.refl S) hl rfl⟩
  | true=>
  have O2:=S.rd.ok.setBox (f:=fun x=>{ x with wax:=m }) b1 b2 (fun _=>rfl);rw[if_neg (by rw[e1];decide),d3 b1 b2] at po;rw[d3 b1 b2] at O2;refine cR ?_;refine⟨_,rfl,x.S,T.c.aI,dx,_,_,rfl,hS,T.aq,T.aU,rfl,_,rfl,g,_,rfl,bW hg rfl,x.dB,_,rfl,S.rd.j7 hv,?_⟩;refine⟨_,rfl,g,_,rfl,bW hg rfl,_,rfl,a,T.c.Box,da,_,rfl,hA,T.bP,T.dh,(by show 4<1000;decide),?_⟩;have S1:=S.setB (u:=.ins T.c.Box da (bF { Vbexam.box s b with wax:=m })) ha ⟨da,rfl⟩ O2 T.bf T.cG;exact⟨bI,fun l hl=>po.done S (ax.y6 ha S1) hl rfl⟩
theorem afG:aP P w K mg base CX0 2 T.fK.f T.fK.fd ["store", "given"] (aiC T.c .open_):=by
 refine T.fK.F.ok zJ (fun vs H Q E h=>?_) (fun cdv A outer s₀ H vs Q E hr h=>?_)
 ·obtain⟨x,s,g,b,m,rfl,_⟩:=h;rfl
 ·obtain⟨x,s,g,b,m,rfl,S,hg,hgf,b1,b2,po⟩:=h;have hu:=bX hr;refine⟨_,ab (aJ (i:=2) zJ.nd rfl (Or.inl rfl) (aF hu (au (pv 0) rfl) (aF hu (pv 1) aW (fun _ _=>rfl)) (fun _ _=>rfl)))
   (ab (aY (aQ iI (au (pv 2) rfl) aw (aX _)) (ai (ak (aS (aa (bY bD aw) af)))) aL)
   (ab (aY (fD (bJ (bj (pv 0) T.aq T.cW (de T) hr T.bL.b .nil aE (aa (au (pv 2) rfl) af)) (fun _=>rfl))) (ai (ak (aS (aa (bY bD aw) af)))) aL)
   (ab (aY (aQ fc (au (pv 2) rfl) (aF hu (pv 1) aW (fun _ _=>rfl)) (aX _)) (ai (ak (aS (aa (bY bD aw) af)))) aL)
   (ab (bC (pv 2) aw rfl)
   (ai (ak (aS (aa aw af)))))))),?_⟩
  obtain⟨dx,hS⟩:=S.rd.st;obtain⟨a,ha,⟨da,hA⟩,hv⟩:=S.rd.box b1 b2;have act:Vbexam.act s (.open_ b m)=if(Vbexam.box s b).wax=0 then (s,[-4]) else if(Vbexam.box s b).inside≠0∧Vbexam.isOpen s (Vbexam.box s b).inside=false then (s,[-5]) else if((Vbexam.box s b).wax:Int)≠m then (s,[-6]) else (Vbexam.setBox s b fun x=>{ x with wax:=0 },[0]):=by
   rw[show Vbexam.act s (.open_ b m)=Vbexam.ofBox s b (fun b=>if(Vbexam.box s b).wax=0 then (s,[-4]) else if(Vbexam.box s b).inside≠0∧Vbexam.isOpen s (Vbexam.box s b).inside=false then (s,[-5]) else if((Vbexam.box s b).wax:Int)≠m then (s,[-6]) else (Vbexam.setBox s b fun x=>{ x with wax:=0 },[0])) from rfl,fW b2]
  rw[act] at po;have hin:=S.rd.ok.bx.ins b b1 b2;refine⟨_,rfl,x.S,T.c.aI,dx,_,_,rfl,hS,T.aq,T.aU,rfl,_,rfl,g,_,rfl,bW hg rfl,x.dB,_,rfl,S.rd.j7 hv,?_⟩;refine⟨_,rfl,a,T.c.Box,da,_,_,rfl,hA,T.bP,T.dh,rfl,rfl,_,rfl,?_⟩;refine a8 (fun e=>?_) (fun e=>?_)
  ·rw[if_pos (by simpa using e)] at po;exact⟨_,rfl,bI,fun l hl=>po.done S (Step.refl S) hl rfl⟩
  have e:¬ (Vbexam.box s b).wax=0:=by simpa using e
  rw[if_neg e] at po;refine⟨_,rfl,x.S,dx,_,rfl,hS,rfl,_,rfl,a,T.c.Box,da,_,_,rfl,hA,T.bP,T.bb,rfl,x,s,_,rfl,S.rd,hin,_,rfl,?_⟩;cases e1:openAt s (Vbexam.box s b).inside with
  | false=>
   have e1:(Vbexam.box s b).inside≠0∧Vbexam.isOpen s (Vbexam.box s b).inside=false:=by
    unfold openAt at e1;simpa using e1
   rw[if_pos e1] at po;refine cS ?_;exact⟨_,rfl,bI,fun l hl=>po.done S (Step.refl S) hl rfl⟩
  | true=>
  have e1:¬ ((Vbexam.box s b).inside≠0∧Vbexam.isOpen s (Vbexam.box s b).inside=false):=by
   rintro⟨q1,q2⟩;unfold openAt at e1;simp[q1,q2] at e1
  rw[if_neg e1] at po;refine cR ?_;refine⟨_,rfl,a,T.c.Box,da,_,_,rfl,hA,T.bP,T.dh,rfl,_,rfl,g,_,rfl,bW hg rfl,rfl,_,rfl,?_⟩;refine a8 (fun e2=>?_) (fun e2=>?_)
  ·rw[if_pos (by simpa using e2)] at po;exact⟨_,rfl,bI,fun l hl=>po.done S (Step.refl S) hl rfl⟩
  have O2:=S.rd.ok.setBox (f:=fun x=>{ x with wax:=0 }) b1 b2 (fun _=>rfl);rw[if_neg (by simpa using e2),d3 b1 b2] at po;rw[d3 b1 b2] at O2;refine⟨_,rfl,a,T.c.Box,da,_,rfl,hA,T.bP,T.dh,(by show 4<1000;decide),?_⟩;have S1:=S.setB (u:=.ins T.c.Box da (bF { Vbexam.box s b with wax:=0 })) ha ⟨da,rfl⟩ O2 T.bf T.cG;exact⟨bI,fun l hl=>po.done S (ax.y6 ha S1) hl rfl⟩
end
def refusal (s:Vbexam.St) (around:Nat) (holder:Int) (p q:Nat):Int:=if around≠0 then -4 else if holder≠p∨(p:Int)=q then -5 else if 200≤s.hands.length then -6 else 0
def aiG (c:Cs):Sp:=fun vs H Q _=>∃ (x:Ix) (s:Vbexam.St) (g:Addr) (gs:List (Str×Int)) (around:Nat) (holder:Int) (p q:Nat),vs = [.ref x.S,.int around,.int holder,.ref g]∧a7 c H x s∧H g=some (.dK (gv gs))∧bg (gv gs) (Sum.inr "p")=some (.int p)∧bg (gv gs) (Sum.inr "q")=some (.int q) ∧
 Q (.int (refusal s around holder p q)) H
section
variable {P:Program}{w:World}{K:PySem.W.Frag}{mg:Str→Option Value}{base:Heap}(T:Pg K mg)
theorem oC:aP P w K mg base CX0 1 T.cj.f T.cj.fd ["store", "around", "holder", "given"] (aiG T.c):=by
 refine T.cj.F.ok yE (fun vs H Q E h=>?_) (fun cdv A outer s₀ H vs Q E hr h=>?_)
 ·obtain⟨x,s,g,gs,ar,ho,p,q,rfl,_⟩:=h;rfl
 ·obtain⟨x,s,g,gs,ar,ho,p,q,rfl,S,hg,vp,vq,k⟩:=h;have hu:=bX hr;obtain⟨u200,g200,r200⟩:=T.sd;refine⟨_,ab (aY (aQ fc (pv 1) aw (aX _)) (ai (ak (bY bD aw))) aL)
   (ab (aY (ahc (aQ fc (pv 2) (aF hu (pv 3) aW (fun _ _=>rfl)) (aX _)) (aeO (aQ iI (aF hu (pv 3) aW (fun _ _=>rfl)) (aF hu (pv 3) aW (fun _ _=>rfl)) (aX _)))).pt (ai (ak (bY bD aw))) aL)
   (ab (aY (aQ yY (a6 bB (by rfl) T.cU PySem.boot_len (aa (au (pv 0) rfl) af)) (cK rfl g200 r200) (aX _)) (ai (ak (bY bD aw))) aL)
   (ai (ak aw)))),?_⟩
  obtain⟨dx,hS⟩:=S.st;unfold refusal at k;refine⟨_,rfl,rfl,_,rfl,?_⟩;refine a8 (fun e=>?_) (fun e=>?_)
  ·have e:ar≠0:=fun q=>by simp[q] at e
   rw[if_pos e] at k;exact⟨_,rfl,k⟩
  have e:ar=0:=by simpa using e
  rw[if_neg (by simpa using e)] at k;refine⟨_,rfl,_,rfl,g,_,rfl,bW hg vp,rfl,_,rfl,?_⟩;have rest:¬ (ho≠p∨(p:Int)=q)→amC (amy (qb (tOp (rI0 fun i j=>V.bl (decide (j≤i))) (tCB (fun xs H Q=>∃ p ys,xs = [V.ref p]∧(SqL K H p ys∨SqT K H p ys)∧Q (V.int ys.length) H) (fP (yH K (bG 0) "handings") kn)) (tC (.int 200)))) (ajW (tUn (rU fun i=>V.int (-i)) (tC (.int 6)))) akg) (ajW (tC (.int 0))) { nx:=fun _ H'=>Q .non H',rt:=Q } [some (.ref x.S),some (.int ar),some (.int ho),some (.ref g)] H:=fun hn=>by
   rw[if_neg hn] at k;refine⟨_,rfl,x.S,T.c.aI,dx,_,_,rfl,hS,T.aq,T.ck,rfl,x.lH,_,rfl,.inl (SqL.of S.lH),_,_,rfl,rfl,_,rfl,?_⟩;rw[S.hlen];refine a8 (fun e3=>?_) (fun e3=>?_)
   ·rw[if_pos (by have e3:(200:Int)≤s.hands.length:=(by simpa using e3);omega)] at k;exact⟨_,rfl,k⟩
   ·rw[if_neg (fun z=>e3 (by simp;omega))] at k;exact k
  refine a8 (fun e2=>?_) (fun e2=>?_)
  ·have e2:ho≠p:=by simpa using e2
   refine cS ?_;rw[if_pos (Or.inl e2)] at k;exact⟨_,rfl,k⟩
  ·have e2:ho=p:=by simpa using e2
   refine⟨_,rfl,g,_,rfl,bW hg vp,_,rfl,g,_,rfl,bW hg vq,rfl,_,rfl,?_⟩;refine a8 (fun e3=>?_) (fun e3=>?_)
   ·have e3:(p:Int)=q:=by simpa using e3
    rw[if_pos (Or.inr e3)] at k;exact⟨_,rfl,k⟩
   ·have e3:¬ (p:Int)=q:=by simpa using e3
    exact rest fun z=>z.elim (fun z=>z e2) e3
theorem yt {s:Vbexam.St}{ar:Nat}{ho:Int}{p q:Nat}(h:refusal s ar ho p q=0):ar=0∧ho=p∧¬ (p:Int)=q∧s.hands.length<200:=by
 unfold refusal at h;by_cases h1:ar≠0
 ·rw[if_pos h1] at h;omega
 ·rw[if_neg h1] at h;by_cases h2:ho≠p∨(p:Int)=q
  ·rw[if_pos h2] at h;omega
  ·rw[if_neg h2] at h;by_cases h3:200≤s.hands.length
   ·rw[if_pos h3] at h;omega
   ·refine⟨by omega,Classical.byContradiction fun z=>h2 (.inl z),fun z=>h2 (.inr z),by omega⟩
def amh (c:Cs):Sp:=fun vs H Q _=>∃ (x:Ix) (s:Vbexam.St) (g:Addr) (n p q:Nat) (y:Vbexam.Piece),vs = [.ref x.S,.ref g]∧ax c H x s∧H g=some (.dK (gv [("n",(n:Int)),("p",(p:Int)),("q",(q:Int))]))∧g ∉ foot x∧Vbexam.piece s n=some y∧y.gone=false ∧
 eR c H x (Vbexam.act s (.handPiece n p q)) Q
theorem akG:aP P w K mg base CX0 2 T.ma.f T.ma.fd ["store", "given"] (amh T.c):=by
 refine T.ma.F.ok acs (fun vs H Q E h=>?_) (fun cdv A outer s₀ H vs Q E hr h=>?_)
 ·obtain⟨x,s,g,n,p,q,y,rfl,_⟩:=h;rfl
 ·obtain⟨x,s,g,n,p,q,y,rfl,S,hg,hgf,hpn,hgo,po⟩:=h;have hu:=bX hr;refine⟨_,ab (aJ (i:=2) acs.nd rfl (Or.inl rfl) (aF hu (au (pv 0) rfl) (aF hu (pv 1) aW (fun _ _=>rfl)) (fun _ _=>rfl)))
   (ab (aJ (i:=3) acs.nd rfl (Or.inl rfl) (aK (oC T) hr rfl T.j6 T.cj.F.kp T.cj.b .nil aE (aa (pv 0) (aa (au (pv 2) rfl) (aa (au (pv 2) rfl) (aa (pv 1) af))))))
   (ab (aY (aQ fc (pv 3) aw (aX _)) (ai (ak (aS (aa (pv 3) af)))) aL)
   (ab (bC (pv 2) (aF hu (pv 1) aW (fun _ _=>rfl)) rfl)
   (ab (dZ (bj (pv 0) T.aq T.iF (lz T) hr T.cB.b .nil aE (aa (aF hu (pv 1) aW (fun _ _=>rfl)) (aa (aF hu (pv 1) aW (fun _ _=>rfl)) (aa (aS (aa (au (pv 2) rfl) af)) af)))))
   (ai (ak (aS (aa aw af)))))))),?_⟩
  obtain⟨dx,hS⟩:=S.rd.st;obtain⟨i,a,hp,ha,⟨da,z,hz,hA⟩,hv⟩:=S.rd.piece hpn;have hi:=(List.getElem?_eq_some_iff.mp hp).1;have act:Vbexam.act s (.handPiece n p q)=if y.box≠0 then (s,[-4]) else if(y.holder:Int)≠p∨(p:Int)=q then (s,[-5]) else if Vbexam.HANDS≤s.hands.length then (s,[-6])
    else ({ Vbexam.setPiece s y.label (fun y=>{ y with holder:=q }) with hands:=s.hands++[{ time:=s.time,giver:=p,taker:=q,labels:=[y.label] }] },[0]):=fX hpn hgo
  rw[act] at po;refine⟨_,rfl,x.S,T.c.aI,dx,_,_,rfl,hS,T.aq,T.aO,rfl,_,rfl,g,_,rfl,bW hg rfl,x.dP,_,rfl,S.rd.o4 hv,?_⟩;refine⟨_,rfl,_,rfl,a,T.c.Piece,da,_,_,rfl,hA,T.aD,T.bc,rfl,_,rfl,a,T.c.Piece,da,_,_,rfl,hA,T.aD,T.bN,rfl,_,rfl,x,s,g,_,y.box,z,p,q,rfl,S.rd,hg,rfl,rfl,?_⟩;refine⟨_,rfl,rfl,_,rfl,?_⟩;refine a8 (fun e=>?_) (fun e=>?_)
  ·have e:refusal s y.box z p q≠0:=fun w=>by simp[w] at e
   refine⟨_,rfl,bI,fun l hl=>?_⟩;have er:(if y.box≠0 then (s,[-4]) else if(y.holder:Int)≠p∨(p:Int)=q then (s,[-5]) else if Vbexam.HANDS≤s.hands.length then (s,[-6])
    else ({ Vbexam.setPiece s y.label (fun y=>{ y with holder:=q }) with hands:=s.hands++[{ time:=s.time,giver:=p,taker:=q,labels:=[y.label] }] },[0]))=((s,[refusal s y.box z p q]):Vbexam.St×List Int):=by
    unfold refusal at e ⊢;by_cases h1:y.box≠0
    ·rw[if_pos h1,if_pos h1]
    ·rw[if_neg h1] at e ⊢;rw[if_neg h1];rw[hz (by omega)] at e ⊢;by_cases h2:(y.holder:Int)≠p∨(p:Int)=q
     ·rw[if_pos h2,if_pos h2]
     ·rw[if_neg h2] at e ⊢;rw[if_neg h2];by_cases h3:200≤s.hands.length
      ·rw[if_pos h3,if_pos (show Vbexam.HANDS≤_ from h3)]
      ·rw[if_neg h3] at e;exact absurd rfl e
   rw[er] at po;exact po.done S (Step.refl S) hl rfl
  have e:refusal s y.box z p q=0:=by simpa using e
  obtain⟨r1,r2,r3,r4⟩:=yt e;rw[if_neg (by simpa using r1),if_neg (by rw[← hz r1,r2];simp;omega),if_neg (show ¬ Vbexam.HANDS≤s.hands.length from by show ¬ 200≤_;omega)] at po;have es:=gK S.rd.ok hp (fun y=>{ y with holder:=q });refine⟨_,rfl,g,_,rfl,bW (z:=(q:Int)) hg rfl,_,rfl,a,T.c.Piece,da,_,rfl,hA,T.aD,T.bN,(by show 10<1000;decide),?_⟩;have hH1:upd H a (.ins T.c.Piece da (eV "holder" (V.int q) (pF y z)))=upd H a (.ins T.c.Piece da (pF { y with holder:=q } q)):=rfl;rw[hH1];have S1:=S.tU (p':={ y with holder:=q }) (u:=.ins T.c.Piece da (pF { y with holder:=q } q)) hp ha rfl ⟨da,q,fun _=>rfl,rfl⟩ (pX S.rd.ok hp rfl rfl (S.rd.ok.inb y (List.mem_of_getElem? hp)) (S.rd.ok.gone y (List.mem_of_getElem? hp))) T.bf T.br;rw[← es] at S1;have St1:=ax.vY ha S1;have nga:g≠a:=cp hg hA (by intro q;cases q);obtain⟨dx1,hS1⟩:=S1.rd.st;have hg1:(upd H a (.ins T.c.Piece da (pF { y with holder:=q } q))) g=some (.dK (gv [("n",(n:Int)),("p",(p:Int)),("q",(q:Int))])):=by rw[ae nga];exact hg
  have hA1:(upd H a (.ins T.c.Piece da (pF { y with holder:=q } q))) a=some (.ins T.c.Piece da (pF { y with holder:=q } q)):=ah;generalize upd H a (.ins T.c.Piece da (pF { y with holder:=q } q))=H1 at S1 St1 hS1 hg1 hA1 ⊢;refine⟨_,rfl,x.S,dx1,_,rfl,hS1,rfl,_,rfl,g,_,rfl,bW hg1 rfl,_,rfl,g,_,rfl,bW hg1 rfl,_,rfl,a,T.c.Piece,da,_,_,rfl,hA1,T.aD,T.b7,rfl,bI,fun l hl=>?_⟩;have St1':=St1.new hl (.lst [.int y.label]);refine⟨x,_,p,q,l,[y.label],rfl,St1'.st,r4,ah,fun w=>?_,fun H2 x2 St2=>?_⟩
  ·rw[w,S1.rd.lH] at hl;cases hl
  ·exact⟨bI,fun l hl=>po.done S (Step.trans S St1' St2) hl rfl⟩
def aiA (c:Cs):Sp:=fun vs H Q _=>∃ (x:Ix) (s:Vbexam.St) (g:Addr) (b p q:Nat),vs = [.ref x.S,.ref g]∧ax c H x s∧H g=some (.dK (gv [("b",(b:Int)),("p",(p:Int)),("q",(q:Int))]))∧g ∉ foot x∧1≤b∧b≤s.boxes.length ∧
 eR c H x (Vbexam.act s (.handBox b p q)) Q
theorem ag2:aP P w K mg base CX0 3 T.gr.f T.gr.fd ["store", "given"] (aiA T.c):=by
 refine T.gr.F.ok p8 (fun vs H Q E h=>?_) (fun cdv A outer s₀ H vs Q E hr h=>?_)
 ·obtain⟨x,s,g,b,p,q,rfl,_⟩:=h;rfl
 ·obtain⟨x,s,g,b,p,q,rfl,S,hg,hgf,b1,b2,po⟩:=h;have hu:=bX hr;have hr1:bh 1 _:=hr.mono (by decide);refine⟨_,ab (aJ (i:=2) p8.nd rfl (Or.inl rfl) (aF hu (au (pv 0) rfl) (aF hu (pv 1) aW (fun _ _=>rfl)) (fun _ _=>rfl)))
   (ab (aJ (i:=3) p8.nd rfl (Or.inl rfl) (aK (oC T) hr1 rfl T.j6 T.cj.F.kp T.cj.b .nil aE (aa (pv 0) (aa (au (pv 2) rfl) (aa (au (pv 2) rfl) (aa (pv 1) af))))))
   (ab (aY (aQ fc (pv 3) aw (aX _)) (ai (ak (aS (aa (pv 3) af)))) aL)
   (ab (bC (pv 2) (aF hu (pv 1) aW (fun _ _=>rfl)) rfl)
   (ab (aJ (i:=4) p8.nd rfl (Or.inl rfl) (bj (pv 0) T.aq T.iE (ke T) hr T.c9.b .nil aE (aa (aF hu (pv 1) aW (fun _ _=>rfl)) af)))
   (ab (dZ (bj (pv 0) T.aq T.iF (lz T) hr1 T.cB.b .nil aE (aa (aF hu (pv 1) aW (fun _ _=>rfl)) (aa (aF hu (pv 1) aW (fun _ _=>rfl)) (aa (pv 4) af)))))
   (ai (ak (aS (aa (a6 bB (by rfl) T.cU PySem.boot_len (aa (pv 4) af)) af))))))))),?_⟩
  obtain⟨dx,hS⟩:=S.rd.st;obtain⟨a,ha,⟨da,hA⟩,hv⟩:=S.rd.box b1 b2;have act:Vbexam.act s (.handBox b p q)=if(Vbexam.box s b).inside≠0 then (s,[-4]) else if((Vbexam.box s b).holder:Int)≠p∨(p:Int)=q then (s,[-5]) else if Vbexam.HANDS≤s.hands.length then (s,[-6])
    else ({ Vbexam.setBox s b (fun x=>{ x with holder:=q }) with hands:=s.hands++[{ time:=s.time,giver:=p,taker:=q,labels:=Vbexam.manifest s b }] },[((Vbexam.manifest s b).length:Int)]):=by
   rw[show Vbexam.act s (.handBox b p q)=Vbexam.ofBox s b (fun b=>if(Vbexam.box s b).inside≠0 then (s,[-4]) else if((Vbexam.box s b).holder:Int)≠p∨(p:Int)=q then (s,[-5]) else if Vbexam.HANDS≤s.hands.length then (s,[-6])
    else ({ Vbexam.setBox s b (fun x=>{ x with holder:=q }) with hands:=s.hands++[{ time:=s.time,giver:=p,taker:=q,labels:=Vbexam.manifest s b }] },[((Vbexam.manifest s b).length:Int)])) from rfl,fW b2]
  rw[act] at po;refine⟨_,rfl,x.S,T.c.aI,dx,_,_,rfl,hS,T.aq,T.aU,rfl,_,rfl,g,_,rfl,bW hg rfl,x.dB,_,rfl,S.rd.j7 hv,?_⟩;refine⟨_,rfl,_,rfl,a,T.c.Box,da,_,_,rfl,hA,T.bP,T.bb,rfl,_,rfl,a,T.c.Box,da,_,_,rfl,hA,T.bP,T.cq,rfl,_,rfl,x,s,g,_,(Vbexam.box s b).inside,(Vbexam.box s b).holder,p,q,rfl,S.rd,hg,rfl,rfl,?_⟩;refine⟨_,rfl,rfl,_,rfl,?_⟩;refine a8 (fun e=>?_) (fun e=>?_)
  ·have e:refusal s (Vbexam.box s b).inside (Vbexam.box s b).holder p q≠0:=fun w=>by simp[w] at e
   refine⟨_,rfl,bI,fun l hl=>?_⟩;have er:(if(Vbexam.box s b).inside≠0 then (s,[-4]) else if((Vbexam.box s b).holder:Int)≠p∨(p:Int)=q then (s,[-5]) else if Vbexam.HANDS≤s.hands.length then (s,[-6])
    else ({ Vbexam.setBox s b (fun x=>{ x with holder:=q }) with hands:=s.hands++[{ time:=s.time,giver:=p,taker:=q,labels:=Vbexam.manifest s b }] },[((Vbexam.manifest s b).length:Int)]))=((s,[refusal s (Vbexam.box s b).inside (Vbexam.box s b).holder p q]):Vbexam.St×List Int):=by
    unfold refusal at e ⊢;by_cases h1:(Vbexam.box s b).inside≠0
    ·rw[if_pos h1,if_pos h1]
    ·rw[if_neg h1] at e ⊢;rw[if_neg h1];by_cases h2:((Vbexam.box s b).holder:Int)≠p∨(p:Int)=q
     ·rw[if_pos h2,if_pos h2]
     ·rw[if_neg h2] at e ⊢;rw[if_neg h2];by_cases h3:200≤s.hands.length
      ·rw[if_pos h3,if_pos (show Vbexam.HANDS≤_ from h3)]
      ·rw[if_neg h3] at e;exact absurd rfl e
   rw[er] at po;exact po.done S (Step.refl S) hl rfl
  have e:refusal s (Vbexam.box s b).inside (Vbexam.box s b).holder p q=0:=by simpa using e
  obtain⟨r1,r2,r3,r4⟩:=yt e;rw[if_neg (by simpa using r1),if_neg (by rw[r2];simp;omega),if_neg (show ¬ Vbexam.HANDS≤s.hands.length from by show ¬ 200≤_;omega)] at po;have O2:=S.rd.ok.setBox (f:=fun x=>{ x with holder:=q }) b1 b2 (fun _=>rfl);have em:Vbexam.manifest (Vbexam.setBox s b fun x=>{ x with holder:=q }) b=Vbexam.manifest s b:=by
   rw[d3 b1 b2];refine Wf.abl (s:=s) (s':={ s with boxes:=s.boxes.set (b-1) { Vbexam.box s b with holder:=q } }) rfl (fun b'=>Wf.agS (s:=s) (fun z hz=>?_) b') b;show(s.boxes.getD (b-1) _).inside=z.inside;rw[List.getD_eq_getElem?_getD,hz];rfl
  refine⟨_,rfl,g,_,rfl,bW (z:=(q:Int)) hg rfl,_,rfl,a,T.c.Box,da,_,rfl,hA,T.bP,T.cq,(by show 4<1000;decide),?_⟩;rw[d3 b1 b2] at O2;have S1:=S.setB (u:=.ins T.c.Box da (bF { Vbexam.box s b with holder:=q })) ha ⟨da,rfl⟩ O2 T.bf T.cG;rw[← d3 b1 b2 (fun x=>{ x with holder:=q })] at S1;have St1:=ax.y6 ha S1;have nga:g≠a:=cp hg hA (by intro q;cases q);obtain⟨dx1,hS1⟩:=S1.rd.st;have hg1:(upd H a (.ins T.c.Box da (bF { Vbexam.box s b with holder:=q }))) g=some (.dK (gv [("b",(b:Int)),("p",(p:Int)),("q",(q:Int))])):=by rw[ae nga];exact hg
  have hH1:upd H a (.ins T.c.Box da (eV "holder" (V.int q) (bF (Vbexam.box s b))))=upd H a (.ins T.c.Box da (bF { Vbexam.box s b with holder:=q })):=rfl;rw[hH1];generalize upd H a (.ins T.c.Box da (bF { Vbexam.box s b with holder:=q }))=H1 at S1 St1 hS1 hg1 ⊢;refine⟨_,rfl,x.S,dx1,_,rfl,hS1,rfl,_,rfl,g,_,rfl,bW hg1 rfl,x,_,b,rfl,S1.rd,S1.eP,fun H2 l sm hl hl2=>?_⟩;rw[em] at hl2;have S2:=S1.keep sm;have St2:Step T.c H H2 x x _:=⟨S2,rfl,fun b o e n=>sm b o (St1.keep b o e n),fun _ h=>.inl h,fun _ h=>h⟩;refine⟨_,rfl,x.S,dx1,_,rfl,sm _ _ hS1,rfl,_,rfl,g,_,rfl,bW (sm _ _ hg1) rfl,_,rfl,g,_,rfl,bW (sm _ _ hg1) rfl,_,rfl,x,_,p,q,l,_,rfl,S2,r4,hl2,fun w=>?_,fun H3 x3 St3=>?_⟩
  ·rw[w,S1.rd.lH] at hl;cases hl
  ·have nlf:l ∉ foot x:=fun m=>by
    obtain⟨o,q⟩:=S1.fQ m;rw[hl] at q;cases q
   have hl3:=St3.keep l _ hl2 nlf;refine⟨_,rfl,l,_,rfl,.inl (SqL.of hl3),bI,fun l' hl'=>po.done S (Step.trans S St2 St3) hl' ?_⟩;rw[List.length_map];rfl
end
theorem am6 {v:V}:[v].length≤sizeLine:=by
 show 1≤sizeLine;decide
section
variable {P:Program}{w:World}{K:PySem.W.Frag}{mg:Str→Option Value}{base:Heap}(T:Pg K mg)
def agi:Sp:=fun vs H Q _=>∃ n:Nat,vs = [.int n]∧Q (.bl (Wf.jR n)) H
theorem zC:aP P w K mg base CX0 1 T.fI.f T.fI.fd ["sign"] agi:=by
 refine T.fI.F.ok afO (fun vs H Q E h=>?_) (fun cdv A outer s₀ H vs Q E hr h=>?_)
 ·obtain⟨n,rfl,_⟩:=h;rfl
 ·obtain⟨n,rfl,k⟩:=h;obtain⟨u0,g0,r0⟩:=T.aeb;obtain⟨u9,g9,r9⟩:=T.ahU;refine⟨_,ai (ak (aao vE vE (cK rfl g0 r0) (pv 0) (cK rfl g9 r9))),?_⟩;refine⟨_,rfl,_,_,rfl,rfl,_,rfl,?_⟩;refine a8 (fun e=>?_) (fun e=>?_)
  ·refine⟨_,_,rfl,rfl,?_⟩;have e:(48:Int)≤n:=by simpa using e
   have:decide ((n:Int)≤57)=Wf.jR n:=by
    unfold Wf.jR;rw[Bool.eq_iff_iff];simp;omega
   show Q (.bl (decide ((n:Int)≤57))) H;rw[this];exact k
  ·have e:¬ (48:Int)≤n:=by simpa using e
   have:false=Wf.jR n:=by
    unfold Wf.jR;rw[Bool.eq_iff_iff];simp;omega
   rw[this];exact k
def aiF:Sp:=fun vs H Q _=>∃ (a:Addr) (l:List Nat),vs = [.ref a]∧H a=some (.lst (iv l))∧l.length≤1000∧∀ H',ao H H'→Q (.bl (Vbexam.isPattern l)) H'
def am9 (v:V):TE:=amB (tOp rEq (bG 1) (tC v)) (qa agi [] E0 (fP (bG 1) kn))
theorem wJ:aP P w K mg base CX0 2 T.d6.f T.d6.fd ["signs"] aiF:=by
 refine T.d6.F.ok pw (fun vs H Q E h=>?_) (fun cdv A outer s₀ H vs Q E hr h=>?_)
 ·obtain⟨a,l,rfl,_⟩:=h;rfl
 ·obtain⟨a,l,rfl,ha,hl,k⟩:=h;obtain⟨u6,g6,r6⟩:=T.ow;obtain⟨uu,gu,ru⟩:=T.aea;refine⟨_,ab (aY (aQ fc (a6 bB (by rfl) T.cU PySem.boot_len (aa (pv 0) af)) (cK rfl g6 r6) (aX _)) (ai (ak fN)) aL)
   (ai (ak (a6 (ahB rfl) (by rfl) T.vc PyProof.Rows.boot_all (aa (fO (own:=[("sign",1)]) (g:=cH 1) (te:=am9 (.int 63)) (tt:=kq) rfl pw.nd (cx (pv 0)) ?bk ?gg ?tt ?ee) af)))),?rd⟩
  case bk=>
   show d4 (["signs", "sign"]:List Str) (aj mI) _ _;exact⟨rfl,by decide +kernel,by decide +kernel,by decide +kernel,by decide +kernel⟩
  case gg=>exact fun _ _ _ _ _=>aZ (i:=1) pw.nd rfl (Or.inl rfl) (Or.inr rfl)
  case tt=>exact fun _ _ _ _ _=>lD
  case ee=>exact fun _ _ _ _ _=>ana (y0 iI (pv 1) (cK rfl gu ru) (aX _)) (al0 (aK (zC T) hr rfl T.vn T.fI.F.kp T.fI.b .nil aE (aa (pv 1) af)))
  refine⟨_,rfl,a,_,rfl,.inl (SqL.of ha),rfl,_,rfl,?_⟩;rw[cc];refine a8 (fun e=>?_) (fun e=>?_)
  ·have e:l.length≠6:=fun z=>by simp[z] at e
   have:Vbexam.isPattern l=false:=by
    unfold Vbexam.isPattern;simp[e]
   rw[this] at k;exact k _ (ao.refl _)
  have e:l.length=6:=by
   have e:(l.length:Int)=6:=by simpa using e
   omega
  refine⟨_,rfl,a,rfl,⟨_,SqL.of ha⟩,fun D hD=>?_⟩;refine dS l (fun n=>V.int (n:Int)) (fun _=>true) (fun n=>V.bl (n == 63||Wf.jR n)) ha hD hl (fun i x H' hi sm R R' hR hR'=>⟨rfl,?_⟩) (fun H' sm hD'=>?_)
  ·refine yes ?_;refine⟨_,rfl,rfl,_,rfl,?_⟩;refine a8 (fun e=>?_) (fun e=>?_)
   ·have e:x=63:=by
     have e:(x:Int)=63:=by simpa using e
     omega
    have:=hR' H' (ao.refl _) rfl;rw[e] at this;exact this
   ·have e:x≠63:=fun z=>by simp[z] at e
    refine⟨_,rfl,x,rfl,?_⟩;have:=hR' H' (ao.refl _) rfl;rw[show(x == 63)=false by simpa using e,Bool.false_or] at this;exact this
  ·refine⟨D,l.map fun n=>n == 63||Wf.jR n,rfl,SqL.of (by rw[hD',hE,List.map_map];rfl),?_⟩;have:(l.map fun n=>n == 63||Wf.jR n).all id=Vbexam.isPattern l:=by
    unfold Vbexam.isPattern;rw[List.all_map,e];rfl
   rw[this];exact k H' sm
def ae6:Sp:=fun vs H Q _=>∃ (n:Nat) (a:Addr) (b:List Nat),vs = [.int n,.ref a]∧H a=some (.lst (iv b))∧Vbexam.isPattern b=true∧Q (.bl (Vbexam.fits b n)) H
theorem agc:aP P w K mg base CX0 2 T.l9.f T.l9.fd ["label", "pattern"] ae6:=by
 refine T.l9.F.ok acr (fun vs H Q E h=>?_) (fun cdv A outer s₀ H vs Q E hr h=>?_)
 ·obtain⟨n,a,b,rfl,_⟩:=h;rfl
 ·obtain⟨n,a,b,rfl,ha,hb,k⟩:=h;obtain⟨u0,g0,r0⟩:=T.aeb;refine⟨_,ab (fZ PassesOwn.never rfl (afM (by rfl) T.jM (aa (pv 1) af)) (aZ (i:=2) acr.nd rfl (Or.inl rfl))
    (ab (aY ((aeN (bJ (aK (zC T) hr (by rfl) T.vn T.fI.F.kp T.fI.b .nil aE (aa (pv 2) af)) (fun _=>rfl)) (aco (aQ fc (pv 2) (fw yc (cK (by rfl) g0 r0) (fw aij (pv 0) aw)) (aX _)))).pt) (ai (ak fN)) aL)
    (ai (aJ (i:=0) acr.nd rfl (Or.inl rfl) (fw akL (pv 0) aw)))))
   (ai (ak fN)),?_⟩
  have hl:=Wf.gi hb;have hf:=Wf.akt hb n;refine⟨_,rfl,a,_,rfl,SqL.of ha,?_⟩;refine aku (xs:=iv b) (fun i σ H'=>H'=H∧(∃ v2,σ = [some (.int (n / 10 ^ i:Nat)),some (.ref a),v2])∧∀ t,t<i→Wf.ig b n t=false) ⟨rfl,⟨none,by rw[Nat.pow_zero,Nat.div_one];rfl⟩,fun t ht=>absurd ht (Nat.not_lt_zero _)⟩ (fun i σ H' _ p=>by rw[p.1];exact SqL.of ha) (fun i x σ H' hi hx p=>?_) (fun σ H' p=>?_)
  ·obtain⟨rfl,⟨v2,rfl⟩,hp⟩:=p;rw[cc,hl] at hi hx;unfold iv at hx;rw[List.getElem?_map] at hx;obtain⟨c,hc,e⟩:=Option.map_eq_some_iff.mp hx;subst e;have ec:b.getD (5-i) 0=c:=by
    rw[List.getD_eq_getElem?_getD,show 5-i=6-1-i by omega,hc];rfl
   have bad:Wf.ig b n i=(Wf.jR c&&decide (c≠48+n / 10 ^ i % 10)):=by
    unfold Wf.ig;rw[ec]
   have next:Wf.ig b n i=false→∀ t,t<i+1→Wf.ig b n t=false:=fun h t ht=>by
    by_cases q:t=i
    ·rw[q];exact h
    ·exact hp t (by omega)
   have ed:((n / 10 ^ i:Nat):Int) / 10=(n / 10 ^ (i+1):Nat):=by
    rw[Nat.pow_succ,← Nat.div_div_eq_div_mul];omega
   refine⟨_,rfl,c,rfl,_,rfl,?_⟩;refine a8 (fun e=>?_) (fun e=>?_)
   ·refine⟨_,rfl,_,rfl,_,_,rfl,rfl,(by show(0:Int)<10;decide),_,_,rfl,rfl,rfl,_,rfl,?_⟩;refine a8 (fun e2=>?_) (fun e2=>?_)
    ·have e2:(c:Int)≠48+((n / 10 ^ i:Nat):Int) % 10:=by simpa using e2
     have hb':Wf.ig b n i=true:=by
      rw[bad,e,Bool.true_and];exact decide_eq_true (by omega)
     have:Vbexam.fits b n=false:=by
      rw[hf,Bool.eq_false_iff];intro z;have:=List.all_eq_true.mp z i (List.mem_range.mpr hi);rw[hb'] at this;cases this
     rw[this] at k;exact k
    ·have e2:(c:Int)=48+((n / 10 ^ i:Nat):Int) % 10:=by simpa using e2
     refine⟨_,rfl,_,_,rfl,rfl,⟨by decide,by decide⟩,rfl,⟨some (.int c),?_⟩,next ?_⟩
     ·show[some (V.int (((n / 10 ^ i:Nat):Int) / 10)),some (.ref a),some (.int c)]=_;rw[ed]
     ·rw[bad,Bool.and_eq_false_iff];exact .inr (decide_eq_false (by omega))
   ·refine cR ?_;refine⟨_,rfl,_,_,rfl,rfl,⟨by decide,by decide⟩,rfl,⟨some (.int c),?_⟩,next ?_⟩
    ·show[some (V.int (((n / 10 ^ i:Nat):Int) / 10)),some (.ref a),some (.int c)]=_;rw[ed]
    ·rw[bad,Bool.and_eq_false_iff];exact .inl (by simpa using e)
  ·obtain⟨rfl,⟨v2,rfl⟩,hp⟩:=p;rw[cc,hl] at hp;have:Vbexam.fits b n=true:=by
    rw[hf];exact List.all_eq_true.mpr fun t ht=>by rw[hp t (List.mem_range.mp ht)];rfl
   rw[this] at k;exact k
def ak8:Sp:=fun vs H Q _=>∃ (a:Addr) (t:List Nat),vs = [.ref a]∧H a=some (.lst (iv t))∧t.length≤100∧aln H (Wf.parts t) Q
theorem acW (t:List Nat):(Wf.partsOf t).1.length+(Wf.partsOf t).2.length≤t.length:=by
 have key:∀ (t:List Nat) (x:List (List Nat)×List Nat),(t.foldl Wf.fz x).1.length+(t.foldl Wf.fz x).2.length≤x.1.length+x.2.length+t.length:=by
  intro t
  induction t with
  | nil=>intro x;simp
  | cons c t ih=>
   intro x;rw[List.foldl_cons];have:=ih (Wf.fz x c);have h2:(Wf.fz x c).1.length+(Wf.fz x c).2.length≤x.1.length+x.2.length+1:=by
    unfold Wf.fz;by_cases q:c=32
    ·rw[if_pos q,List.length_append];show x.1.length+1+0≤_;omega
    ·rw[if_neg q,List.length_append];show x.1.length+(x.2.length+1)≤_;omega
   rw[List.length_cons];omega
 have:=key t ([],[]);have e:(([],[]):List (List Nat)×List Nat).1.length+(([],[]):List (List Nat)×List Nat).2.length+t.length=t.length:=by
  show 0+0+t.length=t.length;omega
 rw[e] at this;exact this
theorem afH:aP P w K mg base CX0 1 T.ik.f T.ik.fd ["text"] ak8:=by
 refine T.ik.F.ok tT (fun vs H Q E h=>?_) (fun cdv A outer s₀ H vs Q E hr h=>?_)
 ·obtain⟨a,t,rfl,_⟩:=h;rfl
 ·obtain⟨a,t,rfl,ha,ht,k⟩:=h;obtain⟨ub,gb,rb⟩:=T.af2;refine⟨_,ab (aJ (i:=1) tT.nd rfl (Or.inl rfl) (aS (aa (aS af) af)))
   (ab (fZ PassesOwn.never rfl (cx (pv 0)) (aZ (i:=2) tT.nd rfl (Or.inl rfl))
    (ai (aY (aQ iI (pv 2) (cK rfl gb rb) (aX _))
     (ai (dZ (my PySem.F.plainAttrs_list PySem.F.slot_list_append PySem.F.type_list_append hU (pv 1) (aa (aS af) af))))
     (ai (dZ (my PySem.F.plainAttrs_list PySem.F.slot_list_append PySem.F.type_list_append hU (mz lq (pv 1) (bY bD aw) (fun _ _=>rfl)) (aa (pv 2) af)))))))
   (ai (ak (pv 1)))),?_⟩
  refine⟨(by show 0≤sizeLine;decide),fun l0 hl0=>⟨am6,fun lp hlp=>?_⟩⟩;have sm0:ao H (upd (upd H l0 (.lst [])) lp (.lst [.ref l0])):=bO (bO (ao.refl _) hl0 _) hlp _;have np:lp≠l0:=fun e=>by rw[e,ah] at hlp;cases hlp
  let St:List (List Nat)→List Nat→Hp→Prop:=fun fr cur H'=>∃ (as:List Addr) (lc:Addr),ao H H'∧H' lp=some (.lst ((as++[lc]).map V.ref))∧as.length=fr.length∧(as++[lc]).Nodup∧(∀ b∈as++[lc],b≠lp∧H b=none) ∧
   (∀ (i:Nat) b l,as[i]?=some b→fr[i]?=some l→H' b=some (.lst (iv l)))∧H' lc=some (.lst (iv cur))
  have hlp0:H lp=none:=(bO (ao.refl _) hl0 _).free hlp;refine⟨_,rfl,a,rfl,⟨_,SqL.of (sm0 _ _ ha)⟩,?_⟩;refine kU (xs:=iv t) (fun i σ H'=>(∃ v2,σ = [some (.ref a),some (.ref lp),v2])∧St (Wf.partsOf (t.take i)).1 (Wf.partsOf (t.take i)).2 H') ⟨⟨none,rfl⟩,[],l0,sm0,ah,rfl,by simp,fun b hb=>?_,fun i b l h=>(by simp at h),?_⟩ (fun i σ H' _ p=>?_) (fun i x σ H' hx p=>?_) (fun σ H' p=>?_)
  ·rw[List.nil_append,List.mem_singleton] at hb;rw[hb];exact⟨np.symm,hl0⟩
  ·rw[ae np.symm,ah];rfl
  ·obtain⟨_,as,lc,sm,_⟩:=p;exact SqL.of (sm _ _ ha)
  ·obtain⟨⟨v2,rfl⟩,as,lc,sm,hp,hlen,nd,hne,hfr,hcur⟩:=p;unfold iv at hx;rw[List.getElem?_map] at hx;obtain⟨c,hc,e⟩:=Option.map_eq_some_iff.mp hx;subst e;have hi:=(List.getElem?_eq_some_iff.mp hc).1;have et:Wf.partsOf (t.take (i+1))=Wf.fz (Wf.partsOf (t.take i)) c:=by rw[take_snoc hc,Wf.aby]
   have hpl:=acW (t.take i);rw[List.length_take] at hpl;refine⟨_,rfl,rfl,_,rfl,?_⟩;refine a8 (fun e=>?_) (fun e=>?_)
   ·have e:c=32:=by
     have e:(c:Int)=32:=by simpa using e
     omega
    have es:Wf.fz (Wf.partsOf (t.take i)) c=((Wf.partsOf (t.take i)).1++[(Wf.partsOf (t.take i)).2],[]):=if_pos e;refine⟨_,rfl,.inl ⟨rfl,_,SqL.of hp⟩,(by show 0≤sizeLine;decide),fun ln hn=>⟨lp,(as++[lc]).map V.ref,.ref ln,rfl,rfl,?_,?_,?_⟩⟩
    ·rw[ae (az hp hn)];exact hp
    ·rw[List.length_map,List.length_append,hlen];exact bo (by simp;omega)
    ·have nlp:ln≠lp:=fun z=>by rw[z,hp] at hn;cases hn
     refine⟨⟨_,rfl⟩,as++[lc],ln,fun b o q=>?_,by rw[ah];exact congrArg (fun z=>some (HO.lst z)) (List.map_append (l₁:=as++[lc]) (l₂:=[ln])).symm,?_,?_,fun b hb=>?_,fun j b l h1 h2=>?_,?_⟩
     ·have hb:b≠lp:=az q hlp0;rw[ae hb];exact bO sm hn _ b o q
     ·rw[et,es,List.length_append,List.length_append,hlen];rfl
     ·refine List.nodup_append.mpr ⟨nd,by simp,fun y hy z hz q=>?_⟩;rw[List.mem_singleton] at hz;have:∃ o,H' y=some o:=by
       rcases List.mem_append.mp hy with m|m
       ·obtain⟨j,hj,ej⟩:=List.getElem_of_mem m;have:as[j]?=some y:=by rw[List.getElem?_eq_getElem hj,ej]
        exact⟨_,hfr j y _ this (List.getElem?_eq_getElem (hlen ▸ hj))⟩
       ·rw[List.mem_singleton.mp m];exact⟨_,hcur⟩
      obtain⟨o,ho⟩:=this;rw[q,hz,hn] at ho;cases ho
     ·rcases List.mem_append.mp hb with m|m
      ·exact hne b m
      ·rw[List.mem_singleton.mp m];exact⟨nlp,sm.free hn⟩
     ·rw[et,es] at h2;have hb:b∈as++[lc]:=List.mem_of_getElem? h1;rw[ae (hne b hb).1];have hbn:b≠ln:=fun z=>by
       rcases dR h1 with q|⟨_,q⟩
       ·have hj:=(List.getElem?_eq_some_iff.mp q).1;have:∃ o,H' b=some o:=⟨_,hfr j b _ q (List.getElem?_eq_getElem (hlen ▸ hj))⟩;obtain⟨o,ho⟩:=this;rw[z,hn] at ho;cases ho
       ·rw[← z,q,hcur] at hn;cases hn
      rw[ae hbn];rcases dR h1 with q|⟨q,q'⟩
      ·refine hfr j b l q ?_;have:=(List.getElem?_eq_some_iff.mp q).1;rw[List.getElem?_append_left (by omega)] at h2;exact h2
      ·rw[q,hlen,List.getElem?_append_right (Nat.le_refl _)] at h2;simp at h2;rw[q',hcur,h2]
     ·rw[ae nlp,ah,et,es];rfl
   ·have e:c≠32:=fun z=>by simp[z] at e
    have es:Wf.fz (Wf.partsOf (t.take i)) c=((Wf.partsOf (t.take i)).1,(Wf.partsOf (t.take i)).2++[c]):=if_neg e;refine⟨_,rfl,_,rfl,lp,_,_,.ref lc,rfl,rfl,SqL.of hp,by rw[List.map_append];exact ai7 _ _,.inl ⟨rfl,_,SqL.of hcur⟩,_,rfl,lc,_,_,rfl,rfl,hcur,?_,?_⟩
    ·rw[cc];exact bo (by omega)
    ·have hlc:lc∈as++[lc]:=List.mem_append_right _ (List.mem_singleton.mpr rfl);refine⟨⟨_,rfl⟩,as,lc,fun b o q=>?_,?_,?_,nd,hne,fun j b l h1 h2=>?_,?_⟩
     ·rw[ae (az q (hne lc hlc).2)];exact sm b o q
     ·rw[ae (hne lc hlc).1.symm];exact hp
     ·rw[et,es];exact hlen
     ·rw[et,es] at h2;have hb:b≠lc:=fun z=>by
       have:=List.nodup_append.mp nd;exact this.2.2 b (List.mem_of_getElem? h1) lc (List.mem_singleton.mpr rfl) z
      rw[ae hb];exact hfr j b l h1 h2
     ·rw[ah,et,es];unfold iv;rw[List.map_append];rfl
  ·obtain⟨⟨v2,rfl⟩,as,lc,sm,hp,hlen,nd,hne,hfr,hcur⟩:=p;rw[cc,List.take_length] at hlen hfr hcur;refine⟨_,rfl,k H' lp sm hlp0 ⟨as++[lc],hp,?_,fun i b l h1 h2=>?_⟩⟩
   ·unfold Wf.parts;rw[List.length_append,List.length_append,hlen];rfl
   ·unfold Wf.parts at h2;rcases dR h1 with q|⟨q,q'⟩
    ·refine hfr i b l q ?_;have:=(List.getElem?_eq_some_iff.mp q).1;rw[List.getElem?_append_left (by omega)] at h2;exact h2
    ·rw[q,hlen,List.getElem?_append_right (Nat.le_refl _)] at h2;simp at h2;rw[q',hcur,h2]
end
def rows (ph:Nat→Nat) (g:Vbexam.Graph):List (List Nat):=g.map fun l=>l.map ph
structure Cdx (g:Vbexam.Graph) (n:Nat) (ph:Nat→Nat):Prop where
 wi:Mt.Within g n
 few:g.length≤100
 inj:∀ a b,a<n→b<n→ph a=ph b→a=b
theorem Cdx.row {g:Vbexam.Graph}{n:Nat}{ph:Nat→Nat}(C:Cdx g n ph) (i:Nat):(g.getD i []).length≤10:=Nat.le_trans (C.wi.len i) C.wi.few
theorem bE {ph:Nat→Nat}{g:Vbexam.Graph}:(rows ph g).length=g.length:=List.length_map _
theorem hW {ph:Nat→Nat}{g:Vbexam.Graph}{i:Nat}:(rows ph g).getD i []=(g.getD i []).map ph:=Mt.getD_map _ g i [] [] rfl
theorem mD {g:Vbexam.Graph}{n:Nat}{ph:Nat→Nat}(C:Cdx g n ph):∀ l∈rows ph g,l.length≤1000:=fun l hl=>by
 obtain⟨i,hi,e⟩:=List.getElem_of_mem hl;have:(rows ph g).getD i []=l:=by rw[List.getD_eq_getElem?_getD,List.getElem?_eq_getElem hi];exact e
 rw[hW] at this;rw[← this,List.length_map];have:=C.row i;omega
theorem yw {g:Vbexam.Graph}{n:Nat}{ph:Nat→Nat}(C:Cdx g n ph) {j:Nat}(hj:j<n):(rows ph g).map (fun l=>l.filter fun x=>x != ph j)=rows ph (Vbexam.dropCode g j):=by
 unfold rows Vbexam.dropCode;rw[List.map_map,List.map_map];refine List.map_congr_left fun l hl=>?_;show(l.map ph).filter _=(l.filter _).map ph;rw[List.filter_map];congr 1;refine List.filter_congr fun x hx=>?_;obtain⟨i,hi,e⟩:=List.getElem_of_mem hl;have hxn:x<n:=C.wi.lt i x (by rw[List.getD_eq_getElem?_getD,List.getElem?_eq_getElem hi];exact e ▸ hx);show(ph x != ph j)=(x != j);rw[Bool.eq_iff_iff];simp;exact⟨fun h e=>h (by rw[e]),fun h e=>h (C.inj x j hxn hj e)⟩
theorem aiu {g:Vbexam.Graph}{ph:Nat→Nat}{z:Nat}(hz:∀ i,∀ x∈g.getD i [],ph x≠z):(rows ph g).map (fun l=>l.filter fun x=>x != z)=rows ph g:=by
 unfold rows;rw[List.map_map];refine List.map_congr_left fun l hl=>?_;show(l.map ph).filter _=l.map ph;refine List.filter_eq_self.mpr fun y hy=>?_;obtain⟨x,hx,e⟩:=List.mem_map.mp hy;obtain⟨i,hi,ei⟩:=List.getElem_of_mem hl;have:=hz i x (by rw[List.getD_eq_getElem?_getD,List.getElem?_eq_getElem hi];exact ei ▸ hx);rw[e] at this;simpa using this
theorem Cdx.code {g:Vbexam.Graph}{n:Nat}{ph:Nat→Nat}(C:Cdx g n ph) (j:Nat):Cdx (Vbexam.dropCode g j) n ph:=⟨C.wi.code j,by rw[Mt.cD];exact C.few,C.inj⟩
theorem Cdx.bu {g:Vbexam.Graph}{n:Nat}{ph:Nat→Nat}(C:Cdx g n ph) (i j:Nat):Cdx (Vbexam.dropEdge g i j) n ph:=⟨C.wi.bu i j,by rw[Mt.gX];exact C.few,C.inj⟩
theorem Cdx.drop {g:Vbexam.Graph}{n:Nat}{ph:Nat→Nat}(C:Cdx g n ph) (i:Nat):Cdx (g.drop i) n ph:=⟨C.wi.drop i,by have:=C.few;rw[List.length_drop];omega,C.inj⟩
theorem ait {g:Vbexam.Graph}{n:Nat}{ph:Nat→Nat}(C:Cdx g n ph) {i j:Nat}(hj:j<n) (hi:i<g.length):(rows ph g).set i (((rows ph g).getD i []).filter fun x=>x != ph j)=rows ph (Vbexam.dropEdge g i j):=by
 refine Mt.z6 ?_ fun x=>?_
 ·rw[List.length_set,bE,bE,Mt.gX]
 ·rw[hW (g:=Vbexam.dropEdge g i j),Mt.gh,List.getD_eq_getElem?_getD,List.getElem?_set];by_cases q:i=x
  ·subst q;rw[if_pos rfl,if_pos (by rw[bE];exact hi),if_pos rfl,hW];show((g.getD i []).map ph).filter _=_;rw[List.filter_map];congr 1;refine List.filter_congr fun y hy=>?_;show(ph y != ph j)=(y != j);rw[Bool.eq_iff_iff];simp;exact⟨fun h e=>h (by rw[e]),fun h e=>h (C.inj y j (C.wi.lt i y hy) hj e)⟩
  ·rw[if_neg q,if_neg (fun z=>q z.symm),← List.getD_eq_getElem?_getD,hW]
def mk (ph:Nat→Nat) (ml:List (Nat×Nat)):List (Key×V):=ml.map fun p=>(Sum.inl (ph p.1:Int),V.int (p.2:Nat))
def sk (ph:Nat→Nat) (seen:List Nat):List (Key×V):=seen.reverse.map fun j=>(Sum.inl (ph j:Int),V.bl true)
theorem vne {a b:Nat}:(!decide (V.int (a:Int)=V.int (b:Int)))=(a != b):=by
 rw[yT,Bool.eq_iff_iff];simp;omega
theorem abh {a b:Nat}(h:a≠b):¬ (Sum.inl (a:Int):Key)=Sum.inl (b:Int):=fun e=>by
 injection e with e;exact h (by omega)
theorem val_mk {n:Nat}{ph:Nat→Nat}(inj:∀ a b,a<n→b<n→ph a=ph b→a=b) {j:Nat}(hj:j<n):∀ (ml:List (Nat×Nat)),(∀ p∈ml,p.1<n)→bg (mk ph ml) (Sum.inl (ph j:Int))=(ml.find? fun p=>p.1 == j).map fun p=>V.int (p.2:Nat)
 | [],_=>rfl
 | p::ml,h=>by
  show bg ((Sum.inl (ph p.1:Int),V.int (p.2:Nat))::mk ph ml) _=_;by_cases e:p.1=j
  ·rw[dU (by rw[e]),List.find?_cons_of_pos (by simpa using e)];rfl
  ·rw[dz (abh fun z=>e (inj _ _ (h p (List.mem_cons_self ..)) hj z)),List.find?_cons_of_neg (by simpa using e)];exact val_mk inj hj ml fun q hq=>h q (List.mem_cons_of_mem _ hq)
theorem al4 {n:Nat}{ph:Nat→Nat}(inj:∀ a b,a<n→b<n→ph a=ph b→a=b) {j i:Nat}(hj:j<n) {ml:List (Nat×Nat)}(h:∀ p∈ml,p.1<n):putK (mk ph ml) (Sum.inl (ph j:Int)) (V.int (i:Nat))=mk ph (Mt.ahb ml j i):=by
 have one:∀ p∈ml,decide ((Sum.inl (ph p.1:Int):Key)=Sum.inl (ph j:Int))=(p.1 == j):=fun p hp=>by
  rw[Bool.eq_iff_iff];simp only[decide_eq_true_iff,beq_iff_eq];constructor
  ·intro e;exact inj _ _ (h p hp) hj (Classical.byContradiction fun z=>abh z e)
  ·intro e;rw[e]
 have ha:((mk ph ml).any fun kv=>decide (kv.1=(Sum.inl (ph j:Int):Key)))=ml.any fun p=>p.1 == j:=by
  unfold mk;rw[List.any_map,Bool.eq_iff_iff,List.any_eq_true,List.any_eq_true];constructor
  ·rintro⟨p,hp,e⟩;exact⟨p,hp,(one p hp).symm.trans e⟩
  ·rintro⟨p,hp,e⟩;exact⟨p,hp,(one p hp).trans e⟩
 unfold putK Mt.ahb;rw[ha];by_cases q:(ml.any fun p=>p.1 == j)=true
 ·rw[if_pos q,if_pos q];unfold mk;rw[List.map_map,List.map_map];refine List.map_congr_left fun p hp=>?_;have:=one p hp;show(if(Sum.inl (ph p.1:Int):Key)=Sum.inl (ph j:Int) then _ else _)=(fun p:Nat×Nat=>((Sum.inl (ph p.1:Int):Key),V.int (p.2:Nat))) (if p.1=j then (j,i) else p);by_cases e:p.1=j
  ·rw[if_pos (by rw[e]),if_pos e];show((Sum.inl (ph p.1:Int):Key),V.int (i:Nat))=(Sum.inl (ph j:Int),V.int (i:Nat));rw[e]
  ·rw[if_neg (abh fun z=>e (inj _ _ (h p hp) hj z)),if_neg e]
 ·rw[if_neg q,if_neg q];unfold mk;rw[List.map_append];rfl
theorem aiU {n:Nat}{ph:Nat→Nat}(inj:∀ a b,a<n→b<n→ph a=ph b→a=b) {j:Nat}(hj:j<n) {seen:List Nat}(h:∀ c∈seen,c<n):(bg (sk ph seen) (Sum.inl (ph j:Int))).isSome=seen.contains j:=by
 rw[← k9];unfold sk;rw[List.any_map,Bool.eq_iff_iff,List.any_eq_true,List.contains_iff_mem];constructor
 ·rintro⟨c,hc,e⟩;have hc:=List.mem_reverse.mp hc;have e:(Sum.inl (ph c:Int):Key)=Sum.inl (ph j:Int):=of_decide_eq_true e;have:c=j:=inj _ _ (h c hc) hj (Classical.byContradiction fun z=>abh z e);rw[← this];exact hc
 ·intro hm;exact⟨j,List.mem_reverse.mpr hm,decide_eq_true rfl⟩
theorem ais {ph:Nat→Nat}{j:Nat}{seen:List Nat}(h:bg (sk ph seen) (Sum.inl (ph j:Int))=none):putK (sk ph seen) (Sum.inl (ph j:Int)) (V.bl true)=sk ph (j::seen):=by
 rw[vI h];unfold sk;rw[List.reverse_cons,List.map_append];rfl
theorem aiw {ph:Nat→Nat}{seen:List Nat}:(sk ph seen).length=seen.length:=by
 unfold sk;rw[List.length_map,List.length_reverse]
theorem ug {ph:Nat→Nat}{ml:List (Nat×Nat)}:(mk ph ml).length=ml.length:=List.length_map _
theorem adB {ml:List (Nat×Nat)}{m:Vbexam.Match}(M:Mt.Ml ml m):∀ p∈ml,p.1<m.length:=fun p hp=>Mt.pU (by have:=(M.iff p.1 p.2).mp hp;omega)
theorem adK {ml:List (Nat×Nat)}{m:Vbexam.Match}(M:Mt.Ml ml m):ml.length≤m.length:=by
 rw[M.length];exact List.length_filter_le _ _
theorem cz.dict {H:Hp}{r d:Addr}{rs:List (List Nat)}{kvs kvs':List (Key×V)}(R:cz H r rs) (h:H d=some (.dK kvs)):cz (upd H d (.dK kvs')) r rs:=by
 obtain⟨as,h1,h2,h3⟩:=R;refine⟨as,?_,h2,fun i a l e e'=>?_⟩
 ·rw[ae (cp h1 h (by intro z;cases z))];exact h1
 ·rw[ae (cp (h3 i a l e e') h (by intro z;cases z))];exact h3 i a l e e'
section
variable {P:Program}{w:World}{K:PySem.W.Frag}{mg:Str→Option Value}{base:Heap}(T:Pg K mg)
def ae5:Sp:=fun vs H Q _=>∃ (a:Addr) (l:List Nat) (z:Nat),vs = [.ref a,.int z]∧H a=some (.lst (iv l))∧l.length≤1000∧m4 H (iv (l.filter fun x=>x != z)) Q
theorem abr:aP P w K mg base CX0 1 T.gp.f T.gp.fd ["labels", "label"] ae5:=by
 refine T.gp.F.ok vT (fun vs H Q E h=>?_) (fun cdv A outer s₀ H vs Q E hr h=>?_)
 ·obtain⟨a,l,z,rfl,_⟩:=h;rfl
 ·obtain⟨a,l,z,rfl,ha,hl,k⟩:=h;refine⟨_,ai (ak (fO (own:=[("other",2)]) (g:=cH 2) (te:=bG 2) (tt:=qb (tOp rNe (bG 2) (bG 1))) rfl vT.nd (cx (pv 0)) ?bk ?gg ?tt ?ee)),?rd⟩
  case bk=>
   show d4 (["labels", "label", "other"]:List Str) (aj sC) _ _;exact⟨rfl,by decide +kernel,by decide +kernel,by decide +kernel,by decide +kernel⟩
  case gg=>exact fun _ _ _ _ _=>aZ (i:=2) vT.nd rfl (Or.inl rfl) (Or.inr rfl)
  case tt=>exact fun _ _ _ _ _=>fU (aQ fc (pv 2) (pv 1) (aX _))
  case ee=>exact fun _ _ _ _ _=>pv 2
  refine⟨_,rfl,a,rfl,⟨_,SqL.of ha⟩,fun D hD=>?_⟩;refine dS l (fun n=>V.int (n:Int)) (fun x=>x != z) (fun n=>V.int (n:Int)) ha hD hl (fun i x H' hi sm R R' hR hR'=>⟨rfl,?_⟩) (fun H' sm hD'=>k H' D sm hD hD');refine⟨_,rfl,_,rfl,rfl,_,rfl,?_⟩;refine a8 (fun e=>?_) (fun e=>?_)
  ·exact⟨_,rfl,hR' H' (ao.refl _) (vne.symm.trans e)⟩
  ·exact hR H' (ao.refl _) (vne.symm.trans (by simpa using e))
theorem aaM {as:List Addr}{rs:List (List Nat)}(h:as.length=rs.length):(as.zip rs).map (fun p=>V.ref p.1)=as.map V.ref:=by
 conv=>rhs;rw[← List.map_fst_zip (l₁:=as) (l₂:=rs) (by omega),List.map_map]
 rfl
theorem zip_rows {as:List Addr}{rs:List (List Nat)}(h:as.length=rs.length) (f:List Nat→List Nat):(as.zip rs).map (fun p=>f p.2)=rs.map f:=by
 conv=>rhs;rw[← List.map_snd_zip (l₁:=as) (l₂:=rs) (by omega),List.map_map]
 rfl
theorem zip_get {H:Hp}{as:List Addr}{rs:List (List Nat)}(h:∀ (i:Nat) a l,as[i]?=some a→rs[i]?=some l→H a=some (.lst (iv l))) {i:Nat}{p:Addr×List Nat}(e:(as.zip rs)[i]?=some p):H p.1=some (.lst (iv p.2))∧p.2∈rs:=by
 obtain⟨h1,h2⟩:=List.getElem?_zip_eq_some.mp e;exact⟨h i _ _ h1 h2,List.mem_of_getElem? h2⟩
theorem uJ {as:List Addr}{rs:List (List Nat)}(h:as.length=rs.length):(as.zip rs).length=rs.length:=by
 rw[List.length_zip,h,Nat.min_self]
def ac3:Sp:=fun vs H Q _=>∃ (r:Addr) (rs:List (List Nat)) (z:Nat),vs = [.ref r,.int z]∧cz H r rs∧rs.length≤1000∧(∀ l∈rs,l.length≤1000)∧∀ (H':Hp) (r':Addr),ao H H'→H r'=none→RdF H H' r' (rs.map fun l=>l.filter fun x=>x != z)→Q (.ref r') H'
theorem kZ:aP P w K mg base CX0 2 T.cb.f T.cb.fd ["readings", "label"] ac3:=by
 refine T.cb.F.ok k6 (fun vs H Q E h=>?_) (fun cdv A outer s₀ H vs Q E hr h=>?_)
 ·obtain⟨r,rs,z,rfl,_⟩:=h;rfl
 ·obtain⟨r,rs,z,rfl,R,hl,hs,k⟩:=h;refine⟨_,ai (ak (fO (own:=[("labels",2)]) (g:=cH 2) (te:=qa ae5 [] E0 (fP (bG 2) (fP (bG 1) kn))) (tt:=kq) rfl k6.nd (cx (pv 0)) ?bk ?gg ?tt ?ee)),?rd⟩
  case bk=>
   show d4 (["readings", "label", "labels"]:List Str) (aj je) _ _;exact⟨rfl,by decide +kernel,by decide +kernel,by decide +kernel,by decide +kernel⟩
  case gg=>exact fun _ _ _ _ _=>aZ (i:=2) k6.nd rfl (Or.inl rfl) (Or.inr rfl)
  case tt=>exact fun _ _ _ _ _=>lD
  case ee=>exact fun _ _ _ _ _=>aK (abr T) hr rfl T.xT T.gp.F.kp T.gp.b .nil aE (aa (pv 2) (aa (pv 1) af))
  obtain⟨as,h1,h2,h3⟩:=R;refine⟨_,rfl,r,rfl,⟨_,SqL.of h1⟩,fun D hD=>?_⟩;refine akz (as.zip rs) (fun p=>V.ref p.1) (fun p=>p.2.filter fun x=>x != z) (by rw[aaM h2];exact h1) hD (by rw[uJ h2];exact hl) (fun i x H' hi sm R R' hR'=>⟨rfl,?_⟩) (fun H' sm hD'=>k H' D sm hD (by rw[zip_rows h2] at hD';exact hD'));refine yes ?_;obtain⟨hx,hm⟩:=zip_get h3 hi;exact⟨_,rfl,_,rfl,x.1,x.2,z,rfl,sm _ _ hx,hs _ hm,fun H'' l s2 hl0 hl2=>hR' H'' l s2 hl0 hl2⟩
def aaK:Sp:=fun vs H Q _=>∃ (r:Addr) (rs:List (List Nat)) (i z:Nat),vs = [.ref r,.int i,.int z]∧cz H r rs∧i<rs.length∧rs.length≤1000∧(∀ l∈rs,l.length≤1000)∧aln H (rs.set i ((rs.getD i []).filter fun x=>x != z)) Q
theorem yb:aP P w K mg base CX0 2 T.dv.f T.dv.fd ["readings", "found", "label"] aaK:=by
 refine T.dv.F.ok oJ (fun vs H Q E h=>?_) (fun cdv A outer s₀ H vs Q E hr h=>?_)
 ·obtain⟨r,rs,i,z,rfl,_⟩:=h;rfl
 ·obtain⟨r,rs,i,z,rfl,R,hi,hl,hs,k⟩:=h;refine⟨_,ab (aJ (i:=3) oJ.nd rfl (Or.inl rfl) (aim adV (by rfl) T.qI PyProof.Rows.boot_list (aa (pv 0) af)))
   (ab (aiq (aK (abr T) hr rfl T.xT T.gp.F.kp T.gp.b .nil aE (aa (mz lq (pv 0) (pv 1) (fun _ _=>rfl)) (aa (pv 2) af))) (aio (pv 3) (pv 1) set_list))
   (ai (ak (pv 3)))),?_⟩
  obtain⟨as,h1,h2,h3⟩:=R;have hia:i<as.length:=by omega
  have ha:as[i]?=some as[i]:=List.getElem?_eq_getElem hia;have hrow:rs[i]?=some (rs.getD i []):=by rw[List.getD_eq_getElem?_getD,List.getElem?_eq_getElem hi];rfl
  have hrs:rs.getD i []∈rs:=List.mem_of_getElem? hrow;refine⟨_,rfl,r,_,rfl,.inl (SqL.of h1),fun l0 hl0=>?_⟩;have sm0:ao H (upd H l0 (.lst (as.map V.ref))):=bO (ao.refl _) hl0 _;refine⟨_,rfl,_,rfl,r,_,_,.ref as[i],rfl,rfl,SqL.of (sm0 _ _ h1),iT (by rw[List.getElem?_map,ha];rfl),_,rfl,as[i],rs.getD i [],z,rfl,sm0 _ _ (h3 i _ _ ha hrow),hs _ hrs,fun H1 ln sm1 hn hn1=>?_⟩;have hl01:H1 l0=some (.lst (as.map V.ref)):=sm1 _ _ ah;have nln:ln≠l0:=fun e=>by rw[e,ah] at hn;cases hn
  refine⟨_,rfl,_,rfl,l0,_,_,i,rfl,rfl,hl01,?_,?_⟩
  ·unfold ixN;rw[if_pos (by omega),if_pos (by rw[List.length_map];omega)];rfl
  ·have smF:∀ b o,H b=some o→(upd H1 l0 (.lst ((as.map V.ref).set i (.ref ln)))) b=some o:=fun b o e=>by
    rw[ae (az e hl0)];exact sm1 _ _ (sm0 _ _ e)
   refine⟨_,rfl,k _ l0 smF hl0 ⟨as.set i ln,by rw[ah,List.map_set],by rw[List.length_set,List.length_set];exact h2,fun j b l e e'=>?_⟩⟩;rw[List.getElem?_set] at e e';by_cases q:i=j
   ·subst q;rw[if_pos rfl,if_pos hia] at e;rw[if_pos rfl,if_pos hi] at e';cases e;cases e';rw[ae nln];exact hn1
   ·rw[if_neg q] at e e';exact smF _ _ (h3 j b l e e')
end
end My
namespace My
open PySem PySem.Spec PyProof.Rows L2
open Vbexam (augment)
theorem afg {H:Hp}{a b:Addr}{x y:HO}(h:a≠b):upd (upd H a x) b y=upd (upd H b y) a x:=by
 funext c;by_cases e1:c=a
 ·subst e1;rw[ae h,ah,ah]
 ·by_cases e2:c=b
  ·subst e2;rw[ah,ae e1,ah]
  ·rw[ae e2,ae e1,ae e1,ae e2]
def hM (H:Hp) (dm ds:Addr) (ph:Nat→Nat) (ml:List (Nat×Nat)) (seen:List Nat):Hp:=upd (upd H dm (.dK (mk ph ml))) ds (.dK (sk ph seen))
theorem yW {H:Hp}{dm ds:Addr}{ph:Nat→Nat}{ml:List (Nat×Nat)}{seen:List Nat}(ne:dm≠ds):hM H dm ds ph ml seen dm=some (.dK (mk ph ml)):=by
 unfold hM;rw[ae ne,ah]
theorem agQ {H:Hp}{dm ds:Addr}{ph:Nat→Nat}{ml:List (Nat×Nat)}{seen:List Nat}:hM H dm ds ph ml seen ds=some (.dK (sk ph seen)):=ah
theorem am0 {H:Hp}{dm ds:Addr}{ph:Nat→Nat}{ml ml':List (Nat×Nat)}{seen seen':List Nat}(ne:dm≠ds):hM (hM H dm ds ph ml seen) dm ds ph ml' seen'=hM H dm ds ph ml' seen':=by
 unfold hM;rw[← afg ne,b8,b8]
theorem alJ {H:Hp}{dm ds:Addr}{ph:Nat→Nat}{ml ml':List (Nat×Nat)}{seen:List Nat}(ne:dm≠ds):upd (hM H dm ds ph ml seen) dm (.dK (mk ph ml'))=hM H dm ds ph ml' seen:=by
 unfold hM;rw[← afg ne,b8]
theorem akx {H:Hp}{dm ds:Addr}{ph:Nat→Nat}{ml:List (Nat×Nat)}{seen seen':List Nat}:upd (hM H dm ds ph ml seen) ds (.dK (sk ph seen'))=hM H dm ds ph ml seen':=by
 unfold hM;rw[b8]
theorem aky {H:Hp}{dm ds:Addr}{ph:Nat→Nat}{ml:List (Nat×Nat)}{seen:List Nat}(h1:H dm=some (.dK (mk ph ml))) (h2:H ds=some (.dK (sk ph seen))):hM H dm ds ph ml seen=H:=by
 unfold hM;funext c;by_cases e:c=ds
 ·subst e;rw[ah,h2]
 ·rw[ae e];by_cases e':c=dm
  ·subst e';rw[ah,h1]
  ·rw[ae e']
theorem cz.hM {H:Hp}{r dm ds:Addr}{rs:List (List Nat)}{ph:Nat→Nat}{ml ml':List (Nat×Nat)}{seen seen':List Nat}(R:cz H r rs) (h1:H dm=some (.dK (mk ph ml))) (h2:H ds=some (.dK (sk ph seen))) (ne:dm≠ds):cz (hM H dm ds ph ml' seen') r rs:=by
 unfold My.hM;refine(R.dict h1).dict (d:=ds) (kvs:=sk ph seen) ?_;rw[ae ne.symm];exact h2
section
variable {P:Program}{w:World}{K:PySem.W.Frag}{mg:Str→Option Value}{base:Heap}(T:Pg K mg)
structure ai0 (H:Hp) (g:Vbexam.Graph) (n:Nat) (ph:Nat→Nat) (r dm ds:Addr) (ml:List (Nat×Nat)) (m:Vbexam.Match) (seen:List Nat):Prop where
 c:Cdx g n ph
 rd:cz H r (rows ph g)
 hm:H dm=some (.dK (mk ph ml))
 hs:H ds=some (.dK (sk ph seen))
 ne:dm≠ds
 ml:Mt.Ml ml m
 len:m.length=n
 lt:∀ c x,m.getD c 0=x+1→x<g.length
 nd:seen.Nodup
 sn:∀ c∈seen,c<n
def abF (d:Nat):Sp:=fun vs H Q _=>∃ (g:Vbexam.Graph) (n:Nat) (ph:Nat→Nat) (r dm ds:Addr) (i fuel:Nat) (ml:List (Nat×Nat)) (m:Vbexam.Match) (seen:List Nat),
 vs = [.ref r,.ref dm,.ref ds,.int i]∧ai0 H g n ph r dm ds ml m seen∧i<g.length∧n-seen.length<d∧(n-seen.length)*(n+1)+(g.getD i []).length+1≤fuel ∧
 ∀ ml',Mt.Ml ml' (augment g fuel m seen i (g.getD i [])).2.1→Q (.bl (augment g fuel m seen i (g.getD i [])).1) (hM H dm ds ph ml' (augment g fuel m seen i (g.getD i [])).2.2)
theorem ahS:aP P w K mg base CX0 1 T.bQ.f T.bQ.fd ["readings", "matched", "seen", "found"] (abF 0):=by
 refine T.bQ.F.ok pq (fun vs H Q E h=>?_) (fun cdv A outer s₀ H vs Q E hr h=>?_)
 ·obtain⟨g,n,ph,r,dm,ds,i,fuel,ml,m,seen,rfl,_⟩:=h;rfl
 ·obtain⟨g,n,ph,r,dm,ds,i,fuel,ml,m,seen,rfl,S,hi,hd,_⟩:=h;exact absurd hd (Nat.not_lt_zero _)
theorem ahR {d:Nat}(F:aP P w K mg base CX0 (d+1) T.bQ.f T.bQ.fd ["readings", "matched", "seen", "found"] (abF d)):aP P w K mg base CX0 (d+2) T.bQ.f T.bQ.fd ["readings", "matched", "seen", "found"] (abF (d+1)):=by
 refine T.bQ.F.ok pq (fun vs H Q E h=>?_) (fun cdv A outer s₀ H vs Q E hr h=>?_)
 ·obtain⟨g,n,ph,r,dm,ds,i,fuel,ml,m,seen,rfl,_⟩:=h;rfl
 ·obtain⟨g,n,ph,r,dm,ds,i,fuel,ml,m,seen,rfl,S,hi,hd,hf,k⟩:=h;have hu:=bX hr;refine⟨_,ab (fZ PassesOwn.never rfl (cx (mz lq (pv 0) (pv 3) (fun _ _=>rfl))) (aZ (i:=4) pq.nd rfl (Or.inl rfl))
    (ai (aY (mC (oF hu (pv 4) (pv 2)))
     (ab (lB hu (pv 2) (pv 4) fN rfl)
     (ai (aY ((ahc (mC (oF hu (pv 4) (pv 1))) (aeO (bJ (aK F hr (by rfl) T.qT T.bQ.F.kp T.bQ.b .nil aE (aa (pv 0) (aa (pv 1) (aa (pv 2) (aa (aF hu (pv 1) (pv 4) (fun _ _=>rfl)) af))))) (fun _=>rfl)))).pt)
      (ab (lB hu (pv 1) (pv 4) (pv 3) rfl) (ai (ak fN))) aL))) aL)))
   (ai (ak fN)),?_⟩
  obtain⟨as,a,h1,h2,ha,hrow⟩:=S.rd.row (i:=i) (by rw[bE];exact hi);rw[hW] at hrow;have nda:∀ {kvs:List (Key×V)} {b:Addr},H b=some (.dK kvs)→a≠b:=fun h=>cp hrow h (by intro z;cases z);have keepA:∀ (ml':List (Nat×Nat)) (seen':List Nat),hM H dm ds ph ml' seen' a=some (.lst (iv ((g.getD i []).map ph))):=fun ml' seen'=>by
   unfold hM;rw[ae (nda S.hs),ae (nda S.hm)];exact hrow
  refine⟨_,rfl,_,rfl,r,_,_,.ref a,rfl,rfl,SqL.of h1,iT (by rw[List.getElem?_map,ha];rfl),a,rfl,⟨_,SqL.of hrow⟩,?_⟩;have hfew:=S.c.wi.few;generalize hA0:augment g fuel m seen i (g.getD i [])=A0 at k;refine kU (xs:=iv ((g.getD i []).map ph)) (fun t σ H'=>(∃ v4,σ = [some (.ref r),some (.ref dm),some (.ref ds),some (.int i),v4])∧∃ (ml1:List (Nat×Nat)) (seen1:List Nat) (f1:Nat),H'=hM H dm ds ph ml1 seen1∧Mt.Ml ml1 m∧seen1.Nodup∧(∀ c∈seen1,c<n)∧seen.length≤seen1.length ∧
   (n-seen1.length)*(n+1)+((g.getD i []).drop t).length+1≤f1∧A0=augment g f1 m seen1 i ((g.getD i []).drop t))
   ⟨⟨none,rfl⟩,ml,seen,fuel,(aky S.hm S.hs).symm,S.ml,S.nd,S.sn,Nat.le_refl _,hf,hA0.symm⟩ (fun t σ H' _ p=>?_) (fun t x σ H' hx p=>?_) (fun σ H' p=>?_)
  ·obtain⟨_,ml1,seen1,f1,rfl,_⟩:=p;exact SqL.of (keepA _ _)
  ·obtain⟨⟨v4,rfl⟩,ml1,seen1,f1,rfl,M1,nd1,sn1,hle,hf1,ea⟩:=p;unfold iv at hx;rw[List.getElem?_map,List.getElem?_map] at hx;obtain⟨y,hy,e⟩:=Option.map_eq_some_iff.mp hx;obtain⟨c,hc,e'⟩:=Option.map_eq_some_iff.mp hy;subst e' e;have hcm:c∈g.getD i []:=List.mem_of_getElem? hc;have hcn:c<n:=S.c.wi.lt i c hcm;have ht:=(List.getElem?_eq_some_iff.mp hc).1;have hdr:(g.getD i []).drop t=c::(g.getD i []).drop (t+1):=by
    rw[List.drop_eq_getElem_cons ht];rw[List.getElem?_eq_getElem ht] at hc;rw[Option.some.inj hc]
   rw[hdr] at hf1 ea;rw[List.length_cons] at hf1;obtain⟨f,rfl⟩:∃ f,f1=f+1:=⟨f1-1,by omega⟩;unfold augment at ea;have vs1:=aiU S.c.inj hcn sn1;refine⟨_,rfl,_,rfl,ds,_,rfl,hX.k (k:=Sum.inl (ph c:Int)) agQ,_,rfl,?_⟩;rw[vs1];by_cases hs:seen1.contains c=true
   ·
    rw[hs];rw[if_pos hs] at ea;refine cR ?_;exact⟨⟨_,rfl⟩,ml1,seen1,f,rfl,M1,nd1,sn1,hle,by omega,ea⟩
   ·rw[if_neg hs] at ea;have hs':seen1.contains c=false:=by simpa using hs
    have ncs:c ∉ seen1:=fun q=>hs (List.contains_iff_mem.mpr q);rw[hs'];refine cS ?_;have vnone:bg (sk ph seen1) (Sum.inl (ph c:Int))=none:=by
     have:=vs1;rw[hs'] at this;cases e:bg (sk ph seen1) (Sum.inl (ph c:Int)) with
     | none=>rfl
     | some v=>rw[e] at this;cases this
    have nd2:(c::seen1).Nodup:=List.nodup_cons.mpr ⟨ncs,nd1⟩;have sn2:∀ x∈c::seen1,x<n:=fun x hx=>(List.mem_cons.mp hx).elim (fun e=>e ▸ hcn) (sn1 x);have hlen2:(c::seen1).length≤n:=by
     have:=Mt.bZ (m:=List.range n) nd2 fun x hx=>List.mem_range.mpr (sn2 x hx)
     rwa [List.length_range] at this
    rw[List.length_cons] at hlen2;refine⟨_,rfl,_,rfl,ds,_,rfl,mY.k (k:=Sum.inl (ph c:Int)) agQ (bo (by rw[aiw];omega)),?_⟩;rw[ais vnone,akx];have ml1n:∀ p∈ml1,p.1<n:=fun p hp=>S.len ▸ adB M1 p hp;have vm:bg (mk ph ml1) (Sum.inl (ph c:Int))=if m.getD c 0=0 then none else some (V.int ((m.getD c 0-1:Nat):Int)):=by
     rw[val_mk S.c.inj hcn ml1 ml1n,M1.look];by_cases q:m.getD c 0=0
     ·rw[if_pos q,if_pos q];rfl
     ·rw[if_neg q,if_neg q];rfl
    have putL:∀ (ml2:List (Nat×Nat)) (m2:Vbexam.Match) (s2:List Nat),Mt.Ml ml2 m2→m2.length=n→A0=(true,m2.set c (i+1),s2) →
      Q (.bl true) (upd (hM H dm ds ph ml2 s2) dm (.dK (putK (mk ph ml2) (Sum.inl (ph c:Int)) (V.int (i:Int))))):=fun ml2 m2 s2 M2 l2 e2=>by
     rw[al4 S.c.inj hcn (fun p hp=>l2 ▸ adB M2 p hp),alJ S.ne];rw[e2] at k;exact k _ (M2.put (by rw[l2];exact hcn))
    refine⟨_,rfl,_,rfl,dm,_,rfl,hX.k (k:=Sum.inl (ph c:Int)) (yW S.ne),_,rfl,?_⟩;rw[vm];by_cases hz:m.getD c 0=0
    ·
     rw[if_pos hz];simp only[hz,if_true] at ea;refine cS ?_;refine cS ?_;refine⟨_,rfl,_,rfl,_,rfl,dm,_,rfl,mY.k (k:=Sum.inl (ph c:Int)) (yW S.ne) (bo (by have:=adK M1;rw[S.len] at this;rw[ug];omega)),?_⟩;exact putL ml1 m _ M1 S.len ea
    ·rw[if_neg hz];simp only[hz,if_false] at ea;refine cR ?_;have hw:m.getD c 0-1<g.length:=S.lt c (m.getD c 0-1) (by omega);have hrl:=S.c.wi.len (m.getD c 0-1);have fuel2:(n-(c::seen1).length)*(n+1)+(g.getD (m.getD c 0-1) []).length+1≤f:=by
      rw[List.length_cons];have e1:n-seen1.length=(n-(seen1.length+1))+1:=by omega
      rw[e1,Nat.succ_mul] at hf1;omega
     have S2:ai0 (hM H dm ds ph ml1 (c::seen1)) g n ph r dm ds ml1 m (c::seen1):=⟨S.c,S.rd.hM S.hm S.hs S.ne,yW S.ne,agQ,S.ne,M1,S.len,S.lt,nd2,sn2⟩;refine⟨_,rfl,_,rfl,_,rfl,_,rfl,_,rfl,dm,_,rfl,?_,g,n,ph,r,dm,ds,m.getD c 0-1,f,ml1,m,c::seen1,rfl,S2,hw,by rw[List.length_cons];omega,fuel2,fun ml2 M2=>?_⟩
     ·have:=hX.k (k:=Sum.inl (ph c:Int)) (yW (H:=H) (ph:=ph) (ml:=ml1) (seen:=c::seen1) S.ne);rw[vm,if_neg hz] at this;exact this
     have A:=Mt.l7 S.c.wi.lt f m (c::seen1) (m.getD c 0-1) (g.getD (m.getD c 0-1) []) nd2 sn2 (S.c.wi.lt _);generalize augment g f m (c::seen1) (m.getD c 0-1) (g.getD (m.getD c 0-1) [])=x at ea A M2 ⊢;obtain⟨a1,a2,a3,a4,a5⟩:=A;have a4:seen1.length+1≤x.2.2.length:=a4;rw[am0 S.ne];refine⟨_,rfl,?_⟩;cases hx1:x.1 with
     | true=>
      rw[hx1] at ea;simp only[if_true] at ea;refine cS ?_;refine⟨_,rfl,_,rfl,_,rfl,dm,_,rfl,mY.k (k:=Sum.inl (ph c:Int)) (yW S.ne) (bo (by have:=adK M2;rw[a5,S.len] at this;rw[ug];omega)),?_⟩;exact putL ml2 x.2.1 x.2.2 M2 (a5.trans S.len) ea
     | false=>
      rw[hx1] at ea;simp only[Bool.false_eq_true,if_false] at ea;have em:=a1 hx1;rw[em] at ea M2;refine cR ?_;refine⟨⟨_,rfl⟩,ml2,x.2.2,f,rfl,M2,a2,a3,by omega,?_,ea⟩;have e1:(n-x.2.2.length)*(n+1)≤(n-seen1.length)*(n+1):=Nat.mul_le_mul_right _ (by omega);omega
  ·obtain⟨⟨v4,rfl⟩,ml1,seen1,f1,rfl,M1,nd1,sn1,hle,hf1,ea⟩:=p;rw[cc,List.length_map,List.drop_length] at ea;have:augment g f1 m seen1 i []=(false,m,seen1):=by cases f1 <;> rfl
   rw[this] at ea;rw[ea] at k;exact k ml1 M1
theorem wI:∀ d,aP P w K mg base CX0 (d+1) T.bQ.f T.bQ.fd ["readings", "matched", "seen", "found"] (abF d)
 | 0=>ahS T
 | d+1=>ahR T (wI d)
def ak4:Sp:=fun vs H Q _=>∃ (g:Vbexam.Graph) (n:Nat) (ph:Nat→Nat) (r:Addr),vs = [.ref r]∧Cdx g n ph∧cz H r (rows ph g) ∧
 ∀ (H':Hp) (dm:Addr) (ml:List (Nat×Nat)),ao H H'→H dm=none→H' dm=some (.dK (mk ph ml))→Mt.Ml ml (Vbexam.matched g n)→Q (.ref dm) H'
theorem kY:aP P w K mg base CX0 13 T.b9.f T.b9.fd ["readings"] ak4:=by
 refine T.b9.F.ok k5 (fun vs H Q E h=>?_) (fun cdv A outer s₀ H vs Q E hr h=>?_)
 ·obtain⟨g,n,ph,r,rfl,_⟩:=h;rfl
 ·obtain⟨g,n,ph,r,rfl,C,R,k⟩:=h;have hu:=bX hr;refine⟨_,ab (aJ (i:=1) k5.nd rfl (Or.inl rfl) nv)
   (ab (fZ PassesOwn.never rfl (sy (by rfl) T.jL (aa (a6 bB (by rfl) T.cU PySem.boot_len (aa (pv 0) af)) af)) (aZ (i:=2) k5.nd rfl (Or.inl rfl))
    (ai (dZ (aK (wI T 11) hr rfl T.qT T.bQ.F.kp T.bQ.b .nil aE (aa (pv 0) (aa (pv 1) (aa nv (aa (pv 2) af))))))))
   (ai (ak (pv 1)))),?_⟩
  intro dm hdm;have sm0:ao H (upd H dm (.dK [])):=bO (ao.refl _) hdm _;obtain⟨as,h1,h2,h3⟩:=R;rw[bE] at h2;have hfew:=C.few;refine⟨_,rfl,r,_,rfl,.inl (SqL.of (sm0 _ _ h1)),_,rfl,by omega,?_,?_⟩
  ·rw[List.length_map];omega
  rw[List.length_map,h2,Int.toNat_natCast];refine ahT (lo:=0) (n:=g.length) (fun i σ H'=>(∃ v2,σ = [some (.ref r),some (.ref dm),v2])∧i≤g.length∧ao H H'∧∃ ml,H' dm=some (.dK (mk ph ml))∧Mt.Ml ml ((List.range i).foldl (fun m i=>(augment g Vbexam.FUEL m [] i (g.getD i [])).2.1) (List.replicate n 0)))
   ⟨⟨none,rfl⟩,Nat.zero_le _,sm0,[],ah,Mt.Ml.nil⟩ (fun i σ H' hi p=>?_) (fun σ H' p=>?_)
  ·obtain⟨⟨v2,rfl⟩,hil,sm,ml,hm,M⟩:=p;have U:=Mt.yK C.wi i hil;obtain⟨m,em⟩:∃ m,m=(List.range i).foldl (fun m i=>(augment g Vbexam.FUEL m [] i (g.getD i [])).2.1) (List.replicate n 0):=⟨_,rfl⟩;rw[← em] at M U;refine⟨_,rfl,_,rfl,fun ds hds=>?_⟩;have ne:dm≠ds:=fun e=>by rw[← e,hm] at hds;cases hds
   have S:ai0 (upd H' ds (.dK [])) g n ph r dm ds ml m []:=⟨C,(cz.keep ⟨as,h1,by rw[bE];exact h2,h3⟩ sm).keep (bO (ao.refl _) hds _),by rw[ae ne];exact hm,ah,ne,M,U.good.len,fun c x e=>Nat.lt_of_lt_of_le (U.below c x e) hil,List.nodup_nil,fun c hc=>by cases hc⟩;have hfw:=C.wi.few;refine⟨_,rfl,g,n,ph,r,dm,ds,i,Vbexam.FUEL,ml,m,[],?_,S,hi,?_,?_,fun ml' M'=>?_⟩
   ·show[V.ref r,V.ref dm,V.ref ds,V.int (0+(i:Int))]=_;rw[Int.zero_add]
   ·show n-0<11;omega
   ·have h1:=C.wi.len i;have h2:(n-0)*(n+1)≤10*11:=Nat.mul_le_mul (by omega) (by omega);show(n-0)*(n+1)+(g.getD i []).length+1≤400;omega
   ·refine⟨⟨_,rfl⟩,hi,fun b o e=>?_,ml',yW ne,?_⟩
    ·unfold hM;rw[ae (az (sm b o e) hds),ae (az e hdm),ae (az (sm b o e) hds)];exact sm b o e
    ·rw[List.range_succ,List.foldl_append,← em];exact M'
  ·obtain⟨⟨v2,rfl⟩,hil,sm,ml,hm,M⟩:=p;exact⟨_,rfl,k H' dm ml sm hdm hm M⟩
def aiE:Sp:=fun vs H Q _=>∃ (g:Vbexam.Graph) (n:Nat) (ph:Nat→Nat) (r:Addr),vs = [.ref r]∧Cdx g n ph∧cz H r (rows ph g)∧∀ H',ao H H'→Q (.int (Vbexam.size g n:Nat)) H'
theorem fY:aP P w K mg base CX0 14 T.bp.f T.bp.fd ["readings"] aiE:=by
 refine T.bp.F.ok aaD (fun vs H Q E h=>?_) (fun cdv A outer s₀ H vs Q E hr h=>?_)
 ·obtain⟨g,n,ph,r,rfl,_⟩:=h;rfl
 ·obtain⟨g,n,ph,r,rfl,C,R,k⟩:=h;refine⟨_,ai (ak (a6 oq (by rfl) T.cU PySem.boot_len (aa (aK (kY T) hr rfl T.jb T.b9.F.kp T.b9.b .nil aE (aa (pv 0) af)) af))),?_⟩;refine⟨_,rfl,g,n,ph,r,rfl,C,R,fun H' dm ml sm hdm hm M=>⟨dm,_,rfl,hm,?_⟩⟩;rw[ug,M.length];exact k H' sm
end
end My
namespace My
open PySem PySem.Spec PyProof.Rows L2
open Vbexam (size dropCode dropEdge)
theorem ab2 (xs:List V):ve xs (some 1) none=xs.drop 1:=by
 unfold ve;rw[show HT.sIx xs.length 0 (some 1)=min 1 xs.length from HT.akZ xs.length 0 1,HT.ajE];cases xs with
 | nil=>rfl
 | cons a l=>simp
theorem akr {l:List Nat}{p:Nat→Bool}{t c:Nat}(h:l[t]?=some c) (hn:∀ x∈l.take t,p x=false) (hc:p c=true):l.find? p=some c:=by
 have ht:=(List.getElem?_eq_some_iff.mp h).1;have e:l=l.take t++c::l.drop (t+1):=by
  conv=>lhs;rw[← List.take_append_drop t l]
  rw[List.drop_eq_getElem_cons ht];rw[List.getElem?_eq_getElem ht] at h;rw[Option.some.inj h]
 rw[e,List.find?_append,List.find?_cons_of_pos hc];have:(l.take t).find? p=none:=List.find?_eq_none.mpr fun x hx=>by rw[hn x hx];decide
 rw[this];rfl
theorem aks {l:List Nat}{p:Nat→Bool}(h:∀ x∈l,p x=false):l.find? p=none:=List.find?_eq_none.mpr fun x hx=>by rw[h x hx];decide
theorem t8 (z:Nat) (l:List Nat):inV (.int (z:Int)) (iv l)=l.contains z:=by
 unfold inV iv;rw[List.any_map,Bool.eq_iff_iff,List.any_eq_true,List.contains_iff_mem];constructor
 ·rintro⟨x,hx,e⟩;have e:((x:Int) == (z:Int))=true:=e;have:x=z:=by
   have:=eq_of_beq e;omega
  rw[← this];exact hx
 ·intro h;exact⟨z,h,by show((z:Int) == (z:Int))=true;exact beq_self_eq_true _⟩
theorem yV (l:List Nat):(iv l).all pS=true:=by
 unfold iv;rw[List.all_map];exact List.all_eq_true.mpr fun _ _=>rfl
def lab (ph:Nat→Nat) (x:Nat):Nat:=if x=0 then 0 else ph (x-1)
section
variable {P:Program}{w:World}{K:PySem.W.Frag}{mg:Str→Option Value}{base:Heap}(T:Pg K mg)
def ajL:Sp:=fun vs H Q _=>∃ (l:List Nat) (g:Vbexam.Graph) (n:Nat) (ph:Nat→Nat) (r:Addr) (most:Nat),vs = [.ref r,.int most]∧Cdx (l::g) n ph∧cz H r (rows ph (l::g)) ∧
 ∀ H',ao H H'→Q (.int ((match Mt.pick n l g most with|some j=>ph j|none=>0:Nat):Int)) H'
theorem aci:aP P w K mg base CX0 15 T.fC.f T.fC.fd ["readings", "most"] ajL:=by
 refine T.fC.F.ok uo (fun vs H Q E h=>?_) (fun cdv A outer s₀ H vs Q E hr h=>?_)
 ·obtain⟨l,g,n,ph,r,most,rfl,_⟩:=h;rfl
 ·obtain⟨l,g,n,ph,r,most,rfl,C,R,k⟩:=h;obtain⟨u0,g0,r0⟩:=T.mn;have hr2:bh 2 _:=hr.mono (by decide);refine⟨_,ab (fZ PassesOwn.never rfl (cx (mz lq (pv 0) aw (fun _ _=>rfl))) (aZ (i:=2) uo.nd rfl (Or.inl rfl))
    (ai (aY (aQ iI (fw yc aw (aK (fY T) hr rfl T.fm T.bp.F.kp T.bp.b .nil aE (aa (aK (kZ T) hr2 rfl T.jc T.cb.F.kp T.cb.b .nil aE (aa (aap agh (pv 0) (acn aw) acm) (aa (pv 2) af))) af))) (pv 1) (aX _))
     (ai (ak (pv 2))) aL)))
   (ai (ak (cK rfl g0 r0))),?_⟩
  obtain⟨as,a,h1,h2,ha,hrow⟩:=R.row (i:=0) (by rw[bE];exact Nat.succ_pos _);have hrow:H a=some (.lst (iv (l.map ph))):=hrow;have Cg:Cdx g n ph:=C.drop 1;have hln:∀ c∈l,c<n:=C.wi.lt 0;have hfew:=C.few;rw[List.length_cons] at hfew;refine⟨_,rfl,r,_,_,.ref a,rfl,rfl,SqL.of h1,iT (j:=0) (by rw[List.getElem?_map,ha];rfl),a,rfl,⟨_,SqL.of hrow⟩,?_⟩;refine kU (xs:=iv (l.map ph)) (fun t σ H'=>(∃ v2,σ = [some (.ref r),some (.int most),v2])∧ao H H'∧∀ c∈l.take t,(1+size (dropCode g c) n == most)=false) ⟨⟨none,rfl⟩,ao.refl _,fun c hc=>by simp at hc⟩ (fun t σ H' _ p=>SqL.of (p.2.1 _ _ hrow)) (fun t x σ H' hx p=>?_) (fun σ H' p=>?_)
  ·obtain⟨⟨v2,rfl⟩,sm,hno⟩:=p;unfold iv at hx;rw[List.getElem?_map,List.getElem?_map] at hx;obtain⟨y,hy,e⟩:=Option.map_eq_some_iff.mp hx;obtain⟨c,hc,e'⟩:=Option.map_eq_some_iff.mp hy;subst e' e;have hcn:c<n:=hln c (List.mem_of_getElem? hc);obtain⟨as',q1,q2,q3⟩:=R;refine⟨_,rfl,_,rfl,r,_,rfl,SqL.of (sm _ _ q1),fun lp hlp=>?_⟩;rw[ab2];have smp:=bO sm hlp (.lst ((as'.map V.ref).drop 1));have Rp:cz (upd H' lp (.lst ((as'.map V.ref).drop 1))) lp (rows ph g):=⟨as'.drop 1,by rw[ah,List.map_drop],by rw[List.length_drop,q2];rfl,fun i b l' e e'=>by
    rw[List.getElem?_drop] at e;refine smp _ _ (q3 (1+i) b l' e ?_);show(l.map ph::rows ph g)[1+i]?=some l';rw[Nat.add_comm];exact e'⟩
   refine⟨_,rfl,lp,rows ph g,ph c,rfl,Rp,by rw[bE];omega,mD Cg,fun H1 rr sm1 hrr R1=>?_⟩;rw[yw Cg hcn] at R1;refine⟨dropCode g c,n,ph,rr,rfl,Cg.code c,R1.rd,fun H2 sm2=>⟨_,_,rfl,rfl,_,rfl,rfl,_,rfl,?_⟩⟩;have smA:ao H H2:=(smp.trans sm1).trans sm2;refine a8 (fun e=>?_) (fun e=>?_)
   ·have e:(1+size (dropCode g c) n == most)=true:=by
     have e:(1:Int)+(size (dropCode g c) n:Nat)=most:=by simpa using e
     rw[beq_iff_eq];omega
    have:Mt.pick n l g most=some c:=akr hc hno e;rw[this] at k;exact⟨_,rfl,k H2 smA⟩
   ·have e:(1+size (dropCode g c) n == most)=false:=by
     have e:¬ (1:Int)+(size (dropCode g c) n:Nat)=most:=by simpa using e
     rw[beq_eq_false_iff_ne];omega
    refine⟨⟨_,rfl⟩,smA,fun x hx=>?_⟩;rw[take_snoc hc] at hx;rcases List.mem_append.mp hx with q|q
    ·exact hno x q
    ·rw[List.mem_singleton.mp q];exact e
  ·obtain⟨⟨v2,rfl⟩,sm,hno⟩:=p;rw[cc,List.length_map,List.take_length] at hno;have:Mt.pick n l g most=none:=aks hno;rw[this] at k;exact k H' sm
def ajM:Sp:=fun vs H Q _=>∃ (g:Vbexam.Graph) (n:Nat) (ph:Nat→Nat) (r:Addr),vs = [.ref r]∧Cdx g n ph∧(∀ j,j<n→ph j≠0)∧cz H r (rows ph g)∧m4 H (iv ((Mt.c4 n g.length g (size g n)).map (lab ph))) Q
theorem tI:aP P w K mg base CX0 16 T.cv.f T.cv.fd ["readings"] ajM:=by
 refine T.cv.F.ok cg (fun vs H Q E h=>?_) (fun cdv A outer s₀ H vs Q E hr h=>?_)
 ·obtain⟨g,n,ph,r,rfl,_⟩:=h;rfl
 ·obtain⟨g,n,ph,r,rfl,C,pos,R,k⟩:=h;obtain⟨u0,g0,r0⟩:=T.mn;have hr2:bh 2 _:=hr.mono (by decide);have hr14:bh 14 _:=hr.mono (by decide);refine⟨_,ab (aJ (i:=1) cg.nd rfl (Or.inl rfl) (aS af))
   (ab (aJ (i:=2) cg.nd rfl (Or.inl rfl) (aK (fY T) hr14 rfl T.fm T.bp.F.kp T.bp.b .nil aE (aa (pv 0) af)))
   (ab (aJ (i:=3) cg.nd rfl (Or.inl rfl) (pv 0))
   (ab (k3 PassesOwn.never (aQ abw (a6 bB (by rfl) T.cU PySem.boot_len (aa (pv 3) af)) aw (aX _))
    (ab (aJ (i:=4) cg.nd rfl (Or.inl rfl) (aK (aci T) hr rfl T.wF T.fC.F.kp T.fC.b .nil aE (aa (pv 3) (aa (pv 2) af))))
    (ab (aY (aQ fc (pv 4) (cK rfl g0 r0) (aX _)) (ai (air (i:=2) cg.nd rfl (Or.inl rfl) aw alM)) aL)
    (ab (aJ (i:=3) cg.nd rfl (Or.inl rfl) (aK (kZ T) hr2 rfl T.jc T.cb.F.kp T.cb.b .nil aE (aa (aap agh (pv 3) (acn aw) acm) (aa (pv 4) af))))
    (ai (dZ (my PySem.F.plainAttrs_list PySem.F.slot_list_append PySem.F.type_list_append hU (pv 1) (aa (pv 4) af))))))))
   (ai (ak (pv 1)))))),?_⟩
  refine⟨(by show 0≤sizeLine;decide),fun lc hlc=>?_⟩;have sm0:=bO (ao.refl H) hlc (.lst []);refine⟨_,rfl,g,n,ph,r,rfl,C,R.keep sm0,fun H1 sm1=>?_⟩;refine⟨_,rfl,?_⟩;have hlc1:H1 lc=some (.lst []):=sm1 _ _ ah;refine⟨fun m σ H'=>∃ (g':Vbexam.Graph) (most:Nat) (rr:Addr) (done:List Nat) (v4:Option V),σ = [some (.ref r),some (.ref lc),some (.int most),some (.ref rr),v4]∧m=g'.length∧Cdx g' n ph∧cz H' rr (rows ph g')∧ao H H'∧H' lc=some (.lst (iv (done.map (lab ph))))∧done.length+g'.length=g.length ∧
   done++Mt.c4 n g'.length g' most=Mt.c4 n g.length g (size g n),⟨g.length,g,size g n,r,[],none,rfl,rfl,C,(R.keep sm0).keep sm1,sm0.trans sm1,hlc1,by simp,rfl⟩,?_⟩
  rintro m σ H' ⟨g',most,rr,done,v4,rfl,rfl,C',R',sm,hl,hlen,hd⟩;obtain⟨as,h1,h2,h3⟩:=id R';rw[bE] at h2;refine⟨_,rfl,rr,_,rfl,.inl (SqL.of h1),_,_,rfl,rfl,_,rfl,?_⟩;rw[List.length_map,h2];refine a8 (fun e=>?_) (fun e=>?_)
  ·have e:0<g'.length:=by
    have e:(0:Int)<g'.length:=by simpa using e
    omega
   obtain⟨l,t,rfl⟩:∃ l t,g'=l::t:=by
    cases g' with
    | nil=>simp at e
    | cons l t=>exact⟨l,t,rfl⟩
   have Ct:Cdx t n ph:=C'.drop 1;have hfew:=C.few;have hln:∀ c∈l,c<n:=C'.wi.lt 0;refine⟨fun σ' H''=>∃ (g2:Vbexam.Graph) (most:Nat) (rr:Addr) (done:List Nat) (v4:Option V),σ' = [some (.ref r),some (.ref lc),some (.int most),some (.ref rr),v4]∧t.length=g2.length∧Cdx g2 n ph∧cz H'' rr (rows ph g2)∧ao H H''∧H'' lc=some (.lst (iv (done.map (lab ph))))∧done.length+g2.length=g.length ∧
    done++Mt.c4 n g2.length g2 most=Mt.c4 n g.length g (size g n),fun σ' H'' ⟨g2,m2,rr2,d2,v,q1,q2,q⟩=>⟨t.length,Nat.lt_succ_self _,g2,m2,rr2,d2,v,q1,q2,q⟩,?_⟩
   refine⟨_,rfl,_,rfl,l,t,n,ph,rr,most,rfl,C',R',fun H2 sm2=>?_⟩;have hl2:=sm2 _ _ hl;have h12:=sm2 _ _ h1;have step:∀ x,Mt.c4 n (l::t).length (l::t) most=x→done++x=Mt.c4 n g.length g (size g n):=fun x e=>by rw[← e];exact hd
   cases hp:Mt.pick n l t most with
   | some j=>
    have hj:=hln j (Mt.aeI hp);have hm1:1+size (dropCode t j) n=most:=by
     have:=List.find?_some hp;simpa using this
    have ep:Mt.c4 n (l::t).length (l::t) most=(j+1)::Mt.c4 n t.length (dropCode t j) (most-1):=by
     show(match Mt.pick n l t most with|some j=>_|none=>_)=_;rw[hp]
    refine⟨_,rfl,rfl,_,rfl,?_⟩;rw[show(!decide (V.int ((ph j:Nat):Int)=V.int 0))=true by
     have:=pos j hj;simp;exact this]
    refine cS ⟨_,rfl,_,_,rfl,rfl,?_⟩;refine⟨_,rfl,_,rfl,rr,_,rfl,SqL.of h12,fun lp hlp=>?_⟩;rw[ab2];have smp:=bO (ao.refl H2) hlp (.lst ((as.map V.ref).drop 1));have Rp:cz (upd H2 lp (.lst ((as.map V.ref).drop 1))) lp (rows ph t):=⟨as.drop 1,by rw[ah,List.map_drop],by rw[List.length_drop,h2,bE];rfl,fun i b l' e e'=>by
     rw[List.getElem?_drop] at e;refine smp _ _ (sm2 _ _ (h3 (1+i) b l' e ?_));show(l.map ph::rows ph t)[1+i]?=some l';rw[Nat.add_comm];exact e'⟩
    refine⟨_,rfl,lp,rows ph t,ph j,rfl,Rp,by rw[bE];rw[List.length_cons] at hlen;omega,mD Ct,fun H3 rr2 sm3 hrr R3=>?_⟩;rw[yw Ct hj] at R3;have hl3:H3 lc=some (.lst (iv (done.map (lab ph)))):=sm3 _ _ (smp _ _ hl2);have hlu:(upd H2 lp (.lst ((as.map V.ref).drop 1))) lc=some (.lst (iv (done.map (lab ph)))):=smp _ _ hl2;refine⟨_,rfl,.inl ⟨rfl,_,SqL.of hl3⟩,_,rfl,lc,_,_,rfl,rfl,hl3,bo (by rw[cc,List.length_map];omega),?_⟩;refine⟨dropCode t j,most-1,rr2,done++[j+1],some (.int ((ph j:Nat):Int)),?_,?_,Ct.code j,R3.upd hlu hrr,fun b o q=>?_,?_,?_,?_⟩
    ·show[some (V.ref r),some (V.ref lc),some (V.int ((most:Int)-1)),some (V.ref rr2),some (V.int ((ph j:Nat):Int))]=_;rw[show(most:Int)-1=((most-1:Nat):Int) by omega]
    ·exact Mt.cD.symm
    ·rw[ae (az q hlc)];exact sm3 _ _ (smp _ _ (sm2 _ _ (sm b o q)))
    ·rw[ah,List.map_append];unfold iv;rw[List.map_append];rfl
    ·rw[List.length_append,Mt.cD];rw[List.length_cons] at hlen;simp;omega
    ·rw[List.append_assoc,Mt.cD];exact step _ ep
   | none=>
    have ep:Mt.c4 n (l::t).length (l::t) most=0::Mt.c4 n t.length t most:=by
     show(match Mt.pick n l t most with|some j=>_|none=>_)=_;rw[hp]
    refine⟨_,rfl,rfl,_,rfl,?_⟩;refine cR ?_;refine⟨_,rfl,_,rfl,rr,_,rfl,SqL.of h12,fun lp hlp=>?_⟩;rw[ab2];have smp:=bO (ao.refl H2) hlp (.lst ((as.map V.ref).drop 1));have Rp:cz (upd H2 lp (.lst ((as.map V.ref).drop 1))) lp (rows ph t):=⟨as.drop 1,by rw[ah,List.map_drop],by rw[List.length_drop,h2,bE];rfl,fun i b l' e e'=>by
     rw[List.getElem?_drop] at e;refine smp _ _ (sm2 _ _ (h3 (1+i) b l' e ?_));show(l.map ph::rows ph t)[1+i]?=some l';rw[Nat.add_comm];exact e'⟩
    refine⟨_,rfl,lp,rows ph t,0,rfl,Rp,by rw[bE];rw[List.length_cons] at hlen;omega,mD Ct,fun H3 rr2 sm3 hrr R3=>?_⟩;rw[aiu (fun i x hx=>pos x (Ct.wi.lt i x hx))] at R3;have hl3:H3 lc=some (.lst (iv (done.map (lab ph)))):=sm3 _ _ (smp _ _ hl2);have hlu:(upd H2 lp (.lst ((as.map V.ref).drop 1))) lc=some (.lst (iv (done.map (lab ph)))):=smp _ _ hl2;refine⟨_,rfl,.inl ⟨rfl,_,SqL.of hl3⟩,_,rfl,lc,_,_,rfl,rfl,hl3,bo (by rw[cc,List.length_map];omega),?_⟩;refine⟨t,most,rr2,done++[0],some (.int 0),?_,?_,Ct,R3.upd hlu hrr,fun b o q=>?_,?_,?_,?_⟩
    ·rfl
    ·rfl
    ·rw[ae (az q hlc)];exact sm3 _ _ (smp _ _ (sm2 _ _ (sm b o q)))
    ·rw[ah,List.map_append];unfold iv;rw[List.map_append];rfl
    ·rw[List.length_append];rw[List.length_cons] at hlen;simp;omega
    ·rw[List.append_assoc];exact step _ ep
  ·have e:g' = []:=by
    have e:¬ (0:Int)<g'.length:=by simpa using e
    exact List.length_eq_zero_iff.mp (by omega)
   subst e;have hd:done=Mt.c4 n g.length g (size g n):=by
    rw[← hd];exact(List.append_nil _).symm
   rw[hd] at hl;exact⟨_,rfl,k H' lc sm hlc hl⟩
end
end My
namespace My
open PySem PySem.Spec PyProof.Rows L2
open Vbexam (size dropCode dropEdge matched)
def p9 (ph:Nat→Nat) (test:Nat×Nat→Bool) (f:Nat→Nat) (l:List (Nat×Nat)):Nat→Nat:=l.foldl (fun f p=>if test p=true then fun x=>if x=p.2 then ph p.1 else f x else f) f
theorem vZ {ph:Nat→Nat}{test:Nat×Nat→Bool}{x:Nat}:∀ (l:List (Nat×Nat)) (f:Nat→Nat),(∀ p∈l,p.2=x→test p=false)→p9 ph test f l x=f x
 | [],f,_=>rfl
 | p::l,f,h=>by
  show p9 ph test (if test p=true then fun x=>if x=p.2 then ph p.1 else f x else f) l x=f x;rw[vZ l _ fun q hq=>h q (List.mem_cons_of_mem _ hq)];by_cases t:test p=true
  ·rw[if_pos t];have:¬ x=p.2:=fun e=>by rw[h p (List.mem_cons_self ..) e.symm] at t;cases t
   show(if x=p.2 then _ else _)=_;rw[if_neg this]
  ·rw[if_neg t]
theorem ac5 {ph:Nat→Nat}{test:Nat×Nat→Bool}{x:Nat}:∀ (l:List (Nat×Nat)) (f:Nat→Nat) (p:Nat×Nat),p∈l→p.2=x→test p=true→(∀ q∈l,q.2=x→q=p)→p9 ph test f l x=ph p.1
 | [],f,p,h,_,_,_=>by cases h
 | q::l,f,p,h,e,t,u=>by
  show p9 ph test (if test q=true then fun x=>if x=q.2 then ph q.1 else f x else f) l x=ph p.1;by_cases hq:p∈l
  ·exact ac5 l _ p hq e t fun y hy=>u y (List.mem_cons_of_mem _ hy)
  ·have:p=q:=(List.mem_cons.mp h).resolve_right hq;subst this;rw[vZ l _ fun y hy ey=>by
    have:=u y (List.mem_cons_of_mem _ hy) ey;subst this;exact absurd hy hq,if_pos t]
   show(if x=p.2 then _ else _)=_;rw[if_pos e.symm]
theorem ajT {g:Vbexam.Graph}{n:Nat}{ph:Nat→Nat}(W:Mt.Within g n) {ml:List (Nat×Nat)}(M:Mt.Ml ml (matched g n)) (x:Nat) :
  p9 ph (fun p=>decide (size (dropEdge g p.2 p.1) n<size g n)) (fun _=>0) ml x=lab ph (Mt.yZ g n x):=by
 obtain⟨G,_⟩:=Mt.eI W;unfold Mt.yZ;cases e:Mt.at_ (matched g n) x with
 | none=>
  rw[vZ ml _ fun p hp ep=>?_]
  ·rfl
  ·have:=(M.iff p.1 p.2).mp hp;rw[ep] at this;exact absurd this (Mt.qh e)
 | some j=>
  have hm:(j,x)∈ml:=(M.iff j x).mpr (Mt.eK e);have uni:∀ q∈ml,q.2=x→q=(j,x):=fun q hq eq=>by
   have:=(M.iff q.1 q.2).mp hq;rw[eq] at this;have:q.1=j:=G.inj _ _ _ this (Mt.eK e);exact Prod.ext this eq
  show _=lab ph (if size (dropEdge g x j) n<size g n then j+1 else 0);by_cases t:size (dropEdge g x j) n<size g n
  ·rw[if_pos t,ac5 ml _ (j,x) hm rfl (decide_eq_true t) uni];rfl
  ·rw[if_neg t,vZ ml _ fun q hq eq=>?_]
   ·rfl
   ·rw[uni q hq eq];exact decide_eq_false t
theorem adx {f:Nat→Nat}{n i v:Nat}(hi:i<n):(iv ((List.range n).map f)).set i (V.int (v:Nat))=iv ((List.range n).map fun x=>if x=i then v else f x):=by
 refine List.ext_getElem? fun x=>?_;unfold iv;rw[List.getElem?_set,List.getElem?_map,List.getElem?_map,List.getElem?_map,List.getElem?_map];by_cases h:x<n
 ·rw[List.getElem?_range h];by_cases e:i=x
  ·subst e;simp[hi]
  ·rw[if_neg e];simp;rw[if_neg (fun z=>e z.symm)]
 ·rw[List.getElem?_eq_none (l:=List.range n) (by rw[List.length_range];omega),if_neg (by omega)];rfl
section
variable {P:Program}{w:World}{K:PySem.W.Frag}{mg:Str→Option Value}{base:Heap}(T:Pg K mg)
def ajR:Sp:=fun vs H Q _=>∃ (g:Vbexam.Graph) (n:Nat) (ph:Nat→Nat) (r:Addr),vs = [.ref r]∧Cdx g n ph∧cz H r (rows ph g)∧m4 H (iv ((List.range g.length).map fun i=>lab ph (Mt.yZ g n i))) Q
theorem aez:aP P w K mg base CX0 15 T.gE.f T.gE.fd ["readings"] ajR:=by
 refine T.gE.F.ok g7 (fun vs H Q E h=>?_) (fun cdv A outer s₀ H vs Q E hr h=>?_)
 ·obtain⟨g,n,ph,r,rfl,_⟩:=h;rfl
 ·obtain⟨g,n,ph,r,rfl,C,R,k⟩:=h;obtain⟨u0,g0,r0⟩:=T.mn;have hr2:bh 2 _:=hr.mono (by decide);have hr13:bh 13 _:=hr.mono (by decide);refine⟨_,ab (aJ (i:=1) g7.nd rfl (Or.inl rfl) (aK (kY T) hr13 rfl T.jb T.b9.F.kp T.b9.b .nil aE (aa (pv 0) af)))
   (ab (vH (i:=2) (own:=[("labels",5)]) (g:=cH 5) (te:=tC (.int 0)) (tt:=kq) rfl g7.nd rfl rfl rfl (cx (pv 0)) ?bk ?gg ?tt ?ee)
   (ab (nA (fZ PassesOwn.never rfl (aas (pv 1)) (abz rfl (jE (aZ (i:=3) g7.nd rfl (Or.inl rfl)) (jE (aZ (i:=4) g7.nd rfl (Or.inl rfl)) y2)))
    (ai (aY (aQ abx (aK (fY T) hr rfl T.fm T.bp.F.kp T.bp.b .nil aE (aa (aK (yb T) hr2 rfl T.pM T.dv.F.kp T.dv.b .nil aE (aa (pv 0) (aa (pv 4) (aa (pv 3) af)))) af)) (a6 ahy (by rfl) T.cU PySem.boot_len (aa (pv 1) af)) (aX _))
     (ai (aiq (pv 3) (aio (pv 2) (pv 4) set_list))) aL))))
   (ai (ak (pv 2))))),?rd⟩
  case bk=>
   show d4 (["readings", "matched", "sure", "label", "found", "labels"]:List Str) (aj oe) _ _;exact⟨rfl,by decide +kernel,by decide +kernel,by decide +kernel,by decide +kernel⟩
  case gg=>exact fun _ _ _ _ _=>aZ (i:=5) g7.nd rfl (Or.inl rfl) (Or.inr rfl)
  case tt=>exact fun _ _ _ _ _=>lD
  case ee=>exact fun _ _ _ _ _=>cK rfl g0 r0
  have hfew:=C.few;refine⟨_,rfl,g,n,ph,r,rfl,C,R,fun H1 dm ml sm1 hdm hm M=>?_⟩;obtain⟨as,q1,q2,q3⟩:=id (R.keep sm1);rw[bE] at q2;refine⟨_,rfl,r,rfl,⟨_,SqL.of q1⟩,fun D hD=>?_⟩;refine dS as (fun a=>V.ref a) (fun _=>true) (fun _=>V.int 0) q1 hD (by omega) (fun i x H' hi sm R1 R' hR hR'=>⟨rfl,yes (hR' H' (ao.refl _) rfl)⟩) (fun H2 sm2 hD2=>?_);rw[hE] at hD2;have hD2:H2 D=some (.lst (iv ((List.range g.length).map (p9 ph (fun p=>decide (size (dropEdge g p.2 p.1) n<size g n)) (fun _=>0) [])))):=by
   rw[hD2];refine congrArg (fun z=>some (HO.lst z)) (List.ext_getElem? fun x=>?_);unfold iv;rw[List.getElem?_map,List.getElem?_map,List.getElem?_map];by_cases h:x<g.length
   ·rw[List.getElem?_range h,List.getElem?_eq_getElem (by omega)];rfl
   ·rw[List.getElem?_eq_none (by omega),List.getElem?_eq_none (l:=List.range _) (by rw[List.length_range];omega)];rfl
  have hm2:=sm2 _ _ hm;refine⟨dm,_,hm2,trivial,fun od=>?_⟩;have nD:D≠dm:=fun e=>by rw[e,hm] at hD;cases hD
  have sm12:ao H H2:=sm1.trans sm2;have hdl:∀ {b:Addr} {o:HO},H b=some o→b≠dm:=fun e=>az e hdm;have hDl:∀ {b:Addr} {o:HO},H b=some o→b≠D:=fun e=>az e (sm1.free hD);have lenS:size g n=ml.length:=M.length.symm;refine⟨_,rfl,dm,od,_,rfl,ah,?_⟩;refine xP (fun t σ H'=>(∃ v3 v4,σ = [some (.ref r),some (.ref dm),some (.ref D),v3,v4,none])∧ao H H'∧H' dm=some (.frz od (.dK (mk ph ml)))∧H' D=some (.lst (iv ((List.range g.length).map (p9 ph (fun p=>decide (size (dropEdge g p.2 p.1) n<size g n)) (fun _=>0) (ml.take t))))))
   ⟨⟨none,none,rfl⟩,fun b o e=>by rw[ae (hdl e)];exact sm12 b o e,ah,by rw[ae nD];exact hD2⟩ (fun t σ H' _ p=>p.2.2.1) (fun t kk v σ H' Tt hk p hT=>?_) (fun σ H' p=>?_)
  ·obtain⟨⟨v3,v4,rfl⟩,sm,hf,hs⟩:=p;unfold mk at hk;rw[List.getElem?_map] at hk;obtain⟨pr,hpr,e⟩:=Option.map_eq_some_iff.mp hk;cases e;have hprm:=List.mem_of_getElem? hpr;have hj:pr.1<n:=Mt.tF C.wi ▸ adB M pr hprm;obtain⟨G,_⟩:=Mt.eI C.wi;obtain⟨hi,_⟩:=G.bu pr.1 pr.2 ((M.iff pr.1 pr.2).mp hprm);have smT:ao H' (upd H' Tt (.tup [V.int ((ph pr.1:Nat):Int),V.int ((pr.2:Nat):Int)])):=bO (ao.refl _) hT _;refine⟨Tt,_,rfl,SqT.of ah,rfl,_,_,rfl,_,_,rfl,rfl,?_⟩;have et:ml.take (t+1)=ml.take t++[pr]:=take_snoc hpr;have Rr:=R.keep (sm.trans smT);refine⟨_,rfl,_,rfl,_,rfl,r,rows ph g,pr.2,ph pr.1,rfl,Rr,by rw[bE];exact hi,by rw[bE];omega,mD C,fun H3 rr sm3 hrr R3=>?_⟩;rw[ait C hj hi] at R3;refine⟨dropEdge g pr.2 pr.1,n,ph,rr,rfl,C.bu pr.2 pr.1,R3,fun H4 sm4=>?_⟩;have sm5:ao H' H4:=(smT.trans sm3).trans sm4;refine⟨_,rfl,dm,_,rfl,.inr ⟨od,sm5 _ _ hf⟩,_,_,rfl,rfl,_,rfl,?_⟩;rw[ug];refine a8 (fun e=>?_) (fun e=>?_)
   ·have e:size (dropEdge g pr.2 pr.1) n<size g n:=by
     have e:((size (dropEdge g pr.2 pr.1) n:Nat):Int)<(ml.length:Int):=by simpa using e
     omega
    refine⟨_,rfl,_,rfl,_,rfl,D,_,_,pr.2,rfl,rfl,sm5 _ _ hs,?_,?_⟩
    ·unfold ixN;rw[if_pos (by omega),if_pos (by rw[cc,List.length_map,List.length_range];omega)];rfl
    ·refine⟨⟨_,_,rfl⟩,fun b o q=>?_,?_,?_⟩
     ·rw[ae (hDl q)];exact sm5 _ _ (sm b o q)
     ·rw[ae nD.symm];exact sm5 _ _ hf
     ·rw[ah];show some (HO.lst ((iv _).set pr.2 (V.int ((ph pr.1:Nat):Int))))=_;rw[adx hi,et];unfold p9;rw[List.foldl_append];show some (HO.lst (iv ((List.range g.length).map _)))=some (HO.lst (iv ((List.range g.length).map (if decide (size (dropEdge g pr.2 pr.1) n<size g n)=true then _ else _))));rw[decide_eq_true e,if_pos rfl]
   ·have e:¬ size (dropEdge g pr.2 pr.1) n<size g n:=by
     have e:¬ ((size (dropEdge g pr.2 pr.1) n:Nat):Int)<(ml.length:Int):=by simpa using e
     omega
    refine⟨⟨_,_,rfl⟩,sm.trans sm5,sm5 _ _ hf,?_⟩;rw[sm5 _ _ hs,et];unfold p9;rw[List.foldl_append];show _=some (HO.lst (iv ((List.range g.length).map (if decide (size (dropEdge g pr.2 pr.1) n<size g n)=true then _ else _))));rw[decide_eq_false e,if_neg Bool.false_ne_true]
  ·obtain⟨⟨v3,v4,rfl⟩,sm,hf,hs⟩:=p;rw[ug,List.take_length] at hs;refine⟨hf,_,rfl,?_⟩;have smF:ao H (upd H' dm (.dK (mk ph ml))):=fun b o e=>by rw[ae (hdl e)];exact sm b o e
   refine k _ D smF (sm1.free hD) ?_;rw[ae nD,hs];refine congrArg (fun z=>some (HO.lst (iv z))) (List.map_congr_left fun x _=>ajT C.wi M x)
def ald:Sp:=fun vs H Q _=>∃ (g:Vbexam.Graph) (n:Nat) (ph:Nat→Nat) (r e:Addr),vs = [.ref r,.ref e]∧Cdx g n ph∧cz H r (rows ph g)∧H e=some (.lst (iv ((List.range n).map ph)))∧m4 H (iv (((List.range n).filter fun j=>decide (size (dropCode g j) n<size g n)).map ph)) Q
def ali:TT:=qb (tOp (rI0 fun i j=>.bl (decide (i<j))) (qa aiE [] E0 (fP (qa ac3 [] E0 (fP (bG 0) (fP (bG 3) kn))) kn)) (bG 2))
theorem t9 (l:List Nat) (f:Nat→Nat):iv (l.map f)=l.map fun x=>V.int ((f x:Nat):Int):=by
 unfold iv;rw[List.map_map];rfl
theorem abv:aP P w K mg base CX0 15 T.eU.f T.eU.fd ["readings", "expected"] ald:=by
 refine T.eU.F.ok jg (fun vs H Q E h=>?_) (fun cdv A outer s₀ H vs Q E hr h=>?_)
 ·obtain⟨g,n,ph,r,e,rfl,_⟩:=h;rfl
 ·obtain⟨g,n,ph,r,e,rfl,C,R,he,k⟩:=h;have hr2:bh 2 _:=hr.mono (by decide);refine⟨_,ab (aJ (i:=2) jg.nd rfl (Or.inr rfl) (aK (fY T) hr rfl T.fm T.bp.F.kp T.bp.b .nil aE (aa (pv 0) af)))
   (ai (ak (fO (own:=[("label",3)]) (g:=cH 3) (te:=bG 3) (tt:=ali) rfl jg.nd (cx (pv 1)) ?bk ?gg ?tt ?ee))),?rd⟩
  case bk=>
   show d4 (["readings", "expected", "most", "label"]:List Str) (aj jT) _ _;exact⟨rfl,by decide +kernel,by decide +kernel,by decide +kernel,by decide +kernel⟩
  case gg=>exact fun _ _ _ _ _=>aZ (i:=3) jg.nd rfl (Or.inl rfl) (Or.inr rfl)
  case tt=>exact fun _ _ _ _ _=>fU (aQ abx (aK (fY T) hr rfl T.fm T.bp.F.kp T.bp.b .nil aE (aa (aK (kZ T) hr2 rfl T.jc T.cb.F.kp T.cb.b .nil aE (aa (pv 0) (aa (pv 3) af))) af)) (pv 2) (aX _))
  case ee=>exact fun _ _ _ _ _=>pv 3
  have hfew:=C.few;have hn:=C.wi.few;refine⟨_,rfl,g,n,ph,r,rfl,C,R,fun H1 sm1=>?_⟩;refine⟨_,rfl,e,rfl,⟨_,SqL.of (sm1 _ _ he)⟩,fun D hD=>?_⟩;refine dS (List.range n) (fun j=>V.int ((ph j:Nat):Int)) (fun j=>decide (size (dropCode g j) n<size g n)) (fun j=>V.int ((ph j:Nat):Int)) (by rw[← t9];exact sm1 _ _ he) hD (by rw[List.length_range];omega) (fun i x H' hi sm R1 R' hR hR'=>⟨rfl,?_⟩) (fun H' sm hD'=>k H' D (sm1.trans sm) (sm1.free hD) (by rw[t9];exact hD'));have hx:x<n:=List.mem_range.mp (List.mem_of_getElem? hi);refine⟨_,rfl,_,rfl,r,rows ph g,ph x,rfl,R.keep (sm1.trans sm),by rw[bE];omega,mD C,fun H2 rr sm2 hrr R2=>?_⟩;rw[yw C hx] at R2;refine⟨dropCode g x,n,ph,rr,rfl,C.code x,R2.rd,fun H3 sm3=>?_⟩;refine⟨_,rfl,_,_,rfl,rfl,_,rfl,?_⟩;refine a8 (fun e=>?_) (fun e=>?_)
  ·exact⟨_,rfl,hR' H3 (sm2.trans sm3) (by simpa using e)⟩
  ·exact hR H3 (sm2.trans sm3) (by simpa using e)
def aaJ:Sp:=fun vs H Q _=>∃ (r:Addr) (rs:List (List Nat)) (z:Nat),vs = [.ref r,.int z]∧cz H r rs∧rs.length≤1000∧∀ H',ao H H'→Q (.bl (rs.any fun l=>l.contains z)) H'
theorem abu:aP P w K mg base CX0 1 T.gw.f T.gw.fd ["readings", "label"] aaJ:=by
 refine T.gw.F.ok vU (fun vs H Q E h=>?_) (fun cdv A outer s₀ H vs Q E hr h=>?_)
 ·obtain⟨r,rs,z,rfl,_⟩:=h;rfl
 ·obtain⟨r,rs,z,rfl,R,hl,k⟩:=h;refine⟨_,ai (ak (a6 (alx rfl) (by rfl) T.yQ PyProof.Rows.boot_any (aa (fO (own:=[("labels",2)]) (g:=cH 2) (te:=tOp (rIn K false) (bG 1) (bG 2)) (tt:=kq) rfl vU.nd (cx (pv 0)) ?bk ?gg ?tt ?ee) af))),?rd⟩
  case bk=>
   show d4 (["readings", "label", "labels"]:List Str) (aj sE) _ _;exact⟨rfl,by decide +kernel,by decide +kernel,by decide +kernel,by decide +kernel⟩
  case gg=>exact fun _ _ _ _ _=>aZ (i:=2) vU.nd rfl (Or.inl rfl) (Or.inr rfl)
  case tt=>exact fun _ _ _ _ _=>lD
  case ee=>exact fun _ _ _ _ _=>y0 yd (pv 1) (pv 2) (by with_unfolding_all rfl)
  obtain⟨as,h1,h2,h3⟩:=R;refine⟨_,rfl,r,rfl,⟨_,SqL.of h1⟩,fun D hD=>?_⟩;refine dS (as.zip rs) (fun p=>V.ref p.1) (fun _=>true) (fun p=>V.bl (p.2.contains z)) (by rw[aaM h2];exact h1) hD (by rw[uJ h2];exact hl) (fun i x H' hi sm R1 R' hR hR'=>⟨rfl,?_⟩) (fun H' sm hD'=>?_)
  ·refine yes ?_;obtain⟨hx,_⟩:=zip_get h3 hi;refine⟨_,rfl,_,rfl,x.1,_,rfl,.inl (SqL.of (sm _ _ hx)),rfl,yV _,?_⟩;show R' (.bl (inV (.int (z:Int)) (iv x.2))) H';rw[t8];exact hR' H' (ao.refl _) rfl
  ·refine⟨D,(as.zip rs).map fun p=>p.2.contains z,rfl,SqL.of (by rw[hD',hE,List.map_map];rfl),?_⟩;have:((as.zip rs).map fun p=>p.2.contains z).any id=rs.any fun l=>l.contains z:=by
    conv=>rhs;rw[← List.map_snd_zip (l₁:=as) (l₂:=rs) (by omega),List.any_map]
    rw[List.any_map];rfl
   rw[this];exact k H' sm
def aiD:Sp:=fun vs H Q _=>∃ (g:Vbexam.Graph) (n:Nat) (ph:Nat→Nat) (r e:Addr),vs = [.ref r,.ref e]∧Cdx g n ph∧cz H r (rows ph g)∧H e=some (.lst (iv ((List.range n).map ph)))∧m4 H (iv (((List.range n).filter fun j=>!(g.any fun l=>l.contains j)).map ph)) Q
theorem abB {g:Vbexam.Graph}{n:Nat}{ph:Nat→Nat}(inj:∀ a b,a<n→b<n→ph a=ph b→a=b) (hg:∀ l∈g,∀ x∈l,x<n) {j:Nat}(hj:j<n):((rows ph g).any fun l=>l.contains (ph j))=g.any fun l=>l.contains j:=by
 unfold rows;rw[List.any_map,Bool.eq_iff_iff,List.any_eq_true,List.any_eq_true];constructor
 ·rintro⟨l,hl,h⟩;refine⟨l,hl,List.contains_iff_mem.mpr ?_⟩;have h:ph j∈l.map ph:=List.contains_iff_mem.mp h;obtain⟨x,hx,e⟩:=List.mem_map.mp h;have:=inj x j (hg l hl x hx) hj e;rw[← this];exact hx
 ·rintro⟨l,hl,h⟩;exact⟨l,hl,List.contains_iff_mem.mpr (List.mem_map.mpr ⟨j,List.contains_iff_mem.mp h,rfl⟩)⟩
theorem Cdx.mem {g:Vbexam.Graph}{n:Nat}{ph:Nat→Nat}(C:Cdx g n ph):∀ l∈g,∀ x∈l,x<n:=fun l hl x hx=>by
 obtain⟨i,hi,e⟩:=List.getElem_of_mem hl;exact C.wi.lt i x (by rw[List.getD_eq_getElem?_getD,List.getElem?_eq_getElem hi];exact e ▸ hx)
def alT (K:PySem.W.Frag):TT:=ajV fun σ H Q=>qa aaJ [] E0 (fP (bG 0) (fP (bG 2) kn)) σ H fun x H'=>∃ k,xl K x H' k∧Q k H'
theorem ze:aP P w K mg base CX0 2 T.dQ.f T.dQ.fd ["readings", "expected"] aiD:=by
 refine T.dQ.F.ok km (fun vs H Q E h=>?_) (fun cdv A outer s₀ H vs Q E hr h=>?_)
 ·obtain⟨g,n,ph,r,e,rfl,_⟩:=h;rfl
 ·obtain⟨g,n,ph,r,e,rfl,C,R,he,k⟩:=h;refine⟨_,ai (ak (fO (own:=[("label",2)]) (g:=cH 2) (te:=bG 2) (tt:=alT K) rfl km.nd (cx (pv 1)) ?bk ?gg ?tt ?ee)),?rd⟩
  case bk=>
   show d4 (["readings", "expected", "label"]:List Str) (aj iQ) _ _;exact⟨rfl,by decide +kernel,by decide +kernel,by decide +kernel,by decide +kernel⟩
  case gg=>exact fun _ _ _ _ _=>aZ (i:=2) km.nd rfl (Or.inl rfl) (Or.inr rfl)
  case tt=>exact fun _ _ _ _ _=>fU (fD (bJ (aK (abu T) hr rfl T.xV T.gw.F.kp T.gw.b .nil aE (aa (pv 0) (aa (pv 2) af))) (fun _=>rfl)))
  case ee=>exact fun _ _ _ _ _=>pv 2
  have hfew:=C.few;have hn:=C.wi.few;refine⟨_,rfl,e,rfl,⟨_,SqL.of he⟩,fun D hD=>?_⟩;refine dS (List.range n) (fun j=>V.int ((ph j:Nat):Int)) (fun j=>!(g.any fun l=>l.contains j)) (fun j=>V.int ((ph j:Nat):Int)) (by rw[← t9];exact he) hD (by rw[List.length_range];omega) (fun i x H' hi sm R1 R' hR hR'=>⟨rfl,?_⟩) (fun H' sm hD'=>k H' D sm hD (by rw[t9];exact hD'));have hx:x<n:=List.mem_range.mp (List.mem_of_getElem? hi);refine⟨_,rfl,_,rfl,r,rows ph g,ph x,rfl,R.keep sm,by rw[bE];omega,fun H2 sm2=>⟨_,rfl,?_⟩⟩;rw[abB C.inj C.mem hx];refine a8 (fun e=>?_) (fun e=>?_)
  ·exact⟨_,rfl,hR' H2 sm2 e⟩
  ·exact hR H2 sm2 (by simpa using e)
theorem ago {α:Type}(q:α→Bool) (d:α):∀ (l:List α) (k:Nat),((l.zipIdx k).filter fun x=>q x.1).map (fun x=>x.2)=(List.range' k l.length).filter fun i=>q (l.getD (i-k) d)
 | [],k=>rfl
 | a::l,k=>by
  rw[List.zipIdx_cons,List.length_cons,List.range'_succ];have ih:=ago q d l (k+1);have e:((List.range' (k+1) l.length).filter fun i=>q ((a::l).getD (i-k) d))=(List.range' (k+1) l.length).filter fun i=>q (l.getD (i-(k+1)) d):=by
   refine List.filter_congr fun i hi=>?_;have:=(List.mem_range'_1.mp hi).1;rw[show i-k=(i-(k+1))+1 by omega];rfl
  by_cases h:q a=true
  ·rw[List.filter_cons_of_pos (p:=fun x:α×Nat=>q x.1) (a:=(a,k)) h,List.map_cons,ih,List.filter_cons_of_pos (by rw[Nat.sub_self];exact h),e]
  ·rw[List.filter_cons_of_neg (p:=fun x:α×Nat=>q x.1) (a:=(a,k)) h,ih,List.filter_cons_of_neg (by rw[Nat.sub_self];exact h),e]
def aiz:Sp:=fun vs H Q _=>∃ (r:Addr) (rs:List (List Nat)),vs = [.ref r]∧cz H r rs∧rs.length≤1000∧m4 H (iv ((List.range rs.length).filter fun i=>decide ((rs.getD i []).length=0))) Q
theorem zd:aP P w K mg base CX0 1 T.dN.f T.dN.fd ["readings"] aiz:=by
 refine T.dN.F.ok gS (fun vs H Q E h=>?_) (fun cdv A outer s₀ H vs Q E hr h=>?_)
 ·obtain⟨r,rs,rfl,_⟩:=h;rfl
 ·obtain⟨r,rs,rfl,R,hl,k⟩:=h;refine⟨_,ai (ak (fO (own:=[("found",1),("labels",2)]) (g:=alE K 2 (agJ (cH 1) (agJ (cH 2) alD))) (te:=bG 1) (tt:=qb (tOp rEq (tCB (fun xs H Q=>∃ p ys,xs = [.ref p]∧(SqL K H p ys∨SqT K H p ys)∧Q (.int ys.length) H) (fP (bG 2) kn)) (tC (.int 0)))) rfl gS.nd (akO (by rfl) T.iU (aa (pv 0) af)) ?bk ?gg ?tt ?ee)),?rd⟩
  case bk=>
   show d4 (["readings", "found", "labels"]:List Str) (aj iP) _ _;exact⟨rfl,by decide +kernel,by decide +kernel,by decide +kernel,by decide +kernel⟩
  case gg=>exact fun _ _ _ _ _=>abz rfl (jE (aZ (i:=1) gS.nd rfl (Or.inl rfl) (Or.inr rfl)) (jE (aZ (i:=2) gS.nd rfl (Or.inl rfl) (Or.inr rfl)) y2))
  case tt=>exact fun _ _ _ _ _=>fU (aQ iI (a6 bB (by rfl) T.cU PySem.boot_len (aa (pv 2) af)) aw (aX _))
  case ee=>exact fun _ _ _ _ _=>pv 1
  obtain⟨as,h1,h2,h3⟩:=R;refine⟨_,rfl,r,_,rfl,SqL.of h1,fun D hD=>?_⟩;refine ajo (as.zip rs) (fun p=>V.ref p.1) (fun x=>decide (x.1.2.length=0)) (fun x=>V.int ((x.2:Nat):Int)) (by rw[aaM h2];exact h1) hD (by rw[uJ h2];exact hl) (fun i x Tt H' hi sm hT R1 R' hR hR'=>?_) (fun H' sm hD'=>k H' D sm hD ?_)
  ·obtain⟨hx,_⟩:=zip_get h3 hi;refine⟨Tt,_,rfl,SqT.of hT,rfl,_,_,rfl,_,_,rfl,rfl,rfl,?_⟩;refine⟨_,rfl,x.1,_,rfl,.inl (SqL.of (sm _ _ hx)),rfl,_,rfl,?_⟩;rw[cc];refine a8 (fun e=>?_) (fun e=>?_)
   ·exact⟨_,rfl,hR' H' (ao.refl _) (by simpa using e)⟩
   ·exact hR H' (ao.refl _) (by simpa using e)
  ·rw[hD'];have e:=ago (fun p:Addr×List Nat=>decide (p.2.length=0)) (0,[]) (as.zip rs) 0;have:((as.zip rs).zipIdx.filter fun x=>decide (x.1.2.length=0)).map (fun x=>V.int ((x.2:Nat):Int))=iv (((as.zip rs).zipIdx.filter fun x=>decide (x.1.2.length=0)).map fun x=>x.2)  :=by
    unfold iv;rw[List.map_map];rfl
   rw[this,e,uJ h2,← List.range_eq_range'];refine congrArg (fun z=>some (HO.lst (iv z))) (List.filter_congr fun i hi=>?_);have hi:=List.mem_range.mp hi;rw[Nat.sub_zero];have e1:(as.zip rs).getD i (0,[])=(as[i]'(by omega),rs[i]):=by
    rw[List.getD_eq_getElem?_getD,List.getElem?_eq_getElem (by rw[uJ h2];exact hi),List.getElem_zip];rfl
   rw[e1,List.getD_eq_getElem?_getD,List.getElem?_eq_getElem hi];rfl
end
structure CS (H H':Hp) (g:Vbexam.Graph) (n:Nat) (ph:Nat→Nat) (ml:List (Nat×Nat)) (l dm ds:Addr) (u0:Nat) (xs sn:List Nat):Prop where
 sm:ao H H'
 hl:H' l=some (.lst (iv xs))
 hd:H' ds=some (.dK (sk ph sn))
 hm:H' dm=some (.dK (mk ph ml))
 len:xs.length=u0+sn.length
 nd:sn.Nodup
 lt:∀ c∈sn,c<n
 ajb:∀ i∈xs,Mt.cO g (Mt.at_ (matched g n)) i
 free:∀ i,i<g.length→Mt.at_ (matched g n) i=none→i∈xs
 back:∀ c∈sn,∃ x∈xs,Mt.at_ (matched g n) x=some c
section
variable {P:Program}{w:World}{K:PySem.W.Frag}{mg:Str→Option Value}{base:Heap}(T:Pg K mg)
def amf:Sp:=fun vs H Q _=>∃ (g:Vbexam.Graph) (n:Nat) (ph:Nat→Nat) (r:Addr),vs = [.ref r]∧Cdx g n ph∧cz H r (rows ph g) ∧
 ∀ (H':Hp) (l:Addr) (xs:List Nat),ao H H'→H l=none→H' l=some (.lst (iv xs))→xs.length≤200→(∀ i,i∈xs↔Mt.cO g (Mt.at_ (matched g n)) i)→Q (.ref l) H'
theorem abt:aP P w K mg base CX0 14 T.gq.f T.gq.fd ["readings"] amf:=by
 refine T.gq.F.ok ff (fun vs H Q E h=>?_) (fun cdv A outer s₀ H vs Q E hr h=>?_)
 ·obtain⟨g,n,ph,r,rfl,_⟩:=h;rfl
 ·obtain⟨g,n,ph,r,rfl,C,R,k⟩:=h;have hu:=bX hr;refine⟨_,ab (aJ (i:=1) ff.nd rfl (Or.inl rfl) (aK (kY T) hr rfl T.jb T.b9.F.kp T.b9.b .nil aE (aa (pv 0) af)))
   (ab (aJ (i:=2) ff.nd rfl (Or.inr rfl) (afL rfl (by rfl) T.qI (pv 1)))
   (ab (vH (i:=3) (own:=[("found",8)]) (g:=cH 8) (te:=bG 8) (tt:=qb (tOp (rIn K true) (bG 8) (bG 2))) rfl ff.nd rfl rfl rfl (sy (by rfl) T.jL (aa (a6 bB (by rfl) T.cU PySem.boot_len (aa (pv 0) af)) af)) ?bk ?gg ?tt ?ee)
   (ab (aJ (i:=4) ff.nd rfl (Or.inl rfl) nv)
   (ab (aJ (i:=5) ff.nd rfl (Or.inl rfl) aw)
   (ab (k3 PassesOwn.never (aQ abx (pv 5) (a6 bB (by rfl) T.cU PySem.boot_len (aa (pv 3) af)) (aX _))
    (ab (aJ (i:=6) ff.nd rfl (Or.inl rfl) (mz lq (pv 0) (mz lq (pv 3) (pv 5) (fun _ _=>rfl)) (fun _ _=>rfl)))
    (ab (fZ PassesOwn.never rfl (cx (pv 6)) (aZ (i:=7) ff.nd rfl (Or.inl rfl))
     (ai (aY (mC (oF hu (pv 7) (pv 4)))
      (ab (lB hu (pv 4) (pv 7) fN rfl)
      (ai (dZ (my PySem.F.plainAttrs_list PySem.F.slot_list_append PySem.F.type_list_append hU (pv 3) (aa (aF hu (pv 1) (pv 7) (fun _ _=>rfl)) af))))) aL)))
    (ai (air (i:=5) ff.nd rfl (Or.inl rfl) aw alL)))))
   (ai (ak (pv 3)))))))),?rd⟩
  case bk=>
   show d4 (["readings", "matched", "placed", "reached", "seen", "place", "labels", "label", "found"]:List Str) (aj sD) _ _;exact⟨rfl,by decide +kernel,by decide +kernel,by decide +kernel,by decide +kernel⟩
  case gg=>exact fun _ _ _ _ _=>aZ (i:=8) ff.nd rfl (Or.inl rfl) (Or.inr rfl)
  case tt=>exact fun _ _ _ _ _=>fU (aQ rj (pv 8) (pv 2) (by with_unfolding_all rfl))
  case ee=>exact fun _ _ _ _ _=>pv 8
  have hfew:=C.few;have hn:=C.wi.few;obtain⟨G,B⟩:=Mt.eI C.wi;refine⟨_,rfl,g,n,ph,r,rfl,C,R,fun H1 dm ml sm1 hdm hm M=>?_⟩;have mln:∀ p∈ml,p.1<n:=fun p hp=>Mt.tF C.wi ▸ adB M p hp;have mll:ml.length≤n:=Mt.tF C.wi ▸ adK M;refine⟨_,rfl,dm,_,rfl,hm,by rw[ug];omega,fun pl hpl=>?_⟩;have epl:(mk ph ml).map (·.2)=iv (ml.map fun p=>p.2):=by
   unfold mk iv;rw[List.map_map,List.map_map];rfl
  rw[epl];have sm2:=bO sm1 hpl (.lst (iv (ml.map fun p=>p.2)));have smA:=bO (ao.refl H1) hpl (.lst (iv (ml.map fun p=>p.2)));have hpl2:(upd H1 pl (.lst (iv (ml.map fun p=>p.2)))) pl=some (.lst (iv (ml.map fun p=>p.2))):=ah;generalize upd H1 pl (.lst (iv (ml.map fun p=>p.2)))=H2 at sm2 smA hpl2 ⊢;obtain⟨as,q1,q2,q3⟩:=id (R.keep sm2);rw[bE] at q2;have hr0:∃ as:List Addr,H r=some (.lst (as.map V.ref)):=by
   obtain⟨as,h,_⟩:=R;exact⟨as,h⟩
  refine⟨_,rfl,r,_,rfl,.inl (SqL.of q1),_,rfl,by omega,?_,fun l hl=>?_⟩
  ·rw[List.length_map];omega
  rw[List.length_map,q2,Int.toNat_natCast];refine aer (n:=g.length) (fun i=>!((ml.map fun p=>p.2).contains i)) (fun i=>V.int ((i:Nat):Int)) hl (by omega) (fun i H' hi sm R1 R' hR hR'=>⟨rfl,?_⟩) (fun H3 sm3 hl3=>?_)
  ·refine⟨_,rfl,_,rfl,pl,_,rfl,.inl (SqL.of (sm _ _ hpl2)),rfl,yV _,_,rfl,?_⟩;show if(if true=true then !inV (.int (i:Int)) (iv _) else inV (.int (i:Int)) (iv _))=true then _ else _
   rw[if_pos rfl,t8];refine a8 (fun e=>?_) (fun e=>?_)
   ·exact⟨_,rfl,hR' H' (ao.refl _) e⟩
   ·exact hR H' (ao.refl _) (by simpa using e)
  ·intro ds hds;have inFree:∀ i,((ml.map fun p=>p.2).contains i=false)↔Mt.at_ (matched g n) i=none:=fun i=>by
    rw[Mt.afk,← Bool.not_eq_true,List.contains_iff_mem,List.mem_map];constructor
    ·intro h j e;exact h ⟨(j,i),(M.iff j i).mpr e,rfl⟩
    ·rintro h ⟨p,hp,e⟩;refine h p.1 ?_;rw[← e];exact(M.iff p.1 p.2).mp hp
   have nld:l≠ds:=fun e=>by rw[← e,hl3] at hds;cases hds
   have hl0:H l=none:=sm2.free hl;have hds0:H ds=none:=(sm2.trans sm3).free hds;have hm3:H3 dm=some (.dK (mk ph ml)):=sm3 _ _ (smA _ _ hm);have S0:CS H (upd H3 ds (.dK [])) g n ph ml l dm ds ((List.range g.length).filter fun i=>!((ml.map fun p=>p.2).contains i)).length ((List.range g.length).filter fun i=>!((ml.map fun p=>p.2).contains i)) []:=by
    refine⟨bO (sm2.trans sm3) hds _,by rw[ae nld];exact hl3,ah,by rw[ae (az hm3 hds)];exact hm3,rfl,List.nodup_nil,fun c hc=>(by cases hc),fun i hi=>?_,fun i hi e=>?_,fun c hc=>by cases hc⟩
    ·rw[List.mem_filter,List.mem_range] at hi;exact .free hi.1 ((inFree i).mp (by simpa using hi.2))
    ·rw[List.mem_filter,List.mem_range];exact⟨hi,by rw[(inFree i).mpr e];rfl⟩
   have hu0:((List.range g.length).filter fun i=>!((ml.map fun p=>p.2).contains i)).length≤g.length:=by
    have:=List.length_filter_le (fun i=>!((ml.map fun p=>p.2).contains i)) (List.range g.length)
    rwa [List.length_range] at this
   generalize ((List.range g.length).filter fun i=>!((ml.map fun p=>p.2).contains i)).length=u0 at S0 hu0;generalize (List.range g.length).filter (fun i=>!((ml.map fun p=>p.2).contains i))=xs0 at S0;generalize upd H3 ds (.dK [])=H4 at S0;have snlen:∀ {sn:List Nat},sn.Nodup→(∀ c∈sn,c<n)→sn.length≤n:=fun nd lt=>by
    have:=Mt.bZ (m:=List.range n) nd fun x hx=>List.mem_range.mpr (lt x hx)
    rwa [List.length_range] at this
   refine⟨fun m σ H'=>∃ (xs sn:List Nat) (p:Nat) (v6 v7:Option V),σ = [some (.ref r),some (.ref dm),some (.ref pl),some (.ref l),some (.ref ds),some (.int p),v6,v7,none]∧m=(g.length+n+1)-p∧p≤xs.length∧CS H H' g n ph ml l dm ds u0 xs sn∧(∀ q,q<p→∀ i,xs[q]?=some i→∀ c∈g.getD i [],c∈sn),⟨_,xs0,[],0,none,none,rfl,rfl,Nat.zero_le _,S0,fun q hq=>absurd hq (Nat.not_lt_zero _)⟩,?_⟩;rintro m σ H' ⟨xs,sn,p,v6,v7,rfl,rfl,hp,S,hdone⟩;refine⟨_,rfl,_,rfl,l,_,rfl,.inl (SqL.of S.hl),_,_,rfl,rfl,_,rfl,?_⟩;rw[cc];have hsl:=snlen S.nd S.lt;refine a8 (fun e=>?_) (fun e=>?_)
   ·have e:p<xs.length:=by
     have e:(p:Int)<xs.length:=by simpa using e
     omega
    have hxp:xs[p]?=some xs[p]:=List.getElem?_eq_getElem e;have hcome:=S.ajb _ (List.mem_of_getElem? hxp);have hlt:=hcome.lt B.mg;obtain⟨as2,a2,p1,p2,p3,p4⟩:=(R.keep S.sm).row (i:=xs[p]) (by rw[bE];exact hlt);rw[hW] at p4;have hold:∀ {b:Addr} {o:HO},H b=some o→b≠l∧b≠ds:=fun q=>⟨az q hl0,az q hds0⟩;have ha2:H a2=some (.lst (iv ((g.getD xs[p] []).map ph))):=by
     obtain⟨as3,a3,s1,s2,s3,s4⟩:=R.row (i:=xs[p]) (by rw[bE];exact hlt);have:=S.sm _ _ s1;rw[p1] at this;injection this with this;injection this with this;have:as2=as3:=(List.map_inj_right (f:=V.ref) (fun x y h=>by injection h)).mp this;subst this;rw[p3] at s3;cases s3;rw[hW] at s4;exact s4
    refine⟨fun σ' H''=>∃ (xs2 sn2:List Nat) (v6 v7:Option V),σ' = [some (.ref r),some (.ref dm),some (.ref pl),some (.ref l),some (.ref ds),some (.int ((p:Int)+1)),v6,v7,none]∧p+1≤xs2.length∧CS H H'' g n ph ml l dm ds u0 xs2 sn2∧(∀ q,q<p+1→∀ i,xs2[q]?=some i→∀ c∈g.getD i [],c∈sn2),fun σ' H'' ⟨xs2,sn2,v6,v7,z1,z2,z3,z4⟩=>⟨_,?_,xs2,sn2,p+1,v6,v7,by rw[z1];rfl,rfl,z2,z3,z4⟩,?_⟩
    ·have:=z3.len;have:=snlen z3.nd z3.lt;omega
    refine⟨_,rfl,_,rfl,_,rfl,l,_,_,.int ((xs[p]:Nat):Int),rfl,rfl,SqL.of S.hl,iT (by unfold iv;rw[List.getElem?_map,hxp];rfl),r,_,_,.ref a2,rfl,rfl,SqL.of p1,iT (by rw[List.getElem?_map,p3];rfl),?_⟩;refine⟨_,rfl,a2,rfl,⟨_,SqL.of p4⟩,?_⟩;refine kU (xs:=iv ((g.getD xs[p] []).map ph)) (fun t σ' H''=>∃ (xs2 sn2:List Nat) (v7:Option V),σ' = [some (.ref r),some (.ref dm),some (.ref pl),some (.ref l),some (.ref ds),some (.int p),some (.ref a2),v7,none]∧CS H H'' g n ph ml l dm ds u0 xs2 sn2∧(∀ c∈sn,c∈sn2)∧(∃ ys,xs2=xs++ys)∧∀ c∈(g.getD xs[p] []).take t,c∈sn2)
     ⟨xs,sn,v7,rfl,S,fun _ h=>h,⟨[],(List.append_nil _).symm⟩,fun c hc=>by simp at hc⟩ (fun t σ' H'' _ q=>?_) (fun t x σ' H'' hx q=>?_) (fun σ' H'' q=>?_)
    ·obtain⟨xs2,sn2,v7',_,S2,_⟩:=q;exact SqL.of (S2.sm _ _ ha2)
    ·obtain⟨xs2,sn2,v7',rfl,S2,hsub,⟨ys,hys⟩,htk⟩:=q;unfold iv at hx;rw[List.getElem?_map,List.getElem?_map] at hx;obtain⟨y,hy,e1⟩:=Option.map_eq_some_iff.mp hx;obtain⟨c,hc,e2⟩:=Option.map_eq_some_iff.mp hy;subst e2 e1;have hcm:c∈g.getD xs[p] []:=List.mem_of_getElem? hc;have hcn:c<n:=C.wi.lt _ c hcm;have vs1:=aiU C.inj hcn S2.lt;have nxt:∀ {sn3:List Nat},(∀ x∈sn2,x∈sn3)→c∈sn3→∀ x∈(g.getD xs[p] []).take (t+1),x∈sn3:=fun h1 h2 x hx=>by
      rw[take_snoc hc] at hx;rcases List.mem_append.mp hx with q|q
      ·exact h1 x (htk x q)
      ·rw[List.mem_singleton.mp q];exact h2
     refine⟨_,rfl,_,rfl,ds,_,rfl,hX.k (k:=Sum.inl (ph c:Int)) S2.hd,_,rfl,?_⟩;rw[vs1];by_cases hs:sn2.contains c=true
     ·rw[hs];refine cR ?_;exact⟨xs2,sn2,_,rfl,S2,hsub,⟨ys,hys⟩,nxt (fun _ h=>h) (List.contains_iff_mem.mp hs)⟩
     ·have hs':sn2.contains c=false:=by simpa using hs
      have ncs:c ∉ sn2:=fun q=>hs (List.contains_iff_mem.mpr q);rw[hs'];refine cS ?_;have vnone:bg (sk ph sn2) (Sum.inl (ph c:Int))=none:=by
       have:=vs1;rw[hs'] at this;cases e:bg (sk ph sn2) (Sum.inl (ph c:Int)) with
       | none=>rfl
       | some v=>rw[e] at this;cases this
      obtain⟨x,hxc⟩:=hcome.matched B hcm;have hmx:(matched g n).getD c 0=x+1:=Mt.eK hxc;have vm:bg (mk ph ml) (Sum.inl (ph c:Int))=some (V.int ((x:Nat):Int)):=by
       rw[val_mk C.inj hcn ml mln,M.look,if_neg (by omega)];show some (V.int (((matched g n).getD c 0-1:Nat):Int))=_;rw[hmx];rfl
      have hs2l:=snlen S2.nd S2.lt;have h2l:=S2.len;refine⟨_,rfl,_,rfl,ds,_,rfl,mY.k (k:=Sum.inl (ph c:Int)) S2.hd (bo (by rw[aiw];omega)),?_⟩;rw[ais vnone];have hl5:(upd H'' ds (.dK (sk ph (c::sn2)))) l=some (.lst (iv xs2)):=by rw[ae nld];exact S2.hl
      have nmd:dm≠ds:=fun e=>by rw[← e,hm3] at hds;cases hds
      have hm5:(upd H'' ds (.dK (sk ph (c::sn2)))) dm=some (.dK (mk ph ml)):=by rw[ae nmd];exact S2.hm
      refine⟨_,rfl,.inl ⟨rfl,_,SqL.of hl5⟩,_,rfl,_,rfl,dm,.int ((x:Nat):Int),rfl,?_,l,_,_,rfl,rfl,hl5,bo (by rw[cc];omega),?_⟩
      ·have:=hX.k (k:=Sum.inl (ph c:Int)) hm5;rw[vm] at this;exact this
      have nml:dm≠l:=cp hm5 hl5 (by intro z;cases z);refine⟨xs2++[x],c::sn2,_,rfl,⟨fun b o q=>?_,?_,?_,?_,?_,List.nodup_cons.mpr ⟨ncs,S2.nd⟩,?_,?_,?_,?_⟩,fun y hy=>List.mem_cons_of_mem _ (hsub y hy),⟨ys++[x],by rw[hys,List.append_assoc]⟩,nxt (fun y hy=>List.mem_cons_of_mem _ hy) (List.mem_cons_self ..)⟩
      ·rw[ae (hold q).1,ae (hold q).2];exact S2.sm b o q
      ·rw[ah];unfold iv;rw[List.map_append];rfl
      ·rw[ae nld.symm,ah]
      ·rw[ae nml];exact hm5
      ·rw[List.length_append,List.length_cons,h2l];simp;omega
      ·exact fun y hy=>(List.mem_cons.mp hy).elim (fun e=>e ▸ hcn) (S2.lt y)
      ·intro y hy;rcases List.mem_append.mp hy with q|q
       ·exact S2.ajb y q
       ·rw[List.mem_singleton.mp q];exact .step hcome hcm hxc
      ·exact fun y hy e=>List.mem_append_left _ (S2.free y hy e)
      ·intro y hy;rcases List.mem_cons.mp hy with q|q
       ·exact⟨x,List.mem_append_right _ (List.mem_singleton.mpr rfl),q ▸ hxc⟩
       ·obtain⟨z,hz,ez⟩:=S2.back y q;exact⟨z,List.mem_append_left _ hz,ez⟩
    ·obtain⟨xs2,sn2,v7',rfl,S2,hsub,⟨ys,hys⟩,htk⟩:=q;rw[cc,List.length_map,List.take_length] at htk;refine⟨_,rfl,_,_,rfl,rfl,xs2,sn2,_,_,rfl,?_,S2,fun q hq i hi c hc=>?_⟩
     ·rw[hys,List.length_append];omega
     ·rw[hys,List.getElem?_append_left (by omega)] at hi;by_cases z:q=p
      ·subst z;rw[hxp] at hi;cases hi;exact htk c hc
      ·exact hsub c (hdone q (by omega) i hi c hc)
   ·have e:p=xs.length:=by
     have e:¬ (p:Int)<xs.length:=by simpa using e
     omega
    subst e;have:=S.len;refine⟨_,rfl,k H' l xs S.sm hl0 S.hl (by omega) fun i=>⟨S.ajb i,fun h=>?_⟩⟩
    induction h with
    | free h1 h2=>exact S.free _ h1 h2
    | @step i c i' h1 hc he ih=>
     obtain⟨q,hq,eq⟩:=List.getElem_of_mem ih;have hcs:=hdone q hq i (by rw[List.getElem?_eq_getElem hq,eq]) c hc;obtain⟨x,hx,ex⟩:=S.back c hcs;have:i'=x:=B.mg.inj _ _ _ he ex;rw[this];exact hx
def ajJ:Sp:=fun vs H Q _=>∃ (g:Vbexam.Graph) (n:Nat) (ph:Nat→Nat) (r:Addr),vs = [.ref r]∧Cdx g n ph∧cz H r (rows ph g)∧m4 H (iv (Vbexam.cover g n).1) Q
theorem zc:aP P w K mg base CX0 15 T.dM.f T.dM.fd ["readings"] ajJ:=by
 refine T.dM.F.ok gQ (fun vs H Q E h=>?_) (fun cdv A outer s₀ H vs Q E hr h=>?_)
 ·obtain⟨g,n,ph,r,rfl,_⟩:=h;rfl
 ·obtain⟨g,n,ph,r,rfl,C,R,k⟩:=h;refine⟨_,ab (aJ (i:=1) gQ.nd rfl (Or.inr rfl) (aK (abt T) hr rfl T.xU T.gq.F.kp T.gq.b .nil aE (aa (pv 0) af)))
   (ai (ak (fO (own:=[("found",2)]) (g:=cH 2) (te:=bG 2) (tt:=qb (tOp (rIn K true) (bG 2) (bG 1))) rfl gQ.nd (sy (by rfl) T.jL (aa (a6 bB (by rfl) T.cU PySem.boot_len (aa (pv 0) af)) af)) ?bk ?gg ?tt ?ee))),?rd⟩
  case bk=>
   show d4 (["readings", "reached", "found"]:List Str) (aj iO) _ _;exact⟨rfl,by decide +kernel,by decide +kernel,by decide +kernel,by decide +kernel⟩
  case gg=>exact fun _ _ _ _ _=>aZ (i:=2) gQ.nd rfl (Or.inl rfl) (Or.inr rfl)
  case tt=>exact fun _ _ _ _ _=>fU (aQ rj (pv 2) (pv 1) (by with_unfolding_all rfl))
  case ee=>exact fun _ _ _ _ _=>pv 2
  have hfew:=C.few;refine⟨_,rfl,g,n,ph,r,rfl,C,R,fun H1 l xs sm1 hl hl1 hx hcome=>?_⟩;obtain⟨as,q1,q2,q3⟩:=id (R.keep sm1);rw[bE] at q2;refine⟨_,rfl,r,_,rfl,.inl (SqL.of q1),_,rfl,by omega,?_,fun D hD=>?_⟩
  ·rw[List.length_map];omega
  rw[List.length_map,q2,Int.toNat_natCast];refine aer (n:=g.length) (fun i=>!(xs.contains i)) (fun i=>V.int ((i:Nat):Int)) hD (by omega) (fun i H' hi sm R1 R' hR hR'=>⟨rfl,?_⟩) (fun H3 sm3 hD3=>k H3 D (sm1.trans sm3) (sm1.free hD) ?_)
  ·refine⟨_,rfl,_,rfl,l,_,rfl,.inl (SqL.of (sm _ _ hl1)),rfl,yV _,_,rfl,?_⟩;show if(if true=true then !inV (.int (i:Int)) (iv _) else inV (.int (i:Int)) (iv _))=true then _ else _
   rw[if_pos rfl,t8];refine a8 (fun e=>?_) (fun e=>?_)
   ·exact⟨_,rfl,hR' H' (ao.refl _) e⟩
   ·exact hR H' (ao.refl _) (by simpa using e)
  ·rw[hD3,Mt.adY C.wi hcome];rfl
def ajI:Sp:=fun vs H Q _=>∃ (g:Vbexam.Graph) (n:Nat) (ph:Nat→Nat) (r e:Addr),vs = [.ref r,.ref e]∧Cdx g n ph∧cz H r (rows ph g)∧H e=some (.lst (iv ((List.range n).map ph)))∧m4 H (iv ((Vbexam.cover g n).2.map ph)) Q
def amN (K:PySem.W.Frag):TT:=fun σ H Q=>qa aaJ [] E0 (fP (bG 2) (fP (bG 4) kn)) σ H fun x H'=>∃ k,xl K x H' k∧Q k H'
theorem vD:aP P w K mg base CX0 15 T.cQ.f T.cQ.fd ["readings", "expected"] ajI:=by
 refine T.cQ.F.ok dq (fun vs H Q E h=>?_) (fun cdv A outer s₀ H vs Q E hr h=>?_)
 ·obtain⟨g,n,ph,r,e,rfl,_⟩:=h;rfl
 ·obtain⟨g,n,ph,r,e,rfl,C,R,he,k⟩:=h;have hr1:bh 1 _:=hr.mono (by decide);refine⟨_,ab (aJ (i:=2) dq.nd rfl (Or.inr rfl) (fO (own:=[("found",3)]) (g:=cH 3) (te:=tOp (al6 K) (bG 0) (bG 3)) (tt:=kq) rfl dq.nd (cx (aK (abt T) hr rfl T.xU T.gq.F.kp T.gq.b .nil aE (aa (pv 0) af))) ?bk ?gg ?tt ?ee))
   (ai (ak (fO (own:=[("label",4)]) (g:=cH 4) (te:=bG 4) (tt:=amN K) rfl dq.nd (cx (pv 1)) ?bk2 ?gg2 ?tt2 ?ee2))),?rd⟩
  case bk=>
   show d4 (["readings", "expected", "reached", "found", "label"]:List Str) (aj eQ) _ _;exact⟨rfl,by decide +kernel,by decide +kernel,by decide +kernel,by decide +kernel⟩
  case bk2=>
   show d4 (["readings", "expected", "reached", "found", "label"]:List Str) (aj eQ) _ _;exact⟨rfl,by decide +kernel,by decide +kernel,by decide +kernel,by decide +kernel⟩
  case gg=>exact fun _ _ _ _ _=>aZ (i:=3) dq.nd rfl (Or.inl rfl) (Or.inr rfl)
  case gg2=>exact fun _ _ _ _ _=>aZ (i:=4) dq.nd rfl (Or.inl rfl) (Or.inr rfl)
  case tt=>exact fun _ _ _ _ _=>lD
  case ee=>exact fun _ _ _ _ _=>mz lq (pv 0) (pv 3) (fun _ _=>rfl)
  case tt2=>exact fun _ _ _ _ _=>fU (bJ (aK (abu T) hr1 rfl T.xV T.gw.F.kp T.gw.b .nil aE (aa (pv 2) (aa (pv 4) af))) (fun _=>rfl))
  case ee2=>exact fun _ _ _ _ _=>pv 4
  have hfew:=C.few;have hn:=C.wi.few;obtain⟨G,B⟩:=Mt.eI C.wi;refine⟨_,rfl,g,n,ph,r,rfl,C,R,fun H1 l xs sm1 hl hl1 hx hcome=>?_⟩;obtain⟨as,q1,q2,q3⟩:=id (R.keep sm1);rw[bE] at q2;have hlt:∀ i∈xs,i<g.length:=fun i hi=>((hcome i).mp hi).lt B.mg;refine⟨l,rfl,⟨_,SqL.of hl1⟩,fun D hD=>?_⟩;refine dS xs (fun n=>V.int (n:Int)) (fun _=>true) (fun i=>V.ref (as.getD i 0)) hl1 hD (by omega) (fun i x H' hi sm R1 R' hR hR'=>⟨rfl,yes ?_⟩) (fun H2 sm2 hD2=>?_)
  ·have hxl:=hlt x (List.mem_of_getElem? hi);have hxa:as[x]?=some (as.getD x 0):=by rw[List.getD_eq_getElem?_getD,List.getElem?_eq_getElem (by omega)];rfl
   exact⟨_,rfl,_,rfl,r,_,_,.ref (as.getD x 0),rfl,rfl,SqL.of (sm _ _ q1),iT (by rw[List.getElem?_map,hxa];rfl),hR' H' (ao.refl _) rfl⟩
  ·rw[hE] at hD2;have R2:cz H2 D (rows ph (xs.map fun i=>g.getD i [])):=by
    refine⟨xs.map fun i=>as.getD i 0,by rw[hD2,List.map_map];rfl,by rw[bE,List.length_map,List.length_map],fun j b l' e1 e2=>?_⟩;unfold rows at e2;rw[List.getElem?_map] at e1;rw[List.getElem?_map,List.getElem?_map] at e2;obtain⟨i,hi,rfl⟩:=Option.map_eq_some_iff.mp e1;rw[hi] at e2;have e2:=Option.some.inj e2;have hxl:=hlt i (List.mem_of_getElem? hi);have hxa:as[i]?=some (as.getD i 0):=by rw[List.getD_eq_getElem?_getD,List.getElem?_eq_getElem (by omega)];rfl
    refine sm2 _ _ (q3 i _ l' hxa ?_);unfold rows;rw[List.getElem?_map,List.getElem?_eq_getElem hxl,← e2];show some (g[i].map ph)=some ((g.getD i []).map ph);rw[List.getD_eq_getElem?_getD,List.getElem?_eq_getElem hxl];rfl
   refine⟨_,rfl,e,rfl,⟨_,SqL.of (sm2 _ _ (sm1 _ _ he))⟩,fun D2 hD2'=>?_⟩;refine dS (List.range n) (fun j=>V.int ((ph j:Nat):Int)) (fun j=>(xs.map fun i=>g.getD i []).any fun l=>l.contains j) (fun j=>V.int ((ph j:Nat):Int)) (by rw[← t9];exact sm2 _ _ (sm1 _ _ he)) hD2' (by rw[List.length_range];omega) (fun i x H' hi sm R1 R' hR hR'=>⟨rfl,?_⟩) (fun H3 sm3 hD3=>k H3 D2 ((sm1.trans sm2).trans sm3) ((sm1.trans sm2).free hD2') ?_)
   ·have hx:x<n:=List.mem_range.mp (List.mem_of_getElem? hi);refine⟨_,rfl,_,rfl,D,_,ph x,rfl,R2.keep sm,by rw[bE,List.length_map];omega,fun H4 sm4=>⟨_,rfl,?_⟩⟩;rw[abB C.inj (fun l hl y hy=>?_) hx]
    ·refine a8 (fun e=>?_) (fun e=>?_)
     ·exact⟨_,rfl,hR' H4 sm4 e⟩
     ·exact hR H4 sm4 (by simpa using e)
    ·obtain⟨i,_,rfl⟩:=List.mem_map.mp hl;exact C.wi.lt i y hy
   ·rw[hD3,Mt.adY C.wi hcome,t9]
end
end My
namespace My
open PySem PySem.Spec PyProof.Rows L2
theorem a7.tU {c:Cs}{H:Hp}{x:Ix}{s:Vbexam.St}(T:a7 c H x s) {i:Nat}{p p':Vbexam.Piece}{a:Addr}{u:HO}(h:s.pieces[i]?=some p) (ha:x.pa[i]?=some a) (el:p'.label=p.label)
  (hu:∃ (dx:Addr) (z:Int),(p'.box=0→z=(p'.holder:Int))∧u = .ins c.Piece dx (pF p' z)) (O:Wf.Ok { s with pieces:=s.pieces.set i p' }) (hc:c.Piece≠c.Box) (hc':c.Piece≠c.aI):a7 c (upd H a u) x { s with pieces:=s.pieces.set i p' }:=by
 obtain⟨dx0,z0,_,hA⟩:=T.ps i p a h ha;have hi:=(List.getElem?_eq_some_iff.mp h).1;have ne:∀ b o,H b=some o→(∀ C dx fs,o = .ins C dx fs→C≠c.Piece)→(upd H a u) b=some o:=fun b o e n=>by
  rw[ae]
  ·exact e
  ·intro q;rw[q,hA] at e;cases e;exact n _ _ _ rfl rfl
 have lst:∀ b xs,H b=some (.lst xs)→(upd H a u) b=some (.lst xs):=fun b xs e=>ne b _ e fun _ _ _ q=>by cases q
 have rd:∀ {b:Addr} {kvs:List (Key×V)},Rd H b (.dK kvs)→Rd (upd H a u) b (.dK kvs):=fun e=>e.elim (fun e=>.inl (ne _ _ e fun _ _ _ q=>by cases q)) fun ⟨o,e⟩=>.inr ⟨o,ne _ _ e fun _ _ _ q=>by cases q⟩;refine⟨?_,?_,rd T.dB,T.nPB,?_,T.f9,T.pnd,T.bnd,fun j q b hq hb=>?_,fun j q b hq hb=>?_,lst _ _ T.lH,T.hlen,fun j v q hv hq=>?_,O⟩
 ·obtain⟨dx,e⟩:=T.st;exact⟨dx,ne _ _ e fun C _ _ q=>by cases q;exact fun z=>hc' z.symm⟩
 ·show Rd (upd H a u) x.dP (.dK (pk (s.pieces.set i p') x.pa));rw[aeK h el];exact rd T.dP
 ·show x.pa.length=(s.pieces.set i p').length;rw[List.length_set];exact T.dy
 ·have hq:(s.pieces.set i p')[j]?=some q:=hq;by_cases e:i=j
  ·subst e;rw[List.getElem?_set_self hi] at hq;cases hq;have:b=a:=Option.some.inj (hb.symm.trans ha);subst this;obtain⟨dx,z,e1,e2⟩:=hu;exact⟨dx,z,e1,by rw[ah,e2]⟩
  ·rw[List.getElem?_set_ne e] at hq;obtain⟨dx,z,e1,e2⟩:=T.ps j q b hq hb;refine⟨dx,z,e1,?_⟩;rw[ae (fun (w:b=a)=>e (abo T.pnd ha (by rw[← w];exact hb)))];exact e2
 ·obtain⟨dx,e⟩:=T.bs j q b hq hb;exact⟨dx,ne _ _ e fun C _ _ q=>by cases q;exact fun z=>hc z.symm⟩
 ·obtain⟨t,l,e1,e2,e3⟩:=T.hs j v q hv hq;exact⟨t,l,e1,ne _ _ e2 (fun _ _ _ q=>by cases q),lst _ _ e3⟩
theorem a7.unlock {c:Cs}{H:Hp}{x:Ix}{s:Vbexam.St}(T:a7 c H x s) {od:Obj}(hP:H x.dP=some (.frz od (.dK (pk s.pieces x.pa)))) (hB:H x.dB=some (.dK (bk x.ba))):ax c (upd H x.dP (.dK (pk s.pieces x.pa))) x s:=by
 have ne:∀ b o,H b=some o→(∀ o' u,o≠.frz o' u)→(upd H x.dP (.dK (pk s.pieces x.pa))) b=some o:=fun b o e n=>by
  rw[ae (cp e hP (n _ _))];exact e
 have eB:=ne _ _ hB (fun _ _ z=>by cases z);refine⟨⟨?_,.inl ah,.inl eB,T.nPB,T.dy,T.f9,T.pnd,T.bnd,fun i p a h1 h2=>?_,fun i p a h1 h2=>?_,ne _ _ T.lH (fun _ _ z=>by cases z),T.hlen,fun i v q h1 h2=>?_,T.ok⟩,ah,eB⟩
 ·obtain⟨dx,e⟩:=T.st;exact⟨dx,ne _ _ e fun _ _ z=>by cases z⟩
 ·obtain⟨dx,z,e1,e2⟩:=T.ps i p a h1 h2;exact⟨dx,z,e1,ne _ _ e2 fun _ _ z=>by cases z⟩
 ·obtain⟨dx,e2⟩:=T.bs i p a h1 h2;exact⟨dx,ne _ _ e2 fun _ _ z=>by cases z⟩
 ·obtain⟨t,l,e1,e2,e3⟩:=T.hs i v q h1 h2;exact⟨t,l,e1,ne _ _ e2 (fun _ _ z=>by cases z),ne _ _ e3 fun _ _ z=>by cases z⟩
theorem Step.same {c:Cs}{H H1:Hp}{x:Ix}{s:Vbexam.St}(T:ax c H x s) (sm:ao H H1):Step c H H1 x x s:=⟨T.keep sm,rfl,fun b o e _=>sm b o e,fun _ h=>.inl h,fun _ h=>h⟩
theorem eR.tH {c:Cs}{H:Hp}{x:Ix}{s:Vbexam.St}{ans:List Int}{Q:VK}(k:eR c H x (s,ans) Q) (T:ax c H x s):m4 H (ans.map V.int) Q:=fun H' l sm hl hl2=>
 k H' x l (Step.same T sm) hl hl2 fun m=>by
  obtain⟨o,q⟩:=T.fQ m;rw[hl] at q;cases q
section
variable {P:Program}{w:World}{K:PySem.W.Frag}{mg:Str→Option Value}{base:Heap}(T:Pg K mg)
def gY (s:Vbexam.St) (b:Nat):Bool:=b != 0&&Vbexam.coldBy s Vbexam.BOXES b
def ak5 (c:Cs):Sp:=fun vs H Q _=>∃ (x:Ix) (s:Vbexam.St) (b:Nat),vs = [.ref x.S,.int b]∧a7 c H x s∧b≤s.boxes.length∧Q (.bl (gY s b)) H
theorem mx:aP P w K mg base CX0 1 T.cP.f T.cP.fd ["self", "number"] (ak5 T.c):=by
 refine T.cP.F.ok mP (fun vs H Q E h=>?_) (fun cdv A outer s₀ H vs Q E hr h=>?_)
 ·obtain⟨x,s,b,rfl,_⟩:=h;rfl
 ·obtain⟨x,s,b,rfl,S,h2,k⟩:=h;have hu:=bX hr;refine⟨_,ab (k3 PassesOwn.never (aQ fc (pv 1) aw (aX _))
    (ab (aY (bJ (au (aF hu (au (pv 0) rfl) (pv 1) (fun _ _=>rfl)) rfl) (fun _=>rfl)) (ai (ak fN)) aL)
    (ai (aJ (i:=1) mP.nd rfl (Or.inl rfl) (au (aF hu (au (pv 0) rfl) (pv 1) (fun _ _=>rfl)) rfl)))))
   (ai (ak fN)),?_⟩
  obtain⟨dx,hS⟩:=S.st;refine⟨fun m σ H'=>∃ n:Nat,σ = [some (.ref x.S),some (.int n)]∧H'=H∧n≤s.boxes.length∧(n≠0→∃ j,m=j+1∧Bx.Dep s n j)∧gY s n=gY s b,?_,?_⟩
  ·by_cases e:b=0
   ·exact⟨0,b,rfl,rfl,h2,fun z=>absurd e z,rfl⟩
   ·obtain⟨k0,d0⟩:=S.ok.bx.dep b (Nat.pos_of_ne_zero e) h2;exact⟨k0+1,b,rfl,rfl,h2,fun _=>⟨k0,rfl,d0⟩,rfl⟩
  rintro m σ H' ⟨n,rfl,rfl,n2,dn,en⟩;refine⟨_,rfl,rfl,_,rfl,?_⟩;refine a8 (fun e=>?_) (fun e=>?_)
  ·have e:n≠0:=fun z=>by simp[z] at e
   have n1:=Nat.pos_of_ne_zero e;obtain⟨j,rfl,dj⟩:=dn e;obtain⟨a,ha,⟨da,hA⟩,hv⟩:=S.box n1 n2;have hin:gY s n=((Vbexam.box s n).frost||gY s (Vbexam.box s n).inside):=by
    unfold gY;rw[Bx.akp S.ok.bx n1 n2];simp[e]
   refine⟨fun σ' H''=>σ' = [some (.ref x.S),some (.int (Vbexam.box s n).inside)]∧H''=H'∧(Vbexam.box s n).frost=false,?_,?_⟩
   ·rintro σ' H'' ⟨rfl,rfl,no⟩;cases dj with
    | root q=>exact⟨0,Nat.succ_pos _,_,rfl,rfl,S.ok.bx.ins n n1 n2,fun z=>absurd q z,by rw[← en,hin];simp[no]⟩
    | @step _ m nz dj=>exact⟨m+1,Nat.lt_succ_self _,_,rfl,rfl,S.ok.bx.ins n n1 n2,fun _=>⟨m,rfl,dj⟩,by rw[← en,hin];simp[no]⟩
   ·refine⟨_,rfl,x.S,T.c.aI,dx,_,_,rfl,hS,T.aq,T.aU,rfl,_,rfl,x.dB,_,rfl,S.j7 hv,a,T.c.Box,da,_,_,rfl,hA,T.bP,T.fh,rfl,_,rfl,?_⟩;refine a8 (fun e2=>?_) (fun e2=>?_)
    ·have:gY s b=true:=by rw[← en,hin];simp[e2]
     rw[this] at k;exact k
    ·have e2:(Vbexam.box s n).frost=false:=by simpa using e2
     exact⟨_,rfl,x.S,T.c.aI,dx,_,_,rfl,hS,T.aq,T.aU,rfl,_,rfl,x.dB,_,rfl,S.j7 hv,a,T.c.Box,da,_,_,rfl,hA,T.bP,T.bb,rfl,rfl,rfl,e2⟩
  ·have e:n=0:=by simpa using e
   have:gY s b=false:=by rw[← en,e];rfl
   rw[this] at k;exact k
theorem aah:aP P w K mg base CX0 2 T.fk.f T.fk.fd ["self", "piece"] (acv T.c fun s p=>.bl (Vbexam.cold s p)):=by
 refine T.fk.F.ok aaC (fun vs H Q E h=>?_) (fun cdv A outer s₀ H vs Q E hr h=>?_)
 ·obtain⟨x,s,i,p,a,rfl,_⟩:=h;rfl
 ·obtain⟨x,s,i,p,a,rfl,S,hp,ha,k⟩:=h;refine⟨_,ai (ak (bj (pv 0) T.aq T.i5 (mx T) hr T.cP.b .nil aE (aa (au (pv 1) rfl) af))),?_⟩;obtain⟨dx,hS⟩:=S.st;obtain⟨da,z,hz,hA⟩:=S.ps i p a hp ha;exact⟨_,rfl,x.S,dx,_,rfl,hS,rfl,_,rfl,a,T.c.Piece,da,_,_,rfl,hA,T.aD,T.bc,rfl,x,s,p.box,rfl,S,S.ok.inb p (List.mem_of_getElem? hp),k⟩
def ahk (c:Cs):Sp:=fun vs H Q _=>∃ (x:Ix) (s:Vbexam.St) (g:Addr) (b f:Nat),vs = [.ref x.S,.ref g]∧ax c H x s∧H g=some (.dK (gv [("b",(b:Int)),("kept",(f:Int))]))∧g ∉ foot x∧1≤b∧b≤s.boxes.length ∧
 eR c H x (Vbexam.act s (.frost b f)) Q
theorem aey:aP P w K mg base CX0 1 T.eX.f T.eX.fd ["store", "given"] (ahk T.c):=by
 refine T.eX.F.ok yF (fun vs H Q E h=>?_) (fun cdv A outer s₀ H vs Q E hr h=>?_)
 ·obtain⟨x,s,g,b,f,rfl,_⟩:=h;rfl
 ·obtain⟨x,s,g,b,f,rfl,S,hg,hgf,b1,b2,po⟩:=h;have hu:=bX hr;refine⟨_,ab (aJ (i:=2) yF.nd rfl (Or.inl rfl) (aF hu (au (pv 0) rfl) (aF hu (pv 1) aW (fun _ _=>rfl)) (fun _ _=>rfl)))
   (ab (bC (pv 2) (y0 iI (aF hu (pv 1) aW (fun _ _=>rfl)) aw (aX _)) rfl)
   (ai (ak (aS (aa aw af))))),?_⟩
  obtain⟨dx,hS⟩:=S.rd.st;obtain⟨a,ha,⟨da,hA⟩,hv⟩:=S.rd.box b1 b2;have ef:decide (V.int (f:Int)=V.int 1)=((f:Int) == 1):=yT;have act:Vbexam.act s (.frost b f)=(Vbexam.setBox s b fun x=>{ x with frost:=decide (V.int (f:Int)=V.int 1) },[0]):=by
   rw[show Vbexam.act s (.frost b f)=Vbexam.ofBox s b (fun b=>(Vbexam.setBox s b fun x=>{ x with frost:=(f:Int) == 1 },[0])) from rfl,fW b2,ef]
  have O2:=S.rd.ok.setBox (f:=fun x=>{ x with frost:=decide (V.int (f:Int)=V.int 1) }) b1 b2 (fun _=>rfl);rw[act,d3 b1 b2] at po;rw[d3 b1 b2] at O2;refine⟨_,rfl,x.S,T.c.aI,dx,_,_,rfl,hS,T.aq,T.aU,rfl,_,rfl,g,_,rfl,bW hg rfl,x.dB,_,rfl,S.rd.j7 hv,?_⟩;refine⟨_,rfl,g,_,rfl,bW (z:=(f:Int)) hg rfl,rfl,_,rfl,a,T.c.Box,da,_,rfl,hA,T.bP,T.fh,(by show 4<1000;decide),?_⟩;have S1:=S.setB (u:=.ins T.c.Box da (bF { Vbexam.box s b with frost:=decide (V.int (f:Int)=V.int 1) })) ha ⟨da,rfl⟩ O2 T.bf T.cG;exact⟨bI,fun l hl=>po.done S (ax.y6 ha S1) hl rfl⟩
def afS (c:Cs):Sp:=fun vs H Q _=>∃ (p dx:Addr),vs = [.ref p]∧H p=some (.ins c.aI dx [])∧∀ (H':Hp) (x:Ix),x.S=p→ax c H' x Vbexam.start→(∀ b o,H b=some o→b≠p→H' b=some o)→(∀ b∈foot x,b=p∨H b=none)→Q .non H'
theorem adl:aP P w K mg base CX0 1 T.gW.f T.gW.fd ["self"] (afS T.c):=by
 refine T.gW.F.ok adu (fun vs H Q E h=>?_) (fun cdv A outer s₀ H vs Q E hr h=>?_)
 ·obtain⟨p,dx,rfl,_⟩:=h;rfl
 ·obtain⟨p,dx,rfl,hp,k⟩:=h;refine⟨_,ab (bC (pv 0) nv rfl) (ab (bC (pv 0) nv rfl) (ab (bC (pv 0) (aS af) rfl) (ai (bC (pv 0) aw rfl)))),?_⟩;refine fun dP hP=>?_;have n1:p≠dP:=az hp hP;refine⟨_,rfl,p,T.c.aI,dx,_,rfl,by rw[ae n1];exact hp,T.aq,T.aO,(by show 0<1000;decide),fun dB hB=>?_⟩;have n2:p≠dB:=fun e=>by rw[← e,ah] at hB;cases hB
  have n3:dP≠dB:=fun e=>by rw[← e,ae n1.symm,ah] at hB;cases hB
  refine⟨_,rfl,p,T.c.aI,dx,_,rfl,by rw[ae n2];exact ah,T.aq,T.aU,(by show 1<1000;decide),(by show 0≤sizeLine;decide),fun lH hH=>?_⟩;have n4:p≠lH:=fun e=>by rw[← e,ah] at hH;cases hH
  have n5:dB≠lH:=fun e=>by rw[← e,ae n2.symm,ah] at hH;cases hH
  have n6:dP≠lH:=fun e=>by rw[← e,ae n1.symm,ae n3,ae n1.symm,ah] at hH;cases hH
  refine⟨_,rfl,p,T.c.aI,dx,_,rfl,by rw[ae n4];exact ah,T.aq,T.ck,(by show 2<1000;decide),?_⟩;refine⟨_,rfl,p,T.c.aI,dx,_,rfl,ah,T.aq,T.cZ,(by show 3<1000;decide),?_⟩;rw[b8];have hP0:H dP=none:=hP;have hB0:H dB=none:=by
   cases e:H dB with
   | none=>rfl
   | some o=>rw[ae n2.symm,ae n3.symm,e] at hB;cases hB
  have hH0:H lH=none:=by
   cases e:H lH with
   | none=>rfl
   | some o=>rw[ae n4.symm,ae n5.symm,ae n4.symm,ae n6.symm,e] at hH;cases hH
  refine k _ ⟨p,dP,dB,lH,[],[],[]⟩ rfl ⟨⟨⟨dx,ah⟩,.inl ?_,.inl ?_,n3.symm,rfl,rfl,List.nodup_nil,List.nodup_nil,fun i p a h=>(by simp[Vbexam.start] at h),fun i p a h=>(by simp[Vbexam.start] at h),?_,rfl,fun i v h e=>(by simp at e),Wf.ajS⟩,?_,?_⟩ (fun b o e hb=>?_) (fun b hb=>?_)
  ·rw[ae n1.symm,ae n6,ae n1.symm,ae n3,ae n1.symm,ah];rfl
  ·rw[ae n2.symm,ae n5,ae n2.symm,ah];rfl
  ·rw[ae n4.symm,ah]
  ·rw[ae n1.symm,ae n6,ae n1.symm,ae n3,ae n1.symm,ah];rfl
  ·rw[ae n2.symm,ae n5,ae n2.symm,ah];rfl
  ·rw[ae hb,ae (az e hH0),ae hb,ae (az e hB0),ae hb,ae (az e hP0)];exact e
  ·unfold foot at hb;simp only[List.mem_cons,List.append_nil,List.not_mem_nil,or_false] at hb;rcases hb with q|q|q|q
   ·exact .inl q
   ·exact .inr (q ▸ hP0)
   ·exact .inr (q ▸ hB0)
   ·exact .inr (q ▸ hH0)
end
theorem xD {s s':Vbexam.St}(h:s'.boxes=s.boxes):∀ (k b:Nat),Vbexam.coldBy s' k b=Vbexam.coldBy s k b
 | 0,b=>by
  unfold Vbexam.coldBy;rw[Wf.rK h]
 | k+1,b=>by
  unfold Vbexam.coldBy;rw[Wf.rK h,xD h k]
theorem agB {s s':Vbexam.St}(h:s'.boxes=s.boxes) (p:Vbexam.Piece):Vbexam.cold s' p=Vbexam.cold s p:=by
 unfold Vbexam.cold;rw[xD h]
theorem alV {s:Vbexam.St}(O:Wf.Ok s) (t:Nat):Wf.Ok { s with time:=t }:=O.boxes rfl rfl (Wf.vx O.bx rfl fun _ _=>rfl)
theorem ax.anP {c:Cs}{H:Hp}{x:Ix}{s:Vbexam.St}(T:ax c H x s) {dx:Addr}(hS:H x.S=some (.ins c.aI dx (sF x.dP x.dB x.lH s.time))) (t:Nat) (hc:c.Piece≠c.aI) (hc':c.Box≠c.aI) :
  ax c (upd H x.S (.ins c.aI dx (sF x.dP x.dB x.lH t))) x { s with time:=t }:=by
 have ne:∀ b o,H b=some o→(∀ dx fs,o≠.ins c.aI dx fs)→(upd H x.S (.ins c.aI dx (sF x.dP x.dB x.lH t))) b=some o:=fun b o e n=>by
  rw[ae (cp e hS (n _ _))];exact e
 have eP:=ne _ _ T.eP (fun _ _ z=>by cases z);have eB:=ne _ _ T.eB (fun _ _ z=>by cases z);refine⟨⟨⟨dx,ah⟩,.inl eP,.inl eB,T.rd.nPB,T.rd.dy,T.rd.f9,T.rd.pnd,T.rd.bnd,fun i p a h1 h2=>?_,fun i p a h1 h2=>?_,ne _ _ T.rd.lH (fun _ _ z=>by cases z),T.rd.hlen,fun i v q h1 h2=>?_,alV T.rd.ok t⟩,eP,eB⟩
 ·obtain⟨da,z,e1,e2⟩:=T.rd.ps i p a h1 h2;exact⟨da,z,e1,ne _ _ e2 fun _ _ z=>by injection z with z;exact hc z⟩
 ·obtain⟨da,e2⟩:=T.rd.bs i p a h1 h2;exact⟨da,ne _ _ e2 fun _ _ z=>by injection z with z;exact hc' z⟩
 ·obtain⟨t',l,e1,e2,e3⟩:=T.rd.hs i v q h1 h2;exact⟨t',l,e1,ne _ _ e2 (fun _ _ z=>by cases z),ne _ _ e3 fun _ _ z=>by cases z⟩
def c5 (s:Vbexam.St) (m:Nat) (p:Vbexam.Piece):Vbexam.Piece:=if p.gone=true∨Vbexam.cold s p=true then p else { p with warm:=p.warm+m }
theorem eJ (s:Vbexam.St) (m:Nat) (p:Vbexam.Piece):(c5 s m p).label=p.label∧(c5 s m p).parent=p.parent∧(c5 s m p).box=p.box∧(c5 s m p).gone=p.gone∧(c5 s m p).holder=p.holder:=by
 unfold c5;by_cases h:p.gone=true∨Vbexam.cold s p=true
 ·rw[if_pos h];exact⟨rfl,rfl,rfl,rfl,rfl⟩
 ·rw[if_neg h];exact⟨rfl,rfl,rfl,rfl,rfl⟩
def pcs (s:Vbexam.St) (m i:Nat):List Vbexam.Piece:=(s.pieces.take i).map (c5 s m)++s.pieces.drop i
theorem agd {s:Vbexam.St}{m i:Nat}{p:Vbexam.Piece}(h:s.pieces[i]?=some p):(pcs s m i)[i]?=some p:=by
 have hi:=(List.getElem?_eq_some_iff.mp h).1;have hl:((s.pieces.take i).map (c5 s m)).length=i:=by rw[List.length_map,List.length_take];omega
 unfold pcs;rw[List.getElem?_append_right (by omega),hl,Nat.sub_self,List.getElem?_drop];exact h
theorem aeG {s:Vbexam.St}{m i:Nat}{p:Vbexam.Piece}(h:s.pieces[i]?=some p):(pcs s m i).set i (c5 s m p)=pcs s m (i+1):=by
 have hi:=(List.getElem?_eq_some_iff.mp h).1;have hl:((s.pieces.take i).map (c5 s m)).length=i:=by rw[List.length_map,List.length_take];omega
 have hd:s.pieces.drop i=p::s.pieces.drop (i+1):=by
  rw[List.drop_eq_getElem_cons hi];rw[List.getElem?_eq_getElem hi] at h;rw[Option.some.inj h]
 unfold pcs;rw[List.set_append_right _ _ (by omega),hl,Nat.sub_self,hd,take_snoc h,List.map_append,List.append_assoc];rfl
theorem akM {s:Vbexam.St}{m i:Nat}:(pcs s m i).length=s.pieces.length:=by
 unfold pcs;rw[List.length_append,List.length_map,← List.length_append,List.take_append_drop]
theorem ag8 {s:Vbexam.St}{m i:Nat}:(pcs s m i).map (fun p=>p.label)=s.pieces.map fun p=>p.label:=by
 unfold pcs;rw[List.map_append,List.map_map];have:((fun p:Vbexam.Piece=>p.label)∘c5 s m)=fun p=>p.label:=funext fun p=>(eJ s m p).1;rw[this,← List.map_append,List.take_append_drop]
section
variable {P:Program}{w:World}{K:PySem.W.Frag}{mg:Str→Option Value}{base:Heap}(T:Pg K mg)
def amq (c:Cs):Sp:=fun vs H Q _=>∃ (x:Ix) (s:Vbexam.St) (g:Addr) (m:Nat),vs = [.ref x.S,.ref g]∧ax c H x s∧H g=some (.dK (gv [("minutes",(m:Int))]))∧g ∉ foot x∧eR c H x (Vbexam.act s (.pass m)) Q
theorem ag4:aP P w K mg base CX0 3 T.gx.f T.gx.fd ["store", "given"] (amq T.c):=by
 refine T.gx.F.ok vW (fun vs H Q E h=>?_) (fun cdv A outer s₀ H vs Q E hr h=>?_)
 ·obtain⟨x,s,g,m,rfl,_⟩:=h;rfl
 ·obtain⟨x,s,g,m,rfl,S,hg,hgf,po⟩:=h;have hu:=bX hr;obtain⟨ul,gl,rl⟩:=T.wB;refine⟨_,ab (aJ (i:=2) vW.nd rfl (Or.inl rfl) (fw yc (au (pv 0) rfl) (aF hu (pv 1) aW (fun _ _=>rfl))))
   (ab (aY (aQ abw (pv 2) (cK rfl gl rl) (aX _)) (ai (ak (aS (aa (bY bD aw) af)))) aL)
   (ab (bC (pv 0) (pv 2) rfl)
   (ab (nA (fZ PassesOwn.never rfl (sA (au (pv 0) rfl)) (aZ (i:=3) vW.nd rfl (Or.inl rfl))
    (ai (aY ((aeN (fD (bJ (au (pv 3) rfl) (fun _=>rfl))) (aco (fD (bJ (bj (pv 0) T.aq T.sr (aah T) hr T.fk.b .nil aE (aa (pv 3) af)) (fun _=>rfl))))).pt)
     (ai (lC (pv 3) (aF hu (pv 1) aW (fun _ _=>rfl)) abg)) aL))))
   (ai (ak (aS (aa (pv 2) af))))))),?_⟩
  obtain⟨dx,hS⟩:=S.rd.st;have act:Vbexam.act s (.pass m)=if Vbexam.TIME<s.time+m then (s,[-4]) else ({ s with time:=s.time+m,pieces:=s.pieces.map (c5 s m) },[((s.time+m:Nat):Int)]):=rfl
  rw[act] at po;refine⟨_,rfl,x.S,T.c.aI,dx,_,_,rfl,hS,T.aq,T.cZ,rfl,_,rfl,g,_,rfl,bW (z:=(m:Int)) hg rfl,_,_,rfl,rfl,?_⟩;refine⟨_,rfl,_,_,rfl,rfl,_,rfl,?_⟩;refine a8 (fun e=>?_) (fun e=>?_)
  ·have e:Vbexam.TIME<s.time+m:=by
    have e:(1000000000:Int)<(s.time:Int)+m:=by simpa using e
    show 1000000000<_;omega
   rw[if_pos e] at po;exact⟨_,rfl,bI,fun l hl=>po.done S (Step.refl S) hl rfl⟩
  have e:¬ Vbexam.TIME<s.time+m:=by
   have e:¬ (1000000000:Int)<(s.time:Int)+m:=by simpa using e
   show ¬ 1000000000<_;omega
  rw[if_neg e] at po;have et:(s.time:Int)+m=((s.time+m:Nat):Int):=by omega
  refine⟨_,rfl,_,rfl,x.S,T.c.aI,dx,_,rfl,hS,T.aq,T.cZ,(by show 4<1000;decide),?_⟩;have hH1:upd H x.S (.ins T.c.aI dx (eV "minute" (V.int ((s.time:Int)+m)) (sF x.dP x.dB x.lH s.time)))=upd H x.S (.ins T.c.aI dx (sF x.dP x.dB x.lH (s.time+m))):=by
   rw[et];rfl
  rw[hH1];have S1:=S.anP hS (s.time+m) T.br T.cG;have hgS:g≠x.S:=fun z=>hgf (z ▸ (by unfold foot;exact List.mem_cons_self ..));have hg1:(upd H x.S (.ins T.c.aI dx (sF x.dP x.dB x.lH (s.time+m)))) g=some (.dK (gv [("minutes",(m:Int))])):=by rw[ae hgS];exact hg
  have kp1:∀ b o,H b=some o→b ∉ foot x→(upd H x.S (.ins T.c.aI dx (sF x.dP x.dB x.lH (s.time+m)))) b=some o:=fun b o q n=>by
   rw[ae (fun (z:b=x.S)=>n (by rw[z];unfold foot;exact List.mem_cons_self ..))];exact q
  generalize upd H x.S (.ins T.c.aI dx (sF x.dP x.dB x.lH (s.time+m)))=H1 at S1 hg1 kp1 ⊢;obtain⟨dx1,hS1⟩:=S1.rd.st;refine⟨x.dP,_,S1.eP,trivial,fun od=>?_⟩;have R2:=S1.rd.lock S1.eP od;have hgP:g≠x.dP:=fun z=>hgf (z ▸ (by unfold foot;exact List.mem_cons_of_mem _ (List.mem_cons_self ..)));have hg2:(upd H1 x.dP (.frz od (.dK (pk s.pieces x.pa)))) g=some (.dK (gv [("minutes",(m:Int))])):=by rw[ae hgP];exact hg1
  have hB2:(upd H1 x.dP (.frz od (.dK (pk s.pieces x.pa)))) x.dB=some (.dK (bk x.ba)):=by rw[ae S1.rd.nPB];exact S1.eB
  have hP2:(upd H1 x.dP (.frz od (.dK (pk s.pieces x.pa)))) x.dP=some (.frz od (.dK (pk s.pieces x.pa))):=ah;have kp2:∀ b o,H b=some o→b ∉ foot x→(upd H1 x.dP (.frz od (.dK (pk s.pieces x.pa)))) b=some o:=fun b o q n=>by
   rw[ae (fun (z:b=x.dP)=>n (by rw[z];unfold foot;exact List.mem_cons_of_mem _ (List.mem_cons_self ..)))];exact kp1 b o q n
  obtain⟨dx2,hS2⟩:=R2.st;have R2:a7 T.c (upd H1 x.dP (.frz od (.dK (pk s.pieces x.pa)))) x { s with time:=s.time+m }:=R2;show(afb _ _ _) _ _ (upd H1 x.dP (.frz od (.dK (pk s.pieces x.pa))));generalize upd H1 x.dP (.frz od (.dK (pk s.pieces x.pa)))=H2 at R2 hg2 hB2 hP2 kp2 hS2 ⊢;refine⟨_,rfl,x.S,T.c.aI,dx2,_,_,rfl,hS2,T.aq,T.aO,rfl,x.dP,od,_,rfl,hP2,?_⟩;have dy:(pk s.pieces x.pa).length=s.pieces.length:=by
   unfold pk;rw[List.length_map,List.length_zip,List.length_map,S.rd.dy,Nat.min_self]
  refine ad7 (fun i σ H'=>(∃ v3,σ = [some (.ref x.S),some (.ref g),some (.int ((s.time:Int)+m)),v3])∧a7 T.c H' x { s with time:=s.time+m,pieces:=pcs s m i }∧H' g=some (.dK (gv [("minutes",(m:Int))]))∧H' x.dB=some (.dK (bk x.ba))∧H' x.dP=some (.frz od (.dK (pk s.pieces x.pa)))∧∀ b o,H b=some o→b ∉ foot x→H' b=some o)
   ⟨⟨none,rfl⟩,R2,hg2,hB2,hP2,kp2⟩ (fun i σ H' _ p=>p.2.2.2.2.1) (fun i kk v σ H' hi p=>?_) (fun σ H' p=>?_)
  ·obtain⟨⟨v3,rfl⟩,R,hg',hB',hP',kp'⟩:=p;obtain⟨p,a,hp,ha,rfl⟩:=aeJ hi;have hpi:({ s with time:=s.time+m,pieces:=pcs s m i }:Vbexam.St).pieces[i]?=some p:=agd hp;obtain⟨da,z,hz,hA⟩:=R.ps i p a hpi ha;obtain⟨dx3,hS3⟩:=R.st;have hcold:Vbexam.cold { s with time:=s.time+m,pieces:=pcs s m i } p=Vbexam.cold s p:=agB rfl p;have mT:c5 s m p=p→a7 T.c H' x { s with time:=s.time+m,pieces:=pcs s m (i+1) }:=fun e=>by
    have:=aeG (m:=m) hp;rw[e] at this;have e2:(pcs s m i).set i p=pcs s m i:=by
     refine List.ext_getElem? fun j=>?_;rw[List.getElem?_set];by_cases q:i=j
     ·subst q;rw[if_pos rfl,agd hp,if_pos (by rw[akM];exact(List.getElem?_eq_some_iff.mp hp).1)]
     ·rw[if_neg q]
    rw[← this,e2];exact R
   refine⟨_,rfl,a,T.c.Piece,da,_,_,rfl,hA,T.aD,T.cE,rfl,_,rfl,?_⟩;cases hgo:p.gone with
   | true=>
    refine cR ?_;refine cR ?_;exact⟨⟨_,rfl⟩,mT (if_pos (.inl hgo)),hg',hB',hP',kp'⟩
   | false=>
    refine cS ?_;refine⟨_,rfl,x.S,dx3,_,rfl,hS3,rfl,_,rfl,x,_,i,p,a,rfl,R,hpi,ha,_,rfl,?_⟩;rw[hcold];cases hco:Vbexam.cold s p with
    | true=>
     refine cR ?_;exact⟨⟨_,rfl⟩,mT (if_pos (.inr hco)),hg',hB',hP',kp'⟩
    | false=>
     refine cS ?_;refine⟨_,rfl,a,T.c.Piece,da,_,_,rfl,hA,T.aD,T.cF,rfl,_,rfl,g,_,rfl,bW (z:=(m:Int)) hg' rfl,_,_,rfl,rfl,da,_,hA,(by show 10<1000;decide),?_⟩;have ew:c5 s m p = { p with warm:=p.warm+m }:=if_neg (by rw[hgo,hco];simp);have hpm:=List.mem_of_getElem? hp;have hin:p.box≤s.boxes.length:=S.rd.ok.inb p hpm;have R3:=R.tU (p':=c5 s m p) (u:=.ins T.c.Piece da (pF (c5 s m p) z)) hpi ha (eJ s m p).1 ⟨da,z,(by rw[(eJ s m p).2.2.1,(eJ s m p).2.2.2.2];exact hz),rfl⟩
      (pX R.ok hpi (eJ s m p).1 (eJ s m p).2.1 (by rw[(eJ s m p).2.2.1];exact hin) (by rw[(eJ s m p).2.2.1,(eJ s m p).2.2.2.1];exact S.rd.ok.gone p hpm)) T.bf T.br
     have eu:upd H' a (.ins T.c.Piece da (eV "warm" (V.int ((p.warm:Int)+m)) (pF p z)))=upd H' a (.ins T.c.Piece da (pF (c5 s m p) z)):=by
      rw[ew];rfl
     have R3:a7 T.c (upd H' a (.ins T.c.Piece da (pF (c5 s m p) z))) x { s with time:=s.time+m,pieces:=(pcs s m i).set i (c5 s m p) }:=R3;rw[aeG hp] at R3;rw[eu];have naf:a∈foot x:=by
      unfold foot;exact List.mem_cons_of_mem _ (List.mem_cons_of_mem _ (List.mem_cons_of_mem _ (List.mem_cons_of_mem _ (List.mem_append_left _ (List.mem_of_getElem? ha)))))
     refine⟨⟨_,rfl⟩,R3,?_,?_,?_,fun b o q n=>?_⟩
     ·rw[ae (fun (z:g=a)=>hgf (by rw[z];exact naf))];exact hg'
     ·rw[ae (cp hB' hA (by intro z;cases z))];exact hB'
     ·rw[ae (cp hP' hA (by intro z;cases z))];exact hP'
     ·rw[ae (fun (z:b=a)=>n (by rw[z];exact naf))];exact kp' b o q n
  ·obtain⟨⟨v3,rfl⟩,R,hg',hB',hP',kp'⟩:=p;rw[dy] at R;have ep:pcs s m s.pieces.length=s.pieces.map (c5 s m):=by
    unfold pcs;rw[List.take_length,List.drop_length,List.append_nil]
   rw[ep] at R;have epk:pk (s.pieces.map (c5 s m)) x.pa=pk s.pieces x.pa:=by
    rw[← ep];unfold pk;rw[ag8]
   have hP2':H' x.dP=some (.frz od (.dK (pk (s.pieces.map (c5 s m)) x.pa))):=by rw[epk];exact hP'
   have SF:=R.unlock hP2' hB';have SF:ax T.c (upd H' x.dP (.dK (pk (s.pieces.map (c5 s m)) x.pa))) x { s with time:=s.time+m,pieces:=s.pieces.map (c5 s m) }:=SF;rw[epk] at SF;refine⟨hP',?_⟩;rw[et];refine⟨_,rfl,bI,fun l hl=>po.done S ⟨SF,rfl,fun b o q n=>?_,fun _ h=>.inl h,fun _ h=>h⟩ hl rfl⟩;rw[ae (fun (z:b=x.dP)=>n (by rw[z];unfold foot;exact List.mem_cons_of_mem _ (List.mem_cons_self ..)))];exact kp' b o q n
end
theorem akU {kvs:List (Key×V)}{k:Key}{v:V}:(putK kvs k v).length≤kvs.length+1:=by
 unfold putK;by_cases h:(kvs.any fun kv=>decide (kv.1=k))=true
 ·rw[if_pos h,List.length_map];omega
 ·rw[if_neg h,List.length_append];exact Nat.le_refl _
section
variable {P:Program}{w:World}{K:PySem.W.Frag}{mg:Str→Option Value}{base:Heap}(T:Pg K mg)
def ajK (c:Cs):Sp:=fun vs H Q _=>∃ (x:Ix) (s:Vbexam.St) (i:Nat) (p:Vbexam.Piece) (a:Addr),vs = [.ref x.S,.ref a]∧ax c H x s∧s.pieces[i]?=some p∧x.pa[i]?=some a ∧
 ∀ (H':Hp) (l:Addr) (ms:List (Addr×Vbexam.Piece)),ao H H'→H l=none→H' l=some (.lst (ms.map fun m=>V.ref m.1))→ms.map (fun m=>m.2)=p::Wf.later s p.label s.pieces→(∀ m∈ms,qd c H' m.1 m.2)→Q (.ref l) H'
theorem abq:aP P w K mg base CX0 1 T.fT.f T.fT.fd ["self", "piece"] (ajK T.c):=by
 refine T.fT.F.ok jf (fun vs H Q E h=>?_) (fun cdv A outer s₀ H vs Q E hr h=>?_)
 ·obtain⟨x,s,i,p,a,rfl,_⟩:=h;rfl
 ·obtain⟨x,s,i,p,a,rfl,S,hp,ha,k⟩:=h;have hu:=bX hr;refine⟨_,ab (aJ (i:=2) jf.nd rfl (Or.inl rfl) (akN (ajx (au (pv 1) rfl) fN akT) rfl rfl (by simp) (by decide)))
   (ab (aJ (i:=3) jf.nd rfl (Or.inl rfl) (aS (aa (pv 1) af)))
   (ab (nA (fZ PassesOwn.never rfl (sA (au (pv 0) rfl)) (aZ (i:=4) jf.nd rfl (Or.inl rfl))
    (ai (aY (mC (aeF hu (au (pv 4) rfl) (pv 2)))
     (ab (lB hu (pv 2) (au (pv 4) rfl) fN rfl)
     (ai (dZ (my PySem.F.plainAttrs_list PySem.F.slot_list_append PySem.F.type_list_append hU (pv 3) (aa (pv 4) af))))) aL))))
   (ai (ak (pv 3))))),?_⟩
  obtain⟨da,z,hz,hA⟩:=S.rd.ps i p a hp ha;refine fun dl hdl=>?_;have sm0:=bO (ao.refl H) hdl (.dK []);refine⟨_,rfl,a,T.c.Piece,da,_,_,rfl,sm0 _ _ hA,T.aD,T.b7,rfl,ah,[(Sum.inl (p.label:Int),V.bl true)],rfl,(by show 1≤15;decide),?_⟩;rw[b8];have hmk:ud [] [((Sum.inl (p.label:Int):Key),V.bl true)] = [(Sum.inl (p.label:Int),V.bl true)]:=rfl;rw[hmk];have sm1:=bO (ao.refl H) hdl (.dK [((Sum.inl (p.label:Int):Key),V.bl true)]);have hdl1:(upd H dl (.dK [((Sum.inl (p.label:Int):Key),V.bl true)])) dl=some (.dK [(Sum.inl (p.label:Int),V.bl true)]):=ah;generalize upd H dl (.dK [((Sum.inl (p.label:Int):Key),V.bl true)])=H1 at sm1 hdl1 ⊢;refine⟨_,rfl,bI,fun l hl=>?_⟩;have sm2:ao H (upd H1 l (.lst [.ref a])):=bO sm1 hl _;have nld:l≠dl:=fun e=>by rw[e,hdl1] at hl;cases hl
  have hdl2:(upd H1 l (.lst [.ref a])) dl=some (.dK [(Sum.inl (p.label:Int),V.bl true)]):=by rw[ae nld.symm];exact hdl1
  have hl2:(upd H1 l (.lst [.ref a])) l=some (.lst [.ref a]):=ah;have hl0:H l=none:=sm1.free hl;generalize upd H1 l (.lst [.ref a])=H2 at sm2 hdl2 hl2 ⊢;have S2:=S.keep sm2;refine⟨x.dP,_,S2.eP,trivial,fun od=>?_⟩;have R3:=S2.rd.lock S2.eP od;have ndP:dl≠x.dP:=fun e=>by rw[e,S.eP] at hdl;cases hdl
  have nlP:l≠x.dP:=fun e=>by rw[e,S.eP] at hl0;cases hl0
  have hP3:(upd H2 x.dP (.frz od (.dK (pk s.pieces x.pa)))) x.dP=some (.frz od (.dK (pk s.pieces x.pa))):=ah;have hdl3:(upd H2 x.dP (.frz od (.dK (pk s.pieces x.pa)))) dl=some (.dK [(Sum.inl (p.label:Int),V.bl true)]):=by rw[ae ndP];exact hdl2
  have hl3:(upd H2 x.dP (.frz od (.dK (pk s.pieces x.pa)))) l=some (.lst [.ref a]):=by rw[ae nlP];exact hl2
  have sm3:∀ b o,H b=some o→b≠x.dP→(upd H2 x.dP (.frz od (.dK (pk s.pieces x.pa)))) b=some o:=fun b o e n=>by rw[ae n];exact sm2 b o e
  obtain⟨dx,hS3⟩:=R3.st;show(afb _ _ _) _ _ (upd H2 x.dP (.frz od (.dK (pk s.pieces x.pa))));generalize upd H2 x.dP (.frz od (.dK (pk s.pieces x.pa)))=H3 at R3 hP3 hdl3 hl3 hS3 sm3 ⊢;refine⟨_,rfl,x.S,T.c.aI,dx,_,_,rfl,hS3,T.aq,T.aO,rfl,x.dP,od,_,rfl,hP3,?_⟩;have dy:(pk s.pieces x.pa).length=s.pieces.length:=by
   unfold pk;rw[List.length_map,List.length_zip,List.length_map,S.rd.dy,Nat.min_self]
  have hpm:=List.mem_of_getElem? hp;have hfew:=S.rd.ok.few;refine ad7 (fun t σ H'=>(∃ v4,σ = [some (.ref x.S),some (.ref a),some (.ref dl),some (.ref l),v4])∧(∀ b o,H b=some o→b≠x.dP→H' b=some o)∧H' x.dP=some (.frz od (.dK (pk s.pieces x.pa))) ∧
   ∃ (ms:List (Addr×Vbexam.Piece)) (kvs:List (Key×V)),H' l=some (.lst (ms.map fun m=>V.ref m.1))∧H' dl=some (.dK kvs)∧ms.map (fun m=>m.2)=p::Wf.later s p.label (s.pieces.take t)∧(∀ m∈ms,∃ j:Nat,s.pieces[j]?=some m.2∧x.pa[j]?=some m.1)∧ms.length≤t+1∧kvs.length≤t+1 ∧
    ∀ z:Int,(bg kvs (Sum.inl z)).isSome=true↔∃ m∈ms,(m.2.label:Int)=z)
   ⟨⟨none,rfl⟩,sm3,hP3,[(a,p)],_,hl3,hdl3,rfl,fun m hm=>?_,Nat.le_refl _,Nat.le_refl _,fun z=>?_⟩ (fun t σ H' _ q=>q.2.2.1) (fun t kk v σ H' hi q=>?_) (fun σ H' q=>?_)
  ·rw[List.mem_singleton.mp hm];exact⟨i,hp,ha⟩
  ·by_cases e:(p.label:Int)=z
   ·rw[dU (by rw[e])];exact⟨fun _=>⟨(a,p),List.mem_singleton.mpr rfl,e⟩,fun _=>rfl⟩
   ·rw[dz (by intro q;injection q with q;exact e q)];constructor
    ·intro h;cases h
    ·rintro⟨m,hm,e'⟩;rw[List.mem_singleton.mp hm] at e';exact absurd e' e
  ·obtain⟨⟨v4,rfl⟩,sm,hP',ms,kvs,hl',hdl',hms,hat,hml,hkl,hv⟩:=q;obtain⟨q,b,hq,hb,rfl⟩:=aeJ hi;have ht:=(List.getElem?_eq_some_iff.mp hq).1;have hbn:∀ {b:Addr} {o:HO},H b=some o→o≠.dK (pk s.pieces x.pa)→H' b=some o:=fun e n=>sm _ _ e (cp e S.eP n);obtain⟨db,y,hy,hB⟩:=S.rd.ps t q b hq hb;have hB':=hbn hB (by intro z;cases z);refine⟨_,rfl,b,T.c.Piece,db,_,_,rfl,hB',T.aD,T.cX,rfl,_,rfl,dl,_,rfl,hX.k (k:=Sum.inl (src q)) hdl',_,rfl,?_⟩;have key:(bg kvs (Sum.inl (src q))).isSome=(Wf.kD s p.label q&&q.label != p.label):=by
    rw[Bool.eq_iff_iff,hv,Wf.ah9 S.rd.ok hpm hq];have inms:∀ n:Nat,(∃ m∈ms,(m.2.label:Int)=n)↔(n=p.label∨∃ r∈Wf.later s p.label (s.pieces.take t),r.label=n):=fun n=>by
     have:(∃ m∈ms,(m.2.label:Int)=n)↔∃ r∈ms.map (fun m=>m.2),r.label=n:=by
      constructor
      ·rintro⟨m,hm,e⟩;exact⟨m.2,List.mem_map.mpr ⟨m,hm,rfl⟩,by omega⟩
      ·rintro⟨r,hr,e⟩;obtain⟨m,hm,rfl⟩:=List.mem_map.mp hr;exact⟨m,hm,by omega⟩
     rw[this,hms];constructor
     ·rintro⟨r,hr,e⟩;rcases List.mem_cons.mp hr with q|q
      ·exact .inl (by rw[← e,q])
      ·exact .inr ⟨r,q,e⟩
     ·rintro (e|⟨r,hr,e⟩)
      ·exact⟨p,List.mem_cons_self ..,e.symm⟩
      ·exact⟨r,List.mem_cons_of_mem _ hr,e⟩
    cases ep:q.parent with
    | none=>
     have:src q = -1:=by unfold src;rw[ep]
     rw[this];constructor
     ·rintro⟨m,_,e⟩;omega
     ·rintro⟨m,e,_⟩;cases e
    | some n=>
     have:src q=(n:Int):=by unfold src;rw[ep]
     rw[this,inms n];constructor
     ·intro h;exact⟨n,rfl,h⟩
     ·rintro⟨m,e,h⟩;cases e;exact h
   rw[key];have et:Wf.later s p.label (s.pieces.take (t+1))=Wf.later s p.label (s.pieces.take t)++(if(Wf.kD s p.label q&&q.label != p.label)=true then[q] else[]):=by
    unfold Wf.later;rw[take_snoc hq,List.filter_append];by_cases c:(Wf.kD s p.label q&&q.label != p.label)=true
    ·rw[if_pos c,List.filter_cons_of_pos (p:=fun q=>Wf.kD s p.label q&&q.label != p.label) (a:=q) c];rfl
    ·rw[if_neg c,List.filter_cons_of_neg (p:=fun q=>Wf.kD s p.label q&&q.label != p.label) (a:=q) c];rfl
   have nld':l≠dl:=nld;refine a8 (fun e=>?_) (fun e=>?_)
   ·refine⟨_,rfl,_,rfl,b,T.c.Piece,db,_,_,rfl,hB',T.aD,T.b7,rfl,dl,_,rfl,mY.k (k:=Sum.inl (q.label:Int)) hdl' (bo (by omega)),?_⟩;have hl5:(upd H' dl (.dK (putK kvs (Sum.inl (q.label:Int)) (V.bl true)))) l=some (.lst (ms.map fun m=>V.ref m.1)):=by rw[ae nld'];exact hl'
    refine⟨_,rfl,.inl ⟨rfl,_,SqL.of hl5⟩,_,rfl,l,_,_,rfl,rfl,hl5,bo (by rw[List.length_map];omega),?_⟩;refine⟨⟨_,rfl⟩,fun b' o q' n=>?_,?_,ms++[(b,q)],putK kvs (Sum.inl (q.label:Int)) (V.bl true),?_,?_,?_,fun m hm=>?_,?_,?_,fun z=>?_⟩
    ·rw[ae (az q' hl0),ae (az q' hdl)];exact sm b' o q' n
    ·rw[ae nlP.symm,ae ndP.symm];exact hP'
    ·rw[ah,List.map_append];rfl
    ·rw[ae nld'.symm,ah]
    ·rw[List.map_append,hms,et,if_pos e];rfl
    ·rcases List.mem_append.mp hm with q'|q'
     ·exact hat m q'
     ·rw[List.mem_singleton.mp q'];exact⟨t,hq,hb⟩
    ·rw[List.length_append];show ms.length+1≤_;omega
    ·have:=akU (kvs:=kvs) (k:=Sum.inl (q.label:Int)) (v:=V.bl true);omega
    ·rw[aj1];by_cases c:(Sum.inl z:Key)=Sum.inl (q.label:Int)
     ·rw[if_pos c];injection c with c;exact⟨fun _=>⟨(b,q),List.mem_append_right _ (List.mem_singleton.mpr rfl),c.symm⟩,fun _=>rfl⟩
     ·rw[if_neg c,hv];constructor
      ·rintro⟨m,hm,e'⟩;exact⟨m,List.mem_append_left _ hm,e'⟩
      ·rintro⟨m,hm,e'⟩;rcases List.mem_append.mp hm with q'|q'
       ·exact⟨m,q',e'⟩
       ·rw[List.mem_singleton.mp q'] at e';exact absurd (by rw[← e']) c
   ·refine⟨⟨_,rfl⟩,sm,hP',ms,kvs,hl',hdl',?_,hat,by omega,by omega,hv⟩;rw[hms,et,if_neg e,List.append_nil]
  ·obtain⟨⟨v4,rfl⟩,sm,hP',ms,kvs,hl',hdl',hms,hat,hml,hkl,hv⟩:=q;rw[dy,List.take_length] at hms;refine⟨hP',_,rfl,?_⟩;have smF:ao H (upd H' x.dP (.dK (pk s.pieces x.pa))):=fun b o e=>by
    by_cases c:b=x.dP
    ·rw[c,ah,← S.eP,← c];exact e
    ·rw[ae c];exact sm b o e c
   refine k _ l ms smF hl0 (by rw[ae nlP];exact hl') hms fun m hm=>?_;obtain⟨j,h1,h2⟩:=hat m hm;obtain⟨dj,y,e1,e2⟩:=S.rd.ps j m.2 m.1 h1 h2;exact⟨dj,y,e1,smF _ _ e2⟩
def aiy:Sp:=fun vs H Q _=>∃ (a:Addr) (xs:List V),vs = [.ref a]∧H a=some (.lst xs)∧xs.length≤900∧m4 H (.int xs.length::xs) Q
theorem fb:aP P w K mg base CX0 1 T.bw.f T.bw.fd ["numbers"] aiy:=by
 refine T.bw.F.ok ahg (fun vs H Q E h=>?_) (fun cdv A outer s₀ H vs Q E hr h=>?_)
 ·obtain⟨a,xs,rfl,_⟩:=h;rfl
 ·obtain⟨a,xs,rfl,ha,hx,k⟩:=h;refine⟨_,ai (ak (fw oE (aS (aa (a6 bB (by rfl) T.cU PySem.boot_len (aa (pv 0) af)) af)) (pv 0))),?_⟩;refine⟨_,rfl,a,_,rfl,.inl (SqL.of ha),bI,fun l hl=>?_⟩;have sm:=bO (ao.refl H) hl (.lst [.int xs.length]);refine⟨_,rfl,l,a,_,_,rfl,rfl,ah,sm _ _ ha,?_,fun p hp=>k.here sm hp rfl⟩;have:1+xs.length≤1000:=by omega
  exact Nat.le_of_lt (bo this)
def ahi:Sp:=fun vs H Q _=>∃ b:Bool,vs = [.bl b]∧Q (.int (Vbexam.bit b)) H
theorem rh:aP P w K mg base CX0 1 T.dE.f T.dE.fd ["truth"] ahi:=by
 refine T.dE.F.ok aeY (fun vs H Q E h=>?_) (fun cdv A outer s₀ H vs Q E hr h=>?_)
 ·obtain⟨b,rfl,_⟩:=h;rfl
 ·obtain⟨b,rfl,k⟩:=h;refine⟨_,ai (ak (aju (bJ (pv 0) (fun _=>rfl)) aw aw)),?_⟩;refine⟨_,rfl,_,rfl,?_⟩;cases b with
  | true=>exact cS k
  | false=>exact cR k
end
theorem ajf {H:Hp}{g:Addr}{kvs:List (Key×V)}{n:Str}{v:V}(h:H g=some (.dK kvs)) (e:bg kvs (Sum.inr n)=some v):hX H g (.str n) (some v):=.inl ⟨_,Sum.inr n,.inl h,rfl,e.symm⟩
theorem aav (l:List Nat):(Wf.rise l).length≤l.length:=by
 refine Mt.bZ ?_ fun x hx=>Wf.vB.mp hx;exact(Wf.p7 l).imp fun h=>Nat.ne_of_lt h
theorem akB {s:Vbexam.St}(O:Wf.Ok s) (o:Nat):(Vbexam.manifest s o).length≤40:=by
 rw[Wf.oa O];refine Nat.le_trans (aav _) ?_;rw[List.length_map];exact Nat.le_trans (List.length_filter_le _ _) O.few
theorem abi (l:List Nat):(Vbexam.ints l).map Int.toNat=l:=by
 unfold Vbexam.ints;rw[List.map_map];have:(Int.toNat∘fun (n:Nat)=>(n:Int))=id:=funext fun n=>Int.toNat_natCast n;rw[this,List.map_id]
theorem fR (l:List Nat):(Vbexam.listed (Vbexam.ints l)).map V.int=V.int ((iv l).length:Int)::iv l:=by
 unfold Vbexam.listed;rw[List.map_cons,← ll,cc];unfold Vbexam.ints;rw[List.length_map]
section
variable {P:Program}{w:World}{K:PySem.W.Frag}{mg:Str→Option Value}{base:Heap}(T:Pg K mg)
def acx (c:Cs) (mkc:Int→Vbexam.Call):Sp:=fun vs H Q _=>∃ (x:Ix) (s:Vbexam.St) (g:Addr) (n:Nat) (p:Vbexam.Piece),vs = [.ref x.S,.ref g]∧ax c H x s∧s.hands.length≤200∧H g=some (.dK (gv [("n",(n:Int))]))∧Vbexam.piece s n=some p∧eR c H x (Vbexam.act s (mkc n)) Q
def agk (c:Cs) (mkc:Int→Vbexam.Call):Sp:=fun vs H Q _=>∃ (x:Ix) (s:Vbexam.St) (g:Addr) (b:Nat),vs = [.ref x.S,.ref g]∧ax c H x s∧H g=some (.dK (gv [("b",(b:Int))]))∧1≤b∧b≤s.boxes.length∧eR c H x (Vbexam.act s (mkc b)) Q
theorem adq:aP P w K mg base CX0 4 T.eF.f T.eF.fd ["store", "given"] (acx T.c .piece):=by
 refine T.eF.F.ok px (fun vs H Q E h=>?_) (fun cdv A outer s₀ H vs Q E hr h=>?_)
 ·obtain⟨x,s,g,n,p,rfl,_⟩:=h;rfl
 ·obtain⟨x,s,g,n,p,rfl,S,hh,hg,hpn,po⟩:=h;have hu:=bX hr;have hr1:bh 1 _:=hr.mono (by decide);refine⟨_,ab (aJ (i:=2) px.nd rfl (Or.inl rfl) (aF hu (au (pv 0) rfl) (aF hu (pv 1) aW (fun _ _=>rfl)) (fun _ _=>rfl)))
   (ab (aJ (i:=3) px.nd rfl (Or.inl rfl) (aS (aa (au (pv 2) rfl) (aa (au (pv 2) rfl) (aa (au (pv 2) rfl) (aa (au (pv 2) rfl) af))))))
   (ai (ak (fw oE (fw oE (aS (aa (au (pv 2) rfl) af)) (pv 3)) (aS (aa (aK (rh T) hr1 rfl T.n0 T.dE.F.kp T.dE.b .nil aE (aa (au (pv 2) rfl) af)) (aa (bj (pv 0) T.aq T.iG (lA T) hr T.cC.b .nil aE (aa (pv 2) af)) (aa (au (pv 2) rfl) (aa (au (pv 2) rfl) af))))))))),?_⟩
  obtain⟨dx,hS⟩:=S.rd.st;obtain⟨i,a,hp,ha,⟨da,z,hz,hA⟩,hv⟩:=S.rd.piece hpn;have act:Vbexam.act s (.piece n)=(s,[src p,(p.all:Int),p.now,p.used,p.lost,Vbexam.bit p.gone,Vbexam.holderOf s p,p.box,p.warm]):=by
   show(match Vbexam.piece s (n:Int).toNat with|none=>_|some p=>_)=_;rw[show(n:Int).toNat=n from Int.toNat_natCast n,hpn];rfl
  rw[act] at po;have pn:=po.tH S;refine⟨_,rfl,x.S,T.c.aI,dx,_,_,rfl,hS,T.aq,T.aO,rfl,_,rfl,g,_,rfl,bW hg rfl,x.dP,_,rfl,S.rd.o4 hv,?_⟩;refine⟨_,rfl,a,T.c.Piece,da,_,_,rfl,hA,T.aD,T.eN,rfl,_,rfl,a,T.c.Piece,da,_,_,rfl,hA,T.aD,T.bz,rfl,_,rfl,a,T.c.Piece,da,_,_,rfl,hA,T.aD,T.dI,rfl,_,rfl,a,T.c.Piece,da,_,_,rfl,hA,T.aD,T.dH,rfl,(by show 4≤sizeLine;decide),fun lm hlm=>?_⟩;have sm1:=bO (ao.refl H) hlm (.lst [.int p.all,.int p.now,.int p.used,.int p.lost]);refine⟨_,rfl,a,T.c.Piece,da,_,_,rfl,sm1 _ _ hA,T.aD,T.cX,rfl,bI,fun l1 hl1=>?_⟩;have sm2:=bO sm1 hl1 (.lst [.int (src p)]);have hlm2:=bO (ao.refl _) hl1 (.lst [.int (src p)]) lm _ (ah (H:=H) (o:=.lst [.int p.all,.int p.now,.int p.used,.int p.lost]));refine⟨_,rfl,l1,lm,_,_,rfl,rfl,ah,hlm2,(by show 5≤sizeLine;decide),fun l2 hl2=>?_⟩;have sm3:=bO sm2 hl2 (.lst ([.int (src p)]++[.int p.all,.int p.now,.int p.used,.int p.lost]));refine⟨_,rfl,a,T.c.Piece,da,_,_,rfl,sm3 _ _ hA,T.aD,T.cE,rfl,p.gone,rfl,?_⟩;refine⟨_,rfl,x.S,dx,_,rfl,sm3 _ _ hS,rfl,_,rfl,x,s,i,p,a,rfl,S.rd.keep sm3,hp,ha,?_⟩;refine⟨_,rfl,a,T.c.Piece,da,_,_,rfl,sm3 _ _ hA,T.aD,T.bc,rfl,_,rfl,a,T.c.Piece,da,_,_,rfl,sm3 _ _ hA,T.aD,T.cF,rfl,(by show 4≤sizeLine;decide),fun l3 hl3=>?_⟩;have sm4:=bO sm3 hl3 (.lst [.int (Vbexam.bit p.gone),.int (Vbexam.holderOf s p),.int p.box,.int p.warm]);refine⟨l2,l3,_,_,rfl,rfl,bO (ao.refl _) hl3 _ l2 _ ah,ah,(by show 9≤sizeLine;decide),fun l4 hl4=>pn.here sm4 hl4 rfl⟩
theorem afJ:aP P w K mg base CX0 3 T.fM.f T.fM.fd ["store", "given"] (agk T.c .box):=by
 refine T.fM.F.ok oj (fun vs H Q E h=>?_) (fun cdv A outer s₀ H vs Q E hr h=>?_)
 ·obtain⟨x,s,g,b,rfl,_⟩:=h;rfl
 ·obtain⟨x,s,g,b,rfl,S,hg,b1,b2,po⟩:=h;have hu:=bX hr;have hr1:bh 1 _:=hr.mono (by decide);refine⟨_,ab (aJ (i:=2) oj.nd rfl (Or.inl rfl) (aF hu (pv 1) aW (fun _ _=>rfl)))
   (ab (aJ (i:=3) oj.nd rfl (Or.inl rfl) (aF hu (au (pv 0) rfl) (pv 2) (fun _ _=>rfl)))
   (ab (aJ (i:=4) oj.nd rfl (Or.inl rfl) (aK (rh T) hr1 rfl T.n0 T.dE.F.kp T.dE.b .nil aE (aa (bj (pv 0) T.aq T.i5 (mx T) hr1 T.cP.b .nil aE (aa (pv 2) af)) af)))
   (ai (ak (aS (aa (bj (pv 0) T.aq T.dX (eO T) hr T.bS.b .nil aE (aa (pv 2) af)) (aa (au (pv 3) rfl) (aa (au (pv 3) rfl) (aa (pv 4) (aa (aK (rh T) hr1 rfl T.n0 T.dE.F.kp T.dE.b .nil aE (aa (bj (pv 0) T.aq T.cW (de T) hr1 T.bL.b .nil aE (aa (pv 2) af)) af)) af)))))))))),?_⟩
  obtain⟨dx,hS⟩:=S.rd.st;obtain⟨a,ha,⟨da,hA⟩,hv⟩:=S.rd.box b1 b2;have act:Vbexam.act s (.box b)=(s,[(Vbexam.holderOfBox s b:Int),(Vbexam.box s b).inside,(Vbexam.box s b).wax,Vbexam.bit (Vbexam.coldBy s Vbexam.BOXES b),Vbexam.bit (Vbexam.isOpen s b)]):=by
   rw[show Vbexam.act s (.box b)=Vbexam.ofBox s b (fun b=>(s,[(Vbexam.holderOfBox s b:Int),(Vbexam.box s b).inside,(Vbexam.box s b).wax,Vbexam.bit (Vbexam.coldBy s Vbexam.BOXES b),Vbexam.bit (Vbexam.isOpen s b)])) from rfl,fW b2]
  rw[act] at po;have pn:=po.tH S;have ef:gY s b=Vbexam.coldBy s Vbexam.BOXES b:=by
   unfold gY;rw[show(b != 0)=true by simp;omega];rfl
  refine⟨_,rfl,g,_,rfl,bW hg rfl,?_⟩;refine⟨_,rfl,x.S,T.c.aI,dx,_,_,rfl,hS,T.aq,T.aU,rfl,_,rfl,x.dB,_,rfl,S.rd.j7 hv,?_⟩;refine⟨_,rfl,x.S,dx,_,rfl,hS,rfl,_,rfl,x,s,b,rfl,S.rd,b2,gY s b,rfl,?_⟩;rw[ef];refine⟨_,rfl,x.S,dx,_,rfl,hS,rfl,_,rfl,x,s,b,rfl,S.rd,b1,b2,?_⟩;refine⟨_,rfl,a,T.c.Box,da,_,_,rfl,hA,T.bP,T.bb,rfl,_,rfl,a,T.c.Box,da,_,_,rfl,hA,T.bP,T.dh,rfl,_,rfl,?_⟩;refine⟨_,rfl,x.S,dx,_,rfl,hS,rfl,_,rfl,x,s,b,rfl,S.rd,b2,openAt s b,rfl,?_⟩;rw[pZ b1];exact⟨(by show 5≤sizeLine;decide),fun l hl=>pn.here (ao.refl _) hl rfl⟩
theorem aak:aP P w K mg base CX0 3 T.cV.f T.cV.fd ["store", "given"] (agk T.c .manifest):=by
 refine T.cV.F.ok aaG (fun vs H Q E h=>?_) (fun cdv A outer s₀ H vs Q E hr h=>?_)
 ·obtain⟨x,s,g,b,rfl,_⟩:=h;rfl
 ·obtain⟨x,s,g,b,rfl,S,hg,b1,b2,po⟩:=h;have hu:=bX hr;have hr1:bh 1 _:=hr.mono (by decide);refine⟨_,ai (ak (aK (fb T) hr1 rfl T.fg T.bw.F.kp T.bw.b .nil aE (aa (bj (pv 0) T.aq T.iE (ke T) hr T.c9.b .nil aE (aa (aF hu (pv 1) aW (fun _ _=>rfl)) af)) af))),?_⟩;obtain⟨dx,hS⟩:=S.rd.st;have act:Vbexam.act s (.manifest b)=(s,Vbexam.listed (Vbexam.ints (Vbexam.manifest s b))):=by
   rw[show Vbexam.act s (.manifest b)=Vbexam.ofBox s b (fun b=>(s,Vbexam.listed (Vbexam.ints (Vbexam.manifest s b)))) from rfl,fW b2]
  rw[act] at po;have pn:=po.tH S;rw[fR] at pn;refine⟨_,rfl,x.S,dx,_,rfl,hS,rfl,_,rfl,g,_,rfl,bW hg rfl,x,s,b,rfl,S.rd,S.eP,fun H1 l sm hl hl1=>?_⟩;exact⟨l,_,rfl,hl1,by rw[List.length_map];have:=akB S.rd.ok b;omega,fun H2 l2 sm2 hl2 h2=>pn H2 l2 (sm.trans sm2) (sm.free hl2) h2⟩
theorem adp:aP P w K mg base CX0 2 T.eD.f T.eD.fd ["store", "given"] (fun vs H Q _=>∃ (x:Ix) (s:Vbexam.St) (g:Addr) (k:Nat),vs = [.ref x.S,.ref g]∧ax T.c H x s∧H g=some (.dK (gv [("k",(k:Int))]))∧k≤9999∧eR T.c H x (Vbexam.act s (.label k)) Q):=by
 refine T.eD.F.ok adw (fun vs H Q E h=>?_) (fun cdv A outer s₀ H vs Q E hr h=>?_)
 ·obtain⟨x,s,g,k,rfl,_⟩:=h;rfl
 ·obtain⟨x,s,g,k,rfl,S,hg,hk,po⟩:=h;have hu:=bX hr;refine⟨_,ai (ak (aS (aa (aK (tJ T) hr rfl T.pT T.d7.F.kp T.d7.b .nil aE (aa (aF hu (pv 1) aW (fun _ _=>rfl)) af)) af))),?_⟩;have pn:=eR.tH (ans:=[((Vbexam.labelOf k:Nat):Int)]) po S;exact⟨_,rfl,g,_,rfl,bW hg rfl,k,rfl,hk,bI,fun l hl=>pn.here (ao.refl _) hl rfl⟩
def ahm (K:PySem.W.Frag) (f:Str):TE:=yH K (bG 7) f
theorem aeB:aP P w K mg base CX0 2 T.eZ.f T.eZ.fd ["store", "given"] (acx T.c .sums):=by
 refine T.eZ.F.ok dF (fun vs H Q E h=>?_) (fun cdv A outer s₀ H vs Q E hr h=>?_)
 ·obtain⟨x,s,g,n,p,rfl,_⟩:=h;rfl
 ·obtain⟨x,s,g,n,p,rfl,S,hh,hg,hpn,po⟩:=h;have hu:=bX hr;refine⟨_,ab (aJ (i:=2) dF.nd rfl (Or.inl rfl) (aF hu (au (pv 0) rfl) (aF hu (pv 1) aW (fun _ _=>rfl)) (fun _ _=>rfl)))
   (ab (aJ (i:=3) dF.nd rfl (Or.inl rfl) (bj (pv 0) T.aq T.uc (abq T) hr T.fT.b .nil aE (aa (pv 2) af)))
   (ab (aJ (i:=4) dF.nd rfl (Or.inl rfl) (a6 (adZ rfl) (by rfl) T.rJ PyProof.Rows.boot_sum (aa (fO (own:=[("one",7)]) (g:=cH 7) (te:=ahm K "mass") (tt:=kq) rfl dF.nd (cx (pv 3)) ?bk ?gg ?tt ?ee) af)))
   (ab (aJ (i:=5) dF.nd rfl (Or.inl rfl) (a6 (adZ rfl) (by rfl) T.rJ PyProof.Rows.boot_sum (aa (fO (own:=[("one",7)]) (g:=cH 7) (te:=ahm K "used") (tt:=kq) rfl dF.nd (cx (pv 3)) ?bk2 ?gg2 ?tt2 ?ee2) af)))
   (ab (aJ (i:=6) dF.nd rfl (Or.inl rfl) (a6 (adZ rfl) (by rfl) T.rJ PyProof.Rows.boot_sum (aa (fO (own:=[("one",7)]) (g:=cH 7) (te:=ahm K "lost") (tt:=kq) rfl dF.nd (cx (pv 3)) ?bk3 ?gg3 ?tt3 ?ee3) af)))
   (ai (ak (aS (aa (au (pv 2) rfl) (aa (a6 bB (by rfl) T.cU PySem.boot_len (aa (pv 3) af)) (aa (pv 4) (aa (pv 5) (aa (pv 6) af)))))))))))),?rd⟩
  case bk|bk2|bk3=>
   show d4 (["store", "given", "piece", "family", "masses", "used", "lost", "one"]:List Str) (aj og) _ _;exact⟨rfl,by decide +kernel,by decide +kernel,by decide +kernel,by decide +kernel⟩
  case gg|gg2|gg3=>exact fun _ _ _ _ _=>aZ (i:=7) dF.nd rfl (Or.inl rfl) (Or.inr rfl)
  case tt|tt2|tt3=>exact fun _ _ _ _ _=>lD
  case ee|ee2|ee3=>exact fun _ _ _ _ _=>au (pv 7) rfl
  obtain⟨dx,hS⟩:=S.rd.st;obtain⟨i,a,hp,ha,⟨da,z,hz,hA⟩,hv⟩:=S.rd.piece hpn;have hpm:=List.mem_of_getElem? hp;have perm:=Wf.ade S.rd.ok hpm;have act:Vbexam.act s (.sums n)=(s,[(p.all:Int),(Vbexam.familyOf s p.label).length,Vbexam.total ((Vbexam.familyOf s p.label).map fun x=>x.now),Vbexam.total ((Vbexam.familyOf s p.label).map fun x=>x.used),Vbexam.total ((Vbexam.familyOf s p.label).map fun x=>x.lost)]):=by
   show(match Vbexam.piece s (n:Int).toNat with|none=>_|some p=>_)=_;rw[show(n:Int).toNat=n from Int.toNat_natCast n,hpn]
  rw[act] at po;have pn:=po.tH S;refine⟨_,rfl,x.S,T.c.aI,dx,_,_,rfl,hS,T.aq,T.aO,rfl,_,rfl,g,_,rfl,bW hg rfl,x.dP,_,rfl,S.rd.o4 hv,?_⟩;refine⟨_,rfl,x.S,dx,_,rfl,hS,rfl,_,rfl,x,s,i,p,a,rfl,S,hp,ha,fun H1 l ms sm1 hl hl1 hms hat=>?_⟩;have tot:∀ f:Vbexam.Piece→Nat,((Vbexam.total ((Vbexam.familyOf s p.label).map f):Nat):Int)=(ms.map fun m=>((f m.2:Nat):Int)).sum:=fun f=>by
   rw[Wf.ahp (perm.map f),← hms,List.map_map,Wf.ac6,List.map_map];rfl
  have hlen:(Vbexam.familyOf s p.label).length=ms.length:=by
   rw[perm.length_eq,← hms,List.length_map]
  have mlen:ms.length≤1000:=by
   have h1:=congrArg List.length hms;rw[List.length_map,List.length_cons] at h1;have h2:(Wf.later s p.label s.pieces).length≤s.pieces.length:=List.length_filter_le _ _;have:=S.rd.ok.few;omega
  rw[hlen,tot,tot,tot] at pn;refine⟨_,rfl,l,rfl,⟨_,SqL.of hl1⟩,fun D hD=>?_⟩;refine dS ms (fun m=>V.ref m.1) (fun _=>true) (fun m=>V.int ((m.2.now:Nat):Int)) hl1 hD mlen (fun j m H' hj sm R R' hR hR'=>⟨rfl,yes ?_⟩) (fun H2 sm2 hD2=>?_)
  ·obtain⟨dj,y,_,hj'⟩:=hat m (List.mem_of_getElem? hj);exact⟨_,rfl,m.1,T.c.Piece,dj,_,_,rfl,sm _ _ hj',T.aD,T.bz,rfl,hR' H' (ao.refl _) rfl⟩
  refine⟨D,ms.map fun m=>((m.2.now:Nat):Int),rfl,SqL.of (by rw[hD2,hE,List.map_map];rfl),?_⟩;refine⟨_,rfl,l,rfl,⟨_,SqL.of (sm2 _ _ hl1)⟩,fun D3 hD3=>?_⟩;refine dS ms (fun m=>V.ref m.1) (fun _=>true) (fun m=>V.int ((m.2.used:Nat):Int)) (sm2 _ _ hl1) hD3 mlen (fun j m H' hj sm R R' hR hR'=>⟨rfl,yes ?_⟩) (fun H3 sm3 hD3'=>?_)
  ·obtain⟨dj,y,_,hj'⟩:=hat m (List.mem_of_getElem? hj);exact⟨_,rfl,m.1,T.c.Piece,dj,_,_,rfl,sm _ _ (sm2 _ _ hj'),T.aD,T.dI,rfl,hR' H' (ao.refl _) rfl⟩
  refine⟨D3,ms.map fun m=>((m.2.used:Nat):Int),rfl,SqL.of (by rw[hD3',hE,List.map_map];rfl),?_⟩;refine⟨_,rfl,l,rfl,⟨_,SqL.of (sm3 _ _ (sm2 _ _ hl1))⟩,fun D4 hD4=>?_⟩;refine dS ms (fun m=>V.ref m.1) (fun _=>true) (fun m=>V.int ((m.2.lost:Nat):Int)) (sm3 _ _ (sm2 _ _ hl1)) hD4 mlen (fun j m H' hj sm R R' hR hR'=>⟨rfl,yes ?_⟩) (fun H4 sm4 hD4'=>?_)
  ·obtain⟨dj,y,_,hj'⟩:=hat m (List.mem_of_getElem? hj);exact⟨_,rfl,m.1,T.c.Piece,dj,_,_,rfl,sm _ _ (sm3 _ _ (sm2 _ _ hj')),T.aD,T.dH,rfl,hR' H' (ao.refl _) rfl⟩
  refine⟨D4,ms.map fun m=>((m.2.lost:Nat):Int),rfl,SqL.of (by rw[hD4',hE,List.map_map];rfl),?_⟩;have smA:ao H1 H4:=(sm2.trans sm3).trans sm4;refine⟨_,rfl,a,T.c.Piece,da,_,_,rfl,smA _ _ (sm1 _ _ hA),T.aD,T.eN,rfl,_,rfl,l,_,rfl,.inl (SqL.of (smA _ _ hl1)),_,rfl,_,rfl,_,rfl,(by show 5≤sizeLine;decide),fun l5 hl5=>?_⟩;refine pn.here (sm1.trans smA) hl5 ?_;rw[List.length_map];rfl
end
theorem akQ {ps:List Vbexam.Piece}{pa:List Addr}(e:pa.length=ps.length):(pk ps pa).map (fun p=>kV p.1)=ps.map fun p=>V.int (p.label:Int):=by
 unfold pk;rw[List.map_map];have h:=List.map_fst_zip (l₁:=ps.map fun p=>p.label) (l₂:=pa) (by rw[List.length_map];omega);have:((fun p:Key×V=>kV p.1)∘fun x:Nat×Addr=>((Sum.inl (x.1:Int):Key),V.ref x.2))=(fun n:Nat=>V.int (n:Int))∘Prod.fst:=rfl;rw[this,← List.map_map,h,List.map_map];rfl
theorem akS {ps:List Vbexam.Piece}{pa:List Addr}(e:pa.length=ps.length):(pk ps pa).map (fun p=>p.2)=(ps.zip pa).map fun x=>V.ref x.2:=by
 unfold pk;rw[List.map_map];have h:=List.map_snd_zip (l₁:=ps.map fun p=>p.label) (l₂:=pa) (by rw[List.length_map];omega);have h2:=List.map_snd_zip (l₁:=ps) (l₂:=pa) (by omega);have e1:((fun p:Key×V=>p.2)∘fun x:Nat×Addr=>((Sum.inl (x.1:Int):Key),V.ref x.2))=V.ref∘Prod.snd:=rfl;have e2:(fun x:Vbexam.Piece×Addr=>V.ref x.2)=V.ref∘Prod.snd:=rfl;rw[e1,e2,← List.map_map,← List.map_map,h,h2]
theorem a7.aj9 {c:Cs}{H:Hp}{x:Ix}{s:Vbexam.St}(T:ax c H x s) (od:Obj) {dx:Addr}(hS:H x.S=some (.ins c.aI dx (sF x.dP x.dB x.lH s.time))):(upd H x.dP (.frz od (.dK (pk s.pieces x.pa)))) x.S=some (.ins c.aI dx (sF x.dP x.dB x.lH s.time)):=by
 rw[ae (cp hS T.eP (by intro z;cases z))];exact hS
theorem iW {H H1:Hp}{d:Addr}{u:HO}{od:Obj}(hd:H d=some u) (sm:ao (upd H d (.frz od u)) H1):ao H (upd H1 d u):=fun b o e=>by
 by_cases z:b=d
 ·rw[z,ah,← hd,← z];exact e
 ·rw[ae z];refine sm _ _ ?_;rw[ae z];exact e
section
variable {P:Program}{w:World}{K:PySem.W.Frag}{mg:Str→Option Value}{base:Heap}(T:Pg K mg)
def amr (c:Cs):Sp:=fun vs H Q _=>∃ (x:Ix) (s:Vbexam.St) (g ta:Addr) (t:List Nat),vs = [.ref x.S,.ref g]∧ax c H x s∧H g=some (.dK [(Sum.inr "text",.ref ta)])∧H ta=some (.lst (iv t))∧t.length≤100∧eR c H x (Vbexam.act s (.read (Vbexam.ints t))) Q
def al9 (K:PySem.W.Frag):TT:=fun σ H Q=>qa ae6 [] E0 (fP (bG 3) (fP (bG 2) kn)) σ H fun x H'=>∃ k,xl K x H' k∧Q k H'
theorem adm:aP P w K mg base CX0 3 T.ek.f T.ek.fd ["store", "given"] (amr T.c):=by
 refine T.ek.F.ok kF (fun vs H Q E h=>?_) (fun cdv A outer s₀ H vs Q E hr h=>?_)
 ·obtain⟨x,s,g,ta,t,rfl,_⟩:=h;rfl
 ·obtain⟨x,s,g,ta,t,rfl,S,hg,hta,htl,po⟩:=h;have hu:=bX hr;have hr1:bh 1 _:=hr.mono (by decide);refine⟨_,ab (aJ (i:=2) kF.nd rfl (Or.inr rfl) (aF hu (pv 1) aW (fun _ _=>rfl)))
   (ab (aY (fD (bJ (aK (wJ T) hr rfl T.qV T.d6.F.kp T.d6.b .nil aE (aa (pv 2) af)) (fun _=>rfl))) (ai (ak (aS (aa (bY bD aw) af)))) aL)
   (ai (ak (aK (fb T) hr1 rfl T.fg T.bw.F.kp T.bw.b .nil aE (aa (a6 xE (by rfl) T.jr PyProof.Rows.boot_sorted (aa (age (fO (own:=[("label",3)]) (g:=cH 3) (te:=bG 3) (tt:=al9 K) rfl kF.nd (akP (au (pv 0) rfl)) ?bk ?gg ?tt ?ee)) af)) af))))),?rd⟩
  case bk=>
   show d4 (["store", "given", "pattern", "label"]:List Str) (aj mM) _ _;exact⟨rfl,by decide +kernel,by decide +kernel,by decide +kernel,by decide +kernel⟩
  case gg=>exact fun _ _ _ _ _=>aZ (i:=3) kF.nd rfl (Or.inl rfl) (Or.inr rfl)
  case tt=>exact fun _ _ _ _ _=>fU (bJ (aK (agc T) hr rfl T.aec T.l9.F.kp T.l9.b .nil aE (aa (pv 3) (aa (pv 2) af))) (fun _=>rfl))
  case ee=>exact fun _ _ _ _ _=>pv 3
  obtain⟨dx,hS⟩:=S.rd.st;have act:Vbexam.act s (.read (Vbexam.ints t))=if Vbexam.isPattern t=false then (s,[-4]) else (s,Vbexam.listed (Vbexam.ints (Wf.rise ((s.pieces.filter fun p=>Vbexam.fits t p.label).map fun p=>p.label)))):=by
   show(if Vbexam.isPattern ((Vbexam.ints t).map Int.toNat)=false then _ else _)=_;rw[abi];rfl
  rw[act] at po;refine⟨_,rfl,g,_,rfl,ajf hg rfl,?_⟩;refine⟨_,rfl,ta,t,rfl,hta,by omega,fun H1 sm1=>⟨_,rfl,?_⟩⟩;have S1:=S.keep sm1;cases hpt:Vbexam.isPattern t with
  | false=>
   rw[if_pos hpt] at po;refine cS ?_;exact⟨_,rfl,bI,fun l hl=>(po.tH S).here sm1 hl rfl⟩
  | true=>
  rw[if_neg (by rw[hpt];decide)] at po;have pn:=po.tH S;rw[fR] at pn;refine cR ?_;refine⟨x.dP,_,S1.eP,trivial,fun od=>?_⟩;have hS2:=a7.aj9 S1 od (sm1 _ _ hS);have hP2:(upd H1 x.dP (.frz od (.dK (pk s.pieces x.pa)))) x.dP=some (.frz od (.dK (pk s.pieces x.pa))):=ah;have hta2:(upd H1 x.dP (.frz od (.dK (pk s.pieces x.pa)))) ta=some (.lst (iv t)):=by rw[ae (cp (sm1 _ _ hta) S1.eP (by intro z;cases z))];exact sm1 _ _ hta
  have un:=fun H'=>iW (H1:=H') (od:=od) S1.eP;generalize upd H1 x.dP (.frz od (.dK (pk s.pieces x.pa)))=H2 at hS2 hP2 hta2 un ⊢;have hfew:=S.rd.ok.few;refine⟨_,rfl,x.S,T.c.aI,dx,_,_,rfl,hS2,T.aq,T.aO,rfl,x.dP,od,rfl,.inl ⟨_,hP2,fun D hD=>?_⟩⟩;refine ajp s.pieces (fun p=>V.int ((p.label:Nat):Int)) (fun p=>Vbexam.fits t p.label) (fun p=>V.int ((p.label:Nat):Int)) hP2 (akQ S.rd.dy) hD (by omega) (fun i p H' hi sm R R' hR hR'=>⟨rfl,?_⟩) (fun H' sm hD'=>?_)
  ·refine⟨_,rfl,_,rfl,p.label,ta,t,rfl,sm _ _ hta2,hpt,_,rfl,?_⟩;refine a8 (fun e=>?_) (fun e=>?_)
   ·exact⟨_,rfl,hR' H' (ao.refl _) e⟩
   ·exact hR H' (ao.refl _) (by simpa using e)
  ·have ndP:D≠x.dP:=fun e=>by rw[e,hP2] at hD;cases hD
   have smF:=un H' sm;refine⟨sm _ _ hP2,D,((s.pieces.filter fun p=>Vbexam.fits t p.label).map fun p=>p.label).map fun (n:Nat)=>(n:Int),rfl,SqL.of ?_,?_,fun ns' q hp hs hq=>?_⟩
   ·rw[ae ndP,hD',List.map_map,List.map_map];rfl
   ·rw[List.length_map,List.length_map];exact Nat.lt_of_le_of_lt (List.length_filter_le _ _) (by omega)
   ·have e1:=Wf.tV (Wf.q5 S.rd.ok _) hp hs;refine⟨q,_,rfl,ah,?_,fun H3 l3 sm3 hl3 h3=>?_⟩
    ·rw[e1,List.length_map,List.length_map];have:=aav ((s.pieces.filter fun p=>Vbexam.fits t p.label).map fun p=>p.label);rw[List.length_map] at this;have:=List.length_filter_le (fun p=>Vbexam.fits t p.label) s.pieces;omega
    ·have smq:=(sm1.trans smF).trans (bO (ao.refl _) hq (.lst (ns'.map V.int)));refine pn H3 l3 (smq.trans sm3) (smq.free hl3) ?_;rw[h3,e1];have:(Vbexam.ints (Wf.rise ((s.pieces.filter fun p=>Vbexam.fits t p.label).map fun p=>p.label))).map V.int=iv (Wf.rise ((s.pieces.filter fun p=>Vbexam.fits t p.label).map fun p=>p.label)):=(ll _).symm;show some (HO.lst (V.int (((Vbexam.ints _).map V.int).length:Int)::(Vbexam.ints _).map V.int))=_;rw[this]
def amt (c:Cs):Sp:=fun vs H Q _=>∃ (x:Ix) (s:Vbexam.St) (g:Addr) (m:Nat),vs = [.ref x.S,.ref g]∧ax c H x s∧H g=some (.dK (gv [("least",(m:Int))]))∧eR c H x (Vbexam.act s (.warm m)) Q
def amJ (K:PySem.W.Frag):TT:=ajV fun σ H Q=>yH K (bG 3) "gone" σ H fun x H'=>∃ k,xl K x H' k∧Q k H'
def amK (K:PySem.W.Frag):TT:=qb (tOp (rI0 fun i j=>.bl (decide (j≤i))) (yH K (bG 3) "warm") (ahn (bG 1) (tC (.str "least"))))
theorem aeD:aP P w K mg base CX0 2 T.e8.f T.e8.fd ["store", "given"] (amt T.c):=by
 refine T.e8.F.ok mS (fun vs H Q E h=>?_) (fun cdv A outer s₀ H vs Q E hr h=>?_)
 ·obtain⟨x,s,g,m,rfl,_⟩:=h;rfl
 ·obtain⟨x,s,g,m,rfl,S,hg,po⟩:=h;have hu:=bX hr;refine⟨_,ab (nA (vH (i:=2) (own:=[("piece",3)]) (g:=cH 3) (te:=bG 3) (tt:=amJ K) rfl mS.nd rfl rfl rfl (sA (au (pv 0) rfl)) ?bk ?gg ?tt ?ee))
   (ai (ak (aK (fb T) hr rfl T.fg T.bw.F.kp T.bw.b .nil aE (aa (a6 xE (by rfl) T.jr PyProof.Rows.boot_sorted (aa (fO (own:=[("piece",3)]) (g:=cH 3) (te:=yH K (bG 3) "label") (tt:=amK K) rfl mS.nd (cx (pv 2)) ?bk2 ?gg2 ?tt2 ?ee2) af)) af)))),?rd⟩
  case bk|bk2=>
   show d4 (["store", "given", "pieces", "piece"]:List Str) (aj oh) _ _;exact⟨rfl,by decide +kernel,by decide +kernel,by decide +kernel,by decide +kernel⟩
  case gg|gg2=>exact fun _ _ _ _ _=>aZ (i:=3) mS.nd rfl (Or.inl rfl) (Or.inr rfl)
  case tt=>exact fun _ _ _ _ _=>fU (fD (bJ (au (pv 3) rfl) (fun _=>rfl)))
  case ee=>exact fun _ _ _ _ _=>pv 3
  case tt2=>
   intro _ _ _ _ _;exact fU (aQ yY (au (pv 3) rfl) (aF hu (pv 1) aW (fun _ _=>rfl)) (aX _))
  case ee2=>exact fun _ _ _ _ _=>au (pv 3) rfl
  obtain⟨dx,hS⟩:=S.rd.st;have hfew:=S.rd.ok.few;have act:Vbexam.act s (.warm m)=(s,Vbexam.listed (Vbexam.ints (Wf.rise ((s.pieces.filter fun p=>!p.gone&&decide ((m:Int)≤(p.warm:Int))).map fun p=>p.label)))):=rfl;rw[act] at po;have pn:=po.tH S;rw[fR] at pn;refine⟨x.dP,_,S.eP,trivial,fun od=>?_⟩;have hS2:=a7.aj9 S od hS;have R2:=S.rd.lock S.eP od;have hP2:(upd H x.dP (.frz od (.dK (pk s.pieces x.pa)))) x.dP=some (.frz od (.dK (pk s.pieces x.pa))):=ah;have un:=fun H'=>iW (H1:=H') (od:=od) S.eP;show(afa _ _) _ _ (upd H x.dP (.frz od (.dK (pk s.pieces x.pa))));generalize upd H x.dP (.frz od (.dK (pk s.pieces x.pa)))=H2 at hS2 R2 hP2 un ⊢;have zl:(s.pieces.zip x.pa).length=s.pieces.length:=by rw[List.length_zip,S.rd.dy,Nat.min_self]
  have zat:∀ (i:Nat) y,(s.pieces.zip x.pa)[i]?=some y→∃ (da:Addr) (z:Int),H y.2=some (.ins T.c.Piece da (pF y.1 z)):=fun i y hy=>by
   obtain⟨h1,h2⟩:=List.getElem?_zip_eq_some.mp hy;obtain⟨da,z,_,e⟩:=S.rd.ps i y.1 y.2 h1 h2;exact⟨da,z,e⟩
  refine⟨_,rfl,x.S,T.c.aI,dx,_,_,rfl,hS2,T.aq,T.aO,rfl,x.dP,od,_,rfl,hP2,fun D hD=>?_⟩;refine ajn (s.pieces.zip x.pa) (fun y=>V.ref y.2) (fun y=>!y.1.gone) (fun y=>V.ref y.2) hP2 (akS S.rd.dy) hD (by omega) (fun i y H' hi sm R R' hR hR'=>⟨rfl,?_⟩) (fun H' sm hD'=>?_)
  ·obtain⟨h1,h2⟩:=List.getElem?_zip_eq_some.mp hi;obtain⟨da,z,_,e⟩:=(R2.keep sm).ps i y.1 y.2 h1 h2;refine⟨_,rfl,y.2,T.c.Piece,da,_,_,rfl,e,T.aD,T.cE,rfl,_,rfl,?_⟩;refine a8 (fun e=>?_) (fun e=>?_)
   ·exact⟨_,rfl,hR' H' (ao.refl _) e⟩
   ·exact hR H' (ao.refl _) (by simpa using e)
  ·have ndP:D≠x.dP:=fun e=>by rw[e,hP2] at hD;cases hD
   have smF:=un H' sm;have hDF:(upd H' x.dP (.dK (pk s.pieces x.pa))) D=some (.lst (((s.pieces.zip x.pa).filter fun y=>!y.1.gone).map fun y=>V.ref y.2)):=by rw[ae ndP];exact hD'
   refine⟨sm _ _ hP2,?_⟩;generalize upd H' x.dP (.dK (pk s.pieces x.pa))=H3 at smF hDF ⊢;refine⟨_,rfl,D,rfl,⟨_,SqL.of hDF⟩,fun D2 hD2=>?_⟩;refine dS ((s.pieces.zip x.pa).filter fun y=>!y.1.gone) (fun y=>V.ref y.2) (fun y=>decide ((m:Int)≤(y.1.warm:Int))) (fun y=>V.int ((y.1.label:Nat):Int)) hDF hD2 ?_ (fun i y H4 hi sm4 R R' hR hR'=>⟨rfl,?_⟩) (fun H4 sm4 hD4=>?_)
   ·have:=List.length_filter_le (fun y:Vbexam.Piece×Addr=>!y.1.gone) (s.pieces.zip x.pa);omega
   ·have hym:y∈s.pieces.zip x.pa:=(List.mem_filter.mp (List.mem_of_getElem? hi)).1;obtain⟨j,hj,ej⟩:=List.getElem_of_mem hym;obtain⟨da,z,e⟩:=zat j y (by rw[List.getElem?_eq_getElem hj,ej]);have e:=sm4 _ _ (smF _ _ e);refine⟨_,rfl,y.2,T.c.Piece,da,_,_,rfl,e,T.aD,T.cF,rfl,_,rfl,g,_,rfl,bW (z:=(m:Int)) (sm4 _ _ (smF _ _ hg)) rfl,_,_,rfl,rfl,_,rfl,?_⟩;refine a8 (fun e'=>?_) (fun e'=>?_)
    ·exact⟨_,rfl,y.2,T.c.Piece,da,_,_,rfl,e,T.aD,T.b7,rfl,hR' H4 (ao.refl _) e'⟩
    ·exact hR H4 (ao.refl _) (by simpa using e')
   ·have ef:(((s.pieces.zip x.pa).filter fun y=>!y.1.gone).filter fun y=>decide ((m:Int)≤(y.1.warm:Int))).map (fun y=>y.1.label)=(s.pieces.filter fun p=>!p.gone&&decide ((m:Int)≤(p.warm:Int))).map fun p=>p.label:=by
     rw[List.filter_filter];have hz:=List.map_fst_zip (l₁:=s.pieces) (l₂:=x.pa) (by rw[S.rd.dy];exact Nat.le_refl _)
     conv=>rhs;rw[← hz,List.filter_map,List.map_map]
     refine congrArg (List.map _) (List.filter_congr fun y _=>?_);exact Bool.and_comm _ _
    refine⟨D2,((s.pieces.filter fun p=>!p.gone&&decide ((m:Int)≤(p.warm:Int))).map fun p=>p.label).map fun (n:Nat)=>(n:Int),rfl,SqL.of ?_,?_,fun ns' q hp hs hq=>?_⟩
    ·rw[hD4,← ef,List.map_map,List.map_map];rfl
    ·rw[List.length_map,List.length_map];exact Nat.lt_of_le_of_lt (List.length_filter_le _ _) (by omega)
    ·have e1:=Wf.tV (Wf.q5 S.rd.ok _) hp hs;refine⟨q,_,rfl,ah,?_,fun H5 l5 sm5 hl5 h5=>?_⟩
     ·rw[e1,List.length_map,List.length_map];have:=aav ((s.pieces.filter fun p=>!p.gone&&decide ((m:Int)≤(p.warm:Int))).map fun p=>p.label);rw[List.length_map] at this;have:=List.length_filter_le (fun p:Vbexam.Piece=>!p.gone&&decide ((m:Int)≤(p.warm:Int))) s.pieces;omega
     ·have smq:=(smF.trans sm4).trans (bO (ao.refl _) hq (.lst (ns'.map V.int)));refine pn H5 l5 (smq.trans sm5) (smq.free hl5) ?_;rw[h5,e1];have:(Vbexam.ints (Wf.rise ((s.pieces.filter fun p=>!p.gone&&decide ((m:Int)≤(p.warm:Int))).map fun p=>p.label))).map V.int=iv (Wf.rise ((s.pieces.filter fun p=>!p.gone&&decide ((m:Int)≤(p.warm:Int))).map fun p=>p.label)):=(ll _).symm;show some (HO.lst (V.int (((Vbexam.ints _).map V.int).length:Int)::(Vbexam.ints _).map V.int))=_;rw[this]
end
end My
namespace My
open PySem PySem.Spec PyProof.Rows L2
open Vbexam (size dropCode dropEdge matched listed)
def qe (g:Vbexam.Graph) (n:Nat) (ph:Nat→Nat):List Int:=(size g n:Int)::listed (Vbexam.ints ((Vbexam.firstMatch g n).map (lab ph)))
def qg (g:Vbexam.Graph) (n:Nat) (ph:Nat→Nat):List Int:=listed (Vbexam.ints ((List.range g.length).map fun i=>lab ph (Vbexam.sureOf g n i)))++(listed (Vbexam.ints ((Vbexam.surelyThere g n).map ph))++(listed (Vbexam.ints ((Vbexam.surelyMissing g n).map ph))++listed (Vbexam.ints (Vbexam.surelyForeign g n))))
def m7 (g:Vbexam.Graph) (n:Nat) (ph:Nat→Nat):List Int:=listed (Vbexam.ints (Vbexam.cover g n).1)++listed (Vbexam.ints ((Vbexam.cover g n).2.map ph))
def adD (ans:Vbexam.Graph→Nat→(Nat→Nat)→List Int):Sp:=fun vs H Q _=>∃ (g:Vbexam.Graph) (n:Nat) (ph:Nat→Nat) (r e:Addr),vs = [.ref r,.ref e]∧Cdx g n ph∧(∀ j,j<n→ph j≠0)∧(∀ i,(g.getD i []).Pairwise (· < ·))∧cz H r (rows ph g)∧H e=some (.lst (iv ((List.range n).map ph)))∧m4 H ((ans g n ph).map V.int) Q
theorem vF {n:Nat}:∀ (k:Nat) (g:Vbexam.Graph) (m:Nat),(Mt.c4 n k g m).length≤k
 | 0,g,m=>Nat.le_refl _
 | k+1,[],m=>Nat.zero_le _
 | k+1,l::r,m=>by
  show(match Mt.pick n l r m with|some j=>(j+1)::Mt.c4 n k (dropCode r j) (m-1)|none=>0::Mt.c4 n k r m).length≤k+1;cases Mt.pick n l r m with
  | some j=>exact Nat.succ_le_succ (vF k _ _)
  | none=>exact Nat.succ_le_succ (vF k _ _)
theorem acD {ph:Nat→Nat}:∀ {l:List Nat},(∀ x∈l,x≠0→ph (x-1)≠0)→(Vbexam.ints (l.map (lab ph))).count 0=l.count 0
 | [],_=>rfl
 | x::l,h=>by
  have ih:=acD (l:=l) fun y hy=>h y (List.mem_cons_of_mem _ hy);show((lab ph x:Int)::Vbexam.ints (l.map (lab ph))).count 0=_;rw[List.count_cons,List.count_cons,ih];by_cases e:x=0
  ·subst e;rfl
  ·have:lab ph x≠0:=by
    unfold lab;rw[if_neg e];exact h x (List.mem_cons_self ..) e
   rw[if_neg (by simp;omega),if_neg (by simpa using e)]
theorem yf {n:Nat}:∀ (k:Nat) (g:Vbexam.Graph) (m:Nat),(∀ i,∀ c∈g.getD i [],c<n)→∀ x∈Mt.c4 n k g m,x≠0→x-1<n
 | 0,g,m,_,x,hx,_=>by cases hx
 | k+1,[],m,_,x,hx,_=>by cases hx
 | k+1,l::r,m,hg,x,hx,nz=>by
  have hr:∀ i,∀ c∈r.getD i [],c<n:=fun i c hc=>hg (i+1) c hc;have hx:x∈(match Mt.pick n l r m with|some j=>(j+1)::Mt.c4 n k (dropCode r j) (m-1)|none=>0::Mt.c4 n k r m):=hx;cases e:Mt.pick n l r m with
  | some j=>
   rw[e] at hx;rcases List.mem_cons.mp hx with q|q
   ·rw[q];exact hg 0 j (Mt.aeI e)
   ·refine yf k _ _ (fun i c hc=>?_) x q nz;rw[Mt.dg] at hc;exact hr i c ((List.mem_filter.mp hc).1)
  | none=>
   rw[e] at hx;rcases List.mem_cons.mp hx with q|q
   ·exact absurd q nz
   ·exact yf k _ _ hr x q nz
def iH (rs:List (List Nat)) (m:Nat):Int:=if rs.all Vbexam.isPattern=true then (if 8<rs.length∨10<m then -5 else 0) else -4
section
variable {P:Program}{w:World}{K:PySem.W.Frag}{mg:Str→Option Value}{base:Heap}(T:Pg K mg)
theorem aeA:aP P w K mg base CX0 17 T.eY.f T.eY.fd ["readings", "expected"] (adD qe):=by
 refine T.eY.F.ok yG (fun vs H Q E h=>?_) (fun cdv A outer s₀ H vs Q E hr h=>?_)
 ·obtain⟨g,n,ph,r,e,rfl,_⟩:=h;rfl
 ·obtain⟨g,n,ph,r,e,rfl,C,pos,inc,R,he,k⟩:=h;obtain⟨u0,g0,r0⟩:=T.mn;have hr1:bh 1 _:=hr.mono (by decide);refine⟨_,ab (aJ (i:=2) yG.nd rfl (Or.inl rfl) (aK (tI T) hr rfl T.lh T.cv.F.kp T.cv.b .nil aE (aa (pv 0) af)))
   (ai (ak (fw oE (aS (aa (fw ail (a6 bB (by rfl) T.cU PySem.boot_len (aa (pv 2) af)) (my PySem.F.plainAttrs_list PySem.F.slot_list_count PySem.F.type_list_count aic (pv 2) (aa (cK rfl g0 r0) af))) af)) (aK (fb T) hr1 rfl T.fg T.bw.F.kp T.bw.b .nil aE (aa (pv 2) af))))),?_⟩
  have hfew:=C.few;refine⟨_,rfl,g,n,ph,r,rfl,C,pos,R,fun H1 l sm1 hl hl1=>?_⟩;have ef:=Mt.adf C.wi;rw[← ef] at hl1;have hlen:(Vbexam.firstMatch g n).length≤100:=by
   rw[ef];exact Nat.le_trans (vF _ _ _) hfew
  have ec:(Vbexam.ints ((Vbexam.firstMatch g n).map (lab ph))).count 0=(Vbexam.firstMatch g n).count 0:=acD fun x hx nz=>pos _ (by rw[ef] at hx;exact yf _ _ _ C.wi.lt x hx nz);have hc:=Mt.afs C.wi inc;have hi:iv ((Vbexam.firstMatch g n).map (lab ph))=(Vbexam.ints ((Vbexam.firstMatch g n).map (lab ph))).map V.int:=ll _;refine⟨_,rfl,l,_,rfl,.inl (SqL.of hl1),_,rfl,.inl ⟨rfl,_,SqL.of hl1⟩,l,Vbexam.ints ((Vbexam.firstMatch g n).map (lab ph)),0,rfl,rfl,SqL.of (by rw[← hi];exact hl1),_,_,rfl,rfl,bI,fun l1 hl1'=>?_⟩;have sm2:=bO (ao.refl H1) hl1' (.lst [V.int (((iv ((Vbexam.firstMatch g n).map (lab ph))).length:Int)-((Vbexam.ints ((Vbexam.firstMatch g n).map (lab ph))).count 0:Nat))]);have h1u:(upd H1 l1 (.lst [V.int (((iv ((Vbexam.firstMatch g n).map (lab ph))).length:Int)-((Vbexam.ints ((Vbexam.firstMatch g n).map (lab ph))).count 0:Nat))])) l1=some (.lst [V.int (size g n:Int)]):=by
   rw[ah,cc,List.length_map,ec];refine congrArg (fun z=>some (HO.lst [V.int z])) ?_;omega
  generalize upd H1 l1 (.lst [V.int (((iv ((Vbexam.firstMatch g n).map (lab ph))).length:Int)-((Vbexam.ints ((Vbexam.firstMatch g n).map (lab ph))).count 0:Nat))])=H2 at sm2 h1u;refine⟨_,rfl,l,_,rfl,sm2 _ _ hl1,by rw[cc,List.length_map];omega,fun H3 l3 sm3 hl3 h3=>?_⟩;refine⟨l1,l3,_,_,rfl,rfl,sm3 _ _ h1u,h3,?_,fun p hp=>?_⟩
  ·refine Nat.le_of_lt (bo ?_);simp only[List.length_cons,List.length_nil,cc,List.length_map];omega
  ·refine k.here ((sm1.trans sm2).trans sm3) hp ?_;unfold qe;rw[List.map_cons,fR];rfl
theorem aeC:aP P w K mg base CX0 16 T.e7.f T.e7.fd ["readings", "expected"] (adD qg):=by
 refine T.e7.F.ok mR (fun vs H Q E h=>?_) (fun cdv A outer s₀ H vs Q E hr h=>?_)
 ·obtain⟨g,n,ph,r,e,rfl,_⟩:=h;rfl
 ·obtain⟨g,n,ph,r,e,rfl,C,pos,inc,R,he,k⟩:=h;have hr1:bh 1 _:=hr.mono (by decide);have hr2:bh 2 _:=hr.mono (by decide);refine⟨_,ab (aJ (i:=2) mR.nd rfl (Or.inl rfl) (aK (fb T) hr1 rfl T.fg T.bw.F.kp T.bw.b .nil aE (aa (aK (aez T) hr rfl T.zz T.gE.F.kp T.gE.b .nil aE (aa (pv 0) af)) af)))
   (ab (aJ (i:=3) mR.nd rfl (Or.inl rfl) (aK (fb T) hr1 rfl T.fg T.bw.F.kp T.bw.b .nil aE (aa (aK (abv T) hr rfl T.t5 T.eU.F.kp T.eU.b .nil aE (aa (pv 0) (aa (pv 1) af))) af)))
   (ab (aJ (i:=4) mR.nd rfl (Or.inl rfl) (aK (fb T) hr1 rfl T.fg T.bw.F.kp T.bw.b .nil aE (aa (aK (ze T) hr2 rfl T.qX T.dQ.F.kp T.dQ.b .nil aE (aa (pv 0) (aa (pv 1) af))) af)))
   (ai (ak (fw oE (fw oE (fw oE (pv 2) (pv 3)) (pv 4)) (aK (fb T) hr1 rfl T.fg T.bw.F.kp T.bw.b .nil aE (aa (aK (zd T) hr1 rfl T.qW T.dN.F.kp T.dN.b .nil aE (aa (pv 0) af)) af))))))),?_⟩
  have hfew:=C.few;have hn:=C.wi.few;have e1:((List.range g.length).map fun i=>lab ph (Mt.yZ g n i))=(List.range g.length).map fun i=>lab ph (Vbexam.sureOf g n i):=List.map_congr_left fun i _=>by rw[Mt.aiJ C.wi]
  have e4:((List.range (rows ph g).length).filter fun i=>decide (((rows ph g).getD i []).length=0))=Vbexam.surelyForeign g n:=by
   rw[Mt.agG C.wi,bE];refine List.filter_congr fun i _=>?_;rw[hW,List.length_map]
  have l1:((List.range g.length).map fun i=>lab ph (Vbexam.sureOf g n i)).length≤100:=by rw[List.length_map,List.length_range];exact hfew
  have l2:((Vbexam.surelyThere g n).map ph).length≤10:=by
   rw[List.length_map];have:=List.length_filter_le (fun j=>size (dropCode g j) n != size g n) (List.range n);rw[List.length_range] at this;exact Nat.le_trans this hn
  have l3:((Vbexam.surelyMissing g n).map ph).length≤10:=by
   rw[List.length_map];have:=List.length_filter_le (fun j=>!((List.range g.length).any fun i=>Vbexam.may g n i j)) (List.range n);rw[List.length_range] at this;exact Nat.le_trans this hn
  have l4:(Vbexam.surelyForeign g n).length≤100:=by
   have:=List.length_filter_le (fun i=>!((g.getD i []).any fun j=>Vbexam.may g n i j)) (List.range g.length);rw[List.length_range] at this;exact Nat.le_trans this hfew
  refine⟨_,rfl,g,n,ph,r,rfl,C,R,fun H1 a1 sm1 ha1 h1=>?_⟩;rw[e1] at h1;refine⟨a1,_,rfl,h1,by rw[cc];omega,fun H2 b1 sm2 hb1 h2=>?_⟩;have smA:=sm1.trans sm2;refine⟨_,rfl,_,rfl,g,n,ph,r,e,rfl,C,R.keep smA,smA _ _ he,fun H3 a2 sm3 ha2 h3=>?_⟩;rw[← Mt.ajZ C.wi] at h3;refine⟨a2,_,rfl,h3,by rw[cc];omega,fun H4 b2 sm4 hb2 h4=>?_⟩;have smB:=(smA.trans sm3).trans sm4;refine⟨_,rfl,_,rfl,g,n,ph,r,e,rfl,C,R.keep smB,smB _ _ he,fun H5 a3 sm5 ha3 h5=>?_⟩;rw[← Mt.agY C.wi] at h5;refine⟨a3,_,rfl,h5,by rw[cc];omega,fun H6 b3 sm6 hb3 h6=>?_⟩;have smC:=(smB.trans sm5).trans sm6;have h2':=sm6 _ _ (sm5 _ _ (sm4 _ _ (sm3 _ _ h2)));have h4':=sm6 _ _ (sm5 _ _ h4);have small:∀ {m:Nat},m≤900→m≤sizeLine:=fun h=>Nat.le_of_lt (bo (Nat.le_trans h (by decide)));refine⟨_,rfl,_,rfl,b1,b2,_,_,rfl,rfl,h2',h4',?_,fun c1 hc1=>?_⟩
  ·refine small ?_;simp only[List.length_cons,cc];omega
  have smD:=bO (ao.refl H6) hc1 (.lst ((V.int ((iv ((List.range g.length).map fun i=>lab ph (Vbexam.sureOf g n i))).length:Int)::iv ((List.range g.length).map fun i=>lab ph (Vbexam.sureOf g n i)))++(V.int ((iv ((Vbexam.surelyThere g n).map ph)).length:Int)::iv ((Vbexam.surelyThere g n).map ph))));refine⟨_,rfl,c1,b3,_,_,rfl,rfl,ah,smD _ _ h6,?_,fun c2 hc2=>?_⟩
  ·refine small ?_;simp only[List.length_append,List.length_cons,cc];omega
  have smE:=bO smD hc2 (.lst (((V.int ((iv ((List.range g.length).map fun i=>lab ph (Vbexam.sureOf g n i))).length:Int)::iv ((List.range g.length).map fun i=>lab ph (Vbexam.sureOf g n i)))++(V.int ((iv ((Vbexam.surelyThere g n).map ph)).length:Int)::iv ((Vbexam.surelyThere g n).map ph)))++(V.int ((iv ((Vbexam.surelyMissing g n).map ph)).length:Int)::iv ((Vbexam.surelyMissing g n).map ph))));refine⟨_,rfl,r,rows ph g,rfl,R.keep (smC.trans smE),by rw[bE];omega,fun H7 a4 sm7 ha4 h7=>?_⟩;rw[e4] at h7;refine⟨a4,_,rfl,h7,by rw[cc];omega,fun H8 b4 sm8 hb4 h8=>?_⟩;have hc2':=sm8 _ _ (sm7 _ _ (ah (a:=c2)));refine⟨c2,b4,_,_,rfl,rfl,hc2',h8,?_,fun p hp=>?_⟩
  ·refine small ?_;simp only[List.length_append,List.length_cons,cc];omega
  ·refine k.here ((smC.trans smE).trans (sm7.trans sm8)) hp ?_;unfold qg;rw[List.map_append,List.map_append,List.map_append,fR,fR,fR,fR];simp only[List.append_assoc,List.cons_append]
theorem ado:aP P w K mg base CX0 16 T.eC.f T.eC.fd ["readings", "expected"] (adD m7):=by
 refine T.eC.F.ok adv (fun vs H Q E h=>?_) (fun cdv A outer s₀ H vs Q E hr h=>?_)
 ·obtain⟨g,n,ph,r,e,rfl,_⟩:=h;rfl
 ·obtain⟨g,n,ph,r,e,rfl,C,pos,inc,R,he,k⟩:=h;have hr1:bh 1 _:=hr.mono (by decide);refine⟨_,ai (ak (fw oE (aK (fb T) hr1 rfl T.fg T.bw.F.kp T.bw.b .nil aE (aa (aK (zc T) hr rfl T.qU T.dM.F.kp T.dM.b .nil aE (aa (pv 0) af)) af)) (aK (fb T) hr1 rfl T.fg T.bw.F.kp T.bw.b .nil aE (aa (aK (vD T) hr rfl T.mV T.cQ.F.kp T.cQ.b .nil aE (aa (pv 0) (aa (pv 1) af))) af)))),?_⟩;have hfew:=C.few;have hn:=C.wi.few;obtain⟨xs,ys,ec,_,_⟩:=Mt.aaT C.wi;have l1:(Vbexam.cover g n).1.length≤100:=by
   rw[ec];have:=List.length_filter_le (fun i=>!(xs.contains i)) (List.range g.length);rw[List.length_range] at this;exact Nat.le_trans this hfew
  have l2:((Vbexam.cover g n).2.map ph).length≤10:=by
   rw[List.length_map,ec];have:=List.length_filter_le (fun j=>ys.contains j) (List.range n);rw[List.length_range] at this;exact Nat.le_trans this hn
  refine⟨_,rfl,g,n,ph,r,rfl,C,R,fun H1 a1 sm1 ha1 h1=>?_⟩;refine⟨a1,_,rfl,h1,by rw[cc];omega,fun H2 b1 sm2 hb1 h2=>?_⟩;have smA:=sm1.trans sm2;refine⟨_,rfl,_,rfl,g,n,ph,r,e,rfl,C,R.keep smA,smA _ _ he,fun H3 a2 sm3 ha2 h3=>?_⟩;refine⟨a2,_,rfl,h3,by rw[cc];omega,fun H4 b2 sm4 hb2 h4=>?_⟩;refine⟨b1,b2,_,_,rfl,rfl,sm4 _ _ (sm3 _ _ h2),h4,?_,fun p hp=>?_⟩
  ·refine Nat.le_of_lt (bo ?_);simp only[List.length_cons,cc];omega
  ·refine k.here ((smA.trans sm3).trans sm4) hp ?_;unfold m7;rw[List.map_append,fR,fR]
def amj:Sp:=fun vs H Q _=>∃ (f e:Addr) (rs:List (List Nat)) (es:List V),vs = [.ref f,.ref e]∧cz H f rs∧rs.length≤1000∧(∀ l∈rs,l.length≤1000)∧H e=some (.lst es)∧∀ H',ao H H'→Q (.int (iH rs es.length)) H'
theorem w6:aP P w K mg base CX0 3 T.dc.f T.dc.fd ["found", "expected"] amj:=by
 refine T.dc.F.ok mX (fun vs H Q E h=>?_) (fun cdv A outer s₀ H vs Q E hr h=>?_)
 ·obtain⟨f,e,rs,es,rfl,_⟩:=h;rfl
 ·obtain⟨f,e,rs,es,rfl,R,hl,hs,he,k⟩:=h;obtain⟨u8,g8,r8⟩:=T.xS;obtain⟨u10,g10,r10⟩:=T.rZ;refine⟨_,ab (fZ PassesOwn.never rfl (cx (pv 0)) (aZ (i:=2) mX.nd rfl (Or.inl rfl))
    (ai (aY (fD (bJ (aK (wJ T) hr rfl T.qV T.d6.F.kp T.d6.b .nil aE (aa (pv 2) af)) (fun _=>rfl))) (ai (ak (bY bD aw))) aL)))
   (ab (aY ((ahc (aQ abw (a6 bB (by rfl) T.cU PySem.boot_len (aa (pv 0) af)) (cK (by rfl) g8 r8) (aX _)) (aeO (aQ abw (a6 bB (by rfl) T.cU PySem.boot_len (aa (pv 1) af)) (cK (by rfl) g10 r10) (aX _)))).pt) (ai (ak (bY bD aw))) aL)
   (ai (ak aw))),?_⟩
  obtain⟨as,h1,h2,h3⟩:=R;refine⟨_,rfl,f,rfl,⟨_,SqL.of h1⟩,?_⟩;refine kU (xs:=as.map V.ref) (fun t σ H'=>(∃ v2,σ = [some (.ref f),some (.ref e),v2])∧ao H H'∧∀ l∈rs.take t,Vbexam.isPattern l=true) ⟨⟨none,rfl⟩,ao.refl _,fun l hl=>by simp at hl⟩ (fun t σ H' _ p=>SqL.of (p.2.1 _ _ h1)) (fun t x σ H' hx p=>?_) (fun σ H' p=>?_)
  ·obtain⟨⟨v2,rfl⟩,sm,hall⟩:=p;rw[List.getElem?_map] at hx;obtain⟨a,ha,e'⟩:=Option.map_eq_some_iff.mp hx;subst e';have ht:=(List.getElem?_eq_some_iff.mp ha).1;have hrow:rs[t]?=some (rs[t]'(by omega)):=List.getElem?_eq_getElem (by omega);have hm:=List.mem_of_getElem? hrow;refine⟨_,rfl,a,_,rfl,sm _ _ (h3 t a _ ha hrow),hs _ hm,fun H1 sm1=>⟨_,rfl,?_⟩⟩;cases hp:Vbexam.isPattern (rs[t]'(by omega)) with
   | false=>
    refine cS ⟨_,rfl,?_⟩;have:iH rs es.length = -4:=by
     unfold iH;rw[if_neg];intro z;have:=List.all_eq_true.mp z _ hm;rw[hp] at this;cases this
    have k:=k H1 (sm.trans sm1);rw[this] at k;exact k
   | true=>
    refine cR ?_;refine⟨⟨_,rfl⟩,sm.trans sm1,fun l hl=>?_⟩;rw[take_snoc hrow] at hl;rcases List.mem_append.mp hl with q|q
    ·exact hall l q
    ·rw[List.mem_singleton.mp q];exact hp
  ·obtain⟨⟨v2,rfl⟩,sm,hall⟩:=p;rw[List.length_map,h2,List.take_length] at hall;have hA:rs.all Vbexam.isPattern=true:=List.all_eq_true.mpr hall;have k:=k H' sm;unfold iH at k;rw[if_pos hA] at k;refine⟨_,rfl,f,_,rfl,.inl (SqL.of (sm _ _ h1)),_,_,rfl,rfl,_,rfl,?_⟩;rw[List.length_map,h2];refine a8 (fun q=>?_) (fun q=>?_)
   ·have q:8<rs.length:=by
     have q:(8:Int)<rs.length:=by simpa using q
     omega
    rw[if_pos (.inl q)] at k;exact cS ⟨_,rfl,k⟩
   ·have q:¬ 8<rs.length:=by
     have q:¬ (8:Int)<rs.length:=by simpa using q
     omega
    refine⟨_,rfl,e,_,rfl,.inl (SqL.of (sm _ _ he)),_,_,rfl,rfl,_,rfl,?_⟩;refine a8 (fun q'=>?_) (fun q'=>?_)
    ·have q':10<es.length:=by
      have q':(10:Int)<es.length:=by simpa using q'
      omega
     rw[if_pos (.inr q')] at k;exact⟨_,rfl,k⟩
    ·have q':¬ 10<es.length:=by
      have q':¬ (10:Int)<es.length:=by simpa using q'
      omega
     rw[if_neg (by rintro (z|z);exact q z;exact q' z)] at k;exact k
end
def bV (K:PySem.W.Frag) (a:Addr) (xs:List V):Prop:=∃ (o:Obj) (its:Array Value) (n:Nat),K.lookup a=some o∧o.cls = .type "tuple" ∧ o.data = .seq its n∧its.size≤sizeLine∧Vals xs its.toList
theorem bV.sq {K:PySem.W.Frag}{a:Addr}{xs:List V}{H:Hp}(h:bV K a xs):SqT K H a xs:=.inr h
def names:Nat→List Str
 | 0=>["k", "mass", "p"]
 | 1=>["n", "k", "mass"]
 | 2=>["n", "mass"]
 | 3=>["n"]
 | 4=>["p"]
 | 5=>["n", "b"]
 | 6=>["n"]
 | 7=>["b", "o"]
 | 8=>["b"]
 | 9=>["b", "mark"]
 | 10=>["b", "mark"]
 | 11=>["n", "p", "q"]
 | 12=>["b", "p", "q"]
 | 13=>["b", "kept"]
 | 14=>["minutes"]
 | 15=>["n"]
 | 16=>["b"]
 | 17=>["b"]
 | 18=>["n"]
 | 19=>["text"]
 | 20=>["b", "text"]
 | 21=>["b", "text"]
 | 22=>["b", "text"]
 | 23=>["n"]
 | 24=>["least"]
 | 25=>["k"]
 | _=>[]
def dC:List (Str×Int×Int):=[("k",0,9999),("n",0,999999),("b",1,10),("o",1,10),("p",0,5),("q",0,5),("mass",1,1000000000),("mark",1,9999),("kept",0,1),("minutes",1,100000),("least",0,1000000000)]
structure Mo (P:Program) (w:World) {K:PySem.W.Frag}{mg:Str→Option Value}(T:Pg K mg):Prop where
 args:∃ (a:Addr) (kvs:List (Key×V)),mg "ARGUMENTS" = some (.ref a)∧jX P w K a kvs∧∀ n:Nat,n<26→∃ t:Addr,bg kvs (Sum.inl (n:Int))=some (.ref t)∧bV K t ((names n).map V.str)
 al8:∃ (a:Addr) (kvs:List (Key×V)),mg "RANGES" = some (.ref a)∧jX P w K a kvs∧∀ p∈dC,∃ t:Addr,bg kvs (Sum.inr p.1)=some (.ref t)∧bV K t [.int p.2.1,.int p.2.2]
 gone:∃ a:Addr,mg "OF_GONE_PIECES" = some (.ref a)∧bV K a [.int 15,.int 18,.int 23]
 changes:∃ (a:Addr) (kvs:List (Key×V)),mg "CHANGES" = some (.ref a)∧jX P w K a kvs∧kvs = [(Sum.inl 0,.ref T.il.f),(Sum.inl 1,.ref T.dG.f),(Sum.inl 2,.ref T.pR.f),(Sum.inl 3,.ref T.md.f),(Sum.inl 4,.ref T.fJ.f),(Sum.inl 5,.ref T.pQ.f),(Sum.inl 6,.ref T.mf.f),(Sum.inl 7,.ref T.me.f),(Sum.inl 8,.ref T.ip.f),(Sum.inl 9,.ref T.fL.f),(Sum.inl 10,.ref T.fK.f),(Sum.inl 11,.ref T.ma.f),(Sum.inl 12,.ref T.gr.f),(Sum.inl 13,.ref T.eX.f),(Sum.inl 14,.ref T.gx.f)]
 ajY:∃ (a:Addr) (kvs:List (Key×V)),mg "TELLINGS" = some (.ref a)∧jX P w K a kvs∧kvs = [(Sum.inl 15,.ref T.eF.f),(Sum.inl 16,.ref T.fM.f),(Sum.inl 17,.ref T.cV.f),(Sum.inl 18,.ref T.eZ.f),(Sum.inl 19,.ref T.ek.f),(Sum.inl 23,.ref T.eA.f),(Sum.inl 24,.ref T.e8.f),(Sum.inl 25,.ref T.eD.f)]
 acS:∃ (a:Addr) (kvs:List (Key×V)),mg "MATCHINGS" = some (.ref a)∧jX P w K a kvs∧kvs = [(Sum.inl 20,.ref T.eY.f),(Sum.inl 21,.ref T.e7.f),(Sum.inl 22,.ref T.eC.f)]
theorem pW {s:Vbexam.St}{b:Nat}(hb:b≤s.boxes.length) (t:List Nat) (k:List Vbexam.Bytes→List Nat→List Int) :
  Vbexam.ofFound s b (Vbexam.ints t) k=(s,if iH (Wf.parts t) (Vbexam.manifest s b).length≠0 then[iH (Wf.parts t) (Vbexam.manifest s b).length] else k (Wf.parts t) (Vbexam.manifest s b)):=by
 unfold Vbexam.ofFound;rw[fW hb];have hl:(Vbexam.ints t).length=t.length:=List.length_map _;rw[hl,abi,Wf.ack];unfold iH;by_cases h:(Wf.parts t).all Vbexam.isPattern=true
 ·rw[if_pos h,if_pos h];show(if Vbexam.FOUND<(Wf.parts t).length∨Vbexam.EXPECTED<(Vbexam.manifest s b).length then (s,[-5]) else (s,k (Wf.parts t) (Vbexam.manifest s b)))=_;by_cases h2:8<(Wf.parts t).length∨10<(Vbexam.manifest s b).length
  ·rw[if_pos h2,if_pos (show Vbexam.FOUND<_∨Vbexam.EXPECTED<_ from h2),if_pos (by decide)]
  ·rw[if_neg h2,if_neg (show ¬ (Vbexam.FOUND<_∨Vbexam.EXPECTED<_) from h2),if_neg (by simp)]
 ·rw[if_neg h,if_neg h];show(s,[-4])=(s,if(-4:Int)≠0 then[-4] else _);rw[if_pos (by decide)]
theorem map_getD (codes:List Nat):(List.range codes.length).map (fun j=>codes.getD j 0)=codes:=by
 refine List.ext_getElem? fun i=>?_;rw[List.getElem?_map];by_cases h:i<codes.length
 ·rw[List.getElem?_range h,List.getElem?_eq_getElem h];show some (codes.getD i 0)=_;rw[List.getD_eq_getElem?_getD,List.getElem?_eq_getElem h];rfl
 ·rw[List.getElem?_eq_none (l:=List.range _) (by rw[List.length_range];omega),List.getElem?_eq_none (by omega)];rfl
theorem agP (found:List Vbexam.Bytes) (codes:List Nat):rows (fun j=>codes.getD j 0) (Vbexam.graph found codes)=found.map fun b=>codes.filter fun n=>Vbexam.fits b n:=by
 unfold rows Vbexam.graph;rw[List.map_map];refine List.map_congr_left fun b _=>?_;show((List.range codes.length).filter fun j=>Vbexam.fits b (codes.getD j 0)).map (fun j=>codes.getD j 0)=_
 conv=>rhs;rw[← map_getD codes,List.filter_map]
 rfl
theorem ahz {codes:List Nat}(nd:codes.Nodup):∀ a b,a<codes.length→b<codes.length→codes.getD a 0=codes.getD b 0→a=b:=fun a b ha hb e=>by
 rw[List.getD_eq_getElem?_getD,List.getD_eq_getElem?_getD,List.getElem?_eq_getElem ha,List.getElem?_eq_getElem hb] at e;exact(List.getElem_inj nd).mp e
theorem aib {s:Vbexam.St}(O:Wf.Ok s) (b:Nat):(Vbexam.manifest s b).Nodup:=by
 rw[Wf.oa O];exact(Wf.p7 _).imp fun h=>Nat.ne_of_lt h
theorem akC {s:Vbexam.St}(O:Wf.Ok s) (b:Nat):∀ x∈Vbexam.manifest s b,x≠0:=fun x hx=>by
 rw[Wf.oa O,Wf.vB] at hx;obtain⟨p,hp,e⟩:=List.mem_map.mp hx;obtain⟨k,hk,el⟩:=O.lab p (List.mem_filter.mp hp).1;rw[← e,el];unfold Vbexam.labelOf;omega
theorem ahY {s:Vbexam.St}(O:Wf.Ok s) {b:Nat}{found:List Vbexam.Bytes}(h1:found.length≤8) (h2:(Vbexam.manifest s b).length≤10):Cdx (Vbexam.graph found (Vbexam.manifest s b)) (Vbexam.manifest s b).length (fun j=>(Vbexam.manifest s b).getD j 0):=
 ⟨Mt.aei h2,by rw[Mt.ahZ];omega,ahz (aib O b)⟩
theorem aaS (codes:List Nat) (x:Nat):Vbexam.codeOr codes x=((lab (fun j=>codes.getD j 0) x:Nat):Int):=by
 unfold Vbexam.codeOr lab;by_cases h:x=0
 ·rw[if_pos h,if_pos h];rfl
 ·rw[if_neg h,if_neg h]
theorem ints_map {α:Type}(l:List α) (f:α→Nat):(l.map fun x=>((f x:Nat):Int))=Vbexam.ints (l.map f):=by
 unfold Vbexam.ints;rw[List.map_map];rfl
theorem ai9 (l:List Vbexam.Bytes) (codes:List Nat):((size (Vbexam.graph l codes) codes.length:Int)::listed ((Vbexam.firstMatch (Vbexam.graph l codes) codes.length).map (Vbexam.codeOr codes)))=qe (Vbexam.graph l codes) codes.length (fun j=>codes.getD j 0):=by
 unfold qe;rw[← ints_map];rw[List.map_congr_left fun x _=>aaS codes x]
theorem yJ (l codes:List Nat):(l.map fun j=>Vbexam.codeOr codes (j+1))=Vbexam.ints (l.map fun j=>codes.getD j 0):=by
 rw[← ints_map];refine List.map_congr_left fun j _=>?_;unfold Vbexam.codeOr;rw[if_neg (Nat.succ_ne_zero j)];rfl
theorem ajU (l:List Vbexam.Bytes) (codes:List Nat):(listed ((List.range (Vbexam.graph l codes).length).map fun i=>Vbexam.codeOr codes (Vbexam.sureOf (Vbexam.graph l codes) codes.length i))++(listed ((Vbexam.surelyThere (Vbexam.graph l codes) codes.length).map fun j=>Vbexam.codeOr codes (j+1)) ++
   (listed ((Vbexam.surelyMissing (Vbexam.graph l codes) codes.length).map fun j=>Vbexam.codeOr codes (j+1))++listed (Vbexam.ints (Vbexam.surelyForeign (Vbexam.graph l codes) codes.length)))))=qg (Vbexam.graph l codes) codes.length (fun j=>codes.getD j 0):=by
 unfold qg;rw[yJ,yJ,← ints_map (List.range _)];rw[List.map_congr_left fun i _=>aaS codes (Vbexam.sureOf (Vbexam.graph l codes) codes.length i)]
theorem ahA (l:List Vbexam.Bytes) (codes:List Nat):(listed (Vbexam.ints (Vbexam.cover (Vbexam.graph l codes) codes.length).1)++listed ((Vbexam.cover (Vbexam.graph l codes) codes.length).2.map fun j=>Vbexam.codeOr codes (j+1)))=m7 (Vbexam.graph l codes) codes.length (fun j=>codes.getD j 0):=by
 unfold m7;rw[yJ]
section
variable {P:Program}{w:World}{K:PySem.W.Frag}{mg:Str→Option Value}{base:Heap}(T:Pg K mg)
def alc (c:Cs):Sp:=fun vs H Q _=>∃ (x:Ix) (s:Vbexam.St) (g ta:Addr) (b:Nat) (t:List Nat) (num:Nat) (r:List Int),vs = [.ref x.S,.int num,.ref g]∧ax c H x s∧H g=some (.dK [(Sum.inr "b",.int b),(Sum.inr "text",.ref ta)])∧H ta=some (.lst (iv t))∧t.length≤100∧1≤b∧b≤s.boxes.length ∧
 ((num=20∧Vbexam.act s (.best b (Vbexam.ints t))=(s,r))∨(num=21∧Vbexam.act s (.sure b (Vbexam.ints t))=(s,r))∨(num=22∧Vbexam.act s (.cover b (Vbexam.ints t))=(s,r)))∧eR c H x (s,r) Q
def am7 (K:PySem.W.Frag):TT:=fun σ H Q=>qa ae6 [] E0 (fP (bG 8) (fP (bG 7) kn)) σ H fun x H'=>∃ k,xl K x H' k∧Q k H'
theorem aal (M:Mo P w T):aP P w K mg base CX0 18 T.eE.f T.eE.fd ["store", "number", "given"] (alc T.c):=by
 refine T.eE.F.ok df (fun vs H Q E h=>?_) (fun cdv A outer s₀ H vs Q E hr h=>?_)
 ·obtain⟨x,s,g,ta,b,t,num,r,rfl,_⟩:=h;rfl
 ·obtain⟨x,s,g,ta,b,t,num,r,rfl,S,hg,hta,htl,b1,b2,hact,po⟩:=h;have hu:=bX hr;have hr1:bh 1 _:=hr.mono (by decide);have hr2:bh 2 _:=hr.mono (by decide);have hr3:bh 3 _:=hr.mono (by decide);obtain⟨aM,kM,gM,MM,ekM⟩:=M.acS;refine⟨_,ab (aJ (i:=3) df.nd rfl (Or.inl rfl) (aK (afH T) hr1 rfl T.abb T.ik.F.kp T.ik.b .nil aE (aa (aF hu (pv 2) aW (fun _ _=>rfl)) af)))
   (ab (aJ (i:=4) df.nd rfl (Or.inl rfl) (bj (pv 0) T.aq T.iE (ke T) hr2 T.c9.b .nil aE (aa (aF hu (pv 2) aW (fun _ _=>rfl)) af)))
   (ab (aJ (i:=5) df.nd rfl (Or.inl rfl) (aK (w6 T) hr3 rfl T.ox T.dc.F.kp T.dc.b .nil aE (aa (pv 3) (aa (pv 4) af))))
   (ab (aY (aQ fc (pv 5) aw (aX _)) (ai (ak (aS (aa (pv 5) af)))) aL)
   (ab (aJ (i:=6) df.nd rfl (Or.inl rfl) (aS af))
   (ab (fZ PassesOwn.never rfl (cx (pv 3)) (aZ (i:=7) df.nd rfl (Or.inr rfl))
    (ai (dZ (my PySem.F.plainAttrs_list PySem.F.slot_list_append PySem.F.type_list_append hU (pv 6) (aa (fO (own:=[("label",8)]) (g:=cH 8) (te:=bG 8) (tt:=am7 K) rfl df.nd (cx (pv 4)) ?bk ?gg ?tt ?ee) af)))))
   (ai (ak (aan (E:=E0) (ui MM rfl gM (pv 1) (fun _ _=>rfl)) aE (aa (pv 6) (aa (pv 4) af)))))))))),?rd⟩
  case bk=>
   show d4 (["store", "number", "given", "found", "expected", "refusal", "readings", "pattern", "label"]:List Str) (aj jd) _ _;exact⟨rfl,by decide +kernel,by decide +kernel,by decide +kernel,by decide +kernel⟩
  case gg=>exact fun _ _ _ _ _=>aZ (i:=8) df.nd rfl (Or.inl rfl) (Or.inr rfl)
  case tt=>exact fun _ _ _ _ _=>fU (bJ (aK (agc T) hr2 rfl T.aec T.l9.F.kp T.l9.b .nil aE (aa (pv 8) (aa (pv 7) af))) (fun _=>rfl))
  case ee=>exact fun _ _ _ _ _=>pv 8
  obtain⟨dx,hS⟩:=S.rd.st;have pn:=po.tH S;have dy:(Wf.parts t).length≤101:=by
   unfold Wf.parts;rw[List.length_append];have:=acW t;show _+1≤_;omega
  have prow:∀ l∈Wf.parts t,l.length≤1000:=fun l hl=>by
   have hj:=Wf.yj t;have key:∀ (ls:List (List Nat)),l∈ls→l.length≤(Wf.joined ls).length:=by
    intro ls
    induction ls with
    | nil=>intro h;cases h
    | cons a r ih=>
     intro h;by_cases hr:r = []
     ·subst hr;rw[List.mem_singleton.mp h];exact Nat.le_refl _
     ·rw[Wf.tu hr,List.length_append,List.length_cons];rcases List.mem_cons.mp h with q|q
      ·rw[q];omega
      ·have:=ih q;omega
   have:=key _ hl;rw[hj] at this;omega
  refine⟨_,rfl,g,_,rfl,ajf (v:=.ref ta) hg rfl,ta,t,rfl,hta,htl,fun H1 f sm1 hf R1=>?_⟩;have S1:=S.keep sm1;refine⟨_,rfl,x.S,dx,_,rfl,sm1 _ _ hS,rfl,_,rfl,g,_,rfl,ajf (v:=.int b) (sm1 _ _ hg) rfl,x,s,b,rfl,S1.rd,S1.eP,fun H2 e sm2 he he2=>?_⟩;have smA:=sm1.trans sm2;have R2:=R1.keep sm2;have he2:H2 e=some (.lst (iv (Vbexam.manifest s b))):=he2;refine⟨_,rfl,_,rfl,f,e,Wf.parts t,_,rfl,R2,by omega,prow,he2,fun H3 sm3=>?_⟩;rw[cc];have smB:=smA.trans sm3;have er:r=if iH (Wf.parts t) (Vbexam.manifest s b).length≠0 then[iH (Wf.parts t) (Vbexam.manifest s b).length] else (if num=20 then qe else if num=21 then qg else m7) (Vbexam.graph (Wf.parts t) (Vbexam.manifest s b)) (Vbexam.manifest s b).length (fun j=>(Vbexam.manifest s b).getD j 0):=by
   rcases hact with⟨en,ea⟩|⟨en,ea⟩|⟨en,ea⟩
   ·subst en;have ea:Vbexam.ofFound s b (Vbexam.ints t) (fun l codes=>(size (Vbexam.graph l codes) codes.length:Int)::listed ((Vbexam.firstMatch (Vbexam.graph l codes) codes.length).map (Vbexam.codeOr codes)))=(s,r):=ea;rw[pW b2] at ea;exact(Prod.mk.inj ea).2.symm.trans (congrArg (fun z=>if iH (Wf.parts t) (Vbexam.manifest s b).length≠0 then[iH (Wf.parts t) (Vbexam.manifest s b).length] else z) (ai9 (Wf.parts t) (Vbexam.manifest s b)))
   ·subst en;have ea:Vbexam.ofFound s b (Vbexam.ints t) (fun l codes=>listed ((List.range (Vbexam.graph l codes).length).map fun i=>Vbexam.codeOr codes (Vbexam.sureOf (Vbexam.graph l codes) codes.length i))++(listed ((Vbexam.surelyThere (Vbexam.graph l codes) codes.length).map fun j=>Vbexam.codeOr codes (j+1)) ++
   (listed ((Vbexam.surelyMissing (Vbexam.graph l codes) codes.length).map fun j=>Vbexam.codeOr codes (j+1))++listed (Vbexam.ints (Vbexam.surelyForeign (Vbexam.graph l codes) codes.length)))))=(s,r):=ea
    rw[pW b2] at ea;exact(Prod.mk.inj ea).2.symm.trans (congrArg (fun z=>if iH (Wf.parts t) (Vbexam.manifest s b).length≠0 then[iH (Wf.parts t) (Vbexam.manifest s b).length] else z) (ajU (Wf.parts t) (Vbexam.manifest s b)))
   ·subst en;have ea:Vbexam.ofFound s b (Vbexam.ints t) (fun l codes=>listed (Vbexam.ints (Vbexam.cover (Vbexam.graph l codes) codes.length).1)++listed ((Vbexam.cover (Vbexam.graph l codes) codes.length).2.map fun j=>Vbexam.codeOr codes (j+1)))=(s,r):=ea;rw[pW b2] at ea;exact(Prod.mk.inj ea).2.symm.trans (congrArg (fun z=>if iH (Wf.parts t) (Vbexam.manifest s b).length≠0 then[iH (Wf.parts t) (Vbexam.manifest s b).length] else z) (ahA (Wf.parts t) (Vbexam.manifest s b)))
  refine⟨_,rfl,rfl,_,rfl,?_⟩;refine a8 (fun q=>?_) (fun q=>?_)
  ·have q:iH (Wf.parts t) (Vbexam.manifest s b).length≠0:=fun z=>by simp[z] at q
   rw[if_pos q] at er;exact⟨_,rfl,bI,fun l hl=>pn.here smB hl (by rw[er];rfl)⟩
  have q:iH (Wf.parts t) (Vbexam.manifest s b).length=0:=by simpa using q
  rw[if_neg (by simpa using q)] at er;unfold iH at q;have hall:(Wf.parts t).all Vbexam.isPattern=true:=Classical.byContradiction fun z=>by rw[if_neg z] at q;cases q
  rw[if_pos hall] at q;have hsz:¬ (8<(Wf.parts t).length∨10<(Vbexam.manifest s b).length):=fun z=>by rw[if_pos z] at q;cases q
  have h8:(Wf.parts t).length≤8:=Nat.le_of_not_lt fun z=>hsz (.inl z);have h10:(Vbexam.manifest s b).length≤10:=Nat.le_of_not_lt fun z=>hsz (.inr z);refine⟨(by show 0≤sizeLine;decide),fun lr hlr=>?_⟩;have sm4:=bO (ao.refl H3) hlr (.lst []);obtain⟨as,f1,f2,f3⟩:=R2.keep sm3;have f1':=sm4 _ _ f1;refine⟨_,rfl,f,rfl,⟨_,SqL.of f1'⟩,?_⟩;have he3:=sm3 _ _ he2;refine kU (xs:=as.map V.ref) (fun i σ H'=>(∃ v7,σ = [some (.ref x.S),some (.int num),some (.ref g),some (.ref f),some (.ref e),some (.int (iH (Wf.parts t) (Vbexam.manifest s b).length)),some (.ref lr),v7,none])∧ao H3 H' ∧
    ∃ cs:List Addr,H' lr=some (.lst (cs.map V.ref))∧cs.length=i∧(∀ c∈cs,c≠lr)∧∀ (j:Nat) c l,cs[j]?=some c→(Wf.parts t)[j]?=some l→H' c=some (.lst (iv ((Vbexam.manifest s b).filter fun n=>Vbexam.fits l n))))
   ⟨⟨none,rfl⟩,sm4,[],ah,rfl,fun c hc=>(by cases hc),fun j c l h=>(by simp at h)⟩ (fun i σ H' _ p=>SqL.of (p.2.1 _ _ f1)) (fun i v σ H' hv p=>?_) (fun σ H' p=>?_)
  ·obtain⟨⟨v7,rfl⟩,sm,cs,hcs,hcl,hcn,hcr⟩:=p;rw[List.getElem?_map] at hv;obtain⟨a,ha,e'⟩:=Option.map_eq_some_iff.mp hv;subst e';have hi:=(List.getElem?_eq_some_iff.mp ha).1;have hrow:(Wf.parts t)[i]?=some ((Wf.parts t)[i]'(by omega)):=List.getElem?_eq_getElem (by omega);have hpat:=List.all_eq_true.mp hall _ (List.mem_of_getElem? hrow);generalize (Wf.parts t)[i]'(by omega)=pat at hrow hpat;refine⟨_,rfl,.inl ⟨rfl,_,SqL.of hcs⟩,_,rfl,e,rfl,⟨_,SqL.of (sm _ _ he3)⟩,fun D hD=>?_⟩;refine dS (Vbexam.manifest s b) (fun n=>V.int (n:Int)) (fun n=>Vbexam.fits pat n) (fun n=>V.int (n:Int)) (sm _ _ he3) hD (by omega) (fun j n H4 hj sm4' R R' hR hR'=>⟨rfl,?_⟩) (fun H4 sm4' hD4=>?_)
   ·refine⟨_,rfl,_,rfl,n,a,pat,rfl,sm4' _ _ (sm _ _ (f3 i a _ ha hrow)),hpat,_,rfl,?_⟩;refine a8 (fun e=>?_) (fun e=>?_)
    ·exact⟨_,rfl,hR' H4 (ao.refl _) e⟩
    ·exact hR H4 (ao.refl _) (by simpa using e)
   ·have nDl:D≠lr:=fun z=>by rw[z,hcs] at hD;cases hD
    refine⟨lr,_,_,rfl,rfl,sm4' _ _ hcs,bo (by rw[List.length_map];omega),?_⟩;refine⟨⟨_,rfl⟩,fun b' o q'=>?_,cs++[D],?_,?_,fun c hc=>?_,fun j c l h1 h2=>?_⟩
    ·rw[ae (az q' hlr)];exact sm4' _ _ (sm b' o q')
    ·rw[ah,List.map_append];rfl
    ·rw[List.length_append,hcl];rfl
    ·rcases List.mem_append.mp hc with q'|q'
     ·exact hcn c q'
     ·rw[List.mem_singleton.mp q'];exact nDl
    ·rcases dR h1 with q'|⟨q',e'⟩
     ·rw[ae (hcn c (List.mem_of_getElem? q'))];exact sm4' _ _ (hcr j c l q' h2)
     ·rw[q',hcl,hrow] at h2;cases h2;rw[e',ae nDl];exact hD4
  ·obtain⟨⟨v7,rfl⟩,sm,cs,hcs,hcl,hcn,hcr⟩:=p;rw[List.length_map,f2] at hcl;have C:=ahY S.rd.ok (b:=b) (found:=Wf.parts t) h8 h10;have RR:cz H' lr (rows (fun j=>(Vbexam.manifest s b).getD j 0) (Vbexam.graph (Wf.parts t) (Vbexam.manifest s b))):=by
    rw[agP];refine⟨cs,hcs,by rw[List.length_map];exact hcl,fun j c l h1 h2=>?_⟩;rw[List.getElem?_map] at h2;obtain⟨l0,hl0,rfl⟩:=Option.map_eq_some_iff.mp h2;exact hcr j c l0 h1 hl0
   have pos:∀ j,j<(Vbexam.manifest s b).length→(Vbexam.manifest s b).getD j 0≠0:=fun j hj=>akC S.rd.ok b _ (by
    rw[List.getD_eq_getElem?_getD,List.getElem?_eq_getElem hj];exact List.getElem_mem hj)
   have heE:H' e=some (.lst (iv ((List.range (Vbexam.manifest s b).length).map fun j=>(Vbexam.manifest s b).getD j 0))):=by
    rw[map_getD];exact sm _ _ he3
   have fin:∀ ans:Vbexam.Graph→Nat→(Nat→Nat)→List Int,r=ans (Vbexam.graph (Wf.parts t) (Vbexam.manifest s b)) (Vbexam.manifest s b).length (fun j=>(Vbexam.manifest s b).getD j 0)→adD ans ([V.ref lr,V.ref e]) H' Q E0:=fun ans ea=>
    ⟨_,_,_,lr,e,rfl,C,pos,fun i=>Mt.abf i,RR,heE,fun H5 l5 sm5 hl5 h5=>pn H5 l5 ((smB.trans sm).trans sm5) ((smB.trans sm).free hl5) (by rw[ea];exact h5)⟩
   rcases hact with⟨en,ea⟩|⟨en,ea⟩|⟨en,ea⟩
   ·subst en;exact⟨_,rfl,Sum.inl 20,_,rfl,by rw[ekM];rfl,_,_,_,_,_,rfl,aeA T,hr,T.eY.F.kp,T.eY.b,_,rfl,_,rfl,fin qe er⟩
   ·subst en;exact⟨_,rfl,Sum.inl 21,_,rfl,by rw[ekM];rfl,_,_,_,_,_,rfl,aeC T,hr.mono (by decide),T.e7.F.kp,T.e7.b,_,rfl,_,rfl,fin qg er⟩
   ·subst en;exact⟨_,rfl,Sum.inl 22,_,rfl,by rw[ekM];rfl,_,_,_,_,_,rfl,ado T,hr.mono (by decide),T.eC.F.kp,T.eC.b,_,rfl,_,rfl,fin m7 er⟩
end
end My
namespace My
open PySem PySem.Spec PyProof.Rows L2
theorem ahC (a b c d:V):ve [a,b,c,d] none (some 3) = [a,b,c]:=rfl
section
variable {P:Program}{w:World}{K:PySem.W.Frag}{mg:Str→Option Value}{base:Heap}(T:Pg K mg)
def ako (K:PySem.W.Frag):TT:=qb (tOp (rIn K false) (ahn (bG 1) (tC (.str "n"))) (tOp (al7 K) (bG 4) (tC (.int 3))))
theorem adn:aP P w K mg base CX0 1 T.eA.f T.eA.fd ["store", "given"] (acx T.c .chain):=by
 refine T.eA.F.ok iS (fun vs H Q E h=>?_) (fun cdv A outer s₀ H vs Q E hr h=>?_)
 ·obtain⟨x,s,g,n,p,rfl,_⟩:=h;rfl
 ·obtain⟨x,s,g,n,p,rfl,S,hh,hg,hpn,po⟩:=h;have hu:=bX hr;refine⟨_,ab (vH (i:=2) (own:=[("handing",4)]) (g:=cH 4) (te:=bG 4) (tt:=ako K) rfl iS.nd rfl rfl rfl (cx (au (pv 0) rfl)) ?bk ?gg ?tt ?ee)
   (ab (aJ (i:=3) iS.nd rfl (Or.inl rfl) (aS (aa (a6 bB (by rfl) T.cU PySem.boot_len (aa (pv 2) af)) af)))
   (ab (fZ PassesOwn.never rfl (cx (pv 2)) (aZ (i:=4) iS.nd rfl (Or.inl rfl))
    (ai (dZ (my PySem.F.plainAttrs_list PySem.F.slot_list_extend PySem.F.type_list_extend agZ (pv 3) (aa (aap amd (pv 4) acm (acn aw)) af)))))
   (ai (ak (pv 3))))),?rd⟩
  case bk=>
   show d4 (["store", "given", "handings", "told", "handing"]:List Str) (aj mN) _ _;exact⟨rfl,by decide +kernel,by decide +kernel,by decide +kernel,by decide +kernel⟩
  case gg=>exact fun _ _ _ _ _=>aZ (i:=4) iS.nd rfl (Or.inl rfl) (Or.inr rfl)
  case tt=>exact fun _ _ _ _ _=>fU (aQ yd (aF hu (pv 1) aW (fun _ _=>rfl)) (mz aen (pv 4) aw (fun _ _=>rfl)) (by with_unfolding_all rfl))
  case ee=>exact fun _ _ _ _ _=>pv 4
  obtain⟨dx,hS⟩:=S.rd.st;have hpl:p.label=n:=(Wf.p5 hpn).2;have act:Vbexam.act s (.chain n)=(s,((s.hands.filter fun h=>h.labels.contains n).length:Int)::(s.hands.filter fun h=>h.labels.contains n).flatMap fun h=>[(h.time:Int),h.giver,h.taker]):=by
   show(match Vbexam.piece s (n:Int).toNat with|none=>_|some p=>_)=_;rw[show(n:Int).toNat=n from Int.toNat_natCast n,hpn];show(s,_)=_;rw[hpl]
  rw[act] at po;have pn:=po.tH S;have zl:(s.hands.zip x.hv).length=s.hands.length:=by rw[List.length_zip,S.rd.hlen,Nat.min_self]
  have zv:(s.hands.zip x.hv).map (fun y=>y.2)=x.hv:=List.map_snd_zip (by rw[S.rd.hlen];exact Nat.le_refl _);have zat:∀ (i:Nat) y,(s.hands.zip x.hv)[i]?=some y→aaP H y.2 y.1:=fun i y hy=>by
   obtain⟨h1,h2⟩:=List.getElem?_zip_eq_some.mp hy;exact S.rd.hs i y.2 y.1 h2 h1
  refine⟨_,rfl,x.S,T.c.aI,dx,_,_,rfl,hS,T.aq,T.ck,rfl,x.lH,rfl,⟨_,SqL.of S.rd.lH⟩,fun D hD=>?_⟩;refine dS (s.hands.zip x.hv) (fun y=>y.2) (fun y=>y.1.labels.contains n) (fun y=>y.2) (by rw[zv];exact S.rd.lH) hD (by omega) (fun i y H' hi sm R R' hR hR'=>⟨rfl,?_⟩) (fun H1 sm1 hD1=>?_)
  ·obtain⟨t,l,e1,e2,e3⟩:=zat i y hi;refine⟨_,rfl,g,_,rfl,bW (z:=(n:Int)) (sm _ _ hg) rfl,_,rfl,t,_,_,.ref l,e1,rfl,SqT.of (sm _ _ e2),iT (j:=3) rfl,l,_,rfl,.inl (SqL.of (sm _ _ e3)),rfl,yV y.1.labels,_,rfl,?_⟩;show if(inV (.int (n:Int)) (iv y.1.labels))=true then _ else _
   rw[t8];refine a8 (fun e=>?_) (fun e=>?_)
   ·exact⟨_,rfl,hR' H' (ao.refl _) e⟩
   ·exact hR H' (ao.refl _) (by simpa using e)
  ·obtain⟨ys,eys⟩:∃ ys,ys=(s.hands.zip x.hv).filter fun y=>y.1.labels.contains n:=⟨_,rfl⟩;rw[← eys] at hD1;have yat:∀ y∈ys,aaP H1 y.2 y.1:=fun y hy=>by
    rw[eys] at hy;obtain⟨i,hi,ei⟩:=List.getElem_of_mem (List.mem_filter.mp hy).1;obtain⟨t,l,e1,e2,e3⟩:=zat i y (by rw[List.getElem?_eq_getElem hi,ei]);exact⟨t,l,e1,sm1 _ _ e2,sm1 _ _ e3⟩
   have yh:ys.map (fun y=>y.1)=s.hands.filter fun h=>h.labels.contains n:=by
    have hz:=List.map_fst_zip (l₁:=s.hands) (l₂:=x.hv) (by rw[S.rd.hlen];exact Nat.le_refl _)
    conv=>rhs;rw[← hz,List.filter_map]
    rw[eys];rfl
   have yl:ys.length≤200:=by
    rw[eys];exact Nat.le_trans (List.length_filter_le _ _) (by omega)
   refine⟨_,rfl,D,_,rfl,.inl (SqL.of hD1),bI,fun lt hlt=>?_⟩;rw[List.length_map];have sm2:=bO (ao.refl H1) hlt (.lst [V.int (ys.length:Int)]);have hlt0:H lt=none:=sm1.free hlt;refine⟨_,rfl,D,rfl,⟨_,SqL.of (sm2 _ _ hD1)⟩,?_⟩;refine kU (xs:=ys.map fun y=>y.2) (fun i σ H'=>(∃ v4,σ = [some (.ref x.S),some (.ref g),some (.ref D),some (.ref lt),v4])∧ao H1 H'∧H' lt=some (.lst (V.int (ys.length:Int)::((ys.take i).flatMap fun y=>[V.int (y.1.time:Int),V.int (y.1.giver:Int),V.int (y.1.taker:Int)]))))
    ⟨⟨none,rfl⟩,sm2,ah⟩ (fun i σ H' _ q=>SqL.of (q.2.1 _ _ hD1)) (fun i v σ H' hv q=>?_) (fun σ H' q=>?_)
   ·obtain⟨⟨v4,rfl⟩,sm,hl⟩:=q;rw[List.getElem?_map] at hv;obtain⟨y,hy,e⟩:=Option.map_eq_some_iff.mp hv;subst e;obtain⟨t,l,e1,e2,e3⟩:=yat y (List.mem_of_getElem? hy);have hi:=(List.getElem?_eq_some_iff.mp hy).1;refine⟨_,rfl,.inl ⟨rfl,_,SqL.of hl⟩,?_⟩;refine⟨_,rfl,_,rfl,t,_,e1,SqT.of (sm _ _ e2),?_,fun p hp=>?_⟩
    ·show ¬ (0=0∧HT.sIx 4 4 (some 3)=4);decide
    rw[ahC];have smp:=bO (ao.refl H') hp (.tup [V.int (y.1.time:Int),V.int (y.1.giver:Int),V.int (y.1.taker:Int)]);refine⟨lt,p,_,_,rfl,rfl,smp _ _ hl,ah,?_,?_⟩
    ·have:∀ (zs:List (Vbexam.Hand×V)),(zs.flatMap fun y=>[V.int (y.1.time:Int),V.int (y.1.giver:Int),V.int (y.1.taker:Int)]).length=3*zs.length:=by
      intro zs
      induction zs with
      | nil=>rfl
      | cons z zs ih=>
       rw[List.flatMap_cons,List.length_append,ih];simp only[List.length_cons,List.length_nil];omega
     rw[List.length_cons,this,List.length_take];refine Nat.le_of_lt (bo ?_);show 3*min i ys.length+1+3≤1000;omega
    ·refine⟨⟨_,rfl⟩,fun b o q'=>?_,?_⟩
     ·rw[ae (az q' hlt)];exact smp _ _ (sm b o q')
     ·rw[ah,take_snoc hy,List.flatMap_append,List.cons_append];rfl
   ·obtain⟨⟨v4,rfl⟩,sm,hl⟩:=q;rw[List.length_map,List.take_length] at hl;refine⟨_,rfl,pn H' lt (sm1.trans sm) hlt0 ?_⟩;rw[hl,← yh,List.length_map,List.map_cons,List.map_flatMap,List.flatMap_map];rfl
inductive Ar where
 | n (z:Int)
 | t (l:List Int)
def aB:Vbexam.Call→List (Str×Ar)
 | .sample k m p=>[("k",.n k),("mass",.n m),("p",.n p)]
 | .split n k m=>[("n",.n n),("k",.n k),("mass",.n m)]
 | .use n m=>[("n",.n n),("mass",.n m)]
 | .lose n=>[("n",.n n)]
 | .newBox p=>[("p",.n p)]
 | .put n b=>[("n",.n n),("b",.n b)]
 | .take n=>[("n",.n n)]
 | .nest b o=>[("b",.n b),("o",.n o)]
 | .unnest b=>[("b",.n b)]
 | .lock b m=>[("b",.n b),("mark",.n m)]
 | .open_ b m=>[("b",.n b),("mark",.n m)]
 | .handPiece n p q=>[("n",.n n),("p",.n p),("q",.n q)]
 | .handBox b p q=>[("b",.n b),("p",.n p),("q",.n q)]
 | .frost b f=>[("b",.n b),("kept",.n f)]
 | .pass m=>[("minutes",.n m)]
 | .piece n=>[("n",.n n)]
 | .box b=>[("b",.n b)]
 | .manifest b=>[("b",.n b)]
 | .sums n=>[("n",.n n)]
 | .read t=>[("text",.t t)]
 | .best b t=>[("b",.n b),("text",.t t)]
 | .sure b t=>[("b",.n b),("text",.t t)]
 | .cover b t=>[("b",.n b),("text",.t t)]
 | .chain n=>[("n",.n n)]
 | .warm m=>[("least",.n m)]
 | .label k=>[("k",.n k)]
def numOf:Vbexam.Call→Nat
 | .sample ..=>0|.split ..=>1|.use ..=>2|.lose ..=>3|.newBox ..=>4|.put ..=>5|.take ..=>6|.nest ..=>7|.unnest ..=>8|.lock ..=>9|.open_ ..=>10|.handPiece ..=>11|.handBox ..=>12
 | .frost ..=>13|.pass ..=>14|.piece ..=>15|.box ..=>16|.manifest ..=>17|.sums ..=>18|.read ..=>19|.best ..=>20|.sure ..=>21|.cover ..=>22|.chain ..=>23|.warm ..=>24|.label ..=>25
def ArV (H:Hp):Ar→V→Prop
 | .n z,v=>v = .int z
 | .t l,v=>∃ ta:Addr,v = .ref ta∧H ta=some (.lst (l.map V.int))
def m3 (H:Hp) (g:Addr) (as:List (Str×Ar)):Prop:=∃ vs:List V,vs.length=as.length∧H g=some (.dK ((as.zip vs).map fun p=>(Sum.inr p.1.1,p.2)))∧∀ (i:Nat) a v,as[i]?=some a→vs[i]?=some v→ArV H a.2 v
theorem abm (x:Vbexam.Call):names (numOf x)=(aB x).map fun a=>a.1:=by cases x <;> rfl
theorem aie (x:Vbexam.Call):numOf x<26:=by cases x <;> simp[numOf]
end
def rF (cl:Addr) (p:Nat):List (Str×V):=[("numbers",.ref cl),("place",.int p)]
def Off (rd:Addr) (H H':Hp):Prop:=∀ b o,H b=some o→b≠rd→H' b=some o
theorem Off.trans {rd:Addr}{H H1 H2:Hp}(a:Off rd H H1) (b:Off rd H1 H2):Off rd H H2:=fun c o e n=>b c o (a c o e n) n
theorem Off.free {rd:Addr}{H H':Hp}(s:Off rd H H') {l:Addr}(h:H' l=none) (n:l≠rd):H l=none:=by
 cases e:H l with
 | none=>rfl
 | some o=>
  rw[s l o e n] at h;cases h
theorem ae8 {K:PySem.W.Frag}{H H':Hp}{rd cl C dx:Addr}{fs:List (Str×V)}{xs:List V}(h:SqL K H cl xs) (hr:H rd=some (.ins C dx fs)) (k:Off rd H H'):SqL K H' cl xs:=by
 rcases h with h|h
 ·rcases h with h|⟨o,h⟩
  ·exact .inl (.inl (k _ _ h (cp h hr (by intro z;cases z))))
  ·exact .inl (.inr ⟨o,k _ _ h (cp h hr (by intro z;cases z))⟩)
 ·exact .inr h
theorem ax.off {c:Cs}{H H':Hp}{x:Ix}{s:Vbexam.St}{rd dx:Addr}{fs:List (Str×V)}(T:ax c H x s) (hr:H rd=some (.ins c.Reader dx fs)) (n1:c.Piece≠c.Reader) (n2:c.Box≠c.Reader) (n3:c.aI≠c.Reader) (k:Off rd H H'):ax c H' x s:=by
 have ne:∀ b o,H b=some o→(∀ dx fs,o≠.ins c.Reader dx fs)→H' b=some o:=fun b o e n=>k b o e (cp e hr (n _ _));have eP:=ne _ _ T.eP (fun _ _ z=>by cases z);have eB:=ne _ _ T.eB (fun _ _ z=>by cases z);refine⟨⟨?_,.inl eP,.inl eB,T.rd.nPB,T.rd.dy,T.rd.f9,T.rd.pnd,T.rd.bnd,fun i p a h1 h2=>?_,fun i p a h1 h2=>?_,ne _ _ T.rd.lH (fun _ _ z=>by cases z),T.rd.hlen,fun i v q h1 h2=>?_,T.rd.ok⟩,eP,eB⟩
 ·obtain⟨da,e⟩:=T.rd.st;exact⟨da,ne _ _ e fun _ _ z=>by injection z with z;exact n3 z⟩
 ·obtain⟨da,z,e1,e2⟩:=T.rd.ps i p a h1 h2;exact⟨da,z,e1,ne _ _ e2 fun _ _ z=>by injection z with z;exact n1 z⟩
 ·obtain⟨da,e2⟩:=T.rd.bs i p a h1 h2;exact⟨da,ne _ _ e2 fun _ _ z=>by injection z with z;exact n2 z⟩
 ·obtain⟨t',l,e1,e2,e3⟩:=T.rd.hs i v q h1 h2;exact⟨t',l,e1,ne _ _ e2 (fun _ _ z=>by cases z),ne _ _ e3 fun _ _ z=>by cases z⟩
section
variable {P:Program}{w:World}{K:PySem.W.Frag}{mg:Str→Option Value}{base:Heap}(T:Pg K mg)
def ajP (c:Cs):Sp:=fun vs H Q _=>∃ (p dx cl:Addr),vs = [.ref p,.ref cl]∧H p=some (.ins c.Reader dx [])∧∀ H':Hp,H' p=some (.ins c.Reader dx (rF cl 0))→(∀ b o,H b=some o→b≠p→H' b=some o)→(∀ b,H b=none→b≠p→H' b=none)→Q .non H'
theorem acf:aP P w K mg base CX0 1 T.gc.f T.gc.fd ["self", "numbers"] (ajP T.c):=by
 refine T.gc.F.ok acp (fun vs H Q E h=>?_) (fun cdv A outer s₀ H vs Q E hr h=>?_)
 ·obtain⟨p,dx,cl,rfl,_⟩:=h;rfl
 ·obtain⟨p,dx,cl,rfl,hp,k⟩:=h;refine⟨_,ab (bC (pv 0) (pv 1) rfl) (ai (bC (pv 0) aw rfl)),?_⟩;refine⟨_,rfl,_,rfl,p,T.c.Reader,dx,_,rfl,hp,T.c7,T.cM,(by show 0<1000;decide),?_⟩;refine⟨_,rfl,p,T.c.Reader,dx,_,rfl,ah,T.c7,T.cY,(by show 1<1000;decide),?_⟩;rw[b8];exact k _ ah (fun b o e hb=>by rw[ae hb];exact e) fun b e hb=>by rw[ae hb];exact e
def ak3 (K:PySem.W.Frag) (c:Cs):Sp:=fun vs H Q _=>∃ (rd dx cl:Addr) (p:Nat) (l:List Int),vs = [.ref rd]∧H rd=some (.ins c.Reader dx (rF cl p))∧SqL K H cl (l.map V.int)∧Q (.bl (decide (l.length≤p))) H
theorem aag:aP P w K mg base CX0 1 T.fj.f T.fj.fd ["self"] (ak3 K T.c):=by
 refine T.fj.F.ok aaB (fun vs H Q E h=>?_) (fun cdv A outer s₀ H vs Q E hr h=>?_)
 ·obtain⟨rd,dx,cl,p,l,rfl,_⟩:=h;rfl
 ·obtain⟨rd,dx,cl,p,l,rfl,hr',hl,k⟩:=h;refine⟨_,ai (ak (y0 yY (au (pv 0) rfl) (a6 bB (by rfl) T.cU PySem.boot_len (aa (au (pv 0) rfl) af)) (aX _))),?_⟩;refine⟨_,rfl,rd,T.c.Reader,dx,_,_,rfl,hr',T.c7,T.cY,rfl,_,rfl,rd,T.c.Reader,dx,_,_,rfl,hr',T.c7,T.cM,rfl,cl,_,rfl,.inl hl,_,_,rfl,rfl,?_⟩;rw[List.length_map];have:decide ((l.length:Int)≤(p:Int))=decide (l.length≤p):=by
   rw[Bool.eq_iff_iff,decide_eq_true_iff,decide_eq_true_iff];omega
  show Q (.bl (decide ((l.length:Int)≤(p:Int)))) H;rw[this];exact k
def acw (K:PySem.W.Frag) (c:Cs):Sp:=fun vs H Q _=>∃ (rd dx cl:Addr) (p:Nat) (l:List Int) (z:Int),vs = [.ref rd]∧H rd=some (.ins c.Reader dx (rF cl p))∧SqL K H cl (l.map V.int)∧l[p]?=some z∧Q (.int z) (upd H rd (.ins c.Reader dx (rF cl (p+1))))
theorem fv:aP P w K mg base CX0 1 T.bR.f T.bR.fd ["self"] (acw K T.c):=by
 refine T.bR.F.ok lE (fun vs H Q E h=>?_) (fun cdv A outer s₀ H vs Q E hr h=>?_)
 ·obtain⟨rd,dx,cl,p,l,z,rfl,_⟩:=h;rfl
 ·obtain⟨rd,dx,cl,p,l,z,rfl,hr',hl,hz,k⟩:=h;refine⟨_,ab (aJ (i:=1) lE.nd rfl (Or.inl rfl) (mz lq (au (pv 0) rfl) (au (pv 0) rfl) (fun _ _=>rfl)))
   (ab (lC (pv 0) aw abg) (ai (ak (pv 1)))),?_⟩
  refine⟨_,rfl,rd,T.c.Reader,dx,_,_,rfl,hr',T.c7,T.cM,rfl,_,rfl,rd,T.c.Reader,dx,_,_,rfl,hr',T.c7,T.cY,rfl,cl,_,_,.int z,rfl,rfl,hl,iT (by rw[List.getElem?_map,hz];rfl),?_⟩;refine⟨_,rfl,rd,T.c.Reader,dx,_,_,rfl,hr',T.c7,T.cY,rfl,_,_,rfl,rfl,dx,_,hr',(by show 2<1000;decide),_,rfl,?_⟩;exact k
def ala (K:PySem.W.Frag) (c:Cs):Sp:=fun vs H Q _=>∃ (rd dx cl:Addr) (p:Nat) (l t:List Int),vs = [.ref rd]∧H rd=some (.ins c.Reader dx (rF cl p))∧SqL K H cl (l.map V.int)∧l[p]?=some (t.length:Int)∧(∀ i,i<t.length→l[p+1+i]?=t[i]?)∧t.length≤100 ∧
 ∀ (H':Hp) (a:Addr),Off rd H H'→H' rd=some (.ins c.Reader dx (rF cl (p+1+t.length)))→H a=none→H' a=some (.lst (t.map V.int))→Q (.ref a) H'
theorem wZ:aP P w K mg base CX0 2 T.dW.f T.dW.fd ["self"] (ala K T.c):=by
 refine T.dW.F.ok f7 (fun vs H Q E h=>?_) (fun cdv A outer s₀ H vs Q E hr h=>?_)
 ·obtain⟨rd,dx,cl,p,l,t,rfl,_⟩:=h;rfl
 ·obtain⟨rd,dx,cl,p,l,t,rfl,hr',hl,hn,ht,htl,k⟩:=h;refine⟨_,ab (aJ (i:=1) f7.nd rfl (Or.inl rfl) (ny (pv 0) T.c7 T.eG (fv T) hr T.bR.b .nil aE))
   (ai (ak (fO (own:=[("turn",2)]) (g:=cH 2) (te:=abG T.c.Reader "read_number" (acw K T.c) [] E0 (bG 0) kn) (tt:=kq) rfl f7.nd (sy (by rfl) T.jL (aa (pv 1) af)) ?bk ?gg ?tt ?ee))),?rd⟩
  case bk=>
   show d4 (["self", "length", "turn"]:List Str) (aj gz) _ _;exact⟨rfl,by decide +kernel,by decide +kernel,by decide +kernel,by decide +kernel⟩
  case gg=>exact fun _ _ _ _ _=>aZ (i:=2) f7.nd rfl (Or.inl rfl) (Or.inr rfl)
  case tt=>exact fun _ _ _ _ _=>lD
  case ee=>exact fun _ _ _ _ _=>ny (pv 0) T.c7 T.eG (fv T) hr T.bR.b .nil aE
  refine⟨_,rfl,rd,dx,_,rfl,hr',rfl,rd,dx,cl,p,l,_,rfl,hr',hl,hn,?_⟩;have o1:Off rd H (upd H rd (.ins T.c.Reader dx (rF cl (p+1)))):=fun b o e n=>by rw[ae n];exact e
  have hl1:=ae8 hl hr' o1;have hr1:(upd H rd (.ins T.c.Reader dx (rF cl (p+1)))) rd=some (.ins T.c.Reader dx (rF cl (p+1))):=ah;have f1:∀ b,(upd H rd (.ins T.c.Reader dx (rF cl (p+1)))) b=none→H b=none:=fun b e=>by
   by_cases z:b=rd
   ·rw[z,ah] at e;cases e
   ·rw[ae z] at e;exact e
  generalize upd H rd (.ins T.c.Reader dx (rF cl (p+1)))=H1 at o1 hl1 hr1 f1 ⊢;refine⟨_,rfl,_,rfl,by omega,by omega,fun D hD=>?_⟩;rw[Int.toNat_natCast];have nDr:D≠rd:=fun e=>by rw[e,hr1] at hD;cases hD
  refine ajq (lo:=0) (n:=t.length) (g:=cH 2) (vs:=[2]) (σ:=[some (.ref rd),some (.int (t.length:Int)),none]) (tt:=kq) (te:=abG T.c.Reader "read_number" (acw K T.c) [] E0 (bG 0) kn) (H1:=H1) (D:=D)
   (Pv:=fun i H'=>i≤t.length∧Off rd H1 H'∧H' rd=some (.ins T.c.Reader dx (rF cl (p+1+i)))∧H' D=some (.lst ((t.take i).map V.int))) ⟨Nat.zero_le _,fun b o e n=>?_,?_,ah⟩ (fun i H' hi q=>?_) (fun H' q=>?_)
  ·rw[ae (az e hD)];exact e
  ·rw[ae nDr.symm];exact hr1
  ·obtain⟨_,of,hrd,hDl⟩:=q;refine⟨rfl,?_⟩;have hti:t[i]?=some t[i]:=List.getElem?_eq_getElem hi;show kq _ _ _;refine yes ?_;refine⟨_,rfl,rd,dx,_,rfl,hrd,rfl,rd,dx,cl,p+1+i,l,t[i],rfl,hrd,ae8 hl1 hr1 of,by rw[ht i hi];exact hti,?_⟩;refine⟨(t.take i).map V.int,?_,?_,hi,fun b o e n=>?_,?_,?_⟩
   ·rw[ae nDr];exact hDl
   ·rw[List.length_map,List.length_take];exact bo (by omega)
   ·rw[ae (az e hD),ae n];exact of b o e n
   ·rw[ae nDr.symm,ah];rfl
   ·rw[ah,take_snoc hti,List.map_append];rfl
  ·obtain⟨_,of,hrd,hDl⟩:=q;rw[List.take_length] at hDl;exact k H' D (o1.trans of) hrd (f1 D hD) hDl
def iy:Ar→List Int
 | .n z=>[z]
 | .t l=>(l.length:Int)::l
def ak9 (K:PySem.W.Frag) (c:Cs):Sp:=fun vs H Q _=>∃ (rd dx cl:Addr) (p:Nat) (l:List Int) (nm:Str) (a:Ar),vs = [.ref rd,.str nm]∧H rd=some (.ins c.Reader dx (rF cl p))∧SqL K H cl (l.map V.int)∧(∀ i,i<(iy a).length→l[p+i]?=(iy a)[i]?) ∧
 ((∃ z,a = .n z∧nm ≠ "text")∨∃ t,a = .t t∧nm = "text" ∧ t.length≤100) ∧
 ∀ (H':Hp) (v:V),Off rd H H'→H' rd=some (.ins c.Reader dx (rF cl (p+(iy a).length)))→ArV H' a v→(∀ ta,v = .ref ta→H ta=none)→Q v H'
theorem rE:aP P w K mg base CX0 3 T.cJ.f T.cJ.fd ["self", "name"] (ak9 K T.c):=by
 refine T.cJ.F.ok rG (fun vs H Q E h=>?_) (fun cdv A outer s₀ H vs Q E hr h=>?_)
 ·obtain⟨rd,dx,cl,p,l,nm,a,rfl,_⟩:=h;rfl
 ·obtain⟨rd,dx,cl,p,l,nm,a,rfl,hr',hl,hf,hk,k⟩:=h;have hr1:bh 1 _:=hr.mono (by decide);refine⟨_,ab (aY (aQ iI (pv 1) aW (aX _)) (ai (ak (ny (pv 0) T.c7 T.oz (wZ T) hr T.dW.b .nil aE))) aL)
   (ai (ak (ny (pv 0) T.c7 T.eG (fv T) hr1 T.bR.b .nil aE))),?_⟩
  refine⟨_,rfl,rfl,_,rfl,?_⟩;rcases hk with⟨z,rfl,hn⟩|⟨t,rfl,rfl,htl⟩
  ·rw[decide_eq_false (fun e=>hn (by injection e))];refine cR ?_;refine⟨_,rfl,rd,dx,_,rfl,hr',rfl,rd,dx,cl,p,l,z,rfl,hr',hl,hf 0 (by show 0<1;decide),?_⟩;exact k _ _ (fun b o e n=>by rw[ae n];exact e) ah rfl fun ta e=>by cases e
  ·rw[decide_eq_true rfl];refine cS ?_;refine⟨_,rfl,rd,dx,_,rfl,hr',rfl,rd,dx,cl,p,l,t,rfl,hr',hl,hf 0 (Nat.succ_pos _),fun i hi=>?_,htl,fun H' a of hrd ha ha'=>?_⟩
   ·have:=hf (i+1) (by show i+1<t.length+1;omega);rw[show p+1+i=p+(i+1) by omega,this];rfl
   ·refine k H' _ of ?_ ⟨a,rfl,ha'⟩ fun ta e=>by injection e with e;rw[← e];exact ha
    rw[hrd];show _=some (HO.ins _ _ (rF cl (p+(t.length+1))));rw[show p+1+t.length=p+(t.length+1) by omega]
end
def iR (num:Nat):Bool:=num == 15||num == 18||num == 23
def dw (s:Vbexam.St) (num n:Nat):Int:=match Vbexam.piece s n with
 | none=>-2
 | some p=>if p.gone=true∧iR num=false then -3 else 0
def dD (s:Vbexam.St) (z:Int):Int:=if(s.boxes.length:Int)<z then -2 else 0
def eT (s:Vbexam.St) (num:Nat):Str×Ar→Int
 | (nm,.n z)=>if nm = "n" then dw s num z.toNat else if nm = "b" ∨ nm = "o" then dD s z else 0
 | (_,.t _)=>0
def refs (s:Vbexam.St) (num:Nat):List (Str×Ar)→Int
 | []=>0
 | a::r=>if eT s num a≠0 then eT s num a else refs s num r
def pO:Str×Ar→Bool
 | (nm,.n z)=>match dC.find? (fun p=>p.1 == nm) with
  | some p=>Vbexam.inR z p.2.1 p.2.2
  | none=>false
 | (_,.t l)=>Vbexam.textIn l
def wfA:Str×Ar→Bool
 | (nm,.n _)=>dC.any (fun p=>p.1 == nm)
 | (nm,.t _)=>nm == "text"
theorem afV (x:Vbexam.Call):(aB x).all wfA=true:=by cases x <;> rfl
theorem aa8:∀ p∈dC,dC.find? (fun q=>q.1 == p.1)=some p:=by decide
theorem zE (x:Vbexam.Call):Vbexam.ranged x=(aB x).all pO:=by
 cases x <;> simp only[aB,List.all_cons,List.all_nil,Bool.and_true] <;> rfl
def js (s:Vbexam.St) (x:Vbexam.Call):Int:=if Vbexam.ranged x=true then refs s (numOf x) (aB x) else -1
theorem yr {s:Vbexam.St}{num:Nat}:∀ (l r:List (Str×Ar)),(∀ a∈l,eT s num a=0)→refs s num (l++r)=refs s num r
 | [],r,_=>rfl
 | a::l,r,h=>by
  show(if eT s num a≠0 then eT s num a else refs s num (l++r))=_;rw[if_neg (by simpa using h a (List.mem_cons_self ..))];exact yr l r fun b hb=>h b (List.mem_cons_of_mem _ hb)
def ae1:Str×Ar→Prop
 | (_,.t l)=>l.length≤100
 | _=>True
section
variable {P:Program}{w:World}{K:PySem.W.Frag}{mg:Str→Option Value}{base:Heap}(T:Pg K mg)
def ajN:Sp:=fun vs H Q _=>∃ (a:Addr) (l:List Int),vs = [.ref a]∧H a=some (.lst (l.map V.int))∧l.length≤1000∧∀ H',ao H H'→Q (.bl (Vbexam.textIn l)) H'
def leR:R2:=rI0 fun i j=>.bl (decide (i≤j))
theorem ag3:aP P w K mg base CX0 1 T.jt.f T.jt.fd ["numbers"] ajN:=by
 refine T.jt.F.ok vV (fun vs H Q E h=>?_) (fun cdv A outer s₀ H vs Q E hr h=>?_)
 ·obtain⟨a,l,rfl,_⟩:=h;rfl
 ·obtain⟨a,l,rfl,ha,hl,k⟩:=h;obtain⟨u6,g6,r6⟩:=T.xR;obtain⟨u2,g2,r2⟩:=T.rY;refine⟨_,ab (aY (aQ abw (a6 bB (by rfl) T.cU PySem.boot_len (aa (pv 0) af)) (cK rfl g6 r6) (aX _)) (ai (ak fN)) aL)
   (ai (ak (a6 (ahB rfl) (by rfl) T.vc PyProof.Rows.boot_all (aa (fO (own:=[("number",1)]) (g:=cH 1) (te:=aiL leR leR (tC (.int 0)) (bG 1) (tC (.int 255))) (tt:=kq) rfl vV.nd (cx (pv 0)) ?bk ?gg ?tt ?ee) af)))),?rd⟩
  case bk=>
   show d4 (["numbers", "number"]:List Str) (aj sG) _ _;exact⟨rfl,by decide +kernel,by decide +kernel,by decide +kernel,by decide +kernel⟩
  case gg=>exact fun _ _ _ _ _=>aZ (i:=1) vV.nd rfl (Or.inl rfl) (Or.inr rfl)
  case tt=>exact fun _ _ _ _ _=>lD
  case ee=>exact fun _ _ _ _ _=>aao vE vE aw (pv 1) (cK rfl g2 r2)
  refine⟨_,rfl,a,_,rfl,.inl (SqL.of ha),_,_,rfl,rfl,_,rfl,?_⟩;rw[List.length_map];refine a8 (fun e=>?_) (fun e=>?_)
  ·have e:¬ l.length≤60:=by
    have e:(60:Int)<l.length:=by simpa using e
    omega
   have:Vbexam.textIn l=false:=by
    unfold Vbexam.textIn;rw[decide_eq_false e];rfl
   rw[this] at k;exact k _ (ao.refl _)
  have e:l.length≤60:=by
   have e:¬ (60:Int)<l.length:=by simpa using e
   omega
  refine⟨_,rfl,a,rfl,⟨_,SqL.of ha⟩,fun D hD=>?_⟩;refine dS l (fun z=>V.int z) (fun _=>true) (fun z=>V.bl (Vbexam.inR z 0 255)) ha hD hl (fun i z H' hi sm R R' hR hR'=>⟨rfl,yes ?_⟩) (fun H' sm hD'=>?_)
  ·refine⟨_,rfl,_,_,rfl,rfl,_,rfl,?_⟩;have h':=hR' H' (ao.refl _) rfl;unfold Vbexam.inR at h';refine a8 (fun e=>?_) (fun e=>?_)
   ·have e:decide ((0:Int)≤z)=true:=e;rw[e,Bool.true_and] at h';exact⟨_,_,rfl,rfl,h'⟩
   ·have e:decide ((0:Int)≤z)=false:=by simpa using e
    rw[e,Bool.false_and] at h';exact h'
  ·refine⟨D,l.map fun z=>Vbexam.inR z 0 255,rfl,SqL.of (by rw[hD',hE,List.map_map];rfl),?_⟩;have:(l.map fun z=>Vbexam.inR z 0 255).all id=Vbexam.textIn l:=by
    unfold Vbexam.textIn;rw[decide_eq_true e,Bool.true_and,List.all_map];rfl
   rw[this];exact k H' sm
def aiB:Sp:=fun vs H Q _=>∃ (nm:Str) (a:Ar) (v:V),vs = [.str nm,v]∧wfA (nm,a)=true∧ae1 (nm,a)∧ArV H a v∧∀ H',ao H H'→Q (.bl (pO (nm,a))) H'
theorem afE (M:Mo P w T):aP P w K mg base CX0 2 T.ij.f T.ij.fd ["name", "value"] aiB:=by
 refine T.ij.F.ok zH (fun vs H Q E h=>?_) (fun cdv A outer s₀ H vs Q E hr h=>?_)
 ·obtain⟨nm,a,v,rfl,_⟩:=h;rfl
 ·obtain⟨nm,a,v,rfl,hwf,hsh,hv,k⟩:=h;obtain⟨aR,kR,gR,MR,hR⟩:=M.al8;refine⟨_,ab (aY (aQ iI (pv 0) aW (aX _)) (ai (ak (aK (ag3 T) hr rfl T.acP T.jt.F.kp T.jt.b .nil aE (aa (pv 1) af)))) aL)
   (ab (aJ (i:=2) zH.nd rfl (Or.inl rfl) (ui MR rfl gR (pv 0) (fun _ _=>rfl)))
   (ai (ak (aao vE vE (mz aen (pv 2) aw (fun _ _=>rfl)) (pv 1) (mz aen (pv 2) aw (fun _ _=>rfl)))))),?_⟩
  refine⟨_,rfl,rfl,_,rfl,?_⟩;cases a with
  | t l=>
   have e:nm = "text":=eq_of_beq hwf;subst e;obtain⟨ta,rfl,hta⟩:=hv;rw[decide_eq_true rfl];refine cS ?_;exact⟨_,rfl,ta,l,rfl,hta,Nat.le_trans hsh (by decide),k⟩
  | n z=>
   obtain rfl:v = .int z:=hv;obtain⟨p,hp,ep⟩:=List.any_eq_true.mp hwf;have ep:p.1=nm:=eq_of_beq ep;subst ep;have nt:∀ p∈dC,p.1 ≠ "text":=by decide
   rw[decide_eq_false (fun e=>nt p hp (by injection e))];refine cR ?_;obtain⟨t,ht,tk⟩:=hR p hp;have hrg:pO (p.1,.n z)=Vbexam.inR z p.2.1 p.2.2:=by
    show(match dC.find? (fun q=>q.1 == p.1) with|some p=>Vbexam.inR z p.2.1 p.2.2|none=>false)=_;rw[aa8 p hp]
   rw[hrg] at k;have k:=k H (ao.refl _);unfold Vbexam.inR at k;refine⟨_,rfl,Sum.inr p.1,_,rfl,ht,?_⟩;refine⟨_,rfl,t,_,_,.int p.2.1,rfl,rfl,tk.sq,iT (j:=0) rfl,_,rfl,_,_,rfl,rfl,_,rfl,?_⟩;refine a8 (fun e=>?_) (fun e=>?_)
   ·have e:decide (p.2.1≤z)=true:=e;rw[e,Bool.true_and] at k;exact⟨_,rfl,t,_,_,.int p.2.2,rfl,rfl,tk.sq,iT (j:=1) rfl,_,_,rfl,rfl,k⟩
   ·have e:decide (p.2.1≤z)=false:=by simpa using e
    rw[e,Bool.false_and] at k;exact k
def amo (c:Cs):Sp:=fun vs H Q _=>∃ (x:Ix) (s:Vbexam.St) (num n:Nat),vs = [.ref x.S,.int num,.int n]∧a7 c H x s∧Q (.int (dw s num n)) H
theorem aji (num:Nat):inV (.int (num:Int)) [.int 15,.int 18,.int 23]=iR num:=by
 have h:=t8 num [15,18,23];have e:iv [15,18,23] = [.int 15,.int 18,.int 23]:=rfl;rw[e] at h;rw[h];unfold iR;rw[Bool.eq_iff_iff];simp[or_assoc]
theorem aaj (M:Mo P w T):aP P w K mg base CX0 1 T.d9.f T.d9.fd ["store", "call", "label"] (amo T.c):=by
 refine T.d9.F.ok aaF (fun vs H Q E h=>?_) (fun cdv A outer s₀ H vs Q E hr h=>?_)
 ·obtain⟨x,s,num,n,rfl,_⟩:=h;rfl
 ·obtain⟨x,s,num,n,rfl,S,k⟩:=h;have hu:=bX hr;obtain⟨aG,gG,tG⟩:=M.gone;refine⟨_,ab (aY (mC (oF hu (pv 2) (au (pv 0) rfl))) (ai (ak (bY bD aw))) aL)
   (ab (aY ((aeN (bJ (au (aF hu (au (pv 0) rfl) (pv 2) (fun _ _=>rfl)) rfl) (fun _=>rfl)) (aco (aQ rj (pv 1) (cK (v:=.ref aG) (by rfl) gG rfl) (by with_unfolding_all rfl)))).pt) (ai (ak (bY bD aw))) aL)
   (ai (ak aw))),?_⟩
  obtain⟨dx,hS⟩:=S.st;unfold dw at k;refine⟨_,rfl,_,rfl,x.S,T.c.aI,dx,_,_,rfl,hS,T.aq,T.aO,rfl,x.dP,_,rfl,S.o4 rfl,_,rfl,?_⟩;cases e:Vbexam.piece s n with
  | none=>
   rw[e] at k;rw[ku (Wf.mB e)];exact cS ⟨_,rfl,k⟩
  | some p=>
   rw[e] at k;obtain⟨i,a,hp,ha,⟨da,z,hz,hA⟩,hv⟩:=S.piece e;rw[hv];refine cR ?_;refine⟨_,rfl,x.S,T.c.aI,dx,_,_,rfl,hS,T.aq,T.aO,rfl,_,rfl,x.dP,_,rfl,S.o4 hv,a,T.c.Piece,da,_,_,rfl,hA,T.aD,T.cE,rfl,_,rfl,?_⟩;cases hg:p.gone with
   | false=>
    have k:Q (.int (if p.gone=true∧iR num=false then -3 else 0)) H:=k;rw[hg,if_neg (by simp)] at k;exact cR (cR k)
   | true=>
    have k:Q (.int (if p.gone=true∧iR num=false then -3 else 0)) H:=k;refine cS ?_;refine⟨_,rfl,aG,_,rfl,.inr tG.sq,rfl,rfl,_,rfl,?_⟩;show if(if true=true then !inV (.int (num:Int)) [.int 15,.int 18,.int 23] else _)=true then _ else _
    rw[if_pos rfl,aji];cases hs:iR num with
    | false=>
     rw[hg,hs,if_pos ⟨rfl,rfl⟩] at k;exact cS ⟨_,rfl,k⟩
    | true=>
     rw[hs,if_neg (by simp)] at k;exact cR k
def ame (c:Cs):Sp:=fun vs H Q _=>∃ (x:Ix) (s:Vbexam.St) (b:Nat),vs = [.ref x.S,.int b]∧a7 c H x s∧1≤b∧Q (.int (dD s b)) H
theorem ach:aP P w K mg base CX0 1 T.fB.f T.fB.fd ["store", "number"] (ame T.c):=by
 refine T.fB.F.ok acq (fun vs H Q E h=>?_) (fun cdv A outer s₀ H vs Q E hr h=>?_)
 ·obtain⟨x,s,b,rfl,_⟩:=h;rfl
 ·obtain⟨x,s,b,rfl,S,b1,k⟩:=h;have hu:=bX hr;refine⟨_,ab (aY (mC (oF hu (pv 1) (au (pv 0) rfl))) (ai (ak (bY bD aw))) aL) (ai (ak aw)),?_⟩;obtain⟨dx,hS⟩:=S.st;unfold dD at k;by_cases h:b≤s.boxes.length
  ·obtain⟨a,ha,_,hv⟩:=S.box b1 h;rw[if_neg (by omega)] at k;exact⟨_,rfl,_,rfl,x.S,T.c.aI,dx,_,_,rfl,hS,T.aq,T.aU,rfl,x.dB,_,rfl,S.j7 hv,_,rfl,cR k⟩
  ·have hv:=afX (ba:=x.ba) (b:=b) (by rw[S.f9];omega);rw[if_pos (by omega)] at k;refine⟨_,rfl,_,rfl,x.S,T.c.aI,dx,_,_,rfl,hS,T.aq,T.aU,rfl,x.dB,none,rfl,.inl ⟨_,Sum.inl (b:Int),S.dB,rfl,hv.symm⟩,_,rfl,cS ⟨_,rfl,k⟩⟩
def ak7 (c:Cs):Sp:=fun vs H Q _=>∃ (x:Ix) (s:Vbexam.St) (num:Nat) (nm:Str) (a:Ar) (v:V),vs = [.ref x.S,.int num,.str nm,v]∧a7 c H x s∧ArV H a v∧wfA (nm,a)=true∧pO (nm,a)=true∧∀ H',ao H H'→Q (.int (eT s num (nm,a))) H'
theorem ama {nm:Str}{z:Int}{p:Str×Int×Int}(hp:p∈dC) (e:p.1=nm) (h:pO (nm,.n z)=true):p.2.1≤z:=by
 subst e;have h:(match dC.find? (fun q=>q.1 == p.1) with|some p=>Vbexam.inR z p.2.1 p.2.2|none=>false)=true:=h;rw[aa8 p hp] at h;exact(Wf.jQ.mp h).1
theorem aiI {a b:Str}(h:a≠b):decide (V.str a=V.str b)=false:=decide_eq_false fun e=>h (by injection e)
theorem aai (M:Mo P w T):aP P w K mg base CX0 2 T.d8.f T.d8.fd ["store", "call", "name", "value"] (ak7 T.c):=by
 refine T.d8.F.ok aaE (fun vs H Q E h=>?_) (fun cdv A outer s₀ H vs Q E hr h=>?_)
 ·obtain⟨x,s,num,nm,a,v,rfl,_⟩:=h;rfl
 ·obtain⟨x,s,num,nm,a,v,rfl,S,hv,hwf,hrg,k⟩:=h;refine⟨_,ab (aY (aQ iI (pv 2) aW (aX _)) (ai (ak (aK (aaj T M) hr rfl T.sf T.d9.F.kp T.d9.b .nil aE (aa (pv 0) (aa (pv 1) (aa (pv 3) af)))))) aL)
   (ab (aY (aQ yd (pv 2) (ain (aa aW (aa aW af))) (by with_unfolding_all rfl)) (ai (ak (aK (ach T) hr rfl T.wD T.fB.F.kp T.fB.b .nil aE (aa (pv 0) (aa (pv 3) af))))) aL)
   (ai (ak aw))),?_⟩
  have inbo:inV (.str nm) [.str "b",.str "o"]=decide (nm = "b" ∨ nm = "o"):=by
   have one:∀ y:Str,eqV (.str y) (.str nm)=decide (nm=y):=fun y=>by
    show(y == nm)=decide (nm=y);rw[Bool.eq_iff_iff,decide_eq_true_iff,beq_iff_eq];exact⟨fun e=>e.symm,fun e=>e.symm⟩
   show((eqV (.str "b") (.str nm))||((eqV (.str "o") (.str nm))||false))=_;rw[one,one,Bool.or_false,Bool.eq_iff_iff];simp
  refine⟨_,rfl,rfl,_,rfl,?_⟩;cases a with
  | t l=>
   have e:nm = "text":=eq_of_beq hwf;subst e;rw[aiI (by decide)];refine cR ?_;refine⟨_,rfl,(by show 2≤sizeLine;decide),fun tp htp=>⟨tp,_,rfl,.inr (SqT.of ah),rfl,rfl,_,rfl,?_⟩⟩;show if(if false=true then _ else inV (.str "text") [.str "b",.str "o"])=true then _ else _
   rw[if_neg Bool.false_ne_true,inbo,decide_eq_false (by decide)];exact cR (k _ (bO (ao.refl _) htp _))
  | n z=>
   obtain rfl:v = .int z:=hv;obtain⟨p,hp,ep⟩:=List.any_eq_true.mp hwf;have ep:p.1=nm:=eq_of_beq ep;have lo:=ama hp ep hrg;have lo0:∀ p∈dC,0≤p.2.1:=by decide
   have hz:z=((z.toNat:Nat):Int):=by have:=lo0 p hp;omega
   have k:∀ H',ao H H'→Q (.int (if nm = "n" then dw s num z.toNat else if nm = "b" ∨ nm = "o" then dD s z else 0)) H':=k;by_cases e1:nm = "n"
   ·rw[decide_eq_true (by rw[e1])];refine cS ?_;have k:=k H (ao.refl _);rw[if_pos e1] at k;exact⟨_,rfl,_,rfl,_,rfl,x,s,num,z.toNat,by rw[← hz];rfl,S,k⟩
   ·rw[aiI e1];refine cR ?_;refine⟨_,rfl,(by show 2≤sizeLine;decide),fun tp htp=>⟨tp,_,rfl,.inr (SqT.of ah),rfl,rfl,_,rfl,?_⟩⟩;have sm:=bO (ao.refl H) htp (.tup [.str "b",.str "o"]);show if(if false=true then _ else inV (.str nm) [.str "b",.str "o"])=true then _ else _
    rw[if_neg Bool.false_ne_true,inbo];have k:=k _ sm;rw[if_neg e1] at k;by_cases e2:nm = "b" ∨ nm = "o"
    ·rw[decide_eq_true e2];rw[if_pos e2] at k;have lo1:∀ p∈dC,(p.1 = "b" ∨ p.1 = "o")→1≤p.2.1:=by decide
     have h1:1≤z:=by have:=lo1 p hp (by rw[ep];exact e2);omega
     refine cS ?_;refine⟨_,rfl,_,rfl,x,s,z.toNat,by rw[← hz];rfl,S.keep sm,by omega,?_⟩;rw[← hz];exact k
    ·rw[decide_eq_false e2];rw[if_neg e2] at k;exact cR k
def ajH (c:Cs):Sp:=fun vs H Q _=>∃ (x:Ix) (s:Vbexam.St) (g:Addr) (cl:Vbexam.Call),vs = [.ref x.S,.int (numOf cl),.ref g]∧ax c H x s∧m3 H g (aB cl)∧g ∉ foot x∧(∀ a∈aB cl,ae1 a)∧∀ H',ao H H'→Q (.int (js s cl)) H'
theorem ai5 (x:Vbexam.Call):(aB x).length≤3:=by cases x <;> simp[aB]
theorem zb (M:Mo P w T):aP P w K mg base CX0 3 T.dJ.f T.dJ.fd ["store", "call", "given"] (ajH T.c):=by
 refine T.dJ.F.ok eM (fun vs H Q E h=>?_) (fun cdv A outer s₀ H vs Q E hr h=>?_)
 ·obtain⟨x,s,g,cl,rfl,_⟩:=h;rfl
 ·obtain⟨x,s,g,cl,rfl,S,hG,hgf,hsh,k⟩:=h;refine⟨_,ab (nA (fZ PassesOwn.never rfl (aas (pv 2)) (abz rfl (jE (aZ (i:=3) eM.nd rfl (Or.inl rfl)) (jE (aZ (i:=4) eM.nd rfl (Or.inl rfl)) y2)))
    (ai (aY (fD (bJ (aK (afE T M) hr rfl T.aba T.ij.F.kp T.ij.b .nil aE (aa (pv 3) (aa (pv 4) af))) (fun _=>rfl))) (ai (ak (bY bD aw))) aL))))
   (ab (nA (fZ PassesOwn.never rfl (aas (pv 2)) (abz rfl (jE (aZ (i:=3) eM.nd rfl (Or.inl rfl)) (jE (aZ (i:=4) eM.nd rfl (Or.inl rfl)) y2)))
    (ab (aJ (i:=5) eM.nd rfl (Or.inl rfl) (aK (aai T M) hr rfl T.se T.d8.F.kp T.d8.b .nil aE (aa (pv 0) (aa (pv 1) (aa (pv 3) (aa (pv 4) af))))))
    (ai (aY (aQ fc (pv 5) aw (aX _)) (ai (ak (pv 5))) aL)))))
   (ai (ak aw))),?_⟩
  obtain⟨vs,hvl,hg,hvs⟩:=hG;have hwf:=afV cl;obtain⟨kvs,ekv⟩:∃ kvs,kvs=((aB cl).zip vs).map fun p=>((Sum.inr p.1.1:Key),p.2):=⟨_,rfl⟩;rw[← ekv] at hg;have klen:kvs.length=(aB cl).length:=by rw[ekv,List.length_map,List.length_zip,hvl,Nat.min_self]
  have kat:∀ (i:Nat) kk v,kvs[i]?=some (kk,v)→∃ a,(aB cl)[i]?=some a∧kk=Sum.inr a.1∧vs[i]?=some v:=fun i kk v h=>by
   rw[ekv,List.getElem?_map] at h;obtain⟨y,hy,e⟩:=Option.map_eq_some_iff.mp h;obtain⟨h1,h2⟩:=List.getElem?_zip_eq_some.mp hy;cases e;exact⟨y.1,h1,rfl,h2⟩
  have arv:∀ {H':Hp} (od:Obj) (u:HO),ao (upd H g (.frz od (.dK kvs))) H'→∀ (i:Nat) a v,(aB cl)[i]?=some a→vs[i]?=some v→ArV H' a.2 v:=fun od u sm i a v h1 h2=>by
   have:=hvs i a v h1 h2;cases ea:a.2 with
   | n z=>rw[ea] at this;exact this
   | t l=>
    rw[ea] at this;obtain⟨ta,e1,e2⟩:=this;refine⟨ta,e1,sm _ _ ?_⟩;rw[ae (cp e2 hg (by intro z;cases z))];exact e2
  refine⟨g,_,hg,trivial,fun od=>?_⟩;have hgF:(upd H g (.frz od (.dK kvs))) g=some (.frz od (.dK kvs)):=ah;show(afb _ _ _) _ _ (upd H g (.frz od (.dK kvs)));refine⟨_,rfl,g,od,_,rfl,hgF,?_⟩;refine xP (fun i σ H'=>(∃ v3 v4,σ = [some (.ref x.S),some (.int (numOf cl:Nat)),some (.ref g),v3,v4,none])∧ao (upd H g (.frz od (.dK kvs))) H'∧∀ a∈(aB cl).take i,pO a=true)
   ⟨⟨none,none,rfl⟩,ao.refl _,fun a ha=>by simp at ha⟩ (fun i σ H' _ p=>p.2.1 _ _ hgF) (fun i kk v σ H' Tt hk p hT=>?_) (fun σ H' p=>?_)
  ·obtain⟨⟨v3,v4,rfl⟩,sm,hok⟩:=p;obtain⟨a,ha,rfl,hv⟩:=kat i kk v hk;have ham:=List.mem_of_getElem? ha;have smT:=bO sm hT (.tup [V.str a.1,v]);refine⟨Tt,_,rfl,SqT.of ah,rfl,_,_,rfl,_,_,rfl,rfl,?_⟩;refine⟨_,rfl,_,rfl,a.1,a.2,v,rfl,List.all_eq_true.mp hwf a ham,hsh a ham,arv od (.dK kvs) smT i a v ha hv,fun H1 sm1=>⟨_,rfl,?_⟩⟩;cases hr':pO (a.1,a.2) with
   | false=>
    refine cS ?_;have e:js s cl = -1:=by
     unfold js;rw[if_neg];intro z;rw[zE] at z;have:=List.all_eq_true.mp z a ham;rw[show pO a=pO (a.1,a.2) from rfl,hr'] at this;cases this
    refine⟨_,rfl,sm1 _ _ (smT _ _ hgF),?_⟩;have k:=k _ (iW hg (smT.trans sm1));rw[e] at k;exact k
   | true=>
    refine cR ?_;refine⟨⟨_,_,rfl⟩,smT.trans sm1,fun b hb=>?_⟩;rw[take_snoc ha] at hb;rcases List.mem_append.mp hb with q|q
    ·exact hok b q
    ·rw[List.mem_singleton.mp q];exact hr'
  ·obtain⟨⟨v3,v4,rfl⟩,sm,hok⟩:=p;rw[klen,List.take_length] at hok;have hrg:Vbexam.ranged cl=true:=by
    rw[zE];exact List.all_eq_true.mpr hok
   have ec:js s cl=refs s (numOf cl) (aB cl):=if_pos hrg;rw[ec] at k;refine⟨sm _ _ hgF,?_⟩;have sm1:=iW hg sm;have S1:=S.keep sm1;have hg1:(upd H' g (.dK kvs)) g=some (.dK kvs):=ah;have arv1:∀ (i:Nat) a v,(aB cl)[i]?=some a→vs[i]?=some v→ArV (upd H' g (.dK kvs)) a.2 v:=fun i a v h1 h2=>by
    have:=hvs i a v h1 h2;cases ea:a.2 with
    | n z=>rw[ea] at this;exact this
    | t l=>
     rw[ea] at this;obtain⟨ta,e1,e2⟩:=this;exact⟨ta,e1,sm1 _ _ e2⟩
   generalize upd H' g (.dK kvs)=H1 at sm1 S1 hg1 arv1 ⊢;refine⟨g,_,hg1,trivial,fun od2=>?_⟩;have hgF2:(upd H1 g (.frz od2 (.dK kvs))) g=some (.frz od2 (.dK kvs)):=ah;have z1:g≠x.dP:=fun z=>hgf (by rw[z];unfold foot;exact List.mem_cons_of_mem _ (List.mem_cons_self ..));have z2:g≠x.dB:=fun z=>hgf (by rw[z];unfold foot;exact List.mem_cons_of_mem _ (List.mem_cons_of_mem _ (List.mem_cons_self ..)));have R2:a7 T.c (upd H1 g (.frz od2 (.dK kvs))) x s:=by
      have ne:∀ b o,H1 b=some o→b≠g→(upd H1 g (.frz od2 (.dK kvs))) b=some o:=fun b o e n=>by rw[ae n];exact e
      refine⟨?_,.inl (ne _ _ S1.eP fun e=>z1 e.symm),.inl (ne _ _ S1.eB fun e=>z2 e.symm),S1.rd.nPB,S1.rd.dy,S1.rd.f9,S1.rd.pnd,S1.rd.bnd,fun i p a h1 h2=>?_,fun i p a h1 h2=>?_,ne _ _ S1.rd.lH (cp S1.rd.lH hg1 (by intro z;cases z)),S1.rd.hlen,fun i v q h1 h2=>?_,S1.rd.ok⟩
      ·obtain⟨da,e⟩:=S1.rd.st;exact⟨da,ne _ _ e (cp e hg1 (by intro z;cases z))⟩
      ·obtain⟨da,z,e1,e2⟩:=S1.rd.ps i p a h1 h2;exact⟨da,z,e1,ne _ _ e2 (cp e2 hg1 (by intro z;cases z))⟩
      ·obtain⟨da,e2⟩:=S1.rd.bs i p a h1 h2;exact⟨da,ne _ _ e2 (cp e2 hg1 (by intro z;cases z))⟩
      ·obtain⟨t',l,e1,e2,e3⟩:=S1.rd.hs i v q h1 h2;exact⟨t',l,e1,ne _ _ e2 (cp e2 hg1 (by intro z;cases z)),ne _ _ e3 (cp e3 hg1 (by intro z;cases z))⟩
   show(afb _ _ _) _ _ (upd H1 g (.frz od2 (.dK kvs)));refine⟨_,rfl,g,od2,_,rfl,hgF2,?_⟩;refine xP (fun i σ H'=>(∃ v3 v4 v5,σ = [some (.ref x.S),some (.int (numOf cl:Nat)),some (.ref g),v3,v4,v5])∧ao (upd H1 g (.frz od2 (.dK kvs))) H'∧∀ a∈(aB cl).take i,eT s (numOf cl) a=0)
    ⟨⟨_,_,_,rfl⟩,ao.refl _,fun a ha=>by simp at ha⟩ (fun i σ H' _ p=>p.2.1 _ _ hgF2) (fun i kk v σ H' Tt hk p hT=>?_) (fun σ H' p=>?_)
   ·obtain⟨⟨v3,v4,v5,rfl⟩,sm2,hz⟩:=p;obtain⟨a,ha,rfl,hv⟩:=kat i kk v hk;have ham:=List.mem_of_getElem? ha;have smT:=bO sm2 hT (.tup [V.str a.1,v]);have hav:ArV (upd H' Tt (.tup [V.str a.1,v])) a.2 v:=by
     have:=arv1 i a v ha hv;cases ea:a.2 with
     | n z=>rw[ea] at this;exact this
     | t l=>
      rw[ea] at this;obtain⟨ta,e1,e2⟩:=this;refine⟨ta,e1,smT _ _ ?_⟩;rw[ae (cp e2 hg1 (by intro z;cases z))];exact e2
    refine⟨Tt,_,rfl,SqT.of ah,rfl,_,_,rfl,_,_,rfl,rfl,?_⟩;refine⟨_,rfl,_,rfl,_,rfl,_,rfl,x,s,numOf cl,a.1,a.2,v,rfl,R2.keep smT,hav,List.all_eq_true.mp hwf a ham,hok a ham,fun H3 sm3=>?_⟩;refine⟨_,rfl,rfl,_,rfl,?_⟩;have smA:=smT.trans sm3;refine a8 (fun e=>?_) (fun e=>?_)
    ·have e:eT s (numOf cl) a≠0:=fun z=>by
      rw[show eT s (numOf cl) (a.1,a.2)=0 from z] at e;simp at e
     refine⟨_,rfl,smA _ _ hgF2,?_⟩;have er:refs s (numOf cl) (aB cl)=eT s (numOf cl) a:=by
      have hi:=(List.getElem?_eq_some_iff.mp ha).1;have ed:aB cl=(aB cl).take i++a::(aB cl).drop (i+1):=by
       conv=>lhs;rw[← List.take_append_drop i (aB cl)]
       rw[List.drop_eq_getElem_cons hi];rw[List.getElem?_eq_getElem hi] at ha;rw[Option.some.inj ha]
      rw[ed,yr _ _ hz];exact if_pos e
     have k:=k _ (sm1.trans (iW hg1 smA));rw[er] at k;exact k
    ·have e:eT s (numOf cl) (a.1,a.2)=0:=by simpa using e
     refine⟨⟨_,_,_,rfl⟩,smA,fun b hb=>?_⟩;rw[take_snoc ha] at hb;rcases List.mem_append.mp hb with q|q
     ·exact hz b q
     ·rw[List.mem_singleton.mp q];exact e
   ·obtain⟨⟨v3,v4,v5,rfl⟩,sm2,hz⟩:=p;rw[klen,List.take_length] at hz;refine⟨sm2 _ _ hgF2,?_⟩;have k:=k _ (sm1.trans (iW hg1 sm2));have er:refs s (numOf cl) (aB cl)=0:=by
     have:=yr (s:=s) (num:=numOf cl) (aB cl) [] hz;rw[List.append_nil] at this;exact this
    rw[er] at k;exact k
end
section
variable {s:Vbexam.St}{num:Nat}
theorem ajA:refs s num []=0:=rfl
theorem gy {a:Str×Ar}{r:List (Str×Ar)}:refs s num (a::r)=if eT s num a≠0 then eT s num a else refs s num r:=rfl
theorem jq {nm:Str}{z:Int}:eT s num (nm,.n z)=if nm = "n" then dw s num z.toNat else if nm = "b" ∨ nm = "o" then dD s z else 0:=rfl
theorem agx {z:Int}:eT s num ("n",.n z)=dw s num z.toNat:=by rw[jq,if_pos rfl]
theorem agu {z:Int}:eT s num ("b",.n z)=dD s z:=by rw[jq,if_neg (by decide),if_pos (.inl rfl)]
theorem als {z:Int}:eT s num ("o",.n z)=dD s z:=by rw[jq,if_neg (by decide),if_pos (.inr rfl)]
theorem agv {z:Int}:eT s num ("k",.n z)=0:=by rw[jq,if_neg (by decide),if_neg (by decide)]
theorem t2 {z:Int}:eT s num ("mass",.n z)=0:=by rw[jq,if_neg (by decide),if_neg (by decide)]
theorem abZ {z:Int}:eT s num ("p",.n z)=0:=by rw[jq,if_neg (by decide),if_neg (by decide)]
theorem agy {z:Int}:eT s num ("q",.n z)=0:=by rw[jq,if_neg (by decide),if_neg (by decide)]
theorem yN {z:Int}:eT s num ("mark",.n z)=0:=by rw[jq,if_neg (by decide),if_neg (by decide)]
theorem afU {z:Int}:eT s num ("kept",.n z)=0:=by rw[jq,if_neg (by decide),if_neg (by decide)]
theorem agw {z:Int}:eT s num ("minutes",.n z)=0:=by rw[jq,if_neg (by decide),if_neg (by decide)]
theorem ai3 {z:Int}:eT s num ("least",.n z)=0:=by rw[jq,if_neg (by decide),if_neg (by decide)]
theorem z5 {nm:Str}{l:List Int}:eT s num (nm,.t l)=0:=rfl
theorem x9 {n:Nat}(h:dw s num n=0):∃ p,Vbexam.piece s n=some p∧(iR num=false→p.gone=false):=by
 unfold dw at h;cases e:Vbexam.piece s n with
 | none=>rw[e] at h;cases h
 | some p=>
  rw[e] at h;refine⟨p,rfl,fun hs=>?_⟩;cases hg:p.gone with
  | false=>rfl
  | true=>
   have h:(if p.gone=true∧iR num=false then (-3:Int) else 0)=0:=h;rw[if_pos ⟨hg,hs⟩] at h;cases h
theorem iV {z:Int}{k:Vbexam.Piece→Vbexam.St×List Int}(h:dw s num z.toNat≠0) (hs:iR num=false):Vbexam.ofPiece s z k=(s,[dw s num z.toNat]):=by
 unfold Vbexam.ofPiece;unfold dw at h ⊢;cases e:Vbexam.piece s z.toNat with
 | none=>rfl
 | some p=>
  rw[e] at h;have h:(if p.gone=true∧iR num=false then (-3:Int) else 0)≠0:=h;show(if p.gone=true then (s,[-3]) else k p)=(s,[if p.gone=true∧iR num=false then (-3:Int) else 0]);by_cases hg:p.gone=true
  ·rw[if_pos hg,if_pos ⟨hg,hs⟩]
  ·rw[if_neg (fun z=>hg z.1)] at h;exact absurd rfl h
theorem aew {z:Int}{k:Vbexam.Piece→Vbexam.St×List Int}(h:dw s num z.toNat=0) (hs:iR num=false):∃ p,Vbexam.ofPiece s z k=k p:=by
 obtain⟨p,e,g⟩:=x9 h;exact⟨p,fX e (g hs)⟩
theorem dY {z:Int}{k:Nat→Vbexam.St×List Int}(h:dD s z≠0):Vbexam.ofBox s z k=(s,[dD s z]):=by
 unfold Vbexam.ofBox;unfold dD at h ⊢;by_cases e:(s.boxes.length:Int)<z
 ·rw[if_pos e,if_pos e]
 ·rw[if_neg e] at h;exact absurd rfl h
theorem rL {z:Int}(h:dD s z=0):z≤(s.boxes.length:Int):=by
 unfold dD at h;by_cases e:(s.boxes.length:Int)<z
 ·rw[if_pos e] at h;cases h
 ·omega
theorem ag0 {z:Int}{k:Nat→Vbexam.St×List Int}(h:dD s z=0):Vbexam.ofBox s z k=k z.toNat:=by
 unfold Vbexam.ofBox;rw[if_neg (by have:=rL h;omega)]
theorem yo {n:Nat}(h:dw s num n≠0) (hs:iR num=true):Vbexam.piece s n=none∧dw s num n = -2:=by
 unfold dw at h ⊢;cases e:Vbexam.piece s n with
 | none=>exact⟨rfl,rfl⟩
 | some p=>
  rw[e] at h;have h:(if p.gone=true∧iR num=false then (-3:Int) else 0)≠0:=h;rw[if_neg (fun z=>by rw[hs] at z;exact Bool.noConfusion z.2)] at h;exact absurd rfl h
end
theorem pY {s:Vbexam.St}{num:Nat}{z:Int}{r:List (Str×Ar)}(hr:refs s num r=0):refs s num (("n",.n z)::r)=dw s num z.toNat:=by
 rw[gy,agx,hr];by_cases h:dw s num z.toNat=0
 ·rw[if_neg (by simpa using h),h]
 ·rw[if_pos h]
theorem kE {s:Vbexam.St}{num:Nat}{z:Int}{r:List (Str×Ar)}(hr:refs s num r=0):refs s num (("b",.n z)::r)=dD s z:=by
 rw[gy,agu,hr];by_cases h:dD s z=0
 ·rw[if_neg (by simpa using h),h]
 ·rw[if_pos h]
theorem skip {s:Vbexam.St}{num:Nat}{a:Str×Ar}{r:List (Str×Ar)}(h:eT s num a=0):refs s num (a::r)=refs s num r:=by
 rw[gy,if_neg (by simpa using h)]
theorem aki {s:Vbexam.St}(x:Vbexam.Call) (h:refs s (numOf x) (aB x)≠0):Vbexam.act s x=(s,[refs s (numOf x) (aB x)]):=by
 cases x with
 | sample k m p=>exact absurd ((skip agv).trans ((skip t2).trans (skip abZ))) h
 | split n k m=>
  have e:refs s 1 (aB (.split n k m))=dw s 1 n.toNat:=pY ((skip agv).trans (skip t2));show _=(s,[refs s 1 (aB (.split n k m))]);rw[show refs s (numOf (.split n k m)) (aB (.split n k m))=dw s 1 n.toNat from e] at h;rw[e];exact iV h rfl
 | use n m=>
  have e:refs s 2 (aB (.use n m))=dw s 2 n.toNat:=pY (skip t2);show _=(s,[refs s 2 (aB (.use n m))]);rw[show refs s (numOf (.use n m)) (aB (.use n m))=dw s 2 n.toNat from e] at h;rw[e];exact iV h rfl
 | lose n=>
  have e:refs s 3 (aB (.lose n))=dw s 3 n.toNat:=pY rfl;show _=(s,[refs s 3 (aB (.lose n))]);rw[show refs s (numOf (.lose n)) (aB (.lose n))=dw s 3 n.toNat from e] at h;rw[e];exact iV h rfl
 | newBox p=>exact absurd (skip abZ) h
 | put n b=>
  show Vbexam.ofPiece s n _=(s,[refs s 5 [("n",.n n),("b",.n b)]]);have h:refs s 5 [("n",.n n),("b",.n b)]≠0:=h;by_cases hn:dw s 5 n.toNat=0
  ·have e:refs s 5 [("n",.n n),("b",.n b)]=dD s b:=(skip (agx.trans hn)).trans (kE rfl);rw[e] at h ⊢;obtain⟨p,hp⟩:=aew (k:=fun p=>Vbexam.ofBox s b fun b=>if p.box≠0 then (s,[-4]) else if Vbexam.isOpen s b=false then (s,[-5]) else if Vbexam.holderOfBox s b≠p.holder then (s,[-6]) else (Vbexam.setPiece s p.label fun x=>{ x with box:=b },[0])) hn rfl;rw[hp];exact dY h
  ·have e:refs s 5 [("n",.n n),("b",.n b)]=dw s 5 n.toNat:=by rw[gy,agx,if_pos hn]
   rw[e];exact iV hn rfl
 | take n=>
  have e:refs s 6 (aB (.take n))=dw s 6 n.toNat:=pY rfl;show _=(s,[refs s 6 (aB (.take n))]);rw[show refs s (numOf (.take n)) (aB (.take n))=dw s 6 n.toNat from e] at h;rw[e];exact iV h rfl
 | nest b o=>
  by_cases hb:dD s b=0
  ·have e:refs s (numOf (.nest b o)) (aB (.nest b o))=dD s o:=by
    show refs s 7 [("b",.n b),("o",.n o)]=_;rw[skip (agu.trans hb),gy,als,ajA];by_cases ho:dD s o=0
    ·rw[if_neg (by simpa using ho),ho]
    ·rw[if_pos ho]
   rw[e] at h ⊢;simp only[Vbexam.act];rw[ag0 hb];exact dY h
  ·have e:refs s (numOf (.nest b o)) (aB (.nest b o))=dD s b:=by
    show refs s 7 [("b",.n b),("o",.n o)]=_;rw[gy,agu,if_pos hb]
   rw[e];simp only[Vbexam.act];exact dY hb
 | unnest b=>
  have e:refs s (numOf (.unnest b)) (aB (.unnest b))=dD s b:=kE rfl;rw[e] at h ⊢;simp only[Vbexam.act];exact dY h
 | lock b m=>
  have e:refs s (numOf (.lock b m)) (aB (.lock b m))=dD s b:=kE (skip yN);rw[e] at h ⊢;simp only[Vbexam.act];exact dY h
 | open_ b m=>
  have e:refs s (numOf (.open_ b m)) (aB (.open_ b m))=dD s b:=kE (skip yN);rw[e] at h ⊢;simp only[Vbexam.act];exact dY h
 | handPiece n p q=>
  have e:refs s 11 (aB (.handPiece n p q))=dw s 11 n.toNat:=pY ((skip abZ).trans (skip agy));show _=(s,[refs s 11 (aB (.handPiece n p q))]);rw[show refs s (numOf (.handPiece n p q)) (aB (.handPiece n p q))=dw s 11 n.toNat from e] at h;rw[e];exact iV h rfl
 | handBox b p q=>
  have e:refs s (numOf (.handBox b p q)) (aB (.handBox b p q))=dD s b:=kE ((skip abZ).trans (skip agy));rw[e] at h ⊢;simp only[Vbexam.act];exact dY h
 | frost b f=>
  have e:refs s (numOf (.frost b f)) (aB (.frost b f))=dD s b:=kE (skip afU);rw[e] at h ⊢;simp only[Vbexam.act];exact dY h
 | pass m=>exact absurd (skip agw) h
 | piece n=>
  have e:refs s 15 [("n",.n n)]=dw s 15 n.toNat:=pY rfl;show(match Vbexam.piece s n.toNat with|none=>_|some p=>_)=(s,[refs s 15 [("n",.n n)]]);have h:refs s 15 [("n",.n n)]≠0:=h;rw[e] at h ⊢;obtain⟨h1,h2⟩:=yo h rfl;rw[h1,h2]
 | box b=>
  have e:refs s (numOf (.box b)) (aB (.box b))=dD s b:=kE rfl;rw[e] at h ⊢;simp only[Vbexam.act];exact dY h
 | manifest b=>
  have e:refs s (numOf (.manifest b)) (aB (.manifest b))=dD s b:=kE rfl;rw[e] at h ⊢;simp only[Vbexam.act];exact dY h
 | sums n=>
  have e:refs s 18 [("n",.n n)]=dw s 18 n.toNat:=pY rfl;show(match Vbexam.piece s n.toNat with|none=>_|some p=>_)=(s,[refs s 18 [("n",.n n)]]);have h:refs s 18 [("n",.n n)]≠0:=h;rw[e] at h ⊢;obtain⟨h1,h2⟩:=yo h rfl;rw[h1,h2]
 | read t=>exact absurd (skip z5) h
 | best b t=>
  have e:refs s (numOf (.best b t)) (aB (.best b t))=dD s b:=kE (skip z5);rw[e] at h ⊢;simp only[Vbexam.act,Vbexam.ofFound];exact dY h
 | sure b t=>
  have e:refs s (numOf (.sure b t)) (aB (.sure b t))=dD s b:=kE (skip z5);rw[e] at h ⊢;simp only[Vbexam.act,Vbexam.ofFound];exact dY h
 | cover b t=>
  have e:refs s (numOf (.cover b t)) (aB (.cover b t))=dD s b:=kE (skip z5);rw[e] at h ⊢;simp only[Vbexam.act,Vbexam.ofFound];exact dY h
 | chain n=>
  have e:refs s 23 [("n",.n n)]=dw s 23 n.toNat:=pY rfl;show(match Vbexam.piece s n.toNat with|none=>_|some p=>_)=(s,[refs s 23 [("n",.n n)]]);have h:refs s 23 [("n",.n n)]≠0:=h;rw[e] at h ⊢;obtain⟨h1,h2⟩:=yo h rfl;rw[h1,h2]
 | warm m=>exact absurd (skip ai3) h
 | label k=>exact absurd (skip agv) h
theorem bA {H:Hp}{g:Addr}{l:List (Str×Int)}(h:m3 H g (l.map fun p=>(p.1,Ar.n p.2))):H g=some (.dK (gv l)):=by
 obtain⟨vs,hl,hg,hv⟩:=h;rw[hg];refine congrArg (fun z=>some (HO.dK z)) ?_;clear hg
 induction l generalizing vs with
 | nil=>rfl
 | cons a l ih=>
  cases vs with
  | nil=>cases hl
  | cons v vs=>
   have h0:=hv 0 _ _ rfl rfl;obtain rfl:v = .int a.2:=h0;have:=ih vs (by simpa using hl) fun i b u h1 h2=>hv (i+1) b u h1 h2;show((Sum.inr a.1:Key),V.int a.2)::_=((Sum.inr a.1:Key),V.int a.2)::gv l;rw[← this];rfl
theorem agO {H:Hp}{g:Addr}{t:List Int}(h:m3 H g [("text",.t t)]):∃ ta,H g=some (.dK [(Sum.inr "text",.ref ta)])∧H ta=some (.lst (t.map V.int)):=by
 obtain⟨vs,hl,hg,hv⟩:=h
 match vs,hl with
 | [v],_=>
  obtain⟨ta,rfl,e⟩:=hv 0 _ _ rfl rfl;exact⟨ta,hg,e⟩
theorem tq {H:Hp}{g:Addr}{b:Int}{t:List Int}(h:m3 H g [("b",.n b),("text",.t t)]):∃ ta,H g=some (.dK [(Sum.inr "b",.int b),(Sum.inr "text",.ref ta)])∧H ta=some (.lst (t.map V.int)):=by
 obtain⟨vs,hl,hg,hv⟩:=h
 match vs,hl with
 | [v,u],_=>
  obtain rfl:v = .int b:=hv 0 _ _ rfl rfl;obtain⟨ta,rfl,e⟩:=hv 1 _ _ rfl rfl;exact⟨ta,hg,e⟩
theorem bq {z lo hi:Int}(h:Vbexam.inR z lo hi=true) (h0:0≤lo):∃ n:Nat,z=n:=⟨z.toNat,by have:=(Wf.jQ.mp h).1;omega⟩
theorem y8 {t:List Int}(h:Vbexam.textIn t=true):∃ tn:List Nat,t=Vbexam.ints tn∧tn.length≤60:=by
 unfold Vbexam.textIn at h;rw[Bool.and_eq_true] at h;have h1:t.length≤60:=of_decide_eq_true h.1;refine⟨t.map Int.toNat,?_,by rw[List.length_map];exact h1⟩;unfold Vbexam.ints;rw[List.map_map]
 conv=>lhs;rw[← List.map_id t]
 refine List.map_congr_left fun z hz=>?_;have:=(Wf.jQ.mp (List.all_eq_true.mp h.2 z hz)).1;show z=((z.toNat:Nat):Int);omega
structure aj2 (c:Cs) (H:Hp) (x:Ix) (s:Vbexam.St) (g:Addr) (cl:Vbexam.Call):Prop where
 st:ax c H x s
 hands:s.hands.length≤200
 given:m3 H g (aB cl)
 foot:g ∉ foot x
 rg:Vbexam.ranged cl=true
 ref:refs s (numOf cl) (aB cl)=0
def amg (c:Cs):Sp:=fun vs H Q _=>∃ (x:Ix) (s:Vbexam.St) (g:Addr) (cl:Vbexam.Call),vs = [.ref x.S,.int (numOf cl),.ref g]∧aj2 c H x s g cl∧eR c H x (Vbexam.act s cl) Q
theorem jo {a b:Bool}(h:(a&&b)=true):a=true∧b=true:=Bool.and_eq_true _ _ |>.mp h
theorem pn {s:Vbexam.St}{num n:Nat}{r:List (Str×Ar)}(hr:refs s num r=0) (h:refs s num (("n",.n (n:Int))::r)=0):∃ p,Vbexam.piece s n=some p∧(iR num=false→p.gone=false):=by
 rw[pY hr] at h;exact x9 (by rw[Int.toNat_natCast] at h;exact h)
theorem pb {s:Vbexam.St}{num b:Nat}{r:List (Str×Ar)}(hr:refs s num r=0) (h:refs s num (("b",.n (b:Int))::r)=0):b≤s.boxes.length:=by
 rw[kE hr] at h;have:=rL h;omega
theorem nk {b:Nat}(h:Vbexam.boxIn (b:Int)=true):1≤b:=by
 have:=(Wf.jQ.mp h).1;omega
section
variable {P:Program}{w:World}{K:PySem.W.Frag}{mg:Str→Option Value}{base:Heap}(T:Pg K mg)
theorem aex (M:Mo P w T):aP P w K mg base CX0 7 T.gD.f T.gD.fd ["store", "number", "given"] (fun vs H Q E=>amg T.c vs H Q E∧∃ z:Int,vs[1]?=some (.int z)∧z<15):=by
 refine T.gD.F.ok aeZ (fun vs H Q E h=>?_) (fun cdv A outer s₀ H vs Q E hr h=>?_)
 ·obtain⟨⟨x,s,g,cl,rfl,_⟩,_⟩:=h;rfl
 ·obtain⟨⟨x,s,g,cl,rfl,⟨S,hh,hG,hgf,hrg,href⟩,po⟩,z,hz,hlt⟩:=h;have hz:(numOf cl:Int)=z:=by
   have hz:=Option.some.inj hz;injection hz
  obtain⟨aC,kC,gC,MC,ekC⟩:=M.changes;refine⟨_,ai (ak (aan (E:=E0) (ui MC rfl gC (pv 1) (fun _ _=>rfl)) aE (aa (pv 0) (aa (pv 2) af)))),?_⟩;subst hz;cases cl with
  | sample k m p=>
   obtain⟨h1,h2⟩:=jo hrg;obtain⟨h2,h3⟩:=jo h2;obtain⟨k,rfl⟩:=bq h1 (by decide);obtain⟨m,rfl⟩:=bq h2 (by decide);obtain⟨p,rfl⟩:=bq h3 (by decide);exact⟨_,rfl,Sum.inl 0,_,rfl,by rw[ekC];rfl,_,_,_,_,_,rfl,aih T,hr.mono (by decide),T.il.F.kp,T.il.b,_,rfl,_,rfl,x,s,g,k,m,p,rfl,S,bA (l:=[("k",(k:Int)),("mass",(m:Int)),("p",(p:Int))]) hG,by have:=(Wf.jQ.mp h1).2;omega,po⟩
  | split n k m=>
   have hr0:=hrg;obtain⟨h1,h2⟩:=jo hrg;obtain⟨h2,h3⟩:=jo h2;obtain⟨n,rfl⟩:=bq h1 (by decide);obtain⟨k,rfl⟩:=bq h2 (by decide);obtain⟨m,rfl⟩:=bq h3 (by decide);obtain⟨p,hp,hg⟩:=pn (num:=1) ((skip agv).trans (skip t2)) href;exact⟨_,rfl,Sum.inl 1,_,rfl,by rw[ekC];rfl,_,_,_,_,_,rfl,acj T,hr.mono (by decide),T.dG.F.kp,T.dG.b,_,rfl,_,rfl,x,s,g,n,k,m,p,rfl,S,bA (l:=[("n",(n:Int)),("k",(k:Int)),("mass",(m:Int))]) hG,hgf,hp,hg rfl,hr0,po⟩
  | use n m=>
   obtain⟨h1,h2⟩:=jo hrg;obtain⟨n,rfl⟩:=bq h1 (by decide);obtain⟨m,rfl⟩:=bq h2 (by decide);obtain⟨p,hp,hg⟩:=pn (num:=2) (skip t2) href;exact⟨_,rfl,Sum.inl 2,_,rfl,by rw[ekC];rfl,_,_,_,_,_,rfl,alX T,hr.mono (by decide),T.pR.F.kp,T.pR.b,_,rfl,_,rfl,x,s,g,n,m,p,rfl,S,bA (l:=[("n",(n:Int)),("mass",(m:Int))]) hG,hgf,hp,hg rfl,po⟩
  | lose n=>
   obtain⟨n,rfl⟩:=bq hrg (by decide);obtain⟨p,hp,hg⟩:=pn (num:=3) rfl href;exact⟨_,rfl,Sum.inl 3,_,rfl,by rw[ekC];rfl,_,_,_,_,_,rfl,akH T,hr.mono (by decide),T.md.F.kp,T.md.b,_,rfl,_,rfl,x,s,g,n,p,rfl,S,bA (l:=[("n",(n:Int))]) hG,hgf,hp,hg rfl,po⟩
  | newBox p=>
   obtain⟨p,rfl⟩:=bq hrg (by decide);exact⟨_,rfl,Sum.inl 4,_,rfl,by rw[ekC];rfl,_,_,_,_,_,rfl,afF T,hr.mono (by decide),T.fJ.F.kp,T.fJ.b,_,rfl,_,rfl,x,s,g,p,rfl,S,bA (l:=[("p",(p:Int))]) hG,hgf,po⟩
  | put n b=>
   obtain⟨h1,h2⟩:=jo hrg;obtain⟨n,rfl⟩:=bq h1 (by decide);obtain⟨b,rfl⟩:=bq h2 (by decide);have href:refs s 5 [("n",.n (n:Int)),("b",.n (b:Int))]=0:=href;rw[gy,agx,Int.toNat_natCast] at href;by_cases hn:dw s 5 n=0
   ·rw[if_neg (by simpa using hn)] at href;obtain⟨p,hp,hg⟩:=x9 hn;exact⟨_,rfl,Sum.inl 5,_,rfl,by rw[ekC];rfl,_,_,_,_,_,rfl,alW T,hr.mono (by decide),T.pQ.F.kp,T.pQ.b,_,rfl,_,rfl,x,s,g,n,b,p,rfl,S,bA (l:=[("n",(n:Int)),("b",(b:Int))]) hG,hgf,hp,hg rfl,nk h2,pb rfl href,po⟩
   ·rw[if_pos hn] at href;exact absurd href hn
  | take n=>
   obtain⟨n,rfl⟩:=bq hrg (by decide);obtain⟨p,hp,hg⟩:=pn (num:=6) rfl href;exact⟨_,rfl,Sum.inl 6,_,rfl,by rw[ekC];rfl,_,_,_,_,_,rfl,akJ T,hr.mono (by decide),T.mf.F.kp,T.mf.b,_,rfl,_,rfl,x,s,g,n,p,rfl,S,bA (l:=[("n",(n:Int))]) hG,hgf,hp,hg rfl,po⟩
  | nest b o=>
   obtain⟨h1,h2⟩:=jo hrg;obtain⟨b,rfl⟩:=bq h1 (by decide);obtain⟨o,rfl⟩:=bq h2 (by decide);have href:refs s 7 [("b",.n (b:Int)),("o",.n (o:Int))]=0:=href;rw[gy,agu] at href;by_cases hb:dD s b=0
   ·rw[if_neg (by simpa using hb),gy,als] at href;have ho:dD s o=0:=Classical.byContradiction fun z=>by rw[if_pos z] at href;exact z href
    have b2:=rL hb;have o2:=rL ho;exact⟨_,rfl,Sum.inl 7,_,rfl,by rw[ekC];rfl,_,_,_,_,_,rfl,akI T,hr.mono (by decide),T.me.F.kp,T.me.b,_,rfl,_,rfl,x,s,g,b,o,rfl,S,bA (l:=[("b",(b:Int)),("o",(o:Int))]) hG,hgf,nk h1,by omega,nk h2,by omega,po⟩
   ·rw[if_pos hb] at href;exact absurd href hb
  | unnest b=>
   have h1:=hrg;obtain⟨b,rfl⟩:=bq hrg (by decide);exact⟨_,rfl,Sum.inl 8,_,rfl,by rw[ekC];rfl,_,_,_,_,_,rfl,aii T,hr.mono (by decide),T.ip.F.kp,T.ip.b,_,rfl,_,rfl,x,s,g,b,rfl,S,bA (l:=[("b",(b:Int))]) hG,hgf,nk h1,pb (num:=8) rfl href,po⟩
  | lock b m=>
   obtain⟨h1,h2⟩:=jo hrg;obtain⟨b,rfl⟩:=bq h1 (by decide);obtain⟨m,rfl⟩:=bq h2 (by decide);exact⟨_,rfl,Sum.inl 9,_,rfl,by rw[ekC];rfl,_,_,_,_,_,rfl,afI T,hr.mono (by decide),T.fL.F.kp,T.fL.b,_,rfl,_,rfl,x,s,g,b,m,rfl,S,bA (l:=[("b",(b:Int)),("mark",(m:Int))]) hG,hgf,nk h1,pb (num:=9) (skip yN) href,po⟩
  | open_ b m=>
   obtain⟨h1,h2⟩:=jo hrg;obtain⟨b,rfl⟩:=bq h1 (by decide);obtain⟨m,rfl⟩:=bq h2 (by decide);exact⟨_,rfl,Sum.inl 10,_,rfl,by rw[ekC];rfl,_,_,_,_,_,rfl,afG T,hr.mono (by decide),T.fK.F.kp,T.fK.b,_,rfl,_,rfl,x,s,g,b,m,rfl,S,bA (l:=[("b",(b:Int)),("mark",(m:Int))]) hG,hgf,nk h1,pb (num:=10) (skip yN) href,po⟩
  | handPiece n p q=>
   obtain⟨h1,h2⟩:=jo hrg;obtain⟨h2,h3⟩:=jo h2;obtain⟨n,rfl⟩:=bq h1 (by decide);obtain⟨p,rfl⟩:=bq h2 (by decide);obtain⟨q,rfl⟩:=bq h3 (by decide);obtain⟨y,hp,hg⟩:=pn (num:=11) ((skip abZ).trans (skip agy)) href;exact⟨_,rfl,Sum.inl 11,_,rfl,by rw[ekC];rfl,_,_,_,_,_,rfl,akG T,hr.mono (by decide),T.ma.F.kp,T.ma.b,_,rfl,_,rfl,x,s,g,n,p,q,y,rfl,S,bA (l:=[("n",(n:Int)),("p",(p:Int)),("q",(q:Int))]) hG,hgf,hp,hg rfl,po⟩
  | handBox b p q=>
   obtain⟨h1,h2⟩:=jo hrg;obtain⟨h2,h3⟩:=jo h2;obtain⟨b,rfl⟩:=bq h1 (by decide);obtain⟨p,rfl⟩:=bq h2 (by decide);obtain⟨q,rfl⟩:=bq h3 (by decide);exact⟨_,rfl,Sum.inl 12,_,rfl,by rw[ekC];rfl,_,_,_,_,_,rfl,ag2 T,hr.mono (by decide),T.gr.F.kp,T.gr.b,_,rfl,_,rfl,x,s,g,b,p,q,rfl,S,bA (l:=[("b",(b:Int)),("p",(p:Int)),("q",(q:Int))]) hG,hgf,nk h1,pb (num:=12) ((skip abZ).trans (skip agy)) href,po⟩
  | frost b f=>
   obtain⟨h1,h2⟩:=jo hrg;obtain⟨b,rfl⟩:=bq h1 (by decide);obtain⟨f,rfl⟩:=bq h2 (by decide);exact⟨_,rfl,Sum.inl 13,_,rfl,by rw[ekC];rfl,_,_,_,_,_,rfl,aey T,hr.mono (by decide),T.eX.F.kp,T.eX.b,_,rfl,_,rfl,x,s,g,b,f,rfl,S,bA (l:=[("b",(b:Int)),("kept",(f:Int))]) hG,hgf,nk h1,pb (num:=13) (skip afU) href,po⟩
  | pass m=>
   obtain⟨m,rfl⟩:=bq hrg (by decide);exact⟨_,rfl,Sum.inl 14,_,rfl,by rw[ekC];rfl,_,_,_,_,_,rfl,ag4 T,hr.mono (by decide),T.gx.F.kp,T.gx.b,_,rfl,_,rfl,x,s,g,m,rfl,S,bA (l:=[("minutes",(m:Int))]) hG,hgf,po⟩
  | piece n=>exact absurd hlt (by show ¬ ((15:Int)<15);decide)
  | box b=>exact absurd hlt (by show ¬ ((16:Int)<15);decide)
  | manifest b=>exact absurd hlt (by show ¬ ((17:Int)<15);decide)
  | sums n=>exact absurd hlt (by show ¬ ((18:Int)<15);decide)
  | read t=>exact absurd hlt (by show ¬ ((19:Int)<15);decide)
  | best b t=>exact absurd hlt (by show ¬ ((20:Int)<15);decide)
  | sure b t=>exact absurd hlt (by show ¬ ((21:Int)<15);decide)
  | cover b t=>exact absurd hlt (by show ¬ ((22:Int)<15);decide)
  | chain n=>exact absurd hlt (by show ¬ ((23:Int)<15);decide)
  | warm m=>exact absurd hlt (by show ¬ ((24:Int)<15);decide)
  | label k=>exact absurd hlt (by show ¬ ((25:Int)<15);decide)
theorem vj {s:Vbexam.St}{b:Nat}(hb:b≤s.boxes.length) (t:List Nat) (k:List Vbexam.Bytes→List Nat→List Int):∃ r,Vbexam.ofFound s b (Vbexam.ints t) k=(s,r):=⟨_,pW hb t k⟩
theorem akK (M:Mo P w T):aP P w K mg base CX0 19 T.qK.f T.qK.fd ["store", "number", "given"] (fun vs H Q E=>amg T.c vs H Q E∧∃ z:Int,vs[1]?=some (.int z)∧15≤z):=by
 refine T.qK.F.ok ak0 (fun vs H Q E h=>?_) (fun cdv A outer s₀ H vs Q E hr h=>?_)
 ·obtain⟨⟨x,s,g,cl,rfl,_⟩,_⟩:=h;rfl
 ·obtain⟨⟨x,s,g,cl,rfl,⟨S,hh,hG,hgf,hrg,href⟩,po⟩,z,hz,hlt⟩:=h;have hz:(numOf cl:Int)=z:=by
   have hz:=Option.some.inj hz;injection hz
  obtain⟨aM,kM,gM,MM,ekM⟩:=M.acS;obtain⟨aT,kT,gT,MT,ekT⟩:=M.ajY;refine⟨_,ab (aY (mC (alZ MM rfl gM (pv 1))) (ai (ak (aK (aal T M) hr rfl T.sg T.eE.F.kp T.eE.b .nil aE (aa (pv 0) (aa (pv 1) (aa (pv 2) af)))))) aL)
   (ai (ak (aan (E:=E0) (ui MT rfl gT (pv 1) (fun _ _=>rfl)) aE (aa (pv 0) (aa (pv 2) af))))),?_⟩
  subst hz;have no:∀ n:Nat,bg kM (Sum.inl (n:Int))=none→∀ {A B:Prop},B→if(bg kM (Sum.inl (n:Int))).isSome=true then A else B:=fun n h A B hB=>by rw[h];exact cR hB
  cases cl with
  | sample k m p=>exact absurd hlt (by show ¬ ((15:Int)≤0);decide)
  | split n k m=>exact absurd hlt (by show ¬ ((15:Int)≤1);decide)
  | use n m=>exact absurd hlt (by show ¬ ((15:Int)≤2);decide)
  | lose n=>exact absurd hlt (by show ¬ ((15:Int)≤3);decide)
  | newBox p=>exact absurd hlt (by show ¬ ((15:Int)≤4);decide)
  | put n b=>exact absurd hlt (by show ¬ ((15:Int)≤5);decide)
  | take n=>exact absurd hlt (by show ¬ ((15:Int)≤6);decide)
  | nest b o=>exact absurd hlt (by show ¬ ((15:Int)≤7);decide)
  | unnest b=>exact absurd hlt (by show ¬ ((15:Int)≤8);decide)
  | lock b m=>exact absurd hlt (by show ¬ ((15:Int)≤9);decide)
  | open_ b m=>exact absurd hlt (by show ¬ ((15:Int)≤10);decide)
  | handPiece n p q=>exact absurd hlt (by show ¬ ((15:Int)≤11);decide)
  | handBox b p q=>exact absurd hlt (by show ¬ ((15:Int)≤12);decide)
  | frost b f=>exact absurd hlt (by show ¬ ((15:Int)≤13);decide)
  | pass m=>exact absurd hlt (by show ¬ ((15:Int)≤14);decide)
  | piece n=>
   obtain⟨n,rfl⟩:=bq hrg (by decide);obtain⟨p,hp,_⟩:=pn (num:=15) rfl href;exact⟨_,rfl,Sum.inl 15,rfl,_,rfl,no 15 (by rw[ekM];rfl) ⟨_,rfl,Sum.inl 15,_,rfl,by rw[ekT];rfl,_,_,_,_,_,rfl,adq T,hr.mono (by decide),T.eF.F.kp,T.eF.b,_,rfl,_,rfl,x,s,g,n,p,rfl,S,hh,bA (l:=[("n",(n:Int))]) hG,hp,po⟩⟩
  | box b=>
   have h1:=hrg;obtain⟨b,rfl⟩:=bq hrg (by decide);exact⟨_,rfl,Sum.inl 16,rfl,_,rfl,no 16 (by rw[ekM];rfl) ⟨_,rfl,Sum.inl 16,_,rfl,by rw[ekT];rfl,_,_,_,_,_,rfl,afJ T,hr.mono (by decide),T.fM.F.kp,T.fM.b,_,rfl,_,rfl,x,s,g,b,rfl,S,bA (l:=[("b",(b:Int))]) hG,nk h1,pb (num:=16) rfl href,po⟩⟩
  | manifest b=>
   have h1:=hrg;obtain⟨b,rfl⟩:=bq hrg (by decide);exact⟨_,rfl,Sum.inl 17,rfl,_,rfl,no 17 (by rw[ekM];rfl) ⟨_,rfl,Sum.inl 17,_,rfl,by rw[ekT];rfl,_,_,_,_,_,rfl,aak T,hr.mono (by decide),T.cV.F.kp,T.cV.b,_,rfl,_,rfl,x,s,g,b,rfl,S,bA (l:=[("b",(b:Int))]) hG,nk h1,pb (num:=17) rfl href,po⟩⟩
  | sums n=>
   obtain⟨n,rfl⟩:=bq hrg (by decide);obtain⟨p,hp,_⟩:=pn (num:=18) rfl href;exact⟨_,rfl,Sum.inl 18,rfl,_,rfl,no 18 (by rw[ekM];rfl) ⟨_,rfl,Sum.inl 18,_,rfl,by rw[ekT];rfl,_,_,_,_,_,rfl,aeB T,hr.mono (by decide),T.eZ.F.kp,T.eZ.b,_,rfl,_,rfl,x,s,g,n,p,rfl,S,hh,bA (l:=[("n",(n:Int))]) hG,hp,po⟩⟩
  | read t=>
   obtain⟨tn,rfl,htl⟩:=y8 hrg;obtain⟨ta,hg,hta⟩:=agO hG;rw[← ll] at hta;exact⟨_,rfl,Sum.inl 19,rfl,_,rfl,no 19 (by rw[ekM];rfl) ⟨_,rfl,Sum.inl 19,_,rfl,by rw[ekT];rfl,_,_,_,_,_,rfl,adm T,hr.mono (by decide),T.ek.F.kp,T.ek.b,_,rfl,_,rfl,x,s,g,ta,tn,rfl,S,hg,hta,by omega,po⟩⟩
  | best b t=>
   obtain⟨h1,h2⟩:=jo hrg;obtain⟨b,rfl⟩:=bq h1 (by decide);obtain⟨tn,rfl,htl⟩:=y8 h2;obtain⟨ta,hg,hta⟩:=tq hG;rw[← ll] at hta;have b2:=pb (num:=20) (skip z5) href;obtain⟨r,er⟩:∃ r,Vbexam.act s (.best b (Vbexam.ints tn))=(s,r):=by
    simp only[Vbexam.act];exact vj b2 tn _
   rw[er] at po;refine⟨_,rfl,Sum.inl 20,rfl,_,rfl,?_⟩;rw[show(bg kM (Sum.inl (20:Int))).isSome=true by rw[ekM];rfl];exact cS ⟨_,rfl,_,rfl,_,rfl,x,s,g,ta,b,tn,20,r,rfl,S,hg,hta,by omega,nk h1,b2,.inl ⟨rfl,er⟩,po⟩
  | sure b t=>
   obtain⟨h1,h2⟩:=jo hrg;obtain⟨b,rfl⟩:=bq h1 (by decide);obtain⟨tn,rfl,htl⟩:=y8 h2;obtain⟨ta,hg,hta⟩:=tq hG;rw[← ll] at hta;have b2:=pb (num:=21) (skip z5) href;obtain⟨r,er⟩:∃ r,Vbexam.act s (.sure b (Vbexam.ints tn))=(s,r):=by
    simp only[Vbexam.act];exact vj b2 tn _
   rw[er] at po;refine⟨_,rfl,Sum.inl 21,rfl,_,rfl,?_⟩;rw[show(bg kM (Sum.inl (21:Int))).isSome=true by rw[ekM];rfl];exact cS ⟨_,rfl,_,rfl,_,rfl,x,s,g,ta,b,tn,21,r,rfl,S,hg,hta,by omega,nk h1,b2,.inr (.inl ⟨rfl,er⟩),po⟩
  | cover b t=>
   obtain⟨h1,h2⟩:=jo hrg;obtain⟨b,rfl⟩:=bq h1 (by decide);obtain⟨tn,rfl,htl⟩:=y8 h2;obtain⟨ta,hg,hta⟩:=tq hG;rw[← ll] at hta;have b2:=pb (num:=22) (skip z5) href;obtain⟨r,er⟩:∃ r,Vbexam.act s (.cover b (Vbexam.ints tn))=(s,r):=by
    simp only[Vbexam.act];exact vj b2 tn _
   rw[er] at po;refine⟨_,rfl,Sum.inl 22,rfl,_,rfl,?_⟩;rw[show(bg kM (Sum.inl (22:Int))).isSome=true by rw[ekM];rfl];exact cS ⟨_,rfl,_,rfl,_,rfl,x,s,g,ta,b,tn,22,r,rfl,S,hg,hta,by omega,nk h1,b2,.inr (.inr ⟨rfl,er⟩),po⟩
  | chain n=>
   obtain⟨n,rfl⟩:=bq hrg (by decide);obtain⟨p,hp,_⟩:=pn (num:=23) rfl href;exact⟨_,rfl,Sum.inl 23,rfl,_,rfl,no 23 (by rw[ekM];rfl) ⟨_,rfl,Sum.inl 23,_,rfl,by rw[ekT];rfl,_,_,_,_,_,rfl,adn T,hr.mono (by decide),T.eA.F.kp,T.eA.b,_,rfl,_,rfl,x,s,g,n,p,rfl,S,hh,bA (l:=[("n",(n:Int))]) hG,hp,po⟩⟩
  | warm m=>
   obtain⟨m,rfl⟩:=bq hrg (by decide);exact⟨_,rfl,Sum.inl 24,rfl,_,rfl,no 24 (by rw[ekM];rfl) ⟨_,rfl,Sum.inl 24,_,rfl,by rw[ekT];rfl,_,_,_,_,_,rfl,aeD T,hr.mono (by decide),T.e8.F.kp,T.e8.b,_,rfl,_,rfl,x,s,g,m,rfl,S,bA (l:=[("least",(m:Int))]) hG,po⟩⟩
  | label k=>
   have h1:=hrg;obtain⟨k,rfl⟩:=bq hrg (by decide);exact⟨_,rfl,Sum.inl 25,rfl,_,rfl,no 25 (by rw[ekM];rfl) ⟨_,rfl,Sum.inl 25,_,rfl,by rw[ekT];rfl,_,_,_,_,_,rfl,adp T,hr.mono (by decide),T.eD.F.kp,T.eD.b,_,rfl,_,rfl,x,s,g,k,rfl,S,bA (l:=[("k",(k:Int))]) hG,by have:=(Wf.jQ.mp h1).2;omega,po⟩⟩
end
theorem ahw {s:Vbexam.St}(x:Vbexam.Call) (h:s.hands.length≤200):(Vbexam.act s x).1.hands.length≤200:=by
 have hb:∀ {b:Int} {k:Nat→Vbexam.St×List Int},(∀ b,(k b).1.hands.length≤200)→(Vbexam.ofBox s b k).1.hands.length≤200:=fun hk=>by
  unfold Vbexam.ofBox;split
  ·exact h
  ·exact hk _
 have hp:∀ {n:Int} {k:Vbexam.Piece→Vbexam.St×List Int},(∀ p,(k p).1.hands.length≤200)→(Vbexam.ofPiece s n k).1.hands.length≤200:=fun hk=>by
  unfold Vbexam.ofPiece;split
  ·exact h
  ·split
   ·exact h
   ·exact hk _
 have hi:∀ {c:Prop} [Decidable c] {a b:Vbexam.St×List Int},(c→a.1.hands.length≤200)→(¬ c→b.1.hands.length≤200)→(if c then a else b).1.hands.length≤200:=fun ha hb=>by
  split
  ·exact ha ‹_›
  ·exact hb ‹_›
 have more:∀ {hs:List Vbexam.Hand} {y:Vbexam.Hand},¬ Vbexam.HANDS≤hs.length→(hs++[y]).length≤200:=fun e=>by
  have e:¬ 200≤_:=e;rw[List.length_append];show _+1≤200;omega
 cases x <;> simp only[Vbexam.act,Vbexam.ofFound]
 case sample=>exact hi (fun _=>h) fun _=>hi (fun _=>h) fun _=>h
 case split=>exact hp fun p=>hi (fun _=>h) fun _=>hi (fun _=>h) fun _=>hi (fun _=>h) fun _=>hi (fun _=>h) fun _=>h
 case use=>exact hp fun p=>hi (fun _=>h) fun _=>hi (fun _=>h) fun _=>h
 case lose=>exact hp fun p=>h
 case newBox=>exact hi (fun _=>h) fun _=>h
 case put=>exact hp fun p=>hb fun b=>hi (fun _=>h) fun _=>hi (fun _=>h) fun _=>hi (fun _=>h) fun _=>h
 case take=>exact hp fun p=>hi (fun _=>h) fun _=>hi (fun _=>h) fun _=>h
 case nest=>exact hb fun b=>hb fun o=>hi (fun _=>h) fun _=>hi (fun _=>h) fun _=>hi (fun _=>h) fun _=>hi (fun _=>h) fun _=>h
 case unnest=>exact hb fun b=>hi (fun _=>h) fun _=>hi (fun _=>h) fun _=>h
 case lock=>exact hb fun b=>hi (fun _=>h) fun _=>h
 case open_=>exact hb fun b=>hi (fun _=>h) fun _=>hi (fun _=>h) fun _=>hi (fun _=>h) fun _=>h
 case handPiece=>exact hp fun p=>hi (fun _=>h) fun _=>hi (fun _=>h) fun _=>hi (fun _=>h) fun e=>more e
 case handBox=>exact hb fun b=>hi (fun _=>h) fun _=>hi (fun _=>h) fun _=>hi (fun _=>h) fun e=>more e
 case frost=>exact hb fun b=>h
 case pass=>exact hi (fun _=>h) fun _=>h
 case piece=>split <;> exact h
 case box=>exact hb fun b=>h
 case manifest=>exact hb fun b=>h
 case sums=>split <;> exact h
 case read=>exact hi (fun _=>h) fun _=>h
 case best=>exact hb fun b=>by split;exact h;exact hi (fun _=>h) fun _=>h
 case sure=>exact hb fun b=>by split;exact h;exact hi (fun _=>h) fun _=>h
 case cover=>exact hb fun b=>by split;exact h;exact hi (fun _=>h) fun _=>h
 case chain=>split <;> exact h
 case warm=>exact h
 case label=>exact h
theorem ahl {s:Vbexam.St}(x:Vbexam.Call) (h:s.hands.length≤200):(Vbexam.step s x).1.hands.length≤200:=by
 unfold Vbexam.step;split
 ·exact h
 ·exact ahw x h
theorem step_eq {s:Vbexam.St}(x:Vbexam.Call):Vbexam.step s x=if js s x≠0 then (s,[js s x]) else Vbexam.act s x:=by
 unfold Vbexam.step js;cases hr:Vbexam.ranged x with
 | false=>
  rw[if_pos rfl,if_neg Bool.false_ne_true,if_pos (by decide)]
 | true=>
  rw[if_neg (by decide),if_pos rfl];by_cases h:refs s (numOf x) (aB x)=0
  ·rw[if_neg (by simpa using h)]
  ·rw[if_pos h];exact aki x h
theorem acN {wd:List Int}{x:Vbexam.Call}(h:Rows.Form wd x):wd=(numOf x:Int)::(aB x).flatMap (fun a=>iy a.2)∧∀ a∈aB x,ae1 a:=by
 cases h
 case read t h=>exact⟨by simp[aB,numOf,iy],fun a ha=>by rw[List.mem_singleton.mp ha];exact Nat.le_trans h (by decide)⟩
 case best b t h=>exact⟨by simp[aB,numOf,iy],fun a ha=>by
  rcases List.mem_cons.mp ha with e|e
  ·rw[e];exact True.intro
  ·rw[List.mem_singleton.mp e];exact Nat.le_trans h (by decide)⟩
 case sure b t h=>exact⟨by simp[aB,numOf,iy],fun a ha=>by
  rcases List.mem_cons.mp ha with e|e
  ·rw[e];exact True.intro
  ·rw[List.mem_singleton.mp e];exact Nat.le_trans h (by decide)⟩
 case cover b t h=>exact⟨by simp[aB,numOf,iy],fun a ha=>by
  rcases List.mem_cons.mp ha with e|e
  ·rw[e];exact True.intro
  ·rw[List.mem_singleton.mp e];exact Nat.le_trans h (by decide)⟩
 all_goals
  refine⟨by simp[aB,numOf,iy],fun a ha=>?_⟩;simp only[aB,List.mem_cons,List.not_mem_nil,or_false] at ha
  first
   | (rw[ha];exact True.intro)
   | (rcases ha with e|e <;> (rw[e];exact True.intro))
   | (rcases ha with e|e|e <;> (rw[e];exact True.intro))
theorem names_nodup (x:Vbexam.Call):((aB x).map fun a=>a.1).Nodup:=by
 rw[← abm];have h:=aie x;generalize numOf x=n at h;have:∀ n,n<26→(names n).Nodup:=by decide
 exact this n h
theorem aiS {kvs:List (Key×V)}{k:Key}(h:k ∉ kvs.map (·.1)):bg kvs k=none:=by
 cases e:bg kvs k with
 | none=>rfl
 | some v=>exact absurd (alj e) h
section
variable {P:Program}{w:World}{K:PySem.W.Frag}{mg:Str→Option Value}{base:Heap}(T:Pg K mg)
def aml (K:PySem.W.Frag) (c:Cs):Sp:=fun vs H Q _=>∃ (x:Ix) (s:Vbexam.St) (rd dx cl:Addr) (p:Nat) (l wd:List Int) (call:Vbexam.Call),vs = [.ref x.S,.ref rd]∧ax c H x s∧s.hands.length≤200∧H rd=some (.ins c.Reader dx (rF cl p))∧SqL K H cl (l.map V.int)∧rd ∉ foot x∧Rows.Form wd call∧(∀ i,i<wd.length→l[p+i]?=wd[i]?) ∧
 ∀ (H':Hp) (x':Ix) (a:Addr),ax c H' x' (Vbexam.step s call).1→x'.S=x.S→H' rd=some (.ins c.Reader dx (rF cl (p+wd.length)))→(∀ b o,H b=some o→b ∉ foot x→b≠rd→H' b=some o)→(∀ b∈foot x',b∈foot x∨H b=none)→H a=none→H' a=some (.lst ((Vbexam.step s call).2.map V.int))→a ∉ foot x'→Q (.ref a) H'
theorem acg (M:Mo P w T):aP P w K mg base CX0 20 T.fA.f T.fA.fd ["store", "reader"] (aml K T.c):=by
 refine T.fA.F.ok g5 (fun vs H Q E h=>?_) (fun cdv A outer s₀ H vs Q E hr h=>?_)
 ·obtain⟨x,s,rd,dx,cl,p,l,wd,call,rfl,_⟩:=h;rfl
 ·obtain⟨x,s,rd,dx,cl,p,l,wd,call,rfl,S,hh,hrd,hcl,hrf,hform,hwd,k⟩:=h;have hu:=bX hr;have hr1:bh 1 _:=hr.mono (by decide);have hr3:bh 3 _:=hr.mono (by decide);have hr7:bh 7 _:=hr.mono (by decide);obtain⟨aA,kA,gA,MA,hA⟩:=M.args;obtain⟨uf,gf,rf⟩:=T.rX;refine⟨_,ab (aJ (i:=2) g5.nd rfl (Or.inl rfl) (ny (pv 1) T.c7 T.eG (fv T) hr1 T.bR.b .nil aE))
   (ab (aJ (i:=3) g5.nd rfl (Or.inl rfl) nv)
   (ab (fZ PassesOwn.never rfl (al2 (ui MA rfl gA (pv 2) (fun _ _=>rfl))) (aZ (i:=4) g5.nd rfl (Or.inl rfl))
    (ai (lB hu (pv 3) (pv 4) (bj (pv 1) T.c7 T.kr (rE T) hr3 T.cJ.b .nil aE (aa (pv 4) af)) rfl)))
   (ab (aJ (i:=5) g5.nd rfl (Or.inl rfl) (aK (zb T M) hr3 rfl T.qS T.dJ.F.kp T.dJ.b .nil aE (aa (pv 0) (aa (pv 2) (aa (pv 3) af)))))
   (ab (aY (aQ fc (pv 5) aw (aX _)) (ai (ak (aS (aa (pv 5) af)))) aL)
   (ab (aY (aQ abx (pv 2) (cK rfl gf rf) (aX _)) (ai (ak (aK (aex T M) hr7 rfl T.zy T.gD.F.kp T.gD.b .nil aE (aa (pv 0) (aa (pv 2) (aa (pv 3) af)))))) aL)
   (ai (ak (aK (akK T M) hr rfl T.ahX T.qK.F.kp T.qK.b .nil aE (aa (pv 0) (aa (pv 2) (aa (pv 3) af))))))))))),?_⟩
  obtain⟨ewd,hsh⟩:=acN hform;have hwf:=afV call;have hz0:l[p]?=some (numOf call:Int):=by
   have:=hwd 0 (by rw[ewd];exact Nat.succ_pos _);rw[Nat.add_zero] at this;rw[this,ewd];rfl
  refine⟨_,rfl,rd,dx,_,rfl,hrd,rfl,rd,dx,cl,p,l,_,rfl,hrd,hcl,hz0,?_⟩;have o1:Off rd H (upd H rd (.ins T.c.Reader dx (rF cl (p+1)))):=fun b o e n=>by rw[ae n];exact e
  have f1:∀ b,(upd H rd (.ins T.c.Reader dx (rF cl (p+1)))) b=none→H b=none:=fun b e=>by
   by_cases z:b=rd
   ·rw[z,ah] at e;cases e
   ·rw[ae z] at e;exact e
  have hrd1:(upd H rd (.ins T.c.Reader dx (rF cl (p+1)))) rd=some (.ins T.c.Reader dx (rF cl (p+1))):=ah;generalize upd H rd (.ins T.c.Reader dx (rF cl (p+1)))=H1 at o1 f1 hrd1 ⊢;refine fun g hg=>?_;have hg0:H g=none:=f1 g hg;have ngr:g≠rd:=fun e=>by rw[e,hrd1] at hg;cases hg
  have hgf:g ∉ foot x:=fun m=>by
   obtain⟨o,q⟩:=S.fQ m;rw[hg0] at q;cases q
  obtain⟨ta,hta,tk⟩:=hA (numOf call) (aie call);rw[abm] at tk;refine⟨_,rfl,Sum.inl (numOf call:Int),_,rfl,hta,ta,rfl,⟨_,tk.sq⟩,?_⟩
  let fl:List (Str×Ar)→List Int:=fun as=>as.flatMap fun a=>iy a.2
  refine akv (K:=K) (xs:=((aB call).map fun (a:Str×Ar)=>a.1).map V.str) (fun i σ H'=>(∃ v4,σ = [some (.ref x.S),some (.ref rd),some (.int (numOf call:Nat)),some (.ref g),v4,none])∧Off rd H H'∧H' rd=some (.ins T.c.Reader dx (rF cl (p+1+(fl ((aB call).take i)).length))) ∧
    ∃ vs:List V,vs.length=i∧H' g=some (.dK ((((aB call).take i).zip vs).map fun q=>(Sum.inr q.1.1,q.2)))∧∀ (j:Nat) a v,(aB call)[j]?=some a→vs[j]?=some v→ArV H' a.2 v∧∀ tb,v = .ref tb→tb≠g∧tb≠rd)
   ⟨⟨none,rfl⟩,fun b o e n=>?_,?_,[],rfl,ah,fun j a v _ h=>by simp at h⟩ (fun i σ H' _ _=>tk.sq) (fun i v σ H' hv q=>?_) (fun σ H' q=>?_)
  ·rw[ae (az e hg0)];exact o1 b o e n
  ·rw[ae ngr.symm];exact hrd1
  ·obtain⟨⟨v4,rfl⟩,of,hrd',vs,hvl,hgd,hvs⟩:=q;rw[List.getElem?_map,List.getElem?_map] at hv;obtain⟨nm,hnm,e1⟩:=Option.map_eq_some_iff.mp hv;obtain⟨a,ha,e2⟩:=Option.map_eq_some_iff.mp hnm;subst e2 e1;have hi:=(List.getElem?_eq_some_iff.mp ha).1;have ham:=List.mem_of_getElem? ha;have ed:aB call=(aB call).take i++a::(aB call).drop (i+1):=by
    conv=>lhs;rw[← List.take_append_drop i (aB call)]
    rw[List.drop_eq_getElem_cons hi];have ha:=ha;rw[List.getElem?_eq_getElem hi] at ha;rw[Option.some.inj ha]
   have hfl:fl (aB call)=fl ((aB call).take i)++(iy a.2++fl ((aB call).drop (i+1))):=by
    conv=>lhs;rw[ed]
    show((aB call).take i++a::(aB call).drop (i+1)).flatMap _=_;rw[List.flatMap_append,List.flatMap_cons]
   have hread:∀ j,j<(iy a.2).length→l[p+1+(fl ((aB call).take i)).length+j]?=(iy a.2)[j]?:=fun j hj=>by
    have hlen:wd.length=1+(fl (aB call)).length:=by
     rw[ewd,List.length_cons];show(fl (aB call)).length+1=_;omega
    have:=hwd (1+(fl ((aB call).take i)).length+j) (by rw[hlen,hfl,List.length_append,List.length_append];omega);rw[show p+1+(fl ((aB call).take i)).length+j=p+(1+(fl ((aB call).take i)).length+j) by omega,this,ewd];show((numOf call:Int)::fl (aB call))[1+(fl ((aB call).take i)).length+j]?=_;rw[show 1+(fl ((aB call).take i)).length+j=((fl ((aB call).take i)).length+j)+1 by omega,List.getElem?_cons_succ,hfl,List.getElem?_append_right (by omega),Nat.add_sub_cancel_left,List.getElem?_append_left hj]
   have hkind:(∃ z,a.2 = .n z∧a.1 ≠ "text")∨∃ t,a.2 = .t t∧a.1 = "text" ∧ t.length≤100:=by
    have h1:=List.all_eq_true.mp hwf a ham;have h2:=hsh a ham;obtain⟨nm,ar⟩:=a;cases ar with
    | n z=>
     refine .inl ⟨z,rfl,fun e=>?_⟩;have h1:dC.any (fun p=>p.1 == nm)=true:=h1;obtain⟨q,hq,e'⟩:=List.any_eq_true.mp h1;have nt:∀ p∈dC,p.1 ≠ "text":=by decide
     exact nt q hq ((eq_of_beq e').trans e)
    | t t=>exact .inr ⟨t,rfl,eq_of_beq h1,h2⟩
   refine⟨_,rfl,rd,dx,_,rfl,hrd',rfl,_,rfl,rd,dx,cl,_,l,a.1,a.2,rfl,hrd',ae8 hcl hrd of,hread,hkind,fun H2 v of2 hrd2 hav hfresh=>?_⟩;have hg2:=of2 _ _ hgd ngr;have hnew:bg ((((aB call).take i).zip vs).map fun q=>((Sum.inr q.1.1:Key),q.2)) (Sum.inr a.1)=none:=by
    refine aiS fun m=>?_;rw[List.map_map] at m;obtain⟨q,hq,e⟩:=List.mem_map.mp m;have e:q.1.1=a.1:=by
     have e:(Sum.inr q.1.1:Key)=Sum.inr a.1:=e;injection e
    have hq1:q.1∈(aB call).take i:=(List.of_mem_zip hq).1;have nd:=names_nodup call;rw[ed,List.map_append] at nd;exact(List.nodup_append.mp nd).2.2 q.1.1 (List.mem_map.mpr ⟨q.1,hq1,rfl⟩) a.1 (List.mem_map.mpr ⟨a,List.mem_cons_self ..,rfl⟩) e
   have h3:=ai5 call;refine⟨_,rfl,_,rfl,g,_,rfl,mY.k (k:=Sum.inr a.1) hg2 (bo (by rw[List.length_map,List.length_zip,List.length_take];omega)),?_⟩;rw[vI hnew];refine⟨⟨_,rfl⟩,fun b o e n=>?_,?_,vs++[v],?_,?_,fun j b u h1 h2=>?_⟩
   ·rw[ae (az e hg0)];exact of2 _ _ (of b o e n) n
   ·rw[ae ngr.symm,hrd2,take_snoc ha];show some (HO.ins _ _ (rF cl (p+1+(fl ((aB call).take i)).length+(iy a.2).length)))=some (HO.ins _ _ (rF cl (p+1+(((aB call).take i++[a]).flatMap fun a=>iy a.2).length)));rw[List.flatMap_append,List.length_append,List.flatMap_cons,List.flatMap_nil,List.append_nil,Nat.add_assoc]
   ·rw[List.length_append,hvl];rfl
   ·rw[ah,take_snoc ha,List.zip_append (by rw[List.length_take,hvl];omega),List.map_append];rfl
   ·have keep:∀ {b:Ar} {u:V},ArV H2 b u→(∀ tb,u = .ref tb→tb≠g)→ArV (upd H2 g (.dK ((((aB call).take i).zip vs).map (fun q=>((Sum.inr q.1.1:Key),q.2))++[(Sum.inr a.1,v)]))) b u:=fun {b u} h hn=>by
     cases b with
     | n z=>exact h
     | t t=>
      obtain⟨tb,e1,e2⟩:=h;exact⟨tb,e1,by rw[ae (hn tb e1)];exact e2⟩
    rcases dR h2 with q|⟨q,e⟩
    ·obtain⟨r1,r2⟩:=hvs j b u h1 q;have r1':ArV H2 b.2 u:=by
      cases eb:b.2 with
      | n z=>rw[eb] at r1;exact r1
      | t t=>
       rw[eb] at r1;obtain⟨tb,e1,e2⟩:=r1;exact⟨tb,e1,of2 _ _ e2 (r2 tb e1).2⟩
     exact⟨keep r1' fun tb e=>(r2 tb e).1,r2⟩
    ·rw[q,hvl,ha] at h1;cases h1;subst e;have fr:∀ tb,u = .ref tb→tb≠g∧tb≠rd:=fun tb e=>⟨fun z=>(by have:=hfresh tb e;rw[z,hgd] at this;cases this),fun z=>(by have:=hfresh tb e;rw[z,hrd'] at this;cases this)⟩;exact⟨keep hav fun tb e=>(fr tb e).1,fr⟩
  ·obtain⟨⟨v4,rfl⟩,of,hrd',vs,hvl,hgd,hvs⟩:=q;rw[List.length_map,List.length_map] at hrd' hvl hgd;rw[List.take_length] at hrd' hgd;have S1:=S.off hrd T.fo T.gj T.fq of;have hG:m3 H' g (aB call):=⟨vs,hvl,hgd,fun j a v h1 h2=>(hvs j a v h1 h2).1⟩;have hlen:p+wd.length=p+1+(fl (aB call)).length:=by
    rw[ewd,List.length_cons];show p+((fl (aB call)).length+1)=_;omega
   rw[← hlen] at hrd';refine⟨_,rfl,_,rfl,_,rfl,x,s,g,call,rfl,S1,hG,hgf,hsh,fun H2 sm2=>?_⟩;have S2:=S1.keep sm2;have hrd2:=sm2 _ _ hrd';have kp2:∀ b o,H b=some o→b ∉ foot x→b≠rd→H2 b=some o:=fun b o e _ n=>sm2 _ _ (of b o e n);have free2:∀ b,H2 b=none→H b=none:=fun b e=>of.free (sm2.free e) fun z=>by rw[z,hrd2] at e;cases e
   have hst:=step_eq (s:=s) call;refine⟨_,rfl,rfl,_,rfl,?_⟩;refine a8 (fun e=>?_) (fun e=>?_)
   ·have e:js s call≠0:=fun z=>by simp[z] at e
    rw[if_pos e] at hst;rw[hst] at k;refine⟨_,rfl,bI,fun a ha=>k _ x a (S2.keep (bO (ao.refl _) ha _)) rfl ?_ (fun b o q n n'=>?_) (fun b h=>.inl h) (free2 a ha) ah fun m=>?_⟩
    ·rw[ae (az hrd2 ha)];exact hrd2
    ·have:=kp2 b o q n n';rw[ae (az this ha)];exact this
    ·obtain⟨o,q⟩:=S2.fQ m;rw[ha] at q;cases q
   have e:js s call=0:=by simpa using e
   rw[if_neg (by simpa using e)] at hst;have hrg:Vbexam.ranged call=true:=Classical.byContradiction fun z=>by
    unfold js at e;rw[if_neg z] at e;cases e
   have href:refs s (numOf call) (aB call)=0:=by
    unfold js at e;rw[if_pos hrg] at e;exact e
   have hG2:m3 H2 g (aB call):=by
    obtain⟨vs,h1,h2,h3⟩:=hG;refine⟨vs,h1,sm2 _ _ h2,fun j a v e1 e2=>?_⟩;have:=h3 j a v e1 e2;cases ea:a.2 with
    | n z=>rw[ea] at this;exact this
    | t t=>
     rw[ea] at this;obtain⟨tb,q1,q2⟩:=this;exact⟨tb,q1,sm2 _ _ q2⟩
   have asked:aj2 T.c H2 x s g call:=⟨S2,hh,hG2,hgf,hrg,href⟩;have post:eR T.c H2 x (Vbexam.act s call) Q:=fun H3 x3 a St ha ha3 nf=>by
    rw[hst] at k;refine k H3 x3 a St.st St.S ?_ (fun b o q n n'=>St.keep b o (kp2 b o q n n') n) (fun b hb=>?_) (free2 a ha) ha3 nf
    ·exact St.keep _ _ hrd2 hrf
    ·rcases St.old b hb with q|q
     ·exact .inl q
     ·exact .inr (free2 b q)
   refine⟨_,rfl,_,_,rfl,rfl,_,rfl,?_⟩;refine a8 (fun e=>?_) (fun e=>?_)
   ·exact⟨_,rfl,_,rfl,_,rfl,⟨x,s,g,call,rfl,asked,post⟩,_,rfl,by simpa using e⟩
   ·refine⟨_,rfl,_,rfl,_,rfl,⟨x,s,g,call,rfl,asked,post⟩,_,rfl,?_⟩;have e:¬ ((numOf call:Nat):Int)<15:=by simpa using e
    omega
end
theorem akw {wd:List Int}{x:Vbexam.Call}(h:Rows.Form wd x):0<wd.length:=by
 rw[(acN h).1];exact Nat.succ_pos _
theorem ax.anE {c:Cs}{H:Hp}{x:Ix}{s:Vbexam.St}{gb:Addr}{od:Obj}{v:HO}(T:ax c H x s) (h:H gb=some (.frz od v)) (u:HO):ax c (upd H gb u) x s:=by
 have ne:∀ b o,H b=some o→(∀ o' v',o≠.frz o' v')→(upd H gb u) b=some o:=fun b o e n=>by
  rw[ae (cp e h (n _ _))];exact e
 have eP:=ne _ _ T.eP (fun _ _ z=>by cases z);have eB:=ne _ _ T.eB (fun _ _ z=>by cases z);refine⟨⟨?_,.inl eP,.inl eB,T.rd.nPB,T.rd.dy,T.rd.f9,T.rd.pnd,T.rd.bnd,fun i p a h1 h2=>?_,fun i p a h1 h2=>?_,ne _ _ T.rd.lH (fun _ _ z=>by cases z),T.rd.hlen,fun i v q h1 h2=>?_,T.rd.ok⟩,eP,eB⟩
 ·obtain⟨da,e⟩:=T.rd.st;exact⟨da,ne _ _ e fun _ _ z=>by cases z⟩
 ·obtain⟨da,z,e1,e2⟩:=T.rd.ps i p a h1 h2;exact⟨da,z,e1,ne _ _ e2 fun _ _ z=>by cases z⟩
 ·obtain⟨da,e2⟩:=T.rd.bs i p a h1 h2;exact⟨da,ne _ _ e2 fun _ _ z=>by cases z⟩
 ·obtain⟨t',l,e1,e2,e3⟩:=T.rd.hs i v q h1 h2;exact⟨t',l,e1,ne _ _ e2 (fun _ _ z=>by cases z),ne _ _ e3 fun _ _ z=>by cases z⟩
def ahh:PySem.W.Frag→Sp:=fun K vs H Q _=>∃ (cl:Addr) (l:List Int) (cs:List (List Int×Vbexam.Call)),vs = [.ref cl]∧SqL K H cl (l.map V.int)∧Rows.Reads l cs∧(Rows.told Vbexam.start cs).length≤10000000 ∧
 ∀ (H':Hp) (a:Addr),ao H H'→H' a=some (.lst ((Rows.told Vbexam.start cs).map V.int))→Q (.ref a) H'
section
variable {P:Program}{w:World}{K:PySem.W.Frag}{mg:Str→Option Value}{base:Heap}(T:Pg K mg)
theorem ag1 (M:Mo P w T):aP P w K mg base CX0 21 T.hC.f T.hC.fd ["calls"] (ahh K):=by
 refine T.hC.F.ok mQ (fun vs H Q E h=>?_) (fun cdv A outer s₀ H vs Q E hr h=>?_)
 ·obtain⟨cl,l,cs,rfl,_⟩:=h;rfl
 ·obtain⟨cl,l,cs,rfl,hcl,hrd,hlen,k⟩:=h;have hr1:bh 1 _:=hr.mono (by decide);have hr2:bh 2 _:=hr.mono (by decide);refine⟨_,ab (aJ (i:=1) mQ.nd rfl (Or.inl rfl) (ajv T.nr (adl T) hr2 rfl T.af3 T.gW.b .nil aE))
   (ab (aJ (i:=2) mQ.nd rfl (Or.inl rfl) (y1 T.lx (acf T) hr2 rfl T.ad9 T.gc.b .nil aE (aa (pv 0) af)))
   (ab (aJ (i:=3) mQ.nd rfl (Or.inl rfl) (aS af))
   (ab (k3 PassesOwn.never (fD (bJ (ny (pv 2) T.c7 T.sj (aag T) hr1 T.fj.b .nil aE) (fun _=>rfl)))
    (ab (nA (aJ (i:=4) mQ.nd rfl (Or.inl rfl) (aK (acg T M) hr rfl T.wC T.fA.F.kp T.fA.b .nil aE (aa (pv 1) (aa (pv 2) af)))))
    (ab (dZ (my PySem.F.plainAttrs_list PySem.F.slot_list_append PySem.F.type_list_append hU (pv 3) (aa (a6 bB (by rfl) T.cU PySem.boot_len (aa (pv 4) af)) af)))
    (ai (dZ (my PySem.F.plainAttrs_list PySem.F.slot_list_extend PySem.F.type_list_extend aid (pv 3) (aa (pv 4) af)))))))
   (ai (ak (pv 3)))))),?_⟩
  intro Sa ds hSa hds nds;refine⟨Sa,ds,rfl,ah,fun H1 x hxS S1 k1 ft1=>⟨rfl,?_⟩⟩;have sm1:ao H H1:=ao.made hSa hds k1;have ft:∀ b∈foot x,H b=none:=fun b hb=>by
   rcases ft1 b hb with e|e
   ·rw[e];exact hSa
   ·cases q:H b with
    | none=>rfl
    | some o=>
     have n1:b≠Sa:=az q hSa;have n2:b≠ds:=az q hds;rw[ae n1,ae n2,q] at e;cases e
  refine⟨_,rfl,?_⟩;intro rd dr hrd0 hdr ndr;refine⟨rd,dr,cl,rfl,ah,fun H2 h2 k2 _=>⟨rfl,?_⟩⟩;have sm2:ao H1 H2:=ao.made hrd0 hdr k2;refine⟨(by show 0≤sizeLine;decide),fun gb hgb=>?_⟩;have sm3:=bO (ao.refl H2) hgb (.lst []);have hrdH:H rd=none:=sm1.free hrd0;have hgbH:H gb=none:=(sm1.trans sm2).free hgb;have nrf:rd ∉ foot x:=fun m=>by
   obtain⟨o,q⟩:=S1.fQ m;rw[hrd0] at q;cases q
  have ngf:gb ∉ foot x:=fun m=>by
   obtain⟨o,q⟩:=(S1.keep sm2).fQ m;rw[hgb] at q;cases q
  have ngr:gb≠rd:=fun e=>by rw[e,h2] at hgb;cases hgb
  refine⟨fun m σ H'=>∃ (x':Ix) (s:Vbexam.St) (p:Nat) (done:List Int) (cs':List (List Int×Vbexam.Call)) (v4:Option V),σ = [some (.ref cl),some (.ref x'.S),some (.ref rd),some (.ref gb),v4]∧m=cs'.length∧Rows.Reads (l.drop p) cs'∧(∀ u,ax T.c (upd H' gb u) x' s)∧s.hands.length≤200∧H' rd=some (.ins T.c.Reader dr (rF cl p))∧H' gb=some (.lst (done.map V.int))∧rd ∉ foot x'∧gb ∉ foot x'∧(∀ b∈foot x',H b=none)∧ao H H'∧done++Rows.told s cs'=Rows.told Vbexam.start cs,
   ⟨cs.length,x,Vbexam.start,0,[],cs,none,?_,rfl,hrd,fun u=>by rw[b8];exact S1.keep (sm2.trans (bO (ao.refl H2) hgb u)),Nat.zero_le _,?_,ah,nrf,ngf,ft,(sm1.trans sm2).trans sm3,rfl⟩,?_⟩
  ·rw[hxS];rfl
  ·rw[ae ngr.symm];exact h2
  rintro m σ H' ⟨x',s,p,done,cs',v4,rfl,rfl,hR,S,hh,hrd',hgb',n1,n2,ft',sm,hd⟩;have hcl':=ao.seq sm hcl;refine⟨_,rfl,rd,dr,_,rfl,hrd',rfl,rd,dr,cl,p,l,rfl,hrd',hcl',_,rfl,?_⟩;generalize hdr':l.drop p=rest at hR;cases hR with
  | nil=>
   have hp:l.length≤p:=by
    have:=congrArg List.length hdr';rw[List.length_drop] at this;have:l.length-p=0:=this;omega
   rw[decide_eq_true hp];refine cR ?_;have hd:done=Rows.told Vbexam.start cs:=by
    rw[← hd];exact(List.append_nil _).symm
   rw[hd] at hgb';exact⟨_,rfl,k H' gb sm hgb'⟩
  | @cons wd tl call cs2 hform hreads=>
   have hwl:=akw hform;have hlen2:l.length-p=wd.length+tl.length:=by
    have:=congrArg List.length hdr';rw[List.length_drop,List.length_append] at this;exact this
   have hp:¬ l.length≤p:=by omega
   rw[decide_eq_false hp];refine cS ?_;have hat:∀ i,i<wd.length→l[p+i]?=wd[i]?:=fun i hi=>by
    have:=congrArg (fun z=>z[i]?) hdr';simp only[List.getElem?_drop] at this;rw[this,List.getElem?_append_left hi]
   have hrest:l.drop (p+wd.length)=tl:=by
    rw[← List.drop_drop,hdr',List.drop_left]
   have etold:Rows.told s ((wd,call)::cs2)=((Vbexam.step s call).2.length:Int)::(Vbexam.step s call).2++Rows.told (Vbexam.step s call).1 cs2:=rfl;have hsz:done.length+(1+(Vbexam.step s call).2.length)≤10000000:=by
    have:=congrArg List.length hd;rw[etold,List.length_append,List.length_append,List.length_cons] at this;omega
   refine⟨fun σ' H''=>∃ (x':Ix) (s:Vbexam.St) (p:Nat) (done:List Int) (v4:Option V),σ' = [some (.ref cl),some (.ref x'.S),some (.ref rd),some (.ref gb),v4]∧Rows.Reads (l.drop p) cs2∧(∀ u,ax T.c (upd H'' gb u) x' s)∧s.hands.length≤200∧H'' rd=some (.ins T.c.Reader dr (rF cl p))∧H'' gb=some (.lst (done.map V.int))∧rd ∉ foot x'∧gb ∉ foot x'∧(∀ b∈foot x',H b=none)∧ao H H''∧done++Rows.told s cs2=Rows.told Vbexam.start cs,
    fun σ' H'' ⟨x'',s'',p'',d'',v'',q1,q⟩=>⟨cs2.length,Nat.lt_succ_self _,x'',s'',p'',d'',cs2,v'',q1,rfl,q⟩,?_⟩
   refine⟨gb,_,hgb',trivial,fun od=>?_⟩;have SL:=S (.frz od (.lst (done.map V.int)));have hrdL:(upd H' gb (.frz od (.lst (done.map V.int)))) rd=some (.ins T.c.Reader dr (rF cl p)):=by rw[ae ngr.symm];exact hrd'
   have hgbL:(upd H' gb (.frz od (.lst (done.map V.int)))) gb=some (.frz od (.lst (done.map V.int))):=ah;have smL:ao H (upd H' gb (.frz od (.lst (done.map V.int)))):=fun b o e=>by rw[ae (az e hgbH)];exact sm b o e
   have frL:∀ b,(upd H' gb (.frz od (.lst (done.map V.int)))) b=none→H' b=none∧b≠gb:=fun b e=>by
    by_cases z:b=gb
    ·rw[z,ah] at e;cases e
    ·rw[ae z] at e;exact⟨e,z⟩
   have hclL:=ao.seq smL hcl;show(afa _ _) _ _ (upd H' gb (.frz od (.lst (done.map V.int))));generalize upd H' gb (.frz od (.lst (done.map V.int)))=HL at SL hrdL hgbL smL frL hclL ⊢;refine⟨_,rfl,_,rfl,x',s,rd,dr,cl,p,l,wd,call,rfl,SL,hh,hrdL,hclL,n1,hform,hat,fun H3 x3 a S3 eS hrd3 kp3 old3 haL ha3 naf=>?_⟩;obtain⟨ha,nag⟩:=frL a haL;have nrf3:rd ∉ foot x3:=fun m=>by
    rcases old3 rd m with q|q
    ·exact n1 q
    ·rw[hrdL] at q;cases q
   have ngf3:gb ∉ foot x3:=fun m=>by
    rcases old3 gb m with q|q
    ·exact n2 q
    ·rw[hgbL] at q;cases q
   have hgb3L:H3 gb=some (.frz od (.lst (done.map V.int))):=kp3 gb _ hgbL n2 ngr;have sm3':ao H H3:=fun b o e=>kp3 b o (smL b o e) (fun m=>by rw[ft' b m] at e;cases e) (az e hrdH);have big:∀ {n:Nat},n≤10000000→n<sizeLine:=fun h=>Nat.lt_of_le_of_lt h (by rw[sizeLine_eq];decide);refine⟨hgb3L,?_⟩;have hgb3:(upd H3 gb (.lst (done.map V.int))) gb=some (.lst (done.map V.int)):=ah;have ha3':(upd H3 gb (.lst (done.map V.int))) a=some (.lst ((Vbexam.step s call).2.map V.int)):=by rw[ae nag];exact ha3
   refine⟨_,rfl,.inl ⟨rfl,_,SqL.of hgb3⟩,_,rfl,a,_,rfl,.inl (SqL.of ha3'),gb,_,_,rfl,rfl,hgb3,big (by rw[List.length_map];omega),?_⟩;rw[List.length_map,b8];have hgb4:(upd H3 gb (.lst (done.map V.int++[V.int ((Vbexam.step s call).2.length:Int)]))) gb=some (.lst (done.map V.int++[V.int ((Vbexam.step s call).2.length:Int)])):=ah;have ha4:(upd H3 gb (.lst (done.map V.int++[V.int ((Vbexam.step s call).2.length:Int)]))) a=some (.lst ((Vbexam.step s call).2.map V.int)):=by rw[ae nag];exact ha3
   refine⟨_,rfl,.inl ⟨rfl,_,SqL.of hgb4⟩,_,rfl,gb,a,_,_,rfl,rfl,hgb4,ha4,?_,?_⟩
   ·refine Nat.le_of_lt (big ?_);rw[List.length_append,List.length_map,List.length_map];show done.length+1+_≤_;omega
   rw[b8];have S4:∀ u,ax T.c (upd (upd H3 gb (.lst ((done.map V.int++[V.int ((Vbexam.step s call).2.length:Int)])++(Vbexam.step s call).2.map V.int))) gb u) x3 (Vbexam.step s call).1:=fun u=>by
    rw[b8];exact S3.anE hgb3L u
   refine⟨x3,(Vbexam.step s call).1,p+wd.length,done++(((Vbexam.step s call).2.length:Int)::(Vbexam.step s call).2),_,by rw[eS];rfl,by rw[hrest];exact hreads,S4,ahl call hh,?_,?_,nrf3,ngf3,fun b hb=>?_,fun b o e=>?_,?_⟩
   ·rw[ae ngr.symm];exact hrd3
   ·rw[ah,List.map_append,List.map_cons,List.append_assoc];rfl
   ·rcases old3 b hb with q|q
    ·exact ft' b q
    ·exact smL.free q
   ·rw[ae (az e hgbH)];exact sm3' b o e
   ·rw[← hd,etold,List.append_assoc]
end
def Ent (w:World) (kv:Key×V) (e:DictEntry):Prop:=n9 kv.1 e.key=true∧e.hash=alN w kv.1∧RelV kv.2 e.val
theorem jX.mk' {P:Program}{w:World}{K:PySem.W.Frag}{a:Addr}{es:Array DictEntry}{ep:Nat}{kvs:List (Key×V)}(sys:(a == sysModules)=false) (l:K.lookup a=some ⟨.type "dict",none,.dict es ep,#[]⟩)
  (h:Paired (Ent w) kvs es.toList) (nd:(kvs.map (·.1)).Nodup):jX P w K a kvs:=by
 have key:∀ (kvs:List (Key×V)) (es:List DictEntry),Paired (Ent w) kvs es→∃ vs:List (Key×Value),Pairs (bH P w) es vs∧KV kvs vs∧vs.map (·.1)=kvs.map (·.1)∧∀ e∈es,∃ k,(bH P w).is k e.key=true∧e.hash=(bH P w).hash k:=by
  intro kvs es h
  induction h with
  | nil=>exact⟨[],.nil,.nil,rfl,fun e he=>by cases he⟩
  | @cons kv e kvs es h1 h2 ih=>
   obtain⟨vs,p,q,r,t⟩:=ih;refine⟨(kv.1,e.val)::vs,.cons h1.1 rfl p,.cons ⟨rfl,h1.2.2⟩ q,by rw[List.map_cons,List.map_cons,r],fun e' he=>?_⟩;rcases List.mem_cons.mp he with z|z
   ·rw[z];exact⟨kv.1,h1.1,h1.2.1⟩
   ·exact t e' z
 obtain⟨vs,p,q,r,t⟩:=key kvs es.toList h;exact⟨sys,_,es,ep,vs,l,⟨rfl,rfl,rfl⟩,rfl,fun e he=>t e (Array.mem_toList_iff.mpr he),p,by rw[r];exact nd,q⟩
theorem bV.mk {K:PySem.W.Frag}{a:Addr}{xs:List V}{its:Array Value}{n:Nat}(l:K.lookup a=some ⟨.type "tuple",none,.seq its n,#[]⟩) (z:its.size≤sizeLine) (v:Vals xs its.toList):bV K a xs:=⟨_,its,n,l,rfl,rfl,z,v⟩
theorem am8 {P:Program}{w:World}{K:PySem.W.Frag}{h:Heap}{mg:Str→Option Value}(X:K.In h) (G:h.Ns mainGlobals mg) (T:Pg K mg)
  {rO:Addr} {aaX:Array DictEntry} {agE:Nat}
  (xn:PySem.W.nsIn K mainGlobals "CHANGES" = some (some (.ref rO)))
  (x4:K.lookup rO=some ⟨.type "dict",none,.dict aaX agE,#[]⟩)
  (yx:(rO == sysModules)=false)
  (yg:Paired (Ent w) [(Sum.inl 0,.ref T.il.f),(Sum.inl 1,.ref T.dG.f),(Sum.inl 2,.ref T.pR.f),(Sum.inl 3,.ref T.md.f),(Sum.inl 4,.ref T.fJ.f),(Sum.inl 5,.ref T.pQ.f),(Sum.inl 6,.ref T.mf.f),(Sum.inl 7,.ref T.me.f),(Sum.inl 8,.ref T.ip.f),(Sum.inl 9,.ref T.fL.f),(Sum.inl 10,.ref T.fK.f),(Sum.inl 11,.ref T.ma.f),(Sum.inl 12,.ref T.gr.f),(Sum.inl 13,.ref T.eX.f),(Sum.inl 14,.ref T.gx.f)] aaX.toList)
  {pP:Addr} {zh:Array DictEntry} {afq:Nat}
  (uV:PySem.W.nsIn K mainGlobals "TELLINGS" = some (some (.ref pP)))
  (vy:K.lookup pP=some ⟨.type "dict",none,.dict zh afq,#[]⟩)
  (vK:(pP == sysModules)=false)
  (vG:Paired (Ent w) [(Sum.inl 15,.ref T.eF.f),(Sum.inl 16,.ref T.fM.f),(Sum.inl 17,.ref T.cV.f),(Sum.inl 18,.ref T.eZ.f),(Sum.inl 19,.ref T.ek.f),(Sum.inl 23,.ref T.eA.f),(Sum.inl 24,.ref T.e8.f),(Sum.inl 25,.ref T.eD.f)] zh.toList)
  {nZ:Addr} {xG:Array DictEntry} {ad2:Nat}
  (sR:PySem.W.nsIn K mainGlobals "MATCHINGS" = some (some (.ref nZ)))
  (tx:K.lookup nZ=some ⟨.type "dict",none,.dict xG ad2,#[]⟩)
  (tN:(nZ == sysModules)=false)
  (tL:Paired (Ent w) [(Sum.inl 20,.ref T.eY.f),(Sum.inl 21,.ref T.e7.f),(Sum.inl 22,.ref T.eC.f)] xG.toList)
  {nY:Addr} {xF:Array DictEntry} {ad1:Nat}
  (sQ:PySem.W.nsIn K mainGlobals "ARGUMENTS" = some (some (.ref nY)))
  (tw:K.lookup nY=some ⟨.type "dict",none,.dict xF ad1,#[]⟩)
  (tM:(nY == sysModules)=false)
  {wL wM wN wO wQ wR wU wV wW wX uq ur uv uw ux uy uz uA uB uC uD uE uF uG uH uI:Addr}
  (tK:Paired (Ent w) [(Sum.inl 0,.ref wL),(Sum.inl 1,.ref wM),(Sum.inl 2,.ref wN),(Sum.inl 3,.ref wO),(Sum.inl 4,.ref wQ),(Sum.inl 5,.ref wR),(Sum.inl 6,.ref wU),(Sum.inl 7,.ref wV),(Sum.inl 8,.ref wW),(Sum.inl 9,.ref wX),(Sum.inl 10,.ref uq),(Sum.inl 11,.ref ur),(Sum.inl 12,.ref uv),(Sum.inl 13,.ref uw),(Sum.inl 14,.ref ux),(Sum.inl 15,.ref uy),(Sum.inl 16,.ref uz),(Sum.inl 17,.ref uA),(Sum.inl 18,.ref uB),(Sum.inl 19,.ref uC),(Sum.inl 20,.ref uD),(Sum.inl 21,.ref uE),(Sum.inl 22,.ref uF),(Sum.inl 23,.ref uG),(Sum.inl 24,.ref uH),(Sum.inl 25,.ref uI)] xF.toList)
  (pz:bV K wL ((names 0).map V.str))
  (pA:bV K wM ((names 1).map V.str))
  (pB:bV K wN ((names 2).map V.str))
  (pC:bV K wO ((names 3).map V.str))
  (pD:bV K wQ ((names 4).map V.str))
  (pE:bV K wR ((names 5).map V.str))
  (pG:bV K wU ((names 6).map V.str))
  (pH:bV K wV ((names 7).map V.str))
  (pI:bV K wW ((names 8).map V.str))
  (pJ:bV K wX ((names 9).map V.str))
  (nE:bV K uq ((names 10).map V.str))
  (nF:bV K ur ((names 11).map V.str))
  (nG:bV K uv ((names 12).map V.str))
  (nH:bV K uw ((names 13).map V.str))
  (nI:bV K ux ((names 14).map V.str))
  (nJ:bV K uy ((names 15).map V.str))
  (nL:bV K uz ((names 16).map V.str))
  (nM:bV K uA ((names 17).map V.str))
  (nN:bV K uB ((names 18).map V.str))
  (nO:bV K uC ((names 19).map V.str))
  (nP:bV K uD ((names 20).map V.str))
  (nQ:bV K uE ((names 21).map V.str))
  (nR:bV K uF ((names 22).map V.str))
  (nS:bV K uG ((names 23).map V.str))
  (nT:bV K uH ((names 24).map V.str))
  (nU:bV K uI ((names 25).map V.str))
  {k8:Addr}
  (kK:PySem.W.nsIn K mainGlobals "OF_GONE_PIECES" = some (some (.ref k8)))
  (k7:bV K k8 [.int 15,.int 18,.int 23])
  {vf:Addr} {acE:Array DictEntry} {ahI:Nat}
  (zV:PySem.W.nsIn K mainGlobals "RANGES" = some (some (.ref vf)))
  (aab:K.lookup vf=some ⟨.type "dict",none,.dict acE ahI,#[]⟩)
  (aaw:(vf == sysModules)=false)
  {abL abM abN abO abP abQ abR abS abT abU zN:Addr}
  (aam:Paired (Ent w) [(Sum.inr "k",.ref abL),(Sum.inr "n",.ref abM),(Sum.inr "b",.ref abN),(Sum.inr "o",.ref abO),(Sum.inr "p",.ref abP),(Sum.inr "q",.ref abQ),(Sum.inr "mass",.ref abR),(Sum.inr "mark",.ref abS),(Sum.inr "kept",.ref abT),(Sum.inr "minutes",.ref abU),(Sum.inr "least",.ref zN)] acE.toList)
  (v8:bV K abL [.int 0,.int 9999])
  (v9:bV K abM [.int 0,.int 999999])
  (wa:bV K abN [.int 1,.int 10])
  (wb:bV K abO [.int 1,.int 10])
  (wc:bV K abP [.int 0,.int 5])
  (we:bV K abQ [.int 0,.int 5])
  (wg:bV K abR [.int 1,.int 1000000000])
  (wj:bV K abS [.int 1,.int 9999])
  (wk:bV K abT [.int 0,.int 1])
  (wm:bV K abU [.int 1,.int 100000])
  (tW:bV K zN [.int 0,.int 1000000000]):Mo P w T:=
 ⟨⟨nY,_,PySem.W.mg_of X G sQ,jX.mk' tM tw tK (show([Sum.inl 0,Sum.inl 1,Sum.inl 2,Sum.inl 3,Sum.inl 4,Sum.inl 5,Sum.inl 6,Sum.inl 7,Sum.inl 8,Sum.inl 9,Sum.inl 10,Sum.inl 11,Sum.inl 12,Sum.inl 13,Sum.inl 14,Sum.inl 15,Sum.inl 16,Sum.inl 17,Sum.inl 18,Sum.inl 19,Sum.inl 20,Sum.inl 21,Sum.inl 22,Sum.inl 23,Sum.inl 24,Sum.inl 25]:List Key).Nodup by decide),fun n hn=>match n,hn with|0,_=>⟨_,rfl,pz⟩|1,_=>⟨_,rfl,pA⟩|2,_=>⟨_,rfl,pB⟩|3,_=>⟨_,rfl,pC⟩|4,_=>⟨_,rfl,pD⟩|5,_=>⟨_,rfl,pE⟩|6,_=>⟨_,rfl,pG⟩|7,_=>⟨_,rfl,pH⟩|8,_=>⟨_,rfl,pI⟩|9,_=>⟨_,rfl,pJ⟩|10,_=>⟨_,rfl,nE⟩|11,_=>⟨_,rfl,nF⟩|12,_=>⟨_,rfl,nG⟩|13,_=>⟨_,rfl,nH⟩|14,_=>⟨_,rfl,nI⟩|15,_=>⟨_,rfl,nJ⟩|16,_=>⟨_,rfl,nL⟩|17,_=>⟨_,rfl,nM⟩|18,_=>⟨_,rfl,nN⟩|19,_=>⟨_,rfl,nO⟩|20,_=>⟨_,rfl,nP⟩|21,_=>⟨_,rfl,nQ⟩|22,_=>⟨_,rfl,nR⟩|23,_=>⟨_,rfl,nS⟩|24,_=>⟨_,rfl,nT⟩|25,_=>⟨_,rfl,nU⟩|j+26,h=>absurd h (by omega)⟩,
  ⟨vf,_,PySem.W.mg_of X G zV,jX.mk' aaw aab aam (show([Sum.inr "k",Sum.inr "n",Sum.inr "b",Sum.inr "o",Sum.inr "p",Sum.inr "q",Sum.inr "mass",Sum.inr "mark",Sum.inr "kept",Sum.inr "minutes",Sum.inr "least"]:List Key).Nodup by decide),fun q hq=>by
   simp only[dC,List.mem_cons,List.not_mem_nil,or_false] at hq;rcases hq with rfl|rfl|rfl|rfl|rfl|rfl|rfl|rfl|rfl|rfl|rfl
   ·exact⟨_,rfl,v8⟩
   ·exact⟨_,rfl,v9⟩
   ·exact⟨_,rfl,wa⟩
   ·exact⟨_,rfl,wb⟩
   ·exact⟨_,rfl,wc⟩
   ·exact⟨_,rfl,we⟩
   ·exact⟨_,rfl,wg⟩
   ·exact⟨_,rfl,wj⟩
   ·exact⟨_,rfl,wk⟩
   ·exact⟨_,rfl,wm⟩
   ·exact⟨_,rfl,tW⟩
   ⟩,
  ⟨k8,PySem.W.mg_of X G kK,k7⟩,
  ⟨rO,_,PySem.W.mg_of X G xn,jX.mk' yx x4 yg (show([Sum.inl 0,Sum.inl 1,Sum.inl 2,Sum.inl 3,Sum.inl 4,Sum.inl 5,Sum.inl 6,Sum.inl 7,Sum.inl 8,Sum.inl 9,Sum.inl 10,Sum.inl 11,Sum.inl 12,Sum.inl 13,Sum.inl 14]:List Key).Nodup by decide),rfl⟩,
  ⟨pP,_,PySem.W.mg_of X G uV,jX.mk' vK vy vG (show([Sum.inl 15,Sum.inl 16,Sum.inl 17,Sum.inl 18,Sum.inl 19,Sum.inl 23,Sum.inl 24,Sum.inl 25]:List Key).Nodup by decide),rfl⟩,
  ⟨nZ,_,PySem.W.mg_of X G sR,jX.mk' tN tx tL (show([Sum.inl 20,Sum.inl 21,Sum.inl 22]:List Key).Nodup by decide),rfl⟩⟩
theorem ai6 {K:PySem.W.Frag}{H:Hp}{ad:Addr}{ns:List Int}(hs:SqL K H ad (ns.map V.int)) (hask:PyVbexam.answers_asked ns=true):ahh K [.ref ad] H (fun v H2=>L2.Dw K H2 v (.list ((PyVbexam.answers ns).map PySem.W.WData.int))) fun _ _ _=>False:=by
 obtain⟨cs,R,_,ea,hl⟩:=Rows.afj hask;exact⟨ad,ns,cs,rfl,hs,R,hl,fun H2 a _ ha=>by rw[ea];exact .lst (SqL.of ha) (L2.af1 _)⟩
end My
namespace PySem.W.Fast
def tw4540633651543482953:=0
def tw610319436405744832:=0
def tw13719776770594184461:=0
def tw18239572167645355063:=0
def tw526354311911222113:=0
def tw12061898027446780982:=0
def tw3816906542695571997:=0
def tw16605340331252652912:=0
def tw14360618575939212305:=0
def tw18154707153092404010:=0
def tw7516141154825388799:=0
def tw7545479326549641506:=0
def tw16337561073684589130:=0
def tw5618384455847613699:=0
def tw1871984538721068945:=0
def tw729535942492169394:=0
def tw5223321733937271817:=0
def tw17674868472442690125:=0
def tw3273318272119173620:=0
def tw14370672932160822:=0
def tw9859259036087673549:=0
def tw10484391150248880960:=0
def tw5970874331271885905:=0
def tw10235196011797221593:=0
def tw10444526221015867958:=0
def tw3580622306511036524:=0
def tw1872220675084969039:=0
def tw415127336891256157:=0
def tw16906174091439302206:=0
def tw11737646439735751029:=0
def tw8036326357867387952:=0
def tw8386333362282872134:=0
def tw1867321058683136858:=0
def tw12475717916199014421:=0
def tw16877839179977450721:=0
def tw14640991136870933186:=0
def tw13886242295171564298:=0
def tw5839914349763158596:=0
def tw17423047565998461600:=0
def tw7096344509405825905:=0
def tw9966690051440837442:=0
def tw14927347374733599979:=0
def tw3806485054024029726:=0
def tw10855234575983063258:=0
def tw17038439019074342863:=0
def tw11415768603383199366:=0
def tw234524012559272578:=0
def tw16886791526914853059:=0
def tw4680365292698683374:=0
def tw5091938517097542922:=0
def tw14304158846107603587:=0
def tw11896764076170479949:=0
def tw10173691520294037520:=0
def tw9425138198374478944:=0
def tw17645473802881651099:=0
def tw12220144150616389671:=0
def tw17205867525773478978:=0
def tw184180725682404850:=0
def tw78837369266138401:=0
def tw6635547501827886501:=0
def tw4462189430238526086:=0
def tw18180118810151685549:=0
def tw16431015669925752247:=0
def tw15712444310998591483:=0
def tw9063854001660109620:=0
def tw9775469501448350447:=0
def tw4758800979063266978:=0
def tw18063708475994537833:=0
def tw8822165849529694636:=0
def tw10353230159772699595:=0
def tw12696731309662724041:=0
def tw5965971701706016889:=0
def tw13165661576686668250:=0
def tw11799838987398851337:=0
def tw15222994798548618660:=0
def tw17971602924294100214:=0
def tw7275695299284357046:=0
def tw8319547388946978388:=0
def tw521675796184552578:=0
def tw4396873061104168158:=0
def tw5040467784385651574:=0
def tw515848996695098664:=0
def tw16773041004362926876:=0
def tw10204864459158828860:=0
def tw11804317269054138679:=0
def tw17137234655214115035:=0
def tw5327132541598163572:=0
def tw7327789110388910035:=0
def tw1863798818668749756:=0
def tw9973426183848342130:=0
def tw12270363561026546659:=0
def tw4396458150076561501:=0
def tw16304188011053595971:=0
def tw11570000747531643346:=0
def tw3152345218500668173:=0
def tw10404009232806768444:=0
def tw9808874690568981317:=0
def tw7387796118084344129:=0
def tw17120850111027269339:=0
def tw6154862141737035526:=0
def tw7467571226288356690:=0
def tw17827790738354904315:=0
def tw15499454039353244566:=0
def tw3062272393584628036:=0
def tw13151831704878423351:=0
def tw16619743452218714807:=0
def tw12563042503617754036:=0
def tw2292637811856919386:=0
def tw17463331255803829949:=0
def tw6554765654213338263:=0
def tw17819384502300777109:=0
def tw232592480457220428:=0
def tw14883445873936175947:=0
def tw6271400346460489469:=0
def tw17096535078532540105:=0
def tw1659223403270860557:=0
def tw13806780742393959514:=0
def tw4808076150311284297:=0
def tw715678328259559190:=0
def tw10433015506078646980:=0
def tw2201256175589581125:=0
def tw9628225770273938707:=0
def tw272365063709438757:=0
def tw5973012537894246083:=0
def tw12538884545109298751:=0
def tw4120672691211354613:=0
def tw7483735026826813695:=0
def tw14841406305066323174:=0
def tw14640317613437923802:=0
def tw13622170389693444182:=0
def tw3200576472651017832:=0
def tw7048500177799103997:=0
def tw12791756768548736578:=0
def tw6042795833936257346:=0
def tw13121818635737051460:=0
def tw1096287638805031100:=0
def tw5457450443260556577:=0
def tw7212901419108155355:=0
def tw14078931920642599265:=0
def tw7536334218830387215:=0
def tw9242461558894857795:=0
def tw632037064957098191:=0
def tw579398388641473269:=0
def tw11720631037498460568:=0
def tw327635465475608658:=0
def tw2112550432124346532:=0
def tw1416727546298930369:=0
def tw11823674473938534722:=0
def tw4596978854348147543:=0
def tw14297353905191671515:=0
def tw5583882959672963986:=0
def tw18230830367071123851:=0
def tw9191677789030816449:=0
def tw11987214529728811312:=0
def tw7359900718668949525:=0
def tw8182650158417073204:=0
def tw674855160119309210:=0
def tw10817900225419344904:=0
def tw913891675449003475:=0
def tw3975082783408291406:=0
def tw2743877476136806682:=0
def tw7968218234835769825:=0
def tw6893097864976443351:=0
def tw541792910559994548:=0
def tw4504732025304510714:=0
def tw12101104717787103372:=0
def tw13076843239810609432:=0
def tw16887453672072388069:=0
def tw3510079496694146772:=0
def tw8090446595983494973:=0
end PySem.W.Fast
theorem My.amI {P:PySem.Program}{w:PySem.World}{K:PySem.W.Frag}{h:PySem.Heap}{mg:PySem.Str→Option PySem.Value}{C:Prop}(_:K.In h) (T:My.Pg K mg) (M:My.Mo P w T) (k:∀ T:My.Pg K mg,My.Mo P w T→C):C:=k T M
open PySem PySem.W PyProof.Rows
set_option maxRecDepth 100000 in
set_option maxHeartbeats 0 in
theorem PySem.Challenge.cw_rocksamples_s01_answers_holds : PySem.Challenge.rw_rocksamples_s01_answers.Holds := by
 w_on;k_headS;(case hw=>exact⟨[.list [.int 25,.int 1]],by decide +kernel,by decide +kernel⟩)
 k_fillS
 refine L2.ahu (r:=PySem.Challenge.rw_rocksamples_s01_answers) (k:=21) (CX:=L2.CX0) (ps:=["calls"]) (sp:=My.ahh) (by decide +kernel) rfl rfl ⟨rfl,by decide,by decide⟩ (fun w h Y=>PySem.W.kIn_of Y) ?F ?S (fun _ _ _ _ z=>z)
 case F=>
  intro w mg fa h Y KX G hmg;refine My.amI (P:=PySem.Challenge.rw_rocksamples_s01_answers.prog) (w:=w) (mg:=mg) KX ?bT ?bM ?bk
  case bT=>
   refine' My.anb KX G ?zT ?aaq ?z7 ?aat ?aaz ?kX ?z9 ?b7 ?cX ?eN ?bz ?dI ?dH ?cE ?bc ?bN ?cF ?adM ?aeH ?aej ?aeM ?aeX ?ue ?aeo ?bf ?cq ?bb ?dh ?fh ?zU ?aar ?z8 ?aau ?aaA ?nr ?aaa ?br ?cG ?aO ?aU ?ck ?cZ ?xm ?ym ?xW ?yq ?yC ?lx ?xX ?fo ?gj ?fq ?cM ?cY ?uY ?uN ?qz ?qY ?qj ?uT ?vw ?uK ?qA ?qZ ?qk ?j0 ?ka ?gP ?jl ?jB ?gm ?ic ?iC ?fH ?lT ?mw ?i9 ?ia ?iA ?fF ?iY ?i4 ?f6 ?lS ?mv ?i8 ?jY ?j8 ?gN ?kL ?kW ?hZ ?m5 ?nh ?jJ ?jm ?jC ?gn ?jZ ?j9 ?gO ?ib ?iB ?fG ?zX ?zQ ?oX ?oQ ?ags ?agq ?adR ?adG ?uZ ?uO ?agr ?agp ?adT ?adI ?adS ?adH ?zY ?zR ?u5 ?uR ?u1 ?uP ?j1 ?jV ?adQ ?adF ?xt ?xg ?sU ?sJ ?xy ?xk ?sT ?sI ?qB ?ql ?lU ?lF ?lV ?lG ?xo ?xa ?l6 ?lM ?j2 ?jW ?oW ?oP ?gV ?gU ?sV ?sL ?m6 ?mZ ?xw ?xh ?kQ ?kJ ?kP ?kI ?xq ?xc ?kO ?kH ?iZ ?iX ?uX ?uM ?qC ?qm ?u4 ?uQ ?adP ?adE ?xr ?xf ?sS ?sH ?qH ?qu ?u7 ?uS ?lY ?lK ?sX ?sN ?qD ?qo ?sW ?sM ?sY ?sO ?qF ?qr ?qE ?qp ?sZ ?sP ?qG ?qt ?jn ?jh ?lZ ?lL ?adU ?adJ ?oT ?o5 ?oM ?lR ?mq ?i7 ?h9 ?iz ?fE ?jj ?jA ?gk ?gB ?gH ?eW ?xx ?xj ?uW ?uL ?lX ?lJ ?oV ?oO ?lW ?lI ?kN ?kG ?oU ?oN ?xp ?xb ?oS ?qw ?lQ ?oR ?uU ?jk ?adO ?adN ?zW ?abX ?qy ?lP ?lN ?qx ?lO ?vc ?yQ ?iU ?cU ?qI ?jL ?jM ?jr ?rJ
   case zT|aaq|z7|aat|aaz|kX|z9|b7|cX|eN|bz|dI|dH|cE|bc|bN|cF|adM|aeH|aej|aeM|aeX|ue|aeo|cq|bb|dh|fh|zU|aar|z8|aau|aaA|nr|aaa|aO|aU|ck|cZ|xm|ym|xW|yq|yC|lx|xX|cM|cY|uY|qz|qY|uT|vw|qA|qZ|j0|ka|jl|jB|ic|iC|lT|mw|ia|iA|iY|i4|lS|mv|jY|j8|kL|kW|m5|nh|jm|jC|jZ|j9|ib|iB|zX|oX|ags|adR|uZ|agr|adT|adS|zY|u5|u1|j1|adQ|xt|sU|xy|sT|qB|lU|lV|xo|l6|j2|oW|gV|sV|m6|xw|kQ|kP|xq|kO|iZ|uX|qC|u4|adP|xr|sS|qH|u7|lY|sX|qD|sW|sY|qF|qE|sZ|qG|jn|lZ|adU|oT|o5|lR|mq|h9|iz|jj|jA|gB|gH|xx|uW|lX|oV|lW|kN|oU|xp|oS|qw|lQ|oR|uU|jk|adO|adN|zW|abX|qy|lP|lN|qx|lO|vc|yQ|iU|cU|qI|jL|jM|jr|rJ=>k_is
   case bf|br|cG|fo|gj|fq=>decide
   case uN|qj|uK|qk|gP|gm|fH|i9|fF|f6|i8|gN|hZ|jJ|gn|gO|fG|zQ|oQ|agq|adG|uO|agp|adI|adH|zR|uR|uP|jV|adF|xg|sJ|xk|sI|ql|lF|lG|xa|lM|jW|oP|gU|sL|mZ|xh|kJ|kI|xc|kH|iX|uM|qm|uQ|adE|xf|sH|qu|uS|lK|sN|qo|sM|sO|qr|qp|sP|qt|jh|lL|adJ|oM|i7|fE|gk|eW|xj|uL|lJ|oO|lI|kG|oN|xb=>exact My.aV.mk' (by k_is) (by k_is) (by k_is)
  case bM=>
   refine' My.am8 KX G _ ?xn ?x4 ?yx ?yg ?uV ?vy ?vK ?vG ?sR ?tx ?tN ?tL ?sQ ?tw ?tM ?tK ?pz ?pA ?pB ?pC ?pD ?pE ?pG ?pH ?pI ?pJ ?nE ?nF ?nG ?nH ?nI ?nJ ?nL ?nM ?nN ?nO ?nP ?nQ ?nR ?nS ?nT ?nU ?kK ?k7 ?zV ?aab ?aaw ?aam ?v8 ?v9 ?wa ?wb ?wc ?we ?wg ?wj ?wk ?wm ?tW
   case xn|x4|uV|vy|sR|tx|sQ|tw|kK|zV|aab=>k_is
   case yx|vK|tN|tM|aaw=>decide
   case yg=>exact .cons ⟨rfl,rfl,rfl⟩ (.cons ⟨rfl,rfl,rfl⟩ (.cons ⟨rfl,rfl,rfl⟩ (.cons ⟨rfl,rfl,rfl⟩ (.cons ⟨rfl,rfl,rfl⟩ (.cons ⟨rfl,rfl,rfl⟩ (.cons ⟨rfl,rfl,rfl⟩ (.cons ⟨rfl,rfl,rfl⟩ (.cons ⟨rfl,rfl,rfl⟩ (.cons ⟨rfl,rfl,rfl⟩ (.cons ⟨rfl,rfl,rfl⟩ (.cons ⟨rfl,rfl,rfl⟩ (.cons ⟨rfl,rfl,rfl⟩ (.cons ⟨rfl,rfl,rfl⟩ (.cons ⟨rfl,rfl,rfl⟩ (.nil)))))))))))))))
   case vG=>exact .cons ⟨rfl,rfl,rfl⟩ (.cons ⟨rfl,rfl,rfl⟩ (.cons ⟨rfl,rfl,rfl⟩ (.cons ⟨rfl,rfl,rfl⟩ (.cons ⟨rfl,rfl,rfl⟩ (.cons ⟨rfl,rfl,rfl⟩ (.cons ⟨rfl,rfl,rfl⟩ (.cons ⟨rfl,rfl,rfl⟩ (.nil))))))))
   case tL=>exact .cons ⟨rfl,rfl,rfl⟩ (.cons ⟨rfl,rfl,rfl⟩ (.cons ⟨rfl,rfl,rfl⟩ (.nil)))
   case tK=>exact .cons ⟨rfl,rfl,rfl⟩ (.cons ⟨rfl,rfl,rfl⟩ (.cons ⟨rfl,rfl,rfl⟩ (.cons ⟨rfl,rfl,rfl⟩ (.cons ⟨rfl,rfl,rfl⟩ (.cons ⟨rfl,rfl,rfl⟩ (.cons ⟨rfl,rfl,rfl⟩ (.cons ⟨rfl,rfl,rfl⟩ (.cons ⟨rfl,rfl,rfl⟩ (.cons ⟨rfl,rfl,rfl⟩ (.cons ⟨rfl,rfl,rfl⟩ (.cons ⟨rfl,rfl,rfl⟩ (.cons ⟨rfl,rfl,rfl⟩ (.cons ⟨rfl,rfl,rfl⟩ (.cons ⟨rfl,rfl,rfl⟩ (.cons ⟨rfl,rfl,rfl⟩ (.cons ⟨rfl,rfl,rfl⟩ (.cons ⟨rfl,rfl,rfl⟩ (.cons ⟨rfl,rfl,rfl⟩ (.cons ⟨rfl,rfl,rfl⟩ (.cons ⟨rfl,rfl,rfl⟩ (.cons ⟨rfl,rfl,rfl⟩ (.cons ⟨rfl,rfl,rfl⟩ (.cons ⟨rfl,rfl,rfl⟩ (.cons ⟨rfl,rfl,rfl⟩ (.cons ⟨rfl,rfl,rfl⟩ (.nil))))))))))))))))))))))))))
   case aam=>exact .cons ⟨rfl,rfl,rfl⟩ (.cons ⟨rfl,rfl,rfl⟩ (.cons ⟨rfl,rfl,rfl⟩ (.cons ⟨rfl,rfl,rfl⟩ (.cons ⟨rfl,rfl,rfl⟩ (.cons ⟨rfl,rfl,rfl⟩ (.cons ⟨rfl,rfl,rfl⟩ (.cons ⟨rfl,rfl,rfl⟩ (.cons ⟨rfl,rfl,rfl⟩ (.cons ⟨rfl,rfl,rfl⟩ (.cons ⟨rfl,rfl,rfl⟩ (.nil)))))))))))
   case pz|pA|nF|nG|k7=>exact My.bV.mk (by k_is) (by decide) (.cons ⟨_,rfl⟩ (.cons ⟨_,rfl⟩ (.cons ⟨_,rfl⟩ (.nil))))
   case pB|pE|pH|pJ|nE|nH|nP|nQ|nR|v8|v9|wa|wb|wc|we|wg|wj|wk|wm|tW=>exact My.bV.mk (by k_is) (by decide) (.cons ⟨_,rfl⟩ (.cons ⟨_,rfl⟩ (.nil)))
   case pC|pD|pG|pI|nI|nJ|nL|nM|nN|nO|nS|nT|nU=>exact My.bV.mk (by k_is) (by decide) (.cons ⟨_,rfl⟩ (.nil))
  case bk=>
   intro T M;have e:some (Value.ref fa)=some (.ref T.hC.f):=hmg.symm.trans T.acO;cases e;exact⟨T.hC.fd,T.hC.bt,fun base _ _=>My.ag1 T M⟩
 case S=>
  intro K H xs a hO hwi hask hx;cases hx with
  | cons h1 h2=>
   cases h2;cases h1 with
   | lst hs ha=>
    have e:=L2.af4 a.1 _ ha;subst e;exact My.ai6 hs hask
