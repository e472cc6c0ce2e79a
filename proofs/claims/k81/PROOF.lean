import PyProof.Rows.All
import Wide.All
import OpenK.AllK
import Wide.FinOn
import Lean
import PyProof.EqAt
import PyProof.EqKinds
import PyProof.TupleCall
import PyProof.StrOps2
import KE.KDictList
import PySem.Challenge.RW_timecourt_k81_machines_side_by_side
set_option Elab.async false
set_option linter.all false
set_option maxRecDepth 100000
namespace L2
open PySem PySem.Spec PyProof.Rows
abbrev Key:=Sum Int Str
def Vc:Key→Value→Bool
 | .inl k,v=>Value.isInt k v
 | .inr x,v=>Value.isStrOf x v
def keyH (w:World):Key→Int
 | .inl k=>hashInt k
 | .inr x=>hashStr w x
theorem Yu:∀ {k:Key}{v:Value},Vc k v=true→(∃ i t,k=Sum.inl i∧v=Value.int i t)∨(∃ x t,k=Sum.inr x∧v=Value.str x t)
 | .inl i,v,h=>by
  obtain ⟨t,e⟩:=Value.isInt_shape (k:=i) (v:=v) h
  exact .inl ⟨i,t,rfl,e⟩
 | .inr x,v,h=>by
  obtain ⟨t,e⟩:=Value.isStrOf_shape (x:=x) (v:=v) h
  exact .inr ⟨x,t,rfl,e⟩
theorem yk (i:Int) (t:Tok):Vc (.inl i) (.int i t)=true:=by simp [Vc,Value.isInt]
theorem Wq (x:Str) (t:Tok):Vc (.inr x) (.str x t)=true:=by simp [Vc,Value.isStrOf]
theorem key_ll (a b:Int):decide ((Sum.inl a:Key)=Sum.inl b)=(a == b):=by
 by_cases e:a=b
 ·subst e;simp
 ·have h:¬ (Sum.inl a:Key)=Sum.inl b:=fun q=>e (Sum.inl.inj q)
  rw [decide_eq_false h]
  exact (beq_eq_false_iff_ne.mpr e).symm
theorem key_rr (a b:Str):decide ((Sum.inr a:Key)=Sum.inr b)=decide (a=b):=by
 by_cases e:a=b
 ·subst e;simp
 ·have h:¬ (Sum.inr a:Key)=Sum.inr b:=fun q=>e (Sum.inr.inj q)
  rw [decide_eq_false h,decide_eq_false e]
theorem key_lr (a:Int) (b:Str):decide ((Sum.inl a:Key)=Sum.inr b)=false:=decide_eq_false (fun q=>nomatch q)
theorem key_rl (a:Str) (b:Int):decide ((Sum.inr a:Key)=Sum.inl b)=false:=decide_eq_false (fun q=>nomatch q)
def Zs (prog:Program) (w:World):PySem.KeyKind prog w Key where
 is:=Vc
 hash:=keyH w
 inj:=fun v a b ha hb=>by
  rcases Yu ha with ⟨i,t,rfl,rfl⟩ | ⟨x,t,rfl,rfl⟩
  ·rcases Yu hb with ⟨j,u,rfl,e⟩ | ⟨y,u,rfl,e⟩
   ·injection e with e1 _;rw [e1]
   ·exact nomatch e
  ·rcases Yu hb with ⟨j,u,rfl,e⟩ | ⟨y,u,rfl,e⟩
   ·exact nomatch e
   ·injection e with e1 _;rw [e1]
 byValue:=fun k v h=>by
  rcases Yu h with ⟨i,t,rfl,rfl⟩ | ⟨x,t,rfl,rfl⟩ <;> rfl
 pyHash:=fun hv h=>by
  rcases Yu hv with ⟨i,t,rfl,rfl⟩ | ⟨x,t,rfl,rfl⟩
  ·exact wpAny_pyHash_int h
  ·exact wpAny_pyHash_str h
 eqBool:=fun hu hv h=>by
  rcases Yu hu with ⟨i,t,rfl,rfl⟩ | ⟨x,t,rfl,rfl⟩
  ·rcases Yu hv with ⟨j,u,rfl,rfl⟩ | ⟨y,u,rfl,rfl⟩
   ·rw [key_ll] at h;exact wpAny_eqBool_int h
   ·rw [key_lr] at h;exact SeqAt.EqAt.int_str i t y u _ _ _ _ h
  ·rcases Yu hv with ⟨j,u,rfl,rfl⟩ | ⟨y,u,rfl,rfl⟩
   ·rw [key_rl] at h;exact SeqAt.EqAt.str_int x t j u _ _ _ _ h
   ·rw [key_rr] at h;exact wpAny_eqBool_str h
 «strs» := fun k x t v h=>by
  rcases Yu h with ⟨i,u,rfl,e⟩ | ⟨y,u,rfl,e⟩
  ·exact nomatch e
  ·injection e with e1 _
   subst e1
   cases v <;> rfl
theorem vy (prog:Program) (w:World) (i:Int) (t:Tok):(Zs prog w).is (.inl i) (.int i t)=true:=yk i t
theorem xZ (prog:Program) (w:World) (x:Str) (t:Tok):(Zs prog w).is (.inr x) (.str x t)=true:=Wq x t
inductive V where
 | non | bl (b:Bool) | int (i:Int) | str (x:Str) | byt (b:Array UInt8) | flt (b:UInt64) | ref (a:Addr) | ty (n:String)
 deriving DecidableEq
def ZS:V→Value→Prop
 | .non,u=>u=Value.none
 | .bl b,u=>u=Value.bool b
 | .int i,u=>∃ t,u=Value.int i t
 | .str x,u=>∃ t,u=Value.str x t
 | .byt b,u=>∃ t,u=Value.bytes b t
 | .flt b,u=>∃ t,u=Value.float b t
 | .ref a,u=>u=Value.ref a
 | .ty n,u=>u=Value.type n
abbrev ZE:List V→List Value→Prop:=Paired ZS
theorem ZE.length {xs:List V}{us:List Value} (r:ZE xs us):xs.length=us.length:=Paired.length r
theorem ZE.get:∀ {xs:List V}{us:List Value}{i:Nat}{x:V},ZE xs us→xs[i]?=some x→∃ u,us[i]?=some u∧ZS x u
 | _,_,_,_,.nil,e=>by simp at e
 | _,_,0,_,.cons r _,e=>by simp at e;subst e;exact ⟨_,rfl,r⟩
 | _,_,i+1,x,.cons _ t,e=>by
  obtain ⟨u,h1,h2⟩:=ZE.get (i:=i) (x:=x) t (by simpa using e)
  exact ⟨u,by simpa using h1,h2⟩
theorem ZE.append:∀ {xs ys:List V}{us ws:List Value},ZE xs us→ZE ys ws→ZE (xs++ys) (us++ws)
 | _,_,_,_,.nil,s=>s
 | _,_,_,_,.cons r t,s=>.cons r (ZE.append t s)
theorem ZE.take:∀ {xs:List V}{us:List Value} (n:Nat),ZE xs us→ZE (xs.take n) (us.take n)
 | _,_,0,_=>.nil
 | _,_,_+1,.nil=>.nil
 | _,_,n+1,.cons r t=>.cons r (ZE.take n t)
theorem ZE.drop:∀ {xs:List V}{us:List Value} (n:Nat),ZE xs us→ZE (xs.drop n) (us.drop n)
 | _,_,0,r=>r
 | _,_,_+1,.nil=>.nil
 | _,_,n+1,.cons _ t=>ZE.drop n t
def Vz:Option V→Option Value→Prop
 | some v,some u=>ZS v u
 | none,none=>True
 | _,_=>False
def KV {κ:Type}:List (κ × V)→List (κ × Value)→Prop:=Paired fun (p:κ × V) (q:κ × Value)=>p.1=q.1∧ZS p.2 q.2
def kV:Key→V
 | .inl i=>.int i
 | .inr x=>.str x
inductive HO where
 | lst (xs:List V)
 | tup (xs:List V)
 | dK (kvs:List (Key × V)) | dT (kvs:List (List Key × V))
 | set (S:Int→Bool) (n:Nat)
 | ins (C dx:Addr) (fs:List (Str × V))
 | own (x:Addr)
 | xd (fs:List (Str × V))
 | met (f x:Addr)
 | rng (lo hi:Int)
 | frz (o:Obj) (u:HO)
 | tbl (ps:Array Value)
 | ext (φ:Heap→Prop)
abbrev Hp:=Addr→Option HO
def upd (H:Hp) (a:Addr) (o:HO):Hp:=fun b=>if b=a then some o else H b
theorem Zd {H:Hp}{a:Addr}{o:HO}:upd H a o a=some o:=by unfold upd;rw [if_pos rfl]
theorem Zo {H:Hp}{a b:Addr}{o:HO} (h:b≠a):upd H a o b=H b:=by unfold upd;rw [if_neg h]
theorem qX {H:Hp}{a b:Addr}{o u:HO} (h:H a=some o) (h':H b=some u) (d:o≠u):a≠b:=by
 intro e;subst e;rw [h] at h';exact d (Option.some.inj h')
theorem YN {H:Hp}{a b:Addr}{o:HO} (h:H a=some o) (h':H b=none):a≠b:=by
 intro e;subst e;rw [h] at h';cases h'
section
variable (P:Program) (w:World)
def YB (H:Hp) (h:Heap) (a:Addr):HO→Prop
 | .lst xs=>xs.length≤sizeLine∧∃ (its:List Value) (n:Nat),ZE xs its∧h.get? a=some { cls:=.type "list",data:=.seq its.toArray n }
 | .tup xs=>xs.length≤sizeLine∧∃ its:List Value,ZE xs its∧IsTup h a its.toArray
 | .dK kvs=>kvs.length≤sizeLine∧(a == sysModules)=false∧∃ vs,KV kvs vs∧h.DictOf (Zs P w) a vs
 | .dT kvs=>kvs.length≤sizeLine∧(a == sysModules)=false∧∃ xs:List (List Key × Addr × Value),
   Paired (fun (p:List Key × V) (q:List Key × Addr × Value)=>p.1=q.1∧H q.2.1=some (.tup (p.1.map kV))∧ZS p.2 q.2.2) kvs xs ∧
   ∃ o es ep,h.get? a=some o∧o.ExactDict∧o.data=.dict es ep∧es.toList=xs.map (entryOfKey (tupleKind (Zs P w)))∧(xs.map (·.1)).Nodup
 | .set S n=>h.SetOf (intKind P w) a S n
 | .ins C dx fs=>H dx=some (.own a)∧fs.length≤1000∧dx≠a∧h.get? a=some (PySem.W.instObj C dx) ∧
   ∃ mA,h.Ns1 dx mA∧(∀ f,Vz (fs.lookup f) (mA f))∧PySem.Within mA (fs.map (·.1))
 | .own _=>∃ o,h.get? a=some o
 | .xd fs=>∃ mA,h.Ns1 a mA∧∀ f,Vz (fs.lookup f) (mA f)
 | .rng lo hi=>∃ t u v,h.get? a=some { cls:=.type "range",data:=.fields #[.int lo t,.int hi u,.int 1 v] }
 | .frz o u=>h.get? a=some o∧YB H h a u
 | .tbl ps=>h.get? a=some { cls:=.none,data:=.fields ps }
 | .met f x=>h.get? a=some (PySem.W.methodObj (.ref f) (.ref x))
 | .ext φ=>φ h∧(∃ o,h.get? a=some o)∧∀ h1 h2:Heap,φ h1→(∀ o,h1.get? a=some o→h2.get? a=some o)→φ h2
def HOk (H:Hp) (h:Heap):Prop:=∀ a o,H a=some o→YB P w H h a o
end
section
variable {P:Program}{w:World}{H H':Hp}{h h':Heap}{a:Addr}{o:HO}
theorem YB.lt (x:YB P w H h a o):a<h.objs.size:=by
 cases o with
 | lst xs=>obtain ⟨_,_,_,_,e⟩:=x;exact Heap.lt_size e
 | tup xs=>obtain ⟨_,_,_,p⟩:=x;exact p.lt
 | dK kvs=>obtain ⟨_,_,_,_,o,_,_,e,_⟩:=x;exact Heap.lt_size e
 | dT kvs=>obtain ⟨_,_,_,_,o,_,_,e,_⟩:=x;exact Heap.lt_size e
 | set S n=>obtain ⟨o,_,_,_,e,_⟩:=x;exact Heap.lt_size e
 | ins C dx fs=>obtain ⟨_,_,_,e,_⟩:=x;exact Heap.lt_size e
 | own y=>obtain ⟨_,e⟩:=x;exact Heap.lt_size e
 | xd fs=>obtain ⟨_,⟨_,_,_,e,_⟩,_⟩:=x;exact Heap.lt_size e
 | rng lo hi=>obtain ⟨_,_,_,e⟩:=x;exact Heap.lt_size e
 | frz ob u=>obtain ⟨e,_⟩:=x;exact Heap.lt_size e
 | tbl ps=>exact Heap.lt_size (show h.get? a=some _ from x)
 | met f y=>exact Heap.lt_size (show h.get? a=some _ from x)
 | ext φ=>obtain ⟨_,⟨_,e⟩,_⟩:=x;exact Heap.lt_size e
theorem Paired.mapP {α β:Type}{F G:α→β→Prop}:∀ {l₁:List α}{l₂:List β},Paired F l₁ l₂→(∀ a b,F a b→G a b)→Paired G l₁ l₂
 | _,_,.nil,_=>.nil
 | _,_,.cons r t,f=>.cons (f _ _ r) (Paired.mapP t f)
theorem YB.stay (x:YB P w H h a o) (k:∀ b u,(b=a∨H b=some (.own a))→h.get? b=some u→h'.get? b=some u)
  (ho:∀ b,H b=some (.own a)→H' b=some (.own a)) (ht:∀ b xs,H b=some (.tup xs)→H' b=some (.tup xs)):YB P w H' h' a o:=by
 induction o with
 | lst xs=>obtain ⟨z,its,n,r,e⟩:=x;exact ⟨z,its,n,r,k _ _ (.inl rfl) e⟩
 | tup xs=>obtain ⟨z,its,r,ob,e,c⟩:=x;exact ⟨z,its,r,ob,k _ _ (.inl rfl) e,c⟩
 | dK kvs=>obtain ⟨z,y,vs,r,ob,es,ep,e,c⟩:=x;exact ⟨z,y,vs,r,ob,es,ep,k _ _ (.inl rfl) e,c⟩
 | dT kvs=>
  obtain ⟨z,y,xs,r,ob,es,ep,e,c⟩:=x
  exact ⟨z,y,xs,Paired.mapP r fun p q z=>⟨z.1,ht _ _ z.2.1,z.2.2⟩,ob,es,ep,k _ _ (.inl rfl) e,c⟩
 | set S n=>obtain ⟨ob,es,ep,t,e,c⟩:=x;exact ⟨ob,es,ep,t,k _ _ (.inl rfl) e,c⟩
 | ins C dx fs=>
  obtain ⟨d,z,ne,e,mA,⟨od,es,ep,e2,c⟩,r⟩:=x
  exact ⟨ho _ d,z,ne,k _ _ (.inl rfl) e,mA,⟨od,es,ep,k _ _ (.inr d) e2,c⟩,r⟩
 | own y=>obtain ⟨ob,e⟩:=x;exact ⟨ob,k _ _ (.inl rfl) e⟩
 | xd fs=>obtain ⟨mA,⟨od,es,ep,e,c⟩,r⟩:=x;exact ⟨mA,⟨od,es,ep,k _ _ (.inl rfl) e,c⟩,r⟩
 | rng lo hi=>obtain ⟨t,u,v,e⟩:=x;exact ⟨t,u,v,k _ _ (.inl rfl) e⟩
 | frz ob u ih=>obtain ⟨e,q⟩:=x;exact ⟨k _ _ (.inl rfl) e,ih q⟩
 | tbl ps=>
  have e:h.get? a=some { cls:=.none,data:=.fields ps }:=x
  show h'.get? a=some { cls:=.none,data:=.fields ps }
  exact k a _ (.inl rfl) e
 | met f y=>
  have e:h.get? a=some (PySem.W.methodObj (.ref f) (.ref y)):=x
  show h'.get? a=some (PySem.W.methodObj (.ref f) (.ref y))
  exact k a _ (.inl rfl) e
 | ext φ=>obtain ⟨p,⟨o,e⟩,st⟩:=x;exact ⟨st _ _ p fun o q=>k _ _ (.inl rfl) q,⟨o,k _ _ (.inl rfl) e⟩,st⟩
theorem HOk.lt (x:HOk P w H h) (e:H a=some o):a<h.objs.size:=(x a o e).lt
theorem HOk.fresh (x:HOk P w H h) (e:h.objs.size≤a):H a=none:=by
 cases q:H a with
 | none=>rfl
 | some u=>exact absurd (Nat.lt_of_lt_of_le (x.lt q) e) (Nat.lt_irrefl _)
theorem HOk.kept (x:HOk P w H h) (k:∀ b u,h.get? b=some u→h'.get? b=some u):HOk P w H h':=fun a o e=>
 (x a o e).stay (fun b u _ q=>k b u q) (fun _ q=>q) fun _ _ q=>q
theorem HOk.laid (x:HOk P w H h) (k:∀ b u,h.get? b=some u→h'.get? b=some u) (hp:h.objs.size≤a) (new:YB P w (upd H a o) h' a o):HOk P w (upd H a o) h':=fun b u e=>by
 have hn:=x.fresh hp
 by_cases hb:b=a
 ·subst hb;rw [Zd] at e;cases e;exact new
 ·rw [Zo hb] at e
  exact (x b u e).stay (fun c v _ q=>k c v q) (fun c q=>by rw [Zo (YN q hn)];exact q) fun c xs q=>by rw [Zo (YN q hn)];exact q
end
def Rd (H:Hp) (a:Addr) (u:HO):Prop:=H a=some u∨∃ o,H a=some (.frz o u)
theorem Rd.ok {P:Program}{w:World}{H:Hp}{h:Heap}{a:Addr}{u:HO} (r:Rd H a u) (x:HOk P w H h):YB P w H h a u:=by
 rcases r with r | ⟨o,r⟩
 ·exact x a u r
 ·obtain ⟨_,q⟩:=x a _ r
  exact q
def Mut:Option HO→Prop
 | some (.lst _)=>True
 | some (.dK _)=>True
 | some (.dT _)=>True
 | some (.set _ _)=>True
 | some (.ins _ _ _)=>True
 | some (.ext _)=>True
 | _=>False
section
variable {P:Program}{w:World}{H:Hp}{h h':Heap}{x e:Addr}{o':HO}
theorem HOk.write (ok:HOk P w H h) (mu:Mut (H x)) (he:e=x∨H e=some (.own x)) (k:∀ b u,b≠e→h.get? b=some u→h'.get? b=some u) (heo:∃ u,h'.get? e=some u)
  (new:YB P w (upd H x o') h' x o'):HOk P w (upd H x o') h':=fun b u q=>by
 have nown:∀ c y,H c=some (.own y)→c≠x:=fun c y r z=>by subst z;rw [r] at mu;exact mu
 have ntup:∀ c xs,H c=some (.tup xs)→c≠x:=fun c xs r z=>by subst z;rw [r] at mu;exact mu
 by_cases hb:b=x
 ·subst hb;rw [Zd] at q;cases q;exact new
 ·rw [Zo hb] at q
  by_cases hbe:b=e
  ·have q':H b=some (.own x):=by
    rcases he with z | z
    ·exact absurd (hbe.trans z) hb
    ·rw [hbe];exact z
   rw [q] at q';cases q'
   obtain ⟨v,hv⟩:=heo
   exact ⟨v,by rw [hbe];exact hv⟩
  ·refine (ok b u q).stay (fun c v hc r=>k c v ?_ r) (fun c r=>by rw [Zo (nown c b r)];exact r) fun c xs r=>by rw [Zo (ntup c xs r)];exact r
   rcases hc with rfl | hc
   ·exact hbe
   ·rintro rfl
    rcases he with z | z
    ·exact nown c b hc z
    ·rw [hc] at z;cases z;exact hb rfl
end
structure Un (fs ex:List Addr) (H H':Hp) (h h':Heap):Prop where
 keep:∀ b o,h.get? b=some o→H b=none→b∉fs→b∉ex→h'.get? b=some o
 slot:∀ b o,h.get? b=some o→H b=none→b∈fs→b∉ex→∃ sl,h'.get? b=some { o with slots:=sl }
 free:∀ b o,h.get? b=some o→H b=none→b∉ex→H' b=none
 there:∀ b o,h.get? b=some o→b∉ex→∃ o',h'.get? b=some o'
 tups:∀ b xs,H b=some (.tup xs)→H' b=some (.tup xs)
 frzs:∀ b o u,H b=some (.frz o u)→H' b=some (.frz o u)
 tbls:∀ b ps,H b=some (.tbl ps)→∃ more,H' b=some (.tbl (ps++more))
section
variable {fs fs' ex ex':List Addr}{H H1 H2:Hp}{h h1 h2 h':Heap}{a x e:Addr}{o:HO}
theorem Un.any (u:Un fs ex H H1 h h1) {b:Addr}{ob:Obj} (q:h.get? b=some ob) (n:H b=none) (hx:b∉ex):∃ sl,h1.get? b=some { ob with slots:=sl }:=by
 by_cases hb:b∈fs
 ·exact u.slot b ob q n hb hx
 ·exact ⟨ob.slots,u.keep b ob q n hb hx⟩
theorem Un.kept (k:∀ b u,h.get? b=some u→h'.get? b=some u):Un fs ex H H h h':=
 ⟨fun b ob q _ _ _=>k b ob q,fun b ob q _ _ _=>⟨ob.slots,k b ob q⟩,fun _ _ _ n _=>n,fun b ob q _=>⟨ob,k b ob q⟩,fun _ _ q=>q,fun _ _ _ q=>q,fun _ ps q=>⟨#[],by rw [q];simp⟩⟩
theorem Un.refl:Un fs ex H H h h:=Un.kept fun _ _ q=>q
theorem Un.laid (k:∀ b u,h.get? b=some u→h'.get? b=some u) (hp:h.objs.size≤a) (hn:H a=none):Un fs ex H (upd H a o) h h' where
 keep:=fun b u q _ _ _=>k b u q
 slot:=fun b u q _ _ _=>⟨u.slots,k b u q⟩
 free:=fun b u q n _=>by rw [Zo (Nat.ne_of_lt (Nat.lt_of_lt_of_le (Heap.lt_size q) hp))];exact n
 there:=fun b u q _=>⟨u,k b u q⟩
 tups:=fun b xs q=>by rw [Zo (YN q hn)];exact q
 frzs:=fun b u xs q=>by rw [Zo (YN q hn)];exact q
 tbls:=fun b ps q=>⟨#[],by rw [Zo (YN q hn),q];simp⟩
theorem Un.write (mu:Mut (H x)) (he:e=x∨H e=some (.own x)) (k:∀ b u,b≠e→h.get? b=some u→h'.get? b=some u) (heo:∃ u,h'.get? e=some u):Un fs ex H (upd H x o) h h':=by
 have hx:∀ b,H b=none→b≠x:=fun b n z=>by subst z;rw [n] at mu;exact mu
 have hb:∀ b,H b=none→b≠e:=fun b n z=>by
  subst z
  rcases he with r | r
  ·exact hx b n r
  ·rw [n] at r;cases r
 have hm:∀ b u,H b=some u→¬ Mut (some u)→b≠x:=fun b u q nm z=>by subst z;rw [q] at mu;exact nm mu
 refine ⟨fun b u q n _ _=>k b u (hb b n) q,fun b u q n _ _=>⟨u.slots,k b u (hb b n) q⟩,fun b u q n _=>by rw [Zo (hx b n)];exact n,fun b u q _=>?_,
  fun b xs q=>by rw [Zo (hm b _ q fun z=>z)];exact q,fun b u xs q=>by rw [Zo (hm b _ q fun z=>z)];exact q,fun b ps q=>⟨#[],by rw [Zo (hm b _ q fun z=>z),q];simp⟩⟩
 by_cases hbe:b=e
 ·subst hbe;exact heo
 ·exact ⟨u,k b u hbe q⟩
end
def trk (h:Heap) (H:Hp):List Addr:=(List.range h.objs.size).filter fun a=>(H a).isSome
def hidT (h:Heap) (H:Hp):Heap:=PySem.W.hideAll h (trk h H)
theorem hidT_size (h:Heap) (H:Hp):(hidT h H).objs.size=h.objs.size:=PySem.W.hideAll_size _ _
theorem hidT_get {h:Heap}{H:Hp}{b:Addr}{o:Obj} (e:h.get? b=some o) (n:H b=none):(hidT h H).get? b=some o:=
 PySem.W.hideAll_get _ e fun hm=>by
  have q:(H b).isSome=true:=(List.mem_filter.mp hm).2
  rw [n] at q;simp at q
theorem of_hidT {h:Heap}{H:Hp}{b:Addr}{o:Obj} (e:(hidT h H).get? b=some o):h.get? b=some o∧H b=none:=by
 have e':h.get? b=some o:=PySem.W.of_hideAll (trk h H) e
 refine ⟨e',?_⟩
 cases q:H b with
 | none=>rfl
 | some x=>
  have hm:b∈trk h H:=List.mem_filter.mpr ⟨List.mem_range.mpr (Heap.lt_size e'),by simp [q]⟩
  have z:(hidT h H).get? b=none:=PySem.W.hideAll_none (trk h H) hm
  rw [z] at e;cases e
def allNews (g h:Heap) (L:Addr):List (Addr × Obj):=(List.range h.objs.size).filterMap fun a=>if a=L∨(g.get? a).isSome=true then none else (h.get? a).map fun o=>(a,o)
def Xc (g h:Heap) (L d:Addr):List (Addr × Obj):=(allNews g h L).filter fun p=>decide (p.1≠d)
structure Mod (K:PySem.W.Frag) (mg:Str→Option Value) (base:Heap):Prop where
 kin:K.In base
 glob:base.Ns mainGlobals mg
 blt:∃ mb,base.Ns builtinsNs mb∧∀ x:Str,x ≠ "__name__" → mb x=bootBuiltins x
 nolimit:base.NoLimit
structure Cx where
 prog:Program
 w:World
 K:PySem.W.Frag
 mg:Str→Option Value
 base:Heap
 A:Around
 N:List Str
 s₀:Shared
 H₀:Hp
 env:Env
 outer:List Env
 stack:List Env
 ex:List Addr
 fn:Str→Bool
 calm:Bool
 pn:List (Addr × Obj)
 xe:Value→Shared→Prop
def frs (l:List Env):List Addr:=l.filterMap (·.frame)
abbrev Cx.fs (X:Cx):List Addr:=frs X.outer
def Vis (sc:Scope) (x:Str):Prop:=sc.names.lookup x=some .local∨sc.names.lookup x=some .cell∨sc.names.lookup x=some .free
def Loc (sc:Scope) (x:Str):Prop:=sc.names.lookup x=some .local∨sc.names.lookup x=some .cell
def Look (env:Env) (h:Heap) (m:Str→Option Value) (x:Str) (u:Value):Prop:=
 (env.kindOf x=some .local∧m x=some u)∨((env.kindOf x=some .cell∨env.kindOf x=some .free)∧∃ c,env.cells.lookup x=some c∧h.IsCell c (some u))
structure Cx.Ok (X:Cx):Prop where
 mod:Mod X.K X.mg X.base
 kind:X.env.scope.kind=.function
 glob:X.env.globals=mainGlobals
 blt:X.env.builtins=builtinsNs
 above:X.s₀.heap.objs.size≤X.env.locals
 inj:∀ x y c,X.env.cells.lookup x=some c→X.env.cells.lookup y=some c→x=y
 has:∀ x,(X.env.kindOf x=some .cell∨X.env.kindOf x=some .free)→∃ c,X.env.cells.lookup x=some c
 cab:∀ x c,X.fn x=true→X.env.cells.lookup x=some c→X.s₀.heap.objs.size≤c
 hd:X.calm=true→X.A.handled=none
 frames:X.A.frames=some X.stack
 stk:X.stack=X.outer∨(X.stack=X.env :: X.outer∧X.env.frame=some X.env.locals)
 exf:∀ b∈X.ex,b≠X.env.locals∧∀ x c,X.env.cells.lookup x=some c→c≠b
 bs:∀ b o,X.base.get? b=some o→X.s₀.heap.get? b=some o∧X.H₀ b=none
 bsz:X.base.objs.size≤X.s₀.heap.objs.size
 noex:∀ b o,X.base.get? b=some o→b∉X.ex
 exfs:∀ b∈X.ex,b∉X.fs
 funs:X.s₀.heap.FunFrames X.base X.outer
 frf:∀ b∈X.fs,X.H₀ b=none
structure Inv (X:Cx) (pins:List (Addr × Obj)) (σ:List (Option V)) (H:Hp) (s:Shared):Prop where
 ok:X.Ok
 os:s.os=X.s₀.os
 bare:AllBare s.gens
 base:Un X.fs X.ex X.H₀ H X.s₀.heap s.heap
 loc:∃ m,s.heap.Ns X.env.locals m∧∀ (i:Nat) (x:Str) (v:V),X.N[i]?=some x→σ[i]?=some (some v)→Vis X.env.scope x→∃ u,ZS v u∧Look X.env s.heap m x u
 cell:∀ x c,X.env.cells.lookup x=some c→∃ v,s.heap.IsCell c v
 free:H X.env.locals=none
 freeC:∀ x c,X.env.cells.lookup x=some c→H c=none
 pin:∀ p∈X.pn++pins,s.heap.get? p.1=some p.2∧H p.1=none∧p.1≠X.env.locals∧p.1∉X.fs∧∀ v,p.2.data≠.cell v
 hok:HOk X.prog X.w H s.heap
 len:σ.length=X.N.length
section
variable {X:Cx}{pins:List (Addr × Obj)}{σ:List (Option V)}{H H':Hp}{s:Shared}{h':Heap}
theorem Cx.Ok.nofr (ok:X.Ok) {b:Addr}{o:Obj} (e:X.base.get? b=some o):b∉X.fs:=fun hb=>by
 have:=(ok.funs.mem hb).1
 rw [e] at this;cases this
theorem Inv.bs (I:Inv X pins σ H s):∀ b o,X.base.get? b=some o→s.heap.get? b=some o∧H b=none:=fun b o e=>
 ⟨I.base.keep b o (I.ok.bs b o e).1 (I.ok.bs b o e).2 (I.ok.nofr e) (I.ok.noex b o e),I.base.free b o (I.ok.bs b o e).1 (I.ok.bs b o e).2 (I.ok.noex b o e)⟩
theorem Inv.bk (I:Inv X pins σ H s):∀ b o,X.base.get? b=some o→s.heap.get? b=some o:=fun b o e=>(I.bs b o e).1
theorem Inv.mod (I:Inv X pins σ H s):Mod X.K X.mg X.base:=I.ok.mod
theorem Inv.kIn (I:Inv X pins σ H s):X.K.In s.heap:=I.ok.mod.kin.keeps I.bk
theorem Inv.lt (I:Inv X pins σ H s):X.env.locals<s.heap.objs.size:=let ⟨_,hn,_⟩:=I.loc;hn.lt
theorem Inv.sz (I:Inv X pins σ H s):X.s₀.heap.objs.size≤s.heap.objs.size:=Nat.le_trans I.ok.above (Nat.le_of_lt I.lt)
theorem Inv.nofs (I:Inv X pins σ H s) {a:Addr} (h:s.heap.objs.size≤a):a∉X.fs:=fun hb=>by
 obtain ⟨_,o,ho,_⟩:=I.ok.funs.mem hb
 exact absurd (Nat.lt_of_lt_of_le (Heap.lt_size ho) (Nat.le_trans I.sz h)) (Nat.lt_irrefl _)
theorem Inv.cne (I:Inv X pins σ H s):∀ x c,X.env.cells.lookup x=some c→c≠X.env.locals:=fun x c e z=>by
 obtain ⟨v,o,ho,hd⟩:=I.cell x c e
 obtain ⟨m,⟨o',es,ep,ho',hd',_⟩,_⟩:=I.loc
 rw [z,ho'] at ho;cases ho;rw [hd'] at hd;cases hd
theorem Inv.funs (I:Inv X pins σ H s):s.heap.FunFrames X.base X.outer:=by
 have all:∀ (l:List Env),(∀ b∈frs l,b∈X.fs)→X.s₀.heap.FunFrames X.base l→s.heap.FunFrames X.base l:=by
  intro l
  induction l with
  | nil=>intro _ _;trivial
  | cons env r ih=>
   intro hs hl
   obtain ⟨hk,⟨L,o,hf,hn,ho,hd⟩,hr⟩:=hl
   have hL:L∈X.fs:=hs L (by unfold frs;rw [List.filterMap_cons,hf];exact List.mem_cons_self)
   obtain ⟨sl,e⟩:=I.base.slot L o ho (I.ok.frf L hL) hL fun z=>I.ok.exfs L z hL
   exact ⟨hk,⟨L,_,hf,hn,e,hd⟩,ih (fun b hb=>hs b (by unfold frs;rw [List.filterMap_cons,hf];exact List.mem_cons_of_mem _ hb)) hr⟩
 exact all X.outer (fun _ hb=>hb) I.ok.funs
theorem Inv.stack (I:Inv X pins σ H s):s.heap.FunFrames X.base X.stack:=by
 rcases I.ok.stk with e | ⟨e,hf⟩
 ·rw [e];exact I.funs
 ·rw [e]
  obtain ⟨m,hn,_⟩:=I.loc
  refine .cons (by rw [I.ok.kind];decide) hf hn ?_ I.funs
  exact Heap.get?_none_of_le (Nat.le_trans I.ok.bsz I.ok.above)
theorem Inv.stkSub (I:Inv X pins σ H s):∀ b∈frs X.stack,b∈X.env.locals :: X.fs:=fun b hb=>by
 rcases I.ok.stk with e | ⟨e,hf⟩
 ·rw [e] at hb;exact List.mem_cons_of_mem _ hb
 ·rw [e] at hb
  unfold frs at hb
  rw [List.filterMap_cons,hf] at hb
  exact hb
theorem Inv.stkFree (I:Inv X pins σ H s):∀ b∈frs X.stack,H b=none:=fun b hb=>by
 rcases List.mem_cons.mp (I.stkSub b hb) with e | hb
 ·rw [e];exact I.free
 ·obtain ⟨_,o,ho,_⟩:=I.ok.funs.mem hb
  exact I.base.free b o ho (I.ok.frf b hb) fun z=>I.ok.exfs b z hb
theorem Inv.step {g':Array GenState}{t':Nat}{d':Drawn}{ch:List Addr} (I:Inv X pins σ H s)
  (hch:∀ b∈ch,(b∈X.ex∨X.s₀.heap.objs.size≤b)∧b≠X.env.locals∧(∀ x c,X.env.cells.lookup x=some c→c≠b)∧∀ p∈X.pn++pins,p.1≠b)
  (keep:∀ b o,b≠X.env.locals→b∉X.fs→b∉ch→s.heap.get? b=some o→H b=none→h'.get? b=some o)
  (slot:∀ b o,b≠X.env.locals→b∈X.fs→b∉ch→s.heap.get? b=some o→H b=none→∃ sl,h'.get? b=some { o with slots:=sl }) (free:∀ b o,b∉ch→s.heap.get? b=some o→H b=none→H' b=none)
  (there:∀ b o,b∉ch→s.heap.get? b=some o→∃ o',h'.get? b=some o')
  (tups:∀ b xs,H b=some (.tup xs)→H' b=some (.tup xs)) (frzs:∀ b o u,H b=some (.frz o u)→H' b=some (.frz o u)) (tbls:∀ b ps,H b=some (.tbl ps)→∃ more,H' b=some (.tbl (ps++more)))
  (ns:∀ m,s.heap.Ns X.env.locals m→h'.Ns X.env.locals m) (hok:HOk X.prog X.w H' h') (hg:AllBare g') :
  Inv X pins σ H' { s with heap:=h',gens:=g',drawn:=d',toks:=t' }:=by
 have neL:∀ b o,X.s₀.heap.get? b=some o→b≠X.env.locals:=fun b o e=>Nat.ne_of_lt (Nat.lt_of_lt_of_le (Heap.lt_size e) I.ok.above)
 have neC:∀ b o,X.s₀.heap.get? b=some o→b∉X.ex→b∉ch:=fun b o e hx hb=>by
  rcases (hch b hb).1 with z | z
  ·exact hx z
  ·exact absurd (Nat.lt_of_lt_of_le (Heap.lt_size e) z) (Nat.lt_irrefl _)
 have cellK:∀ x c,X.env.cells.lookup x=some c→∀ v,s.heap.IsCell c v→h'.IsCell c v:=fun x c e v ⟨o,ho,hd⟩=>by
  have nch:c∉ch:=fun z=>(hch c z).2.2.1 x c e rfl
  by_cases hc:c∈X.fs
  ·obtain ⟨sl,q⟩:=slot c o (I.cne x c e) hc nch ho (I.freeC x c e)
   exact ⟨_,q,hd⟩
  ·exact ⟨o,keep c o (I.cne x c e) hc nch ho (I.freeC x c e),hd⟩
 refine ⟨I.ok,I.os,hg,⟨fun b o e n hb hx=>?_,fun b o e n hb hx=>?_,fun b o e n hx=>?_,fun b o e hx=>?_,fun b xs e=>tups b xs (I.base.tups b xs e),fun b o xs e=>frzs b o xs (I.base.frzs b o xs e),fun b ps e=>?_⟩,?_,fun x c e=>?_,?_,fun x c e=>?_,fun p hp=>?_,hok,I.len⟩
 ·exact keep b o (neL b o e) hb (neC b o e hx) (I.base.keep b o e n hb hx) (I.base.free b o e n hx)
 ·obtain ⟨sl,e1⟩:=I.base.slot b o e n hb hx
  obtain ⟨sl',e2⟩:=slot b _ (neL b o e) hb (neC b o e hx) e1 (I.base.free b o e n hx)
  exact ⟨sl',e2⟩
 ·obtain ⟨o',e1⟩:=I.base.there b o e hx
  exact free b o' (neC b o e hx) e1 (I.base.free b o e n hx)
 ·obtain ⟨o',e1⟩:=I.base.there b o e hx
  exact there b o' (neC b o e hx) e1
 ·obtain ⟨m1,e1⟩:=I.base.tbls b ps e
  obtain ⟨m2,e2⟩:=tbls b _ e1
  exact ⟨m1++m2,by rw [e2,Array.append_assoc]⟩
 ·obtain ⟨m,hn,hl⟩:=I.loc
  refine ⟨m,ns m hn,fun i x v e1 e2 e3=>?_⟩
  obtain ⟨u,r,l⟩:=hl i x v e1 e2 e3
  refine ⟨u,r,?_⟩
  rcases l with l | ⟨k,c,e,z⟩
  ·exact .inl l
  ·exact .inr ⟨k,c,e,cellK x c e _ z⟩
 ·obtain ⟨v,z⟩:=I.cell x c e
  exact ⟨v,cellK x c e v z⟩
 ·obtain ⟨m,⟨o,_,_,ho,_⟩,_⟩:=I.loc
  exact free _ o (fun z=>(hch _ z).2.1 rfl) ho I.free
 ·obtain ⟨v,o,ho,hd⟩:=I.cell x c e
  exact free c o (fun z=>(hch c z).2.2.1 x c e rfl) ho (I.freeC x c e)
 ·obtain ⟨e,n,ne,nf,d⟩:=I.pin p hp
  have nch:p.1∉ch:=fun z=>(hch p.1 z).2.2.2 p hp rfl
  exact ⟨keep p.1 p.2 ne nf nch e n,free p.1 p.2 nch e n,ne,nf,d⟩
theorem Inv.un {t':Nat} (I:Inv X pins σ H s) (u:Un X.fs [] H H' s.heap h') (hok:HOk X.prog X.w H' h'):Inv X pins σ H' { s with heap:=h',toks:=t' }:=by
 obtain ⟨m,⟨o,es,ep,ho,r⟩,_⟩:=id I.loc
 obtain ⟨sl,hL⟩:=u.any ho I.free (by simp)
 exact I.step (g':=s.gens) (d':=s.drawn) (ch:=[]) (fun _ z=>nomatch z) (fun b o _ hb _ e n=>u.keep b o e n hb (by simp)) (fun b o _ hb _ e n=>u.slot b o e n hb (by simp)) (fun b o _ e n=>u.free b o e n (by simp)) (fun b o _ e=>u.there b o e (by simp)) u.tups u.frzs u.tbls (fun m' hm=>by
  obtain ⟨o',es',ep',ho',r'⟩:=hm
  rw [ho] at ho';cases ho'
  exact ⟨_,es',ep',hL,r'⟩) hok I.bare
theorem Inv.call {g':Array GenState}{t':Nat}{d':Drawn}{ch:List Addr} (I:Inv X pins σ H s) (u:Un (frs X.stack) ch H H' s.heap h') (hok:HOk X.prog X.w H' h') (hg:AllBare g')
  (hch:∀ b∈ch,(b∈X.ex∨X.s₀.heap.objs.size≤b)∧b≠X.env.locals∧(∀ x c,X.env.cells.lookup x=some c→c≠b)∧∀ p∈X.pn++pins,p.1≠b) :
  Inv X pins σ H' { s with heap:=h',gens:=g',drawn:=d',toks:=t' }:=by
 obtain ⟨m,⟨o,es,ep,ho,r⟩,_⟩:=id I.loc
 obtain ⟨sl,hL⟩:=u.any ho I.free fun z=>(hch _ z).2.1 rfl
 exact I.step (ch:=ch) hch (fun b o hL hb hc e n=>u.keep b o e n (fun z=>(List.mem_cons.mp (I.stkSub b z)).elim hL hb) hc) (fun b o _ _ hc e n=>u.any e n hc) (fun b o hc e n=>u.free b o e n hc) (fun b o hc e=>u.there b o e hc) u.tups u.frzs u.tbls (fun m' hm=>by
  obtain ⟨o',es',ep',ho',r'⟩:=hm
  rw [ho] at ho';cases ho'
  exact ⟨_,es',ep',hL,r'⟩) hok hg
theorem Inv.turned {t':Nat}{it:Addr} (I:Inv X pins σ H s) (k:∀ b o,b≠it→s.heap.get? b=some o→h'.get? b=some o) (hn:H it=none) (hL:it≠X.env.locals)
  (h1:it∈X.ex∨X.s₀.heap.objs.size≤it) (h2:∀ x c,X.env.cells.lookup x=some c→c≠it) (h3:∀ p∈X.pn++pins,p.1≠it):Inv X pins σ H { s with heap:=h',toks:=t' }:=by
 have nit:∀ b u,H b=some u→b≠it:=fun b u e z=>by rw [z,hn] at e;cases e
 refine I.step (g':=s.gens) (d':=s.drawn) (ch:=[it]) (fun b hb=>?_) (fun b o _ _ hc e _=>k b o (fun z=>hc (by simp [z])) e) (fun b o _ _ hc e _=>⟨o.slots,k b o (fun z=>hc (by simp [z])) e⟩) (fun _ _ _ _ n=>n)
  (fun b o hc e=>⟨o,k b o (fun z=>hc (by simp [z])) e⟩) (fun _ _ e=>e) (fun _ _ _ e=>e) (fun b ps e=>⟨#[],by rw [e];simp⟩) (fun m hm=>?_) (fun b u e=>?_) I.bare
 ·have e:b=it:=by simpa using hb
  subst e
  exact ⟨h1,hL,h2,h3⟩
 ·obtain ⟨o,es,ep,ho,r⟩:=hm
  exact ⟨o,es,ep,k _ o (Ne.symm hL) ho,r⟩
 ·refine (I.hok b u e).stay (fun c v hc q=>k c v ?_ q) (fun _ q=>q) fun _ _ q=>q
  rcases hc with z | z
  ·rw [z];exact nit b u e
  ·exact nit c _ z
theorem Inv.tok (I:Inv X pins σ H s) (t:Nat):Inv X pins σ H { s with toks:=t }:=I.un (h':=s.heap) (t':=t) Un.refl I.hok
theorem Inv.kept {t':Nat} (I:Inv X pins σ H s) (k:∀ b u,s.heap.get? b=some u→h'.get? b=some u):Inv X pins σ H { s with heap:=h',toks:=t' }:=I.un (Un.kept k) (I.hok.kept k)
theorem Inv.laid {a:Addr}{o:HO}{t':Nat} (I:Inv X pins σ H s) (k:∀ b u,s.heap.get? b=some u→h'.get? b=some u) (hp:s.heap.objs.size≤a) (new:YB X.prog X.w (upd H a o) h' a o) :
  Inv X pins σ (upd H a o) { s with heap:=h',toks:=t' }:=I.un (Un.laid k hp (I.hok.fresh hp)) (I.hok.laid k hp new)
theorem Inv.write {x e:Addr}{o:HO}{t':Nat} (I:Inv X pins σ H s) (mu:Mut (H x)) (he:e=x∨H e=some (.own x)) (k:∀ b u,b≠e→s.heap.get? b=some u→h'.get? b=some u) (heo:∃ u,h'.get? e=some u)
  (new:YB X.prog X.w (upd H x o) h' x o):Inv X pins σ (upd H x o) { s with heap:=h',toks:=t' }:=I.un (Un.write mu he k heo) (I.hok.write mu he k heo new)
theorem Inv.pins_of {pins':List (Addr × Obj)} (I:Inv X pins σ H s) (h:∀ p∈pins',s.heap.get? p.1=some p.2∧H p.1=none∧p.1≠X.env.locals∧p.1∉X.fs∧∀ v,p.2.data≠.cell v):Inv X pins' σ H s:=
 ⟨I.ok,I.os,I.bare,I.base,I.loc,I.cell,I.free,I.freeC,fun p hp=>(List.mem_append.mp hp).elim (fun z=>I.pin p (List.mem_append_left _ z)) (h p),I.hok,I.len⟩
theorem zo {N:List Str} (hN:N.Nodup) {i j:Nat}{x:Str} (a:N[i]?=some x) (b:N[j]?=some x):i=j:=by
 obtain ⟨h1,e1⟩:=List.getElem?_eq_some_iff.mp a
 obtain ⟨h2,e2⟩:=List.getElem?_eq_some_iff.mp b
 exact (List.getElem_inj hN).mp (e1.trans e2.symm)
theorem zZ {M:Model}{A:Around}{E:Value→Shared→Prop}{i:Nat}{x:Str}{v:V}{u:Value}{Q:Unit→Shared→Prop} (I:Inv X pins σ H s) (hN:X.N.Nodup) (hi:X.N[i]?=some x) (hx:Loc X.env.scope x) (r:ZS v u)
  (h:∀ s',Inv X pins (σ.set i (some v)) H s'→(∃ a,Heap.SameBut a s.heap s'.heap∧(a=X.env.locals∨X.env.cells.lookup x=some a))→Q () s') (hf:X.fn x=true∨X.env.scope.names.lookup x=some .local:=by first | exact .inl rfl | exact .inr rfl | assumption):wpAny M A (storeName X.env x u) Q E s:=by
 obtain ⟨m,hn,hl⟩:=id I.loc
 have hcls:(X.env.scope.kind == .class || (X.env.scope.kind == .module && X.env.locals != X.env.globals))=false:=by rw [I.ok.kind];rfl
 have hiσ:i<σ.length:=by rw [I.len];exact (List.getElem?_eq_some_iff.mp hi).1
 have cne:=I.cne
 have tracked:∀ {a:Addr}{h':Heap},(∃ o,s.heap.get? a=some o∧H a=none)→Heap.SameBut a s.heap h'→HOk X.prog X.w H h':=fun {a h'} ha hs b ob e=>by
  obtain ⟨_,_,hfree⟩:=ha
  refine (I.hok b ob e).stay (fun c w' hc q=>(hs.2 c ?_).trans q) (fun _ q=>q) fun _ _ q=>q
  rintro rfl
  rcases hc with rfl | hc
  ·rw [hfree] at e;cases e
  ·rw [hfree] at hc;cases hc
 rcases hx with hk | hk
 ·refine wpAny_storeName_local hk hn (fun h' hn' hs=>?_) hcls
  obtain ⟨oL,_,_,hoL,_⟩:=id hn
  refine h _ ⟨I.ok,I.os,I.bare,⟨fun b o e n hb hx=>?_,fun b o e n hb hx=>?_,I.base.free,fun b o e hx=>?_,I.base.tups,I.base.frzs,I.base.tbls⟩,⟨_,hn',fun j y v' e1 e2 e3=>?_⟩,fun y c e=>?_,I.free,I.freeC,fun p hp=>?_,tracked ⟨oL,hoL,I.free⟩ hs,by simpa using I.len⟩ ⟨_,hs,.inl rfl⟩
  ·exact (hs.2 b (Nat.ne_of_lt (Nat.lt_of_lt_of_le (Heap.lt_size e) I.ok.above))).trans (I.base.keep b o e n hb hx)
  ·obtain ⟨sl,e1⟩:=I.base.slot b o e n hb hx
   exact ⟨sl,(hs.2 b (Nat.ne_of_lt (Nat.lt_of_lt_of_le (Heap.lt_size e) I.ok.above))).trans e1⟩
  ·obtain ⟨o',e1⟩:=I.base.there b o e hx
   exact ⟨o',(hs.2 b (Nat.ne_of_lt (Nat.lt_of_lt_of_le (Heap.lt_size e) I.ok.above))).trans e1⟩
  ·by_cases hj:j=i
   ·subst hj
    rw [hi] at e1;cases e1
    rw [List.getElem?_set_self hiσ] at e2
    cases e2
    exact ⟨u,r,.inl ⟨hk,by simp⟩⟩
   ·rw [List.getElem?_set_ne (Ne.symm hj)] at e2
    obtain ⟨u',r',q⟩:=hl j y v' e1 e2 e3
    refine ⟨u',r',?_⟩
    rcases q with ⟨k,e⟩ | ⟨k,c,e,z⟩
    ·refine .inl ⟨k,?_⟩
     have:y≠x:=fun e=>hj (zo hN e1 (e ▸ hi))
     simp [this,e]
    ·exact .inr ⟨k,c,e,z.sameBut hs (cne y c e)⟩
  ·obtain ⟨w',z⟩:=I.cell y c e
   exact ⟨w',z.sameBut hs (cne y c e)⟩
  ·obtain ⟨e,n,ne,nf,d⟩:=I.pin p hp
   exact ⟨(hs.2 p.1 ne).trans e,n,ne,nf,d⟩
 ·have hfn:X.fn x=true:=by
   rcases hf with z | z
   ·exact z
   ·rw [z] at hk;cases hk
  obtain ⟨c,hc⟩:=I.ok.has x (.inl hk)
  obtain ⟨w',z⟩:=I.cell x c hc
  refine wpAny_storeName_cell I.ok.kind hk hc z (fun h' hc' hs=>?_)
  obtain ⟨oc,hoc,hocd⟩:=id z
  refine h { s with heap:=h' } ⟨I.ok,I.os,I.bare,⟨fun b o e n hb hx=>?_,fun b o e n hb hx=>?_,I.base.free,fun b o e hx=>?_,I.base.tups,I.base.frzs,I.base.tbls⟩,⟨m,hn.sameBut hs (Ne.symm (cne x c hc)),fun j y v' e1 e2 e3=>?_⟩,fun y c' e=>?_,I.free,I.freeC,fun p hp=>?_,tracked ⟨oc,hoc,I.freeC x c hc⟩ hs,by simpa using I.len⟩ ⟨c,hs,.inr hc⟩
  ·exact (hs.2 b (Nat.ne_of_lt (Nat.lt_of_lt_of_le (Heap.lt_size e) (I.ok.cab x c hfn hc)))).trans (I.base.keep b o e n hb hx)
  ·obtain ⟨sl,e1⟩:=I.base.slot b o e n hb hx
   exact ⟨sl,(hs.2 b (Nat.ne_of_lt (Nat.lt_of_lt_of_le (Heap.lt_size e) (I.ok.cab x c hfn hc)))).trans e1⟩
  ·obtain ⟨o',e1⟩:=I.base.there b o e hx
   exact ⟨o',(hs.2 b (Nat.ne_of_lt (Nat.lt_of_lt_of_le (Heap.lt_size e) (I.ok.cab x c hfn hc)))).trans e1⟩
  ·by_cases hj:j=i
   ·subst hj
    rw [hi] at e1;cases e1
    rw [List.getElem?_set_self hiσ] at e2
    cases e2
    exact ⟨u,r,.inr ⟨.inl hk,c,hc,hc'⟩⟩
   ·rw [List.getElem?_set_ne (Ne.symm hj)] at e2
    obtain ⟨u',r',q⟩:=hl j y v' e1 e2 e3
    refine ⟨u',r',?_⟩
    rcases q with q | ⟨k,c',e,z'⟩
    ·exact .inl q
    ·refine .inr ⟨k,c',e,z'.sameBut hs ?_⟩
     rintro rfl
     exact hj (zo hN e1 (I.ok.inj _ _ _ e hc ▸ hi))
  ·by_cases hcc:c'=c
   ·subst hcc;exact ⟨_,hc'⟩
   ·obtain ⟨w2,z2⟩:=I.cell y c' e
    exact ⟨w2,z2.sameBut hs hcc⟩
  ·obtain ⟨e,n,ne,nf,d⟩:=I.pin p hp
   refine ⟨(hs.2 p.1 ?_).trans e,n,ne,nf,d⟩
   intro q
   rw [q,hoc] at e
   have q':oc=p.2:=Option.some.inj e
   exact d w' (by rw [← q'];exact hocd)
theorem V0 {M:Model}{A:Around}{E:Value→Shared→Prop}{i:Nat}{x:Str}{v:V}{u:Value}{Q:Unit→Shared→Prop} (I:Inv X pins σ H s) (hN:X.N.Nodup) (hi:X.N[i]?=some x) (hx:Loc X.env.scope x) (r:ZS v u)
  (h:∀ s',Inv X pins (σ.set i (some v)) H s'→Q () s') (hf:X.fn x=true∨X.env.scope.names.lookup x=some .local:=by first | exact .inl rfl | exact .inr rfl | assumption):wpAny M A (storeName X.env x u) Q E s:=
 zZ I hN hi hx r (fun s' I' _=>h s' I') hf
theorem Inv.call' {s':Shared}{ch:List Addr} (I:Inv X pins σ H s) (ho:s'.os=s.os) (u:Un (frs X.stack) ch H H' s.heap s'.heap) (hok:HOk X.prog X.w H' s'.heap) (hg:AllBare s'.gens)
  (hch:∀ b∈ch,(b∈X.ex∨X.s₀.heap.objs.size≤b)∧b≠X.env.locals∧(∀ x c,X.env.cells.lookup x=some c→c≠b)∧∀ p∈X.pn++pins,p.1≠b):Inv X pins σ H' s':=by
 obtain ⟨h',g',d',t',o'⟩:=s'
 have e:o'=s.os:=ho
 subst e
 exact I.call (g':=g') (t':=t') (d':=d') u hok hg hch
end
abbrev XK:=Value→Option Addr→Hp→Prop
abbrev St:=List (Option V)
abbrev VK:=V→Hp→Prop
abbrev TE:=St→Hp→VK→Prop
abbrev TT:=St→Hp→(Bool→Hp→Prop)→Prop
abbrev TA:=St→Hp→(List V→Hp→Prop)→Prop
structure Ends where
 nx:St→Hp→Prop
 rt:VK
 bk:St→Hp→Prop:=fun _ _=>False
 ct:St→Hp→Prop:=fun _ _=>False
abbrev TS:=Ends→St→Hp→Prop
def EP (X:Cx) (pins:List (Addr × Obj)) (σ:St) (Q:VK) (u:Value) (s':Shared):Prop:=∃ v H',Inv X pins σ H' s'∧ZS v u∧Q v H'
def TP (X:Cx) (pins:List (Addr × Obj)) (σ:St) (Q:Bool→Hp→Prop) (b:Bool) (s':Shared):Prop:=∃ H',Inv X pins σ H' s'∧Q b H'
def AP (X:Cx) (pins:List (Addr × Obj)) (σ:St) (Q:List V→Hp→Prop) (us:List Value) (s':Shared):Prop:=∃ vs H',Inv X pins σ H' s'∧ZE vs us∧Q vs H'
def SP (X:Cx) (pins:List (Addr × Obj)) (D:Ends) (f:Flow) (s':Shared):Prop:=
 match f with
 | .next=>∃ σ' H',Inv X pins σ' H' s'∧D.nx σ' H'
 | .brk=>∃ σ' H',Inv X pins σ' H' s'∧D.bk σ' H'
 | .cont=>∃ σ' H',Inv X pins σ' H' s'∧D.ct σ' H'
 | .ret u=>∃ v σ' H',Inv X pins σ' H' s'∧ZS v u∧D.rt v H'
def PE (X:Cx) (e:Expr) (t:TE):Prop:=
 ∀ (pins:List (Addr × Obj)) (s:Shared) (σ:St) (H:Hp) (Q:VK),Inv X pins σ H s→t σ H Q→wpAny (model X.prog X.w) X.A (eval e X.env) (EP X pins σ Q) X.xe s
def PT (X:Cx) (e:Expr) (t:TT):Prop:=
 ∀ (pins:List (Addr × Obj)) (s:Shared) (σ:St) (H:Hp) (Q:Bool→Hp→Prop),Inv X pins σ H s→t σ H Q→wpAny (model X.prog X.w) X.A (isTrue e X.env (eval e X.env)) (TP X pins σ Q) X.xe s
def PW (X:Cx) (e:Expr) (t:TT):Prop:=
 ∀ (whole:Sem Value) (pins:List (Addr × Obj)) (s:Shared) (σ:St) (H:Hp) (Q:Bool→Hp→Prop),Inv X pins σ H s→t σ H Q→wpAny (model X.prog X.w) X.A (isTrue e X.env whole) (TP X pins σ Q) X.xe s
theorem PW.pt {X:Cx}{e:Expr}{t:TT} (h:PW X e t):PT X e t:=h _
def PA (X:Cx) (es:List Expr) (t:TA):Prop:=
 ∀ (pos:Pos) (pins:List (Addr × Obj)) (s:Shared) (σ:St) (H:Hp) (Q:List V→Hp→Prop),Inv X pins σ H s→t σ H Q→wpAny (model X.prog X.w) X.A (spliced (backTo pos (starEach es X.env))) (AP X pins σ Q) X.xe s
def PS (X:Cx) (st:Stmt) (t:TS):Prop:=
 ∀ (pins:List (Addr × Obj)) (s:Shared) (σ:St) (H:Hp) (D:Ends),Inv X pins σ H s→t D σ H→wpAny (model X.prog X.w) X.A (exec st X.env) (SP X pins D) X.xe s
def PSs (X:Cx) (st:List Stmt) (t:TS):Prop:=
 ∀ (pins:List (Addr × Obj)) (s:Shared) (σ:St) (H:Hp) (D:Ends),Inv X pins σ H s→t D σ H→wpAny (model X.prog X.w) X.A (execs st X.env) (SP X pins D) X.xe s
theorem thn {α:Type}{t:Sem α}{Q Q':α→Shared→Prop}{M:Model}{A:Around}{E:Value→Shared→Prop}{s:Shared} (h:wpAny M A t Q E s) (hQ:∀ a s,Q a s→Q' a s):wpAny M A t Q' E s:=wpAny_mono h hQ fun _ _ x=>x
section
variable {X:Cx}
theorem bin {a b:Expr}{ta tb:TE} (ha:PE X a ta) (hb:PE X b tb) {pins:List (Addr × Obj)}{s:Shared}{σ:St}{H:Hp}{R:V→V→Hp→Prop} (I:Inv X pins σ H s) (h:ta σ H fun x H1=>tb σ H1 fun y H2=>R x y H2)
  {α:Type}{Q:α→Shared→Prop}{f:Value→Value→Sem α}
  (hf:∀ v u s2 x y H2,Inv X pins σ H2 s2→ZS x v→ZS y u→R x y H2→wpAny (model X.prog X.w) X.A (f v u) Q X.xe s2) :
  wpAny (model X.prog X.w) X.A (eval a X.env) (fun v s₁=>wpAny (model X.prog X.w) X.A (eval b X.env) (fun u s₂=>wpAny (model X.prog X.w) X.A (f v u) Q X.xe s₂) X.xe s₁) X.xe s:=by
 refine thn (ha pins s σ H _ I h) fun v s1 ⟨x,H1,I1,r1,q1⟩=>?_
 refine thn (hb pins s1 σ H1 _ I1 q1) fun u s2 ⟨y,H2,I2,r2,q2⟩=>?_
 exact hf v u s2 x y H2 I2 r1 r2 q2
inductive VarR (i:Nat) (σ:St) (H:Hp) (Q:VK):Prop
 | mk (v:V) (h:σ[i]?=some (some v)) (k:Q v H):VarR i σ H Q
def tVar (i:Nat):TE:=fun σ H Q=>VarR i σ H Q
def tC (v:V):TE:=fun _ H Q=>Q v H
theorem pe_var {i:Nat}{x:Str}{pos:Pos} (hN:X.N[i]?=some x) (hv:Vis X.env.scope x) (hd:(x == ("__debug__" : Str))=false:=by decide) (hcd:(x == ("__classdict__" : Str))=false:=by decide):PE X (.Name x pos) (tVar i):=by
 intro pins s σ H Q I h
 obtain ⟨v,e,h⟩:=h
 obtain ⟨m,hn,hl⟩:=I.loc
 obtain ⟨u,r,l⟩:=hl i x v hN e hv
 have fin:EP X pins σ Q u s:=⟨v,H,I,r,h⟩
 rcases l with ⟨hk,hm⟩ | ⟨hk,c,hc,hcell⟩
 ·exact wpAny_Name (wpAny_loadName_local I.ok.kind hk hn hm fin) hd
 ·rcases hk with hk | hk
  ·exact wpAny_Name (wpAny_loadName_cell I.ok.kind hk hc hcell fin) hd
  ·exact wpAny_Name (wpAny_loadName_free I.ok.kind hk hc hcell fin hcd) hd
theorem Zg {i j pos}:PE X (.Constant (.int i) j pos) (tC (.int i)):=fun _ _ _ H _ I h=>wpAny_Constant_int ⟨.int i,H,I.tok _,⟨_,rfl⟩,h⟩
theorem Xz {b j pos}:PE X (.Constant (.bool b) j pos) (tC (.bl b)):=fun _ _ _ H _ I h=>Constant_bool ⟨.bl b,H,I,rfl,h⟩
theorem yN {j pos}:PE X (.Constant .none j pos) (tC .non):=fun _ _ _ H _ I h=>Constant_none ⟨.non,H,I,rfl,h⟩
theorem Xm {x j pos}:PE X (.Constant (.str x) j pos) (tC (.str x)):=fun _ _ _ H _ I h=>Calls.Constant_str ⟨.str x,H,I.tok _,⟨_,rfl⟩,h⟩
def Gl (X:Cx) (x:Str):Prop:=X.env.kindOf x=some .globalImplicit
theorem Vs {E:Value→Shared→Prop}{pins:List (Addr × Obj)}{s:Shared}{σ:St}{H:Hp}{x:Str}{u:Value}{pos:Pos}{Q:Value→Shared→Prop} (I:Inv X pins σ H s) (hg:Gl X x) (hm:X.mg x=some u) (h:Q u s)
  (hd:(x == ("__debug__" : Str))=false:=by decide):wpAny (model X.prog X.w) X.A (eval (.Name x pos) X.env) Q E s:=
 Calls.Name_function_global I.ok.kind hg (Calls.loadGlobal_global (by rw [I.ok.glob];exact I.mod.glob.keeps I.bk) hm h) hd
theorem UJ {E:Value→Shared→Prop}{pins:List (Addr × Obj)}{s:Shared}{σ:St}{H:Hp}{x:Str}{u:Value}{pos:Pos}{Q:Value→Shared→Prop} (I:Inv X pins σ H s) (hg:Gl X x) (hm:X.mg x=none) (hv:bootBuiltins x=some u) (h:Q u s)
  (hn:x ≠ "__name__" := by decide) (hd:(x == ("__debug__" : Str))=false:=by decide):wpAny (model X.prog X.w) X.A (eval (.Name x pos) X.env) Q E s:=by
 obtain ⟨mb,h1,h2⟩:=I.mod.blt
 exact Calls.Name_function_global I.ok.kind hg (Calls.loadGlobal_builtin (by rw [I.ok.glob];exact I.mod.glob.keeps I.bk) hm (by rw [I.ok.blt];exact h1.keeps I.bk) ((h2 x hn).trans hv) h) hd
theorem pe_glob {x:Str}{v:V}{u:Value}{pos:Pos} (hg:Gl X x) (hm:X.mg x=some u) (r:ZS v u) (hd:(x == ("__debug__" : Str))=false:=by decide):PE X (.Name x pos) (tC v):=
 fun _ _ _ H _ I h=>Vs I hg hm ⟨v,H,I,r,h⟩ hd
theorem Xp {x:Str}{v:V}{u:Value}{pos:Pos} (hg:Gl X x) (hm:X.mg x=none) (hv:bootBuiltins x=some u) (r:ZS v u) (hn:x ≠ "__name__" := by decide) (hd:(x == ("__debug__" : Str))=false:=by decide):PE X (.Name x pos) (tC v):=
 fun _ _ _ H _ I h=>UJ I hg hm hv ⟨v,H,I,r,h⟩ hn hd
variable {a b:Expr}{ta tb:TE}{pos:Pos}
def PC (X:Cx) (op:CmpOp) (a b:Expr) (t:TE):Prop:=
 ∀ (pins:List (Addr × Obj)) (s:Shared) (σ:St) (H:Hp) (Q:VK),Inv X pins σ H s→t σ H Q →
  wpAny (model X.prog X.w) X.A (eval a X.env) (fun v s₁=>wpAny (model X.prog X.w) X.A (eval b X.env) (fun u s₂=>wpAny (model X.prog X.w) X.A (compareOp op v u) (EP X pins σ Q) X.xe s₂) X.xe s₁) X.xe s
theorem nobehind (b:Expr) {op:CmpOp} (h:op≠.In) (h2:op≠.NotIn):behindInMarks op b=false:=by
 have e1:(op == CmpOp.In)=false:=by cases op <;> first | rfl | exact absurd rfl h
 have e2:(op == CmpOp.NotIn)=false:=by cases op <;> first | rfl | exact absurd rfl h2
 cases b <;> simp [behindInMarks,e1,e2]
inductive BoolR (x:V) (H:Hp) (Q:Bool→Hp→Prop):Prop
 | mk (c:Bool) (h:x=.bl c) (k:Q c H):BoolR x H Q
def tB (t:TE):TT:=fun σ H Q=>t σ H fun x H1=>BoolR x H1 Q
theorem pt_cmp {op:CmpOp}{t:TE} (h:PC X op a b t) (h1:behindInMarks op b=false:=by first | exact nobehind _ (by decide) (by decide) | rfl):PT X (.Compare a [op] [b] pos) (tB t):=by
 intro pins s σ H Q I hw
 refine wpAny_isTrue_Compare1 (thn (h pins s σ H _ I hw) fun v s1 h1=>thn h1 fun u s2 h2=>thn h2 fun c s3 ⟨x,H1,I1,r1,q1⟩=>?_) h1
 obtain ⟨d,rfl,q⟩:=q1
 cases r1
 exact wpAny_truthy_bool ⟨H1,I1,q⟩
theorem Xa {e:Expr}{t:TE} (h:PE X e t) (he:∀ whole,isTrue e X.env whole=(do let v ← whole;standAt e.pos;holding [v] (truthy v)):=by intro _;rfl):PT X e (tB t):=by
 intro pins s σ H Q I hw
 refine isTrue_plain (thn (h pins s σ H _ I hw) fun v s1 ⟨x,H1,I1,r1,q1⟩=>?_) (he _)
 obtain ⟨d,rfl,q⟩:=q1
 cases r1
 exact wpAny_truthy_bool ⟨H1,I1,q⟩
variable {tA tB':TT}{Xc:List Expr}
def tAnd (t u:TT):TT:=fun σ H Q=>t σ H fun c H1=>if c=true then u σ H1 Q else Q false H1
def tOr (t u:TT):TT:=fun σ H Q=>t σ H fun c H1=>if c=true then Q true H1 else u σ H1 Q
def tNot (t:TT):TT:=fun σ H Q=>t σ H fun c H1=>Q (!c) H1
theorem ql (ha:PT X a tA):PW X (.BoolOp .And [a] pos) tA:=by
 intro wh pins s σ H Q I h
 refine isTrue_and (thn (ha pins s σ H Q I h) fun c s1 e=>?_)
 cases c with
 | true=>exact isTrue_and_nil e
 | false=>exact e
theorem Wn (ha:PT X a tA):PW X (.BoolOp .Or [a] pos) tA:=by
 intro wh pins s σ H Q I h
 refine isTrue_or (thn (ha pins s σ H Q I h) fun c s1 e=>?_)
 cases c with
 | false=>exact isTrue_or_nil e
 | true=>exact e
theorem xz (ha:PT X a tA) (hb:PW X (.BoolOp .And (b :: Xc) pos) tB'):PW X (.BoolOp .And (a :: b :: Xc) pos) (tAnd tA tB'):=by
 intro wh pins s σ H Q I h
 refine isTrue_and (thn (ha pins s σ H _ I h) fun c s1 ⟨H1,I1,q1⟩=>?_)
 cases c with
 | true=>exact hb wh pins s1 σ H1 Q I1 q1
 | false=>exact ⟨H1,I1,q1⟩
theorem Wt (ha:PT X a tA) (hb:PW X (.BoolOp .Or (b :: Xc) pos) tB'):PW X (.BoolOp .Or (a :: b :: Xc) pos) (tOr tA tB'):=by
 intro wh pins s σ H Q I h
 refine isTrue_or (thn (ha pins s σ H _ I h) fun c s1 ⟨H1,I1,q1⟩=>?_)
 cases c with
 | true=>exact ⟨H1,I1,q1⟩
 | false=>exact hb wh pins s1 σ H1 Q I1 q1
theorem YM (ha:PT X a tA):PT X (.UnaryOp .Not a pos) (tNot tA):=by
 intro pins s σ H Q I h
 exact isTrue_not (ha pins s σ H (fun c H1=>Q (!c) H1) I h)
def tAndV (ta tb:TE):TE:=fun σ H Q=>ta σ H fun x H1=>∃ c,x=.bl c∧if c=true then tb σ H1 Q else Q (.bl false) H1
def tOrV (ta tb:TE):TE:=fun σ H Q=>ta σ H fun x H1=>∃ c,x=.bl c∧if c=true then Q (.bl true) H1 else tb σ H1 Q
def tNotV (ta:TE):TE:=fun σ H Q=>ta σ H fun x H1=>∃ c,x=.bl c∧Q (.bl (!c)) H1
theorem XF {op} {t:TE} (h:PE X a t):PE X (.BoolOp op [a] pos) t:=fun pins s σ H Q I hw=>BoolOp_one (h pins s σ H Q I hw)
theorem Wl (ha:PE X a ta) (hb:PE X (.BoolOp .And (b :: Xc) pos) tb):PE X (.BoolOp .And (a :: b :: Xc) pos) (tAndV ta tb):=by
 intro pins s σ H Q I h
 refine BoolOp_and (thn (ha pins s σ H _ I h) fun v s1 ⟨x,H1,I1,r1,q1⟩=>?_)
 obtain ⟨c,rfl,q1⟩:=q1
 cases r1
 refine wpAny_truthy_bool ?_
 cases c with
 | true=>exact hb pins s1 σ H1 Q I1 q1
 | false=>exact ⟨.bl false,H1,I1,rfl,q1⟩
theorem pe_or (ha:PE X a ta) (hb:PE X (.BoolOp .Or (b :: Xc) pos) tb):PE X (.BoolOp .Or (a :: b :: Xc) pos) (tOrV ta tb):=by
 intro pins s σ H Q I h
 refine BoolOp_or (thn (ha pins s σ H _ I h) fun v s1 ⟨x,H1,I1,r1,q1⟩=>?_)
 obtain ⟨c,rfl,q1⟩:=q1
 cases r1
 refine wpAny_truthy_bool ?_
 cases c with
 | false=>exact hb pins s1 σ H1 Q I1 q1
 | true=>exact ⟨.bl true,H1,I1,rfl,q1⟩
theorem pe_not (ha:PE X a ta):PE X (.UnaryOp .Not a pos) (tNotV ta):=by
 intro pins s σ H Q I h
 refine UnaryOp_ (thn (ha pins s σ H _ I h) fun v s1 ⟨x,H1,I1,r1,q1⟩=>?_)
 obtain ⟨c,rfl,q1⟩:=q1
 cases r1
 exact not_of (wpAny_truthy_bool ⟨.bl (!c),H1,I1,rfl,q1⟩)
end
def SqL (K:PySem.W.Frag) (H:Hp) (a:Addr) (xs:List V):Prop:=
 Rd H a (.lst xs) ∨
  ∃ (o:Obj) (its:Array Value) (n:Nat),K.lookup a=some o∧o.cls=.type "list" ∧ o.dict=none∧o.data=.seq its n∧its.size≤sizeLine∧ZE xs its.toList
def SqT (K:PySem.W.Frag) (H:Hp) (a:Addr) (xs:List V):Prop:=
 Rd H a (.tup xs) ∨
  ∃ (o:Obj) (its:Array Value) (n:Nat),K.lookup a=some o∧o.cls=.type "tuple" ∧ o.data=.seq its n∧its.size≤sizeLine∧ZE xs its.toList
def absV:Value→Option V
 | .none=>some .non
 | .bool b=>some (.bl b)
 | .int i _=>some (.int i)
 | .str x _=>some (.str x)
 | .bytes b _=>some (.byt b)
 | .float b _=>some (.flt b)
 | .ref a=>some (.ref a)
 | .type n=>some (.ty n)
 | _=>none
theorem ZS.abs {x:V}{u:Value} (r:ZS x u):absV u=some x:=by
 cases x with
 | non=>cases r;rfl
 | bl _=>cases r;rfl
 | int _=>obtain ⟨t,rfl⟩:=r;rfl
 | str _=>obtain ⟨t,rfl⟩:=r;rfl
 | byt _=>obtain ⟨t,rfl⟩:=r;rfl
 | flt _=>obtain ⟨t,rfl⟩:=r;rfl
 | ref _=>cases r;rfl
 | ty _=>cases r;rfl
theorem ZS.inj {x y:V}{u:Value} (r:ZS x u) (q:ZS y u):x=y:=Option.some.inj (r.abs.symm.trans q.abs)
theorem ZE.inj:∀ {xs ys:List V}{us:List Value},ZE xs us→ZE ys us→xs=ys
 | _,_,_,.nil,.nil=>rfl
 | _,_,_,.cons r t,.cons r' t'=>by rw [r.inj r',ZE.inj t t']
section
variable {X:Cx}{pins:List (Addr × Obj)}{σ:St}{H:Hp}{s:Shared}{a:Addr}{xs ys:List V}
theorem SqL.of {K:PySem.W.Frag} (h:H a=some (.lst xs)):SqL K H a xs:=.inl (.inl h)
theorem SqT.of {K:PySem.W.Frag} (h:H a=some (.tup xs)):SqT K H a xs:=.inl (.inl h)
theorem Inv.list (I:Inv X pins σ H s) (h:SqL X.K H a xs):∃ its:List Value,ZE xs its∧PlainL s.heap a its.toArray∧xs.length≤sizeLine:=by
 rcases h with h | ⟨o,its,n,hk,hc,hd,hs,hz,r⟩
 ·obtain ⟨z,its,n,r,e⟩:=h.ok I.hok
  exact ⟨its,r,⟨_,n,e,rfl,rfl,rfl⟩,z⟩
 ·refine ⟨its.toList,r,⟨o,n,I.kIn a o hk,hc,hd,by simpa using hs⟩,?_⟩
  have e:=r.length
  simp only [Array.length_toList] at e
  omega
theorem Inv.tuple (I:Inv X pins σ H s) (h:SqT X.K H a xs):∃ its:List Value,ZE xs its∧IsTup s.heap a its.toArray∧xs.length≤sizeLine:=by
 rcases h with h | ⟨o,its,n,hk,hc,hs,hz,r⟩
 ·obtain ⟨z,its,r,p⟩:=h.ok I.hok
  exact ⟨its,r,p,z⟩
 ·refine ⟨its.toList,r,⟨o,I.kIn a o hk,hc,n,by simpa using hs⟩,?_⟩
  have e:=r.length
  simp only [Array.length_toList] at e
  omega
theorem Inv.list_inj (I:Inv X pins σ H s) (h:SqL X.K H a xs) (h':SqL X.K H a ys):xs=ys:=by
 obtain ⟨its,r,⟨o,n,e,_,_,d⟩,_⟩:=I.list h
 obtain ⟨its',r',⟨o',n',e',_,_,d'⟩,_⟩:=I.list h'
 rw [e] at e';cases e'
 rw [d] at d'
 injection d' with d1 _
 have:its=its':=by simpa using congrArg Array.toList d1
 subst this
 exact r.inj r'
theorem Inv.tuple_inj (I:Inv X pins σ H s) (h:SqT X.K H a xs) (h':SqT X.K H a ys):xs=ys:=by
 obtain ⟨its,r,⟨o,e,_,n,d⟩,_⟩:=I.tuple h
 obtain ⟨its',r',⟨o',e',_,n',d'⟩,_⟩:=I.tuple h'
 rw [e] at e';cases e'
 rw [d] at d'
 injection d' with d1 _
 have:its=its':=by simpa using congrArg Array.toList d1
 subst this
 exact r.inj r'
end
abbrev Cx.wish (X:Cx) (E:Value→Shared→Prop):Cx:={ X with xe:=E }
abbrev Cx.nox (X:Cx):Cx:=X.wish fun _ _=>False
theorem Cx.Ok.wish {X:Cx} (ok:X.Ok) (E:Value→Shared→Prop):(X.wish E).Ok:=
 ⟨ok.mod,ok.kind,ok.glob,ok.blt,ok.above,ok.inj,ok.has,ok.cab,ok.hd,ok.frames,ok.stk,ok.exf,ok.bs,ok.bsz,ok.noex,ok.exfs,ok.funs,ok.frf⟩
theorem Cx.Ok.unwish {X:Cx}{E:Value→Shared→Prop} (ok:(X.wish E).Ok):X.Ok:=
 ⟨ok.mod,ok.kind,ok.glob,ok.blt,ok.above,ok.inj,ok.has,ok.cab,ok.hd,ok.frames,ok.stk,ok.exf,ok.bs,ok.bsz,ok.noex,ok.exfs,ok.funs,ok.frf⟩
section
variable {X:Cx}{pins:List (Addr × Obj)}{σ:St}{H:Hp}{s:Shared}{E:Value→Shared→Prop}
theorem Inv.wish (I:Inv X pins σ H s) (E:Value→Shared→Prop):Inv (X.wish E) pins σ H s:=⟨I.ok.wish E,I.os,I.bare,I.base,I.loc,I.cell,I.free,I.freeC,I.pin,I.hok,I.len⟩
theorem Inv.unwish (I:Inv (X.wish E) pins σ H s):Inv X pins σ H s:=⟨I.ok.unwish,I.os,I.bare,I.base,I.loc,I.cell,I.free,I.freeC,I.pin,I.hok,I.len⟩
theorem SP.unwish {D:Ends}{f:Flow}{s':Shared} (h:SP (X.wish E) pins D f s'):SP X pins D f s':=by
 cases f with
 | next=>obtain ⟨σ',H',I,q⟩:=h;exact ⟨σ',H',I.unwish,q⟩
 | brk=>obtain ⟨σ',H',I,q⟩:=h;exact ⟨σ',H',I.unwish,q⟩
 | cont=>obtain ⟨σ',H',I,q⟩:=h;exact ⟨σ',H',I.unwish,q⟩
 | ret u=>obtain ⟨v,σ',H',I,r,q⟩:=h;exact ⟨v,σ',H',I.unwish,r,q⟩
theorem PT.nox {e:Expr}{t:TT} (h:PT X.nox e t):PT X e t:=fun pins s σ H Q I hw=>
 wpAny_mono (h pins s σ H Q (I.wish _) hw) (fun _ _ ⟨H',I',q⟩=>⟨H',I'.unwish,q⟩) fun _ _ z=>False.elim z
theorem PSs.nox {st:List Stmt}{t:TS} (h:PSs X.nox st t):PSs X st t:=fun pins s σ H D I hw=>
 wpAny_mono (h pins s σ H D (I.wish _) hw) (fun _ _ q=>q.unwish) fun _ _ z=>False.elim z
end
section
variable {X:Cx}{st:Stmt}{Xc:List Stmt}{t u:TS}{e:Expr}{te:TE}{pos:Pos}
def tNext:TS:=fun D σ H=>D.nx σ H
def tSeq (t u:TS):TS:=fun D σ H=>t { D with nx:=u D } σ H
theorem ZL:PSs X [] tNext:=fun _ _ σ H _ I h=>wpAny_execs_nil ⟨σ,H,I,h⟩
theorem Ze (h1:PS X st t) (h2:PSs X Xc u):PSs X (st :: Xc) (tSeq t u):=by
 intro pins s σ H D I h
 refine wpAny_execs_cons (thn (h1 pins s σ H { D with nx:=u D } I h) fun f s1 q=>?_)
 cases f with
 | next=>
  obtain ⟨σ',H',I',q⟩:=q
  exact h2 pins s1 σ' H' D I' q
 | ret v=>exact q
 | brk=>exact q
 | cont=>exact q
theorem Zh (h1:PS X st t):PSs X [st] t:=by
 intro pins s σ H D I h
 refine wpAny_execs_cons (thn (h1 pins s σ H D I h) fun f s1 q=>?_)
 cases f with
 | next=>exact wpAny_execs_nil q
 | ret v=>exact q
 | brk=>exact q
 | cont=>exact q
theorem Inv.quiet {pins:List (Addr × Obj)}{σ:St}{H:Hp}{s:Shared} (I:Inv X pins σ H s):interactive X.env=false:=by simp [interactive,I.ok.kind]
def tDrop (te:TE):TS:=fun D σ H=>te σ H fun _ H1=>D.nx σ H1
theorem Y9 (he:PE X e te) (hs:swapsWith e none pos.line X.env=pure false:=by rfl):PS X (.Expr e pos) (tDrop te):=by
 intro pins s σ H D I h
 exact wpAny_Expr_any (thn (he pins s σ H _ I h) fun v s1 ⟨x,H1,I1,r1,q1⟩=>⟨σ,H1,I1,q1⟩) I.quiet hs
def tRet (te:TE):TS:=fun D σ H=>te σ H D.rt
theorem Zx (he:PE X e te):PS X (.Return (some e) pos) (tRet te):=by
 intro pins s σ H D I h
 exact wpAny_Return_some (thn (he pins s σ H _ I h) fun v s1 ⟨x,H1,I1,r1,q1⟩=>⟨x,σ,H1,I1,r1,q1⟩)
def tIfS (c:TT) (t u:TS):TS:=fun D σ H=>c σ H fun b H1=>if b=true then t D σ H1 else u D σ H1
theorem YF {c:Expr}{a b:List Stmt}{tc:TT} (hc:PT X c tc) (ha:PSs X a t) (hb:PSs X b u):PS X (.If c a b pos) (tIfS tc t u):=by
 intro pins s σ H D I h
 refine wpAny_If (thn (hc pins s σ H _ I h) fun d s1 ⟨H1,I1,q1⟩=>?_)
 cases d with
 | true=>exact ha pins s1 σ H1 D I1 q1
 | false=>exact hb pins s1 σ H1 D I1 q1
def tNever:TS:=fun _ _ _=>False
theorem vc:PS X st tNever:=fun _ _ _ _ _ _ h=>h.elim
theorem pss_never {sts:List Stmt}:PSs X sts tNever:=fun _ _ _ _ _ _ h=>h.elim
end
abbrev TG:=V→St→Hp→(St→Hp→Prop)→Prop
abbrev TGs:=List V→St→Hp→(St→Hp→Prop)→Prop
def PG (X:Cx) (target:Expr) (t:TG):Prop:=
 ∀ (pins:List (Addr × Obj)) (s:Shared) (σ:St) (H:Hp) (v:V) (u:Value) (Q:St→Hp→Prop),Inv X pins σ H s→ZS v u→t v σ H Q →
  wpAny (model X.prog X.w) X.A (assign target X.env u) (fun _ s'=>∃ σ' H',Inv X pins σ' H' s'∧Q σ' H') X.xe s
def PGs (X:Cx) (ts:List Expr) (t:TGs):Prop:=
 ∀ (pins:List (Addr × Obj)) (s:Shared) (σ:St) (H:Hp) (vs:List V) (us:List Value) (Q:St→Hp→Prop),Inv X pins σ H s→ZE vs us→t vs σ H Q →
  wpAny (model X.prog X.w) X.A (assignInOrder ((assignEach ts X.env).map (·.2)) us) (fun _ s'=>∃ σ' H',Inv X pins σ' H' s'∧Q σ' H') X.xe s
section
variable {X:Cx}{pos:Pos}
def yK (i:Nat):TG:=fun v σ H Q=>Q (σ.set i (some v)) H
theorem Zm {i:Nat}{x:Str} (hN:X.N.Nodup) (hi:X.N[i]?=some x) (hx:Loc X.env.scope x) (hf:X.fn x=true∨X.env.scope.names.lookup x=some .local:=by first | exact .inl rfl | exact .inr rfl | assumption):PG X (.Name x pos) (yK i):=by
 intro pins s σ H v u Q I r h
 exact wpAny_assign_Name (V0 I hN hi hx r (fun s' I'=>⟨_,H,I',h⟩) hf)
def gNil:TGs:=fun vs σ H Q=>vs=[]∧Q σ H
def gCons (t:TG) (u:TGs):TGs:=fun vs σ H Q=>∃ v r,vs=v :: r∧t v σ H fun σ' H'=>u r σ' H' Q
theorem XX:PGs X [] gNil:=by
 intro pins s σ H vs us Q I r h
 obtain ⟨e,h⟩:=h
 subst e
 cases r
 exact assignInOrder_nil ⟨σ,H,I,h⟩
theorem ZF {e:Expr}{es:List Expr}{t:TG}{u:TGs} (h1:PG X e t) (h2:PGs X es u)
  (hs:(assignEach (e :: es) X.env).map (·.2)=assign e X.env :: (assignEach es X.env).map (·.2):=by rfl):PGs X (e :: es) (gCons t u):=by
 intro pins s σ H vs us Q I r h
 obtain ⟨v,vr,e1,h⟩:=h
 subst e1
 cases r with
 | cons r rr=>
  rw [hs]
  refine assignInOrder_cons (thn (h1 pins s σ H _ _ _ I r h) fun _ s1 ⟨σ1,H1,I1,q1⟩=>?_)
  exact h2 pins s1 σ1 H1 _ _ Q I1 rr q1
def gTup (K:PySem.W.Frag) (n:Nat) (t:TGs):TG:=fun v σ H Q=>∃ a xs,v=.ref a∧SqT K H a xs∧xs.length=n∧t xs σ H Q
theorem pg_tup {es:List Expr}{k:Nat}{t:TGs}{n:Nat} (hc:X.calm=true) (h:PGs X es t)
  (hn:(assignEach es X.env).length=n:=by rfl) (hst:(assignEach es X.env).findIdx? (·.1)=none:=by rfl):PG X (.Tuple es k pos) (gTup X.K n t):=by
 intro pins s σ H v u Q I r hw
 obtain ⟨a,xs,e1,hq,hl,hw⟩:=hw
 subst e1
 cases r
 obtain ⟨its,rv,ht,hz⟩:=I.tuple hq
 refine assign_Tuple_tuple (I.ok.hd hc) ht (by simp [hn,← hl,rv.length]) hst fun h' hx=>?_
 have I1:Inv X pins σ H { s with heap:=h' }:=I.kept (t':=s.toks) fun b o e=>hx b o (Nat.ne_of_lt (Heap.lt_size e)) e
 exact h pins _ σ H xs _ Q I1 (by simpa using rv) hw
def tAsg (te:TE) (g:TG):TS:=fun D σ H=>te σ H fun x H1=>g x σ H1 D.nx
theorem ps_asg {tg e:Expr}{te:TE}{g:TG} (he:PE X e te) (hg:PG X tg g) (hs:swapsWithSole [tg] e pos.line X.env=pure false:=by rfl) (hw:swappedStores [tg] e X.env=pure none:=by rfl)
  (h1:(assignEach [tg] X.env).map (·.2)=[assign tg X.env]:=by rfl):PS X (.Assign [tg] e pos) (tAsg te g):=by
 intro pins s σ H D I h
 refine wpAny_Assign_stores (thn (he pins s σ H _ I h) fun v s1 ⟨x,H1,I1,r1,q1⟩=>?_) hs hw
 rw [h1]
 exact thn (hg pins s1 σ H1 x v _ I1 r1 q1) fun _ s2 q=>q
theorem Zt {i:Nat}{x:Str}{e:Expr}{te:TE}{pos':Pos} (hN:X.N.Nodup) (hi:X.N[i]?=some x) (hx:Loc X.env.scope x) (he:PE X e te) (hs:swapsWith e (some (.Name x pos')) pos.line X.env=pure false:=by rfl) (hf:X.fn x=true∨X.env.scope.names.lookup x=some .local:=by first | exact .inl rfl | exact .inr rfl | assumption) :
  PS X (.Assign [.Name x pos'] e pos) (tAsg te (yK i)):=by
 intro pins s σ H D I h
 refine wpAny_Assign_Name (thn (he pins s σ H _ I h) fun v s1 ⟨y,H1,I1,r1,q1⟩=>?_) hs
 exact V0 I1 hN hi hx r1 (fun s2 I2=>⟨_,H1,I2,q1⟩) hf
end
section
variable {X:Cx}{pos:Pos}
def tWhile (c:TT) (tb:TS):TS:=fun D σ H=>∃ W:Nat→St→Hp→Prop,(∃ m,W m σ H)∧∀ m σ H,W m σ H →
 c σ H fun b H1=>if b=true then ∃ N:St→Hp→Prop,(∀ σ' H',N σ' H'→∃ m',m'<m∧W m' σ' H')∧tb { D with nx:=N,ct:=N,bk:=D.nx } σ H1 else D.nx σ H1
theorem qW {c:Expr}{body:List Stmt}{tc:TT}{tb:TS} (hp:PassesOwn (model X.prog X.w) X.A X.env X.xe) (hc:PT X c tc) (hb:PSs X body tb):PS X (.While c body [] pos) (tWhile tc tb):=by
 intro pins s σ H D I h
 obtain ⟨W,⟨m0,w0⟩,turn⟩:=h
 refine wpAny_While (codeAny_whileLoop (fun n s'=>∃ σ' H',Inv X pins σ' H' s'∧W n σ' H') ?_ m0 ⟨σ,H,I,w0⟩)
 rintro n s1 ⟨σ1,H1,I1,w1⟩
 refine wpAny_passesOwn hp (thn (hc pins s1 σ1 H1 _ I1 (turn n σ1 H1 w1)) fun b s2 ⟨H2,I2,q2⟩=>?_)
 cases b with
 | true=>
  obtain ⟨N,hN,q2⟩:=q2
  rw [if_pos rfl]
  refine wpAny_passesOwn hp (thn (hb pins s2 σ1 H2 _ I2 q2) fun f s3 q3=>?_)
  cases f with
  | next=>
   obtain ⟨σ3,H3,I3,n3⟩:=q3
   obtain ⟨m',hm,w3⟩:=hN σ3 H3 n3
   exact ⟨m',hm,σ3,H3,I3,w3⟩
  | cont=>
   obtain ⟨σ3,H3,I3,n3⟩:=q3
   obtain ⟨m',hm,w3⟩:=hN σ3 H3 n3
   exact ⟨m',hm,σ3,H3,I3,w3⟩
  | brk=>exact q3
  | ret v=>exact q3
 | false=>
  rw [if_neg Bool.false_ne_true]
  exact wpAny_execs_nil ⟨σ1,H2,I2,q2⟩
end
structure It where
 go:Nat→Hp→Prop
 yld:Nat→Hp→V→Hp→Prop
 stop:Nat→Hp→Prop
def Ve (X:Cx) (pins:List (Addr × Obj)) (H:Hp) (b:Addr):Prop:=
 H b=none∧b≠X.env.locals∧b∉X.fs∧(b∈X.ex∨X.s₀.heap.objs.size≤b)∧(∀ x c,X.env.cells.lookup x=some c→c≠b)∧∀ p∈X.pn++pins,p.1≠b
theorem Inv.fpOk {X:Cx}{pins:List (Addr × Obj)}{σ:St}{H H':Hp}{s:Shared}{b:Addr} (I:Inv X pins σ H s) (hb:s.heap.objs.size≤b) (hn:H' b=none):Ve X pins H' b:=by
 refine ⟨hn,Nat.ne_of_gt (Nat.lt_of_lt_of_le I.lt hb),I.nofs hb,.inr (Nat.le_trans I.sz hb),fun x c e z=>?_,fun p hp z=>?_⟩
 ·obtain ⟨v,q⟩:=I.cell x c e
  exact absurd (Nat.lt_of_lt_of_le q.lt (by rw [z];exact hb)) (Nat.lt_irrefl _)
 ·exact absurd (Nat.lt_of_lt_of_le (Heap.lt_size (I.pin p hp).1) (by rw [z];exact hb)) (Nat.lt_irrefl _)
structure Turn (P:Program) (w:World) (K:PySem.W.Frag) (tg:Expr) (J:It) (fp:List Addr) (it:Addr) (tn:Nat→Heap→Prop):Prop where
 mem:it∈fp
 obj:∀ i h,tn i h→∀ b∈fp,∃ o,h.get? b=some o∧∀ v,o.data≠.cell v
 keep:∀ i h h',tn i h→(∀ b∈fp,∀ o,h.get? b=some o→h'.get? b=some o)→tn i h'
 item:∀ (X:Cx),X.prog=P→X.w=w→X.K=K→X.calm=true→∀ (i:Nat) (pins:List (Addr × Obj)) (s:Shared) (σ:St) (H:Hp) (E:Value→Shared→Prop),Inv X pins σ H s→(∀ b∈fp,Ve X pins H b)→tn i s.heap→J.go i H →
  wpAny (model P w) X.A (pyNext (.ref it)) (fun r s1=>∃ u,r=some u ∧
   wpAny (model P w) X.A (letOwnedTupleGo tg (.ref it) u) (fun _ s2=>∃ x H',Inv X pins σ H' s2∧ZS x u∧J.yld i H x H'∧tn (i+1) s2.heap∧∀ b∈fp,H' b=none) E s1) E s
 done:∀ (X:Cx),X.prog=P→X.w=w→X.K=K→X.calm=true→∀ (i:Nat) (pins:List (Addr × Obj)) (s:Shared) (σ:St) (H:Hp) (E:Value→Shared→Prop),Inv X pins σ H s→(∀ b∈fp,Ve X pins H b)→tn i s.heap→J.stop i H →
  wpAny (model P w) X.A (pyNext (.ref it)) (fun r s1=>r=none∧Inv X pins σ H s1) E s
 self:∀ (A:Around) (i:Nat) (s:Shared) (Q:Value→Shared→Prop) (E:Value→Shared→Prop),tn i s.heap→Q (.ref it) s→wpAny (model P w) A (pyIter (.ref it)) Q E s
abbrev TI:=St→Hp→(It→Hp→Prop)→Prop
def PIE (X:Cx) (pins:List (Addr × Obj)) (σ:St) (tg:Expr) (R:It→Hp→Prop) (itv:Value) (s2:Shared):Prop:=
 ∃ (it:Addr) (fp:List Addr) (tn:Nat→Heap→Prop) (J:It) (H':Hp),itv=.ref it∧Inv X pins σ H' s2∧Turn X.prog X.w X.K tg J fp it tn∧tn 0 s2.heap∧(∀ b∈fp,Ve X pins H' b)∧R J H'
def PI (X:Cx) (tg iter:Expr) (wi:TI):Prop:=
 ∀ (pins:List (Addr × Obj)) (s:Shared) (σ:St) (H:Hp) (R:It→Hp→Prop),Inv X pins σ H s→wi σ H R →
  wpAny (model X.prog X.w) X.A (eval iter X.env) (fun v s1=>wpAny (model X.prog X.w) X.A (pyIter v) (PIE X pins σ tg R) X.xe s1) X.xe s
theorem go_of {M:Model}{A:Around}{E:Value→Shared→Prop}{s:Shared}{tg:Expr}{it:Addr}{u:Value}{o:Obj}{n:String}{vs:Array Value}{Q:Unit→Shared→Prop} (ho:s.heap.get? it=some o) (hc:o.cls=.type n) (hd:o.data=.fields vs)
    (hn:["enumerate", "zip", "dict_itemiterator", "dict_reverseitemiterator", "odict_iterator", "itertools.zip_longest", "itertools.pairwise"].contains n=false) (hQ:Q () s):wpAny M A (letOwnedTupleGo tg (.ref it) u) Q E s:=by
  unfold letOwnedTupleGo
  cases tg <;> first
    | exact wpAny_pure hQ
    | (cases u <;> first
        | exact wpAny_pure hQ
        | (refine wpAny_bind (wpAny_load ho ?_)
           rw [hc,hd]
           show wpAny M A (if (["enumerate", "zip", "dict_itemiterator", "dict_reverseitemiterator", "odict_iterator", "itertools.zip_longest", "itertools.pairwise"].contains n && vs[0]? == some (rawInt _))=true then _ else _) Q E s
           rw [if_neg (by intro h;rw [hn,Bool.false_and] at h;cases h)]
           exact wpAny_pure hQ))
def Itl (K:PySem.W.Frag) (a:Addr):It:=
 ⟨fun i H=>∃ xs x,SqL K H a xs∧xs[i]?=some x,fun i H x H'=>H'=H∧∀ xs,SqL K H a xs→xs[i]?=some x,fun i H=>∃ xs,SqL K H a xs∧xs.length≤i⟩
def Itt (K:PySem.W.Frag) (a:Addr):It:=
 ⟨fun i H=>∃ xs x,SqT K H a xs∧xs[i]?=some x,fun i H x H'=>H'=H∧∀ xs,SqT K H a xs→xs[i]?=some x,fun i H=>∃ xs,SqT K H a xs∧xs.length≤i⟩
def Itr (lo:Int) (n:Nat):It:=⟨fun i _=>i<n,fun i H x H'=>H'=H∧x=.int (lo+i),fun i _=>n≤i⟩
theorem turn_list {P:Program}{w:World}{K:PySem.W.Frag}{tg:Expr} (a it:Addr):Turn P w K tg (Itl K a) [it] it (fun i h=>h.IsListIter it a i) where
 mem:=by simp
 obj:=fun i h st b hb=>by
  have e:b=it:=by simpa using hb
  subst e
  obtain ⟨o,e,c,d⟩:=st
  exact ⟨o,e,fun v z=>by rw [d] at z;cases z⟩
 keep:=fun i h h' st k=>st.at fun o e=>k it (by simp) o e
 item:=by
  intro X hP hw hK hc i pins s σ H E I hf st hg
  subst hP hw hK
  obtain ⟨xs,x,hq,hx⟩:=hg
  obtain ⟨its,rv,p,hz⟩:=I.list hq
  obtain ⟨u,hu,ru⟩:=rv.get hx
  obtain ⟨f0,f1,f2,f3,f4,f5⟩:=hf it (by simp)
  refine wpAny_pyNext_list_item st p.isList (x:=u) (by simpa using hu) fun h' st' sb=>?_
  have I1:Inv X pins σ H { s with heap:=h' }:=I.turned (t':=s.toks) (fun b o hb e=>(sb.2 b hb).trans e) f0 f1 f3 f4 f5
  obtain ⟨o,e,c,d⟩:=id st'
  exact ⟨u,rfl,go_of (s:={ s with heap:=h' }) e c d (by decide) ⟨x,H,I1,ru,⟨rfl,fun ys hy=>by rw [I.list_inj hy hq];exact hx⟩,st',fun b hb=>(hf b hb).1⟩⟩
 done:=by
  intro X hP hw hK hc i pins s σ H E I hf st hg
  subst hP hw hK
  obtain ⟨xs,hq,hx⟩:=hg
  obtain ⟨its,rv,p,hz⟩:=I.list hq
  obtain ⟨f0,f1,f2,f3,f4,f5⟩:=hf it (by simp)
  have hl:=rv.length
  exact wpAny_pyNext_list_end (I.ok.hd hc) st p.isList (by simp;omega) fun h' eb=>⟨rfl,I.turned (t':=s.toks) (fun b o hb e=>eb b o hb e) f0 f1 f3 f4 f5⟩
 self:=fun _ _ _ _ _ st h=>wpAny_pyIter_listiter st h
theorem v5 {P:Program}{w:World}{K:PySem.W.Frag}{tg:Expr} (a it:Addr):Turn P w K tg (Itt K a) [it] it (fun i h=>h.IsTupleIter it a i) where
 mem:=by simp
 obj:=fun i h st b hb=>by
  have e:b=it:=by simpa using hb
  subst e
  obtain ⟨o,e,c,d⟩:=st
  exact ⟨o,e,fun v z=>by rw [d] at z;cases z⟩
 keep:=fun i h h' st k=>st.at fun o e=>k it (by simp) o e
 item:=by
  intro X hP hw hK hc i pins s σ H E I hf st hg
  subst hP hw hK
  obtain ⟨xs,x,hq,hx⟩:=hg
  obtain ⟨its,rv,p,hz⟩:=I.tuple hq
  obtain ⟨u,hu,ru⟩:=rv.get hx
  obtain ⟨f0,f1,f2,f3,f4,f5⟩:=hf it (by simp)
  refine wpAny_pyNext_tuple_item st (show s.heap.IsTuple a its.toArray from p) (x:=u) (by simpa using hu) fun h' st' sb=>?_
  have I1:Inv X pins σ H { s with heap:=h' }:=I.turned (t':=s.toks) (fun b o hb e=>(sb.2 b hb).trans e) f0 f1 f3 f4 f5
  obtain ⟨o,e,c,d⟩:=id st'
  exact ⟨u,rfl,go_of (s:={ s with heap:=h' }) e c d (by decide) ⟨x,H,I1,ru,⟨rfl,fun ys hy=>by rw [I.tuple_inj hy hq];exact hx⟩,st',fun b hb=>(hf b hb).1⟩⟩
 done:=by
  intro X hP hw hK hc i pins s σ H E I hf st hg
  subst hP hw hK
  obtain ⟨xs,hq,hx⟩:=hg
  obtain ⟨its,rv,p,hz⟩:=I.tuple hq
  obtain ⟨f0,f1,f2,f3,f4,f5⟩:=hf it (by simp)
  have hl:=rv.length
  exact wpAny_pyNext_tuple_end (I.ok.hd hc) st (show s.heap.IsTuple a its.toArray from p) (by simp;omega) fun h' eb=>⟨rfl,I.turned (t':=s.toks) (fun b o hb e=>eb b o hb e) f0 f1 f3 f4 f5⟩
 self:=fun _ _ _ _ _ st h=>wpAny_pyIter_tupleiter st h
theorem vY {P:Program}{w:World}{K:PySem.W.Frag}{tg:Expr} (it:Addr) (lo:Int) (n:Nat):Turn P w K tg (Itr lo n) [it] it (fun i h=>IsRangeIter h it (lo+(i:Nat) * 1) ((n:Int) - (i:Nat)) 1) where
 mem:=by simp
 obj:=fun i h st b hb=>by
  have e:b=it:=by simpa using hb
  subst e
  exact ⟨_,st,fun v z=>by
   have z':Data.fields _=Data.cell v:=z
   cases z'⟩
 keep:=fun i h h' st k=>k it (by simp) _ st
 item:=by
  intro X hP hw hK hc i pins s σ H E I hf st hg
  subst hP hw hK
  obtain ⟨f0,f1,f2,f3,f4,f5⟩:=hf it (by simp)
  have W:=Walks.range (prog:=X.prog) (w:=X.w) (I.ok.hd hc) it lo 1 n
  refine W.item i s _ _ hg st fun v h' tk hv st' kk=>?_
  obtain ⟨t,rfl⟩:=hv
  have I1:Inv X pins σ H { s with heap:=h',toks:=tk }:=I.turned (fun b o hb e=>kk b o (by simpa using hb) e) f0 f1 f3 f4 f5
  refine ⟨_,rfl,go_of (s:={ s with heap:=h',toks:=tk }) (n := "range_iterator") st' rfl rfl (by decide) ⟨.int (lo+i),H,I1,⟨t,?_⟩,⟨rfl,rfl⟩,st',fun b hb=>(hf b hb).1⟩⟩
  rw [Int.mul_one]
 done:=by
  intro X hP hw hK hc i pins s σ H E I hf st hg
  subst hP hw hK
  obtain ⟨f0,f1,f2,f3,f4,f5⟩:=hf it (by simp)
  exact wpAny_pyNext_range_end (I.ok.hd hc) st (by have:n≤i:=hg;omega) fun h' eb=>⟨rfl,I.turned (t':=s.toks) (fun b o hb e=>eb b o hb e) f0 f1 f3 f4 f5⟩
 self:=fun _ _ _ _ _ st h=>wpAny_pyIter_rangeiter st h
section
variable {X:Cx}{tg:Expr}
inductive ItlR (K:PySem.W.Frag) (x:V) (H:Hp) (R:It→Hp→Prop):Prop
 | mk (a:Addr) (h:x=.ref a) (h2:∃ xs,SqL K H a xs) (k:R (Itl K a) H):ItlR K x H R
def iList (K:PySem.W.Frag) (tl:TE):TI:=fun σ H R=>tl σ H fun x H1=>ItlR K x H1 R
def iTup (K:PySem.W.Frag) (tl:TE):TI:=fun σ H R=>tl σ H fun x H1=>∃ a,x=.ref a∧(∃ xs,SqT K H1 a xs)∧R (Itt K a) H1
theorem pi_list {l:Expr}{tl:TE} (hl:PE X l tl):PI X tg l (iList X.K tl):=by
 intro pins s σ H R I h
 refine thn (hl pins s σ H _ I h) fun v s1 ⟨x,H1,I1,r1,q1⟩=>?_
 obtain ⟨a,e,⟨xs,hq⟩,q⟩:=q1
 subst e
 cases r1
 obtain ⟨its,rv,p,hz⟩:=I1.list hq
 refine wpAny_pyIter_list p.isList ?_
 refine ⟨s1.heap.objs.size,[s1.heap.objs.size],_,_,H1,rfl,I1.kept (t':=s1.toks) fun b o e=>Heap.get?_push_of_some _ e,turn_list a _,⟨_,Heap.get?_push_size _ rfl,rfl,rfl⟩,fun b hb=>?_,q⟩
 have e:b=s1.heap.objs.size:=by simpa using hb
 subst e
 exact I1.fpOk (Nat.le_refl _) (I1.hok.fresh (Nat.le_refl _))
theorem pi_tup {l:Expr}{tl:TE} (hl:PE X l tl):PI X tg l (iTup X.K tl):=by
 intro pins s σ H R I h
 refine thn (hl pins s σ H _ I h) fun v s1 ⟨x,H1,I1,r1,q1⟩=>?_
 obtain ⟨a,e,⟨xs,hq⟩,q⟩:=q1
 subst e
 cases r1
 obtain ⟨its,rv,p,hz⟩:=I1.tuple hq
 refine wpAny_pyIter_tuple (show s1.heap.IsTuple a its.toArray from p) ?_
 refine ⟨s1.heap.objs.size,[s1.heap.objs.size],_,_,H1,rfl,I1.kept (t':=s1.toks) fun b o e=>Heap.get?_push_of_some _ e,v5 a _,⟨_,Heap.get?_push_size _ rfl,rfl,rfl⟩,fun b hb=>?_,q⟩
 have e:b=s1.heap.objs.size:=by simpa using hb
 subst e
 exact I1.fpOk (Nat.le_refl _) (I1.hok.fresh (Nat.le_refl _))
theorem range_it {pins:List (Addr × Obj)}{σ:St}{H:Hp}{s:Shared}{R:It→Hp→Prop}{E:Value→Shared→Prop}{lo hi:Int}{t u v:Tok}{tk:Nat} (I:Inv X pins σ H s) (h1:-(2 ^ 62)≤lo) (h2:lo<2 ^ 62) (h3:-(2 ^ 62)≤hi) (h4:hi<2 ^ 62)
  (q:R (Itr lo (hi - lo).toNat) H):wpAny (model X.prog X.w) X.A (pyIter (.ref s.heap.objs.size)) (PIE X pins σ tg R) E { s with heap:=s.heap.push { cls:=.type "range",data:=.fields #[.int lo t,.int hi u,.int 1 v] },toks:=tk }:=by
 refine wpAny_pyIter_range (IsRange.new ..) (small_one h1 h2 h3 h4) ?_
 have I1:Inv X pins σ H { s with heap:=s.heap.push { cls:=.type "range",data:=.fields #[.int lo t,.int hi u,.int 1 v] },toks:=tk }:=I.kept fun b o e=>Heap.get?_push_of_some _ e
 refine ⟨(s.heap.push { cls:=.type "range",data:=.fields #[.int lo t,.int hi u,.int 1 v] }).objs.size,[(s.heap.push { cls:=.type "range",data:=.fields #[.int lo t,.int hi u,.int 1 v] }).objs.size],_,_,H,rfl,
  I1.kept (t':=tk) fun b o e=>Heap.get?_push_of_some _ e,vY _ lo (hi - lo).toNat,?_,fun b hb=>?_,q⟩
 ·have e1:lo+((0:Nat):Int) * 1=lo:=by simp
  have e2:(((hi - lo).toNat:Nat):Int) - ((0:Nat):Int)=Builtin.Range.rangeSize lo hi 1:=by rw [rangeSize_one];split <;> omega
  show IsRangeIter _ _ (lo+((0:Nat):Int) * 1) ((((hi - lo).toNat:Nat):Int) - ((0:Nat):Int)) 1
  rw [e1,e2]
  exact Heap.get?_push_size _ rfl
 ·have e:b=(s.heap.push { cls:=.type "range",data:=.fields #[.int lo t,.int hi u,.int 1 v] }).objs.size:=by simpa using hb
  subst e
  exact I1.fpOk (Nat.le_refl _) (I1.hok.fresh (Nat.le_refl _))
def iRng1 (ta:TA):TI:=fun σ H R=>ta σ H fun vs H1=>∃ j:Int,vs=[.int j]∧-(2 ^ 62)≤j∧j<2 ^ 62∧R (Itr 0 j.toNat) H1
theorem Wf {a:Expr}{ta:TA}{p pos:Pos} (hg:Gl X "range") (hm:X.mg "range" = none) (ha:PA X [a] ta) (hs:starEach [a] X.env=[(false,eval a X.env)]:=by rfl):PI X tg (.Call (.Name "range" p) [a] [] pos) (iRng1 ta):=by
 intro pins s σ H R I h
 refine Call_ (UJ I hg hm boot_range (PyProof.Rows.callWith_type1 (thn (ha pos pins s σ H _ I h) fun us s1 ⟨vs,H1,I1,r1,q1⟩=>?_) hs rfl))
 obtain ⟨j,e,q1,q2,q⟩:=q1
 subst e
 cases r1 with
 | cons r rr=>
  cases rr
  obtain ⟨t,rfl⟩:=r
  exact call_range_1 (range_it I1 (by omega) (by omega) q1 q2 (by simpa using q))
def tFor (wi:TI) (g:TG) (tb:TS):TS:=fun D σ H=>wi σ H fun J H1=>∃ W:Nat→Nat→St→Hp→Prop,(∃ m,W 0 m σ H1)∧∀ i m σ H,W i m σ H →
 (J.stop i H∧D.nx σ H)∨(J.go i H∧∃ N:St→Hp→Prop,(∀ σ' H',N σ' H'→∃ m',m'<m∧W (i+1) m' σ' H')∧∀ x H',J.yld i H x H'→g x σ H' fun σ2 H2=>tb { D with nx:=N,ct:=N,bk:=D.nx } σ2 H2)
def qF (fp:List Addr) (h:Heap):List (Addr × Obj):=fp.filterMap fun b=>(h.get? b).map fun o=>(b,o)
theorem W4 {fp:List Addr}{h:Heap}{b:Addr}{o:Obj} (hb:b∈fp) (e:h.get? b=some o):(b,o)∈qF fp h:=List.mem_filterMap.mpr ⟨b,hb,by rw [e];rfl⟩
theorem of_pinsAt {fp:List Addr}{h:Heap}{p:Addr × Obj} (hp:p∈qF fp h):p.1∈fp∧h.get? p.1=some p.2:=by
 obtain ⟨b,hb,e⟩:=List.mem_filterMap.mp hp
 cases q:h.get? b with
 | none=>rw [q] at e;cases e
 | some o=>
  rw [q] at e
  have e':(b,o)=p:=Option.some.inj e
  subst e'
  exact ⟨hb,q⟩
theorem Inv.pinned {pins:List (Addr × Obj)}{σ:St}{H:Hp}{s:Shared}{fp:List Addr} (I:Inv X pins σ H s) (hf:∀ b∈fp,Ve X pins H b) (ho:∀ b∈fp,∃ o,s.heap.get? b=some o∧∀ v,o.data≠.cell v):Inv X (pins++qF fp s.heap) σ H s:=
 I.pins_of fun p hp=>(List.mem_append.mp hp).elim (fun z=>I.pin p (List.mem_append_right _ z)) fun z=>by
  obtain ⟨hb,e⟩:=of_pinsAt z
  obtain ⟨f0,f1,f2,_⟩:=hf p.1 hb
  obtain ⟨o,e',d⟩:=ho p.1 hb
  rw [e] at e';cases e'
  exact ⟨e,f0,f1,f2,d⟩
theorem Inv.unpinned {pins pl:List (Addr × Obj)}{σ:St}{H:Hp}{s:Shared} (I:Inv X (pins++pl) σ H s):Inv X pins σ H s:=I.pins_of fun p hp=>I.pin p (List.mem_append_right _ (List.mem_append_left _ hp))
theorem Xo {iter:Expr}{body:List Stmt}{wi:TI}{g:TG}{tb:TS}{pos:Pos} (hp:PassesOwn (model X.prog X.w) X.A X.env X.xe) (hc:X.calm=true) (hi:PI X tg iter wi) (hg:PG X tg g) (hb:PSs X body tb)
  (hs:∀ x,foldedSetIterable iter X.env x=pure x:=by intro _;rfl):PS X (.For tg iter body [] pos) (tFor wi g tb):=by
 intro pins s σ H D I h
 refine wpAny_For (thn (hi pins s σ H _ I h) fun v s1 h1=>thn h1 fun itv s2 h2=>?_) hs
 obtain ⟨it,fp,tn,J,H2,e,I2,T,st2,f2,W,⟨m0,w0⟩,turn⟩:=h2
 subst e
 have stat:∀ {H':Hp},(∀ b∈fp,H' b=none)→∀ b∈fp,Ve X pins H' b:=fun hn b hb=>⟨hn b hb,(f2 b hb).2⟩
 refine codeAny_forLoop_any (fun n s'=>∃ i σ' H',Inv X pins σ' H' s'∧tn i s'.heap∧(∀ b∈fp,H' b=none)∧W i n σ' H') ?_ m0 ⟨0,σ,H2,I2,st2,fun b hb=>(f2 b hb).1,w0⟩
 rintro n s3 ⟨i,σ3,H3,I3,st3,fr3,w3⟩
 rcases turn i n σ3 H3 w3 with ⟨stop,qn⟩ | ⟨go,N,hN,step⟩
 ·refine wpAny_passesOwn hp (thn (T.done X rfl rfl rfl hc i pins s3 σ3 H3 X.xe I3 (stat fr3) st3 stop) fun r s4 ⟨hr,I4⟩=>?_)
  subst hr
  exact wpAny_execs_nil ⟨σ3,H3,I4,qn⟩
 ·refine wpAny_passesOwn hp (thn (T.item X rfl rfl rfl hc i pins s3 σ3 H3 X.xe I3 (stat fr3) st3 go) fun r s4 ⟨u,hr,h4⟩=>?_)
  subst hr
  refine wpAny_passesOwn hp (thn h4 fun _ s5 ⟨x,H5,I5,r5,y5,st5,fr5⟩=>?_)
  have I5':=I5.pinned (stat fr5) (T.obj _ _ st5)
  refine wpAny_passesOwn hp (thn (hg _ s5 σ3 H5 x u _ I5' r5 (step x H5 y5)) fun _ s6 ⟨σ6,H6,I6,q6⟩=>?_)
  refine wpAny_passesOwn hp (thn (hb _ s6 σ6 H6 _ I6 q6) fun f s7 q7=>?_)
  have again:∀ {σ7:St}{H7:Hp},Inv X (pins++qF fp s5.heap) σ7 H7 s7→N σ7 H7→∃ m,m<n∧∃ i σ' H',Inv X pins σ' H' s7∧tn i s7.heap∧(∀ b∈fp,H' b=none)∧W i m σ' H':=fun {σ7 H7} I7 n7=>by
   obtain ⟨m',hm,w7⟩:=hN σ7 H7 n7
   refine ⟨m',hm,i+1,σ7,H7,I7.unpinned,T.keep _ _ _ st5 fun b hb o e=>(I7.pin (b,o) (List.mem_append_right _ (List.mem_append_right _ (W4 hb e)))).1,fun b hb=>?_,w7⟩
   obtain ⟨o,e,d⟩:=T.obj _ _ st5 b hb
   exact (I7.pin (b,o) (List.mem_append_right _ (List.mem_append_right _ (W4 hb e)))).2.1
  cases f with
  | next=>obtain ⟨σ7,H7,I7,n7⟩:=q7;exact again I7 n7
  | cont=>obtain ⟨σ7,H7,I7,n7⟩:=q7;exact again I7 n7
  | brk=>obtain ⟨σ7,H7,I7,q7⟩:=q7;exact ⟨σ7,H7,I7.unpinned,q7⟩
  | ret v=>obtain ⟨x7,σ7,H7,I7,r7,q7⟩:=q7;exact ⟨x7,σ7,H7,I7.unpinned,r7,q7⟩
end
abbrev R2:=V→V→Hp→VK→Prop
def OpR (X:Cx) (f:Value→Value→Sem Value) (r:R2):Prop:=
 ∀ (pins:List (Addr × Obj)) (s:Shared) (σ:St) (H:Hp) (x y:V) (v u:Value) (Q:VK),Inv X pins σ H s→ZS x v→ZS y u→r x y H Q →
  wpAny (model X.prog X.w) X.A (f v u) (EP X pins σ Q) X.xe s
def Ys (X:Cx) (f:Value) (r:List V→Hp→VK→Prop):Prop:=
 ∀ (pins:List (Addr × Obj)) (s:Shared) (σ:St) (H:Hp) (xs:List V) (us:List Value) (Q:VK),Inv X pins σ H s→ZE xs us→r xs H Q →
  wpAny (model X.prog X.w) X.A (call f us) (EP X pins σ Q) X.xe s
def TruR (X:Cx) (r:V→Hp→(Bool→Hp→Prop)→Prop):Prop:=
 ∀ (pins:List (Addr × Obj)) (s:Shared) (σ:St) (H:Hp) (x:V) (v:Value) (Q:Bool→Hp→Prop),Inv X pins σ H s→ZS x v→r x H Q →
  wpAny (model X.prog X.w) X.A (truthy v) (TP X pins σ Q) X.xe s
def tOp (r:R2) (ta tb:TE):TE:=fun σ H Q=>ta σ H fun x H1=>tb σ H1 fun y H2=>r x y H2 Q
inductive rI_R (C:Int→Int→Prop) (g:Int→Int→V) (x:V) (y:V) (H:Hp) (Q:VK):Prop
 | mk (i:_) (j:_) (h0:x=.int i) (h1:y=.int j) (h2:C i j) (h3:Q (g i j) H):rI_R C g x y H Q
def rI (C:Int→Int→Prop) (g:Int→Int→V):R2:=fun x y H Q=>rI_R C g x y H Q
inductive rI0_R (g:Int→Int→V) (x:V) (y:V) (H:Hp) (Q:VK):Prop
 | mk (i:_) (j:_) (h0:x=.int i) (h1:y=.int j) (h2:Q (g i j) H):rI0_R g x y H Q
def rI0 (g:Int→Int→V):R2:=fun x y H Q=>rI0_R g x y H Q
section
variable {X:Cx}{a b c:Expr}{ta tb tc:TE}{pos:Pos}
theorem binT (ha:PE X a ta) (hb:PE X b tb) {pins:List (Addr × Obj)}{s:Shared}{σ:St}{H:Hp}{R:V→V→Hp→Prop} (I:Inv X pins σ H s)
  (h:ta σ H fun x H1=>tb σ H1 fun y H2=>R x y H2) {Q:Value→Shared→Prop}{f:Value→Value→Sem Value}
  (hf:∀ v u s2 x y H2,Inv X pins σ H2 s2→ZS x v→ZS y u→R x y H2→wpAny (model X.prog X.w) X.A (f v u) Q X.xe s2) :
  wpAny (model X.prog X.w) X.A (eval a X.env) (fun v s₁=>wpAny (model X.prog X.w) X.A (eval b X.env) (fun u s₂=>wpAny (model X.prog X.w) X.A (f v u) Q X.xe s₂) X.xe s₁) X.xe s:=by
 refine thn (ha pins s σ H _ I h) fun v s1 ⟨x,H1,I1,r1,q1⟩=>?_
 refine thn (hb pins s1 σ H1 _ I1 q1) fun u s2 ⟨y,H2,I2,r2,q2⟩=>?_
 exact hf v u s2 x y H2 I2 r1 r2 q2
theorem ZC {op:Operator}{r:R2} (ho:OpR X (binaryOp op) r) (ha:PE X a ta) (hb:PE X b tb):PE X (.BinOp a op b pos) (tOp r ta tb):=by
 intro pins s σ H Q I h
 exact wpAny_BinOp (binT ha hb I h fun v u s2 x y H2 I2 rx ry q=>ho pins s2 σ H2 x y v u Q I2 rx ry q)
theorem opI {f:Value→Value→Sem Value}{C:Int→Int→Prop}{g:Int→Int→Int}
  (rule:∀ (i j:Int) (t u:Tok) (s:Shared) (Q:Value→Shared→Prop) (E:Value→Shared→Prop),C i j→Q (.int (g i j) s.toks) { s with toks:=s.toks+1 }→wpAny (model X.prog X.w) X.A (f (.int i t) (.int j u)) Q E s) :
  OpR X f (rI C fun i j=>.int (g i j)):=by
 intro pins s σ H x y v u Q I rx ry h
 obtain ⟨i,j,rfl,rfl,hc,q⟩:=h
 obtain ⟨t,rfl⟩:=rx
 obtain ⟨t',rfl⟩:=ry
 exact rule i j t t' s _ _ hc ⟨.int (g i j),H,I.tok _,⟨_,rfl⟩,q⟩
theorem opI0 {f:Value→Value→Sem Value}{g:Int→Int→Int}
  (rule:∀ (i j:Int) (t u:Tok) (s:Shared) (Q:Value→Shared→Prop) (E:Value→Shared→Prop),Q (.int (g i j) s.toks) { s with toks:=s.toks+1 }→wpAny (model X.prog X.w) X.A (f (.int i t) (.int j u)) Q E s) :
  OpR X f (rI0 fun i j=>.int (g i j)):=by
 intro pins s σ H x y v u Q I rx ry h
 obtain ⟨i,j,rfl,rfl,q⟩:=h
 obtain ⟨t,rfl⟩:=rx
 obtain ⟨t',rfl⟩:=ry
 exact rule i j t t' s _ _ ⟨.int (g i j),H,I.tok _,⟨_,rfl⟩,q⟩
theorem opB0 {f:Value→Value→Sem Value}{g:Int→Int→Bool}
  (rule:∀ (i j:Int) (t u:Tok) (s:Shared) (Q:Value→Shared→Prop) (E:Value→Shared→Prop),Q (.bool (g i j)) s→wpAny (model X.prog X.w) X.A (f (.int i t) (.int j u)) Q E s) :
  OpR X f (rI0 fun i j=>.bl (g i j)):=by
 intro pins s σ H x y v u Q I rx ry h
 obtain ⟨i,j,rfl,rfl,q⟩:=h
 obtain ⟨t,rfl⟩:=rx
 obtain ⟨t',rfl⟩:=ry
 exact rule i j t t' s _ _ ⟨.bl (g i j),H,I,rfl,q⟩
def CDiv (i j:Int):Prop:=0<j∧j<1073741824
def CPow (i j:Int):Prop:=0≤j∧j≤1000000∧i.natAbs<2 ^ 64
def CMul (i j:Int):Prop:=(-(2 ^ 64)<i∧i<2 ^ 64)∨(-(2 ^ 64)<j∧j<2 ^ 64)
theorem CMul.ok {i j:Int} (h:CMul i j):IntMulOk i j:=by
 rcases h with ⟨h1,h2⟩ | ⟨h1,h2⟩
 ·exact .of_left (intBits_le_64 h1 h2)
 ·exact .of_right (intBits_le_64 h1 h2)
theorem Xe:OpR X (binaryOp .Add) (rI0 fun i j=>.int (i+j)):=opI0 fun _ _ _ _ _ _ _ q=>add_int q
theorem VT:OpR X (binaryOp .Mult) (rI CMul fun i j=>.int (i * j)):=opI fun _ _ _ _ _ _ _ hc q=>mul_int q hc.ok
theorem qf:OpR X (binaryOp .FloorDiv) (rI CDiv fun i j=>.int (i / j)):=opI fun i j _ _ _ _ _ hc q=>by
 have h1:(0:Int)<j:=hc.1
 have h2:j<1073741824:=hc.2
 exact floordiv_int (by omega) (by rw [Int.fdiv_eq_ediv_of_nonneg i (by omega)];exact q) (.inl (PyProof.noPylong_small (by omega)))
theorem Xn:OpR X (binaryOp .Mod) (rI (fun _ j=>0<j) fun i j=>.int (i % j)):=opI fun i j _ _ _ _ _ hc q=>by
 have h1:(0:Int)<j:=hc
 exact mod_int' (by omega) (by rw [Int.fmod_eq_emod_of_nonneg i (by omega)];exact q)
theorem zn:OpR X (binaryOp .Pow) (rI CPow fun i j=>.int (i ^ j.toNat)):=opI fun _ _ _ _ _ _ _ hc q=>pow_int_small hc.1 hc.2.1 hc.2.2 q
end
def scal:V→V→Bool
 | .non,.non=>true | .non,.int _=>true | .int _,.non=>true | .non,.bl _=>true | .bl _,.non=>true | .non,.str _=>true | .str _,.non=>true
 | .int _,.int _=>true | .bl _,.bl _=>true | .str _,.str _=>true | .byt _,.byt _=>true
 | .int _,.str _=>true | .str _,.int _=>true | .bl _,.str _=>true | .str _,.bl _=>true
 | _,_=>false
inductive rEq_R (x y:V) (H:Hp) (Q:VK):Prop
 | mk (h:scal x y=true) (k:Q (.bl (decide (x=y))) H):rEq_R x y H Q
inductive rNe_R (x y:V) (H:Hp) (Q:VK):Prop
 | mk (h:scal x y=true) (k:Q (.bl (!decide (x=y))) H):rNe_R x y H Q
def rEq:R2:=fun x y H Q=>rEq_R x y H Q
def rNe:R2:=fun x y H Q=>rNe_R x y H Q
theorem dec_int {i j:Int}:decide (V.int i=V.int j)=(i == j):=by
 rw [Bool.eq_iff_iff]
 simp
theorem dec_bl {i j:Bool}:decide (V.bl i=V.bl j)=(i == j):=by
 rw [Bool.eq_iff_iff]
 simp
theorem dec_str {i j:Str}:decide (V.str i=V.str j)=(i == j):=by
 rw [Bool.eq_iff_iff]
 simp
theorem dec_byt {i j:Array UInt8}:decide (V.byt i=V.byt j)=(i.toList == j.toList):=by
 rw [Bool.eq_iff_iff]
 cases i
 cases j
 simp
section
variable {X:Cx}{a b c:Expr}{ta tb tc:TE}{pos:Pos}
theorem Yf {pins:List (Addr × Obj)}{σ:St}{H:Hp}{s:Shared}{Q:VK}{k k':Bool} (I:Inv X pins σ H s) (q:Q (.bl k) H) (e:k=k'):EP X pins σ Q (.bool k') s:=by
 subst e
 exact ⟨.bl k,H,I,rfl,q⟩
theorem VG:OpR X (compareOp .Eq) rEq:=by
 intro pins s σ H x y v u Q I rx ry h
 obtain ⟨hs,q⟩:=h
 cases x with
 | non=>
  cases rx
  cases y with
  | non=>cases ry;exact PySem.EqNone.eq_none_none (Yf I q (by simp))
  | bl j=>cases ry;exact PySem.EqNone.eq_none_bool (Yf I q (by simp))
  | int j=>obtain ⟨t',rfl⟩:=ry;exact PySem.EqNone.eq_none_int (Yf I q (by simp))
  | str j=>obtain ⟨t',rfl⟩:=ry;exact PySem.EqNone.eq_none_str (Yf I q (by simp))
  | _=>exact absurd (show false=true from hs) Bool.false_ne_true
 | bl i=>
  cases rx
  cases y with
  | non=>cases ry;exact PySem.EqNone.eq_bool_none (Yf I q (by simp))
  | bl j=>cases ry;exact eq_bool (Yf I q dec_bl)
  | str j=>obtain ⟨t',rfl⟩:=ry;exact PySem.EqMixed.eq_bool_str (Yf I q (by simp))
  | _=>exact absurd (show false=true from hs) Bool.false_ne_true
 | int i=>
  obtain ⟨t,rfl⟩:=rx
  cases y with
  | non=>cases ry;exact PySem.EqNone.eq_int_none (Yf I q (by simp))
  | int j=>obtain ⟨t',rfl⟩:=ry;exact eq_int (Yf I q dec_int)
  | str j=>obtain ⟨t',rfl⟩:=ry;exact PySem.EqMixed.eq_int_str (Yf I q (by simp))
  | _=>exact absurd (show false=true from hs) Bool.false_ne_true
 | str i=>
  obtain ⟨t,rfl⟩:=rx
  cases y with
  | non=>cases ry;exact PySem.EqNone.eq_str_none (Yf I q (by simp))
  | bl j=>cases ry;exact PySem.EqMixed.eq_str_bool (Yf I q (by simp))
  | int j=>obtain ⟨t',rfl⟩:=ry;exact PySem.EqMixed.eq_str_int (Yf I q (by simp))
  | str j=>obtain ⟨t',rfl⟩:=ry;exact eq_str (Yf I q dec_str)
  | _=>exact absurd (show false=true from hs) Bool.false_ne_true
 | byt i=>
  obtain ⟨t,rfl⟩:=rx
  cases y with
  | byt j=>obtain ⟨t',rfl⟩:=ry;exact PySem.W.eq_bytes (Yf I q dec_byt)
  | _=>exact absurd (show false=true from hs) Bool.false_ne_true
 | _=>cases y <;> exact absurd (show false=true from hs) Bool.false_ne_true
theorem op_ne:OpR X (compareOp .NotEq) rNe:=by
 intro pins s σ H x y v u Q I rx ry h
 obtain ⟨hs,q⟩:=h
 cases x with
 | non=>
  cases rx
  cases y with
  | non=>cases ry;exact PySem.EqNone.ne_none_none (Yf I q (by simp))
  | bl j=>cases ry;exact PySem.EqNone.ne_none_bool (Yf I q (by simp))
  | int j=>obtain ⟨t',rfl⟩:=ry;exact PySem.EqNone.ne_none_int (Yf I q (by simp))
  | str j=>obtain ⟨t',rfl⟩:=ry;exact PySem.EqNone.ne_none_str (Yf I q (by simp))
  | _=>exact absurd (show false=true from hs) Bool.false_ne_true
 | bl i=>
  cases rx
  cases y with
  | non=>cases ry;exact PySem.EqNone.ne_bool_none (Yf I q (by simp))
  | bl j=>cases ry;exact ne_bool (Yf I q (congrArg not dec_bl))
  | str j=>obtain ⟨t',rfl⟩:=ry;exact PySem.EqMixed.ne_bool_str (Yf I q (by simp))
  | _=>exact absurd (show false=true from hs) Bool.false_ne_true
 | int i=>
  obtain ⟨t,rfl⟩:=rx
  cases y with
  | non=>cases ry;exact PySem.EqNone.ne_int_none (Yf I q (by simp))
  | int j=>obtain ⟨t',rfl⟩:=ry;exact ne_int (Yf I q (congrArg not dec_int))
  | str j=>obtain ⟨t',rfl⟩:=ry;exact PySem.EqMixed.ne_int_str (Yf I q (by simp))
  | _=>exact absurd (show false=true from hs) Bool.false_ne_true
 | str i=>
  obtain ⟨t,rfl⟩:=rx
  cases y with
  | non=>cases ry;exact PySem.EqNone.ne_str_none (Yf I q (by simp))
  | bl j=>cases ry;exact PySem.EqMixed.ne_str_bool (Yf I q (by simp))
  | int j=>obtain ⟨t',rfl⟩:=ry;exact PySem.EqMixed.ne_str_int (Yf I q (by simp))
  | str j=>obtain ⟨t',rfl⟩:=ry;exact ne_str (Yf I q (congrArg not dec_str))
  | _=>exact absurd (show false=true from hs) Bool.false_ne_true
 | byt i=>
  obtain ⟨t,rfl⟩:=rx
  cases y with
  | byt j=>obtain ⟨t',rfl⟩:=ry;exact PySem.W.ne_bytes (Yf I q (congrArg not dec_byt))
  | _=>exact absurd (show false=true from hs) Bool.false_ne_true
 | _=>cases y <;> exact absurd (show false=true from hs) Bool.false_ne_true
theorem zR:OpR X (compareOp .Lt) (rI0 fun i j=>.bl (decide (i<j))):=opB0 fun _ _ _ _ _ _ _ q=>lt_int q
theorem VH:OpR X (compareOp .LtE) (rI0 fun i j=>.bl (decide (i≤j))):=opB0 fun _ _ _ _ _ _ _ q=>le_int q
theorem op_gt:OpR X (compareOp .Gt) (rI0 fun i j=>.bl (decide (j<i))):=opB0 fun _ _ _ _ _ _ _ q=>gt_int q
theorem op_in_str:OpR X (compareOp .In) (fun x y H Q=>∃ i j,x=.str i∧y=.str j∧Q (.bl (!(Builtin.Str.occurrences j i 0 j.length 1).isEmpty)) H):=by
 intro pins s σ H x y v u Q I rx ry h
 obtain ⟨i,j,rfl,rfl,q⟩:=h
 obtain ⟨t,rfl⟩:=rx
 obtain ⟨t',rfl⟩:=ry
 exact in_str (Yf I q rfl)
theorem op_isN:OpR X (compareOp .Is) (fun x y H Q=>y=.non∧Q (.bl (decide (x=.non))) H):=by
 intro pins s σ H x y v u Q I rx ry h
 obtain ⟨rfl,q⟩:=h
 cases ry
 refine is_none_gen (Yf I q ?_)
 cases x <;> first
  | (cases rx;rfl)
  | (obtain ⟨t,rfl⟩:=rx;rfl)
theorem ZW (b:Expr) {op:CmpOp} (h:op≠.In:=by decide) (h2:op≠.NotIn:=by decide):behindInMarks op b=false:=by
 have e1:(op == CmpOp.In)=false:=by cases op <;> first | rfl | exact absurd rfl h
 have e2:(op == CmpOp.NotIn)=false:=by cases op <;> first | rfl | exact absurd rfl h2
 cases b <;> simp [behindInMarks,e1,e2]
theorem XQ {op:CmpOp}{r:R2} (ho:OpR X (compareOp op) r) (ha:PE X a ta) (hb:PE X b tb) (hm:behindInMarks op b=false):PE X (.Compare a [op] [b] pos) (tOp r ta tb):=by
 intro pins s σ H Q I h
 exact wpAny_Compare1 (binT ha hb I h fun v u s2 x y H2 I2 rx ry q=>ho pins s2 σ H2 x y v u Q I2 rx ry q) hm
def tTest (t:TE):TT:=fun σ H Q=>t σ H fun x H'=>BoolR x H' Q
theorem ZJ {op:CmpOp}{r:R2} (ho:OpR X (compareOp op) r) (ha:PE X a ta) (hb:PE X b tb) (hm:behindInMarks op b=false):PT X (.Compare a [op] [b] pos) (tTest (tOp r ta tb)):=by
 intro pins s σ H Q I h
 refine wpAny_isTrue_Compare1 (thn (ha pins s σ H _ I h) fun v s1 ⟨x,H1,I1,r1,q1⟩=>thn (hb pins s1 σ H1 _ I1 q1) fun u s2 ⟨y,H2,I2,r2,q2⟩=>
  thn (ho pins s2 σ H2 x y v u _ I2 r1 r2 q2) fun c s3 ⟨z,H3,I3,r3,k,e,q3⟩=>?_) hm
 subst e
 cases r3
 exact wpAny_truthy_bool ⟨H3,I3,q3⟩
def tChain (r r':R2) (ta tb tc:TE):TE:=fun σ H Q=>ta σ H fun x H1=>tb σ H1 fun y H2=>r x y H2 fun z H3=>∃ k,z=.bl k ∧
 (if k=true then tc σ H3 fun w' H4=>r' y w' H4 Q else Q (.bl false) H3)
theorem pe_chain {op op':CmpOp}{r r':R2} (ho:OpR X (compareOp op) r) (ho':OpR X (compareOp op') r') (ha:PE X a ta) (hb:PE X b tb) (hc:PE X c tc)
  (hm:lastMarks [op,op'] [b,c]=false:=by with_unfolding_all rfl):PE X (.Compare a [op,op'] [b,c] pos) (tChain r r' ta tb tc):=by
 intro pins s σ H Q I h
 refine Compare_chain (thn (ha pins s σ H _ I h) fun v s1 ⟨x,H1,I1,r1,q1⟩=>chain_link (thn (hb pins s1 σ H1 _ I1 q1) fun u s2 ⟨y,H2,I2,r2,q2⟩=>
  thn (ho pins s2 σ H2 x y v u _ I2 r1 r2 q2) fun d s3 ⟨z,H3,I3,r3,k,e,q3⟩=>?_)) hm
 subst e
 cases r3
 refine wpAny_truthy_bool ?_
 cases k with
 | false=>exact ite_ff ⟨.bl false,H3,I3,rfl,q3⟩
 | true=>exact ite_tt (chain_last (thn (hc pins s3 σ H3 _ I3 q3) fun w' s4 ⟨z',H4,I4,r4,q4⟩=>ho' pins s4 σ H4 y z' u w' Q I4 r2 r4 q4))
theorem V4 {op op':CmpOp}{r r':R2} (ho:OpR X (compareOp op) r) (ho':OpR X (compareOp op') r') (ha:PE X a ta) (hb:PE X b tb) (hc:PE X c tc)
  (hm:lastMarks [op,op'] [b,c]=false:=by with_unfolding_all rfl):PT X (.Compare a [op,op'] [b,c] pos) (tTest (tChain r r' ta tb tc)):=by
 intro pins s σ H Q I h
 refine isTrue_chain (thn (ha pins s σ H _ I h) fun v s1 ⟨x,H1,I1,r1,q1⟩=>test_link (thn (hb pins s1 σ H1 _ I1 q1) fun u s2 ⟨y,H2,I2,r2,q2⟩=>
  thn (ho pins s2 σ H2 x y v u _ I2 r1 r2 q2) fun d s3 ⟨z,H3,I3,r3,k,e,q3⟩=>?_)) hm
 subst e
 cases r3
 refine wpAny_truthy_bool ?_
 cases k with
 | false=>
  obtain ⟨k',e',q'⟩:=q3
  cases e'
  exact ite_ff ⟨H3,I3,q'⟩
 | true=>
  refine ite_tt (test_last (thn (hc pins s3 σ H3 _ I3 q3) fun w' s4 ⟨z',H4,I4,r4,q4⟩=>thn (ho' pins s4 σ H4 y z' u w' _ I4 r2 r4 q4) fun d' s5 ⟨z2,H5,I5,r5,k2,e2,q5⟩=>?_))
  subst e2
  cases r5
  exact wpAny_truthy_bool ⟨H5,I5,q5⟩
def TruV (K:PySem.W.Frag) (x:V) (H:Hp) (k:Bool):Prop:=
 match x with
 | .non=>k=false
 | .bl b=>k=b
 | .int i=>k=(i != 0)
 | .str y=>y.length≤sizeLine∧k=((y.length:Int) != 0)
 | .byt y=>y.size≤sizeLine∧k=((y.size:Int) != 0)
 | .ref p=>(∃ xs,SqL K H p xs∧k = !xs.isEmpty)∨(∃ xs,SqT K H p xs∧k = !xs.isEmpty)∨∃ kvs,H p=some (.dK kvs)∧k = !kvs.isEmpty
 | _=>False
theorem v7 {κ:Type}{kvs:List (κ × V)}{vs:List (κ × Value)} (r:KV kvs vs):(!vs.isEmpty) = !kvs.isEmpty:=by
 cases r <;> rfl
theorem qP {xs:List V}{its:List Value} (r:ZE xs its):(!its.toArray.isEmpty) = !xs.isEmpty:=by
 cases r <;> simp
theorem Uz:(sizeLine:Nat)<2 ^ 63:=by rw [sizeLine_eq];decide
theorem tru_ok:TruR X (fun x H Q=>∃ k,TruV X.K x H k∧Q k H):=by
 intro pins s σ H x v Q I rx h
 obtain ⟨k,e,q⟩:=h
 have hl:=Uz
 have hs:sizeLine=16777216:=sizeLine_eq
 cases x with
 | non=>
  cases rx
  have e':k=false:=e
  subst e'
  exact truthy_none ⟨H,I,q⟩
 | bl b=>
  cases rx
  have e':k=b:=e
  subst e'
  exact wpAny_truthy_bool ⟨H,I,q⟩
 | int i=>
  obtain ⟨t,rfl⟩:=rx
  have e':k=(i != 0):=e
  subst e'
  exact PySem.P.truthy_int ⟨H,I,q⟩
 | str y=>
  obtain ⟨t,rfl⟩:=rx
  obtain ⟨hy,e'⟩:y.length≤sizeLine∧k=((y.length:Int) != 0):=e
  subst e'
  exact PySem.P.truthy_str (by omega) ⟨H,I.tok _,q⟩
 | byt y=>
  obtain ⟨t,rfl⟩:=rx
  obtain ⟨hy,e'⟩:y.size≤sizeLine∧k=((y.size:Int) != 0):=e
  subst e'
  exact PySem.W.truthy_bytes (by omega) ⟨H,I.tok _,q⟩
 | ref p=>
  cases rx
  have e':(∃ xs,SqL X.K H p xs∧k = !xs.isEmpty)∨(∃ xs,SqT X.K H p xs∧k = !xs.isEmpty)∨∃ kvs,H p=some (.dK kvs)∧k = !kvs.isEmpty:=e
  rcases e' with ⟨xs,hx,e'⟩ | ⟨xs,hx,e'⟩ | ⟨kvs,hx,e'⟩
  ·subst e'
   obtain ⟨its,r,pl,hz⟩:=I.list hx
   have hlen:=r.length
   exact wpAny_truthy_list pl.isList (by simp only [List.size_toArray];omega) ⟨H,I.tok _,by rw [qP r];exact q⟩
  ·subst e'
   obtain ⟨its,r,pl,hz⟩:=I.tuple hx
   have hlen:=r.length
   exact truthy_tuple pl (by simp only [List.size_toArray];omega) ⟨H,I.tok _,by rw [qP r];exact q⟩
  ·subst e'
   obtain ⟨hz,hS,vs,r,m⟩:kvs.length≤sizeLine∧(p == sysModules)=false∧∃ vs,KV kvs vs∧s.heap.DictOf (Zs X.prog X.w) p vs:=I.hok p _ hx
   have hlen:kvs.length=vs.length:=Paired.length r
   exact wpAny_truthy_dict hS m (by omega) ⟨H,I.tok _,by rw [v7 r];exact q⟩
 | _=>exact (show False from e).elim
theorem pt_truth (ha:PE X a ta) (he:∀ whole,isTrue a X.env whole=(do let v ← whole;standAt a.pos;holding [v] (truthy v))) :
  PT X a (fun σ H Q=>ta σ H fun x H'=>∃ k,TruV X.K x H' k∧Q k H'):=by
 intro pins s σ H Q I h
 exact isTrue_plain (thn (ha pins s σ H _ I h) fun v s1 ⟨x,H1,I1,r1,q1⟩=>tru_ok pins s1 σ H1 x v Q I1 r1 q1) (he _)
theorem Wi {x:V}{us:List Value} (r:ZE [x] us):∃ u,us=[u]∧ZS x u:=by
 cases r with
 | cons r1 r2=>cases r2;exact ⟨_,rfl,r1⟩
theorem UW {x y:V}{us:List Value} (r:ZE [x,y] us):∃ u w',us=[u,w']∧ZS x u∧ZS y w':=by
 cases r with
 | cons r1 r2=>
  cases r2 with
  | cons r3 r4=>cases r4;exact ⟨_,_,rfl,r1,r3⟩
end
structure ObjM (h:Heap) (x dx C:Addr) (mA:Str→Option Value):Prop where
 obj:h.get? x=some (PySem.W.instObj C dx)
 ns:h.Ns1 dx mA
 ne:dx≠x
theorem lookIn_ns {h:Heap}{dx:Addr}{mA:Str→Option Value} (n:h.Ns1 dx mA):∃ od,h.get? dx=some od∧∀ name,PySem.W.lookIn name od=some (mA name):=by
 obtain ⟨o,es,ep,ho,hd,hk,_,hm⟩:=n
 refine ⟨o,ho,fun name=>?_⟩
 have e:=hm name
 unfold nsFind findBy at e
 rw [← Array.find?_toList] at e
 unfold PySem.W.lookIn
 rw [hd]
 dsimp only
 split
 ·rename_i y q
  rw [q] at e
  exact congrArg some e
 ·rename_i q
  rw [q] at e
  have a:es.toList.any (·.refKey)=false:=by
   rw [List.any_eq_false]
   intro y hy
   obtain ⟨z,t,hkey⟩:=hk y (Array.mem_toList_iff.mp hy)
   simp [DictEntry.refKey,hkey]
  have a':¬ es.toList.any (·.refKey)=true:=by rw [a];exact Bool.false_ne_true
  rw [if_neg a']
  exact congrArg some e
theorem ObjM.look {h:Heap}{x dx C:Addr}{mA:Str→Option Value} (I:ObjM h x dx C mA):∃ od,PySem.W.InstAt h x (PySem.W.instObj C dx) C (some od)∧∀ name,PySem.W.lookIn name od=some (mA name):=
 let ⟨od,ho,hl⟩:=lookIn_ns I.ns
 ⟨od,⟨I.obj,rfl,rfl,ho⟩,hl⟩
section
variable {prog:Program}{w:World}{A:Around}{E:Value→Shared→Prop}{s:Shared}{K:PySem.W.Frag}{x dx C f:Addr}{mA:Str→Option Value}{name:Str}{v:Value}
theorem get_map {expr:Bool}{Q:Value→Shared→Prop} (X:K.In s.heap) (I:ObjM s.heap x dx C mA) (hg:PySem.W.plainGet K C name=true) (hh:PySem.W.hasDictIn K C=true)
  (ha:PySem.W.findIn K (.ref C) name=some none) (hv:mA name=some v) (hv':PySem.W.handedIn v=true) (h:Q v { s with toks:=s.toks+1 }) :
  wpAny (model prog w) A (getAttr (.ref x) name expr) Q E s:=by
 obtain ⟨od,J,hl⟩:=I.look
 exact PySem.W.get_value X J (PySem.W.plainGet_of hg).1 (PySem.W.findObj_own hh ha rfl (by rw [hl,hv])) hv' h
theorem get_meth {pl:Sem Bool}{Q:Value × List Value→Shared→Prop} (X:K.In s.heap) (I:ObjM s.heap x dx C mA) (hg:PySem.W.plainGet K C name=true)
  (hf:PySem.W.findIn K (.ref C) name=some (some (.ref f))) (ht:PySem.W.isFn K (.ref f)=true) (hv:mA name=none) (h:Q (.ref f,[.ref x]) s) :
  wpAny (model prog w) A (getMethod (.ref x) name pl) Q E s:=by
 obtain ⟨od,J,hl⟩:=I.look
 exact PySem.W.method_fn X J (PySem.W.plainGet_of hg).1 (PySem.W.plainGet_of hg).2 hf (beq_iff_eq.mp ht) (by show (PySem.W.lookIn name od).map (·.isSome)=some false;rw [hl,hv];rfl) h
theorem set_map {ns:List Str}{Q:Unit→Shared→Prop} (X:K.In s.heap) (I:ObjM s.heap x dx C mA)
  (hs:PySem.W.findIn K (.ref C) "__setattr__" = some (some (.builtin "object.__setattr__"))) (hp:PySem.W.plainOver K C=true) (ht:PySem.W.takerIn K C name=some none) (hh:PySem.W.hasDictIn K C=true)
  (hw:PySem.Within mA ns) (hsz:ns.length≤sizeLine)
  (h:∀ h',ObjM h' x dx C (fun y=>if y=name then some v else mA y)→Heap.SameBut dx s.heap h'→Q () { s with heap:=h',toks:=s.toks+2 }) :
  wpAny (model prog w) A (setAttr (.ref x) name v) Q E s:=by
 obtain ⟨od,J,hl⟩:=I.look
 refine PySem.W.set_plain X J hs (PySem.W.osa_open (s:={ s with toks:=s.toks+1 }) (r:=none) X J hp ht fun b=>?_)
 obtain ⟨cd,hc,hd'⟩:=PySem.W.any_some hh
 have hx:s.heap.get? x=some ⟨.ref C,some dx,.plain,#[]⟩:=I.obj
 refine wpAny_bind (wpAny_pure (wpAny_bind (wpAny_bind (wpAny_loadPart hx (wpAny_bind (PySem.W.Looks.here (s:={ s with toks:=s.toks+1 }) (PySem.W.looks_clsIn X hc) ?_))))))
 rw [hd']
 refine wpAny_pure (a:=some dx) (wpAny_bind (wpAny_pure (wpAny_bind ?_)))
 refine wpAny_nsSet1 (s:={ s with toks:=s.toks+1 }) I.ns fun h' hn2 hs2=>?_
 obtain ⟨oD,esD,epD,hoD,hdD,hcD⟩:=hn2.count (PySem.Within.cons name v hw)
 refine wpAny_bind (wpAny_lookBehind hoD (by rw [hdD];exact pastItsLine_dict (Nat.le_trans hcD (by rw [List.length_cons];omega))) ?_)
 exact wpAny_pure (h _ ⟨(hs2.2 _ (Ne.symm I.ne)).trans I.obj,hn2,I.ne⟩ hs2)
theorem make_map {R:Result→Shared→Prop}{vs:List Value}{kw:List (Str × Value)} (X:K.In s.heap) (hm:PySem.W.makesIn K C=true)
  (hi:PySem.W.findIn K (.ref C) "__init__" = some (some (.ref f))) (hf:PySem.W.typeIn K (.ref f)=some (.type "function"))
  (h:codeAny (model prog w) (A.under (.builtin "type.__call__" ⟨.ref C :: vs,kw⟩)) (.call (.ref f) ⟨.ref (s.heap.objs.size+1) :: vs,kw⟩) (PySem.W.InitBack (s.heap.objs.size+1) R)
   { s with heap:=(s.heap.push PySem.W.emptyDict).push (PySem.W.instObj C s.heap.objs.size) }) :
  codeAny (model prog w) A (.call (.ref C) ⟨vs,kw⟩) R s:=by
 obtain ⟨hh,g,d,t,os⟩:=s
 exact PySem.W.make_core (PySem.W.makes_of X hm) (PySem.W.looks_findIn X hi) (fun self=>PySem.W.bind_fn X self hf) (.inl rfl) h
end
def YD (f:Str) (v:V):List (Str × V)→List (Str × V)
 | []=>[(f,v)]
 | (g,x) :: r=>if g=f then (g,v) :: r else (g,x) :: YD f v r
theorem UM (f g:Str) (v:V):∀ fs:List (Str × V),(YD f v fs).lookup g=if g=f then some v else fs.lookup g
 | []=>by
  show List.lookup g [(f,v)]=_
  by_cases h:g=f
  ·have hb:(g == f)=true:=beq_iff_eq.mpr h
   simp only [List.lookup,hb,if_pos h]
  ·have hb:(g == f)=false:=beq_eq_false_iff_ne.mpr h
   simp only [List.lookup,hb,if_neg h]
 | (k,x) :: r=>by
  have ih:=UM f g v r
  rw [show YD f v ((k,x) :: r)=(if k=f then (k,v) :: r else (k,x) :: YD f v r) from rfl]
  by_cases hk:k=f
  ·rw [if_pos hk]
   by_cases h:g=k
   ·have hb:(g == k)=true:=beq_iff_eq.mpr h
    simp only [List.lookup,hb,if_pos (h.trans hk)]
   ·have hb:(g == k)=false:=beq_eq_false_iff_ne.mpr h
    simp only [List.lookup,hb,if_neg (fun e:g=f=>h (e.trans hk.symm))]
  ·rw [if_neg hk]
   by_cases h:g=k
   ·have hb:(g == k)=true:=beq_iff_eq.mpr h
    simp only [List.lookup,hb,if_neg (fun e:g=f=>hk (h.symm.trans e))]
   ·have hb:(g == k)=false:=beq_eq_false_iff_ne.mpr h
    simp only [List.lookup,hb]
    exact ih
theorem Ux (f:Str) (v:V):∀ fs:List (Str × V),f∈(YD f v fs).map (·.1)∧∀ g,g∈fs.map (·.1)→g∈(YD f v fs).map (·.1)
 | []=>⟨by simp [YD],fun g h=>by simp at h⟩
 | (k,x) :: r=>by
  obtain ⟨i1,i2⟩:=Ux f v r
  rw [show YD f v ((k,x) :: r)=(if k=f then (k,v) :: r else (k,x) :: YD f v r) from rfl]
  by_cases hk:k=f
  ·rw [if_pos hk]
   subst hk
   exact ⟨by simp,fun g h=>by simpa using h⟩
  ·rw [if_neg hk]
   refine ⟨?_,fun g h=>?_⟩
   ·rw [List.map_cons]
    exact List.mem_cons_of_mem _ i1
   ·rw [List.map_cons] at h ⊢
    rcases List.mem_cons.mp h with e | e
    ·exact List.mem_cons.mpr (.inl e)
    ·exact List.mem_cons_of_mem _ (i2 g e)
theorem UR (f:Str) (v:V):∀ fs:List (Str × V),(YD f v fs).length≤fs.length+1
 | []=>by simp [YD]
 | (k,x) :: r=>by
  have ih:=UR f v r
  rw [show YD f v ((k,x) :: r)=(if k=f then (k,v) :: r else (k,x) :: YD f v r) from rfl]
  by_cases hk:k=f
  ·rw [if_pos hk,List.length_cons,List.length_cons];omega
  ·rw [if_neg hk,List.length_cons,List.length_cons];omega
theorem Vz.some_of {v:V}{o:Option Value} (r:Vz (some v) o):∃ u,o=some u∧ZS v u:=by
 cases o with
 | none=>exact (show False from r).elim
 | some u=>exact ⟨u,rfl,r⟩
theorem Vz.none_of {o:Option Value} (r:Vz none o):o=none:=by
 cases o with
 | none=>rfl
 | some u=>exact (show False from r).elim
theorem handed_of {v:V}{u:Value} (r:ZS v u):PySem.W.handedIn u=true:=by
 cases v with
 | non=>cases (show u=Value.none from r);rfl
 | bl b=>cases (show u=Value.bool b from r);rfl
 | int i=>obtain ⟨t,e⟩:=(show ∃ t,u=Value.int i t from r);cases e;rfl
 | str x=>obtain ⟨t,e⟩:=(show ∃ t,u=Value.str x t from r);cases e;rfl
 | byt b=>obtain ⟨t,e⟩:=(show ∃ t,u=Value.bytes b t from r);cases e;rfl
 | flt b=>obtain ⟨t,e⟩:=(show ∃ t,u=Value.float b t from r);cases e;rfl
 | ref a=>cases (show u=Value.ref a from r);rfl
 | ty n=>cases (show u=Value.type n from r);rfl
section
variable {P:Program}{w:World}{H H':Hp}{h h':Heap}{a C dx:Addr}{fs fs':List (Str × V)}
theorem qh (hok:HOk P w H h) (e:H a=some (.ins C dx fs)):∃ mA,ObjM h a dx C mA∧(∀ f,Vz (fs.lookup f) (mA f))∧PySem.Within mA (fs.map (·.1))∧fs.length≤1000∧H dx=some (.own a):=by
 obtain ⟨d,z,ne,ob,mA,n,r,q⟩:=(show YB P w H h a (.ins C dx fs) from hok a _ e)
 exact ⟨mA,⟨ob,n,ne⟩,r,q,z,d⟩
end
structure Cls (K:PySem.W.Frag) (C:Addr):Prop where
 pg:PySem.W.plainGet K C Str.empty=true
 hd:PySem.W.hasDictIn K C=true
 po:PySem.W.plainOver K C=true
 sa:PySem.W.findIn K (.ref C) "__setattr__" = some (some (.builtin "object.__setattr__"))
theorem Cls.get {K:PySem.W.Frag}{C:Addr} (c:Cls K C) (f:Str):PySem.W.plainGet K C f=true:=c.pg
def XR (K:PySem.W.Frag) (C:Addr) (f:Str):Prop:=PySem.W.findIn K (.ref C) f=some none
theorem XR.taker {K:PySem.W.Frag}{C:Addr}{f:Str} (n:XR K C f):PySem.W.takerIn K C f=some none:=by
 unfold PySem.W.takerIn
 rw [show PySem.W.findIn K (.ref C) f=some none from n]
 rfl
structure Con (K:PySem.W.Frag) (C:Addr) (f:Str) (v:V) (u:Value):Prop where
 at_:PySem.W.findIn K (.ref C) f=some (some u)
 rel:ZS v u
 get:PySem.W.specialIn K u "__get__" = some none
 cp:PySem.W.copiedNames.contains f=false
structure U6 (K:PySem.W.Frag) (C:Addr) (m:Str) (f:Addr):Prop where
 at_:PySem.W.findIn K (.ref C) m=some (some (.ref f))
 fn:PySem.W.isFn K (.ref f)=true
 kp:PySem.W.keepIn K (.ref f)=true
section
variable {X:Cx}{pins:List (Addr × Obj)}{σ:St}{H:Hp}{s:Shared}{a C dx:Addr}{fs:List (Str × V)}{f:Str}{v:V}{A:Around}{E:Value→Shared→Prop}
theorem jw {b:Bool}{Q:Value→Shared→Prop} (I:Inv X pins σ H s) (e:H a=some (.ins C dx fs)) (c:Cls X.K C) (n:XR X.K C f) (l:fs.lookup f=some v)
  (h:∀ u s',Inv X pins σ H s'→ZS v u→Q u s'):wpAny (model X.prog X.w) A (getAttr (.ref a) f b) Q E s:=by
 obtain ⟨mA,O,r,_,_,_⟩:=qh I.hok e
 obtain ⟨u,hu,ru⟩:=Vz.some_of (v:=v) (o:=mA f) (by rw [← l];exact r f)
 exact get_map I.kIn O (c.get f) c.hd n hu (handed_of ru) (h u _ (I.tok _) ru)
theorem VX {m:Str}{g:Addr}{pl:Sem Bool}{Q:Value × List Value→Shared→Prop} (I:Inv X pins σ H s) (e:H a=some (.ins C dx fs)) (c:Cls X.K C) (k:U6 X.K C m g) (l:fs.lookup m=none)
  (h:Q (.ref g,[.ref a]) s):wpAny (model X.prog X.w) A (getMethod (.ref a) m pl) Q E s:=by
 obtain ⟨mA,O,r,_,_,_⟩:=qh I.hok e
 have hn:mA m=none:=Vz.none_of (by rw [← l];exact r m)
 exact get_meth I.kIn O (c.get m) k.at_ k.fn hn h
theorem vU {y:V}{u:Value}{Q:Unit→Shared→Prop} (I:Inv X pins σ H s) (e:H a=some (.ins C dx fs)) (c:Cls X.K C) (n:XR X.K C f) (hl:fs.length<1000) (ry:ZS y u)
  (h:∀ s',Inv X pins σ (upd H a (.ins C dx (YD f y fs))) s'→Q () s'):wpAny (model X.prog X.w) A (setAttr (.ref a) f u) Q E s:=by
 obtain ⟨mA,O,r,wi,_,ho⟩:=qh I.hok e
 have hz:(fs.map (·.1)).length≤sizeLine:=by rw [List.length_map,sizeLine_eq];omega
 refine set_map I.kIn O c.sa c.po n.taker c.hd wi hz fun h' O' sb=>h _ ?_
 have hd:∃ o,h'.get? dx=some o:=let ⟨o,_,_,e',_⟩:=O'.ns; ⟨o,e'⟩
 refine I.write (x:=a) (e:=dx) (by rw [e];exact True.intro) (.inr ho) (fun b q hb z=>(sb.2 b hb).trans z) hd ?_
 refine ⟨by rw [Zo O.ne];exact ho,?_,O.ne,O'.obj,_,O'.ns,fun g=>?_,fun g hg=>?_⟩
 ·have:=UR f y fs;omega
 ·show Vz ((YD f y fs).lookup g) (if g=f then some u else mA g)
  rw [UM]
  by_cases q:g=f
  ·rw [if_pos q,if_pos q];exact ry
  ·rw [if_neg q,if_neg q];exact r g
 ·by_cases q:g=f
  ·rw [q];exact (Ux f y fs).1
  ·refine (Ux f y fs).2 g (wi g fun z=>hg ?_)
   show (if g=f then some u else mA g)=none
   rw [if_neg q];exact z
theorem Inv.made (I:Inv X pins σ H s):Inv X pins σ (upd (upd H s.heap.objs.size (.own (s.heap.objs.size+1))) (s.heap.objs.size+1) (.ins C s.heap.objs.size []))
  { s with heap:=(s.heap.push PySem.W.emptyDict).push (PySem.W.instObj C s.heap.objs.size) }:=by
 have e1:(s.heap.push PySem.W.emptyDict).get? s.heap.objs.size=some PySem.W.emptyDict:=Heap.get?_push_size s.heap rfl
 have e2:((s.heap.push PySem.W.emptyDict).push (PySem.W.instObj C s.heap.objs.size)).get? (s.heap.objs.size+1)=some (PySem.W.instObj C s.heap.objs.size):=by
  have:=Heap.get?_push_size (s.heap.push PySem.W.emptyDict) (o:=PySem.W.instObj C s.heap.objs.size) rfl
  rwa [Heap.size_push] at this
 have e3:(s.heap.push PySem.W.emptyDict).Ns s.heap.objs.size (fun _=>none):=⟨PySem.W.emptyDict,#[],_,e1,rfl,(fun e he=>absurd he (by simp)),fun _=>rfl⟩
 have I1:=I.laid (a:=s.heap.objs.size) (o:=.own (s.heap.objs.size+1)) (h':=s.heap.push PySem.W.emptyDict) (t':=s.toks) (fun b u q=>Heap.get?_push_of_some _ q) (Nat.le_refl _) ⟨_,e1⟩
 refine I1.laid (a:=s.heap.objs.size+1) (o:=.ins C s.heap.objs.size []) (t':=s.toks) (fun b u q=>Heap.get?_push_of_some _ q) (Nat.le_of_eq (Heap.size_push _ _)) ?_
 have ne:s.heap.objs.size≠s.heap.objs.size+1:=Nat.ne_of_lt (Nat.lt_succ_self _)
 refine ⟨by rw [Zo ne,Zd],Nat.zero_le _,ne,e2,fun _=>none,(Heap.Ns1.of_empty e3).at fun o q=>Heap.get?_push_of_some _ q,fun _=>True.intro,fun y hy=>absurd rfl hy⟩
theorem attr_of {prog:Program}{w:World}{env:Env}{e:Expr}{f:Str}{pos:Pos}{s:Shared}{Q:Value→Shared→Prop} (hb:attributeBase e f env (eval e env)=eval e env)
  (h:wpAny (model prog w) A (eval e env) (fun o s₁=>wpAny (model prog w) A (getAttr o f true) Q E s₁) E s):wpAny (model prog w) A (eval (.Attribute e f pos) env) Q E s:=
 Attribute_any_ h (by rw [arm_eval_Attribute,hb])
end
inductive FldR (K:PySem.W.Frag) (f:Str) (x:V) (H:Hp) (Q:VK):Prop
 | mk (a C dx:Addr) (fs:List (Str × V)) (v:V) (h1:x=.ref a) (h2:H a=some (.ins C dx fs)) (h3:Cls K C) (h4:XR K C f) (h5:fs.lookup f=some v) (k:Q v H):FldR K f x H Q
def tFld (K:PySem.W.Frag) (ta:TE) (f:Str):TE:=fun σ H Q=>ta σ H fun x H1=>FldR K f x H1 Q
def sFld (K:PySem.W.Frag) (ta tv:TE) (f:Str):TS:=fun D σ H=>tv σ H fun y H1=>ta σ H1 fun x H2=>∃ a C dx fs,x=.ref a∧H2 a=some (.ins C dx fs)∧Cls K C∧XR K C f∧fs.length<1000 ∧
 D.nx σ (upd H2 a (.ins C dx (YD f y fs)))
section
variable {X:Cx}{o e value:Expr}{f:Str}{pos pos' tpos:Pos}{ta tv:TE}
theorem pe_fld (he:PE X e ta) (hb:attributeBase e f X.env (eval e X.env)=eval e X.env):PE X (.Attribute e f pos) (tFld X.K ta f):=by
 intro pins s σ H Q I h
 refine attr_of hb (thn (he pins s σ H _ I h) fun u s1 ⟨x,H1,I1,rx,a,C,dx,fs,v,ex,ea,c,n,l,q⟩=>?_)
 subst ex
 obtain rfl:u=Value.ref a:=rx
 exact jw I1 ea c n l fun u' s2 I2 ru=>⟨v,H1,I2,ru,q⟩
theorem Vq (ha:PE X o ta) (hv:PE X value tv) (hs:swapsWith value (some (.Attribute o f pos')) pos.line X.env=pure false):PS X (.Assign [.Attribute o f pos'] value pos) (sFld X.K ta tv f):=by
 intro pins s σ H D I h
 refine plainObj_wpAny_Assign_Attribute (thn (hv pins s σ H _ I h) fun u s1 ⟨y,H1,I1,ry,q⟩=>thn (ha pins s1 σ H1 _ I1 q) fun ov s2 ⟨x,H2,I2,rx,a,C,dx,fs,ex,ea,c,n,l,q2⟩=>?_) hs
 subst ex
 obtain rfl:ov=Value.ref a:=rx
 exact vU I2 ea c n l ry fun s3 I3=>⟨σ,_,I3,q2⟩
theorem methcall_of {pl:Sem Bool}{m:Str}{apos:Pos}{args:List Expr}{pins:List (Addr × Obj)}{s:Shared}{σ:St}{H:Hp}{Q:Value→Shared→Prop}{te:TE} (he:PE X e te) (I:Inv X pins σ H s)
  (h:te σ H fun x H1=>∃ a C dx fs g,x=.ref a∧H1 a=some (.ins C dx fs)∧Cls X.K C∧U6 X.K C m g∧fs.lookup m=none ∧
   ∀ s1,Inv X pins σ H1 s1→wpAny (model X.prog X.w) X.A (callWith pos (.ref g) [.ref a] (backTo pos (starEach args X.env)) (backToKw pos (keywordEach [] X.env))) Q X.xe s1)
  (ht:eval (.Call (.Attribute e m apos) args [] pos) X.env=(do
   let ov ← eval e X.env
   standAt apos.atName
   let (f,first) ← holding [ov] (getMethod ov m pl)
   callWith pos f first (backTo pos (starEach args X.env)) (backToKw pos (keywordEach [] X.env)))) :
  wpAny (model X.prog X.w) X.A (eval (.Call (.Attribute e m apos) args [] pos) X.env) Q X.xe s:=by
 refine PySem.W.methodCall_KW (pl:=pl) (thn (he pins s σ H _ I h) fun u s1 ⟨x,H1,I1,rx,a,C,dx,fs,g,ex,ea,c,k,l,q⟩=>?_) ht
 subst ex
 obtain rfl:u=Value.ref a:=rx
 exact VX I1 ea c k l (q s1 I1)
end
section
variable {X:Cx}{pins:List (Addr × Obj)}{σ:St}{H:Hp}{s:Shared}{A:Around}{E:Value→Shared→Prop}{Q:Value→Shared→Prop}{c:Value}{b:Bool}
inductive Vl (K:PySem.W.Frag) (H:Hp):V→Value→Prop where
 | non:Vl K H .non (.type "NoneType")
 | bl (x:Bool):Vl K H (.bl x) (.type "bool")
 | int (i:Int):Vl K H (.int i) (.type "int")
 | str (x:Str):Vl K H (.str x) (.type "str")
 | flt (x:UInt64):Vl K H (.flt x) (.type "float")
 | lst {a:Addr}{xs:List V} (e:H a=some (.lst xs)):Vl K H (.ref a) (.type "list")
 | frz {a:Addr}{o:Obj}{xs:List V} (e:H a=some (.frz o (.lst xs))):Vl K H (.ref a) (.type "list")
 | tup {a:Addr}{xs:List V} (e:H a=some (.tup xs)):Vl K H (.ref a) (.type "tuple")
 | dK {a:Addr}{kvs:List (Key × V)} (e:H a=some (.dK kvs)):Vl K H (.ref a) (.type "dict")
 | dT {a:Addr}{kvs:List (List Key × V)} (e:H a=some (.dT kvs)):Vl K H (.ref a) (.type "dict")
 | ins {a C dx:Addr}{fs:List (Str × V)} (e:H a=some (.ins C dx fs)) (cl:Cls K C) (ha:PySem.W.findIn K (.ref C) "__class__" = some (some (.builtin "object.__class__")))
   (hn:PySem.W.specialIn K (.builtin "object.__class__") "__get__" = some (some (.builtin "getset_descriptor.__get__"))) (htk:PySem.W.takesIn K (.builtin "object.__class__")=some true)
   (hm:PySem.W.mroIn K C (.type "object")=some true):Vl K H (.ref a) (.ref C)
theorem ye {x:V}{u t:Value} (I:Inv X pins σ H s) (rx:ZS x u) (ty:Vl X.K H x t) (e:PySem.W.kitOne X.K t c=some b) (h:∀ tk,Q (.bool b) { s with toks:=tk }) :
  wpAny (model X.prog X.w) A (call (.builtin "isinstance") [u,c]) Q E s:=by
 cases ty with
 | non=>cases (show u=Value.none from rx);exact PySem.W.kia_one PySem.W.kitx_none I.kIn True.intro e (fun z=>nomatch z) h
 | bl y=>cases (show u=Value.bool y from rx);exact PySem.W.kia_one PySem.W.kitx_bool I.kIn True.intro e (fun z=>nomatch z) h
 | int i=>obtain ⟨t,q⟩:=(show ∃ t,u=Value.int i t from rx);cases q;exact PySem.W.kia_one PySem.W.kitx_int I.kIn True.intro e (fun z=>nomatch z) h
 | str y=>obtain ⟨t,q⟩:=(show ∃ t,u=Value.str y t from rx);cases q;exact PySem.W.kia_one PySem.W.kitx_str I.kIn True.intro e (fun z=>nomatch z) h
 | flt y=>obtain ⟨t,q⟩:=(show ∃ t,u=Value.float y t from rx);cases q;exact PySem.W.kia_one PySem.W.kitx_float I.kIn True.intro e (fun z=>nomatch z) h
 | @lst a xs ea=>
  cases (show u=Value.ref a from rx)
  obtain ⟨_,_,n,_,h1⟩:=(show YB X.prog X.w H s.heap a (.lst xs) from I.hok a _ ea)
  exact PySem.W.kia_one PySem.W.kitx_list I.kIn ⟨_,h1,rfl⟩ e (fun z=>nomatch z) h
 | @frz a ob xs ea=>
  cases (show u=Value.ref a from rx)
  obtain ⟨_,_,_,n,_,h1⟩:=(show YB X.prog X.w H s.heap a (.frz ob (.lst xs)) from I.hok a _ ea)
  exact PySem.W.kia_one PySem.W.kitx_list I.kIn ⟨_,h1,rfl⟩ e (fun z=>nomatch z) h
 | @tup a xs ea=>
  cases (show u=Value.ref a from rx)
  obtain ⟨_,_,_,p⟩:=(show YB X.prog X.w H s.heap a (.tup xs) from I.hok a _ ea)
  obtain ⟨o,h1,h2,_⟩:=p
  exact PySem.W.kia_one PySem.W.kitx_tuple I.kIn ⟨o,h1,h2⟩ e (fun z=>nomatch z) h
 | @dK a kvs ea=>
  cases (show u=Value.ref a from rx)
  obtain ⟨_,_,vs,_,p⟩:=(show YB X.prog X.w H s.heap a (.dK kvs) from I.hok a _ ea)
  obtain ⟨o,es,ep,h1,h2,_⟩:=p
  exact PySem.W.kia_one PySem.W.kitx_dict I.kIn ⟨o,h1,h2.1⟩ e (fun z=>nomatch z) h
 | @dT a kvs ea=>
  cases (show u=Value.ref a from rx)
  obtain ⟨_,_,xs,_,o,es,ep,h1,h2,_⟩:=(show YB X.prog X.w H s.heap a (.dT kvs) from I.hok a _ ea)
  exact PySem.W.kia_one PySem.W.kitx_dict I.kIn ⟨o,h1,h2.1⟩ e (fun z=>nomatch z) h
 | @ins a C dx fs ea cl ha hn htk hm=>
  cases (show u=Value.ref a from rx)
  obtain ⟨mA,O,_⟩:=qh I.hok ea
  obtain ⟨od,J,_⟩:=O.look
  exact PySem.W.kia_one (PySem.W.kitx_own (cl.get _) cl.hd ha hn htk hm) I.kIn J e (fun z=>nomatch z) h
end
structure Y0 (k:Nat) (A:Around):Prop where
 hd:A.handled=none
 dp:A.depth+3 * k+5<recursionLimit
 un:A.units+16 * k+200<cLine
theorem Y0.mono {j k:Nat}{A:Around} (r:Y0 k A) (h:j≤k):Y0 j A:=⟨r.hd,by have:=r.dp;omega,by have:=r.un;omega⟩
theorem Y0.deeper {k:Nat}{A:Around} (r:Y0 (k+1) A) (env:Env):Y0 k (A.deeper env):=
 ⟨r.hd,by have:=r.dp;show A.depth+1+3 * k+5<_;omega,by have:=r.un;show A.units+3+16 * k+200<_;omega⟩
theorem js {A:Around}{C:Addr}{us:List Value}{kw:List (Str × Value)}:(A.under (.builtin "type.__call__" ⟨.ref C :: us,kw⟩)).depth=A.depth+1:=by
 first | rfl | simp [Around.under,Code.weight,Code.isCreation,Code.isGuard,Code.isCaller,Code.frames,Code.isFrame,guardIds]
theorem jb {A:Around}{C:Addr}{us:List Value}{kw:List (Str × Value)}:(A.under (.builtin "type.__call__" ⟨.ref C :: us,kw⟩)).units=A.units+1:=by
 first | rfl | simp [Around.under,Code.cUnits,Code.frames,Code.isFrame]
theorem Y0.make {k:Nat}{A:Around} (r:Y0 (k+1) A) (C:Addr) (us:List Value) (kw:List (Str × Value)):Y0 k (A.under (.builtin "type.__call__" ⟨.ref C :: us,kw⟩)):=
 ⟨r.hd,by have:=r.dp;rw [js];omega,by have:=r.un;rw [jb];omega⟩
theorem Y0.depth {k:Nat}{A:Around} (r:Y0 k A):A.depth<recursionLimit:=by have:=r.dp;omega
theorem Y0.units {k:Nat}{A:Around} (r:Y0 k A):A.units+64<cLine:=by have:=r.un;omega
theorem Y0.units0 {k:Nat}{A:Around} (r:Y0 k A):A.units<cLine:=by have:=r.un;omega
def tNil:TA:=fun _ H Q=>Q [] H
def tCons (ta:TE) (tr:TA):TA:=fun σ H Q=>ta σ H fun x H1=>tr σ H1 fun xs H2=>Q (x :: xs) H2
section
variable {X:Cx}{e:Expr}{es:List Expr}{te:TE}{t:TA}{pos:Pos}
theorem Zb:PA X [] tNil:=fun _ _ _ _ H Q I h=>Calls.spliced_nil ⟨[],H,I,.nil,h⟩
theorem Za (ha:PE X e te) (hr:PA X es t) (hs:starEach (e :: es) X.env=(false,eval e X.env) :: starEach es X.env:=by rfl):PA X (e :: es) (tCons te t):=by
 intro pos pins s σ H Q I h
 rw [hs]
 show wpAny _ _ (spliced ((false,eval e X.env) :: backTo pos (starEach es X.env))) _ _ s
 refine Calls.spliced_cons (thn (ha pins s σ H _ I h) fun u s1 ⟨x,H1,I1,r1,q1⟩=>?_)
 exact thn (hr pos pins s1 σ H1 _ I1 q1) fun us s2 ⟨xs,H2,I2,r2,q2⟩=>⟨x :: xs,H2,I2,.cons r1 r2,q2⟩
inductive NewR (xs:List V) (o:HO) (H:Hp) (Q:VK):Prop
 | mk (z:xs.length≤sizeLine) (k:∀ p,H p=none→Q (.ref p) (upd H p o)):NewR xs o H Q
def tTup (t:TA):TE:=fun σ H Q=>t σ H fun xs H1=>NewR xs (.tup xs) H1 Q
def tLst (t:TA):TE:=fun σ H Q=>t σ H fun xs H1=>NewR xs (.lst xs) H1 Q
theorem Wb {x1} (h:PA X es t):PE X (.Tuple es x1 pos) (tTup t):=by
 intro pins s σ H Q I hq
 refine wpAny_Tuple_spliced (thn (h pos pins s σ H _ I hq) fun us s1 ⟨xs,H1,I1,r,z,q⟩=>⟨by rw [← r.length];exact z,?_⟩)
 have hf:H1 s1.heap.objs.size=none:=I1.hok.fresh (Nat.le_refl _)
 refine ⟨.ref s1.heap.objs.size,upd H1 s1.heap.objs.size (.tup xs),I1.laid (t':=s1.toks) (fun b u e=>Heap.get?_push_of_some _ e) (Nat.le_refl _) ?_,rfl,q _ hf⟩
 exact ⟨z,us,r,⟨_,Heap.get?_push_size _ rfl,rfl,_,rfl⟩⟩
theorem ZR (h:PA X es t):PE X (.List es pos) (tLst t):=by
 intro pins s σ H Q I hq
 refine wpAny_List_spliced (thn (h pos pins s σ H _ I hq) fun us s1 ⟨xs,H1,I1,r,z,q⟩=>⟨by rw [← r.length];exact z,?_⟩)
 have hf:H1 s1.heap.objs.size=none:=I1.hok.fresh (Nat.le_refl _)
 refine ⟨.ref s1.heap.objs.size,upd H1 s1.heap.objs.size (.lst xs),I1.laid (t':=s1.toks) (fun b u e=>Heap.get?_push_of_some _ e) (Nat.le_refl _) ?_,rfl,q _ hf⟩
 exact ⟨z,us,0,r,Heap.get?_push_size _ rfl⟩
end
abbrev Sp:=List V→Hp→VK→XK→Prop
abbrev CXT:=List Env→Hp→Shared→XK→Value→Shared→Prop
structure Env0 (P:Program) (w:World) (K:PySem.W.Frag) (mg:Str→Option Value) (base:Heap) (A:Around) (outer:List Env) (s:Shared) (H:Hp):Prop where
 frames:A.frames=some outer
 mod:Mod K mg base
 bs:∀ b o,base.get? b=some o→s.heap.get? b=some o∧H b=none
 bsz:base.objs.size≤s.heap.objs.size
 funs:s.heap.FunFrames base outer
 frf:∀ b∈frs outer,H b=none
 hok:HOk P w H s.heap
 bare:AllBare s.gens
def CE (outer:List Env) (P:Program) (w:World) (H:Hp) (s:Shared) (Q:VK) (u:Value) (s':Shared):Prop:=
 ∃ v H',s'.os=s.os∧AllBare s'.gens∧Un (frs outer) [] H H' s.heap s'.heap∧HOk P w H' s'.heap∧ZS v u∧Q v H'
def CR (CX:CXT) (outer:List Env) (P:Program) (w:World) (H:Hp) (s:Shared) (Q:VK) (E:XK) (r:Result) (s':Shared):Prop:=
 match r with
 | .ok (.ret u)=>CE outer P w H s Q u s'
 | .ok _=>False
 | .error e=>CX outer H s E e s'
structure Yy (P:Program) (w:World) (K:PySem.W.Frag) (mg:Str→Option Value) (base:Heap) (CX:CXT) (k:Nat) (f:Addr) (fd:FuncData) (ps:List Str) (sp:Sp):Prop where
 len:∀ vs H Q E,sp vs H Q E→vs.length=ps.length
 run:∀ (A:Around) (outer:List Env) (s:Shared) (H:Hp) (args:Args) (us:List Value) (vs:List V) (Q:VK) (E:XK),Y0 k A→Env0 P w K mg base A outer s H→BindsTo s fd args (ps.zip us)→ZE vs us→sp vs H Q E →
  codeAny (model P w) A (.call (.ref f) args) (CR CX outer P w H s Q E) s
theorem Env0.make {P:Program}{w:World}{K:PySem.W.Frag}{mg:Str→Option Value}{base:Heap}{A:Around}{outer:List Env}{s:Shared}{H:Hp} (e:Env0 P w K mg base A outer s H) (C:Addr) (us:List Value) (kw:List (Str × Value)) :
  Env0 P w K mg base (A.under (.builtin "type.__call__" ⟨.ref C :: us,kw⟩)) outer s H:=⟨by first | exact e.frames | (simpa [Around.under,Code.envs,Code.isFrame,pushEnvs] using e.frames),e.mod,e.bs,e.bsz,e.funs,e.frf,e.hok,e.bare⟩
section
variable {X:Cx}{pins:List (Addr × Obj)}{σ:St}{H:Hp}{s s':Shared}
theorem Inv.env0 (I:Inv X pins σ H s):Env0 X.prog X.w X.K X.mg X.base X.A X.stack s H:=
 ⟨I.ok.frames,I.ok.mod,I.bs,Nat.le_trans I.ok.bsz I.sz,I.stack,I.stkFree,I.hok,I.bare⟩
theorem Inv.after {Q:VK}{u:Value} (I:Inv X pins σ H s) (h:CE X.stack X.prog X.w H s Q u s'):EP X pins σ Q u s':=by
 obtain ⟨v,H',os,bare,un,hok,r,q⟩:=h
 obtain ⟨hh,g,d,t,os'⟩:=s'
 obtain rfl:os'=s.os:=os
 exact ⟨v,H',I.call (h':=hh) (g':=g) (d':=d) (t':=t) (ch:=[]) un hok bare (fun b z=>absurd z (by simp)),r,q⟩
end
def tCall (sp:Sp) (dvs:List V) (E:XK) (t:TA):TE:=fun σ H Q=>t σ H fun vs H1=>sp (vs++dvs) H1 Q E
inductive MethR (C:Addr) (m:Str) (x:V) (H:Hp) (B:Prop):Prop
 | mk (a dx:Addr) (fs:List (Str × V)) (h1:x=.ref a) (h2:H a=some (.ins C dx fs)) (h3:fs.lookup m=none) (k:B):MethR C m x H B
def tMeth (C:Addr) (m:Str) (sp:Sp) (dvs:List V) (E:XK) (ta:TE) (t:TA):TE:=fun σ H Q=>ta σ H fun x H1=>MethR C m x H1 (t σ H1 fun vs H2=>sp (x :: (vs++dvs)) H2 Q E)
def tMake (C:Addr) (sp:Sp) (dvs:List V) (E:XK) (t:TA):TE:=fun σ H Q=>t σ H fun vs H1=>∀ x dx,H1 x=none→H1 dx=none→dx≠x →
 sp (.ref x :: (vs++dvs)) (upd (upd H1 dx (.own x)) x (.ins C dx [])) (fun v H2=>v=.non∧Q (.ref x) H2) E
def Yd (K:PySem.W.Frag) (fd:FuncData) (ps:List Str) (ds:List Value):Prop:=
 ∀ (s:Shared) (us:List Value),K.In s.heap→(us++ds).length=ps.length→BindsTo s fd ⟨us,[]⟩ (ps.zip (us++ds))
theorem Yd.all {K:PySem.W.Frag}{fd:FuncData}{ps:List Str} (h:∀ us:List Value,us.length=ps.length→bindArgs fd ⟨us,[]⟩=pure (ps.zip us)):Yd K fd ps []:=fun s us _ hl=>by
 rw [List.append_nil] at hl ⊢
 exact .of_eq (h us hl)
def Vi (CX:CXT) (X:Cx) (E:XK):Prop:=∀ (pins:List (Addr × Obj)) (σ:St) (H:Hp) (s:Shared) (e:Value) (s':Shared),Inv X pins σ H s→CX X.stack H s E e s'→X.xe e s'
section
variable {X:Cx}{CX:CXT}{k:Nat}{f C:Addr}{fd:FuncData}{ps:List Str}{sp:Sp}{dvs:List V}{ds:List Value}{E:XK}{x m:Str}{p pos apos:Pos}{e o:Expr}{es:List Expr}{ta:TE}{t:TA}
theorem run_fn {pins:List (Addr × Obj)}{σ:St}{H:Hp}{s:Shared}{Q:VK}{us:List Value}{vs:List V} (F:Yy X.prog X.w X.K X.mg X.base CX k f fd ps sp) (hr:Y0 k X.A) (hb:Yd X.K fd ps ds) (hd:ZE dvs ds) (hx:Vi CX X E)
  (I:Inv X pins σ H s) (r:ZE vs us) (h:sp (vs++dvs) H Q E):wpAny (model X.prog X.w) X.A (call (.ref f) us) (EP X pins σ Q) X.xe s:=by
 have r2:ZE (vs++dvs) (us++ds):=r.append hd
 have hl:(us++ds).length=ps.length:=by rw [← r2.length];exact F.len _ _ _ _ h
 refine wpAny_call (codeAny_mono (F.run X.A X.stack s H ⟨us,[]⟩ (us++ds) (vs++dvs) Q E hr I.env0 (hb s us I.kIn hl) r2 h) fun r s' hq=>?_)
 cases r with
 | error e=>exact hx pins σ H s e s' I hq
 | ok fl=>
  cases fl with
  | ret u=>exact I.after hq
  | next=>exact False.elim hq
  | brk=>exact False.elim hq
  | cont=>exact False.elim hq
theorem ZA (F:Yy X.prog X.w X.K X.mg X.base CX k f fd ps sp) (hr:Y0 k X.A) (hg:Gl X x) (hm:X.mg x=some (.ref f)) (hk:PySem.W.keepIn X.K (.ref f)=true) (hb:Yd X.K fd ps ds) (hd:ZE dvs ds) (hx:Vi CX X E)
  (ha:PA X (e :: es) t) (hdb:(x == ("__debug__" : Str))=false:=by decide) (he:starEach (e :: es) X.env=(false,eval e X.env) :: starEach es X.env:=by rfl) (hpl:(backTo pos (starEach es X.env)).any (·.1)=false:=by rfl) :
  PE X (.Call (.Name x p) (e :: es) [] pos) (tCall sp dvs E t):=by
 intro pins s σ H Q I h
 refine wpAny_Call_Name_kw (Vs I hg hm ?_ hdb)
 refine PySem.W.callWith_K (h₀:=X.base) I.ok.mod.kin hk (thn (ha pos pins s σ H _ I h) fun us s1 ⟨vs,H1,I1,r,q⟩=>⟨I1.kIn,?_⟩) he hpl
 exact run_fn F hr hb hd hx I1 r q
theorem xB {pl:Sem Bool} (he:PE X o ta) (c:Cls X.K C) (hm:U6 X.K C m f) (F:Yy X.prog X.w X.K X.mg X.base CX k f fd ps sp) (hr:Y0 k X.A) (hb:Yd X.K fd ps ds) (hd:ZE dvs ds) (hx:Vi CX X E) (ha:PA X (e :: es) t)
  (hst:starEach (e :: es) X.env=(false,eval e X.env) :: starEach es X.env:=by rfl) (hpl:(backTo pos (starEach es X.env)).any (·.1)=false:=by rfl)
  (ht:eval (.Call (.Attribute o m apos) (e :: es) [] pos) X.env=(do
   let ov ← eval o X.env
   standAt apos.atName
   let (f,first) ← holding [ov] (getMethod ov m pl)
   callWith pos f first (backTo pos (starEach (e :: es) X.env)) (backToKw pos (keywordEach [] X.env))):=by rfl) :
  PE X (.Call (.Attribute o m apos) (e :: es) [] pos) (tMeth C m sp dvs E ta t):=by
 intro pins s σ H Q I h
 refine PySem.W.methodCall_KW (pl:=pl) (thn (he pins s σ H _ I h) fun u s1 ⟨x,H1,I1,rx,a,dx,fs,ex,ea,l,q⟩=>?_) ht
 subst ex
 obtain rfl:u=Value.ref a:=rx
 refine VX I1 ea c hm l ?_
 refine PySem.W.callWith_K (first:=[.ref a]) (h₀:=X.base) I.ok.mod.kin hm.kp (thn (ha pos pins s1 σ H1 _ I1 q) fun us s2 ⟨vs,H2,I2,r,q2⟩=>⟨I2.kIn,?_⟩) hst hpl
 exact run_fn (us:=.ref a :: us) (vs:=.ref a :: vs) F hr hb hd hx I2 (.cons rfl r) q2
theorem Vm {pl:Sem Bool} (he:PE X o ta) (c:Cls X.K C) (hm:U6 X.K C m f) (F:Yy X.prog X.w X.K X.mg X.base CX k f fd ps sp) (hr:Y0 k X.A) (hb:Yd X.K fd ps ds) (hd:ZE dvs ds) (hx:Vi CX X E)
  (ht:eval (.Call (.Attribute o m apos) [] [] pos) X.env=(do
   let ov ← eval o X.env
   standAt apos.atName
   let (f,first) ← holding [ov] (getMethod ov m pl)
   callWith pos f first (backTo pos (starEach [] X.env)) (backToKw pos (keywordEach [] X.env))):=by rfl) :
  PE X (.Call (.Attribute o m apos) [] [] pos) (tMeth C m sp dvs E ta tNil):=by
 intro pins s σ H Q I h
 refine PySem.W.methodCall_KW (pl:=pl) (thn (he pins s σ H _ I h) fun u s1 ⟨x,H1,I1,rx,a,dx,fs,ex,ea,l,q⟩=>?_) ht
 subst ex
 obtain rfl:u=Value.ref a:=rx
 refine VX I1 ea c hm l ?_
 exact PySem.W.callWith_K0 (first:=[.ref a]) I1.kIn hm.kp (run_fn (us:=[.ref a]) (vs:=[.ref a]) F hr hb hd hx I1 (.cons rfl .nil) q)
structure Mk (K:PySem.W.Frag) (C f:Addr):Prop where
 makes:PySem.W.makesIn K C=true
 init:PySem.W.findIn K (.ref C) "__init__" = some (some (.ref f))
 fn:PySem.W.isFn K (.ref f)=true
 kp:PySem.W.keepIn K (.ref C)=true
theorem run_make {pins:List (Addr × Obj)}{σ:St}{H:Hp}{s:Shared}{Q:VK}{us:List Value}{vs:List V} (M:Mk X.K C f) (F:Yy X.prog X.w X.K X.mg X.base CX k f fd ps sp) (hr:Y0 (k+1) X.A) (hb:Yd X.K fd ps ds) (hd:ZE dvs ds)
  (hx:Vi CX X E) (I:Inv X pins σ H s) (r:ZE vs us)
  (h:∀ x dx,H x=none→H dx=none→dx≠x→sp (.ref x :: (vs++dvs)) (upd (upd H dx (.own x)) x (.ins C dx [])) (fun v H2=>v=.non∧Q (.ref x) H2) E) :
  wpAny (model X.prog X.w) X.A (call (.ref C) us) (EP X pins σ Q) X.xe s:=by
 have hq:=h (s.heap.objs.size+1) s.heap.objs.size (I.hok.fresh (Nat.le_succ _)) (I.hok.fresh (Nat.le_refl _)) (Nat.ne_of_lt (Nat.lt_succ_self _))
 have I2:=Inv.made (C:=C) I
 have r2:ZE (V.ref (s.heap.objs.size+1) :: (vs++dvs)) (Value.ref (s.heap.objs.size+1) :: (us++ds)):=.cons rfl (r.append hd)
 have hl:(Value.ref (s.heap.objs.size+1) :: us++ds).length=ps.length:=by
  have e:=r2.length
  rw [F.len _ _ _ _ hq] at e
  exact e.symm
 refine wpAny_call (make_map (f:=f) I.kIn M.makes M.init (beq_iff_eq.mp M.fn) (codeAny_mono (F.run _ X.stack _ _ ⟨Value.ref (s.heap.objs.size+1) :: us,[]⟩ (Value.ref (s.heap.objs.size+1) :: (us++ds)) _ _ E (hr.make C us [])
  (I2.env0.make C us []) (hb _ (Value.ref (s.heap.objs.size+1) :: us) I2.kIn hl) r2 hq) fun r s' hq'=>?_))
 cases r with
 | error e=>exact hx pins σ _ _ e s' I2 hq'
 | ok fl=>
  cases fl with
  | ret u=>
   obtain ⟨v,H',I3,rv,ev,q3⟩:=I2.after hq'
   subst ev
   exact ⟨rv,⟨V.ref (s.heap.objs.size+1),H',I3,rfl,q3⟩⟩
  | next=>exact False.elim hq'
  | brk=>exact False.elim hq'
  | cont=>exact False.elim hq'
theorem yZ (M:Mk X.K C f) (F:Yy X.prog X.w X.K X.mg X.base CX k f fd ps sp) (hr:Y0 (k+1) X.A) (hg:Gl X x) (hm:X.mg x=some (.ref C)) (hb:Yd X.K fd ps ds) (hd:ZE dvs ds) (hx:Vi CX X E)
  (ha:PA X (e :: es) t) (hdb:(x == ("__debug__" : Str))=false:=by decide) (he:starEach (e :: es) X.env=(false,eval e X.env) :: starEach es X.env:=by rfl) (hpl:(backTo pos (starEach es X.env)).any (·.1)=false:=by rfl) :
  PE X (.Call (.Name x p) (e :: es) [] pos) (tMake C sp dvs E t):=by
 intro pins s σ H Q I h
 refine wpAny_Call_Name_kw (Vs I hg hm ?_ hdb)
 refine PySem.W.callWith_K (h₀:=X.base) I.ok.mod.kin M.kp (thn (ha pos pins s σ H _ I h) fun us s1 ⟨vs,H1,I1,r,q⟩=>⟨I1.kIn,?_⟩) he hpl
 exact run_make M F hr hb hd hx I1 r q
end
section
variable {X:Cx}{CX:CXT}{k:Nat}{f C:Addr}{fd:FuncData}{ps ks:List Str}{sp:Sp}{E:XK}{x m:Str}{p pos apos kpos:Pos}{e o:Expr}{es:List Expr}{kws:List Keyword}{te ta:TE}{t tk:TA}{nm:Option Str}
structure KBinds (K:PySem.W.Frag) (fd:FuncData) (ps ks:List Str) (g:List Value→List Value→List Value) (gV:List V→List V→List V):Prop where
 to:∀ (s:Shared) (us ws:List Value),K.In s.heap→(g us ws).length=ps.length→BindsTo s fd ⟨us,ks.zip ws⟩ (ps.zip (g us ws))
 rel:∀ {vs:List V}{us:List Value}{zs:List V}{ws:List Value},ZE vs us→ZE zs ws→ZE (gV vs zs) (g us ws)
variable {g:List Value→List Value→List Value}{gV:List V→List V→List V}
end
structure ZB (N P:List Str) (sc:Scope):Prop where
 kind:sc.kind=.function
 co:sc.isCoroutine=false
 gen:sc.isGenerator=false
 nd:N.Nodup
 pre:N.take P.length=P
 par:∀ x∈P,sc.names.lookup x=some .local∨sc.names.lookup x=some .cell
 nofree:∀ y∈sc.names,y.2≠.free
theorem zX {kindOf:Str→Option NameKind}{x:Str}:∀ {binds:List (Str × Value)}{m:Str→Option Value},(∀ v,(x,v)∉binds)→bindL kindOf binds m x=m x
 | [],_,_=>rfl
 | (n,v) :: r,m,h=>by
  unfold bindL
  rw [zX fun w hw=>h w (List.mem_cons_of_mem _ hw)]
  split
  ·have:x≠n:=by rintro rfl;exact h v List.mem_cons_self
   simp [this]
  ·rfl
theorem zU {kindOf:Str→Option NameKind}{x:Str}:∀ {binds:List (Str × Value)}{m:Str→Option Value},(∀ v,(x,v)∉binds)→bindC kindOf binds m x=m x
 | [],_,_=>rfl
 | (n,v) :: r,m,h=>by
  unfold bindC
  rw [zU fun w hw=>h w (List.mem_cons_of_mem _ hw)]
  split
  ·rfl
  ·have:x≠n:=by rintro rfl;exact h v List.mem_cons_self
   simp [this]
theorem ya {kindOf:Str→Option NameKind}{x:Str}{v:Value}:∀ {P:List Str}{vs:List Value}{i:Nat}{m:Str→Option Value},P.Nodup→P[i]?=some x→vs[i]?=some v→kindOf x=some .local →
  bindL kindOf (P.zip vs) m x=some v
 | [],_,_,_,_,h,_,_=>by simp at h
 | _ :: _,[],_,_,_,_,h,_=>by simp at h
 | p :: P,w :: vs,0,m,nd,h1,h2,hk=>by
  simp at h1 h2;subst h1;subst h2
  show bindL kindOf ((p,w) :: P.zip vs) m p=_
  unfold bindL
  rw [zX fun v hv=>(List.nodup_cons.mp nd).1 (List.of_mem_zip hv).1,if_pos hk]
  simp
 | p :: P,w :: vs,i+1,m,nd,h1,h2,hk=>by
  show bindL kindOf ((p,w) :: P.zip vs) m x=_
  unfold bindL
  exact ya (i:=i) (List.nodup_cons.mp nd).2 (by simpa using h1) (by simpa using h2) hk
theorem yz {kindOf:Str→Option NameKind}{x:Str}{v:Value}:∀ {P:List Str}{vs:List Value}{i:Nat}{m:Str→Option Value},P.Nodup→P[i]?=some x→vs[i]?=some v→kindOf x≠some .local →
  bindC kindOf (P.zip vs) m x=some v
 | [],_,_,_,_,h,_,_=>by simp at h
 | _ :: _,[],_,_,_,_,h,_=>by simp at h
 | p :: P,w :: vs,0,m,nd,h1,h2,hk=>by
  simp at h1 h2;subst h1;subst h2
  show bindC kindOf ((p,w) :: P.zip vs) m p=_
  unfold bindC
  rw [zU fun v hv=>(List.nodup_cons.mp nd).1 (List.of_mem_zip hv).1,if_neg hk]
  simp
 | p :: P,w :: vs,i+1,m,nd,h1,h2,hk=>by
  show bindC kindOf ((p,w) :: P.zip vs) m x=_
  unfold bindC
  exact yz (i:=i) (List.nodup_cons.mp nd).2 (by simpa using h1) (by simpa using h2) hk
def start (N:List Str) (vs:List V):St:=vs.map some++List.replicate (N.length - vs.length) none
def Uc (CX:CXT) (P:Program) (w:World) (K:PySem.W.Frag) (mg:Str→Option Value) (base:Heap) (N:List Str) (qual:Str) (scope:Scope) (f:Addr) (cd:Value) (A:Around) (outer:List Env) (s:Shared) (H:Hp) (E:XK):Cx where
 prog:=P
 w:=w
 K:=K
 mg:=mg
 base:=base
 A:=A.deeper (envOfC qual scope s.heap.objs.size f cd)
 N:=N
 s₀:=s
 H₀:=H
 env:=envOfC qual scope s.heap.objs.size f cd
 outer:=outer
 stack:=envOfC qual scope s.heap.objs.size f cd :: outer
 ex:=[]
 calm:=true
 fn:=fun _=>true
 pn:=[]
 xe:=fun e s'=>wpAny (model P w) (A.deeper (envOfC qual scope s.heap.objs.size f cd)) (leaving (envOfC qual scope s.heap.objs.size f cd) e) (fun _ s''=>CX outer H s E e s'') (fun e' s''=>CX outer H s E e' s'') s'
theorem vw {sc:Scope}{n:Nat}{x:Str} (h:sc.names.lookup x=some .cell):∃ c,(cellsFrom n sc.names []).lookup x=some c:=by
 have q:=PySem.W.cellsFrom_some sc.names n [] (.inl h)
 exact Option.isSome_iff_exists.mp q
theorem inv_start {CX:CXT}{P:Program}{w:World}{K:PySem.W.Frag}{mg:Str→Option Value}{base:Heap}{N ps:List Str}{qual:Str}{scope:Scope}{f:Addr}{cd:Value}{A:Around}{outer:List Env}{s s1:Shared}{H:Hp}{E:XK}{us:List Value}{vs:List V}
  (S:ZB N ps scope) (hd:A.handled=none) (e0:Env0 P w K mg base A outer s H) (hl:vs.length=ps.length) (r:ZE vs us)
  (x:InCallC s s.heap.objs.size (bindL (envOfC qual scope s.heap.objs.size f cd).kindOf (ps.zip us) fun _=>none) (cellsFrom (s.heap.objs.size+1) scope.names []) (bindC (envOfC qual scope s.heap.objs.size f cd).kindOf (ps.zip us) fun _=>none) s1) :
  Inv (Uc CX P w K mg base N qual scope f cd A outer s H E) [] (start N vs) H s1:=by
 have hpl:ps.length≤N.length:=by have:=congrArg List.length S.pre;rw [List.length_take] at this;omega
 obtain ⟨h1,tk,rfl,hk⟩:=x.done
 have noA:∀ b:Addr,b∉(Uc CX P w K mg base N qual scope f cd A outer s H E).ex:=fun b z=>absurd (show b∈([]:List Addr) from z) (by simp)
 refine ⟨⟨e0.mod,S.kind,rfl,rfl,Nat.le_refl _,fun y z c h1 h2=>?_,fun y hy=>?_,fun y c _ h=>?_,fun _=>hd,Around.frames_deeper e0.frames,.inr ⟨rfl,rfl⟩,fun b z=>absurd z (noA b),e0.bs,e0.bsz,fun b _ _=>noA b,fun b z=>absurd z (noA b),e0.funs,e0.frf⟩,
  rfl,e0.bare,Un.kept hk,⟨_,x.toInCall.ns,fun i y v h1 h2 h3=>?_⟩,fun y c h=>⟨_,x.cell y c h⟩,e0.hok.fresh (Nat.le_refl _),fun y c h=>?_,fun p hp=>absurd (show p∈([]:List (Addr × Obj)) from hp) (by simp),e0.hok.kept hk,?_⟩
 ·exact name_of_addr x.apart (PySem.mem_of_lookup h1) (PySem.mem_of_lookup h2)
 ·have hy:scope.names.lookup y=some .cell∨scope.names.lookup y=some .free:=hy
  rcases hy with hy | hy
  ·exact vw hy
  ·exact absurd rfl (S.nofree _ (PySem.mem_of_lookup hy))
 ·exact Nat.le_of_lt (x.above y c (PySem.mem_of_lookup h))
 ·have hi:i<vs.length:=by
   unfold start at h2
   by_cases hi:i<vs.length
   ·exact hi
   ·rw [List.getElem?_append_right (by simpa using hi)] at h2
    rw [List.getElem?_replicate] at h2
    split at h2 <;> cases h2
  have ha:vs[i]?=some v:=by
   unfold start at h2
   rw [List.getElem?_append_left (by simpa using hi),List.getElem?_map] at h2
   cases e:vs[i]? with
   | none=>rw [e] at h2;cases h2
   | some a=>rw [e] at h2;cases h2;rfl
  obtain ⟨u,hu,rv⟩:=r.get ha
  have hp:ps[i]?=some y:=by
   rw [← S.pre,List.getElem?_take_of_lt (by omega)];exact h1
  have ndP:ps.Nodup:=by rw [← S.pre];exact S.nd.sublist (List.take_sublist _ _)
  refine ⟨u,rv,?_⟩
  rcases S.par y (List.mem_of_getElem? hp) with k | k
  ·exact .inl ⟨k,ya ndP hp hu k⟩
  ·obtain ⟨c,e⟩:=vw (n:=s.heap.objs.size+1) k
   refine .inr ⟨.inl k,c,e,?_⟩
   have q:=x.cell y c e
   rw [yz ndP hp hu (by show scope.names.lookup y≠_;rw [k];decide)] at q
   exact q
 ·exact e0.hok.fresh (Nat.le_of_lt (x.above y c (PySem.mem_of_lookup h)))
 ·unfold start
  show _=N.length
  rw [List.length_append,List.length_map,List.length_replicate]
  omega
theorem fn_of {CX:CXT}{P:Program}{w:World}{K:PySem.W.Frag}{mg:Str→Option Value}{base:Heap}{k:Nat}{f:Addr}{name qual:Str}{params:Arguments}{body:List Stmt}{scope:Scope}{dV kV doc pm cdv ct oc:Value}{an od:Option Addr}
  {osl:Array (Option Value)}{N ps:List Str}{sp:Sp} (lk:K.lookup f=some ⟨oc,od,.func (PySem.W.fnOf name qual params body scope dV kV doc pm an cdv ct),osl⟩) (hcd:PySem.W.codeIn K cdv qual=true) (S:ZB N ps scope)
  (len:∀ vs H Q E,sp vs H Q E→vs.length=ps.length)
  (hbody:∀ (A:Around) (outer:List Env) (s:Shared) (H:Hp) (vs:List V) (Q:VK) (E:XK),Y0 k (A.deeper (envOfC qual scope s.heap.objs.size f cdv))→sp vs H Q E →
   ∃ t,PSs (Uc CX P w K mg base N qual scope f cdv A outer s H E) body t∧t { nx:=fun _ H'=>Q .non H',rt:=Q } (start N vs) H) :
  Yy P w K mg base CX (k+1) f (PySem.W.fnOf name qual params body scope dV kV doc pm an cdv ct) ps sp:=by
 refine ⟨len,fun A outer s H args us vs Q E hr e0 hb r hsp=>?_⟩
 have hl:=len _ _ _ _ hsp
 have KX:K.In s.heap:=e0.mod.kin.keeps fun b o e=>(e0.bs b o e).1
 have lim:s.heap.NoLimit:=e0.mod.nolimit.keeps fun b o e=>(e0.bs b o e).1
 have hkind:∀ y∈ps.zip us,scope.names.lookup y.1=some .local∨(scope.names.lookup y.1=some .cell∧((cellsFrom (s.heap.objs.size+1) scope.names []).lookup y.1).isSome=true):=fun ⟨n,v⟩ hy=>by
  rcases S.par n (List.of_mem_zip hy).1 with q | q
  ·exact .inl q
  ·exact .inr ⟨q,PySem.W.cellsFrom_some _ _ _ (.inl q)⟩
 refine codeAny_call_function hr.depth (KX _ _ lk) rfl S.co S.gen rfl (PySem.W.codeRec_of KX hcd) (hb _ _ _ _ ?_)
 refine wpAny_newFunctionEnv_cells S.kind hkind fun env he s1 x=>?_
 subst he
 refine ⟨lim.keeps x.toInCall.keep,codeAny_func ?_⟩
 obtain ⟨t,ht,hq⟩:=hbody A outer s H vs Q E (hr.deeper _) hsp
 have I:Inv (Uc CX P w K mg base N qual scope f cdv A outer s H E) [] (start N vs) H s1:=inv_start S hr.hd e0 hl r x
 refine wpAny_mono (ht [] s1 (start N vs) H _ I hq) (fun fl s' hs=>?_) fun e s' hs=>hs
 have fin:∀ {σ':St}{H':Hp}{v:V}{u:Value},Inv (Uc CX P w K mg base N qual scope f cdv A outer s H E) [] σ' H' s'→ZS v u→Q v H'→CE outer P w H s Q u s':=
  fun {σ' H' v u} J rv q=>⟨v,H',J.os,J.bare,J.base,J.hok,rv,q⟩
 cases fl with
 | ret u=>
  obtain ⟨v,σ',H',J,rv,q⟩:=hs
  exact fin J rv q
 | next=>
  obtain ⟨σ',H',J,q⟩:=hs
  exact fin (v:=V.non) (u:=Value.none) J rfl q
 | brk=>
  obtain ⟨_,_,_,q⟩:=hs
  exact False.elim q
 | cont=>
  obtain ⟨_,_,_,q⟩:=hs
  exact False.elim q
section
variable {X:Cx}{x:Str}{p pos:Pos}{e:Expr}{es:List Expr}{t:TA}{id T:String}{r:List V→Hp→VK→Prop}
def tCB (r:List V→Hp→VK→Prop) (t:TA):TE:=fun σ H Q=>t σ H fun vs H1=>r vs H1 Q
theorem Zk (hc:Ys X (.builtin id) r) (hg:Gl X x) (hm:X.mg x=none) (hv:bootBuiltins x=some (.builtin id)) (ha:PA X (e :: es) t) (hn:x ≠ "__name__" := by decide) (hdb:(x == ("__debug__" : Str))=false:=by decide)
  (he:starEach (e :: es) X.env=(false,eval e X.env) :: starEach es X.env:=by rfl) (hpl:(backTo pos (starEach es X.env)).any (·.1)=false:=by rfl):PE X (.Call (.Name x p) (e :: es) [] pos) (tCB r t):=by
 intro pins s σ H Q I h
 refine wpAny_Call_Name_kw (UJ I hg hm hv ?_ hn hdb)
 exact PyProof.Rows.callWith_builtin1 (thn (ha pos pins s σ H _ I h) fun us s1 ⟨vs,H1,I1,r1,q1⟩=>hc pins s1 σ H1 vs us Q I1 r1 q1) he hpl
theorem Zr (hc:Ys X (.type T) r) (hg:Gl X x) (hm:X.mg x=none) (hv:bootBuiltins x=some (.type T)) (ha:PA X (e :: es) t) (hn:x ≠ "__name__" := by decide) (hdb:(x == ("__debug__" : Str))=false:=by decide)
  (he:starEach (e :: es) X.env=(false,eval e X.env) :: starEach es X.env:=by rfl) (hpl:(backTo pos (starEach es X.env)).any (·.1)=false:=by rfl):PE X (.Call (.Name x p) (e :: es) [] pos) (tCB r t):=by
 intro pins s σ H Q I h
 refine wpAny_Call_Name_kw (UJ I hg hm hv ?_ hn hdb)
 exact PyProof.Rows.callWith_type1 (thn (ha pos pins s σ H _ I h) fun us s1 ⟨vs,H1,I1,r1,q1⟩=>hc pins s1 σ H1 vs us Q I1 r1 q1) he hpl
end
end L2
namespace HT
open PySem PyProof.Rows
section
open PySem.SeqAt
open PySem.AutoSeq1 (wpAny_loadPart')
open PySem.MeetsSeq PySem.MeetsSeq2 PySem.MeetsSeq3
end
section
variable {prog:Program}{w:World}{A:Around}{E:Value→Shared→Prop}{s:Shared}
theorem cat_tup {t b:Addr}{vs ws:List Value}{Q:Value→Shared→Prop} (ht:IsTup s.heap t vs.toArray) (hb:IsTup s.heap b ws.toArray) (hv:vs≠[])
  (h1:ws=[]→Q (.ref t) s) (h2:ws≠[]→Q (.ref s.heap.objs.size) { s with heap:=s.heap.push { cls:=.type "tuple",data:=.seq (vs++ws).toArray } })
  (hsz:vs.length+ws.length≤sizeLine):wpAny (model prog w) A (binaryOp .Add (.ref t) (.ref b)) Q E s:=by
 obtain ⟨⟨cls,dd,data,sl⟩,ho,hc,n,hd⟩:=id ht
 obtain ⟨⟨cls2,dd2,data2,sl2⟩,ho2,hc2,n2,hd2⟩:=id hb
 simp only at hc hd hc2 hd2
 subst hc hd hc2 hd2
 have e:vs.toArray++ws.toArray=(vs++ws).toArray:=by simp
 by_cases hw:ws=[]
 ·exact concat_meets ⟨_,ho,rfl⟩ ⟨_,ho2,rfl⟩ noFill_tuple_add seq_tuple_add PySem.F.slot_tuple_add PySem.F.entry_tuple_add (PySem.F.args_tuple_add_2 _ _)
   (tuple_addW1 t b vs.toArray ws.toArray n n2 dd dd2 sl sl2 (by simpa using hv) (by simp [hw])) ⟨ho,ho2,h1 hw⟩
 ·refine concat_meets ⟨_,ho,rfl⟩ ⟨_,ho2,rfl⟩ noFill_tuple_add seq_tuple_add PySem.F.slot_tuple_add PySem.F.entry_tuple_add (PySem.F.args_tuple_add_2 _ _)
   (tuple_addW2 t b vs.toArray ws.toArray n n2 dd dd2 sl sl2 (by simpa using hv) (by simpa using hw) (by rw [List.size_toArray,List.size_toArray];exact hsz)) ⟨ho,ho2,?_⟩
  rw [e]
  exact h2 hw
def sIx (n d:Nat):Option Int→Nat
 | none=>d
 | some v=>if v<0 then (v+(n:Int)).toNat else min v.toNat n
theorem sIx_none (n d:Nat):sIx n d none=d:=rfl
theorem sIx_nat (n d k:Nat):sIx n d (some (k:Int))=min k n:=by
 show (if (k:Int)<0 then ((k:Int)+(n:Int)).toNat else min (k:Int).toNat n)=min k n
 rw [if_neg (by omega),Int.toNat_natCast]
end
end HT
namespace L2
open PySem PySem.Spec PyProof.Rows
abbrev TO:=St→Hp→(Option Int→Hp→Prop)→Prop
def PO (X:Cx) (e:Option Expr) (t:TO):Prop:=
 ∀ (pins:List (Addr × Obj)) (s:Shared) (σ:St) (H:Hp) (Q:Option Int→Hp→Prop),Inv X pins σ H s→t σ H Q →
  wpAny (model X.prog X.w) X.A (evalPart e X.env) (fun u s'=>∃ o H',Inv X pins σ H' s'∧IsPart u o∧Q o H') X.xe s
def tNoPart:TO:=fun _ H Q=>Q none H
inductive PartR (x:V) (H:Hp) (Q:Option Int→Hp→Prop):Prop
 | mk (i:Int) (h:x=.int i) (k:Q (some i) H):PartR x H Q
def tPart (t:TE):TO:=fun σ H Q=>t σ H fun x H1=>PartR x H1 Q
theorem vW {ns:List Int}:∀ {us:List Value},ZE (ns.map V.int) us→IntsAre us ns:=by
 induction ns with
 | nil=>intro us r;rw [List.map_nil] at r;cases r;exact .nil
 | cons n ns ih=>
  intro us r
  rw [List.map_cons] at r
  cases r with
  | cons r1 r2=>
   obtain ⟨t,e⟩:=r1
   subst e
   exact .cons n t (ih r2)
section
variable {X:Cx}{e:Expr}{te:TE}{lo hi:Option Expr}{tl th:TO}{pos p2:Pos}
theorem po_none:PO X none tNoPart:=by
 intro pins s σ H Q I h
 rw [evalPart_none]
 exact wpAny_pure ⟨none,H,I,.none,h⟩
theorem po_some (h:PE X e te):PO X (some e) (tPart te):=by
 intro pins s σ H Q I hw
 rw [evalPart_some]
 refine thn (h pins s σ H _ I hw) fun u s1 ⟨x,H1,I1,r1,q1⟩=>?_
 obtain ⟨i,rfl,q⟩:=q1
 obtain ⟨t,rfl⟩:=r1
 exact ⟨some i,H1,I1,.int i t,q⟩
def SlR (X:Cx) (r:V→Option Int→Option Int→Hp→VK→Prop):Prop:=
 ∀ (pins:List (Addr × Obj)) (s:Shared) (σ:St) (H:Hp) (x:V) (v vl vu:Value) (lo hi:Option Int) (sl:Addr) (Q:VK),Inv X pins σ H s→ZS x v→s.heap.IsSliceOf sl vl vu .none→IsPart vl lo→IsPart vu hi→r x lo hi H Q →
  ∃ T id,typeLookup (.type T) "__getitem__" = pure (some (.builtin id))∧s.TypeIs v T∧wpAny (model X.prog X.w) X.A (getItem v (.ref sl)) (EP X pins σ Q) X.xe s
def tSl (r:V→Option Int→Option Int→Hp→VK→Prop) (te:TE) (tl th:TO):TE:=fun σ H Q=>te σ H fun x H1=>tl σ H1 fun l H2=>th σ H2 fun u H3=>r x l u H3 Q
theorem vI {r:V→Option Int→Option Int→Hp→VK→Prop} (hr:SlR X r) (he:PE X e te) (hl:PO X lo tl) (hu:PO X hi th):PE X (.Subscript e (.Slice lo hi none p2) pos) (tSl r te tl th):=by
 intro pins s σ H Q I h
 refine Subscript_ (thn (he pins s σ H _ I h) fun v s1 ⟨x,H1,I1,r1,q1⟩=>?_)
 refine wpAny_Slice (thn (hl pins s1 σ H1 _ I1 q1) fun vl s2 ⟨l,H2,I2,pl,q2⟩=>thn (hu pins s2 σ H2 _ I2 q2) fun vu s3 ⟨u,H3,I3,pu,q3⟩=>?_)
 rw [evalPart_none]
 refine wpAny_pure ?_
 have I4:Inv X pins σ H3 { s3 with heap:=s3.heap.push { cls:=.type "slice",data:=.fields #[vl,vu,.none] } }:=I3.kept (t':=s3.toks) fun b ob q=>Heap.get?_push_of_some _ q
 obtain ⟨T,id,hT,ht,hg⟩:=hr pins { s3 with heap:=s3.heap.push { cls:=.type "slice",data:=.fields #[vl,vu,.none] } } σ H3 x v vl vu l u s3.heap.objs.size Q I4 r1 (Heap.IsSliceOf.new ..) pl pu q3
 show wpAny (model X.prog X.w) X.A (subscriptTail e (.Slice lo hi none p2) v (.ref s3.heap.objs.size)) (EP X pins σ Q) X.xe { s3 with heap:=s3.heap.push { cls:=.type "slice",data:=.fields #[vl,vu,.none] } }
 exact tail_any (ops:=[.ref s3.heap.objs.size,v]) ht hT hg (by with_unfolding_all rfl)
def cutV (xs:List V) (lo hi:Option Int):List V:=(xs.drop (HT.sIx xs.length 0 lo)).take (HT.sIx xs.length xs.length hi - HT.sIx xs.length 0 lo)
theorem vm (xs:List V) (lo hi:Option Int):(cutV xs lo hi).length≤xs.length:=by
 unfold cutV
 rw [List.length_take,List.length_drop]
 omega
inductive rCatT_R (K:PySem.W.Frag) (x:V) (y:V) (H:Hp) (Q:VK):Prop
 | mk (a:_) (b:_) (xs:_) (ys:_) (h0:x=.ref a) (h1:y=.ref b) (h2:SqT K H a xs) (h3:SqT K H b ys) (h4:xs≠[]) (h5:xs.length+ys.length≤sizeLine) (h6:(ys=[]→Q (.ref a) H)) (h7:(ys≠[]→∀ p,H p=none→Q (.ref p) (upd H p (.tup (xs++ys))))):rCatT_R K x y H Q
def rCatT (K:PySem.W.Frag):R2:=fun x y H Q=>rCatT_R K x y H Q
theorem ZE.nil_iff {xs:List V}{us:List Value} (r:ZE xs us):us=[]↔xs=[]:=by
 cases r with
 | nil=>simp
 | cons _ _=>simp
theorem op_catT:OpR X (binaryOp .Add) (rCatT X.K):=by
 intro pins s σ H x y v u Q I rx ry h
 obtain ⟨a,b,xs,ys,rfl,rfl,ha,hb,hx,hz,q1,q2⟩:=h
 cases rx
 cases ry
 obtain ⟨its,r1,p1,_⟩:=I.tuple ha
 obtain ⟨its2,r2,p2,_⟩:=I.tuple hb
 refine HT.cat_tup p1 p2 (fun z=>hx (r1.nil_iff.mp z)) (fun z=>⟨.ref a,H,I,rfl,q1 (r2.nil_iff.mp z)⟩) (fun z=>?_) (by rw [← r1.length,← r2.length];exact hz)
 refine ⟨.ref s.heap.objs.size,_,I.laid (t':=s.toks) (o:=.tup (xs++ys)) (fun b ob q=>Heap.get?_push_of_some _ q) (Nat.le_refl _) ?_,rfl,q2 (fun w=>z (r2.nil_iff.mpr w)) _ (I.hok.fresh (Nat.le_refl _))⟩
 exact ⟨by rw [List.length_append];exact hz,_,r1.append r2,IsTup.new _ _⟩
end
def ixN (n:Nat) (i:Int):Option Nat:=if 0≤i then (if i<n then some i.toNat else none) else if -(n:Int)≤i then some (i+n).toNat else none
def atI {α:Type} (xs:List α) (i:Int):Option α:=(ixN xs.length i).bind fun j=>xs[j]?
theorem ixN_seq {n:Nat}{i:Int}{j:Nat} (h:ixN n i=some j):seqIndex? i n=some j∧j<n∧-(n:Int)≤i∧i<n:=by
 unfold ixN at h
 by_cases h0:0≤i
 ·rw [if_pos h0] at h
  by_cases h1:i<n
  ·rw [if_pos h1] at h
   have e:i.toNat=j:=Option.some.inj h
   exact ⟨by rw [seqIndex_of h0 h1,e],by omega,by omega,h1⟩
  ·rw [if_neg h1] at h;cases h
 ·rw [if_neg h0] at h
  by_cases h1:-(n:Int)≤i
  ·rw [if_pos h1] at h
   have e:(i+n).toNat=j:=Option.some.inj h
   exact ⟨by rw [seqIndex_neg (by omega) h1,e],by omega,h1,by omega⟩
  ·rw [if_neg h1] at h;cases h
theorem xu {α:Type}{xs:List α}{i:Int}{v:α} (h:atI xs i=some v):∃ j,seqIndex? i xs.length=some j∧xs[j]?=some v∧j<xs.length∧-(xs.length:Int)≤i∧i<xs.length:=by
 unfold atI at h
 cases e:ixN xs.length i with
 | none=>rw [e] at h;cases h
 | some j=>
  rw [e] at h
  obtain ⟨h1,h2,h3,h4⟩:=ixN_seq e
  exact ⟨j,h1,h,h2,h3,h4⟩
theorem Xx {α:Type}{xs:List α}{j:Nat}{v:α} (h:xs[j]?=some v):atI xs (j:Int)=some v:=by
 have hj:j<xs.length:=(List.getElem?_eq_some_iff.mp h).1
 have e:ixN xs.length (j:Int)=some j:=by
  unfold ixN
  rw [if_pos (by omega),if_pos (by omega)];simp
 unfold atI;rw [e];exact h
def PlainIx (b:Expr):Prop:=∀ o i,subscripted b false o i=operate [o,i] (getItem o i)
def IxR (X:Cx) (r:R2):Prop:=
 ∀ (value slice:Expr) (pins:List (Addr × Obj)) (s:Shared) (σ:St) (H:Hp) (x y:V) (v u:Value) (Q:VK),Inv X pins σ H s→ZS x v→ZS y u→r x y H Q →
  subscripted slice false v u=operate [v,u] (getItem v u)→wpAny (model X.prog X.w) X.A (subscriptTail value slice v u) (EP X pins σ Q) X.xe s
def MtR (X:Cx) (id:String) (r:V→List V→Hp→VK→Prop):Prop:=
 ∀ (pins:List (Addr × Obj)) (s:Shared) (σ:St) (H:Hp) (x:V) (xs:List V) (v:Value) (us:List Value) (Q:VK),Inv X pins σ H s→ZS x v→ZE xs us→r x xs H Q →
  wpAny (model X.prog X.w) X.A (call (.builtin id) (v :: us)) (EP X pins σ Q) X.xe s
section
variable {X:Cx}{a b:Expr}{ta tb:TE}{pos:Pos}
theorem ZH {r:R2} (hr:IxR X r) (ha:PE X a ta) (hb:PE X b tb) (hs:PlainIx b):PE X (.Subscript a b pos) (tOp r ta tb):=by
 intro pins s σ H Q I h
 exact Subscript_ (binT ha hb I h fun v u s2 x y H2 I2 rx ry q=>hr a b pins s2 σ H2 x y v u Q I2 rx ry q (hs _ _))
inductive rIxL_R (K:PySem.W.Frag) (x:V) (y:V) (H:Hp) (Q:VK):Prop
 | mk (p:_) (xs:_) (i:_) (v:_) (h0:x=.ref p) (h1:y=.int i) (h2:SqL K H p xs) (h3:atI xs i=some v) (h4:Q v H):rIxL_R K x y H Q
def rIxL (K:PySem.W.Frag):R2:=fun x y H Q=>rIxL_R K x y H Q
inductive rIxT_R (K:PySem.W.Frag) (x:V) (y:V) (H:Hp) (Q:VK):Prop
 | mk (p:_) (xs:_) (i:_) (v:_) (h0:x=.ref p) (h1:y=.int i) (h2:SqT K H p xs) (h3:atI xs i=some v) (h4:Q v H):rIxT_R K x y H Q
def rIxT (K:PySem.W.Frag):R2:=fun x y H Q=>rIxT_R K x y H Q
inductive rIxS_R (x:V) (y:V) (H:Hp) (Q:VK):Prop
 | mk (z:_) (i:_) (c:_) (h0:x=.str z) (h1:y=.int i) (h2:z.length≤sizeLine) (h3:atI z.cps.toList i=some c) (h4:Q (.str ⟨#[c]⟩) H):rIxS_R x y H Q
def rIxS:R2:=fun x y H Q=>rIxS_R x y H Q
theorem ix_list:IxR X (rIxL X.K):=by
 intro value slice pins s σ H x y v u Q I rx ry h hs
 obtain ⟨p,xs,i,z,rfl,rfl,hq,he,q⟩:=h
 cases rx
 obtain ⟨t,rfl⟩:=ry
 obtain ⟨its,r,pl,hz⟩:=I.list hq
 obtain ⟨j,h1,h2,h3,h4,h5⟩:=xu he
 obtain ⟨w,ew,rw'⟩:=r.get h2
 have hl:=r.length
 have hn:=Uz
 have fin:EP X pins σ Q w s:=⟨z,H,I,rw',q⟩
 by_cases h0:0≤i
 ·have hj:i.toNat=j:=by
   rw [seqIndex_of h0 h5] at h1
   exact Option.some.inj h1
  exact item_listR pl.isList h0 (by omega) (by rw [hj];simpa using ew) fin hs
 ·have hj:(i+(its.toArray.size:Int)).toNat=j:=by
   rw [seqIndex_neg (by omega) h4] at h1
   rw [List.size_toArray,← hl]
   exact Option.some.inj h1
  exact subscriptTail_builtinR (x:=w) pl.isList.typeIs slot_list_getitem.lookup
   (wpAny_getItem_list_neg (Q:=fun r s'=>r=w∧EP X pins σ Q r s') pl.isList (by omega) (by rw [List.size_toArray] <;> omega) (by omega) (by rw [hj];simpa using ew) ⟨rfl,fin⟩) hs
theorem ix_tup:IxR X (rIxT X.K):=by
 intro value slice pins s σ H x y v u Q I rx ry h hs
 obtain ⟨p,xs,i,z,rfl,rfl,hq,he,q⟩:=h
 cases rx
 obtain ⟨t,rfl⟩:=ry
 obtain ⟨its,r,pl,hz⟩:=I.tuple hq
 obtain ⟨j,h1,h2,h3,h4,h5⟩:=xu he
 obtain ⟨w,ew,rw'⟩:=r.get h2
 have hl:=r.length
 have hn:=Uz
 have fin:EP X pins σ Q w s:=⟨z,H,I,rw',q⟩
 exact subscriptTail_builtinR (x:=w) pl.typeIs slot_tuple_getitem.lookup
  (getItem_tuple (j:=j) (Q:=fun r s'=>r=w∧EP X pins σ Q r s') pl (by omega) (by omega) (by rw [List.size_toArray,← hl];exact h1) (by simpa using ew) ⟨rfl,fin⟩) hs
theorem ix_str:IxR X rIxS:=by
 intro value slice pins s σ H x y v u Q I rx ry h hs
 obtain ⟨z,i,c,rfl,rfl,hz,he,q⟩:=h
 obtain ⟨t,rfl⟩:=rx
 obtain ⟨t',rfl⟩:=ry
 obtain ⟨j,h1,h2,h3,h4,h5⟩:=xu he
 have hl:z.cps.toList.length=z.length:=by simp [Str.length]
 rw [hl] at h1 h4 h5
 have hn:=Uz
 exact tail_any (typeIs_str s z t) slot_str_getitem.lookup (getItem_str (c:=c) (by
  have e1:decide (i < -(2 ^ 63:Int))=false:=decide_eq_false (by omega)
  have e2:decide (i ≥ 2 ^ 63)=false:=decide_eq_false (by omega)
  rw [e1,e2,Bool.or_false]) (by rw [h1];simpa using h2) ⟨.str ⟨#[c]⟩,H,I.tok _,⟨_,rfl⟩,q⟩) hs
theorem xj (lo hi:Option Int) (n:Nat):(sliceBounds lo hi none n).1=((HT.sIx n 0 lo:Nat):Int)∧(sliceBounds lo hi none n).2.1=((HT.sIx n n hi:Nat):Int)∧(sliceBounds lo hi none n).2.2=1:=by
 refine ⟨?_,?_,rfl⟩
 ·cases lo with
  | none=>simp [sliceBounds,HT.sIx]
  | some i=>
   simp only [sliceBounds,HT.sIx,Option.getD_none,show (1:Int) > 0 by decide,if_true]
   by_cases h:i<0
   ·simp only [h,if_true] <;> omega
   ·simp only [h,if_false] <;> omega
 ·cases hi with
  | none=>simp [sliceBounds,HT.sIx]
  | some i=>
   simp only [sliceBounds,HT.sIx,Option.getD_none,show (1:Int) > 0 by decide,if_true]
   by_cases h:i<0
   ·simp only [h,if_true] <;> omega
   ·simp only [h,if_false] <;> omega
theorem zE (its:List Value) (lo hi:Option Int):slicePick its.toArray lo hi none=((its.drop (HT.sIx its.length 0 lo)).take (HT.sIx its.length its.length hi - HT.sIx its.length 0 lo)).toArray:=by
 obtain ⟨h1,h2,h3⟩:=xj lo hi its.toArray.size
 unfold slicePick
 rw [h1,h2,h3]
 simp only [sliceRange_one,pick_run,List.size_toArray] <;> rfl
inductive rSlL_R (K:PySem.W.Frag) (x:V) (lo:Option Int) (hi:Option Int) (H:Hp) (Q:VK):Prop
 | mk (a:_) (xs:_) (h0:x=.ref a) (h1:SqL K H a xs) (h2:∀ p,H p=none→Q (.ref p) (upd H p (.lst (cutV xs lo hi)))):rSlL_R K x lo hi H Q
def rSlL (K:PySem.W.Frag):V→Option Int→Option Int→Hp→VK→Prop:=fun x lo hi H Q=>rSlL_R K x lo hi H Q
theorem sl_list:SlR X (rSlL X.K):=by
 intro pins s σ H x v vl vu lo hi sl Q I rx hs pl pu h
 obtain ⟨a,xs,rfl,hx,q⟩:=h
 cases rx
 obtain ⟨its,r,ht,hz⟩:=I.list hx
 have hlen:=r.length
 refine ⟨"list",_,slot_list_getitem.lookup,ht.isList.typeIs,?_⟩
 refine wpAny_getItem_list_slice ht.isList hs pl pu .none (by simp) ?_ (by rw [List.size_toArray] <;> omega)
 rw [zE,← hlen]
 refine ⟨.ref s.heap.objs.size,_,I.laid (t':=s.toks) (o:=.lst (cutV xs lo hi)) (fun b ob q=>Heap.get?_push_of_some _ q) (Nat.le_refl _) ?_,rfl,q _ (I.hok.fresh (Nat.le_refl _))⟩
 exact ⟨Nat.le_trans (vm xs lo hi) hz,_,0,(r.drop (HT.sIx xs.length 0 lo)).take (HT.sIx xs.length xs.length hi - HT.sIx xs.length 0 lo),Heap.get?_push_size _ rfl⟩
def W8:V→Bool
 | .non=>true
 | .bl _=>true
 | .int _=>true
 | .str _=>true
 | _=>false
def eqV:V→V→Bool
 | .non,.non=>true
 | .bl a,.bl b=>a == b
 | .bl a,.int b=>(if a then 1 else 0) == b
 | .int a,.bl b=>a == (if b then 1 else 0)
 | .int a,.int b=>a == b
 | .str a,.str b=>a == b
 | _,_=>false
theorem eqAt_V {A:Around}{s:Shared}{y x:V}{u v:Value} (ry:ZS y u) (rx:ZS x v) (fy:W8 y=true) (fx:W8 x=true):SeqAt.EqAt A s u v (eqV y x):=by
 cases y with
 | non=>
  cases ry
  cases x with
  | non=>cases rx;exact SeqAt.EqAt.same _
  | bl b=>cases rx;exact SeqAt.EqAt.none_bool b
  | int b=>obtain ⟨t,rfl⟩:=rx;exact SeqAt.EqAt.none_int b t
  | str b=>obtain ⟨t,rfl⟩:=rx;exact SeqAt.EqAt.none_str b t
  | _=>exact absurd (show false=true from fx) Bool.false_ne_true
 | bl a=>
  cases ry
  cases x with
  | non=>cases rx;exact SeqAt.EqAt.bool_none a
  | bl b=>cases rx;exact SeqAt.EqAt.bool_bool a b
  | int b=>obtain ⟨t,rfl⟩:=rx;exact SeqAt.EqAt.bool_int a b t
  | str b=>obtain ⟨t,rfl⟩:=rx;exact SeqAt.EqAt.bool_str a b t
  | _=>exact absurd (show false=true from fx) Bool.false_ne_true
 | int a=>
  obtain ⟨t',rfl⟩:=ry
  cases x with
  | non=>cases rx;exact SeqAt.EqAt.int_none a t'
  | bl b=>cases rx;exact SeqAt.EqAt.int_bool a t' b
  | int b=>obtain ⟨t,rfl⟩:=rx;exact SeqAt.EqAt.int_int a t' b t
  | str b=>obtain ⟨t,rfl⟩:=rx;exact SeqAt.EqAt.int_str a t' b t
  | _=>exact absurd (show false=true from fx) Bool.false_ne_true
 | str a=>
  obtain ⟨t',rfl⟩:=ry
  cases x with
  | non=>cases rx;exact SeqAt.EqAt.str_none a t'
  | bl b=>cases rx;exact SeqAt.EqAt.str_bool a t' b
  | int b=>obtain ⟨t,rfl⟩:=rx;exact SeqAt.EqAt.str_int a t' b t
  | str b=>obtain ⟨t,rfl⟩:=rx;exact SeqAt.EqAt.str_str a t' b t
  | _=>exact absurd (show false=true from fx) Bool.false_ne_true
 | _=>exact absurd (show false=true from fy) Bool.false_ne_true
def eqU (x:V) (u:Value):Bool:=match u with
 | .none=>eqV .non x
 | .bool b=>eqV (.bl b) x
 | .int i _=>eqV (.int i) x
 | .str z _=>eqV (.str z) x
 | _=>false
theorem eqU_of {x y:V}{u:Value} (r:ZS y u) (f:W8 y=true):eqU x u=eqV y x:=by
 cases y with
 | non=>cases r;rfl
 | bl b=>cases r;rfl
 | int i=>obtain ⟨t,rfl⟩:=r;rfl
 | str z=>obtain ⟨t,rfl⟩:=r;rfl
 | _=>exact absurd (show false=true from f) Bool.false_ne_true
theorem VY {x:V}:∀ {xs:List V}{us:List Value},ZE xs us→xs.all W8=true→us.any (eqU x)=xs.any fun y=>eqV y x
 | _,_,.nil,_=>rfl
 | y :: xs,u :: us,.cons r t,f=>by
  rw [List.all_cons,Bool.and_eq_true] at f
  rw [List.any_cons,List.any_cons,eqU_of r f.1,VY t f.2]
theorem Vg {A:Around}{s:Shared}{x:V}{v:Value} (rx:ZS x v) (fx:W8 x=true):∀ {xs:List V}{us:List Value},ZE xs us→xs.all W8=true→∀ u∈us,SeqAt.EqAt A s u v (eqU x u)
 | _,_,.nil,_=>fun u hu=>by cases hu
 | y :: xs,u :: us,.cons r t,f=>fun u' hu=>by
  rw [List.all_cons,Bool.and_eq_true] at f
  rcases List.mem_cons.mp hu with rfl | hu
  ·rw [eqU_of r f.1];exact eqAt_V r rx f.1 fx
  ·exact Vg rx fx t f.2 u' hu
def inV (x:V) (xs:List V):Bool:=xs.any fun y=>eqV y x
inductive rIn_R (K:PySem.W.Frag) (neg:Bool) (x:V) (y:V) (H:Hp) (Q:VK):Prop
 | mk (p:_) (xs:_) (h0:y=.ref p) (h1:(SqL K H p xs∨SqT K H p xs)) (h2:W8 x=true) (h3:xs.all W8=true) (h4:Q (.bl (if neg then !inV x xs else inV x xs)) H):rIn_R K neg x y H Q
def rIn (K:PySem.W.Frag) (neg:Bool):R2:=fun x y H Q=>rIn_R K neg x y H Q
theorem op_in_seq:OpR X (compareOp .In) (rIn X.K false):=by
 intro pins s σ H x y v u Q I rx ry h
 obtain ⟨p,xs,rfl,hq,fx,fs,q⟩:=h
 cases ry
 rcases hq with hq | hq
 ·obtain ⟨its,r,pl,hz⟩:=I.list hq
  refine SeqAt.in_listAt (eqU x) pl.isList (fun w hw=>Vg rx fx r fs w (by simpa using hw)) ⟨.bl _,H,I,rfl,?_⟩
  rw [show its.toArray.any (eqU x)=its.any (eqU x) by simp,VY r fs]
  exact q
 ·obtain ⟨its,r,pl,hz⟩:=I.tuple hq
  refine SeqAt.in_tupleAt (eqU x) pl (fun w hw=>Vg rx fx r fs w (by simpa using hw)) ⟨.bl _,H,I,rfl,?_⟩
  rw [show its.toArray.any (eqU x)=its.any (eqU x) by simp,VY r fs]
  exact q
theorem xm:OpR X (compareOp .NotIn) (rIn X.K true):=by
 intro pins s σ H x y v u Q I rx ry h
 obtain ⟨p,xs,rfl,hq,fx,fs,q⟩:=h
 cases ry
 rcases hq with hq | hq
 ·obtain ⟨its,r,pl,hz⟩:=I.list hq
  refine SeqAt.notIn_listAt (eqU x) pl.isList (fun w hw=>Vg rx fx r fs w (by simpa using hw)) ⟨.bl _,H,I,rfl,?_⟩
  rw [show its.toArray.any (eqU x)=its.any (eqU x) by simp,VY r fs]
  exact q
 ·obtain ⟨its,r,pl,hz⟩:=I.tuple hq
  refine SeqAt.notIn_tupleAt (eqU x) pl (fun w hw=>Vg rx fx r fs w (by simpa using hw)) ⟨.bl _,H,I,rfl,?_⟩
  rw [show its.toArray.any (eqU x)=its.any (eqU x) by simp,VY r fs]
  exact q
theorem xC:Ys X (.builtin "len") (fun xs H Q=>∃ p ys,xs=[.ref p]∧(SqL X.K H p ys∨SqT X.K H p ys)∧Q (.int ys.length) H):=by
 intro pins s σ H xs us Q I r h
 obtain ⟨p,ys,rfl,hq,q⟩:=h
 obtain ⟨u,rfl,rx⟩:=Wi r
 cases rx
 have hn:=Uz
 rcases hq with hq | hq
 ·obtain ⟨its,r',pl,hz⟩:=I.list hq
  have hlen:=r'.length
  exact Calls.call_len_list pl.isList (by simp only [List.size_toArray] <;> omega) ⟨.int ys.length,H,I.tok _,⟨s.toks+1,by rw [List.size_toArray,hlen]⟩,q⟩
 ·obtain ⟨its,r',pl,hz⟩:=I.tuple hq
  have hlen:=r'.length
  exact len_tuple pl (by simp only [List.size_toArray] <;> omega) ⟨.int ys.length,H,I.tok _,⟨s.toks+1,by rw [List.size_toArray,hlen]⟩,q⟩
theorem xn:Ys X (.builtin "len") (fun xs H Q=>∃ z,xs=[.str z]∧z.length≤sizeLine∧Q (.int z.length) H):=by
 intro pins s σ H xs us Q I r h
 obtain ⟨z,rfl,hz,q⟩:=h
 obtain ⟨u,rfl,t,rfl⟩:=Wi r
 have hn:=Uz
 exact len_str (by omega) ⟨.int z.length,H,I.tok _,⟨_,rfl⟩,q⟩
theorem Ys.or {f:Value}{r r':List V→Hp→VK→Prop} (h:Ys X f r) (h':Ys X f r'):Ys X f (fun xs H Q=>r xs H Q∨r' xs H Q):=by
 intro pins s σ H xs us Q I rs q
 rcases q with q | q
 ·exact h pins s σ H xs us Q I rs q
 ·exact h' pins s σ H xs us Q I rs q
theorem yV:Ys X (.type "list") (fun xs H Q=>∃ p ys,xs=[.ref p]∧(SqL X.K H p ys∨SqT X.K H p ys)∧∀ l,H l=none→Q (.ref l) (upd H l (.lst ys))):=by
 intro pins s σ H xs us Q I r h
 obtain ⟨p,ys,rfl,hq,q⟩:=h
 obtain ⟨u,rfl,rx⟩:=Wi r
 cases rx
 have fin:∀ (its:List Value),ZE ys its→ys.length≤sizeLine→∀ (h':Heap) (c':Nat),(∀ b o',s.heap.get? b=some o'→h'.get? b=some o') →
   h'.get? s.heap.objs.size=some { cls:=.type "list",dict:=none,data:=.seq its.toArray c',slots:=#[] }→EP X pins σ Q (.ref s.heap.objs.size) { s with heap:=h' }:=fun its r' hz h' c' kp e=>
  ⟨.ref s.heap.objs.size,_,I.laid (t':=s.toks) kp (Nat.le_refl _) (show YB X.prog X.w _ h' _ (.lst ys) from ⟨hz,its,c',r',e⟩),rfl,q _ (I.hok.fresh (Nat.le_refl _))⟩
 rcases hq with hq | hq
 ·obtain ⟨its,r',pl,hz⟩:=I.list hq
  have hlen:=r'.length
  obtain ⟨o,ho,hc,n,hd⟩:=pl.isList
  exact call_list_seq p (.inl rfl) ho hc hd (fun h' c' kp e=>fin its r' hz h' c' kp e) (by simp only [List.size_toArray] <;> omega)
 ·obtain ⟨its,r',pl,hz⟩:=I.tuple hq
  have hlen:=r'.length
  obtain ⟨o,ho,hc,n,hd⟩:=pl
  exact call_list_seq p (.inr rfl) ho hc hd (fun h' c' kp e=>fin its r' hz h' c' kp e) (by simp only [List.size_toArray] <;> omega)
theorem zy:Ys X (.type "tuple") (fun xs H Q=>∃ p ys,xs=[.ref p]∧((SqL X.K H p ys∧∀ l,H l=none→Q (.ref l) (upd H l (.tup ys)))∨(SqT X.K H p ys∧Q (.ref p) H))):=by
 intro pins s σ H xs us Q I r h
 obtain ⟨p,ys,rfl,h⟩:=h
 obtain ⟨u,rfl,rx⟩:=Wi r
 cases rx
 rcases h with ⟨hq,q⟩ | ⟨hq,q⟩
 ·obtain ⟨its,r',pl,hz⟩:=I.list hq
  have hlen:=r'.length
  refine call_tuple_list pl.isList (fun h' kp=>?_) (by simp only [List.size_toArray] <;> omega)
  have I1:Inv X pins σ H { s with heap:=h' }:=I.kept (t':=s.toks) kp
  have I2:Inv X pins σ (upd H h'.objs.size (.tup ys)) { s with heap:=h'.push { cls:=.type "tuple",data:=.seq its.toArray } }:=
   I1.laid (t':=s.toks) (fun b o e=>Heap.get?_push_of_some _ e) (Nat.le_refl _) (show YB X.prog X.w _ _ _ (.tup ys) from ⟨hz,its,r',IsTup.new _ _⟩)
  exact ⟨.ref h'.objs.size,_,I2,rfl,q _ (I1.hok.fresh (Nat.le_refl _))⟩
 ·obtain ⟨its,r',pl,hz⟩:=I.tuple hq
  exact call_tuple_same pl ⟨.ref p,H,I,rfl,q⟩
def tyV (K:PySem.W.Frag) (T:String) (x:V) (H:Hp):Prop:=match x with
 | .str _=>T = "str"
 | .int _=>T = "int"
 | .ref p=>(T = "list" ∧ ∃ xs,SqL K H p xs)∨(T = "tuple" ∧ ∃ o,K.lookup p=some o∧o.cls=.type "tuple" ∧ o.dict=none) ∨
   (T = "dict" ∧ ((∃ kvs,H p=some (.dK kvs))∨∃ kvs,H p=some (.dT kvs)))∨(T = "set" ∧ ∃ S n,H p=some (.set S n))
 | _=>False
theorem tyV_is {pins:List (Addr × Obj)}{σ:St}{H:Hp}{s:Shared}{T:String}{x:V}{v:Value} (I:Inv X pins σ H s) (r:ZS x v) (ty:tyV X.K T x H) :
  s.TypeIs v T∧∀ a,v=.ref a→∃ ob,s.heap.get? a=some ob∧ob.dict=none:=by
 cases x with
 | str z=>
  obtain ⟨t,rfl⟩:=r
  cases (show T = "str" from ty)
  exact ⟨typeIs_str s z t,fun _ e=>nomatch e⟩
 | int i=>
  obtain ⟨t,rfl⟩:=r
  cases (show T = "int" from ty)
  exact ⟨typeIs_int s i t,fun _ e=>nomatch e⟩
 | ref p=>
  cases r
  rcases ty with ⟨rfl,xs,hq⟩ | ⟨rfl,o,hk,hc,hd⟩ | ⟨rfl,hk⟩ | ⟨rfl,S,n,hk⟩
  ·obtain ⟨its,_,pl,_⟩:=I.list hq
   refine ⟨pl.isList.typeIs,fun a e=>?_⟩
   cases e
   obtain ⟨o,n,e,c,hd,_⟩:=pl
   exact ⟨o,e,hd⟩
  ·refine ⟨⟨o,I.kIn p o hk,hc⟩,fun a e=>?_⟩
   cases e
   exact ⟨o,I.kIn _ o hk,hd⟩
  ·have z:∃ o,s.heap.get? p=some o∧o.ExactDict:=by
    rcases hk with ⟨kvs,hk⟩ | ⟨kvs,hk⟩
    ·obtain ⟨_,_,_,_,o,_,_,e,ex,_⟩:=I.hok p _ hk
     exact ⟨o,e,ex⟩
    ·obtain ⟨_,_,_,_,o,_,_,e,ex,_⟩:=I.hok p _ hk
     exact ⟨o,e,ex⟩
   obtain ⟨o,e,ex⟩:=z
   refine ⟨⟨o,e,ex.1⟩,fun a e2=>?_⟩
   cases e2
   exact ⟨o,e,ex.2.1⟩
  ·obtain ⟨o,_,_,_,e,ex,_⟩:=I.hok p _ hk
   refine ⟨⟨o,e,ex.1⟩,fun a e2=>?_⟩
   cases e2
   exact ⟨o,e,ex.2.1⟩
 | _=>exact False.elim ty
def tBM0 (K:PySem.W.Frag) (T:String) (r:V→List V→Hp→VK→Prop) (to:TE):TE:=fun σ H Q=>to σ H fun x H1=>tyV K T x H1∧r x [] H1 Q
def tBM (K:PySem.W.Frag) (T:String) (r:V→List V→Hp→VK→Prop) (to:TE) (t:TA):TE:=fun σ H Q=>to σ H fun x H1=>tyV K T x H1∧t σ H1 fun xs H2=>r x xs H2 Q
variable {o e:Expr}{es:List Expr}{to:TE}{t:TA}{name:Str}{apos cpos:Pos}{T id:String}{r:V→List V→Hp→VK→Prop}
theorem pe_bm0 (pa:PlainAttrs T) (slot:Slot T name id) (hty:typeOf (.builtin id)=pure (.type "method_descriptor")) (hm:MtR X id r) (ho:PE X o to)
  (hbase:attributeBase o name X.env (eval o X.env)=eval o X.env:=by rfl) (hline:(apos.endLine == cpos.line)=true:=by rfl):PE X (.Call (.Attribute o name apos) [] [] cpos) (tBM0 X.K T r to):=by
 intro pins s σ H Q I h
 refine wpAny_Call_method0_late hbase hline (thn (ho pins s σ H _ I h) fun v s1 ⟨x,H1,I1,r1,ty,q1⟩=>?_)
 obtain ⟨h1,h2⟩:=tyV_is I1 r1 ty
 exact ⟨T,id,pa,slot,hty,h1,h2,Calls.callWith_builtin rfl (PySem.evalArgs_none (hm pins s1 σ H1 x [] v [] Q I1 r1 .nil q1))⟩
theorem Wu (pa:PlainAttrs T) (slot:Slot T name id) (hty:typeOf (.builtin id)=pure (.type "method_descriptor")) (hm:MtR X id r) (ho:PE X o to) (ha:PA X (e :: es) t)
  (hbase:attributeBase o name X.env (eval o X.env)=eval o X.env:=by rfl)
  (hfew:((backTo cpos (starEach (e :: es) X.env)).all (fun x=>!x.1) && (backToKw cpos (keywordEach [] X.env)).all (fun x=>x.1.isSome)
   && decide ((e :: es).length+([]:List Keyword).length+(if ([]:List Keyword).isEmpty then 0 else 1)<30))=true:=by rfl)
  (hline:(apos.endLine == cpos.line)=true:=by rfl) (hs:starEach (e :: es) X.env=(false,eval e X.env) :: starEach es X.env:=by rfl) (hplain:(backTo cpos (starEach es X.env)).any (·.1)=false:=by rfl) :
  PE X (.Call (.Attribute o name apos) (e :: es) [] cpos) (tBM X.K T r to t):=by
 intro pins s σ H Q I h
 refine wpAny_Call_method_late hbase hfew hline rfl (thn (ho pins s σ H _ I h) fun v s1 ⟨x,H1,I1,r1,ty,q1⟩=>?_)
 obtain ⟨h1,h2⟩:=tyV_is I1 r1 ty
 refine ⟨T,id,pa,slot,hty,h1,h2,?_⟩
 have hA:=ha cpos pins s1 σ H1 _ I1 q1
 rw [hs] at hA ⊢
 refine Calls.callWith_builtin (by show (false || (backTo cpos (starEach es X.env)).any (·.1))=false;rw [hplain] <;> rfl) (Calls.evalArgs_plain ?_)
 exact thn hA fun us s2 ⟨vs,H2,I2,r2,q2⟩=>hm pins s2 σ H2 x vs v us Q I2 r1 r2 q2
end
def MtM (X:Cx) (id:String) (r:V→List V→Hp→VK→Prop):Prop:=
 ∀ (pins:List (Addr × Obj)) (s:Shared) (σ:St) (H:Hp) (x:V) (xs:List V) (v:Value) (us:List Value) (Q:VK),Inv X pins σ H s→ZS x v→ZE xs us→r x xs H Q →
  wpAny (model X.prog X.w) X.A (call (.builtin id) (v :: us)) (EP X pins σ Q) X.xe s
theorem ZE.one:∀ {x:V}{us:List Value},ZE [x] us→∃ u,us=[u]∧ZS x u
 | _,_,.cons r .nil=>⟨_,rfl,r⟩
theorem ZE.zero:∀ {us:List Value},ZE [] us→us=[]
 | _,.nil=>rfl
theorem ZE.dropLast {xs:List V}{us:List Value} (h:ZE xs us):ZE xs.dropLast us.dropLast:=by
 induction h with
 | nil=>exact .nil
 | cons r t ih=>
  cases t with
  | nil=>exact .nil
  | cons q t'=>exact .cons r ih
theorem v8 {α:Type} (l:List α):l.eraseIdx (l.length - 1)=l.dropLast:=by
 induction l with
 | nil=>rfl
 | cons a r ih=>
  cases r with
  | nil=>rfl
  | cons b r=>
   have e:(a :: b :: r).length - 1=((b :: r).length - 1)+1:=by
    have h1:(a :: b :: r).length=r.length+2:=rfl
    have h2:(b :: r).length=r.length+1:=rfl
    omega
   rw [e,List.eraseIdx_cons_succ,ih]
   all_goals rfl
section
variable {X:Cx}{pins:List (Addr × Obj)}{σ:St}{H:Hp}{s:Shared}{l b:Addr}{xs ys zs:List V}
theorem Inv.lset {its its':List Value}{n:Nat}{f:Array Value→Array Value}{t':Nat} (I:Inv X pins σ H s) (hH:H l=some (.lst xs))
  (e:s.heap.get? l=some { cls:=.type "list",data:=.seq its.toArray n }) (hf:f its.toArray=its'.toArray) (hv:ZE ys its') (hz:ys.length≤sizeLine) :
  Inv X pins σ (upd H l (.lst ys)) { s with heap:=s.heap.update l (Obj.mapSeq f),toks:=t' }:=by
 have q:=PySem.IsL.update e f
 rw [hf] at q
 refine I.write (x:=l) (e:=l) (by rw [hH];exact trivial) (.inl rfl) (fun b' u hb hu=>(Heap.get?_update_other s.heap (Obj.mapSeq f) (Ne.symm hb)).trans hu) ⟨_,q⟩ ?_
 exact ⟨hz,its',_,hv,q⟩
theorem Inv.lnew {its:List Value}{t':Nat} (I:Inv X pins σ H s) (hv:ZE ys its) (hz:ys.length≤sizeLine) :
  Inv X pins σ (upd H s.heap.objs.size (.lst ys)) { s with heap:=s.heap.push { cls:=.type "list",data:=.seq its.toArray },toks:=t' }:=
 I.laid (fun _ _ q=>Heap.get?_push_of_some _ q) (Nat.le_refl _) ⟨hz,its,0,hv,Heap.get?_push_size _ rfl⟩
theorem Inv.fresh (I:Inv X pins σ H s):H s.heap.objs.size=none:=I.hok.fresh (Nat.le_refl _)
theorem Inv.lstM (I:Inv X pins σ H s) (hH:H l=some (.lst xs)):xs.length≤sizeLine∧∃ (its:List Value) (n:Nat),ZE xs its∧xs.length=its.length∧s.heap.get? l=some { cls:=.type "list",data:=.seq its.toArray n }:=by
 obtain ⟨z,its,n,r,e⟩:=I.hok l _ hH
 exact ⟨z,its,n,r,r.length,e⟩
theorem notLongL {n:Nat} (h:n≤sizeLine):Builtin.List.listTooLong n=false:=by
 unfold Builtin.List.listTooLong
 exact decide_eq_false (by omega)
end
section
variable {X:Cx}
inductive yx (x:V) (vs:List V) (H:Hp) (Q:VK):Prop
 | mk (l:_) (xs:_) (y:_) (h0:x=.ref l) (h1:vs=[y]) (h2:H l=some (.lst xs)) (h3:xs.length<sizeLine) (h4:Q .non (upd H l (.lst (xs++[y])))):yx x vs H Q
def rAppend:V→List V→Hp→VK→Prop:=fun x vs H Q=>yx x vs H Q
theorem YJ:MtM X "list.append" rAppend:=by
 intro pins s σ H x vs v us Q I rx rv h
 obtain ⟨l,xs,y,rfl,rfl,hH,hz,q⟩:=h
 cases rx
 obtain ⟨u,rfl,ru⟩:=rv.one
 obtain ⟨z,its,n,r,hl,e⟩:=I.lstM hH
 refine call_meets F.slot_list_append ⟨_,e,rfl⟩ F.entry_list_append (F.args_list_append_2 _ _) (PySem.list_append l its.toArray n u (by rw [List.size_toArray];omega)) ⟨e,?_⟩
 refine ⟨.non,_,I.lset (its':=its++[u]) hH e (by simp) (r.append (.cons ru .nil)) ?_,rfl,q⟩
 rw [List.length_append,List.length_singleton]
 omega
inductive yd (x:V) (vs:List V) (H:Hp) (Q:VK):Prop
 | mk (l:_) (b:_) (xs:_) (zs:_) (h0:x=.ref l) (h1:vs=[.ref b]) (h2:H l=some (.lst xs)) (h3:H b=some (.lst zs)) (h4:xs.length+zs.length≤sizeLine) (h5:Q .non (upd H l (.lst (xs++zs)))):yd x vs H Q
def rExtend:V→List V→Hp→VK→Prop:=fun x vs H Q=>yd x vs H Q
theorem mt_extend:MtM X "list.extend" rExtend:=by
 intro pins s σ H x vs v us Q I rx rv h
 obtain ⟨l,b,xs,zs,rfl,rfl,hH,hB,hz,q⟩:=h
 cases rx
 obtain ⟨u,rfl,ru⟩:=rv.one
 cases ru
 obtain ⟨z,its,n,r,hl,e⟩:=I.lstM hH
 obtain ⟨z2,its2,n2,r2,hl2,e2⟩:=I.lstM hB
 have hsz:its.toArray.size+its2.toArray.size≤sizeLine:=by rw [List.size_toArray,List.size_toArray];omega
 have hlong:¬ (!its.toArray.isEmpty && Builtin.List.listTooLong (its.toArray.size+its2.toArray.size))=true:=by
  rw [notLongL hsz,Bool.and_false]
  exact Bool.false_ne_true
 refine call_meets F.slot_list_extend ⟨_,e,rfl⟩ F.entry_list_extend (F.args_list_extend_2 _ _)
  (AutoSeq1.list_extend_list_list_0 l its.toArray n b its2.toArray n2 hlong (by rw [List.size_toArray];omega) (by omega)) ⟨e,e2,?_⟩
 refine ⟨.non,_,I.lset (its':=its++its2) hH e (by simp) (r.append r2) ?_,rfl,q⟩
 rw [List.length_append]
 omega
inductive rPop_R (x:V) (vs:List V) (H:Hp) (Q:VK):Prop
 | mk (l:_) (xs:_) (y:_) (h0:x=.ref l) (h1:vs=[]) (h2:H l=some (.lst xs)) (h3:xs[xs.length - 1]?=some y) (h4:Q y (upd H l (.lst xs.dropLast))):rPop_R x vs H Q
def rPop:V→List V→Hp→VK→Prop:=fun x vs H Q=>rPop_R x vs H Q
theorem mt_pop:MtM X "list.pop" rPop:=by
 intro pins s σ H x vs v us Q I rx rv h
 obtain ⟨l,xs,y,rfl,rfl,hH,hy,q⟩:=h
 cases rx
 have hus:=rv.zero
 subst hus
 obtain ⟨z,its,n,r,hl,e⟩:=I.lstM hH
 obtain ⟨u,hu,ru⟩:=r.get hy
 have hy':its.toArray[its.toArray.size - 1]?=some u:=by
  show its.toArray[its.length - 1]?=some u
  rw [← Array.getElem?_toList,← hl]
  exact hu
 refine call_meets F.slot_list_pop ⟨_,e,rfl⟩ F.entry_list_pop (F.args_list_pop_1 _) (MeetsSeq.list_pop_last l its.toArray n u hy' (by rw [List.size_toArray];omega)) ⟨e,?_⟩
 refine ⟨y,_,I.lset (its':=its.dropLast) hH e ?_ r.dropLast ?_,ru,q⟩
 ·show its.toArray.eraseIdxIfInBounds (its.toArray.size - 1)=its.dropLast.toArray
  rw [List.size_toArray,List.eraseIdxIfInBounds_toArray,v8]
 ·rw [List.length_dropLast]
  omega
inductive vM (x:V) (vs:List V) (H:Hp) (Q:VK):Prop
 | mk (l:_) (xs:_) (h0:x=.ref l) (h1:vs=[]) (h2:H l=some (.lst xs)) (h3:Q .non (upd H l (.lst []))):vM x vs H Q
def rClear:V→List V→Hp→VK→Prop:=fun x vs H Q=>vM x vs H Q
theorem qT:MtM X "list.clear" rClear:=by
 intro pins s σ H x vs v us Q I rx rv h
 obtain ⟨l,xs,rfl,rfl,hH,q⟩:=h
 cases rx
 have hus:=rv.zero
 subst hus
 obtain ⟨z,its,n,r,hl,e⟩:=I.lstM hH
 refine call_meets F.slot_list_clear ⟨_,e,rfl⟩ F.entry_list_clear (F.args_list_clear_1 _) (AutoSeq1.list_clear_list_0 l its.toArray n (by rw [List.size_toArray];omega)) ⟨e,?_⟩
 exact ⟨.non,_,I.lset (its':=[]) (ys:=[]) hH e rfl .nil (Nat.zero_le _),rfl,q⟩
inductive rCat_R (x:V) (y:V) (H:Hp) (Q:VK):Prop
 | mk (l:_) (b:_) (xs:_) (zs:_) (h0:x=.ref l) (h1:y=.ref b) (h2:H l=some (.lst xs)) (h3:H b=some (.lst zs)) (h4:xs.length+zs.length≤sizeLine) (h5:∀ p,H p=none→Q (.ref p) (upd H p (.lst (xs++zs)))):rCat_R x y H Q
def rCat:R2:=fun x y H Q=>rCat_R x y H Q
theorem qI:OpR X (binaryOp .Add) rCat:=by
 intro pins s σ H x y v u Q I rx ry h
 obtain ⟨l,b,xs,zs,rfl,rfl,hH,hB,hz,q⟩:=h
 cases rx
 cases ry
 obtain ⟨z,its,n,r,hl,e⟩:=I.lstM hH
 obtain ⟨z2,its2,n2,r2,hl2,e2⟩:=I.lstM hB
 refine PySem.P.add_list e e2 ?_ (by rw [List.size_toArray,List.size_toArray];omega)
 have ea:its.toArray++its2.toArray=(its++its2).toArray:=by simp
 rw [ea]
 exact ⟨.ref _,_,I.lnew (t':=s.toks) (r.append r2) (by rw [List.length_append];omega),rfl,q _ I.fresh⟩
end
section
variable {prog:Program}{w:World}{A:Around}{E:Value→Shared→Prop}{s:Shared}
set_option maxRecDepth 100000 in
end
section
variable {X:Cx}
end
end L2
namespace Att
open PySem PySem.W PySem.Calls PyProof.Rows
theorem U1 {P:Params}{h:Heap}:∀ (ns:List Int) (vs:List Value),WellAll P h vs (ns.map WData.int)→IntsAre vs ns:=by
 intro ns
 induction ns with
 | nil=>
  intro vs w
  rw [List.map_nil] at w
  cases w
  exact .nil
 | cons n ns ih=>
  intro vs w
  rw [List.map_cons] at w
  cases w with
  | cons a b=>
   cases a
   exact .cons _ _ (ih _ b)
theorem script_of {l:OpenLaw}{n:Nat} (hn:l.most=some n) {P:Params}{h:Heap}{args:List WData}{vals:List Value}
  (hpre:l.row.toRowW.claim.pre args=true) (hwl:WellAll P h vals args) :
  ∃ a vs ns,vals=[Value.ref a]∧args=[WData.list (ns.map WData.int)]∧h.get? a=some { cls:=.type "list",data:=.seq vs.toArray }∧IntsAre vs ns∧ns.length≤n:=by
 have hsh:WShape.hasAll [] args [.list .int]=true:=(pre_splitW hpre).1
 have hc:l.pre.holds [] { args:=args }=true:=(pre_splitW hpre).2
 obtain ⟨d,r,rfl,h1,h2⟩:=hasAllW_cons hsh
 obtain rfl:=hasAllW_nil h2
 obtain ⟨xs,rfl,h3⟩:=hasW_list h1
 obtain ⟨ns,rfl⟩:=items_int h3
 have hlen:ns.length≤n:=by
  unfold OpenLaw.pre at hc
  have h4:(WTm.not (.lt (.lit (.int (n:Int))) (.len (.arg 0)))).holds [] { args:=[.list (ns.map .int)] }=true:=by
   have h4:=(holds_andW hc).1
   rw [hn] at h4
   exact h4
  have h5:=condW_of h4 (w_not (w_lt w_lit (w_len_list (w_arg rfl))))
  rw [List.length_map] at h5
  refine Nat.le_of_not_lt fun q=>?_
  have q':(n:Int)<((ns.length:Nat):Int):=by omega
  first
   | (rw [decide_eq_true q'] at h5;exact absurd h5 (by decide))
   | (simp at h5;omega)
 cases hwl with
 | cons w1 w2=>
  cases w2
  cases w1 with
  | list ho hall=>exact ⟨_,_,ns,rfl,rfl,ho,U1 ns _ hall,hlen⟩
theorem post_true (l:OpenLaw) (args:List WData):l.row.toRowW.claim.post args (.bool true) args=true:=
 postW_of (r:=l.row.toRowW) (X:=(true == true))
  (show WShape.has [] (.bool true) .bool=true by first | rfl | decide | simp [WShape.has,WShape.arms,WShape.armsAll])
  (show (WTm.eq .res (.lit (.bool true))).value [] { args:=args,res:=some (.bool true),after:=args }=some (.bool (true == true)) from w_eq_bool (w_res rfl) w_lit) rfl
theorem attach_call {l:OpenLaw}{n:Nat}{q:Program}{loose:List Str}{XP:(Str→Option Value)→Heap→Prop}{YP:World→Heap→Prop}{d:DefRec}
  (hn:l.most=some n) (hdf:d.params.defaults=[])
  (call:∀ (w:World) (s₀ s₁:Shared) (mg mb:Str→Option Value) (fa:Addr) (o:Obj) (pm cd doc:Value) (a:Addr) (vs:List Value) (ns:List Int),
   Ground q loose [] XP w s₀ mg mb s₁.heap→YP w s₁.heap →
   s₁.heap.get? fa=some o→o.data=.func (docDef d.name d.params d.body d.scope pm cd doc)→s₁.heap.CodeRec cd d.name→mg d.name=some (.ref fa) →
   s₁.heap.get? a=some { cls:=.type "list",data:=.seq vs.toArray }→IntsAre vs ns→ns.length≤n→s₁.gens=#[] →
   codeAny (model l.prog w) callerA (.call (.ref fa) ⟨[.ref a],[]⟩) (fun r s'=>r=.ok (.ret (.bool true))∧OldK s₁.heap s'.heap∧s'.os=s₁.os∧AllBare s'.gens) s₁) :
  WalkO q loose XP YP l.row.toRowW d [] (fun f vs=>PySem.call f vs):=by
 intro w s₀ s₁ mg mb G Y fa o pm cd doc dV kV ho hd hcd hD hmg hg args vals as hpre hlay hrd hwl hlo
 obtain rfl:dV=.none:=Dflts.none hD hdf
 obtain rfl:kV=.none:=Dflts.noKw hD
 obtain ⟨a,vs,ns,rfl,rfl,hobj,hints,hlen⟩:=script_of hn hpre hwl
 refine enter_call (codeAny_mono (call w s₀ s₁ mg mb fa o pm cd doc a vs ns G Y ho (fd_plain hd) hcd hmg hobj hints hlen hg) fun r s' hq=>?_)
 obtain ⟨rfl,h2,h3,h4⟩:=hq
 exact ⟨.inl ⟨.bool true,.bool true,[],rfl,fun _=>rfl,.bool true,post_true l _,fun _=>⟨List.Pairwise.nil,fun _ hm=>(nomatch hm)⟩⟩,h2,h3,h4⟩
section
variable {prog:Program}{w:World}{A:Around}{E:Value→Shared→Prop}{s:Shared}{K:Frag}
def ledger (h:Heap) (L d:Addr):List (Addr × Obj):=(List.range h.objs.size).filterMap fun a=>if a=L∨a=d then none else (h.get? a).map fun o=>(a,o)
end
end Att
namespace L2
open PySem PySem.Spec PyProof.Rows
theorem yt:∀ {vs:List Value}{ns:List Int},IntsAre vs ns→ZE (ns.map V.int) vs
 | _,_,.nil=>.nil
 | _,_,.cons n t h=>.cons ⟨t,rfl⟩ (yt h)
def Only (H:Hp):Prop:=∀ b,H b=none∨∃ o xs,H b=some (.frz o (.lst xs))
theorem law_call {P:Program}{w:World}{K:PySem.W.Frag}{mg mb:Str→Option Value}{CX:CXT}{k:Nat}{fa a:Addr}{fd:FuncData}{x:Str}{sp:Sp}{s₁:Shared}{vs:List Value}{ns:List Int}
  (KX:K.In s₁.heap) (hns:s₁.heap.Ns mainGlobals mg) (hb:s₁.heap.Ns builtinsNs mb) (hbb:∀ x:Str,x ≠ "__name__" → mb x=bootBuiltins x) (hlim:s₁.heap.NoLimit) (hg:s₁.gens=#[])
  (ha:s₁.heap.get? a=some { cls:=.type "list",data:=.seq vs.toArray }) (hi:IntsAre vs ns) (hl:ns.length≤sizeLine) (hr:Y0 k callerA)
  (F:∀ base:Heap,K.In base→base.Ns mainGlobals mg→Yy P w K mg base CX k fa fd [x] sp) (hbind:∀ (s:Shared) (u:Value),BindsTo s fd ⟨[u],[]⟩ [(x,u)])
  (hsp:∀ H:Hp,Only H→SqL K H a (ns.map V.int)→sp [.ref a] H (fun v _=>v=.bl true) fun _ _ _=>False)
  (hCX:∀ H e s',CX [] H s₁ (fun _ _ _=>False) e s'→False) :
  codeAny (model P w) callerA (.call (.ref fa) ⟨[.ref a],[]⟩) (fun r s'=>r=.ok (.ret (.bool true))∧OldK s₁.heap s'.heap∧s'.os=s₁.os∧AllBare s'.gens) s₁:=by
 have rv:=yt hi
 have lenV:=hi.length
 have core:∀ H:Hp,Only H→SqL K H a (ns.map V.int)→HOk P w H s₁.heap→(∀ b,H b≠none→b=a)→(H a≠none→K.lookup a=none) →
   codeAny (model P w) callerA (.call (.ref fa) ⟨[.ref a],[]⟩) (fun r s'=>r=.ok (.ret (.bool true))∧OldK s₁.heap s'.heap∧s'.os=s₁.os∧AllBare s'.gens) s₁:=by
  intro H hO hS hok hA hK
  have base_of:∀ {b:Addr}{o:Obj},s₁.heap.get? b=some o→H b=none→(hidT s₁.heap H).get? b=some o:=fun e n=>hidT_get e n
  have noA:∀ {b:Addr}{o:Obj}{es:Array DictEntry}{ep:Nat},s₁.heap.get? b=some o→o.data=.dict es ep→H b=none:=fun {b o es ep} e d=>by
   cases q:H b with
   | none=>rfl
   | some u=>
    have e':b=a:=hA b (by rw [q];simp)
    subst e'
    rw [ha] at e;cases e
    have d':Data.seq vs.toArray _=Data.dict es ep:=d
    cases d'
  have nsK:∀ {b:Addr}{m:Str→Option Value},s₁.heap.Ns b m→(hidT s₁.heap H).Ns b m:=fun {b m} ⟨o,es,ep,e,d,r⟩=>⟨o,es,ep,base_of e (noA e d),d,r⟩
  have hKb:K.In (hidT s₁.heap H):=fun b o e=>base_of (KX b o e) (by
   cases q:H b with
   | none=>rfl
   | some u=>
    have e':b=a:=hA b (by rw [q];simp)
    subst e'
    rw [hK (by rw [q];simp)] at e;cases e)
  have hM:Mod K mg (hidT s₁.heap H):=⟨hKb,nsK hns,⟨mb,nsK hb,hbb⟩,let ⟨mc,h1,h2⟩:=hlim; ⟨mc,nsK h1,h2⟩⟩
  have e0:Env0 P w K mg (hidT s₁.heap H) callerA [] s₁ H:=⟨rfl,hM,fun b o e=>of_hidT e,Nat.le_of_eq (hidT_size _ _),trivial,fun b hb=>absurd (show b∈([]:List Addr) from hb) (by simp),hok,.of_eq hg⟩
  refine codeAny_mono ((F _ hKb (nsK hns)).run callerA [] s₁ H ⟨[.ref a],[]⟩ [.ref a] [.ref a] _ _ hr e0 (hbind s₁ (.ref a)) (.cons rfl .nil) (hsp H hO hS)) fun r s' h=>?_
  cases r with
  | error e=>exact (hCX H e s' h).elim
  | ok fl=>
   cases fl with
   | next=>exact False.elim h
   | brk=>exact False.elim h
   | cont=>exact False.elim h
   | ret u=>
    obtain ⟨v,H',os,bare,un,hok',r',q⟩:=h
    have q':v=.bl true:=q
    subst q'
    obtain rfl:u=Value.bool true:=r'
    refine ⟨rfl,OldK.of_keep fun b o e=>?_,os,bare⟩
    cases q:H b with
    | none=>exact un.keep b o e q (by intro z;exact absurd (show b∈([]:List Addr) from z) (by simp)) (by simp)
    | some u=>
     rcases hO b with z | ⟨ob,xs,z⟩
     ·rw [q] at z;cases z
     ·have z2:=un.frzs b ob _ z
      obtain ⟨e1,_⟩:=hok b _ z
      obtain ⟨e2,_⟩:=hok' b _ z2
      rw [e] at e1;cases e1
      exact e2
 cases hk:K.lookup a with
 | some o=>
  have e:=KX a o hk
  rw [ha] at e
  cases e
  refine core (fun _=>none) (fun _=>.inl rfl) (.inr ⟨_,vs.toArray,_,hk,rfl,rfl,rfl,by rw [List.size_toArray,lenV];exact hl,by simpa using rv⟩) (fun b u z=>by have z':(none:Option HO)=some u:=z;cases z') (fun b z=>absurd rfl z) fun z=>absurd rfl z
 | none=>
  refine core (fun b=>if b=a then some (.frz { cls:=.type "list",data:=.seq vs.toArray } (.lst (ns.map V.int))) else none) (fun b=>?_) (.inl (.inr ⟨{ cls:=.type "list",data:=.seq vs.toArray },if_pos rfl⟩)) (fun b u z=>?_) (fun b z=>?_) fun _=>hk
  ·by_cases hb:b=a
   ·exact .inr ⟨_,_,if_pos hb⟩
   ·exact .inl (if_neg hb)
  ·by_cases hb:b=a
   ·have z':=(if_pos hb).symm.trans z
    cases z'
    subst hb
    exact ⟨ha,by rw [List.length_map];exact hl,vs,_,rv,ha⟩
   ·have z':=(if_neg hb).symm.trans z
    cases z'
  ·by_cases hb:b=a
   ·exact hb
   ·exact absurd (if_neg hb) z
theorem walk_of {l:PySem.W.OpenLaw}{n k:Nat}{q:Program}{loose:List Str}{XP:(Str→Option Value)→Heap→Prop}{YP:World→Heap→Prop}{d:DefRec}{K:Params→PySem.W.Frag}{CX:World→CXT}{sp:World→Sp}{x:Str}
  (hn:l.most=some n) (hn2:n≤sizeLine) (hdf:d.params.defaults=[]) (hr:Y0 k callerA)
  (hY:∀ (w:World) (h:Heap),YP w h→(K w.params).In h)
  (F:∀ (w:World) (mg:Str→Option Value) (fa:Addr) (h:Heap),(K w.params).In h→h.Ns mainGlobals mg→mg d.name=some (.ref fa) →
   ∃ fd:FuncData,(∀ (s:Shared) (u:Value),BindsTo s fd ⟨[u],[]⟩ [(x,u)]) ∧
    ∀ base:Heap,(K w.params).In base→base.Ns mainGlobals mg→Yy l.prog w (K w.params) mg base (CX w) k fa fd [x] (sp w))
  (hsp:∀ (w:World) (H:Hp) (a:Addr) (ns:List Int),ns.length≤n→Only H→SqL (K w.params) H a (ns.map V.int)→sp w [.ref a] H (fun v _=>v=.bl true) fun _ _ _=>False)
  (hCX:∀ (w:World) (H:Hp) (s:Shared) (e:Value) (s':Shared),CX w [] H s (fun _ _ _=>False) e s'→False) :
  PySem.W.WalkO q loose XP YP l.row.toRowW d [] (fun f vs=>PySem.call f vs):=by
 refine Att.attach_call hn hdf fun w s₀ s₁ mg mb fa o pm cd doc a vs ns G Y ho hd hcd hmg hobj hints hlen hg=>?_
 have KX:=hY w _ Y
 obtain ⟨fd,hb,hF⟩:=F w mg fa _ KX G.T.g hmg
 exact law_call KX G.T.g G.T.b G.T.builtins G.T.nolimit hg hobj hints (Nat.le_trans hlen hn2) hr hF hb (fun H hO hS=>hsp w H a ns hlen hO hS) fun H e s'=>hCX w H s₁ e s'
def Wz (s:Stmt) (j:Nat):Stmt:=match s with
 | .ClassDef _ _ _ body _ _ _ _ _ _ _=>body.getD j (.Pass ⟨0,0,0,0⟩)
 | _=>.Pass ⟨0,0,0,0⟩
def Zn (s:Stmt):Arguments:=match s with
 | .FunctionDef _ a _ _ _ _ _ _ _ _=>a
 | _=>{ posonlyargs:=[],args:=[],vararg:=none,kwonlyargs:=[],kw_defaults:=[],kwarg:=none,defaults:=[] }
def Zl (s:Stmt):List Stmt:=match s with
 | .FunctionDef _ _ b _ _ _ _ _ _ _=>b
 | _=>[]
def Zc (s:Stmt):Scope:=match s with
 | .FunctionDef _ _ _ _ _ _ sc _ _ _=>sc
 | _=>{ kind:=.function,names:=[],isGenerator:=false,isCoroutine:=false }
abbrev CX0:CXT:=fun _ _ _ _ _ _=>False
abbrev E0:XK:=fun _ _ _=>False
theorem Z4 {X:Cx}:Vi CX0 X E0:=fun _ _ _ _ _ _ _ h=>h.elim
structure Fun (K:PySem.W.Frag) (x qual:Str) (st:Stmt) (f:Addr) (fd:FuncData):Prop where
 ex:∃ (oc:Value) (od:Option Addr) (kV doc pm:Value) (an:Option Addr) (cdv ct:Value) (osl:Array (Option Value)),
  fd=PySem.W.fnOf x qual (Zn st) (Zl st) (Zc st) .none kV doc pm an cdv ct∧K.lookup f=some ⟨oc,od,.func fd,osl⟩∧PySem.W.codeIn K cdv qual=true
 kp:PySem.W.keepIn K (.ref f)=true
section
variable {P:Program}{w:World}{K:PySem.W.Frag}{mg:Str→Option Value}{base:Heap}
theorem Fun.ok {x qual:Str}{st:Stmt}{f:Addr}{fd:FuncData}{N ps:List Str}{k:Nat}{sp:Sp} (F:Fun K x qual st f fd) (S:ZB N ps (Zc st)) (len:∀ vs H Q E,sp vs H Q E→vs.length=ps.length)
  (hbody:∀ (cdv:Value) (A:Around) (outer:List Env) (s:Shared) (H:Hp) (vs:List V) (Q:VK) (E:XK),Y0 k (A.deeper (envOfC qual (Zc st) s.heap.objs.size f cdv))→sp vs H Q E →
   ∃ t,PSs (Uc CX0 P w K mg base N qual (Zc st) f cdv A outer s H E).nox (Zl st) t∧t { nx:=fun _ H'=>Q .non H',rt:=Q } (start N vs) H):Yy P w K mg base CX0 (k+1) f fd ps sp:=by
 obtain ⟨oc,od,kV,doc,pm,an,cdv,ct,osl,rfl,lk,hcd⟩:=F.ex
 refine fn_of lk hcd S len fun A outer s H vs Q E hr hsp=>?_
 obtain ⟨t,h,q⟩:=hbody cdv A outer s H vs Q E hr hsp
 exact ⟨t,h.nox,q⟩
theorem Fun.binds {x qual:Str}{st:Stmt}{f:Addr}{fd:FuncData}{ps:List Str} (F:Fun K x qual st f fd)
  (h:∀ (kV doc pm:Value) (an:Option Addr) (cdv ct:Value) (us:List Value),us.length=ps.length→bindArgs (PySem.W.fnOf x qual (Zn st) (Zl st) (Zc st) .none kV doc pm an cdv ct) ⟨us,[]⟩=pure (ps.zip us)):Yd K fd ps []:=by
 obtain ⟨oc,od,kV,doc,pm,an,cdv,ct,osl,rfl,lk,hcd⟩:=F.ex
 exact .all (h kV doc pm an cdv ct)
theorem Zp {x qual:Str}{st:Stmt}{f:Addr}{oc:Value}{od an:Option Addr}{osl:Array (Option Value)}{kV doc pm cdv ct:Value} (l:K.lookup f=some ⟨oc,od,.func (PySem.W.fnOf x qual (Zn st) (Zl st) (Zc st) .none kV doc pm an cdv ct),osl⟩)
  (c:PySem.W.codeIn K cdv qual=true) (k:PySem.W.keepIn K (.ref f)=true):Fun K x qual st f (PySem.W.fnOf x qual (Zn st) (Zl st) (Zc st) .none kV doc pm an cdv ct):=⟨⟨oc,od,kV,doc,pm,an,cdv,ct,osl,rfl,l,c⟩,k⟩
end
theorem hu_of {A:Around}{k:Nat} (hr:Y0 k A):A.units+1<cLine:=Nat.lt_of_le_of_lt (Nat.add_le_add_left (by decide:1≤64) _) hr.units
section
variable {X:Cx}
theorem pv (i:Nat) {x:Str}{pos:Pos} (hN:X.N[i]?=some x:=by rfl) (hv:Vis X.env.scope x:=by first | exact Or.inl rfl | exact Or.inr (Or.inl rfl) | exact Or.inr (Or.inr rfl)) (hd:(x == ("__debug__" : Str))=false:=by decide)
  (hcd:(x == ("__classdict__" : Str))=false:=by decide):PE X (.Name x pos) (tVar i):=pe_var hN hv hd hcd
end
theorem Yz {A B:Prop} (h:B):if false=true then A else B:=by
 rw [if_neg Bool.false_ne_true]
 exact h
theorem Yh {A B:Prop} (h:A):if true=true then A else B:=by
 rw [if_pos rfl]
 exact h
theorem Wm {c A B:Prop} [Decidable c] (h1:c→A) (h2:¬ c→B):if c then A else B:=by
 by_cases h:c
 ·rw [if_pos h]
  exact h1 h
 ·rw [if_neg h]
  exact h2 h
def Zj (H H':Hp):Prop:=∀ b o,H b=some o→H' b=some o
theorem Zj.refl (H:Hp):Zj H H:=fun _ _ h=>h
theorem Zj.trans {H H1 H2:Hp} (a:Zj H H1) (b:Zj H1 H2):Zj H H2:=fun c o h=>b c o (a c o h)
theorem Zj.free {H H':Hp} (e:Zj H H') {l:Addr} (h:H' l=Option.none):H l=Option.none:=by
 cases q:H l with
 | none=>rfl
 | some o=>
  rw [e l o q] at h
  cases h
theorem Zj.seq {K:PySem.W.Frag}{H H':Hp}{a:Addr}{xs:List V} (e:Zj H H') (h:SqL K H a xs):SqL K H' a xs:=by
 rcases h with (h | ⟨o,h⟩) | h
 ·exact .inl (.inl (e _ _ h))
 ·exact .inl (.inr ⟨o,e _ _ h⟩)
 ·exact .inr h
end L2
set_option maxHeartbeats 8000000
namespace L3
open PySem PySem.Spec PyProof.Rows L2
abbrev St:=L2.St
def sub (ix:List (Option Nat)) (σ:St):St:=ix.map fun o=>o.bind fun j=>(σ[j]?).join
theorem thnF {α:Type}{t:Sem α}{Q Q':α→Shared→Prop}{M:Model}{A:Around}{E:Value→Shared→Prop}{s:Shared} (h:wpAny M A t Q (fun _ _=>False) s) (hQ:∀ a s,Q a s→Q' a s):wpAny M A t Q' E s:=
 wpAny_mono h hQ fun _ _ z=>z.elim
def PTs (X:Cx) (ifs:List Expr) (t:TT):Prop:=
 ∀ (pins:List (Addr × Obj)) (s:Shared) (σ:St) (H:Hp) (Q:Bool→Hp→Prop),Inv X pins σ H s→t σ H Q →
  wpAny (model X.prog X.w) X.A (forIn ifs true fun c r=>if r=true then do let ok ← isTrue c X.env (eval c X.env);pure (ForInStep.yield ok) else pure (ForInStep.yield r)) (TP X pins σ Q) X.xe s
def tTrue:TT:=fun _ H Q=>Q true H
theorem ZT {X:Cx}:PTs X [] tTrue:=fun _ _ _ H _ I h=>wpAny_tests_nil ⟨H,I,h⟩
theorem qg {X:Cx}{c:Expr}{t:TT} (h:PT X c t):PTs X [c] t:=fun pins s σ H Q I q=>wpAny_tests_one (h pins s σ H Q I q)
def XZ (scope:Scope) (env:Env):List (Str × Addr):=(scope.names.filter fun y=>y.2 == .free).reverse.map fun y=>(y.1,(env.cells.lookup y.1).getD 0)
theorem clos_loop {env:Env}:∀ (ns:List (Str × NameKind)) (acc:List (Str × Addr)),(∀ y∈ns,y.2=.free→(env.cells.lookup y.1).isSome=true) →
  (forIn ns acc fun (x:Str × NameKind) (r:List (Str × Addr))=>if x.2 == .free then do let a ← cellOf env x.1;pure (ForInStep.yield ((x.1,a) :: r)) else pure (ForInStep.yield r):Sem (List (Str × Addr))) =
   pure ((ns.filter fun y=>y.2 == .free).reverse.map (fun y=>(y.1,(env.cells.lookup y.1).getD 0))++acc):=by
 intro ns
 induction ns with
 | nil=>intro acc _;rfl
 | cons y r ih=>
  intro acc h
  have hr:∀ z∈r,z.2=.free→(env.cells.lookup z.1).isSome=true:=fun z hz=>h z (List.mem_cons_of_mem _ hz)
  rw [List.forIn_cons]
  by_cases hf:(y.2 == NameKind.free)=true
  ·have hs:=h y List.mem_cons_self (by simpa using hf)
   obtain ⟨c,hc⟩:=Option.isSome_iff_exists.mp hs
   have e1:cellOf env y.1=pure c:=by unfold cellOf;rw [hc]
   rw [if_pos hf,e1,pure_bind,pure_bind]
   refine (ih _ hr).trans ?_
   rw [List.filter_cons_of_pos (by simpa using hf),List.reverse_cons,List.map_append]
   simp [hc]
  ·rw [if_neg hf,pure_bind]
   refine (ih _ hr).trans ?_
   rw [List.filter_cons_of_neg (by simpa using hf)]
theorem clos_eq {scope:Scope}{env:Env} (h:∀ y∈scope.names,y.2=.free→(env.cells.lookup y.1).isSome=true):closureFor scope env=pure (XZ scope env):=by
 have e:=clos_loop (env:=env) scope.names [] h
 rw [List.append_nil] at e
 unfold closureFor
 rw [show XZ scope env=(scope.names.filter fun y=>y.2 == .free).reverse.map (fun y=>(y.1,(env.cells.lookup y.1).getD 0)) from rfl]
 rw [← pure_bind (m:=Sem) ((scope.names.filter fun y=>y.2 == .free).reverse.map (fun y=>(y.1,(env.cells.lookup y.1).getD 0))) pure,← e]
theorem WU {β:Type} (f:Str→β):∀ (l:List (Str × NameKind)) (x:Str),(l.map fun y=>(y.1,f y.1)).lookup x=if x∈l.map (·.1) then some (f x) else none
 | [],x=>by simp
 | y :: r,x=>by
  rw [List.map_cons,List.lookup_cons,WU f r x]
  by_cases e:x=y.1
  ·subst e;simp
  ·have hb:(x == y.1)=false:=by simpa using e
   rw [hb]
   by_cases hm:x∈r.map (·.1)
   ·rw [if_pos hm,if_pos (by rw [List.map_cons];exact List.mem_cons_of_mem _ hm)]
   ·rw [if_neg hm,if_neg (by rw [List.map_cons];intro z;rcases List.mem_cons.mp z with z | z;exact e z;exact hm z)]
theorem We {scope:Scope}{env:Env}{x:Str}{c:Addr} (h:∀ y∈scope.names,y.2=.free→(env.cells.lookup y.1).isSome=true) (e:(XZ scope env).lookup x=some c):env.cells.lookup x=some c:=by
 unfold XZ at e
 rw [WU (fun z=>(env.cells.lookup z).getD 0)] at e
 split at e
 ·rename_i hx
  obtain ⟨y,hy,rfl⟩:=List.mem_map.mp hx
  obtain ⟨h1,h2⟩:=List.mem_filter.mp (List.mem_reverse.mp hy)
  obtain ⟨d,hd⟩:=Option.isSome_iff_exists.mp (h y h1 (by simpa using h2))
  have e':=Option.some.inj e
  rw [hd] at e' ⊢
  exact congrArg some e'
 ·cases e
theorem zp {scope:Scope}{env:Env}{x:Str} (hx:(x,NameKind.free)∈scope.names):∃ c,(XZ scope env).lookup x=some c:=by
 unfold XZ
 rw [WU (fun z=>(env.cells.lookup z).getD 0),if_pos]
 ·exact ⟨_,rfl⟩
 ·exact List.mem_map.mpr ⟨(x,.free),List.mem_reverse.mpr (List.mem_filter.mpr ⟨hx,by simp⟩),rfl⟩
theorem Um {env:Env}:∀ {names:List (Str × NameKind)}{x:Str}{k:NameKind},
  (names.map fun (n,k)=>if (k == NameKind.free && env.scope.kind == .function && env.kindOf n == some .cell) then (n,NameKind.cell) else (n,k)).lookup x=some k →
   names.lookup x=some k∨(k=.cell∧names.lookup x=some .free)
 | [],_,_,h=>by simp at h
 | (n,k0) :: r,x,k,h=>by
  rw [List.map_cons] at h
  dsimp only at h
  cases hx:x == n with
  | true=>
   by_cases hc:(k0 == NameKind.free && env.scope.kind == .function && env.kindOf n == some .cell)=true
   ·rw [if_pos hc] at h
    simp only [List.lookup_cons,hx] at h ⊢
    have:k0=.free:=by
     have h1:=(Bool.and_eq_true _ _ ▸ ((Bool.and_eq_true _ _ ▸ hc).1)).1
     simpa using h1
    exact .inr ⟨(Option.some.inj h).symm,by rw [this]⟩
   ·rw [if_neg hc] at h
    simp only [List.lookup_cons,hx] at h ⊢
    exact .inl h
  | false=>
   have h':(r.map fun (n,k)=>if (k == NameKind.free && env.scope.kind == .function && env.kindOf n == some .cell) then (n,NameKind.cell) else (n,k)).lookup x=some k:=by
    by_cases hc:(k0 == NameKind.free && env.scope.kind == .function && env.kindOf n == some .cell)=true
    ·rw [if_pos hc] at h;simpa only [List.lookup_cons,hx] using h
    ·rw [if_neg hc] at h;simpa only [List.lookup_cons,hx] using h
   simp only [List.lookup_cons,hx]
   exact Um h'
theorem V1 {env:Env}:∀ {names:List (Str × NameKind)}{x:Str},names.lookup x=some .free →
  (names.map fun (n,k)=>if (k == NameKind.free && env.scope.kind == .function && env.kindOf n == some .cell) then (n,NameKind.cell) else (n,k)).lookup x=some .cell ∨
  (names.map fun (n,k)=>if (k == NameKind.free && env.scope.kind == .function && env.kindOf n == some .cell) then (n,NameKind.cell) else (n,k)).lookup x=some .free
 | [],_,h=>by simp at h
 | (n,k0) :: r,x,h=>by
  rw [List.map_cons]
  dsimp only
  cases hx:x == n with
  | true=>
   simp only [List.lookup_cons,hx] at h
   have e:k0=.free:=Option.some.inj h
   by_cases hc:(k0 == NameKind.free && env.scope.kind == .function && env.kindOf n == some .cell)=true
   ·rw [if_pos hc];exact .inl (by simp only [List.lookup_cons,hx])
   ·rw [if_neg hc];exact .inr (by simp only [List.lookup_cons,hx];rw [e])
  | false=>
   simp only [List.lookup_cons,hx] at h
   have ih:=V1 (env:=env) h
   by_cases hc:(k0 == NameKind.free && env.scope.kind == .function && env.kindOf n == some .cell)=true
   ·rw [if_pos hc];simpa only [List.lookup_cons,hx] using ih
   ·rw [if_neg hc];simpa only [List.lookup_cons,hx] using ih
structure ZD (sc:Scope) (N Nc:List Str) (ix:List (Option Nat)) (scope:Scope):Prop where
 kind:scope.kind=.function
 nocell:∀ y∈scope.names,y.2≠.cell
 names:∀ y∈scope.names,y.2=.local→scope.names.lookup y.1=some .local
 free:∀ y∈scope.names,y.2=.free→sc.names.lookup y.1=some .cell∨sc.names.lookup y.1=some .free
 len:ix.length=Nc.length
 chk:((ix.zip Nc).all fun p=>match p.1 with | none=>true | some j=>N[j]? == some p.2 && scope.names.lookup p.2 == some .free)=true
theorem ZD.at_ {sc:Scope}{N Nc:List Str}{ix:List (Option Nat)}{scope:Scope} (o:ZD sc N Nc ix scope) {i j:Nat}{x:Str} (h1:ix[i]?=some (some j)) (h2:Nc[i]?=some x):N[j]?=some x∧scope.names.lookup x=some .free:=by
 have hm:(some j,x)∈ix.zip Nc:=by
  refine List.mem_of_getElem? (i:=i) ?_
  rw [List.getElem?_zip_eq_some]
  exact ⟨h1,h2⟩
 have q:=List.all_eq_true.mp o.chk _ hm
 have q':=Bool.and_eq_true _ _ ▸ q
 exact ⟨by simpa using q'.1,by simpa using q'.2⟩
def ZN (X:Cx) (Nc:List Str) (scope:Scope) (cl:List (Str × Addr)) (C:Addr) (s:Shared) (H:Hp) (fp:List Addr):Cx where
 prog:=X.prog
 w:=X.w
 K:=X.K
 mg:=X.mg
 base:=X.base
 A:=X.A
 N:=Nc
 s₀:=s
 H₀:=H
 env:=compEnvC scope cl C X.env
 outer:=X.stack
 stack:=X.stack
 ex:=fp
 fn:=fun x=>(cl.lookup x).isNone
 calm:=X.calm
 pn:=X.pn
 xe:=fun _ _=>False
section
variable {X:Cx}{pins:List (Addr × Obj)}{σ:St}{H:Hp}{s:Shared}{Nc:List Str}{ix:List (Option Nat)}{scope:Scope}
theorem UF (I:Inv X pins σ H s) (ok:ZD X.env.scope X.N Nc ix scope):∀ y∈scope.names,y.2=.free→(X.env.cells.lookup y.1).isSome=true:=fun y hy hf=>by
 obtain ⟨c,hc⟩:=I.ok.has y.1 (ok.free y hy hf)
 rw [hc];rfl
theorem jy {fp:List Addr}{h1:Heap}{t':Nat} (I:Inv X pins σ H s) (ok:ZD X.env.scope X.N Nc ix scope) (hf:∀ b∈fp,Ve X pins H b) (hob:∀ b∈fp,∃ o,s.heap.get? b=some o)
  {m:Str→Option Value} (hn:h1.Ns s.heap.objs.size m) (hk:∀ b o,s.heap.get? b=some o→h1.get? b=some o) :
  Inv (ZN X Nc scope (XZ scope X.env) s.heap.objs.size s H fp) pins (sub ix σ) H { s with heap:=h1,toks:=t' }:=by
 have ac:=UF I ok
 have old:∀ {b:Addr}{o:Obj},s.heap.get? b=some o→b≠s.heap.objs.size:=fun e=>Nat.ne_of_lt (Heap.lt_size e)
 refine ⟨⟨I.ok.mod,?_,I.ok.glob,I.ok.blt,Nat.le_refl _,?_,?_,?_,I.ok.hd,I.ok.frames,.inl rfl,?_,I.bs,Nat.le_trans I.ok.bsz I.sz,?_,?_,I.stack,I.stkFree⟩,rfl,I.bare,Un.kept hk,⟨m,hn,?_⟩,?_,?_,?_,?_,I.hok.kept hk,?_⟩
 ·exact ok.kind
 ·intro x y c e1 e2
  exact I.ok.inj x y c (We ac e1) (We ac e2)
 ·intro x hx
  have key:∀ k,(relabel scope X.env).names.lookup x=some k→(k=.cell∨k=.free)→∃ c,(XZ scope X.env).lookup x=some c:=fun k e hkk=>by
   rcases Um e with q | ⟨_,q⟩
   ·rcases hkk with rfl | rfl
    ·exact absurd rfl (ok.nocell _ (PySem.mem_of_lookup q))
    ·exact zp (PySem.mem_of_lookup q)
   ·exact zp (PySem.mem_of_lookup q)
  rcases hx with e | e
  ·exact key _ e (.inl rfl)
  ·exact key _ e (.inr rfl)
 ·intro x c hfn e
  have e':(XZ scope X.env).lookup x=some c:=e
  have hfn':((XZ scope X.env).lookup x).isNone=true:=hfn
  rw [e'] at hfn';cases hfn'
 ·intro b hb
  obtain ⟨o,e⟩:=hob b hb
  obtain ⟨f0,f1,f2,f3,f4,f5⟩:=hf b hb
  exact ⟨old e,fun x c q=>f4 x c (We ac q)⟩
 ·intro b o e hb
  obtain ⟨f0,f1,f2,f3,f4,f5⟩:=hf b hb
  rcases f3 with z | z
  ·exact I.ok.noex b o e z
  ·exact absurd (Nat.lt_of_lt_of_le (Nat.lt_of_lt_of_le (Heap.lt_size e) I.ok.bsz) z) (Nat.lt_irrefl _)
 ·intro b hb hz
  obtain ⟨f0,f1,f2,f3,f4,f5⟩:=hf b hb
  rcases List.mem_cons.mp (I.stkSub b hz) with z | z
  ·exact f1 z
  ·exact f2 z
 ·intro i x v e1 e2 e3
  have e1:Nc[i]?=some x:=e1
  unfold sub at e2
  rw [List.getElem?_map] at e2
  cases hi:ix[i]? with
  | none=>rw [hi] at e2;cases e2
  | some o=>
   cases o with
   | none=>rw [hi] at e2;cases e2
   | some j=>
    obtain ⟨hN,hfree⟩:=ok.at_ hi e1
    have e4:σ[j]?=some (some v):=by
     rw [hi] at e2
     have e2':some ((σ[j]?).join)=some (some v):=e2
     have e5:=Option.some.inj e2'
     cases hj:σ[j]? with
     | none=>rw [hj] at e5;cases e5
     | some z=>rw [hj] at e5;exact congrArg some e5
    have hvis:Vis X.env.scope x:=by
     rcases ok.free (x,.free) (PySem.mem_of_lookup hfree) rfl with q | q
     ·exact .inr (.inl q)
     ·exact .inr (.inr q)
    obtain ⟨m0,hn0,hl⟩:=I.loc
    obtain ⟨u,r,lk⟩:=hl j x v hN e4 hvis
    refine ⟨u,r,.inr ⟨V1 hfree,?_⟩⟩
    rcases lk with ⟨q,_⟩ | ⟨_,c,hc,z⟩
    ·rcases ok.free (x,.free) (PySem.mem_of_lookup hfree) rfl with q2 | q2
     ·exact absurd (q.symm.trans q2) (by decide)
     ·exact absurd (q.symm.trans q2) (by decide)
    ·obtain ⟨d,hd⟩:=zp (env:=X.env) (PySem.mem_of_lookup hfree)
     have:=We ac hd
     rw [hc] at this;cases this
     obtain ⟨oc,e5,e6⟩:=z
     exact ⟨c,hd,oc,hk c oc e5,e6⟩
 ·intro x c e
  obtain ⟨v,oc,e5,e6⟩:=I.cell x c (We ac e)
  exact ⟨v,oc,hk c oc e5,e6⟩
 ·exact I.hok.fresh (Nat.le_refl _)
 ·intro x c e
  exact I.freeC x c (We ac e)
 ·intro p hp
  obtain ⟨e,n,ne,nf,d⟩:=I.pin p hp
  refine ⟨hk _ _ e,n,old e,fun z=>?_,d⟩
  rcases List.mem_cons.mp (I.stkSub p.1 z) with q | q
  ·exact ne q
  ·exact nf q
 ·unfold sub
  rw [List.length_map]
  exact ok.len
theorem comp_end {fp:List Addr}{cl:List (Str × Addr)}{C:Addr}{σ':St}{H':Hp}{s':Shared}{h':Heap} (I:Inv X pins σ H s) (hf:∀ b∈fp,Ve X pins H b) (hC:s.heap.get? C=none)
  (J:Inv (ZN X Nc scope cl C s H fp) pins σ' H' s') (sb:Heap.SameBut C s'.heap h'):Inv X pins σ H' { s' with heap:=h' }:=by
 have u:Un (frs X.stack) fp H H' s.heap s'.heap:=J.base
 have hCf:H' C=none:=J.free
 have hCn:∀ {b:Addr}{o:Obj},s.heap.get? b=some o→b≠C:=fun e z=>by rw [z,hC] at e;cases e
 refine I.call' (s':={ s' with heap:=h' }) (ch:=fp) J.os ⟨fun b o e n h1 h2=>?_,fun b o e n h1 h2=>?_,u.free,fun b o e h2=>?_,u.tups,u.frzs,u.tbls⟩ ?_ J.bare fun b hb=>?_
 ·exact (sb.2 b (hCn e)).trans (u.keep b o e n h1 h2)
 ·obtain ⟨sl,q⟩:=u.slot b o e n h1 h2
  exact ⟨sl,(sb.2 b (hCn e)).trans q⟩
 ·obtain ⟨o',q⟩:=u.there b o e h2
  exact ⟨o',(sb.2 b (hCn e)).trans q⟩
 ·intro b o e
  refine (J.hok b o e).stay (fun c v hc q=>(sb.2 c ?_).trans q) (fun _ q=>q) fun _ _ q=>q
  rintro rfl
  rcases hc with z | z
  ·rw [← z,hCf] at e;cases e
  ·rw [hCf] at z;cases z
 ·obtain ⟨f0,f1,f2,f3,f4,f5⟩:=hf b hb
  exact ⟨f3,f1,f4,f5⟩
end
def VQ (k:Key) (l:List Key):Bool:=l.any fun x=>decide (x=k)
theorem x0 {k:Key}{l:List Key}:VQ k l=true↔k∈l:=by
 unfold VQ
 rw [List.any_eq_true]
 constructor
 ·rintro ⟨x,hx,e⟩
  have:=of_decide_eq_true e
  subst this;exact hx
 ·intro h;exact ⟨k,h,by simp⟩
theorem memK_snoc (k' k:Key) (l:List Key):(VQ k' l || decide (k'=k))=VQ k' (l++[k]):=by
 unfold VQ
 rw [List.any_append]
 by_cases e:k'=k
 ·subst e;simp
 ·have e':¬ k=k':=fun z=>e z.symm
  simp [e,e']
theorem memK_not {k:Key}{l:List Key} (h:¬ k∈l):VQ k l=false:=by
 cases e:VQ k l with
 | false=>rfl
 | true=>exact absurd (x0.mp e) h
theorem jh {k:Key}{v:Value} (h:Vc k v=true):v.scannable=true:=by
 rcases Yu h with ⟨i,t,rfl,rfl⟩ | ⟨x,t,rfl,rfl⟩ <;> rfl
theorem Uk {prog:Program}{w:World}{h:Heap}{a:Addr}{S S':Key→Bool}{n n':Nat} (x:h.SetOf (Zs prog w) a S n) (e:∀ k,S k=S' k) (en:n=n'):h.SetOf (Zs prog w) a S' n':=by
 have:S=S':=funext e
 subst this;subst en;exact x
theorem VV {prog:Program}{w:World}{h h':Heap}{a:Addr}{S:Key→Bool}{n:Nat} (x:h.SetOf (Zs prog w) a S n) (k:∀ o,h.get? a=some o→h'.get? a=some o):h'.SetOf (Zs prog w) a S n:=by
 obtain ⟨o,es,ep,t,ho,r⟩:=x
 exact ⟨o,es,ep,t,k o ho,r⟩
section
variable {prog:Program}{w:World}{A:Around}{E:Value→Shared→Prop}{R:Result→Shared→Prop}
theorem set_loop {I ax S:Addr}{items:Array Value}{ks:List Key} (hh:A.handled=none) (hne:ax≠I) (hSI:S≠I) (hSa:S≠ax)
  (hv:∀ (i:Nat) v,items[i]?=some v→∃ k,ks[i]?=some k∧Vc k v=true) (hl:ks.length=items.size) (hb:items.size+1<scanBound) :
  ∀ (c i:Nat) (s:Shared) (n:Nat),items.size - i=c→i≤items.size→s.heap.IsListIter I ax i∧s.heap.IsList ax items →
   s.heap.SetOf (Zs prog w) S (fun k=>VQ k (ks.take i)) n→n≤i→(n=i↔(ks.take i).Nodup) →
   (∀ (h':Heap) (tk n':Nat),h'.SetOf (Zs prog w) S (fun k=>VQ k ks) n'→n'≤ks.length→(n'=ks.length↔ks.Nodup)→(∀ b o,b≠S→b≠I→s.heap.get? b=some o→h'.get? b=some o) →
    R (.ok (.ret .none)) { s with heap:=h',toks:=tk }) →
   codeAny (model prog w) A (.builtin "set.update.loop" ⟨[.ref S,.ref I],[]⟩) R s:=by
 have W:=Walks.list (prog:=prog) (w:=w) (A:=A.in1) (by simpa using hh) I ax hne items
 intro c
 induction c with
 | zero=>
  intro i s n hc hi st hS hn hnd hR
  have e:i=items.size:=by omega
  subst e
  refine codeAny_builtin PyProof.Rows.F.entry_set_update_loop ?_
  rw [Around.under_plainId PyProof.Rows.F.plain_set_update_loop _]
  show wpAny _ A.in1 (pyNext (.ref I) >>= _) _ _ s
  refine wpAny_bind (W.done s _ _ st fun h' tk hk=>?_)
  show wpAny _ A.in1 (ret Value.none) _ _ _
  have et:ks.take items.size=ks:=by rw [← hl];exact List.take_length
  rw [et] at hnd
  refine wpAny_pure (hR h' tk n (Uk (VV hS fun o z=>hk S o (by simpa using hSI) z) (fun k=>by rw [et]) rfl) (by omega) (by rw [hl];exact hnd) fun b o _ hbI z=>hk b o (by simpa using hbI) z)
 | succ c ih=>
  intro i s n hc hi st hS hn hnd hR
  have hlt:i<items.size:=by omega
  refine codeAny_builtin PyProof.Rows.F.entry_set_update_loop ?_
  rw [Around.under_plainId PyProof.Rows.F.plain_set_update_loop _]
  show wpAny _ A.in1 (pyNext (.ref I) >>= _) _ _ s
  refine wpAny_bind (W.item i s _ _ hlt st fun v h1 tk hP st1 hk=>?_)
  obtain ⟨k,hki,kis⟩:=hv i v hP
  have hS1:h1.SetOf (Zs prog w) S (fun k=>VQ k (ks.take i)) n:=VV hS fun o z=>hk S o (by simpa using hSI) z
  show wpAny _ A.in1 (holding [v] (setAdd S v) >>= _) _ _ { s with heap:=h1,toks:=tk }
  refine wpAny_bind (wpAny_holding ?_)
  unfold setAdd
  refine wpAny_holding (wpAny_bind ((Zs prog w).pyHash (k:=k) kis ?_))
  refine wpAny_setAddHashed_of (knd:=Zs prog w) (s:={ s with heap:=h1,toks:=tk+1 }) kis (jh kis) hS1 (by omega) fun h2 hsb hS2=>?_
  have hik:i<ks.length:=by omega
  have ek:ks[i]=k:=by
   have:=List.getElem?_eq_getElem hik
   rw [hki] at this
   exact (Option.some.inj this).symm
  have et:ks.take (i+1)=ks.take i++[k]:=by rw [List.take_add_one,hki];rfl
  have e1:∀ k',(VQ k' (ks.take i) || decide (k'=k))=VQ k' (ks.take (i+1)):=fun k'=>by rw [et];exact memK_snoc _ _ _
  by_cases hin:k∈ks.take i
  ·have hS3:=Uk (n':=n) hS2 e1 (by rw [if_pos (x0.mpr hin)])
   refine wpAny_pure ⟨plainId_quiet PyProof.Rows.F.plain_set_update_loop _,ih (i+1) _ n (by omega) hlt (W.frame _ _ _ st1 fun b hb o z=>?_) hS3 (by omega) ?_ fun h' tk' n' a1 a2 a3 a4=>?_⟩
   ·rw [hsb.2 b (fun q=>by subst q;simp at hb;exact hb.elim hSI hSa)];exact z
   ·constructor
    ·intro q;omega
    ·intro q
     rw [et] at q
     exact absurd hin (fun z=>(List.nodup_append.mp q).2.2 _ z _ (by simp) rfl)
   ·exact hR h' tk' n' a1 a2 a3 fun b o hbS hbI z=>a4 b o hbS hbI (by rw [hsb.2 b hbS];exact hk b o (by simpa using hbI) z)
  ·have hS3:=Uk (n':=n+1) hS2 e1 (by rw [memK_not hin];rfl)
   refine wpAny_pure ⟨plainId_quiet PyProof.Rows.F.plain_set_update_loop _,ih (i+1) _ (n+1) (by omega) hlt (W.frame _ _ _ st1 fun b hb o z=>?_) hS3 (by omega) ?_ fun h' tk' n' a1 a2 a3 a4=>?_⟩
   ·rw [hsb.2 b (fun q=>by subst q;simp at hb;exact hb.elim hSI hSa)];exact z
   ·rw [et]
    constructor
    ·intro q
     exact List.nodup_append.mpr ⟨hnd.mp (by omega),by simp,fun a ha b hb q2=>by rw [List.mem_singleton.mp hb] at q2;subst q2;exact hin ha⟩
    ·intro q
     have:=hnd.mpr (List.nodup_append.mp q).1
     omega
   ·exact hR h' tk' n' a1 a2 a3 fun b o hbS hbI z=>a4 b o hbS hbI (by rw [hsb.2 b hbS];exact hk b o (by simpa using hbI) z)
set_option maxHeartbeats 8000000 in
theorem zJ {s:Shared}{l:Addr}{items:Array Value}{ks:List Key}{Q:Value→Shared→Prop} (hh:A.handled=none) (hl:s.heap.IsList l items)
  (hv:∀ (i:Nat) v,items[i]?=some v→∃ k,ks[i]?=some k∧Vc k v=true) (hz:ks.length=items.size) (hb:items.size+1<scanBound)
  (h:∀ (h':Heap) (tk n:Nat),h'.SetOf (Zs prog w) s.heap.objs.size (fun k=>VQ k ks) n→n≤ks.length→(n=ks.length↔ks.Nodup)→(∀ b o,s.heap.get? b=some o→h'.get? b=some o)→Q (.ref s.heap.objs.size) { s with heap:=h',toks:=tk }) :
  wpAny (model prog w) A (call (.type "set") [.ref l]) Q E s:=by
 have hmade:=PySem.F.called_set.made
 have hsub:=PySem.F.called_set.sub
 obtain ⟨c,tl,hmro⟩:=PySem.F.called_set.mro
 refine wpAny_call (codeAny_of_tree (wpAny_pure ⟨Code.quiet_builtin _ (by decide +kernel),codeAny_builtin PySem.F.entry_type_call ?_⟩))
 rw [Around.under_plain (weight_type_call_type "set" [.ref l] []) rfl]
 have g1:=PySem.F.called_set.notType
 have g2:=PySem.F.called_set.canCreate
 have g3:=PySem.F.typeCall_set_1 (.ref l)
 repeat (any_goals (first | assumption | wp_step))
 refine codeAny_mono (code_set_new_1 (.ref l) (E:=E) (Q₁:=fun obj t=>∃ led:Bool,obj=.ref s.heap.objs.size∧t={ s with heap:=s.heap.push { cls:=.type "set",dict:=none,data:=.set #[] 0 (.fresh 0 0 led) } }) fun led=>⟨led,rfl,rfl⟩) fun r t hr=>?_
 cases r with
 | error e=>exact hr
 | ok fl=>
  cases fl with
  | ret obj=>
   obtain ⟨led,rfl,rfl⟩:=hr
   have hS:(s.heap.push { cls:=.type "set",dict:=none,data:=.set #[] 0 (.fresh 0 0 led) }).get? s.heap.objs.size=some { cls:=.type "set",dict:=none,data:=.set #[] 0 (.fresh 0 0 led) }:=Heap.get?_push_size _ rfl
   have hT:Shared.TypeIs { s with heap:=s.heap.push { cls:=.type "set",dict:=none,data:=.set #[] 0 (.fresh 0 0 led) } } (.ref s.heap.objs.size) "set" := ⟨_,hS,rfl⟩
   have hli:=PySem.F.called_set.init.lookup
   have hbi:=PySem.F.called_set.init.bind (.ref s.heap.objs.size)
   repeat (any_goals (first | assumption | wp_step))
   refine codeAny_mono (codeAny_call_builtin (R:=wants (fun r u=>r=.none∧∃ h' tk n,u={ s with heap:=h',toks:=tk }∧h'.SetOf (Zs prog w) s.heap.objs.size (fun k=>VQ k ks) n∧n≤ks.length∧(n=ks.length↔ks.Nodup) ∧
     (∀ b o,s.heap.get? b=some o→h'.get? b=some o)) E) PySem.F.called_set.init.plain PySem.F.entry_set_init (check_set_init_1 hT ?_)) fun r2 u hr2=>?_
   ·obtain ⟨ol,hol,hcl,nl,hdl⟩:=hl
    obtain ⟨ocls,odict,odata,oslots⟩:=ol
    simp only at hcl hdl
    subst hcl;subst hdl
    have hol':(s.heap.push { cls:=.type "set",dict:=none,data:=.set #[] 0 (.fresh 0 0 led) }).get? l=some { cls:=.type "list",dict:=odict,data:=.seq items nl,slots:=oslots }:=Heap.get?_push_of_some _ hol
    have hsls:=PySem.F.sub_list_set
    have hslf:=PySem.F.sub_list_frozenset
    have hne:(Value.type "list" == Value.type "dict")=false:=by decide
    have hl1:(s.heap.push { cls:=.type "set",dict:=none,data:=.set #[] 0 (.fresh 0 0 led) }).IsList l items:=⟨_,hol',rfl,nl,rfl⟩
    unfold Builtin.«set.__init__» noKeywords Builtin.Frozenset.updateFrom
    generalize hPI:pyIter=PI
    wp_walk
    subst hPI
    refine wpAny_pyIter_list hl1 ?_
    refine wpAny_bind (wpAny_runValue ?_)
    have hlS:l<s.heap.objs.size:=Heap.lt_size hol
    have z1:(s.heap.push { cls:=.type "set",dict:=none,data:=.set #[] 0 (.fresh 0 0 led) }).objs.size=s.heap.objs.size+1:=Heap.size_push _ _
    refine set_loop (ks:=ks) (items:=items) (ax:=l) (by simpa using hh) (by rw [z1];exact Nat.ne_of_lt (Nat.lt_succ_of_lt hlS)) (by rw [z1];exact Nat.ne_of_lt (Nat.lt_succ_self _)) (Nat.ne_of_gt hlS) hv hz hb (items.size - 0) 0 _ 0 (by omega) (Nat.zero_le _)
     ⟨⟨_,Heap.get?_push_size _ rfl,rfl,rfl⟩,(hl1.push _)⟩ ?hS0 (Nat.le_refl _) (by simp) ?hR
    case hS0=>
     refine Uk (VV (h:=s.heap.push { cls:=.type "set",dict:=none,data:=.set #[] 0 (.fresh 0 0 led) }) ?_ fun o z=>Heap.get?_push_of_some _ z) (S:=fun _=>false) (fun k=>rfl) rfl
     exact ⟨_,#[],0,_,hS,⟨rfl,rfl,rfl⟩,rfl,(fun e he=>by simp at he),(fun k=>by simp [VQ]),(by unfold scanBound;decide),rfl,rfl⟩
    case hR=>
     intro h' tk n a1 a2 a3 a4
     show wpAny _ _ _ _ _ _
     refine wpAny_pure ?_
     show wpAny _ _ (ret Value.none) _ _ _
     refine wpAny_pure ⟨rfl,h',tk,n,rfl,a1,a2,a3,fun b o z=>?_⟩
     have hlt:=Heap.lt_size z
     exact a4 b o (Nat.ne_of_lt hlt) (by rw [z1];exact Nat.ne_of_lt (Nat.lt_succ_of_lt hlt)) (Heap.get?_push_of_some _ (Heap.get?_push_of_some _ z))
   ·cases r2 with
    | error e=>exact hr2
    | ok fl2=>
     cases fl2 with
     | ret r=>
      obtain ⟨rfl,h',tk,n,rfl,a1,a2,a3,a4⟩:=hr2
      repeat (any_goals (first | assumption | wp_step))
      exact h _ _ n a1 a2 a3 a4
     | _=>exact hr2.elim
  | _=>exact hr.elim
end
def SetN (a:Addr) (n:Nat):HO:=.ext fun h=>∃ o es ep t,h.get? a=some o∧o.ExactSet∧o.data=.set es ep t∧t.fits es.size=true∧es.size=n
section
variable {X:Cx}
theorem yG:∀ {ks:List Key}{us:List Value},ZE (ks.map kV) us→∀ (i:Nat) v,us[i]?=some v→∃ k,ks[i]?=some k∧Vc k v=true
 | [],_,.nil,i,v,h=>by simp at h
 | k :: r,_,.cons a b,0,v,h=>by
  simp at h;subst h
  refine ⟨k,rfl,?_⟩
  cases k with
  | inl n=>obtain ⟨t,rfl⟩:=a;exact yk n t
  | inr x=>obtain ⟨t,rfl⟩:=a;exact Wq x t
 | k :: r,_,.cons a b,i+1,v,h=>by
  obtain ⟨k',e,q⟩:=yG b i v (by simpa using h)
  exact ⟨k',by simpa using e,q⟩
theorem call_set (hc:X.calm=true):Ys X (.type "set") (fun xs H Q=>∃ (p:Addr) (ks:List Key),xs=[.ref p]∧SqL X.K H p (ks.map kV)∧ks.length<4000∧∀ n a,n≤ks.length→(n=ks.length↔ks.Nodup)→H a=none→Q (.ref a) (upd H a (SetN a n))):=by
 intro pins s σ H xs us Q I r h
 obtain ⟨p,ks,rfl,hq,hl,q⟩:=h
 obtain ⟨u,rfl,ru⟩:=Wi r
 obtain rfl:u=Value.ref p:=ru
 obtain ⟨its,rv,pl,hz⟩:=I.list hq
 have el:=rv.length
 rw [List.length_map] at el
 refine zJ (I.ok.hd hc) pl.isList (fun i v e=>yG rv i v (by simpa using e)) (by simpa using el) (by unfold scanBound;simp;omega) fun h' tk n a1 a2 a3 a4=>?_
 refine ⟨.ref s.heap.objs.size,_,I.laid a4 (Nat.le_refl _) ?_,rfl,q n _ a2 a3 (I.hok.fresh (Nat.le_refl _))⟩
 obtain ⟨o,es,ep,t,ho,e1,e2,e3,e4,e5,e6,e7⟩:=a1
 refine ⟨⟨o,es,ep,t,ho,e1,e2,e6,e7⟩,⟨o,ho⟩,?_⟩
 rintro h1 h2 ⟨o1,es1,ep1,t1,b1,b2⟩ k
 exact ⟨o1,es1,ep1,t1,k _ b1,b2⟩
theorem call_lenS:Ys X (.builtin "len") (fun xs H Q=>∃ a n,xs=[.ref a]∧H a=some (SetN a n)∧n<4000∧Q (.int n) H):=by
 intro pins s σ H xs us Q I r h
 obtain ⟨a,n,rfl,ha,hn,q⟩:=h
 obtain ⟨u,rfl,ru⟩:=Wi r
 obtain rfl:u=Value.ref a:=ru
 obtain ⟨⟨o,es,ep,t,e1,e2,e3,e4,e5⟩,_⟩:=I.hok a _ ha
 refine call_len_set e1 e2 e3 e4 (by omega) ?_
 exact ⟨.int n,H,I.tok _,⟨_,by rw [e5]⟩,q⟩
end
def YX (ns:List Int):List Int:=ns.mergeSort fun a b=>decide (a≤b)
theorem ze (ns:List Int):(YX ns).Perm ns:=List.mergeSort_perm _ _
theorem sortI_pw (ns:List Int):(YX ns).Pairwise (·≤·):=by
 have h:=List.pairwise_mergeSort (le:=fun a b:Int=>decide (a≤b)) (fun a b c h1 h2=>by simp at *; omega) (fun a b=>by simp;omega) ns
 exact h.imp fun h=>by simpa using h
theorem sortI_eq {ns ms:List Int} (hp:ms.Perm ns) (hs:ms.Pairwise (·≤·)):ms=YX ns:=
 PySem.W.ksm_same (hp.trans (ze ns).symm) hs (sortI_pw ns)
def leS (a b:Str):Bool:=!decide (b.cps.toList<a.cps.toList)
theorem yH (a b c:Str) (h1:leS a b=true) (h2:leS b c=true):leS a c=true:=by
 unfold leS at *
 simp only [Bool.not_eq_true',decide_eq_false_iff_not,List.not_lt] at *
 exact List.le_trans h1 h2
theorem leS_total (a b:Str):(leS a b || leS b a)=true:=by
 unfold leS
 simp only [Bool.or_eq_true,Bool.not_eq_true',decide_eq_false_iff_not,List.not_lt]
 exact List.le_total _ _
theorem xJ {a b:Str} (h1:leS a b=true) (h2:leS b a=true):a=b:=by
 unfold leS at *
 simp only [Bool.not_eq_true',decide_eq_false_iff_not,List.not_lt] at *
 have e:=List.le_antisymm h1 h2
 cases a;cases b
 simp only [Str.mk.injEq]
 exact Array.toList_inj.mp e
def X0 (ss:List Str):List Str:=ss.mergeSort leS
theorem XH (ss:List Str):(X0 ss).Perm ss:=List.mergeSort_perm _ _
theorem Uo (ss:List Str):(X0 ss).Pairwise (fun a b=>leS a b=true):=List.pairwise_mergeSort (le:=leS) yH leS_total ss
theorem sortS_eq {ss ts:List Str} (hp:ts.Perm ss) (hs:ts.Pairwise fun a b=>leS a b=true):ts=X0 ss:=
 (hp.trans (XH ss).symm).eq_of_pairwise (fun x y _ _ h1 h2=>xJ h1 h2) hs (Uo ss)
theorem zS:∀ (l:List Str) (p:Str),risingS p l=true→(∀ y∈l,leS p y=true)∧l.Pairwise fun a b=>leS a b=true
 | [],_,_=>⟨fun _ h=>(nomatch h),.nil⟩
 | x :: r,p,h=>by
  have h':(!ltCps x.cps.toList p.cps.toList && risingS x r)=true:=h
  rw [Bool.and_eq_true] at h'
  have hx:leS p x=true:=by
   have:=h'.1
   rw [ltCps_eq] at this
   exact this
  obtain ⟨a,b⟩:=zS r x h'.2
  refine ⟨fun y hy=>?_,.cons (fun y hy=>a y hy) b⟩
  rcases List.mem_cons.mp hy with rfl | hy
  ·exact hx
  ·exact yH _ _ _ hx (a y hy)
theorem VM {l:List Str} (h:sortedS l=true):l.Pairwise fun a b=>leS a b=true:=by
 cases l with
 | nil=>exact .nil
 | cons x r=>
  obtain ⟨a,b⟩:=zS r x h
  exact .cons a b
theorem qp:∀ {ss:List Str}{us:List Value},ZE (ss.map V.str) us→StrsAre us ss
 | [],_,.nil=>.nil
 | x :: r,_,.cons a b=>by
  obtain ⟨t,rfl⟩:=a
  exact .cons x t (qp b)
theorem Wr:∀ {ss:List Str}{us:List Value},StrsAre us ss→ZE (ss.map V.str) us
 | _,_,.nil=>.nil
 | _,_,.cons y t r=>.cons ⟨t,rfl⟩ (Wr r)
theorem zk:∀ {ns:List Int}{us:List Value},IntsAre us ns→ZE (ns.map V.int) us
 | _,_,.nil=>.nil
 | _,_,.cons n t r=>.cons ⟨t,rfl⟩ (zk r)
theorem VU:∀ {bs:List Bool}{us:List Value},ZE (bs.map V.bl) us→∀ (i:Nat) v,us[i]?=some v→∃ b,bs[i]?=some b∧v=.bool b
 | [],_,.nil,i,v,h=>by simp at h
 | b :: r,_,.cons a c,0,v,h=>by simp at h;subst h;exact ⟨b,rfl,a⟩
 | b :: r,_,.cons a c,i+1,v,h=>by
  obtain ⟨b',e,q⟩:=VU c i v (by simpa using h)
  exact ⟨b',by simpa using e,q⟩
section
variable {X:Cx}
theorem yM:Ys X (.builtin "sorted") (fun xs H Q=>∃ (p:Addr) (ns:List Int),xs=[.ref p]∧SqL X.K H p (ns.map V.int)∧ns.length<64∧∀ l,H l=none→Q (.ref l) (upd H l (.lst ((YX ns).map V.int)))):=by
 intro pins s σ H xs us Q I r h
 obtain ⟨p,ns,rfl,hq,hl,q⟩:=h
 obtain ⟨u,rfl,ru⟩:=Wi r
 obtain rfl:u=Value.ref p:=ru
 obtain ⟨its,rv,pl,hz⟩:=I.list hq
 have el:=rv.length
 rw [List.length_map] at el
 refine sorted_ints pl.isList (vW rv) (by omega) fun out ms a1 a2 a3=>?_
 obtain rfl:=sortI_eq a2 a3
 obtain ⟨e,he⟩:=sortedAll_at s.heap its out
 have hlen:((YX ns).map V.int).length≤sizeLine:=by rw [List.length_map,(ze ns).length_eq,← List.length_map (f:=V.int)];exact hz
 have ne:H (s.heap.objs.size+1)=none:=I.hok.fresh (Nat.le_succ _)
 exact ⟨.ref (s.heap.objs.size+1),_,I.laid (o:=.lst ((YX ns).map V.int)) (t':=s.toks) (fun b o z=>sortedAll_old z) (Nat.le_succ _) ⟨hlen,out.toList,e,zk a1,by simpa using he⟩,rfl,q _ ne⟩
theorem xx:Ys X (.builtin "sorted") (fun xs H Q=>∃ (p:Addr) (ss:List Str),xs=[.ref p]∧SqL X.K H p (ss.map V.str)∧ss.length<64∧∀ l,H l=none→Q (.ref l) (upd H l (.lst ((X0 ss).map V.str)))):=by
 intro pins s σ H xs us Q I r h
 obtain ⟨p,ns,rfl,hq,hl,q⟩:=h
 obtain ⟨u,rfl,ru⟩:=Wi r
 obtain rfl:u=Value.ref p:=ru
 obtain ⟨its,rv,pl,hz⟩:=I.list hq
 have el:=rv.length
 rw [List.length_map] at el
 refine sorted_strs pl.isList (qp rv) (by omega) fun out ms a1 a2 a3=>?_
 obtain rfl:=sortS_eq a2 (VM a3)
 obtain ⟨e,he⟩:=sortedAll_at s.heap its out
 have hlen:((X0 ns).map V.str).length≤sizeLine:=by rw [List.length_map,(XH ns).length_eq,← List.length_map (f:=V.str)];exact hz
 have ne:H (s.heap.objs.size+1)=none:=I.hok.fresh (Nat.le_succ _)
 exact ⟨.ref (s.heap.objs.size+1),_,I.laid (o:=.lst ((X0 ns).map V.str)) (t':=s.toks) (fun b o z=>sortedAll_old z) (Nat.le_succ _) ⟨hlen,out.toList,e,Wr a1,by simpa using he⟩,rfl,q _ ne⟩
def rSorted (K:PySem.W.Frag):List V→Hp→VK→Prop:=fun xs H Q=>(∃ (p:Addr) (ss:List Str),xs=[.ref p]∧SqL K H p (ss.map V.str)∧ss.length<64∧∀ l,H l=none→Q (.ref l) (upd H l (.lst ((X0 ss).map V.str))))∨(∃ (p:Addr) (ns:List Int),xs=[.ref p]∧SqL K H p (ns.map V.int)∧ns.length<64∧∀ l,H l=none→Q (.ref l) (upd H l (.lst ((YX ns).map V.int))))
theorem vO:Ys X (.builtin "sorted") (rSorted X.K):=xx.or yM
theorem range_all {bs:List Bool}:((List.range bs.length).all fun i=>(bs[i]?).getD true)=bs.all id:=by
 induction bs with
 | nil=>rfl
 | cons b r ih=>
  rw [List.length_cons,List.range_succ_eq_map,List.all_cons,List.all_map,List.all_cons,← ih]
  rfl
theorem range_any {bs:List Bool}:((List.range bs.length).any fun i=>(bs[i]?).getD false)=bs.any id:=by
 induction bs with
 | nil=>rfl
 | cons b r ih=>
  rw [List.length_cons,List.range_succ_eq_map,List.any_cons,List.any_map,List.any_cons,← ih]
  rfl
theorem call_all (hc:X.calm=true):Ys X (.builtin "all") (fun xs H Q=>∃ (p:Addr) (bs:List Bool),xs=[.ref p]∧SqL X.K H p (bs.map V.bl)∧Q (.bl (bs.all id)) H):=by
 intro pins s σ H xs us Q I r h
 obtain ⟨p,bs,rfl,hq,q⟩:=h
 obtain ⟨u,rfl,ru⟩:=Wi r
 obtain rfl:u=Value.ref p:=ru
 obtain ⟨its,rv,pl,hz⟩:=I.list hq
 have el:=rv.length
 rw [List.length_map] at el
 have hlt:p<s.heap.objs.size:=by obtain ⟨_,e,_⟩:=pl.isList;exact Heap.lt_size e
 refine call_all_walk (wpAny_pyIter_list pl.isList ?_)
 refine ⟨s.heap.objs.size,[s.heap.objs.size,p],[s.heap.objs.size],its.toArray.size,_,_,fun i=>(bs[i]?).getD true,rfl,Walks.list (A:=X.A.in1) (by simpa using I.ok.hd hc) _ p (Nat.ne_of_lt hlt) its.toArray,
  ⟨⟨_,Heap.get?_push_size _ rfl,rfl,rfl⟩,pl.isList.push _⟩,fun i v s' Q' E' hP hQ=>?_,fun h' tk hk=>?_⟩
 ·obtain ⟨b,e,rfl⟩:=VU rv i v (by simpa using hP)
  simp only [e,Option.getD_some] at hQ
  exact wpAny_truthy_bool hQ
 ·rw [List.size_toArray,← el,range_all]
  exact ⟨.bl _,H,I.kept fun b o e=>hk b o (by simpa using Nat.ne_of_lt (Heap.lt_size e)) (Heap.get?_push_of_some _ e),rfl,q⟩
theorem call_any (hc:X.calm=true):Ys X (.builtin "any") (fun xs H Q=>∃ (p:Addr) (bs:List Bool),xs=[.ref p]∧SqL X.K H p (bs.map V.bl)∧Q (.bl (bs.any id)) H):=by
 intro pins s σ H xs us Q I r h
 obtain ⟨p,bs,rfl,hq,q⟩:=h
 obtain ⟨u,rfl,ru⟩:=Wi r
 obtain rfl:u=Value.ref p:=ru
 obtain ⟨its,rv,pl,hz⟩:=I.list hq
 have el:=rv.length
 rw [List.length_map] at el
 have hlt:p<s.heap.objs.size:=by obtain ⟨_,e,_⟩:=pl.isList;exact Heap.lt_size e
 refine call_any_walk (wpAny_pyIter_list pl.isList ?_)
 refine ⟨s.heap.objs.size,[s.heap.objs.size,p],[s.heap.objs.size],its.toArray.size,_,_,fun i=>(bs[i]?).getD false,rfl,Walks.list (A:=X.A.in1) (by simpa using I.ok.hd hc) _ p (Nat.ne_of_lt hlt) its.toArray,
  ⟨⟨_,Heap.get?_push_size _ rfl,rfl,rfl⟩,pl.isList.push _⟩,fun i v s' Q' E' hP hQ=>?_,fun h' tk hk=>?_⟩
 ·obtain ⟨b,e,rfl⟩:=VU rv i v (by simpa using hP)
  simp only [e,Option.getD_some] at hQ
  exact wpAny_truthy_bool hQ
 ·rw [List.size_toArray,← el,range_any]
  exact ⟨.bl _,H,I.kept fun b o e=>hk b o (by simpa using Nat.ne_of_lt (Heap.lt_size e)) (Heap.get?_push_of_some _ e),rfl,q⟩
def upTo (n:Int):List Int:=(List.range n.toNat).map fun (k:Nat)=>(k:Int)
theorem je {its:List Value}{n:Nat}{lo:Int} (h:ItemsOf (fun i v=>∃ t,v=.int (lo+i * 1) t) its.toArray n):ZE ((List.range n).map fun (k:Nat)=>V.int (lo+(k:Int))) its:=by
 obtain ⟨h1,h2⟩:=h
 rw [List.size_toArray] at h1
 induction its generalizing n lo with
 | nil=>simp at h1;subst h1;exact .nil
 | cons u r ih=>
  cases n with
  | zero=>simp at h1
  | succ n=>
   rw [List.range_succ_eq_map,List.map_cons,List.map_map]
   obtain ⟨t,e⟩:=h2 0 u (by simp)
   refine .cons ⟨t,by rw [e];simp⟩ ?_
   have:=ih (n:=n) (lo:=lo+1) (by simpa using h1) (fun j v hj=>by
    obtain ⟨t,e⟩:=h2 (j+1) v (by simpa using hj)
    exact ⟨t,by rw [e];congr 1;push_cast;omega⟩)
   refine (show ZE _ r from ?_)
   have e2:(List.range n).map (fun (k:Nat)=>V.int (lo+1+(k:Int)))=(List.range n).map ((fun (k:Nat)=>V.int (lo+(k:Int))) ∘ Nat.succ):=by
    apply List.map_congr_left
    intro k _
    simp only [Function.comp]
    congr 1
    push_cast
    omega
   rw [← e2];exact this
theorem zt (hc:X.calm=true):Ys X (.type "list") (fun xs H Q=>∃ (p:Addr) (j:Int),xs=[.ref p]∧H p=some (.rng 0 j)∧0≤j∧j≤1000000∧∀ l,H l=none→Q (.ref l) (upd H l (.lst ((upTo j).map V.int)))):=by
 intro pins s σ H xs us Q I r h
 obtain ⟨p,j,rfl,hp,h0,h1,q⟩:=h
 obtain ⟨u,rfl,ru⟩:=Wi r
 obtain rfl:u=Value.ref p:=ru
 obtain ⟨t,u,v,e⟩:=I.hok p _ hp
 refine call_list_range (a:=0) (b:=j) (c:=1) (n:=j.toNat) (I.ok.hd hc) e (small_one (by omega) (by omega) (by omega) (by omega)) (by rw [rangeSize_one];split <;> omega) (by omega) fun h' tk acc c' hk he hi=>?_
 have hv:ZE ((upTo j).map V.int) acc.toList:=by
  have:=je (its:=acc.toList) (n:=j.toNat) (lo:=0) (by simpa using hi)
  unfold upTo
  rw [List.map_map]
  have e2:(List.range j.toNat).map (fun (k:Nat)=>V.int (0+(k:Int)))=(List.range j.toNat).map (V.int ∘ fun (k:Nat)=>(k:Int)):=by
   apply List.map_congr_left
   intro k _
   simp
  rw [← e2];exact this
 have hz:((upTo j).map V.int).length≤sizeLine:=by unfold upTo;rw [List.length_map,List.length_map,List.length_range,sizeLine_eq];omega
 exact ⟨.ref s.heap.objs.size,_,I.laid (o:=.lst ((upTo j).map V.int)) hk (Nat.le_refl _) ⟨hz,acc.toList,c',hv,by simpa using he⟩,rfl,q _ (I.hok.fresh (Nat.le_refl _))⟩
end
mutual
inductive Dp (K:PySem.W.Frag) (H:Hp):V→PyData→Prop
 | non:Dp K H .non .none
 | bl (b):Dp K H (.bl b) (.bool b)
 | int (i):Dp K H (.int i) (.int i)
 | str (x):Dp K H (.str x) (.str x)
 | lst {a xs ds}:SqL K H a xs→Vb K H xs ds→Dp K H (.ref a) (.list ds)
 | tup {a xs ds}:SqT K H a xs→Vb K H xs ds→Dp K H (.ref a) (.tuple ds)
inductive Vb (K:PySem.W.Frag) (H:Hp):List V→List PyData→Prop
 | nil:Vb K H [] []
 | cons {v d vs ds}:Dp K H v d→Vb K H vs ds→Vb K H (v :: vs) (d :: ds)
end
section
variable {X:Cx}{pins:List (Addr × Obj)}{σ:St}{H:Hp}{s:Shared}
mutual
theorem Dp.reads (I:Inv X pins σ H s):∀ {v:V}{d:PyData}{u:Value},Dp X.K H v d→ZS v u→∃ as,Reads s.heap u d as
 | _,_,u,.non,r=>by cases (show u=Value.none from r);exact ⟨_,.none⟩
 | _,_,u,.bl b,r=>by cases (show u=Value.bool b from r);exact ⟨_,.bool b⟩
 | _,_,u,.int i,r=>by obtain ⟨t,e⟩:=(show ∃ t,u=Value.int i t from r);cases e;exact ⟨_,.int i t⟩
 | _,_,u,.str x,r=>by obtain ⟨t,e⟩:=(show ∃ t,u=Value.str x t from r);cases e;exact ⟨_,.str x t⟩
 | _,_,u,.lst (a:=a) h hs,r=>by
  cases (show u=Value.ref a from r)
  obtain ⟨its,rv,pl,_⟩:=I.list h
  obtain ⟨o,ho,hc,n,hd⟩:=pl.isList
  obtain ⟨as,q⟩:=Vb.reads I hs rv
  exact ⟨_,.list ho hc hd (by simpa using q)⟩
 | _,_,u,.tup (a:=a) h hs,r=>by
  cases (show u=Value.ref a from r)
  obtain ⟨its,rv,⟨o,ho,hc,n,hd⟩,_⟩:=I.tuple h
  obtain ⟨as,q⟩:=Vb.reads I hs rv
  exact ⟨_,.tuple ho hc hd (by simpa using q)⟩
theorem Vb.reads (I:Inv X pins σ H s):∀ {vs:List V}{ds:List PyData}{us:List Value},Vb X.K H vs ds→ZE vs us→∃ as,ReadsAll s.heap us ds as
 | _,_,_,.nil,.nil=>⟨_,.nil⟩
 | _,_,_,.cons h hs,.cons r rs=>by
  obtain ⟨as,a⟩:=h.reads I r
  obtain ⟨bs,b⟩:=hs.reads I rs
  exact ⟨_,.cons a b⟩
end
inductive rEqD_R (K:PySem.W.Frag) (neg:Bool) (x:V) (y:V) (H:Hp) (Q:VK):Prop
 | mk (d:_) (e:_) (h0:Dp K H x d) (h1:Dp K H y e) (h2:d.canLay0=true) (h3:e.canLay0=true) (h4:d.depth≤60) (h5:Q (.bl (if neg then !PyData.eqv d e else PyData.eqv d e)) H):rEqD_R K neg x y H Q
def rEqD (K:PySem.W.Frag) (neg:Bool):R2:=fun x y H Q=>rEqD_R K neg x y H Q
theorem op_eqD (hu:X.A.units+64<cLine):OpR X (compareOp .Eq) (rEqD X.K false):=by
 intro pins s σ H x y u v Q I rx ry h
 obtain ⟨d,e,hx,hy,c1,c2,dp,q⟩:=h
 obtain ⟨as,a⟩:=hx.reads I rx
 obtain ⟨bs,b⟩:=hy.reads I ry
 exact SeqAt.compareEq_reads a b c1 c2 (by omega) ⟨.bl _,H,I,rfl,q⟩
theorem op_neD (hu:X.A.units+64<cLine):OpR X (compareOp .NotEq) (rEqD X.K true):=by
 intro pins s σ H x y u v Q I rx ry h
 obtain ⟨d,e,hx,hy,c1,c2,dp,q⟩:=h
 obtain ⟨as,a⟩:=hx.reads I rx
 obtain ⟨bs,b⟩:=hy.reads I ry
 exact SeqAt.compareNe_reads a b c1 c2 (by omega) ⟨.bl _,H,I,rfl,q⟩
inductive rIsi_R (K:PySem.W.Frag) (T:String) (xs:List V) (H:Hp) (Q:VK):Prop
 | mk (x:_) (t:_) (b:_) (h0:xs=[x,.ty T]) (h1:Vl K H x t) (h2:PySem.W.kitOne K t (.type T)=some b) (h3:Q (.bl b) H):rIsi_R K T xs H Q
def rIsi (K:PySem.W.Frag) (T:String):List V→Hp→VK→Prop:=fun xs H Q=>rIsi_R K T xs H Q
theorem call_isi (T:String):Ys X (.builtin "isinstance") (rIsi X.K T):=by
 intro pins s σ H xs us Q I r h
 obtain ⟨x,t,b,rfl,ht,hk,q⟩:=h
 obtain ⟨u,v,rfl,ru,rv⟩:=UW r
 obtain rfl:v=Value.type T:=rv
 exact ye I ru ht hk fun tk=>⟨.bl b,H,I.tok _,rfl,q⟩
end
example (K:PySem.W.Frag):PySem.W.kitOne K (.type "int") (.type "list")=some false:=by rfl
example (K:PySem.W.Frag):PySem.W.kitOne K (.type "bool") (.type "int")=some true:=by rfl
section
variable {X:Cx}{pins:List (Addr × Obj)}{σ:St}{H:Hp}{s:Shared}{h':Heap}
theorem Inv.turnedLaid {ch:List Addr}{p:Addr}{o:HO}{t':Nat} (I:L2.Inv X pins σ H s) (k:∀ b u,b∉ch→s.heap.get? b=some u→h'.get? b=some u) (hob:∀ b∈ch,∃ u,h'.get? b=some u) (hf:∀ b∈ch,Ve X pins H b) (hp:s.heap.objs.size≤p)
  (new:YB X.prog X.w (upd H p o) h' p o):L2.Inv X pins σ (upd H p o) { s with heap:=h',toks:=t' }:=by
 have hn:H p=none:=I.hok.fresh hp
 have old:∀ {b:Addr}{u:Obj},s.heap.get? b=some u→b≠p:=fun e=>Nat.ne_of_lt (Nat.lt_of_lt_of_le (Heap.lt_size e) hp)
 refine I.step (g':=s.gens) (d':=s.drawn) (ch:=ch) (fun b hb=>?_) (fun b u _ _ hc e _=>k b u hc e) (fun b u _ _ hc e _=>⟨u.slots,k b u hc e⟩) (fun b u _ e n=>by rw [Zo (old e)];exact n)
  (fun b u hc e=>⟨u,k b u hc e⟩) (fun b xs e=>by rw [Zo (YN e hn)];exact e) (fun b u xs e=>by rw [Zo (YN e hn)];exact e) (fun b ps e=>⟨#[],by rw [Zo (YN e hn),e];simp⟩)
  (fun m hm=>?_) (fun b u e=>?_) I.bare
 ·obtain ⟨f0,f1,f2,f3,f4,f5⟩:=hf b hb
  exact ⟨f3,f1,f4,f5⟩
 ·obtain ⟨ob,es,ep,ho,r⟩:=hm
  exact ⟨ob,es,ep,k _ ob (fun z=>(hf _ z).2.1 rfl) ho,r⟩
 ·by_cases hb:b=p
  ·subst hb;rw [Zd] at e;cases e;exact new
  ·rw [Zo hb] at e
   have nch:∀ c v,H c=some v→c∉ch:=fun c v q z=>by rw [(hf c z).1] at q;cases q
   refine (I.hok b u e).stay (fun c v hc q=>k c v ?_ q) (fun c q=>by rw [Zo (YN q hn)];exact q) fun c xs q=>by rw [Zo (YN q hn)];exact q
   rcases hc with rfl | hc
   ·exact nch _ _ e
   ·exact nch _ _ hc
end
def Ite (K:PySem.W.Frag) (a:Addr):It:=
 ⟨fun i H=>∃ xs x,SqL K H a xs∧xs[i]?=some x,fun i H x H'=>∃ p v,x=.ref p∧H p=none∧H'=upd H p (.tup [.int i,v])∧∀ xs,SqL K H a xs→xs[i]?=some v,fun i H=>∃ xs,SqL K H a xs∧xs.length≤i⟩
theorem turn_enum {P:Program}{w:World}{K:PySem.W.Frag}{elts:List Expr}{k1:Nat}{pt:Pos} (a it e:Addr) (hne:e≠it) :
  Turn P w K (.Tuple elts k1 pt) (Ite K a) [e,it] e (fun i h=>∃ old,IsEnum h e it (i:Nat) old∧h.IsListIter it a i) where
 mem:=by simp
 obj:=fun i h st b hb=>by
  obtain ⟨old,h1,o,h2,c,d⟩:=st
  rcases (by simpa using hb:b=e∨b=it) with rfl | rfl
  ·exact ⟨_,h1,fun v z=>by
    have z':Data.fields _=Data.cell v:=z
    cases z'⟩
  ·exact ⟨o,h2,fun v z=>by rw [d] at z;cases z⟩
 keep:=fun i h h' st k=>by
  obtain ⟨old,h1,h2⟩:=st
  exact ⟨old,k e (by simp) _ h1,h2.at fun o z=>k it (by simp) o z⟩
 item:=by
  intro X hP hw hK hc i pins s σ H E I hf st hg
  subst hP hw hK
  obtain ⟨xs,x,hq,hx⟩:=hg
  obtain ⟨its,rv,p,hz⟩:=I.list hq
  obtain ⟨u,hu,ru⟩:=rv.get hx
  obtain ⟨old,he,hi⟩:=st
  refine wpAny_pyNext_enum_item he hi p.isList (x:=u) (by simpa using hu) hne fun h1 b1 b2 b3 b4 b5=>?_
  refine ⟨_,rfl,wpAny_letOwnedTupleGo_enum b1 fun h2 c1 c2=>?_⟩
  have c2':Heap.SameBut e h1 h2:=c2
  have lte:e<s.heap.objs.size:=Heap.lt_size he
  have hit2:h2.IsListIter it a (i+1):=b2.at fun o z=>(c2'.2 it (Ne.symm hne)).trans z
  have ht:h2.get? s.heap.objs.size=some { cls:=.type "tuple",data:=.seq #[.int (i:Nat) s.toks,u] }:=(c2'.2 _ (Nat.ne_of_gt lte)).trans b3
  have I2:L2.Inv X pins σ (upd H s.heap.objs.size (.tup [.int (i:Nat),x])) { s with heap:=h2,toks:=s.toks+1 }:=by
   refine Inv.turnedLaid (ch:=[e,it]) I (fun b o hb z=>?_) (fun b hb=>?_) hf (Nat.le_refl _) ?_
   ·have hb':b≠e∧b≠it:=by simpa using hb
    exact (c2'.2 b hb'.1).trans (b5 b o hb'.1 hb'.2 z)
   ·rcases (by simpa using hb:b=e∨b=it) with rfl | rfl
    ·exact ⟨_,c1⟩
    ·obtain ⟨o,z,_⟩:=hit2;exact ⟨o,z⟩
   ·exact ⟨by show 2≤sizeLine;decide,[.int (i:Nat) s.toks,u],.cons ⟨_,rfl⟩ (.cons ru .nil),⟨_,ht,rfl,_,rfl⟩⟩
  have hn:=I.hok.fresh (Nat.le_refl s.heap.objs.size)
  refine ⟨.ref s.heap.objs.size,_,I2,rfl,⟨_,x,rfl,hn,rfl,fun ys hy=>by rw [I.list_inj hy hq];exact hx⟩,⟨u,by simpa using c1,hit2⟩,fun b hb=>?_⟩
  have lb:b<s.heap.objs.size:=by
   rcases (by simpa using hb:b=e∨b=it) with rfl | rfl
   ·exact lte
   ·obtain ⟨o,z,_⟩:=hi;exact Heap.lt_size z
  rw [Zo (Nat.ne_of_lt lb)]
  exact (hf b hb).1
 done:=by
  intro X hP hw hK hc i pins s σ H E I hf st hg
  subst hP hw hK
  obtain ⟨xs,hq,hx⟩:=hg
  obtain ⟨its,rv,p,hz⟩:=I.list hq
  obtain ⟨old,he,hi⟩:=st
  have hl:=rv.length
  obtain ⟨f0,f1,f2,f3,f4,f5⟩:=hf it (by simp)
  exact wpAny_pyNext_enum_end (I.ok.hd hc) he hi p.isList (by simp;omega) fun h' eb=>⟨rfl,I.turned (t':=s.toks) (fun b o hb z=>eb b o hb z) f0 f1 f3 f4 f5⟩
 self:=fun _ _ _ _ _ st h=>by
  obtain ⟨old,he,_⟩:=st
  exact wpAny_pyIter_enum he h
section
variable {X:Cx}
def iEnum (K:PySem.W.Frag) (ta:TA):TI:=fun σ H R=>ta σ H fun vs H1=>∃ a xs,vs=[.ref a]∧Rd H1 a (.lst xs)∧R (Ite K a) H1
theorem pi_enum {elts:List Expr}{k1:Nat}{pt:Pos}{a:Expr}{ta:TA}{p pos:Pos} (hg:Gl X "enumerate") (hm:X.mg "enumerate" = none) (ha:PA X [a] ta) (hs:starEach [a] X.env=[(false,eval a X.env)]:=by rfl) :
  PI X (.Tuple elts k1 pt) (.Call (.Name "enumerate" p) [a] [] pos) (iEnum X.K ta):=by
 intro pins s σ H R I h
 refine Call_ (UJ I hg hm PyProof.Rows.boot_enumerate (PyProof.Rows.callWith_type1 (thn (ha pos pins s σ H _ I h) fun us s1 ⟨vs,H1,I1,r1,q1⟩=>?_) hs rfl))
 obtain ⟨l,xs,rfl,hq,q⟩:=q1
 obtain ⟨u,rfl,ru⟩:=Wi r1
 obtain rfl:u=Value.ref l:=ru
 obtain ⟨z,its,n,rv,e⟩:=hq.ok I1.hok
 refine call_enumerate_1 e fun h' a1 a2 a3 a4=>wpAny_pyIter_enum a1 ?_
 have I2:L2.Inv X pins σ H1 { s1 with heap:=h' }:=I1.kept (t':=s1.toks) a4
 refine ⟨s1.heap.objs.size+1,[s1.heap.objs.size+1,s1.heap.objs.size],_,_,H1,rfl,I2,turn_enum l s1.heap.objs.size (s1.heap.objs.size+1) (Nat.ne_of_gt (Nat.lt_succ_self _)),⟨_,a1,a2⟩,fun b hb=>?_,q⟩
 have lb:s1.heap.objs.size≤b:=by
  rcases (by simpa using hb:b=s1.heap.objs.size+1∨b=s1.heap.objs.size) with rfl | rfl
  ·exact Nat.le_succ _
  ·exact Nat.le_refl _
 exact I1.fpOk lb (I1.hok.fresh lb)
end
def New (H H':Hp):Hp:=fun b=>if (H b).isSome=true then none else H' b
def hide (D:Addr) (H:Hp):Hp:=fun b=>if b=D then none else H b
theorem New.of {H H':Hp}{b:Addr}{o:HO} (h:New H H' b=some o):H b=none∧H' b=some o:=by
 unfold New at h
 split at h
 ·cases h
 ·rename_i q
  refine ⟨?_,h⟩
  cases e:H b with
  | none=>rfl
  | some u=>rw [e] at q;exact absurd rfl q
theorem New.mk {H H':Hp}{b:Addr}{o:HO} (h:H b=none) (h':H' b=some o):New H H' b=some o:=by
 unfold New
 rw [h]
 exact h'
theorem New.sub {H H':Hp}:Zj (New H H') H':=fun _ _ h=>(New.of h).2
theorem New.mono {H H1 H2 H3:Hp} (a:Zj H H1) (b:Zj H2 H3):Zj (New H1 H2) (New H H3):=fun c o h=>
 let ⟨h1,h2⟩:=New.of h
 New.mk (a.free h1) (b c o h2)
theorem Zf {H:Hp}{p:Addr}{o:HO} (h:H p=none):Zj H (upd H p o):=fun b u e=>by rw [Zo (YN e h)];exact e
theorem YV {D:Addr}{H:Hp}:Zj (hide D H) H:=fun b o h=>by
 unfold hide at h
 split at h
 ·cases h
 ·exact h
theorem WT {D b:Addr}{H:Hp}{o:HO} (h:hide D H b=some o):b≠D∧H b=some o:=by
 unfold hide at h
 split at h
 ·cases h
 ·rename_i q;exact ⟨q,h⟩
theorem Yt {D b:Addr}{H:Hp}{o:HO} (n:b≠D) (h:H b=some o):hide D H b=some o:=by
 unfold hide
 rw [if_neg n];exact h
def Zy (D:Addr) (H H':Hp):Prop:=∀ b o,b≠D→H b=some o→H' b=some o
theorem Zj.x {D:Addr}{H H':Hp} (h:Zj H H'):Zy D H H':=fun b o _ e=>h b o e
theorem Zy.refl {D:Addr} (H:Hp):Zy D H H:=fun _ _ _ e=>e
theorem Zy.trans {D:Addr}{H H1 H2:Hp} (a:Zy D H H1) (b:Zy D H1 H2):Zy D H H2:=fun c o n e=>b c o n (a c o n e)
theorem Zy.upd {D:Addr}{H H':Hp}{o:HO} (a:Zy D H H'):Zy D H (upd H' D o):=fun c u n e=>by rw [Zo n];exact a c u n e
theorem Zy.same {D:Addr}{H H':Hp} (a:Zy D H H') (h:H D=none):Zj H H':=fun c u e=>a c u (YN e h) e
section
variable {X:Cx}
def rLen (K:PySem.W.Frag):List V→Hp→VK→Prop:=fun xs H Q=>(∃ p ys,xs=[.ref p]∧(SqL K H p ys∨SqT K H p ys)∧Q (.int ys.length) H)∨((∃ z,xs=[.str z]∧z.length≤sizeLine∧Q (.int z.length) H)∨∃ a n,xs=[.ref a]∧H a=some (SetN a n)∧n<4000∧Q (.int n) H)
theorem call_lenA:Ys X (.builtin "len") (rLen X.K):=xC.or (xn.or call_lenS)
def rListA (K:PySem.W.Frag):List V→Hp→VK→Prop:=fun xs H Q=>(∃ p ys,xs=[.ref p]∧(SqL K H p ys∨SqT K H p ys)∧∀ l,H l=none→Q (.ref l) (upd H l (.lst ys)))∨(∃ (p:Addr) (j:Int),xs=[.ref p]∧H p=some (.rng 0 j)∧0≤j∧j≤1000000∧∀ l,H l=none→Q (.ref l) (upd H l (.lst ((upTo j).map V.int))))
theorem vX (hc:X.calm=true):Ys X (.type "list") (rListA X.K):=yV.or (zt hc)
theorem W9 {x:Str}{v:V}{pos:Pos} (hg:Gl X x) (h:∃ u,X.mg x=some u∧ZS v u) (hd:(x == ("__debug__" : Str))=false:=by decide):PE X (.Name x pos) (tC v):=by
 obtain ⟨u,hm,r⟩:=h
 exact pe_glob hg hm r hd
end
def ZK (sc:Scope) (N Nc:List Str) (ix:List (Option Nat)) (scope:Scope):Bool:=
 decide (scope.kind=.function) && scope.names.all (fun y=>decide (y.2≠.cell)) && scope.names.all (fun y=>decide (y.2=.local→scope.names.lookup y.1=some .local)) &&
 scope.names.all (fun y=>decide (y.2=.free→sc.names.lookup y.1=some .cell∨sc.names.lookup y.1=some .free)) && decide (ix.length=Nc.length) &&
 (ix.zip Nc).all fun p=>match p.1 with | none=>true | some j=>N[j]? == some p.2 && scope.names.lookup p.2 == some .free
theorem ZD.of {sc:Scope}{N Nc:List Str}{ix:List (Option Nat)}{scope:Scope} (h:ZK sc N Nc ix scope=true):ZD sc N Nc ix scope:=by
 unfold ZK at h
 simp only [Bool.and_eq_true] at h
 obtain ⟨⟨⟨⟨⟨h1,h2⟩,h3⟩,h4⟩,h5⟩,h6⟩:=h
 exact ⟨of_decide_eq_true h1,fun y hy=>of_decide_eq_true (List.all_eq_true.mp h2 y hy),fun y hy=>of_decide_eq_true (List.all_eq_true.mp h3 y hy),fun y hy=>of_decide_eq_true (List.all_eq_true.mp h4 y hy),of_decide_eq_true h5,h6⟩
def Its (x:Str):It:=⟨fun i _=>i<x.cps.size,fun i H v H'=>H'=H∧∃ c,x.cps[i]?=some c∧v=.str ⟨#[c]⟩,fun i _=>x.cps.size≤i⟩
theorem turn_str {P:Program}{w:World}{K:PySem.W.Frag}{tg:Expr}{it:Addr}{x:Str}{t:Tok}{ty:String}
  (hty:["enumerate", "zip", "dict_itemiterator", "dict_reverseitemiterator", "odict_iterator", "itertools.zip_longest", "itertools.pairwise"].contains ty=false)
  (W:∀ A':Around,A'.handled=none→Walks P w A' it [it] [it] x.cps.size (SignAt x) (fun i h=>h.IsStrIter it ty x t i))
  (self:∀ (A:Around) (i:Nat) (s:Shared) (Q:Value→Shared→Prop) (E:Value→Shared→Prop),s.heap.IsStrIter it ty x t i→Q (.ref it) s→wpAny (model P w) A (pyIter (.ref it)) Q E s) :
  Turn P w K tg (Its x) [it] it (fun i h=>i≤x.cps.size∧h.IsStrIter it ty x t i) where
 mem:=by simp
 obj:=fun i h st b hb=>by
  have e:b=it:=by simpa using hb
  subst e
  obtain ⟨_,o,e,c,d⟩:=st
  exact ⟨o,e,fun v z=>by rw [d] at z;cases z⟩
 keep:=fun i h h' st k=>by
  obtain ⟨l,o,e,c,d⟩:=st
  exact ⟨l,o,k it (by simp) o e,c,d⟩
 item:=by
  intro X hP hw hK hc i pins s σ H E I hf st hg
  subst hP hw hK
  obtain ⟨f0,f1,f2,f3,f4,f5⟩:=hf it (by simp)
  refine (W X.A (I.ok.hd hc)).item i s _ _ hg st.2 fun v h' tk hv st' kk=>?_
  obtain ⟨c,u,hcx,rfl⟩:=hv
  have I1:L2.Inv X pins σ H { s with heap:=h',toks:=tk }:=I.turned (fun b o hb e=>kk b o (by simpa using hb) e) f0 f1 f3 f4 f5
  obtain ⟨o,e,oc,od⟩:=id st'
  exact ⟨_,rfl,go_of (s:={ s with heap:=h',toks:=tk }) e oc od hty ⟨.str ⟨#[c]⟩,H,I1,⟨u,rfl⟩,⟨rfl,c,hcx,rfl⟩,⟨hg,st'⟩,fun b hb=>(hf b hb).1⟩⟩
 done:=by
  intro X hP hw hK hc i pins s σ H E I hf st hg
  subst hP hw hK
  obtain ⟨f0,f1,f2,f3,f4,f5⟩:=hf it (by simp)
  have e:i=x.cps.size:=Nat.le_antisymm st.1 hg
  subst e
  exact (W X.A (I.ok.hd hc)).done s _ _ st.2 fun h' tk kk=>⟨rfl,I.turned (fun b o hb e=>kk b o (by simpa using hb) e) f0 f1 f3 f4 f5⟩
 self:=fun A i s Q E st h=>self A i s Q E st.2 h
section
variable {X:Cx}{tg:Expr}
def iStr (tl:TE):TI:=fun σ H R=>tl σ H fun v H1=>∃ x,v=.str x∧R (Its x) H1
theorem pi_str {l:Expr}{tl:TE} (hl:PE X l tl):PI X tg l (iStr tl):=by
 intro pins s σ H R I h
 refine thn (hl pins s σ H _ I h) fun v s1 ⟨y,H1,I1,r1,x,e,q⟩=>?_
 subst e
 obtain ⟨t,rfl⟩:=(show ∃ t,v=Value.str x t from r1)
 have fin:∀ (ty:String),["enumerate", "zip", "dict_itemiterator", "dict_reverseitemiterator", "odict_iterator", "itertools.zip_longest", "itertools.pairwise"].contains ty=false →
   (∀ A':Around,A'.handled=none→Walks X.prog X.w A' s1.heap.objs.size [s1.heap.objs.size] [s1.heap.objs.size] x.cps.size (SignAt x) (fun i h=>h.IsStrIter s1.heap.objs.size ty x t i)) →
   (∀ (A:Around) (i:Nat) (s:Shared) (Q:Value→Shared→Prop) (E:Value→Shared→Prop),s.heap.IsStrIter s1.heap.objs.size ty x t i→Q (.ref s1.heap.objs.size) s→wpAny (model X.prog X.w) A (pyIter (.ref s1.heap.objs.size)) Q E s) →
   PIE X pins σ tg R (.ref s1.heap.objs.size) { s1 with heap:=s1.heap.push { cls:=.type ty,data:=.fields #[.str x t,.int 0 0] } }:=fun ty h1 h2 h3=>by
  refine ⟨s1.heap.objs.size,[s1.heap.objs.size],_,_,H1,rfl,I1.kept (t':=s1.toks) fun b o e=>Heap.get?_push_of_some _ e,turn_str h1 h2 h3,⟨Nat.zero_le _,_,Heap.get?_push_size _ rfl,rfl,rfl⟩,fun b hb=>?_,q⟩
  have e:b=s1.heap.objs.size:=by simpa using hb
  subst e
  exact I1.fpOk (Nat.le_refl _) (I1.hok.fresh (Nat.le_refl _))
 cases ha:x.cps.all (· < 128)
 ·exact wpAny_pyIter_wide ha (fin "str_iterator" (by decide) (fun A' hA=>Walks.strWide hA _ x t) fun _ _ _ _ _ st h=>wpAny_pyIter_striter_wide st h)
 ·exact wpAny_pyIter_ascii ha (fin "str_ascii_iterator" (by decide) (fun A' hA=>Walks.strAscii hA _ x t) fun _ _ _ _ _ st h=>wpAny_pyIter_striter_ascii st h)
end
section
variable {X:Cx}{K:PySem.W.Frag}
theorem Zv (hK:X.K=K):Ys X (.builtin "len") (rLen K):=by subst hK;exact call_lenA
theorem Xu (hK:X.K=K):Ys X (.builtin "sorted") (rSorted K):=by subst hK;exact vO
def rAll (K:PySem.W.Frag):List V→Hp→VK→Prop:=fun xs H Q=>∃ (p:Addr) (bs:List Bool),xs=[.ref p]∧SqL K H p (bs.map V.bl)∧Q (.bl (bs.all id)) H
def rAny (K:PySem.W.Frag):List V→Hp→VK→Prop:=fun xs H Q=>∃ (p:Addr) (bs:List Bool),xs=[.ref p]∧SqL K H p (bs.map V.bl)∧Q (.bl (bs.any id)) H
theorem XM (hK:X.K=K) (hc:X.calm=true):Ys X (.builtin "all") (rAll K):=by subst hK;exact call_all hc
theorem call_anyK (hK:X.K=K) (hc:X.calm=true):Ys X (.builtin "any") (rAny K):=by subst hK;exact call_any hc
theorem Yr (hK:X.K=K) (hc:X.calm=true):Ys X (.type "list") (rListA K):=by subst hK;exact vX hc
def rTupleA (K:PySem.W.Frag):List V→Hp→VK→Prop:=fun xs H Q=>∃ p ys,xs=[.ref p]∧((SqL K H p ys∧∀ l,H l=none→Q (.ref l) (upd H l (.tup ys)))∨(SqT K H p ys∧Q (.ref p) H))
theorem Yv (hK:X.K=K):Ys X (.type "tuple") (rTupleA K):=by subst hK;exact zy
def rSetA (K:PySem.W.Frag):List V→Hp→VK→Prop:=fun xs H Q=>∃ (p:Addr) (ks:List Key),xs=[.ref p]∧SqL K H p (ks.map kV)∧ks.length<4000∧∀ n a,n≤ks.length→(n=ks.length↔ks.Nodup)→H a=none→Q (.ref a) (upd H a (SetN a n))
theorem yw (hK:X.K=K) (hc:X.calm=true):Ys X (.type "set") (rSetA K):=by subst hK;exact call_set hc
theorem Xj (hK:X.K=K) (T:String):Ys X (.builtin "isinstance") (rIsi K T):=by subst hK;exact call_isi T
theorem ZM (hK:X.K=K):IxR X (rIxL K):=by subst hK;exact ix_list
theorem Z0 (hK:X.K=K):IxR X (rIxT K):=by subst hK;exact ix_tup
theorem vj (hK:X.K=K):SlR X (rSlL K):=by subst hK;exact sl_list
theorem op_inK (hK:X.K=K):OpR X (compareOp .In) (rIn K false):=by subst hK;exact op_in_seq
theorem Ut (hK:X.K=K):OpR X (compareOp .NotIn) (rIn K true):=by subst hK;exact xm
theorem qj (hK:X.K=K) (hu:X.A.units+64<cLine):OpR X (compareOp .Eq) (rEqD K false):=by subst hK;exact op_eqD hu
theorem Vu (hK:X.K=K) (hu:X.A.units+64<cLine):OpR X (compareOp .NotEq) (rEqD K true):=by subst hK;exact op_neD hu
theorem Zq {tg l:Expr}{tl:TE} (hK:X.K=K) (hl:PE X l tl):PI X tg l (iList K tl):=by subst hK;exact pi_list hl
theorem pi_enumK {elts:List Expr}{k1:Nat}{pt:Pos}{a:Expr}{ta:TA}{p pos:Pos} (hK:X.K=K) (hg:Gl X "enumerate") (hm:X.mg "enumerate" = none) (ha:PA X [a] ta) (hs:starEach [a] X.env=[(false,eval a X.env)]:=by rfl) :
  PI X (.Tuple elts k1 pt) (.Call (.Name "enumerate" p) [a] [] pos) (iEnum K ta):=by subst hK;exact pi_enum hg hm ha hs
theorem XU {es:List Expr}{k:Nat}{t:TGs}{n:Nat}{pos:Pos} (hK:X.K=K) (hc:X.calm=true) (h:PGs X es t)
  (hn:(assignEach es X.env).length=n:=by rfl) (hst:(assignEach es X.env).findIdx? (·.1)=none:=by rfl):PG X (.Tuple es k pos) (gTup K n t):=by subst hK;exact pg_tup hc h hn hst
theorem Wg {e:Expr}{f:Str}{pos:Pos}{ta:TE} (hK:X.K=K) (he:PE X e ta) (hb:attributeBase e f X.env (eval e X.env)=eval e X.env):PE X (.Attribute e f pos) (tFld K ta f):=by subst hK;exact pe_fld he hb
end
end L3
namespace L3
open PySem PySem.Spec L2
inductive Kd (H:Hp):V→Prop
 | non:Kd H .non
 | bl (b:Bool):Kd H (.bl b)
 | int (i:Int):Kd H (.int i)
 | str (z:Str) (hz:z.length≤1000):Kd H (.str z)
 | lst {a:Addr}{xs:List V} (e:H a=some (.lst xs)):Kd H (.ref a)
 | tup {a:Addr}{xs:List V} (e:H a=some (.tup xs)):Kd H (.ref a)
 | dK {a:Addr}{kvs:List (Key × V)} (e:H a=some (.dK kvs)):Kd H (.ref a)
theorem Kd.mono {H H':Hp}{x:V} (s:Zj H H') (h:Kd H x):Kd H' x:=by
 cases h with
 | non=>exact .non
 | bl b=>exact .bl b
 | int i=>exact .int i
 | str z hz=>exact .str z hz
 | lst e=>exact .lst (s _ _ e)
 | tup e=>exact .tup (s _ _ e)
 | dK e=>exact .dK (s _ _ e)
def Xr (H:Hp) (T:String):V→Bool
 | .bl _=>T == "bool" || T == "int"
 | .int _=>T == "int"
 | .str _=>T == "str"
 | .ref a=>match H a with
  | some (.lst _)=>T == "list"
  | some (.tup _)=>T == "tuple"
  | some (.dK _)=>T == "dict"
  | _=>false
 | _=>false
theorem isi_rd {K:PySem.W.Frag}{T:String}{x:V}{H:Hp}{Q:VK} (hT:T = "int" ∨ T = "bool" ∨ T = "str" ∨ T = "list" ∨ T = "tuple") (h:Kd H x) (q:Q (.bl (Xr H T x)) H):rIsi K T [x,.ty T] H Q:=by
 rcases hT with rfl | rfl | rfl | rfl | rfl
 all_goals
  cases h with
  | non=>exact ⟨_,_,_,rfl,.non,rfl,q⟩
  | bl b=>exact ⟨_,_,_,rfl,.bl b,rfl,q⟩
  | int i=>exact ⟨_,_,_,rfl,.int i,rfl,q⟩
  | str z hz=>exact ⟨_,_,_,rfl,.str z,rfl,q⟩
  | lst e=>first | exact ⟨_,_,false,rfl,.lst e,rfl,by simpa [Xr,e] using q⟩ | exact ⟨_,_,true,rfl,.lst e,rfl,by simpa [Xr,e] using q⟩
  | tup e=>first | exact ⟨_,_,false,rfl,.tup e,rfl,by simpa [Xr,e] using q⟩ | exact ⟨_,_,true,rfl,.tup e,rfl,by simpa [Xr,e] using q⟩
  | dK e=>first | exact ⟨_,_,false,rfl,.dK e,rfl,by simpa [Xr,e] using q⟩ | exact ⟨_,_,true,rfl,.dK e,rfl,by simpa [Xr,e] using q⟩
def US (c:Nat):Bool:=decide (97≤c∧c≤122)
def Zw (z:Str):Bool:=decide (1≤z.length) && decide (z.length≤8) && z.cps.toList.all US
def YZ:V→Bool
 | .str z=>Zw z
 | _=>false
def isIntV:V→Bool
 | .int _=>true
 | _=>false
def Ya (n:Int):V→Bool
 | .int i=>decide (0≤i) && decide (i<n)
 | _=>false
def YO (H:Hp):V→Option (List V)
 | .ref a=>match H a with
  | some (.lst xs)=>some xs
  | _=>none
 | _=>none
theorem Z2 {H:Hp}{a:Addr}{xs:List V} (h:H a=some (.lst xs)):YO H (.ref a)=some xs:=by simp [YO,h]
theorem X9 {H H':Hp}{x:V} (s:Zj H H') (k:Kd H x):YO H' x=YO H x:=by
 cases k with
 | non=>rfl
 | bl b=>rfl
 | int i=>rfl
 | str z hz=>rfl
 | lst e=>rw [Z2 e,Z2 (s _ _ e)]
 | tup e=>simp [YO,e,s _ _ e]
 | dK e=>simp [YO,e,s _ _ e]
theorem yF {H:Hp}{x:V} (k:Kd H x):Xr H "list" x=(YO H x).isSome:=by
 cases k with
 | non=>rfl
 | bl b=>rfl
 | int i=>rfl
 | str z hz=>rfl
 | lst e=>simp [Xr,YO,e]
 | tup e=>simp [Xr,YO,e]
 | dK e=>simp [Xr,YO,e]
def Zu (H:Hp) (x:V):Bool:=match YO H x with
 | some xs=>xs.all YZ && decide xs.Nodup
 | none=>false
def XO (H:Hp) (n:Int) (x:V):Bool:=match YO H x with
 | some xs=>xs.all (Ya n)
 | none=>false
def Yb (H:Hp) (n:Int) (x:V):Bool:=match YO H x with
 | some xs=>xs.all (Ya n) && !xs.isEmpty && decide xs.Nodup
 | none=>false
def KdL (H:Hp) (x:V):Prop:=Kd H x∧∀ xs,YO H x=some xs→xs.length≤1000∧∀ y∈xs,Kd H y
def KdLL (H:Hp) (x:V):Prop:=Kd H x∧∀ xs,YO H x=some xs→xs.length≤1000∧∀ y∈xs,KdL H y
theorem KdL.mono {H H':Hp}{x:V} (s:Zj H H') (h:KdL H x):KdL H' x:=
 ⟨h.1.mono s,fun xs e=>by
  rw [X9 s h.1] at e
  exact ⟨(h.2 xs e).1,fun y hy=>((h.2 xs e).2 y hy).mono s⟩⟩
theorem XB {H H':Hp}{x:V} (s:Zj H H') (k:Kd H x):Zu H' x=Zu H x:=by unfold Zu;rw [X9 s k]
theorem Vo {H H':Hp}{x:V}{n:Int} (s:Zj H H') (k:Kd H x):Yb H' n x=Yb H n x:=by unfold Yb;rw [X9 s k]
def few3:Option (List V)→Bool
 | some fs=>decide (fs.length≤3)
 | none=>false
def Wx (H:Hp) (s w st f:V):Bool:=match YO H s,YO H w with
 | some ss,some ws=>decide (1≤ss.length) && decide (ss.length≤20) && decide (ws.length=ss.length) && ss.all (Zu H) && ws.all (Yb H ss.length) && (Yb H ss.length st && (Zu H f && few3 (YO H f)))
 | _,_=>false
theorem kV_ne {a b:Key}:kV a≠kV b↔a≠b:=by
 constructor
 ·intro h e;exact h (by rw [e])
 ·intro h e
  apply h
  cases a <;> cases b <;> simp [kV] at e <;> simp [e]
theorem nodup_kV (ks:List Key):(ks.map kV).Nodup↔ks.Nodup:=by
 unfold List.Nodup
 rw [List.pairwise_map]
 exact ⟨fun h=>h.imp fun q=>kV_ne.mp q,fun h=>h.imp fun q=>kV_ne.mpr q⟩
theorem zi:∀ {xs:List V},xs.all YZ=true→∃ ks:List Key,xs=ks.map kV
 | [],_=>⟨[],rfl⟩
 | x :: r,h=>by
  rw [List.all_cons,Bool.and_eq_true] at h
  obtain ⟨ks,rfl⟩:=zi h.2
  cases x with
  | str z=>exact ⟨.inr z :: ks,rfl⟩
  | _=>exact absurd h.1 (by simp [YZ])
theorem qo {n:Int}:∀ {xs:List V},xs.all (Ya n)=true→∃ ks:List Key,xs=ks.map kV
 | [],_=>⟨[],rfl⟩
 | x :: r,h=>by
  rw [List.all_cons,Bool.and_eq_true] at h
  obtain ⟨ks,rfl⟩:=qo h.2
  cases x with
  | int z=>exact ⟨.inl z :: ks,rfl⟩
  | _=>exact absurd h.1 (by simp [Ya])
theorem dec_len {n m:Nat}{ks:List Key} (hm:m=(ks.map kV).length) (h:n=ks.length↔ks.Nodup):decide (V.int (n:Nat)=V.int (m:Nat))=decide (ks.map kV).Nodup:=by
 have e:(V.int (n:Nat)=V.int (m:Nat))↔(ks.map kV).Nodup:=by
  rw [nodup_kV,← h]
  constructor
  ·intro q
   have q':((n:Nat):Int)=((m:Nat):Int):=V.int.inj q
   rw [List.length_map] at hm
   omega
  ·intro q
   rw [List.length_map] at hm
   rw [q,hm]
 exact decide_eq_decide.mpr e
theorem Xi {α:Type}{f:α→Bool}:∀ {xs:List α}{ys:List V},ys.length=xs.length→(∀ (i:Nat) v x,ys[i]?=some v→xs[i]?=some x→v=.bl (f x))→ys=(xs.map f).map V.bl
 | [],ys,hl,_=>by simp at hl;subst hl;rfl
 | x :: r,[],hl,_=>by simp at hl
 | x :: r,y :: ys,hl,h=>by
  have e:=h 0 y x rfl rfl
  subst e
  rw [List.map_cons,List.map_cons,Xi (xs:=r) (ys:=ys) (f:=f) (by simpa using hl) fun i v z h1 h2=>h (i+1) v z (by simpa using h1) (by simpa using h2)]
theorem Vh {α:Type} (f:α→Bool) (xs:List α):(xs.map f).all id=xs.all f:=by
 rw [List.all_map];rfl
theorem vb (c:Nat):decide (c∈("abcdefghijklmnopqrstuvwxyz" : Str).cps.toList)=US c:=by
 have e:("abcdefghijklmnopqrstuvwxyz" : Str).cps.toList=(List.range 26).map (· + 97):=by decide +kernel
 rw [e]
 unfold US
 refine decide_eq_decide.mpr ?_
 rw [List.mem_map]
 constructor
 ·rintro ⟨k,hk,rfl⟩
  have:=List.mem_range.mp hk
  omega
 ·rintro ⟨h1,h2⟩
  exact ⟨c - 97,List.mem_range.mpr (by omega),by omega⟩
theorem XY (K:PySem.W.Frag) {T:String}{x:V}{H:Hp}{b:Bool} (hT:T = "int" ∨ T = "bool" ∨ T = "str" ∨ T = "list" ∨ T = "tuple") (h:Kd H x) (hb:Xr H T x=b):∃ t,Vl K H x t∧PySem.W.kitOne K t (.type T)=some b:=by
 obtain ⟨y,t,c,e,h1,h2,q⟩:=isi_rd (K:=K) (Q:=fun v _=>v=.bl b) hT h (by rw [hb])
 have e1:x=y:=(List.cons.inj e).1
 have e2:c=b:=V.bl.inj q
 subst e1;subst e2
 exact ⟨t,h1,h2⟩
theorem kd_str {H:Hp}{x:V} (h:Kd H x):(Xr H "str" x=true∧∃ z,x=.str z∧z.length≤1000)∨(Xr H "str" x=false∧YZ x=false):=by
 cases h with
 | str z hz=>exact .inl ⟨rfl,z,rfl,hz⟩
 | non=>exact .inr ⟨rfl,rfl⟩
 | bl b=>exact .inr ⟨rfl,rfl⟩
 | int i=>exact .inr ⟨rfl,rfl⟩
 | lst e=>exact .inr ⟨by simp [Xr,e],rfl⟩
 | tup e=>exact .inr ⟨by simp [Xr,e],rfl⟩
 | dK e=>exact .inr ⟨by simp [Xr,e],rfl⟩
theorem WB {H:Hp}{x:V} (h:Kd H x):(Xr H "list" x=true∧∃ a xs,x=.ref a∧H a=some (.lst xs)∧YO H x=some xs)∨(Xr H "list" x=false∧YO H x=none):=by
 cases h with
 | str z hz=>exact .inr ⟨rfl,rfl⟩
 | non=>exact .inr ⟨rfl,rfl⟩
 | bl b=>exact .inr ⟨rfl,rfl⟩
 | int i=>exact .inr ⟨rfl,rfl⟩
 | lst e=>exact .inl ⟨by simp [Xr,e],_,_,rfl,e,Z2 e⟩
 | tup e=>exact .inr ⟨by simp [Xr,e],by simp [YO,e]⟩
 | dK e=>exact .inr ⟨by simp [Xr,e],by simp [YO,e]⟩
def LS (H:Hp) (v:V) (ss:List Str):Prop:=∃ a,v=.ref a∧H a=some (.lst (ss.map V.str))
def LI (H:Hp) (v:V) (ns:List Int):Prop:=∃ a,v=.ref a∧H a=some (.lst (ns.map V.int))
def TS (H:Hp) (v:V) (ss:List Str):Prop:=∃ a,v=.ref a∧H a=some (.tup (ss.map V.str))
def TIn (H:Hp) (v:V) (ns:List Int):Prop:=∃ a,v=.ref a∧H a=some (.tup (ns.map V.int))
def LL {α:Type} (r:Hp→V→α→Prop) (H:Hp) (v:V) (xs:List α):Prop:=∃ a vs,v=.ref a∧H a=some (.lst vs)∧vs.length=xs.length∧∀ (i:Nat) v x,vs[i]?=some v→xs[i]?=some x→r H v x
def LT {α:Type} (r:Hp→V→α→Prop) (H:Hp) (v:V) (xs:List α):Prop:=∃ a vs,v=.ref a∧H a=some (.tup vs)∧vs.length=xs.length∧∀ (i:Nat) v x,vs[i]?=some v→xs[i]?=some x→r H v x
def Mon {α:Type} (r:Hp→V→α→Prop):Prop:=∀ H H' v x,Zj H H'→r H v x→r H' v x
theorem LS.mono:Mon LS:=fun _ _ _ _ s ⟨a,e,h⟩=>⟨a,e,s _ _ h⟩
theorem LI.mono:Mon LI:=fun _ _ _ _ s ⟨a,e,h⟩=>⟨a,e,s _ _ h⟩
theorem TS.mono:Mon TS:=fun _ _ _ _ s ⟨a,e,h⟩=>⟨a,e,s _ _ h⟩
theorem TIn.mono:Mon TIn:=fun _ _ _ _ s ⟨a,e,h⟩=>⟨a,e,s _ _ h⟩
theorem LL.mono {α:Type}{r:Hp→V→α→Prop} (m:Mon r):Mon (LL r):=fun _ _ _ _ s ⟨a,vs,e,h,l,q⟩=>⟨a,vs,e,s _ _ h,l,fun i v x h1 h2=>m _ _ _ _ s (q i v x h1 h2)⟩
theorem LT.mono {α:Type}{r:Hp→V→α→Prop} (m:Mon r):Mon (LT r):=fun _ _ _ _ s ⟨a,vs,e,h,l,q⟩=>⟨a,vs,e,s _ _ h,l,fun i v x h1 h2=>m _ _ _ _ s (q i v x h1 h2)⟩
theorem Zy.hide {p:Addr}{H H':Hp} (s:Zy p H H'):Zj (hide p H) (hide p H'):=fun b o h=>
 let ⟨n,e⟩:=WT h
 Yt n (s b o n e)
structure WD where
 signs:List (List Str)
 ways:List (List Int)
 starts:List Int
 fair:List Str
structure Wv (H:Hp) (s w st f:V) (d:WD):Prop where
 s:LL LS H s d.signs
 w:LL LI H w d.ways
 st:LI H st d.starts
 f:LS H f d.fair
theorem Wv.mono {H H':Hp}{s w st f:V}{d:WD} (e:Zj H H') (h:Wv H s w st f d):Wv H' s w st f d:=
 ⟨LL.mono LS.mono _ _ _ _ e h.s,LL.mono LI.mono _ _ _ _ e h.w,LI.mono _ _ _ _ e h.st,LS.mono _ _ _ _ e h.f⟩
structure Good (d:WD):Prop where
 n1:1≤d.signs.length
 n20:d.signs.length≤20
 wl:d.ways.length=d.signs.length
 sn:∀ ss∈d.signs,ss.Nodup∧(∀ x∈ss,Zw x=true)∧ss.length≤30
 wn:∀ ns∈d.ways,ns.Nodup∧ns≠[]∧(∀ x∈ns,0≤x∧x<d.signs.length)∧ns.length≤20
 stn:d.starts.Nodup∧d.starts≠[]∧(∀ x∈d.starts,0≤x∧x<d.signs.length)∧d.starts.length≤20
 fn:d.fair.Nodup∧(∀ x∈d.fair,Zw x=true)∧d.fair.length≤3
theorem zN {α β:Type}{f:α→β} (hf:∀ a b,f a=f b→a=b) {l:List α} (h:l.Nodup):(l.map f).Nodup:=by
 unfold List.Nodup at *
 rw [List.pairwise_map]
 exact h.imp fun q e=>q (hf _ _ e)
theorem str_inj (a b:Str) (h:V.str a=V.str b):a=b:=V.str.inj h
theorem int_inj (a b:Int) (h:V.int a=V.int b):a=b:=V.int.inj h
theorem qB {z:Str} (h:Zw z=true):z.length≤8:=by
 unfold Zw at h
 simp only [Bool.and_eq_true,decide_eq_true_eq] at h
 exact h.1.2
theorem LS.kd {H:Hp}{v:V}{ss:List Str} (h:LS H v ss) (hl:ss.length≤1000) (hn:∀ x∈ss,Zw x=true):KdL H v:=by
 obtain ⟨a,rfl,e⟩:=h
 refine ⟨.lst e,fun xs q=>?_⟩
 rw [Z2 e] at q
 cases q
 refine ⟨by rw [List.length_map];exact hl,fun y hy=>?_⟩
 obtain ⟨z,hz,rfl⟩:=List.mem_map.mp hy
 exact .str z (Nat.le_trans (qB (hn z hz)) (by decide))
theorem LI.kd {H:Hp}{v:V}{ns:List Int} (h:LI H v ns) (hl:ns.length≤1000):KdL H v:=by
 obtain ⟨a,rfl,e⟩:=h
 refine ⟨.lst e,fun xs q=>?_⟩
 rw [Z2 e] at q
 cases q
 refine ⟨by rw [List.length_map];exact hl,fun y hy=>?_⟩
 obtain ⟨z,hz,rfl⟩:=List.mem_map.mp hy
 exact .int z
theorem LS.names {H:Hp}{v:V}{ss:List Str} (h:LS H v ss) (nd:ss.Nodup) (hn:∀ x∈ss,Zw x=true):Zu H v=true:=by
 obtain ⟨a,rfl,e⟩:=h
 unfold Zu
 rw [Z2 e]
 simp only [Bool.and_eq_true,decide_eq_true_eq]
 refine ⟨List.all_eq_true.mpr fun y hy=>?_,zN str_inj nd⟩
 obtain ⟨z,hz,rfl⟩:=List.mem_map.mp hy
 exact hn z hz
theorem LI.rooms {H:Hp}{v:V}{ns:List Int}{n:Nat} (h:LI H v ns) (nd:ns.Nodup) (ne:ns≠[]) (hn:∀ x∈ns,0≤x∧x<(n:Int)):Yb H n v=true:=by
 obtain ⟨a,rfl,e⟩:=h
 unfold Yb
 rw [Z2 e]
 simp only [Bool.and_eq_true,decide_eq_true_eq]
 refine ⟨⟨List.all_eq_true.mpr fun y hy=>?_,?_⟩,zN int_inj nd⟩
 ·obtain ⟨z,hz,rfl⟩:=List.mem_map.mp hy
  have:=hn z hz
  simp [Ya,this.1,this.2]
 ·cases ns with
  | nil=>exact absurd rfl ne
  | cons y r=>rfl
theorem LL.kd {α:Type}{r:Hp→V→α→Prop}{H:Hp}{v:V}{xs:List α} (h:LL r H v xs) (hl:xs.length≤1000) (q:∀ v x,r H v x→x∈xs→KdL H v):KdLL H v:=by
 obtain ⟨a,vs,rfl,e,l,k⟩:=h
 refine ⟨.lst e,fun ys z=>?_⟩
 rw [Z2 e] at z
 cases z
 refine ⟨by omega,fun y hy=>?_⟩
 obtain ⟨i,hi,rfl⟩:=List.getElem_of_mem hy
 have hx:i<xs.length:=by omega
 exact q _ xs[i] (k i _ _ (List.getElem?_eq_getElem hi) (List.getElem?_eq_getElem hx)) (List.getElem_mem hx)
theorem LL.all {α:Type}{r:Hp→V→α→Prop}{H:Hp}{vs:List V}{xs:List α}{p:V→Bool} (l:vs.length=xs.length) (k:∀ (i:Nat) v x,vs[i]?=some v→xs[i]?=some x→r H v x) (q:∀ v x,r H v x→x∈xs→p v=true):vs.all p=true:=by
 refine List.all_eq_true.mpr fun y hy=>?_
 obtain ⟨i,hi,rfl⟩:=List.getElem_of_mem hy
 have hx:i<xs.length:=by omega
 exact q _ xs[i] (k i _ _ (List.getElem?_eq_getElem hi) (List.getElem?_eq_getElem hx)) (List.getElem_mem hx)
theorem Wv.kd {H:Hp}{s w st f:V}{d:WD} (h:Wv H s w st f d) (g:Good d):KdLL H s∧KdLL H w∧KdL H st∧KdL H f:=by
 refine ⟨h.s.kd (by have:=g.n20;omega) fun v x r m=>?_,h.w.kd (by have:=g.n20;have:=g.wl;omega) fun v x r m=>?_,h.st.kd (by have:=g.stn.2.2.2;omega),h.f.kd (by have:=g.fn.2.2;omega) g.fn.2.1⟩
 ·have:=g.sn x m
  exact r.kd (by omega) this.2.1
 ·have:=g.wn x m
  exact r.kd (by omega)
theorem Wv.makes {H:Hp}{s w st f:V}{d:WD} (h:Wv H s w st f d) (g:Good d):Wx H s w st f=true:=by
 have hst:=h.st.rooms (n:=d.signs.length) g.stn.1 g.stn.2.1 g.stn.2.2.1
 have hf:=h.f.names g.fn.1 g.fn.2.1
 obtain ⟨a,vs,rfl,e,l,k⟩:=h.s
 obtain ⟨b,ws,rfl,e2,l2,k2⟩:=h.w
 obtain ⟨c,rfl,e3⟩:=h.f
 unfold Wx
 rw [Z2 e,Z2 e2,Z2 e3]
 dsimp only
 rw [l]
 have h1:vs.all (Zu H)=true:=LL.all l k fun v x r m=>r.names (g.sn x m).1 (g.sn x m).2.1
 have h2:ws.all (Yb H d.signs.length)=true:=LL.all l2 k2 fun v x r m=>r.rooms (g.wn x m).1 (g.wn x m).2.1 (g.wn x m).2.2.1
 have:=g.n1
 have:=g.n20
 have:=g.wl
 have:=g.fn.2.2
 simp only [few3,Bool.and_eq_true,decide_eq_true_eq,List.length_map]
 refine ⟨⟨⟨⟨⟨by omega,by omega⟩,by omega⟩,h1⟩,h2⟩,hst,hf,by omega⟩
def wfs (t1 t2 t3 t4:V):List (Str × V):=[("room_signs",t1),("room_ways",t2),("start_rooms",t3),("fair_names",t4)]
theorem n12:¬ (("room_signs" : Str) = "room_ways"):=by decide +kernel
theorem n13:¬ (("room_signs" : Str) = "start_rooms"):=by decide +kernel
theorem n14:¬ (("room_signs" : Str) = "fair_names"):=by decide +kernel
theorem n23:¬ (("room_ways" : Str) = "start_rooms"):=by decide +kernel
theorem n24:¬ (("room_ways" : Str) = "fair_names"):=by decide +kernel
theorem n34:¬ (("start_rooms" : Str) = "fair_names"):=by decide +kernel
theorem put1 (t1:V):YD "room_signs" t1 []=([("room_signs",t1)]:List (Str × V)):=rfl
theorem put2 (t1 t2:V):YD "room_ways" t2 ([("room_signs",t1)]:List (Str × V))=([("room_signs",t1),("room_ways",t2)]:List (Str × V)):=by simp only [YD,if_neg n12]
theorem put3 (t1 t2 t3:V):YD "start_rooms" t3 ([("room_signs",t1),("room_ways",t2)]:List (Str × V))=([("room_signs",t1),("room_ways",t2),("start_rooms",t3)]:List (Str × V)):=by simp only [YD,if_neg n13,if_neg n23]
theorem put4 (t1 t2 t3 t4:V):YD "fair_names" t4 ([("room_signs",t1),("room_ways",t2),("start_rooms",t3)]:List (Str × V))=wfs t1 t2 t3 t4:=by simp only [YD,if_neg n14,if_neg n24,if_neg n34,wfs]
structure Y6 (C:Addr) (H:Hp) (p:Addr) (d:WD):Prop where
 ex:∃ dx t1 t2 t3 t4,H p=some (.ins C dx (wfs t1 t2 t3 t4))∧LT TS H t1 (d.signs.map X0)∧LT TIn H t2 (d.ways.map YX)∧TIn H t3 (YX d.starts)∧TS H t4 d.fair
theorem Y6.mono {C:Addr}{H H':Hp}{p:Addr}{d:WD} (s:Zj H H') (h:Y6 C H p d):Y6 C H' p d:=by
 obtain ⟨dx,t1,t2,t3,t4,e,h1,h2,h3,h4⟩:=h.ex
 exact ⟨dx,t1,t2,t3,t4,s _ _ e,LT.mono TS.mono _ _ _ _ s h1,LT.mono TIn.mono _ _ _ _ s h2,TIn.mono _ _ _ _ s h3,TS.mono _ _ _ _ s h4⟩
theorem WI {a b:Str} (h:¬ a=b):(a == b)=false:=by simpa using h
theorem vG (t1 t2 t3 t4:V):(wfs t1 t2 t3 t4).lookup ("room_signs" : Str)=some t1:=by simp [wfs,List.lookup_cons]
theorem lk_ways (t1 t2 t3 t4:V):(wfs t1 t2 t3 t4).lookup ("room_ways" : Str)=some t2:=by simp [wfs,List.lookup_cons,WI (fun e=>n12 e.symm)]
theorem lk_starts (t1 t2 t3 t4:V):(wfs t1 t2 t3 t4).lookup ("start_rooms" : Str)=some t3:=by simp [wfs,List.lookup_cons,WI (fun e=>n13 e.symm),WI (fun e=>n23 e.symm)]
theorem lk_fair (t1 t2 t3 t4:V):(wfs t1 t2 t3 t4).lookup ("fair_names" : Str)=some t4:=by simp [wfs,List.lookup_cons,WI (fun e=>n14 e.symm),WI (fun e=>n24 e.symm),WI (fun e=>n34 e.symm)]
theorem lk_no (t1 t2 t3 t4:V) {m:Str} (h1:¬ m = "room_signs") (h2:¬ m = "room_ways") (h3:¬ m = "start_rooms") (h4:¬ m = "fair_names"):(wfs t1 t2 t3 t4).lookup m=none:=by simp [wfs,List.lookup_cons,WI h1,WI h2,WI h3,WI h4]
theorem New.hidden {H H':Hp}{p:Addr}{o:HO} (h:H p=some o):Zj (New H H') (hide p H'):=fun b u e=>
 let ⟨h1,h2⟩:=New.of e
 Yt (fun z=>by subst z;rw [h] at h1;cases h1) h2
theorem LS.hid {H:Hp}{p C dx:Addr}{fs:List (Str × V)}{v:V}{ss:List Str} (hp:H p=some (.ins C dx fs)) (h:LS H v ss):LS (hide p H) v ss:=by
 obtain ⟨a,rfl,e⟩:=h
 exact ⟨a,rfl,Yt (qX e hp (by intro z;cases z)) e⟩
theorem LI.hid {H:Hp}{p C dx:Addr}{fs:List (Str × V)}{v:V}{ss:List Int} (hp:H p=some (.ins C dx fs)) (h:LI H v ss):LI (hide p H) v ss:=by
 obtain ⟨a,rfl,e⟩:=h
 exact ⟨a,rfl,Yt (qX e hp (by intro z;cases z)) e⟩
theorem LL.hid {α:Type}{r:Hp→V→α→Prop}{H:Hp}{p C dx:Addr}{fs:List (Str × V)}{v:V}{xs:List α} (hp:H p=some (.ins C dx fs)) (m:∀ v x,r H v x→r (hide p H) v x) (h:LL r H v xs):LL r (hide p H) v xs:=by
 obtain ⟨a,vs,rfl,e,l,q⟩:=h
 exact ⟨a,vs,rfl,Yt (qX e hp (by intro z;cases z)) e,l,fun i v x h1 h2=>m _ _ (q i v x h1 h2)⟩
theorem Wv.hid {H:Hp}{p C dx:Addr}{fs:List (Str × V)}{s w st f:V}{d:WD} (hp:H p=some (.ins C dx fs)) (h:Wv H s w st f d):Wv (hide p H) s w st f d:=
 ⟨h.s.hid hp fun _ _ r=>r.hid hp,h.w.hid hp fun _ _ r=>r.hid hp,h.st.hid hp,h.f.hid hp⟩
theorem UB {α β:Type}{r:Hp→V→β→Prop}{H:Hp}{f:α→β}{a:Addr}{ys:List V}{xs:List α} (h:H a=some (.tup ys)) (l:ys.length=xs.length) (q:∀ (i:Nat) v,ys[i]?=some v→∀ x,xs[i]?=some x→r H v (f x)):LT r H (.ref a) (xs.map f):=by
 refine ⟨a,ys,rfl,h,by rw [List.length_map,l],fun i v x h1 h2=>?_⟩
 rw [List.getElem?_map] at h2
 cases e:xs[i]? with
 | none=>rw [e] at h2;cases h2
 | some y=>
  rw [e] at h2
  cases h2
  exact q i v h1 y e
def dI (ns:List Int):PyData:=.list (ns.map PyData.int)
def dS (ss:List Str):PyData:=.list (ss.map PyData.str)
def Fine (n:Nat) (d:PyData):Prop:=d.canLay0=true∧d.depth≤n
theorem fineAll {α:Type}{f:α→PyData}{n:Nat}{xs:List α} (h:∀ x∈xs,Fine n (f x)):PyData.canLayAll0 (xs.map f)=true∧PyData.depthAll (xs.map f)≤n:=by
 induction xs with
 | nil=>exact ⟨by simp [PyData.canLayAll0],by simp [PyData.depthAll]⟩
 | cons x r ih=>
  obtain ⟨a,b⟩:=ih fun y hy=>h y (List.mem_cons_of_mem _ hy)
  obtain ⟨c,d⟩:=h x List.mem_cons_self
  rw [List.map_cons]
  exact ⟨by rw [PyData.canLayAll0,c,a];rfl,by rw [PyData.depthAll];exact Nat.max_le.mpr ⟨d,b⟩⟩
theorem fineL {α:Type}{f:α→PyData}{n:Nat}{xs:List α} (h:∀ x∈xs,Fine n (f x)):Fine (n+1) (.list (xs.map f)):=by
 obtain ⟨a,b⟩:=fineAll h
 exact ⟨by rw [PyData.canLay0];exact a,by rw [PyData.depth];omega⟩
theorem fineI (ns:List Int):Fine 1 (dI ns):=fineL fun x _=>⟨by simp [PyData.canLay0],by simp [PyData.depth]⟩
theorem jA {z:Str} (h:Zw z=true):PyData.strOk z=true:=by
 unfold Zw at h
 rw [Bool.and_eq_true] at h
 have h2:=List.all_eq_true.mp h.2
 unfold PyData.strOk
 rw [Array.all_eq_true_iff_forall_mem]
 intro x hx
 have:=h2 x (Array.mem_toList_iff.mpr hx)
 unfold US at this
 have:=of_decide_eq_true this
 exact decide_eq_true (by omega)
theorem zQ {ss:List Str} (h:∀ x∈ss,Zw x=true):Fine 1 (dS ss):=fineL fun x hx=>⟨by simp [PyData.canLay0,jA (h x hx)],by simp [PyData.depth]⟩
section
variable {K:PySem.W.Frag}{H:Hp}
theorem Ur {α:Type}{g:α→V}{f:α→PyData} (h:∀ x,Dp K H (g x) (f x)):∀ xs:List α,Vb K H (xs.map g) (xs.map f)
 | []=>.nil
 | x :: r=>.cons (h x) (Ur h r)
theorem LI.dp {v:V}{ns:List Int} (h:LI H v ns):Dp K H v (dI ns):=by
 obtain ⟨a,rfl,e⟩:=h
 exact .lst (SqL.of e) (Ur (fun x=>.int x) ns)
theorem LS.dp {v:V}{ss:List Str} (h:LS H v ss):Dp K H v (dS ss):=by
 obtain ⟨a,rfl,e⟩:=h
 exact .lst (SqL.of e) (Ur (fun x=>.str x) ss)
end
theorem xQ {n:Nat}{d:PyData} (h:Fine n d):PyData.eqv d d=true:=SeqAt.eqv_refl d h.1
theorem eqD_yes {K:PySem.W.Frag}{H:Hp}{x y:V}{d:PyData}{n:Nat}{Q:VK} (f:Fine n d) (hn:n≤60) (h1:Dp K H x d) (h2:Dp K H y d) (q:Q (.bl true) H):rEqD K false x y H Q:=
 ⟨d,d,h1,h2,f.1,f.1,Nat.le_trans f.2 hn,by rw [xQ f];exact q⟩
theorem Uy {K:PySem.W.Frag}{H:Hp}{x y:V}{d:PyData}{n:Nat}{Q:VK} (f:Fine n d) (hn:n≤60) (h1:Dp K H x d) (h2:Dp K H y d) (q:Q (.bl false) H):rEqD K true x y H Q:=
 ⟨d,d,h1,h2,f.1,f.1,Nat.le_trans f.2 hn,by rw [xQ f];exact q⟩
theorem name_of {z:Str} (h1:1≤z.length) (h2:z.length≤8) (h:z.cps.toList.all US=true):Zw z=true:=by
 unfold Zw
 simp [h1,h2,h]
theorem inV_str {z:Str}{ss:List Str}:inV (.str z) (ss.map V.str)=true↔z∈ss:=by
 unfold inV
 rw [List.any_map,List.any_eq_true]
 constructor
 ·rintro ⟨y,hy,e⟩
  have e':(y == z)=true:=e
  rw [beq_iff_eq] at e'
  exact e' ▸ hy
 ·intro hz
  exact ⟨z,hz,by show (z == z)=true;simp⟩
theorem xo {ts:List V} (n:Int) (h:ts≠[]):(0:Int)<ts.length∧∃ v,atI ts (n % (ts.length:Int))=some v∧v∈ts:=by
 have hl:=List.length_pos_iff.mpr h
 have hp:(0:Int)<ts.length:=by omega
 refine ⟨hp,?_⟩
 have h0:=Int.emod_nonneg n (Int.ne_of_gt hp)
 have h1:=Int.emod_lt_of_pos n hp
 obtain ⟨j,e⟩:=Int.eq_ofNat_of_zero_le h0
 rw [e] at h1 ⊢
 have hj:j<ts.length:=by omega
 exact ⟨_,Xx (List.getElem?_eq_getElem hj),List.getElem_mem hj⟩
theorem take_push {α:Type}{ys ts:List α}{i:Nat}{v:α} (h:ys.Sublist (ts.take i)) (e:ts[i]?=some v):(ys++[v]).Sublist (ts.take (i+1)):=by
 rw [List.take_add_one,e]
 exact h.append (List.Sublist.refl _)
theorem take_keep {α:Type}{ys ts:List α}{i:Nat} (h:ys.Sublist (ts.take i)):ys.Sublist (ts.take (i+1)):=by
 rw [List.take_add_one]
 exact h.trans (List.sublist_append_left _ _)
end L3
namespace L3
end L3
namespace L3
open PySem PySem.Spec L2
theorem vL {α β:Type}{f:α→β}{l:List α} (h:(l.map f).Nodup):l.Nodup:=by
 unfold List.Nodup at *
 rw [List.pairwise_map] at h
 exact h.imp fun q e=>q (congrArg f e)
theorem Y6.at {C:Addr}{H:Hp}{p:Addr}{d:WD} (h:Y6 C H p d) {m:Str} (h1:¬ m = "room_signs") (h2:¬ m = "room_ways") (h3:¬ m = "start_rooms") (h4:¬ m = "fair_names"):∃ dx fs,H p=some (.ins C dx fs)∧fs.lookup m=none:=by
 obtain ⟨dx,t1,t2,t3,t4,e,_⟩:=h.ex
 exact ⟨dx,_,e,lk_no _ _ _ _ h1 h2 h3 h4⟩
theorem at_many {C:Addr}{H:Hp}{p:Addr}{d:WD} (h:Y6 C H p d):∃ dx fs,H p=some (.ins C dx fs)∧fs.lookup ("many" : Str)=none:=h.at (by decide +kernel) (by decide +kernel) (by decide +kernel) (by decide +kernel)
theorem vD {C:Addr}{H:Hp}{p:Addr}{d:WD} (h:Y6 C H p d):∃ dx fs,H p=some (.ins C dx fs)∧fs.lookup ("signs_of" : Str)=none:=h.at (by decide +kernel) (by decide +kernel) (by decide +kernel) (by decide +kernel)
theorem v6 {C:Addr}{H:Hp}{p:Addr}{d:WD} (h:Y6 C H p d):∃ dx fs,H p=some (.ins C dx fs)∧fs.lookup ("ways_on" : Str)=none:=h.at (by decide +kernel) (by decide +kernel) (by decide +kernel) (by decide +kernel)
theorem at_begins {C:Addr}{H:Hp}{p:Addr}{d:WD} (h:Y6 C H p d):∃ dx fs,H p=some (.ins C dx fs)∧fs.lookup ("begins" : Str)=none:=h.at (by decide +kernel) (by decide +kernel) (by decide +kernel) (by decide +kernel)
theorem WG {C:Addr}{H:Hp}{p:Addr}{d:WD} (h:Y6 C H p d):∃ dx fs,H p=some (.ins C dx fs)∧fs.lookup ("fair_signs" : Str)=none:=h.at (by decide +kernel) (by decide +kernel) (by decide +kernel) (by decide +kernel)
end L3
namespace L3
open PySem PySem.Spec PyProof.Rows L2
section
variable {X:Cx}{pins:List (Addr × Obj)}{σ:St}{H:Hp}{s:Shared}{h':Heap}
theorem Inv.turnedM {ch:List Addr}{t':Nat} (I:L2.Inv X pins σ H s) (k:∀ b u,b∉ch→s.heap.get? b=some u→h'.get? b=some u) (hf:∀ b∈ch,Ve X pins H b):L2.Inv X pins σ H { s with heap:=h',toks:=t' }:=by
 have nch:∀ c v,H c=some v→c∉ch:=fun c v q z=>by rw [(hf c z).1] at q;cases q
 refine I.step (g':=s.gens) (d':=s.drawn) (ch:=ch) (fun b hb=>?_) (fun b u _ _ hc e _=>k b u hc e) (fun b u _ _ hc e _=>⟨u.slots,k b u hc e⟩) (fun _ _ _ _ n=>n)
  (fun b u hc e=>⟨u,k b u hc e⟩) (fun _ _ e=>e) (fun _ _ _ e=>e) (fun b ps e=>⟨#[],by rw [e];simp⟩) (fun m hm=>?_) (fun b u e=>?_) I.bare
 ·obtain ⟨f0,f1,f2,f3,f4,f5⟩:=hf b hb
  exact ⟨f3,f1,f4,f5⟩
 ·obtain ⟨ob,es,ep,ho,r⟩:=hm
  exact ⟨ob,es,ep,k _ ob (fun z=>(hf _ z).2.1 rfl) ho,r⟩
 ·refine (I.hok b u e).stay (fun c v hc q=>k c v ?_ q) (fun _ q=>q) fun _ _ q=>q
  rcases hc with rfl | hc
  ·exact nch _ _ e
  ·exact nch _ _ hc
end
theorem neA {a b:Nat} (h:a<b∨b<a):(a:Addr)≠b:=fun e=>by subst e;omega
theorem apart_of (I l1 l2:Nat) (h1:l1<I) (h2:l2<I):ZipApart (I+4) (I+2) (I+3) I (I+1) l1 l2:=by
 constructor <;> (refine neA ?_;omega)
section
variable {X:Cx}
end
section
variable {X:Cx}
theorem ZE.take {xs:List V}{us:List Value} (h:ZE xs us) (k:Nat):ZE (xs.take k) (us.take k):=by
 induction k generalizing xs us with
 | zero=>exact .nil
 | succ k ih=>
  cases h with
  | nil=>exact .nil
  | cons r t=>exact .cons r (ih t)
theorem ZE.drop {xs:List V}{us:List Value} (h:ZE xs us) (k:Nat):ZE (xs.drop k) (us.drop k):=by
 induction k generalizing xs us with
 | zero=>exact h
 | succ k ih=>
  cases h with
  | nil=>exact .nil
  | cons r t=>exact ih t
theorem Inv.big {pins:List (Addr × Obj)}{σ:St}{H:Hp}{s:Shared} (I:L2.Inv X pins σ H s):sysModules<s.heap.objs.size:=by
 have h:mainGlobals<s.heap.objs.size:=(I.mod.glob.keeps I.bk).lt
 exact Nat.lt_trans (by decide) h
theorem xU {P:Program}{w:World}{H:Hp} (h:Heap) (hb:sysModules<h.objs.size):YB P w H (h.push { cls:=.type "dict",data:=.dict #[] }) h.objs.size (.dK []):=
 ⟨Nat.zero_le _,beq_eq_false_iff_ne.mpr (Ne.symm (Nat.ne_of_lt hb)),[],.nil,Heap.DictOf.new h⟩
end
section
variable {prog:Program}{w:World}{A:Around}{E:Value→Shared→Prop}{s:Shared}
end
section
variable {X:Cx}
end
section
variable {prog:Program}{w:World}{A:Around}{R:Result→Shared→Prop}{I:Addr}{fp wr:List Addr}{n:Nat}{P:Nat→Value→Prop}{St:Nat→Heap→Prop}
end
section
variable {X:Cx}
end
end L3
namespace L3
open PySem PySem.Spec L2
section
variable {X:Cx}{K:PySem.W.Frag}
theorem pt_truthK {a:Expr}{ta:TE} (hK:X.K=K) (ha:PE X a ta) (he:∀ whole,isTrue a X.env whole=(do let v ← whole;standAt a.pos;holding [v] (truthy v))) :
  PT X a (fun σ H Q=>ta σ H fun x H'=>∃ k,TruV K x H' k∧Q k H'):=by subst hK;exact pt_truth ha he
end
theorem YY {J:It}{n:Nat}{g:TG}{tb:L2.TS}{D:Ends}{σ:St}{H:Hp} (Pv:Nat→St→Hp→Prop) (h0:Pv 0 σ H) (hgo:∀ i σ H,i<n→Pv i σ H→J.go i H) (hst:∀ σ H,Pv n σ H→J.stop n H)
  (hs:∀ i x σ H H2,i<n→Pv i σ H→J.yld i H x H2→g x σ H2 fun σ2 H3=>tb { D with nx:=Pv (i+1),ct:=Pv (i+1),bk:=D.nx } σ2 H3) (hd:∀ σ H,Pv n σ H→D.nx σ H) :
  ∃ W:Nat→Nat→St→Hp→Prop,(∃ m,W 0 m σ H)∧∀ i m σ H,W i m σ H →
   (J.stop i H∧D.nx σ H)∨(J.go i H∧∃ N:St→Hp→Prop,(∀ σ' H',N σ' H'→∃ m',m'<m∧W (i+1) m' σ' H')∧∀ x H',J.yld i H x H'→g x σ H' fun σ2 H2=>tb { D with nx:=N,ct:=N,bk:=D.nx } σ2 H2):=by
 refine ⟨fun i m σ H=>m=n - i∧i≤n∧Pv i σ H,⟨n,by simp,Nat.zero_le _,h0⟩,?_⟩
 rintro i m σ H ⟨rfl,hi,p⟩
 by_cases hlt:i<n
 ·exact .inr ⟨hgo i σ H hlt p,Pv (i+1),fun σ' H' p'=>⟨n - (i+1),by omega,rfl,hlt,p'⟩,fun x H' y=>hs i x σ H H' hlt p y⟩
 ·have e:i=n:=by omega
  subst e
  exact .inl ⟨hst σ H p,hd σ H p⟩
theorem V6 {z:Str}{ss:List Str}:inV (.str z) (ss.map V.str)=decide (z∈ss):=by
 rw [Bool.eq_iff_iff,decide_eq_true_iff]
 exact inV_str
theorem at_of {xs:List Int}{i:Nat} (h:i<xs.length):(xs.map V.int)[i]?=some (.int (xs.getD i 0)):=by
 simp [List.getD,h]
theorem cutV_to (xs:List V) (k:Nat) (h:k≤xs.length):cutV xs none (some (k:Int))=xs.take k:=by
 unfold cutV
 rw [HT.sIx_nat,HT.sIx_none,Nat.min_eq_left h]
 simp
theorem any_id {α:Type} (f:α→Bool) (xs:List α):(xs.map f).any id=xs.any f:=by
 rw [List.any_map];rfl
theorem WP {X:Cx}{st:Stmt}{Xc:List Stmt}{t u:L2.TS} (h1:PS X st t) (h2:PSs X Xc u):PSs X (st :: Xc) (fun D σ H=>∃ J:St→Hp→Prop,t { D with nx:=J } σ H∧∀ σ' H',J σ' H'→u D σ' H'):=by
 intro pins s σ H D I h
 obtain ⟨J,h,hj⟩:=h
 refine wpAny_execs_cons (thn (h1 pins s σ H { D with nx:=J } I h) fun f s1 q=>?_)
 cases f with
 | next=>
  obtain ⟨σ',H',I',q⟩:=q
  exact h2 pins s1 σ' H' D I' (hj _ _ q)
 | ret v=>exact q
 | brk=>exact q
 | cont=>exact q
theorem eqD_nilS {K:PySem.W.Frag}{H:Hp}{a b:Addr}{ss:List Str}{Q:VK} (hn:∀ x∈ss,Zw x=true) (h1:H a=some (.lst (ss.map V.str))) (h2:H b=some (.lst [])) (q:∀ c:Bool,(c=true↔ss=[])→Q (.bl c) H):rEqD K false (.ref a) (.ref b) H Q:=by
 refine ⟨dS ss,.list [],LS.dp ⟨a,rfl,h1⟩,.lst (SqL.of h2) .nil,(zQ hn).1,by simp [PyData.canLay0,PyData.canLayAll0],Nat.le_trans (zQ hn).2 (by decide),?_⟩
 refine q _ ?_
 cases ss with
 | nil=>simp [dS,PyData.eqv,PyData.eqvAll]
 | cons x r=>simp [dS,PyData.eqv,PyData.eqvAll]
end L3
namespace L3
open PySem PySem.Spec PyProof.Rows L2
section
variable {X:Cx}
end
section
variable {prog:Program}{w:World}{A:Around}{E:Value→Shared→Prop}{s:Shared}
end
section
variable {X:Cx}
inductive rIsC_R (K:PySem.W.Frag) (C:Addr) (xs:List V) (H:Hp) (Q:VK):Prop
 | mk (p:_) (h0:xs=[.ref p,.ref C]) (h1:Vl K H (.ref p) (.ref C)) (h2:PySem.W.kitOne K (.ref C) (.ref C)=some true) (h3:Q (.bl true) H):rIsC_R K C xs H Q
def rIsC (K:PySem.W.Frag) (C:Addr):List V→Hp→VK→Prop:=fun xs H Q=>rIsC_R K C xs H Q
theorem vg {K:PySem.W.Frag} (hK:X.K=K) (C:Addr):Ys X (.builtin "isinstance") (rIsC K C):=by
 subst hK
 intro pins s σ H xs us Q I r h
 obtain ⟨p,rfl,hp,hk,q⟩:=h
 obtain ⟨u,v,rfl,ru,rv⟩:=UW r
 obtain rfl:v=Value.ref C:=rv
 exact ye I ru hp hk fun tk=>⟨.bl true,H,I.tok _,rfl,q⟩
end
section
variable {prog:Program}{w:World}{A:Around}{E:Value→Shared→Prop}{s:Shared}
end
section
variable {X:Cx}
end
def free (c:Nat) (z:Str):Prop:=c∉z.cps.toList
theorem heads:(free 32 "room" ∧ free 10 "room")∧(free 32 "ways" ∧ free 10 "ways")∧(free 32 "starts" ∧ free 10 "starts")∧(free 32 "fair" ∧ free 10 "fair"):=by
 unfold free
 decide +kernel
def dT (d:WD):PyData:=.list (d.signs.map dS++d.ways.map dI++[dI d.starts,dS d.fair])
def upI (ns:List Int):Prop:=ns.Pairwise (· < ·)
def upS (ss:List Str):Prop:=ss.Pairwise fun a b=>a.cps.toList<b.cps.toList
structure Writ (d:WD):Prop where
 gd:Good d
 rm:∀ n:Int,n<d.signs.length→n<20∨d.signs.length≤20
section
variable {X:Cx}{K:PySem.W.Frag}
theorem PE.bmK {e:Expr}{T:String}{r:V→List V→Hp→VK→Prop}{to:TE}{t:TA} (hK:X.K=K) (h:PE X e (tBM X.K T r to t)):PE X e (tBM K T r to t):=by subst hK;exact h
end
def headsL (n:Nat):List Str:=List.replicate n ("room" : Str)++List.replicate n ("ways" : Str)++(["starts", "fair"]:List Str)
def TrV (h base:Heap) (e:Addr) (cls fl:Value):Prop:=
 ∃ oe vs T oT ts a0,h.get? e=some oe∧oe.cls=cls∧oe.data=.fields vs∧vs[0]?=some a0∧vs[2]?=some .none∧vs[1]?=some (.ref T)∧base.get? T=none∧T≠e∧h.get? T=some oT∧oT.data=.fields ts∧ts[3]?=some fl
def FlV (base:Heap) (l:List Env) (e:Addr) (cls fl:Value) (h:Heap):Prop:=base.StaysIn h∧base.get? e=none∧h.FunFrames base l∧TrV h base e cls fl
section
variable {M:Model}{A:Around}{E:Value→Shared→Prop}{s:Shared}{base:Heap}{env:Env}{outer:List Env}{L e:Addr}{cls fl:Value}{Q:Unit→Shared→Prop}
theorem entryV {oe:Obj}{vs:Array Value}{head a0:Value}{hadNext:Bool} (hfr:A.frames=some (env :: outer)) (hl:s.heap.FunFrames base (env :: outer)) (hf:env.frame=some L)
  (he:s.heap.get? e=some oe) (hkb:base.StaysIn s.heap) (hen:base.get? e=none) (hd:oe.data=.fields vs) (hsz:1<vs.size) (h0:vs[0]?=some a0) (h2:vs[2]?=some .none)
  (h:∀ h',FlV base (env :: outer) e oe.cls (rawInt L) h'→s.heap.UpToSlots h'→Q () { s with heap:=h' }) :
  wpAny M A (do let a ← frameOf env;let pl ← entryPlaceOf L hadNext;let b ← EntryCells.newEntry head a .none (rawInt L) .none pl;setField (.ref e) 1 b) Q E s:=by
 have out:e∉(env :: outer).filterMap (·.frame):=fun hm=>by
  obtain ⟨_,o,ho,hnf⟩:=hl.mem hm
  rw [he] at ho
  cases ho
  exact hnf vs hd
 refine wpAny_bind (wpAny_frameOf_fun hfr hl hf fun h₁ hs₁=>wpAny_bind (wpAny_entryPlaceOf fun pl hpl=>?_))
 unfold EntryCells.newEntry newFields
 refine wpAny_bind (wpAny_newObj_type ?_ (hpl.sizeOk5 _ _ _ _ _))
 have he₁:h₁.get? e=some oe:=(hs₁.2.1 e out).trans he
 have kb:base.StaysIn h₁:=fun b o q=>(hs₁.2.1 b fun hm=>by rw [(hl.mem hm).1] at q;cases q).trans (hkb b o q)
 generalize hob:({ cls:=.type "traceback",dict:=none,data:=.fields ([head,.ref L,.none,rawInt L,.none]++(if pl.isEmpty then List.replicate 6 Value.none else pl)).toArray }:Obj)=ob
 have he₂:=Heap.get?_push_of_some (h:=h₁) ob he₁
 have hnew:(h₁.push ob).get? h₁.objs.size=some ob:=Heap.get?_push_size h₁ (by rw [← hob];rfl)
 refine wpAny_setField he₂ hd hsz ?_
 have hTe:h₁.objs.size≠e:=Nat.ne_of_gt (Heap.lt_size he₁)
 have hd₃:=Obj.data_mapFields hd (·.setIfInBounds 1 (Value.ref h₁.objs.size))
 have he₃:=Heap.get?_update_self (Obj.mapFields (·.setIfInBounds 1 (Value.ref h₁.objs.size))) he₂ (Obj.isFreed_of_fields hd₃)
 have hT₃:=(Heap.get?_update_other (h₁.push ob) (Obj.mapFields (·.setIfInBounds 1 (Value.ref h₁.objs.size))) (Ne.symm hTe)).trans hnew
 have stay:∀ b o,b≠e→h₁.get? b=some o→((h₁.push ob).update e (Obj.mapFields (·.setIfInBounds 1 (Value.ref h₁.objs.size)))).get? b=some o:=fun b o hbe q=>by
  rw [Heap.get?_update_other _ _ (Ne.symm hbe)]
  exact Heap.get?_push_of_some _ q
 have plain:∀ b o,s.heap.get? b=some o→(∀ vs,o.data≠.fields vs)→b≠e:=fun b o q hnf z=>by
  rw [z,he] at q
  cases q
  exact hnf vs hd
 refine h _ ⟨fun b o q=>stay b o (fun z=>by rw [z,hen] at q;cases q) (kb b o q),hen,hl.of_keeps fun b o q hnf=>?_,?_⟩ fun b o q hnf=>?_
 ·obtain ⟨sl,hs⟩:=hs₁.2.2 b o q
  exact ⟨_,stay b _ (plain b o q hnf) hs,rfl⟩
 ·refine ⟨_,_,h₁.objs.size,ob,([head,.ref L,.none,rawInt L,.none]++(if pl.isEmpty then List.replicate 6 Value.none else pl)).toArray,a0,he₃,Obj.cls_mapFields _ _,hd₃,?_,?_,by simp [hsz],kb.fresh,hTe,hT₃,by rw [← hob],?_⟩
  ·rw [Array.getElem?_setIfInBounds_ne (by decide)];exact h0
  ·rw [Array.getElem?_setIfInBounds_ne (by decide)];exact h2
  ·simp
 ·obtain ⟨sl,hs⟩:=hs₁.2.2 b o q
  exact ⟨sl,stay b _ (plain b o q hnf) hs⟩
theorem vz {oe:Obj}{vs:Array Value}{a0:Value} (hfr:A.frames=some (env :: outer)) (hl:s.heap.FunFrames base (env :: outer)) (hf:env.frame=some L)
  (he:s.heap.get? e=some oe) (hkb:base.StaysIn s.heap) (hen:base.get? e=none) (hd:oe.data=.fields vs) (h0:vs[0]?=some a0) (h1:vs[1]?=some .none) (h2:vs[2]?=some .none)
  (h:∀ h',FlV base (env :: outer) e oe.cls (rawInt L) h'→s.heap.UpToSlots h'→Q () { s with heap:=h' }):wpAny M A (noteFrame (.ref e) env) Q E s:=by
 unfold noteFrame
 simp only [hf]
 refine wpAny_bind (wpAny_field he hd h1 ?_)
 rw [if_neg (by decide)]
 exact entryV hfr hl hf he hkb hen hd (Array.getElem?_eq_some_iff.mp h1).1 h0 h2 h
theorem xP (hfr:A.frames=some (env :: outer)) (hf:env.frame=some L) (x:FlV base (env :: outer) e cls .none s.heap)
  (h:∀ h',FlV base (env :: outer) e cls (rawInt L) h'→s.heap.UpToSlots h'→Q () { s with heap:=h' }):wpAny M A (noteFrame (.ref e) env) Q E s:=by
 obtain ⟨hkb,hen,hl,oe,vs,T,oT,ts,a0,he,hc,hd,h0,h2,h1,hnT,hTe,hT,hdT,h3⟩:=x
 subst hc
 unfold noteFrame
 simp only [hf]
 refine wpAny_bind (wpAny_field he hd h1 ?_)
 rw [if_pos (show (Value.ref T != Value.none)=true from by simp)]
 refine wpAny_bind (wpAny_field hT hdT h3 ?_)
 rw [if_neg (show ¬ ((Value.none == rawInt L)=true) from by simp [rawInt])]
 refine wpAny_bind (wpAny_setField hT hdT (Array.getElem?_eq_some_iff.mp h3).1 ?_)
 have other:∀ b,b≠T→(s.heap.update T (Obj.mapFields (·.setIfInBounds 3 Value.none))).get? b=s.heap.get? b:=fun b hb=>Heap.get?_update_other _ _ (Ne.symm hb)
 have plain:∀ b o,s.heap.get? b=some o→(∀ vs,o.data≠.fields vs)→b≠T:=fun b o q hnf z=>by
  rw [z,hT] at q
  cases q
  exact hnf ts hdT
 refine entryV hfr (hl.of_keeps fun b o q hnf=>⟨o,(other b (plain b o q hnf)).trans q,rfl⟩) hf ((other e (Ne.symm hTe)).trans he)
  (fun b o q=>(other b fun z=>by rw [z,hnT] at q;cases q).trans (hkb b o q)) hen hd (Array.getElem?_eq_some_iff.mp h1).1 h0 h2
  fun h' x' up=>h h' x' fun b o q hnf=>up b o ((other b (plain b o q hnf)).trans q) hnf
theorem landV {l:List Env} (x:FlV base l e cls fl s.heap) (h:∀ h',FlV base l e cls .none h'→s.heap.UpToSlots h'→Q () { s with heap:=h' }):wpAny M A (setFlight (.ref e) none) Q E s:=by
 obtain ⟨hkb,hen,hl,oe,vs,T,oT,ts,a0,he,hc,hd,h0,h2,h1,hnT,hTe,hT,hdT,h3⟩:=x
 have hsz3:3<ts.size:=(Array.getElem?_eq_some_iff.mp h3).1
 have other:∀ b,b≠T→(s.heap.update T (Obj.mapFields (·.setIfInBounds 3 ((none:Option Addr).elim Value.none fun f=>rawInt f)))).get? b=s.heap.get? b:=fun b hb=>Heap.get?_update_other _ _ (Ne.symm hb)
 have plain:∀ b o,s.heap.get? b=some o→(∀ vs,o.data≠.fields vs)→b≠T:=fun b o q hnf z=>by
  rw [z,hT] at q
  cases q
  exact hnf ts hdT
 unfold setFlight
 refine wpAny_bind (wpAny_field he hd h1 ?_)
 rw [if_pos (show (Value.ref T != Value.none)=true from by simp)]
 refine wpAny_setField hT hdT hsz3 (h _ ⟨fun b o q=>(other b fun z=>by rw [z,hnT] at q;cases q).trans (hkb b o q),hen,
  hl.of_keeps fun b o q hnf=>⟨o,(other b (plain b o q hnf)).trans q,rfl⟩,
  oe,vs,T,_,_,a0,(other e (Ne.symm hTe)).trans he,hc,hd,h0,h2,h1,hnT,hTe,Heap.get?_update_self _ hT (Obj.isFreed_of_fields (Obj.data_mapFields hdT _)),Obj.data_mapFields hdT _,by simp [hsz3]⟩
  fun b o q hnf=>⟨o.slots,(other b (plain b o q hnf)).trans q⟩)
theorem y0 {h:Heap}{args:List Value} (hfr:A.frames=some (env :: outer)) (hf:env.frame=some L) (hkb:base.StaysIn h) (hl:h.FunFrames base (env :: outer)) (hx:Heap.MadeExcOf h s.heap e cls args)
  (hQ:∀ h',FlV base outer e cls .none h'→s.heap.UpToSlots h'→Q () { s with heap:=h' }):wpAny M A (leaving env (.ref e)) Q E s:=by
 obtain ⟨t,he,htn,ht⟩:=hx.there
 have fresh:∀ b,h.get? b=none→base.get? b=none:=fun b hb=>by
  cases q:base.get? b with
  | none=>rfl
  | some o'=>rw [hkb b o' q] at hb;cases hb
 unfold leaving
 refine wpAny_bind (vz (a0:=.ref t) hfr (hl.of_keeps fun b o q _=>⟨o,hx.keeps b o q,rfl⟩) hf he (fun b o q=>hx.keeps b o (hkb b o q)) (fresh e hx.new) rfl rfl rfl rfl fun h' x' up=>?_)
 refine landV (s:={ s with heap:=h' }) x' fun h'' ⟨y1,y2,⟨_,_,y3⟩,y4⟩ up'=>hQ h'' ⟨y1,y2,y3,y4⟩ (up.trans up')
theorem vZ (hfr:A.frames=some (env :: outer)) (hf:env.frame=some L) (x:FlV base (env :: outer) e cls .none s.heap)
  (hQ:∀ h',FlV base outer e cls .none h'→s.heap.UpToSlots h'→Q () { s with heap:=h' }):wpAny M A (leaving env (.ref e)) Q E s:=by
 unfold leaving
 refine wpAny_bind (xP hfr hf x fun h' x' up=>?_)
 refine landV (s:={ s with heap:=h' }) x' fun h'' ⟨y1,y2,⟨_,_,y3⟩,y4⟩ up'=>hQ h'' ⟨y1,y2,y3,y4⟩ (up.trans up')
end
def FlyN (h0:Heap) (H:Hp) (h:Heap) (a C T:Addr):Prop:=
 h0.get? a=none∧h0.get? T=none∧H a=none∧H T=none∧T≠a ∧
 ∃ oe vs oT ts a0,h.get? a=some oe∧oe.cls=.ref C∧oe.data=.fields vs∧vs[0]?=some a0∧vs[1]?=some (.ref T)∧h.get? T=some oT∧oT.data=.fields ts∧ts[3]?=some .none∧vs[2]?=some .none
def CXe (P:Program) (w:World):CXT:=fun outer H s E e s'=>
 ∃ a C T H',e=.ref a∧s'.os=s.os∧AllBare s'.gens∧Un (frs outer) [] H H' s.heap s'.heap∧HOk P w H' s'.heap∧FlyN s.heap H' s'.heap a C T∧E e (some C) H'
theorem qQ {P:Program}{w:World}{H:Hp}{h h':Heap} (x:HOk P w H h) (k:∀ b o,(H b).isSome=true→h.get? b=some o→h'.get? b=some o):HOk P w H h':=fun a o e=>
 (x a o e).stay (fun b u hb q=>k b u (by rcases hb with rfl | hb <;> simp [*]) q) (fun _ q=>q) fun _ _ q=>q
theorem ym {P:Program}{w:World}{H:Hp}{h:Heap}{a:Addr} (x:HOk P w H h) (e:h.get? a=none):H a=none:=by
 cases q:H a with
 | none=>rfl
 | some o=>
  exfalso
  have z:=x a o q
  obtain ⟨o',z'⟩:∃ o',h.get? a=some o':=by
   cases o with
   | lst xs=>obtain ⟨_,_,_,_,e⟩:=z;exact ⟨_,e⟩
   | tup xs=>obtain ⟨_,_,_,_,e,_⟩:=z;exact ⟨_,e⟩
   | dK kvs=>obtain ⟨_,_,_,_,_,_,_,e,_⟩:=z;exact ⟨_,e⟩
   | dT kvs=>obtain ⟨_,_,_,_,_,_,_,e,_⟩:=z;exact ⟨_,e⟩
   | set S n=>obtain ⟨_,_,_,_,e,_⟩:=z;exact ⟨_,e⟩
   | ins C dx fs=>obtain ⟨_,_,_,e,_⟩:=z;exact ⟨_,e⟩
   | own y=>obtain ⟨_,e⟩:=z;exact ⟨_,e⟩
   | xd fs=>obtain ⟨_,⟨_,_,_,e,_⟩,_⟩:=z;exact ⟨_,e⟩
   | rng lo hi=>obtain ⟨_,_,_,e⟩:=z;exact ⟨_,e⟩
   | frz ob u=>obtain ⟨e,_⟩:=z;exact ⟨_,e⟩
   | tbl ps=>exact ⟨_,z⟩
   | met f y=>exact ⟨_,z⟩
   | ext φ=>obtain ⟨_,⟨o,e⟩,_⟩:=z;exact ⟨_,e⟩
  rw [e] at z'
  cases z'
section
variable {P:Program}{w:World}{K:PySem.W.Frag}{mg:Str→Option Value}{base:Heap}{N:List Str}{qual:Str}{scope:Scope}{f:Addr}{cd:Value}{A:Around}{outer:List Env}{s₀:Shared}{H₀:Hp}{E:XK}
theorem yW {l:List Env}{b:Addr}{env:Env} (he:env∈l) (hb:env.frame=some b):b∈frs l:=List.mem_filterMap.mpr ⟨env,he,hb⟩
theorem left_cx {pins:List (Addr × Obj)}{σ:St}{H:Hp}{s:Shared}{a C T B:Addr}{h₂:Heap} (I:Inv (Uc (CXe P w) P w K mg base N qual scope f cd A outer s₀ H₀ E) pins σ H s)
  (n1:s₀.heap.get? a=none) (n2:s₀.heap.get? T=none) (n3:H a=none) (n4:H T=none) (hB1:H B=none) (hB2:s₀.heap.get? B=none)
  (f1:(PySem.W.hideAll s.heap (B :: a :: T :: frs (envOfC qual scope s₀.heap.objs.size f cd :: outer))).StaysIn h₂) (slot:∀ b o,s.heap.get? b=some o→b∈frs (envOfC qual scope s₀.heap.objs.size f cd :: outer)→∃ sl,h₂.get? b=some { o with slots:=sl })
  (f4:TrV h₂ (PySem.W.hideAll s.heap (B :: a :: T :: frs (envOfC qual scope s₀.heap.objs.size f cd :: outer))) a (.ref C) .none) (hE:E (.ref a) (some C) H):CXe P w outer H₀ s₀ E (.ref a) { s with heap:=h₂ }:=by
 have hst:=I.stack
 have hfree:=I.stkFree
 have hok:=I.hok
 have hsub:∀ b∈frs outer,b∈frs (envOfC qual scope s₀.heap.objs.size f cd :: outer):=fun b hb=>by
  obtain ⟨env,he,hf⟩:=List.mem_filterMap.mp hb
  exact List.mem_filterMap.mpr ⟨env,List.mem_cons_of_mem _ he,hf⟩
 have hown:∀ b∈frs (envOfC qual scope s₀.heap.objs.size f cd :: outer),b=s₀.heap.objs.size∨b∈frs outer:=fun b hb=>by
  obtain ⟨env,he,hf⟩:=List.mem_filterMap.mp hb
  rcases List.mem_cons.mp he with rfl | he
  ·exact .inl (Option.some.inj hf).symm
  ·exact .inr (List.mem_filterMap.mpr ⟨env,he,hf⟩)
 have out:∀ {b:Addr},b≠a→b≠T→b≠B→b∉frs (envOfC qual scope s₀.heap.objs.size f cd :: outer)→b∉B :: a :: T :: frs (envOfC qual scope s₀.heap.objs.size f cd :: outer):=fun {b} z1 z2 z4 z3 z=>by
  rcases List.mem_cons.mp z with z | z
  ·exact z4 z
  ·rcases List.mem_cons.mp z with z | z
   ·exact z1 z
   ·rcases List.mem_cons.mp z with z | z
    ·exact z2 z
    ·exact z3 z
 have keep:∀ b o,s.heap.get? b=some o→b≠a→b≠T→b≠B→b∉frs (envOfC qual scope s₀.heap.objs.size f cd :: outer)→h₂.get? b=some o:=fun b o q z1 z2 z4 z3=>f1 b o (PySem.W.hideAll_get _ q (out z1 z2 z4 z3))
 have ne:∀ {c:Addr},s₀.heap.get? c=none→∀ b o,s₀.heap.get? b=some o→b≠c:=fun {c} hc b o q z=>by rw [z,hc] at q;cases q
 have neL:∀ b o,s₀.heap.get? b=some o→b≠s₀.heap.objs.size:=fun b o z=>Nat.ne_of_lt (Heap.lt_size z)
 obtain ⟨oe',vs',T',oT',ts',a0',he',hcls',hd',h0',h2',h1',hnT',hTe',hT',hdT',h3'⟩:=f4
 have far:∀ o,s.heap.get? T'=some o→T'≠a→T'≠T→T'≠B→False:=fun o q z1 z2 z4=>by
  by_cases n:T'∈frs (envOfC qual scope s₀.heap.objs.size f cd :: outer)
  ·obtain ⟨_,o',ho',hdn⟩:=Heap.FunFrames.mem hst n
   rw [q] at ho'
   cases ho'
   obtain ⟨sl,z⟩:=slot T' o q n
   rw [hT'] at z
   cases z
   exact hdn ts' hdT'
  ·rw [PySem.W.hideAll_get _ q (out z1 z2 z4 n)] at hnT'
   cases hnT'
 have e1:s₀.heap.get? T'=none:=by
  cases q:s₀.heap.get? T' with
  | none=>rfl
  | some o=>
   obtain ⟨o',z'⟩:=I.base.there T' o q (fun y=>nomatch y)
   exact (far o' z' (ne n1 _ _ q) (ne n2 _ _ q) (ne hB2 _ _ q)).elim
 have e2:H T'=none:=by
  cases q:H T' with
  | none=>rfl
  | some u=>
   cases z:s.heap.get? T' with
   | none=>rw [ym hok z] at q;cases q
   | some o=>exact (far o z (fun y=>by rw [y,n3] at q;cases q) (fun y=>by rw [y,n4] at q;cases q) (fun y=>by rw [y,hB1] at q;cases q)).elim
 refine ⟨a,C,T',H,rfl,I.os,I.bare,⟨fun b o q n hb hx=>?_,fun b o q n hb hx=>?_,fun b o q n hx=>I.base.free b o q n (fun y=>nomatch y),fun b o q hx=>?_,I.base.tups,I.base.frzs,I.base.tbls⟩,?_,
  ⟨n1,e1,n3,e2,hTe',oe',vs',oT',ts',_,he',hcls',hd',h0',h1',hT',hdT',h3',h2'⟩,hE⟩
 ·exact keep b o (I.base.keep b o q n hb (fun y=>nomatch y)) (ne n1 _ _ q) (ne n2 _ _ q) (ne hB2 _ _ q) fun z=>(hown b z).elim (neL b o q) hb
 ·obtain ⟨sl,q1⟩:=I.base.slot b o q n hb (fun y=>nomatch y)
  obtain ⟨sl2,q2⟩:=slot b _ q1 (hsub b hb)
  exact ⟨sl2,q2⟩
 ·obtain ⟨o',q1⟩:=I.base.there b o q (fun y=>nomatch y)
  by_cases n:b∈frs (envOfC qual scope s₀.heap.objs.size f cd :: outer)
  ·obtain ⟨sl,q2⟩:=slot b o' q1 n
   exact ⟨_,q2⟩
  ·exact ⟨o',keep b o' q1 (ne n1 _ _ q) (ne n2 _ _ q) (ne hB2 _ _ q) n⟩
 ·refine qQ hok fun b o hb q=>keep b o q (fun z=>?_) (fun z=>?_) (fun z=>?_) fun z=>?_
  ·rw [z,n3] at hb;cases hb
  ·rw [z,n4] at hb;cases hb
  ·rw [z,hB1] at hb;cases hb
  ·rw [hfree b z] at hb;cases hb
theorem xT {h:Heap}{l:List Addr}:(PySem.W.hideAll h l).StaysIn h:=fun b o q=>PySem.W.of_hideAll _ q
theorem slot_of {h h1 h2 base:Heap}{l:List Env} (hst:h.FunFrames base l) (k:∀ b o,h.get? b=some o→(∀ vs,o.data≠.fields vs)→∃ sl,h1.get? b=some { o with slots:=sl }) (up:h1.UpToSlots h2) :
  ∀ b o,h.get? b=some o→b∈frs l→∃ sl,h2.get? b=some { o with slots:=sl }:=fun b o q n=>by
 obtain ⟨_,o',ho',hdn⟩:=Heap.FunFrames.mem hst n
 rw [q] at ho'
 cases ho'
 obtain ⟨sl,q1⟩:=k b o q hdn
 obtain ⟨sl2,q2⟩:=up b _ q1 hdn
 exact ⟨sl2,q2⟩
theorem vV {pins:List (Addr × Obj)}{σ:St}{H:Hp}{s:Shared}{h':Heap}{e C:Addr}{vs:List Value} (I:Inv (Uc (CXe P w) P w K mg base N qual scope f cd A outer s₀ H₀ E) pins σ H s)
  (hm:Heap.MadeExcOf s.heap h' e (.ref C) vs) (hE:E (.ref e) (some C) H):(Uc (CXe P w) P w K mg base N qual scope f cd A outer s₀ H₀ E).xe (.ref e) { s with heap:=h' }:=by
 show wpAny (model P w) (A.deeper (envOfC qual scope s₀.heap.objs.size f cd)) (leaving (envOfC qual scope s₀.heap.objs.size f cd) (.ref e)) _ _ _
 have hst:=I.stack
 have ne0:s₀.heap.get? e=none:=by
  cases z:s₀.heap.get? e with
  | none=>rfl
  | some o=>
   obtain ⟨o',z'⟩:=I.base.there e o z (by exact (fun y=>nomatch y))
   rw [hm.new] at z'
   cases z'
 refine y0 (base:=PySem.W.hideAll s.heap (e :: e :: e :: frs (envOfC qual scope s₀.heap.objs.size f cd :: outer))) (h:=s.heap) (outer:=outer) (L:=s₀.heap.objs.size) I.ok.frames rfl xT
  (PySem.W.funFrames_hide hst fun env he b hb=>.tail _ (.tail _ (.tail _ (yW he hb)))) hm fun h₂ ⟨f1,f2,f3,f4⟩ hup=>?_
 have hH:=ym I.hok hm.new
 show CXe P w outer H₀ s₀ E (.ref e) { s with heap:=h₂ }
 exact left_cx (s:=s) I ne0 ne0 hH hH hH ne0 f1 (slot_of hst (fun b o q _=>⟨o.slots,hm.keeps b o q⟩) hup) f4 hE
end
section
variable {K:PySem.W.Frag}{mg:Str→Option Value}{base:Heap}{x:Str}{C:Addr}{bmB:List Value}{newId:String}
theorem exc_own (M:Mod K mg base) (hm:mg x=some (.ref C)) (q:PySem.W.excIn K C bmB newId=true):OwnCls x C bmB newId mg base:=by
 refine ⟨hm,?_⟩
 have X:=M.kin
 unfold PySem.W.excIn at q
 split at q
 case h_2=>cases q
 case h_1 dd cd sl ho=>
  split at q
  case h_2=>cases q
  case h_1 C' bm k0 k1 k2 k3 n k5 hmro hs=>
   simp only [Bool.and_eq_true,beq_iff_eq,Bool.not_eq_true'] at q
   obtain ⟨⟨⟨⟨⟨e1,e2⟩,e3⟩,e4⟩,e5⟩,e6⟩:=q
   subst e1 e2
   cases cd with
   | mk nm bs mro ns qn hdc sn sub ab col del=>
    dsimp only at hmro e3 e5 e6
    subst hmro e3
    cases sl with
    | mk l=>
     dsimp only at hs
     subst hs
     exact ⟨bm,ns,nm,qn,bs,hdc,sn,sub,ab,col,dd,k0,k1,k2,k3,k5,_,X _ _ ho,.of_isNs (PySem.W.isNs_of_in X e5),PySem.W.nsMap_none_of_in X e5 e6,PySem.W.tail_of_in X e4⟩
end
def Raises (X:Cx) (E:XK):Prop:=∀ (pins:List (Addr × Obj)) (σ:St) (H:Hp) (s:Shared) (h':Heap) (e C:Addr) (vs:List Value),Inv X pins σ H s→Heap.MadeExcOf s.heap h' e (.ref C) vs→E (.ref e) (some C) H→X.xe (.ref e) { s with heap:=h' }
section
variable {X:Cx}{x:Str}{C:Addr}{e:Expr}{es:List Expr}{t:TA}{E:XK}{B newId initId:String}{bmB:List Value}{np cpos pos:Pos}
def tRaise (C:Addr) (E:XK) (t:TA):L2.TS:=fun _ σ H=>t σ H fun vs H1=>vs.length≤1000∧∀ a,E (.ref a) (some C) H1
theorem qV (hr:Raises X E) (hh:X.calm=true) (hg:Gl X x) (hm:X.mg x=some (.ref C)) (q:PySem.W.excIn X.K C bmB newId=true) (FB:ExcBaseFacts B newId initId bmB) (ha:PA X (e :: es) t)
  (hdb:(x == ("__debug__" : Str))=false:=by decide) (he:starEach (e :: es) X.env=(false,eval e X.env) :: starEach es X.env:=by rfl) (hpl:(backTo cpos (starEach es X.env)).any (·.1)=false:=by rfl) :
  PS X (.Raise (some (.Call (.Name x np) (e :: es) [] cpos)) none pos) (tRaise C E t):=by
 intro pins s σ H D I h
 have OC:OwnCls x C bmB newId X.mg X.base:=exc_own I.ok.mod hm q
 obtain ⟨tl,N,nm,qn,bs,hdct,sn,sub,ab,col,dd,k0,k1,k2,k3,k5,mN,hC,hN,hni,T⟩:=OC.obj
 refine wpAny_Raise_call_subT (C:=C) (nm:=nm) (q:=qn) (N:=N) (bs:=bs) (bm:=tl) (hdct:=hdct) (sn:=sn) (sub:=sub) (ab:=ab) (col:=col) (dd:=dd) (k0:=k0) (k1:=k1) (k2:=k2) (k3:=k3) (k5:=k5)
  FB (mN:=mN) (T.hasType FB.hasBase) (I.ok.hd hh) (by rw [he];show (false || (backTo cpos (starEach es X.env)).any (·.1))=false;rw [hpl];rfl) hni (Vs I hg hm ⟨rfl,?_⟩ hdb)
 have h2:=ha cpos pins s σ H _ I h
 rw [he] at h2 ⊢
 refine Calls.evalArgs_plain (wpAny_mono h2 (fun us s2 h3=>?_) fun _ _ y=>y)
 obtain ⟨vs,H1,I1,r,hl,hE⟩:=h3
 refine ⟨rfl,by rw [← r.length,sizeLine_eq];omega,I1.bk _ _ hC,hN.keeps I1.bk,T.keeps I1.bk,fun h' a hma=>hr pins σ H1 s2 h' a C us I1 hma (hE a)⟩
end
abbrev XS:=Value→Option Addr→L2.St→Hp→Prop
def XP (X:Cx) (pins:List (Addr × Obj)) (E:XS) (e:Value) (s':Shared):Prop:=∃ σ H s,L2.Inv X pins σ H s∧CXe X.prog X.w X.stack H s (fun e c H'=>E e c σ H') e s'
def PEx (X:Cx) (ex:Expr) (t:L2.St→Hp→VK→XK→Prop):Prop:=
 ∀ (pins:List (Addr × Obj)) (s:Shared) (σ:L2.St) (H:Hp) (Q:VK) (E:XK),L2.Inv X pins σ H s→t σ H Q E→wpAny (model X.prog X.w) X.A (eval ex X.env) (EP X pins σ Q) (XP X pins fun e c σ' H'=>σ'=σ∧E e c H') s
def PSx (X:Cx) (b:List Stmt) (t:L2.Ends→XS→L2.St→Hp→Prop):Prop:=
 ∀ (pins:List (Addr × Obj)) (s:Shared) (σ:L2.St) (H:Hp) (D:L2.Ends) (E:XS),L2.Inv X pins σ H s→t D E σ H→wpAny (model X.prog X.w) X.A (execs b X.env) (SP X pins D) (XP X pins E) s
section
variable {X:Cx}{k:Nat}{f C:Addr}{fd:FuncData}{ps:List Str}{sp:Sp}{x:Str}{p pos:Pos}{e:Expr}{es:List Expr}{t:TA}
theorem xp_mono {pins:List (Addr × Obj)}{E E':XS} (h:∀ e c σ H,E e c σ H→E' e c σ H) {v:Value}{s':Shared} (x:XP X pins E v s'):XP X pins E' v s':=by
 obtain ⟨σ,H,s,I,a,C,T,H',e1,e2,e3,e4,e5,e6,e7⟩:=x
 exact ⟨σ,H,s,I,a,C,T,H',e1,e2,e3,e4,e5,e6,h _ _ _ _ e7⟩
end
section
variable {X:Cx}{pins:List (Addr × Obj)}{σ:L2.St}{H:Hp}{s:Shared}
abbrev _root_.L2.Cx.caught (X:Cx) (a:Addr):Cx:={ X with A:=X.A.mark (some (.ref a)),calm:=false,xe:=fun _ _=>False }
theorem qr (I:L2.Inv X pins σ H s) (a:Addr):L2.Inv (X.caught a) pins σ H s:=
 ⟨⟨I.ok.mod,I.ok.kind,I.ok.glob,I.ok.blt,I.ok.above,I.ok.inj,I.ok.has,I.ok.cab,fun z=>(nomatch z),I.ok.frames,I.ok.stk,I.ok.exf,I.ok.bs,I.ok.bsz,I.ok.noex,I.ok.exfs,I.ok.funs,I.ok.frf⟩,I.os,I.bare,I.base,I.loc,I.cell,I.free,I.freeC,I.pin,I.hok,I.len⟩
theorem Vv {M:Model}{A:Around}{E:Value→Shared→Prop}{i:Nat}{n:Str}{pos:Pos}{Q:Unit→Shared→Prop} (I:L2.Inv X pins σ H s) (hN:X.N.Nodup) (hi:X.N[i]?=some n) (hl:X.env.scope.names.lookup n=some .local)
  (h:∀ s',L2.Inv X pins (σ.set i none) H s'→Q () s'):wpAny M A (do bindName X.env n .none;unbindBehindTheSuite X.env n pos) Q E s:=by
 obtain ⟨m,hn,hlk⟩:=id I.loc
 have hcls:(X.env.scope.kind == .class || (X.env.scope.kind == .module && X.env.locals != X.env.globals))=false:=by rw [I.ok.kind];rfl
 refine wpAny_nameGoes_keeps hl hn hcls fun h' v hn' hs=>?_
 have hnone:H X.env.locals=none:=I.free
 have up:∀ b o,X.s₀.heap.get? b=some o→h'.get? b=s.heap.get? b:=fun b o e=>hs.2 b (Nat.ne_of_lt (Nat.lt_of_lt_of_le (Heap.lt_size e) I.ok.above))
 refine h _ ⟨I.ok,I.os,I.bare,⟨fun b o e z hb hx=>?_,fun b o e z hb hx=>?_,I.base.free,fun b o e hx=>?_,I.base.tups,I.base.frzs,I.base.tbls⟩,⟨_,hn',fun j y v' e1 e2 e3=>?_⟩,fun y c e=>?_,I.free,I.freeC,fun p hp=>?_,?_,?_⟩
 ·exact (up b o e).trans (I.base.keep b o e z hb hx)
 ·obtain ⟨sl,e1⟩:=I.base.slot b o e z hb hx
  exact ⟨sl,(up b o e).trans e1⟩
 ·obtain ⟨o',e1⟩:=I.base.there b o e hx
  exact ⟨o',(up b o e).trans e1⟩
 ·by_cases hj:j=i
  ·subst hj
   rw [List.getElem?_set] at e2
   split at e2
   ·split at e2 <;> cases e2
   ·exact absurd rfl ‹_›
  ·rw [List.getElem?_set_ne (Ne.symm hj)] at e2
   obtain ⟨u',r',q⟩:=hlk j y v' e1 e2 e3
   refine ⟨u',r',?_⟩
   rcases q with ⟨k,e⟩ | ⟨k,c,e,z⟩
   ·refine .inl ⟨k,?_⟩
    have:y≠n:=fun e=>hj (zo hN e1 (e ▸ hi))
    simp [this,e]
   ·exact .inr ⟨k,c,e,z.sameBut hs (I.cne y c e)⟩
 ·obtain ⟨w',z⟩:=I.cell y c e
  exact ⟨w',z.sameBut hs (I.cne y c e)⟩
 ·obtain ⟨e,z,ne,nf,d⟩:=I.pin p hp
  exact ⟨(hs.2 p.1 ne).trans e,z,ne,nf,d⟩
 ·refine qQ I.hok fun b o hb q=>(hs.2 b fun z=>?_).trans q
  rw [z,hnone] at hb
  cases hb
 ·rw [List.length_set]
  exact I.len
end
def XcAt (a C:Addr) (h:Heap):Prop:=∃ o vs,h.get? a=some o∧o.cls=.ref C∧o.data=.fields vs∧vs[2]?=some .none
def XcO (a C:Addr):HO:=.ext (XcAt a C)
theorem xc_ok {P:Program}{w:World}{H:Hp}{h:Heap}{a C:Addr} (x:XcAt a C h):YB P w H h a (XcO a C):=by
 obtain ⟨o,vs,e,c,d,z⟩:=x
 exact ⟨⟨o,vs,e,c,d,z⟩,⟨o,e⟩,fun h1 h2 ⟨o',vs',e',c',d'⟩ k=>⟨o',vs',k _ e',c',d'⟩⟩
section
variable {X:Cx}{pins:List (Addr × Obj)}{σ:L2.St}{H H':Hp}{s s':Shared}{a C T:Addr}
theorem landed_un {h₅:Heap} (I:L2.Inv X pins σ H s) (hos:s'.os=s.os) (hba:AllBare s'.gens) (hun:Un (frs X.stack) [] H H' s.heap s'.heap) (hok:HOk X.prog X.w H' s'.heap) (fly:FlyN s.heap H' s'.heap a C T)
  (fl:FlV (PySem.W.hideAll s'.heap (a :: T :: frs X.stack)) X.stack a (.ref C) .none h₅) (up:s'.heap.UpToSlots h₅) :
  Un (frs X.stack) [] H H' s.heap h₅∧HOk X.prog X.w H' h₅:=by
 have I':L2.Inv X pins σ H' s':=I.call' hos hun hok hba (fun b z=>nomatch z)
 obtain ⟨f1,f2,f3,f4⟩:=fl
 obtain ⟨n1,n2,n3,n4,_,_⟩:=fly
 have keep:∀ b o,s'.heap.get? b=some o→b≠a→b≠T→b∉frs X.stack→h₅.get? b=some o:=fun b o q z1 z2 z3=>f1 b o (PySem.W.hideAll_get _ q fun z=>by
  rcases List.mem_cons.mp z with z | z
  ·exact z1 z
  ·rcases List.mem_cons.mp z with z | z
   ·exact z2 z
   ·exact z3 z)
 have slot:∀ b o,s'.heap.get? b=some o→b∈frs X.stack→∃ sl,h₅.get? b=some { o with slots:=sl }:=fun b o q n=>by
  obtain ⟨_,o',ho',hd⟩:=Heap.FunFrames.mem I'.stack n
  rw [q] at ho'
  cases ho'
  exact up b o q hd
 have na:∀ b o,s.heap.get? b=some o→b≠a:=fun b o q z=>by rw [z,n1] at q;cases q
 have nT:∀ b o,s.heap.get? b=some o→b≠T:=fun b o q z=>by rw [z,n2] at q;cases q
 refine ⟨⟨fun b o q n hb hx=>?_,fun b o q n hb hx=>?_,fun b o q n hx=>hun.free b o q n hx,fun b o q hx=>?_,hun.tups,hun.frzs,hun.tbls⟩,?_⟩
 ·exact keep b o (hun.keep b o q n hb hx) (na b o q) (nT b o q) hb
 ·obtain ⟨sl,q1⟩:=hun.slot b o q n hb hx
  obtain ⟨sl2,q2⟩:=slot b _ q1 hb
  exact ⟨sl2,q2⟩
 ·obtain ⟨o',q1⟩:=hun.there b o q hx
  by_cases n:b∈frs X.stack
  ·obtain ⟨sl,q2⟩:=slot b o' q1 n
   exact ⟨_,q2⟩
  ·exact ⟨o',keep b o' q1 (na b o q) (nT b o q) n⟩
 ·refine qQ hok fun b o hb q=>keep b o q (fun z=>?_) (fun z=>?_) fun z=>?_
  ·rw [z,n3] at hb;cases hb
  ·rw [z,n4] at hb;cases hb
  ·rw [I'.stkFree b z] at hb;cases hb
theorem zg {h₅:Heap}{tk:Nat} (I:L2.Inv X pins σ H s) (hos:s'.os=s.os) (hba:AllBare s'.gens) (hun:Un (frs X.stack) [] H H' s.heap s'.heap) (hok:HOk X.prog X.w H' s'.heap) (fly:FlyN s.heap H' s'.heap a C T)
  (fl:FlV (PySem.W.hideAll s'.heap (a :: T :: frs X.stack)) X.stack a (.ref C) .none h₅) (up:s'.heap.UpToSlots h₅):L2.Inv X pins σ (upd H' a (XcO a C)) { s' with heap:=h₅ }:=by
 obtain ⟨u,hk⟩:=landed_un I hos hba hun hok fly fl up
 obtain ⟨n1,n2,n3,n4,_,_⟩:=fly
 obtain ⟨_,_,_,oe,vs,_,_,_,_,he,hc,hd,_,h2,_⟩:=id fl
 have ne:∀ b u,H' b=some u→b≠a:=fun b u q z=>by rw [z,n3] at q;cases q
 have hk2:HOk X.prog X.w (upd H' a (XcO a C)) h₅:=fun b o q=>by
  by_cases hb:b=a
  ·subst hb
   rw [Zd] at q
   cases q
   exact xc_ok ⟨oe,vs,he,hc,hd,h2⟩
  ·rw [Zo hb] at q
   exact (hk b o q).stay (fun c u _ z=>z) (fun c z=>by rw [Zo (ne c _ z)];exact z) fun c xs z=>by rw [Zo (ne c _ z)];exact z
 refine I.call' (s':={ s' with heap:=h₅ }) hos ⟨u.keep,u.slot,fun b o q n hx=>?_,u.there,fun b xs q=>?_,fun b o w q=>?_,fun b ps q=>?_⟩ hk2 hba (fun b z=>nomatch z)
 ·have:b≠a:=fun z=>by rw [z,n1] at q;cases q
  rw [Zo this]
  exact u.free b o q n hx
 ·have z:=u.tups b xs q
  rw [Zo (ne b _ z)]
  exact z
 ·have z:=u.frzs b o w q
  rw [Zo (ne b _ z)]
  exact z
 ·obtain ⟨more,z⟩:=u.tbls b ps q
  exact ⟨more,by rw [Zo (ne b _ z)];exact z⟩
end
section
variable {X:Cx}{i:Nat}{n cn:Str}{D:Addr}{b₀:Stmt}{body suite:List Stmt}{np hpos pos:Pos}
def tTry (K:PySem.W.Frag) (D:Addr) (i:Nat) (tb:L2.Ends→XS→L2.St→Hp→Prop) (th:Addr→L2.TS):L2.TS:=fun Ds σ H=>
 tb Ds (fun e c σ1 H1=>∃ a C,e=.ref a∧c=some C∧PySem.W.exmOne K (.ref C) (.ref D)=some true∧(H1 a=none →
  th a { nx:=fun σ2 H2=>Ds.nx (σ2.set i none) H2,rt:=Ds.rt,bk:=fun σ2 H2=>Ds.bk (σ2.set i none) H2,ct:=fun σ2 H2=>Ds.ct (σ2.set i none) H2 } (σ1.set i (some (.ref a))) (upd H1 a (XcO a C)))) σ H
theorem ps_try {tb:L2.Ends→XS→L2.St→Hp→Prop}{th:Addr→L2.TS} (hst:X.stack=X.env :: X.outer) (hfr:X.env.frame=some X.env.locals) (hN:X.N.Nodup) (hi:X.N[i]?=some n) (hl:X.env.scope.names.lookup n=some .local)
  (hg:Gl X cn) (hm:X.mg cn=some (.ref D)) (hb:PSx X body tb) (hs:∀ a,PSs (X.caught a) (b₀ :: suite) (th a)) (hdb:(cn == ("__debug__" : Str))=false:=by decide) :
  PS X (.Try body [.ExceptHandler (some (.Name cn np)) (some n) (b₀ :: suite) hpos] [] [] pos) (tTry X.K D i tb th):=by
 intro pins s σ H Ds I h
 refine wpAny_Try_except (wpAny_mono (hb pins s σ H Ds _ I h) (fun f s1 h1=>?_) fun v s1 h1=>?_)
 ·cases f with
  | next=>exact wpAny_execs_nil h1
  | ret u=>exact h1
  | brk=>exact h1
  | cont=>exact h1
 ·obtain ⟨σ1,H0,s0,I0,a,C,T,H',rfl,hos,hba,hun,hok,fly,a',C',ea,ec,hx,hE⟩:=h1
  cases ea
  cases ec
  have I':L2.Inv X pins σ1 H' s1:=I0.call' hos hun hok hba (fun b z=>nomatch z)
  obtain ⟨n1,n2,n3,n4,nTa,oe,vs,oT,ts,a0,he,hc,hd,h0,hT1,hT,hdT,h3,h2⟩:=id fly
  have fl1:FlV (PySem.W.hideAll s1.heap (a :: T :: frs X.stack)) X.stack a (.ref C) .none s1.heap:=
   ⟨fun b o q=>PySem.W.of_hideAll _ q,PySem.W.hideAll_none _ (.head _),PySem.W.funFrames_hide I'.stack fun env hev b hbv=>.tail _ (.tail _ (yW hev hbv)),
    oe,vs,T,oT,ts,a0,he,hc,hd,h0,h2,hT1,PySem.W.hideAll_none _ (.tail _ (.head _)),nTa,hT,hdT,h3⟩
  rw [hst] at fl1
  refine xP (L:=X.env.locals) (by rw [I.ok.frames,hst]) hfr fl1 fun h₄ hl₄ up₄=>?_
  refine landV (s:={ s1 with heap:=h₄ }) hl₄ fun h₅ fl₅ up₅=>?_
  have up5:=up₄.trans up₅
  rw [← hst] at fl₅
  have J5:L2.Inv (X.caught a) pins σ1 (upd H' a (XcO a C)) { s1 with heap:=h₅ }:=qr (zg (tk:=0) I0 hos hba hun hok fly fl₅ up5) a
  refine wpAny_handleBy_cons (codeAny_handlers_test (Vs (X:=X.caught a) J5 hg hm ?_ hdb)) (by intro q;cases q)
  obtain ⟨_,_,_,ob,_,_,_,_,_,hob,hobc,_⟩:=id fl₅
  have LT:PySem.W.Looks (model X.prog X.w) h₅ (typeOf (.ref a)) (.ref C):=hobc ▸ (PySem.W.Looks.ld hob).andThen .now
  refine (PySem.W.exm_one (K:=X.K) J5.kIn LT hx).here ?_
  refine codeAny_handlers_suite_as ?_
  rw [hst] at fl₅
  refine landV (s:={ s1 with heap:=h₅ }) fl₅ fun h₆ fl₆ up₆=>?_
  rw [← hst] at fl₆
  have J6:L2.Inv (X.caught a) pins σ1 (upd H' a (XcO a C)) { s1 with heap:=h₆ }:=qr (zg (tk:=0) I0 hos hba hun hok fly fl₆ (up5.trans up₆)) a
  refine V0 (X:=X.caught a) J6 hN hi (.inl hl) (show ZS (.ref a) (.ref a) from rfl) (fun s7 J7=>?_) (.inr hl)
  refine wpAny_mono (hs a pins s7 _ _ _ J7 (hE n3)) (fun f s8 h8=>?_) fun _ _ z=>False.elim z
  have back:∀ {σ2:L2.St}{H2:Hp},L2.Inv (X.caught a) pins σ2 H2 s8→L2.Inv X pins σ2 H2 s8:=fun J=>
   ⟨I.ok,J.os,J.bare,J.base,J.loc,J.cell,J.free,J.freeC,J.pin,J.hok,J.len⟩
  cases f with
  | next=>
   obtain ⟨σ2,H2,J,q⟩:=h8
   exact Vv (back J) hN hi hl fun s9 J9=>⟨_,_,J9,q⟩
  | brk=>
   obtain ⟨σ2,H2,J,q⟩:=h8
   exact Vv (back J) hN hi hl fun s9 J9=>⟨_,_,J9,q⟩
  | cont=>
   obtain ⟨σ2,H2,J,q⟩:=h8
   exact Vv (back J) hN hi hl fun s9 J9=>⟨_,_,J9,q⟩
  | ret u=>
   obtain ⟨v,σ2,H2,J,rv,q⟩:=h8
   exact Vv (back J) hN hi hl fun s9 J9=>⟨v,_,_,J9,rv,q⟩
end
end L3
namespace L3
open PySem PySem.Spec PySem.Calls PyProof.Rows PySem.W L2 Builtin Builtin.ObjectAttr Builtin.Getset_descriptor
section
variable {prog:Program}{w:PySem.World}{A:Around}{E:Value→Shared→Prop}{h:Heap}{g:Array GenState}{d:Drawn}{t:Nat}{os:OsState}{K:Frag}{a C:Addr}
theorem zx {tp:Value}{R:Result→Shared→Prop} (X:K.In h) (LT:Looks (model prog w) h (typeOf (.ref a)) (.ref C)) (hm:mroIn K C (.type "object")=some true)
  (hq:R (.ok (.ret (.ref C))) ⟨h,g,d,t,os⟩):codeAny (model prog w) A (.call (.builtin "getset_descriptor.__get__") ⟨[.builtin "object.__class__",.ref a,tp],[]⟩) R ⟨h,g,d,t,os⟩:=by
 have L1:=looks_mroIn (M:=model prog w) X hm
 refine codeAny_call_builtin KF.slot_gs.plain KF.entry_gs (KF.slot_gs.check _ _ _ _ _ _ _ _ KF.type_class (KF.args_gs _ _ _) ?_)
 unfold Builtin.«getset_descriptor.__get__» descrGet
 rw [dga_obj]
 refine wpAny_bind (wpAny_pure ?_)
 unfold descrGetter descrCheckInstance descrNameAndClass isInstance
 simp only [KF.owner_class]
 repeat lk
 refine ⟨Code.quiet_builtin _ (by decide +kernel),codeAny_builtin KF.entry_class ?_⟩
 unfold Builtin.«object.__class__» shownTypeOf
 repeat lk
 exact hq
theorem qZ (X:K.In h) (ha:findIn K (.ref C) "__class__" = some (some (.builtin "object.__class__"))) (hn:specialIn K (.builtin "object.__class__") "__get__" = some (some (.builtin "getset_descriptor.__get__")))
  (htk:takesIn K (.builtin "object.__class__")=some true):Looks (model prog w) h (find (.ref a) (.ref C) "__class__") (.bind (.builtin "getset_descriptor.__get__") (.builtin "object.__class__")):=by
 have L1:=looks_findIn (M:=model prog w) X ha
 have L2:Looks (model prog w) h (getOf (some (.builtin "object.__class__"))) (some (.builtin "getset_descriptor.__get__")):=looks_specialIn X hn
 have L3:=looks_takesIn (M:=model prog w) X htk
 refine L1.andThen (L2.andThen ?_)
 exact (show Looks (model prog w) h (dataDescriptor? (some (.builtin "object.__class__")) (some (.builtin "getset_descriptor.__get__"))) (some (.builtin "getset_descriptor.__get__",.builtin "object.__class__")) from L3.andThen .now).andThen (Looks.tag .now)
theorem U5 {tk:Tok}{Q:Fin→Shared→Prop} (X:K.In h) (LT:Looks (model prog w) h (typeOf (.ref a)) (.ref C)) (hm:mroIn K C (.type "object")=some true)
  (ha:findIn K (.ref C) "__class__" = some (some (.builtin "object.__class__"))) (hn:specialIn K (.builtin "object.__class__") "__get__" = some (some (.builtin "getset_descriptor.__get__"))) (htk:takesIn K (.builtin "object.__class__")=some true)
  (hq:Q (.done (.ret (.ref C))) ⟨h,g,d,t,os⟩):wpAny (model prog w) A (Builtin.«object.__getattribute__» ⟨[.ref a,.str "__class__" tk],[]⟩) Q E ⟨h,g,d,t,os⟩:=by
 have LF:=qZ (prog:=prog) (w:=w) (a:=a) X ha hn htk
 refine wpAny_bind (wpAny_pure (wpAny_bind (wpAny_pure (wpAny_bind (LT.at (wpAny_bind (LF.at ?_)))))))
 show wpAny _ _ (holding [_] (call (.builtin "getset_descriptor.__get__") [.builtin "object.__class__",.ref a,.ref C]) >>= ret) _ _ _
 exact wpAny_bind (wpAny_holding (wpAny_call (zx X LT hm (wpAny_pure hq))))
theorem qU {tk:Tok}{R:Result→Shared→Prop} (X:K.In h) (LT:Looks (model prog w) h (typeOf (.ref a)) (.ref C)) (hm:mroIn K C (.type "object")=some true) (hbe:mroIn K C (.type "BaseException")=some true)
  (ha:findIn K (.ref C) "__class__" = some (some (.builtin "object.__class__"))) (hn:specialIn K (.builtin "object.__class__") "__get__" = some (some (.builtin "getset_descriptor.__get__"))) (htk:takesIn K (.builtin "object.__class__")=some true)
  (hq:R (.ok (.ret (.ref C))) ⟨h,g,d,t,os⟩):codeAny (model prog w) A (.call (.builtin "BaseException.__getattribute__") ⟨[.ref a,.str "__class__" tk],[]⟩) R ⟨h,g,d,t,os⟩:=by
 have hk:builtinKind "BaseException.__getattribute__" = some .slot:=by decide +kernel
 have hsplit:splitId "BaseException.__getattribute__" = some ("BaseException", "__getattribute__"):=by decide +kernel
 have LB:Looks (model prog w) h (isInstance (.ref a) (.type "BaseException")) true:=LT.andThen (looks_mroIn (M:=model prog w) X hbe)
 have hargs:=F.args_bexc_ga (.ref a) (.str "__class__" tk)
 refine codeAny_call_builtin F.excAttr_ValueError.ga.plain F.entry_bexc_ga ?_
 simp only [checkBuiltinCall,hk,hsplit]
 refine wpAny_bind (LB.at ?_)
 refine wpAny_of_eq (a:=()) (by first | exact hargs | simpa using hargs) ?_
 exact U5 X LT hm ha hn htk hq
theorem zq {Q:Option Value→Shared→Prop} (X:K.In h) (LT:Looks (model prog w) h (typeOf (.ref a)) (.ref C)) (hga:findIn K (.ref C) "__getattribute__" = some (some (.builtin "BaseException.__getattribute__")))
  (hgh:findIn K (.ref C) "__getattr__" = some none) (hm:mroIn K C (.type "object")=some true) (hbe:mroIn K C (.type "BaseException")=some true)
  (ha:findIn K (.ref C) "__class__" = some (some (.builtin "object.__class__"))) (hn:specialIn K (.builtin "object.__class__") "__get__" = some (some (.builtin "getset_descriptor.__get__"))) (htk:takesIn K (.builtin "object.__class__")=some true)
  (hq:Q (some (.ref C)) ⟨h,g,d,t+1,os⟩):wpAny (model prog w) A (getAttr? (.ref a) "__class__") Q E ⟨h,g,d,t,os⟩:=by
 have L1:=looks_findIn (M:=model prog w) X hga
 have L2:=looks_findIn (M:=model prog w) X hgh
 have hbs:=F.excAttr_ValueError.ga.bind (.ref a)
 have hx2:(Value.builtin "BaseException.__getattribute__" == Value.builtin "object.__getattribute__")=false:=by decide +kernel
 unfold getAttr? getAttrBy? getAttrBy
 refine wpAny_bind (wpAny_mkText (wpAny_bind (wpAny_attempt (wpAny_holding (wpAny_bind (LT.at (wpAny_bind (L1.at ?_))))))))
 dsimp only
 rw [hx2,Bool.and_false,if_neg Bool.false_ne_true]
 unfold getAttrByItsOwn hookBefore
 rw [if_pos (show onTheHeap (.ref C)=true from rfl)]
 refine wpAny_bind (L2.at (wpAny_bind (wpAny_attempt (wpAny_holding ?_))))
 unfold callGetattribute boundAndCalled
 rw [Bool.false_and,if_neg Bool.false_ne_true,hbs]
 refine wpAny_bind (wpAny_pure ?_)
 refine wpAny_call (qU X LT hm hbe ha hn htk ?_)
 exact wpAny_pure (wpAny_pure hq)
structure ExcK (K:Frag) (C:Addr):Prop where
 ga:findIn K (.ref C) "__getattribute__" = some (some (.builtin "BaseException.__getattribute__"))
 gh:findIn K (.ref C) "__getattr__" = some none
 ob:mroIn K C (.type "object")=some true
 be:mroIn K C (.type "BaseException")=some true
 cl:findIn K (.ref C) "__class__" = some (some (.builtin "object.__class__"))
 gt:specialIn K (.builtin "object.__class__") "__get__" = some (some (.builtin "getset_descriptor.__get__"))
 tk:takesIn K (.builtin "object.__class__")=some true
 hd:hasDictIn K C=true
theorem xc_type {M:Model} (x:XcAt a C h):Looks M h (typeOf (.ref a)) (.ref C):=by
 obtain ⟨o,vs,e,c,dd⟩:=x
 exact c ▸ (Looks.ld e).andThen .now
theorem vp (B:ExcK K C):KitX K (.ref a) (.ref C) (XcAt a C) where
 ty:=fun _ _ _ x=>xc_type x
 it:=fun _ _ X _=>by
  obtain ⟨cdD,hcD,_⟩:=any_some B.hd
  unfold clsIn at hcD
  split at hcD
  ·rename_i c' d' cd' sl' ho
   intro A' Q' E' s' k q
   unfold isType loadHead
   exact wpAny_bind (wpAny_loadPart (k _ _ (X _ _ ho)) (wpAny_pure q))
  ·cases hcD
 ne:=fun h tp dd its n sl X htp=>by
  obtain ⟨cdD,hcD,_⟩:=any_some B.hd
  refine Bool.eq_false_iff.mpr fun q=>?_
  have e:C=tp:=Value.ref.inj (beq_iff_eq.mp q)
  subst e
  unfold clsIn at hcD
  split at hcD
  ·rename_i c' d' cd' sl' ho
   have z:=(X _ _ ho).symm.trans htp
   cases z
  ·cases hcD
 ca:=fun {prog w A E Q s} X x k=>by
  obtain ⟨hh,g,d,t,os⟩:=s
  exact zq X (xc_type x) B.ga B.gh B.ob B.be B.cl B.gt B.tk k
end
section
variable {X:Cx}
inductive rIsX_R (K:Frag) (c:V) (xs:List V) (H:Hp) (Q:VK):Prop
 | mk (p:_) (C:_) (u:_) (b:_) (h0:xs=[.ref p,c]) (h1:H p=some (XcO p C)) (h2:ExcK K C) (h3:ZS c u) (h4:kitOne K (.ref C) u=some b) (h5:Q (.bl b) H):rIsX_R K c xs H Q
def rIsX (K:Frag) (c:V):List V→Hp→VK→Prop:=fun xs H Q=>rIsX_R K c xs H Q
theorem relV_cls {c:V}{u v:Value} (h:ZS c u) (h2:ZS c v) (hc:(∃ C,c=.ref C)∨∃ n,c=.ty n):u=v:=by
 rcases hc with ⟨C,rfl⟩ | ⟨n,rfl⟩
 ·exact (show u=Value.ref C from h).trans (show v=Value.ref C from h2).symm
 ·exact (show u=Value.type n from h).trans (show v=Value.type n from h2).symm
theorem vh {K:Frag} (hK:X.K=K) {c:V} (hc:(∃ C,c=.ref C)∨∃ n,c=.ty n):Ys X (.builtin "isinstance") (rIsX K c):=by
 subst hK
 intro pins s σ H xs us Q I r h
 obtain ⟨p,C,u',b,rfl,hp,B,rc,hk,q⟩:=h
 obtain ⟨u,v,rfl,ru,rv⟩:=UW r
 cases (show u=Value.ref p from ru)
 obtain rfl:=relV_cls rc rv hc
 have x:XcAt p C s.heap:=(I.hok p _ hp).1
 exact kia_one (vp (a:=p) B) I.kIn x hk (fun z=>nomatch z) fun tk=>⟨.bl b,H,I.tok _,rfl,q⟩
theorem yg:∀ {cs:List V}{us ws:List Value},(∀ c∈cs,∃ C,c=V.ref C)→ZE cs us→ZE cs ws→us=ws
 | [],_,_,_,.nil,.nil=>rfl
 | c :: r,_,_,h,.cons a b,.cons a' b'=>by
  obtain ⟨C,rfl⟩:=h c (.head _)
  have e1:=(show _=Value.ref C from a).trans (show _=Value.ref C from a').symm
  rw [e1,yg (fun c hc=>h c (.tail _ hc)) b b']
inductive rIsXT_R (K:Frag) (cs:List V) (us:List Value) (xs:List V) (H:Hp) (Q:VK):Prop
 | mk (p:_) (C:_) (t:_) (b:_) (h0:xs=[.ref p,.ref t]) (h1:H p=some (XcO p C)) (h2:ExcK K C) (h3:H t=some (.tup cs)) (h4:kitAny K (.ref C) us=some b) (h5:Q (.bl b) H):rIsXT_R K cs us xs H Q
def rIsXT (K:Frag) (cs:List V) (us:List Value):List V→Hp→VK→Prop:=fun xs H Q=>rIsXT_R K cs us xs H Q
theorem call_isXT {K:Frag} (hK:X.K=K) {cs:List V}{ws:List Value} (hc:∀ c∈cs,∃ C,c=V.ref C) (rw':ZE cs ws):Ys X (.builtin "isinstance") (rIsXT K cs ws):=by
 subst hK
 intro pins s σ H xs us Q I r h
 obtain ⟨p,C,t,b,rfl,hp,B,ht,hk,q⟩:=h
 obtain ⟨u,v,rfl,ru,rv⟩:=UW r
 cases (show u=Value.ref p from ru)
 cases (show v=Value.ref t from rv)
 have x:XcAt p C s.heap:=(I.hok p _ hp).1
 obtain ⟨_,its,rt,⟨oc,od,oda,osl⟩,e1,e2,n,e3⟩:=(show YB X.prog X.w H s.heap t (.tup cs) from I.hok t _ ht)
 dsimp only at e2 e3
 subst e2 e3
 obtain rfl:=yg hc rw' rt
 exact kia_tup (vp (a:=p) B) I.kIn x e1 hk (fun z=>nomatch z) fun tk=>⟨.bl b,H,I.tok _,rfl,q⟩
end
end L3
namespace L3
open PySem PySem.Spec PyProof.Rows L2
theorem pss_never {X:Cx}{sts:List Stmt}:PSs X sts (fun _ _ _=>False):=fun _ _ _ _ _ _ h=>False.elim h
theorem fn_up {P:Program}{w:World}{K:PySem.W.Frag}{mg:Str→Option Value}{base:Heap}{CX:CXT}{k:Nat}{f:Addr}{fd:FuncData}{ps:List Str}{sp:Sp} (F:Yy P w K mg base CX0 k f fd ps sp):Yy P w K mg base CX k f fd ps sp:=
 ⟨F.len,fun A outer s H args us vs Q E hr e0 hb r h=>codeAny_mono (F.run A outer s H args us vs Q E hr e0 hb r h) fun res s' q=>by
  cases res with
  | error e=>exact False.elim q
  | ok fl=>cases fl <;> exact q⟩
section
variable {P:Program}{w:World}{K:PySem.W.Frag}{mg:Str→Option Value}{base:Heap}
theorem fun_okX {x qual:Str}{st:Stmt}{f:Addr}{fd:FuncData}{N ps:List Str}{k:Nat}{sp:Sp} (F:Fun K x qual st f fd) (S:ZB N ps (Zc st)) (len:∀ vs H Q E,sp vs H Q E→vs.length=ps.length)
  (hbody:∀ (cdv:Value) (A:Around) (outer:List Env) (s:Shared) (H:Hp) (vs:List V) (Q:VK) (E:XK),Y0 k (A.deeper (envOfC qual (Zc st) s.heap.objs.size f cdv))→sp vs H Q E →
   ∃ t,PSs (Uc (CXe P w) P w K mg base N qual (Zc st) f cdv A outer s H E) (Zl st) t∧t { nx:=fun _ H'=>Q .non H',rt:=Q } (start N vs) H):Yy P w K mg base (CXe P w) (k+1) f fd ps sp:=by
 obtain ⟨oc,od,kV,doc,pm,an,cdv,ct,osl,rfl,lk,hcd⟩:=F.ex
 exact fn_of lk hcd S len fun A outer s H vs Q E hr hsp=>hbody cdv A outer s H vs Q E hr hsp
end
section
variable {P:Program}{w:World}{K:PySem.W.Frag}{mg:Str→Option Value}{base:Heap}{N:List Str}{qual:Str}{scope:Scope}{f:Addr}{cd:Value}{A:Around}{outer:List Env}{s₀:Shared}{H₀:Hp}{E:XK}
theorem UC:Raises (Uc (CXe P w) P w K mg base N qual scope f cd A outer s₀ H₀ E) E:=fun pins σ H s h' e C vs I hm hE=>vV I hm hE
theorem passes_cx:Vi (CXe P w) (Uc (CXe P w) P w K mg base N qual scope f cd A outer s₀ H₀ E) E:=by
 intro pins σ H s e s' I hx
 obtain ⟨a,C,T,H',rfl,hos,hba,hun,hok,fly,hE⟩:=hx
 have I':L2.Inv (Uc (CXe P w) P w K mg base N qual scope f cd A outer s₀ H₀ E) pins σ H' s':=I.call' hos hun hok hba (fun b z=>nomatch z)
 obtain ⟨n1,n2,n3,n4,nTa,oe,vs,oT,ts,a0,he,hc,hd,h0,hT1,hT,hdT,h3,h2⟩:=id fly
 show wpAny (model P w) (A.deeper (envOfC qual scope s₀.heap.objs.size f cd)) (leaving (envOfC qual scope s₀.heap.objs.size f cd) (.ref a)) _ _ _
 have hst:=I'.stack
 have old:∀ b,s.heap.get? b=none→s₀.heap.get? b=none:=fun b q=>by
  cases z:s₀.heap.get? b with
  | none=>rfl
  | some o=>
   obtain ⟨o',z'⟩:=I.base.there b o z (fun y=>nomatch y)
   rw [q] at z'
   cases z'
 have fl1:FlV (PySem.W.hideAll s'.heap (a :: a :: T :: frs (envOfC qual scope s₀.heap.objs.size f cd :: outer))) (envOfC qual scope s₀.heap.objs.size f cd :: outer) a (.ref C) .none s'.heap:=
  ⟨xT,PySem.W.hideAll_none _ (.head _),PySem.W.funFrames_hide hst fun env hev b hbv=>.tail _ (.tail _ (.tail _ (yW hev hbv))),
   oe,vs,T,oT,ts,a0,he,hc,hd,h0,h2,hT1,PySem.W.hideAll_none _ (.tail _ (.tail _ (.head _))),nTa,hT,hdT,h3⟩
 refine vZ (outer:=outer) (L:=s₀.heap.objs.size) I.ok.frames rfl fl1 fun h₂ fl₂ up=>?_
 obtain ⟨f1,f2,f3,f4⟩:=fl₂
 exact left_cx I' (old a n1) (old T n2) n3 n4 n3 (old a n1) f1 (slot_of hst (fun b o q _=>⟨o.slots,q⟩) up) f4 hE
end
section
variable {X:Cx}{k:Nat}{f C:Addr}{fd:FuncData}{ps:List Str}{sp:Sp}{x:Str}{p pos:Pos}{e:Expr}{es:List Expr}{t:TA}
def tCallX (sp:Sp) (t:TA):L2.St→Hp→VK→XK→Prop:=fun σ H Q E=>t σ H fun vs H1=>sp vs H1 Q E
theorem pex_call (F:Yy X.prog X.w X.K X.mg X.base (CXe X.prog X.w) k f fd ps sp) (hr:Y0 k X.A) (hg:Gl X x) (hm:X.mg x=some (.ref f)) (hk:PySem.W.keepIn X.K (.ref f)=true) (hb:Yd X.K fd ps []) (ha:PA X.nox (e :: es) t)
  (hdb:(x == ("__debug__" : Str))=false:=by decide) (he:starEach (e :: es) X.env=(false,eval e X.env) :: starEach es X.env:=by rfl) (hpl:(backTo pos (starEach es X.env)).any (·.1)=false:=by rfl) :
  PEx X (.Call (.Name x p) (e :: es) [] pos) (tCallX sp t):=by
 intro pins s σ H Q E I h
 refine wpAny_Call_Name_kw (Vs I hg hm ?_ hdb)
 refine PySem.W.callWith_K (h₀:=X.base) I.ok.mod.kin hk (wpAny_mono (ha pos pins s σ H _ (I.wish _) h) (fun us s1 h1=>?_) fun _ _ z=>False.elim z) he hpl
 obtain ⟨vs,H1,I1',r,q⟩:=h1
 have I1:L2.Inv X pins σ H1 s1:=I1'.unwish
 refine ⟨I1.kIn,?_⟩
 have hl:(us++[]).length=ps.length:=by rw [List.append_nil,← r.length];exact F.len _ _ _ _ q
 have hbd:=hb s1 us I1.kIn hl
 rw [List.append_nil] at hbd
 refine wpAny_call (codeAny_mono (F.run X.A X.stack s1 H1 ⟨us,[]⟩ us vs Q E hr I1.env0 hbd r q) fun res s' hq=>?_)
 cases res with
 | error v=>
  obtain ⟨a,C',T,H',e1,e2,e3,e4,e5,e6,e7⟩:=hq
  exact ⟨σ,_,_,I1,a,C',T,H',e1,e2,e3,e4,e5,e6,rfl,e7⟩
 | ok fl=>
  cases fl with
  | ret u=>exact I1.after hq
  | next=>exact False.elim hq
  | brk=>exact False.elim hq
  | cont=>exact False.elim hq
end
section
variable {X:Cx}{i j1 j2:Nat}{pos p1 p2:Pos}
end
section
variable {X:Cx}{e:Expr}{es:List Expr}{v:V}{vs:List V}{t:TA}
end
def starB:Expr→Bool
 | .Starred _ _=>true
 | _=>false
theorem star_c {e:Expr}{es:List Expr}{env:Env} (h:starB e=false):starEach (e :: es) env=(false,eval e env) :: starEach es env:=by
 cases e <;> first | rfl | cases h
theorem Z9 {X:Cx}{e:Expr}{es:List Expr}{te:TE}{t:TA} (ha:PE X e te) (hr:PA X es t) (h:starB e=false:=by rfl):PA X (e :: es) (tCons te t):=Za ha hr (star_c h)
structure QA (X:Cx) (es:List Expr) (t:TA):Prop where
 h:PA X es t
section
variable {P:Program}{w:World}{K:PySem.W.Frag}{mg:Str→Option Value}{base:Heap}{N:List Str}{qual:Str}{scope:Scope}{f:Addr}{cd:Value}{A:Around}{outer:List Env}{s₀:Shared}{H₀:Hp}{E:XK}
end
section
variable {X:Cx}{σ:L2.St}{H:Hp}{s:Shared}{Nc:List Str}{ix:List (Option Nat)}{scope:Scope}
end
end L3
namespace L3
open PySem PySem.Spec PyProof.Rows
structure PBase (k:SortKind) (a₀:Array Keyed) (st:SortSt):Prop where
 perm:(arrOf st).Perm a₀
 kind:kindOf st=k
 failed:failedOf st=none
 pend:pendingOf st=#[]
section
variable {prog:Program}{w:World}{A:Around}{E:Value→Shared→Prop}{s:Shared}{a₀:Array Keyed}{k:SortKind}
end
def EqAny (prog:Program) (w:World) (n:Nat) (s:Shared) (x y:Value):Prop:=
 ∀ (A:Around) (E:Value→Shared→Prop) (Q:Bool→Shared→Prop),A.units+n<cLine→(∀ b,Q b s)→wpAny (model prog w) A (eqBool x y) Q E s
section
variable {prog:Program}{w:World}{n:Nat}{s:Shared}{A:Around}{E:Value→Shared→Prop}
end
end L3
namespace L3
open PySem PySem.SetTable
section
variable {t:SetTable}{hashAt:Nat→Int}{h:Int}
end
structure Lay (mask:Nat) (owner:Array (Option Nat)) (k:Nat):Prop where
 size:owner.size=mask+1
 perm:(owner.toList.filterMap id).Perm (List.range k)
end L3
namespace L3
open PySem PySem.Spec PyProof.Rows PySem.SetTable
section
variable {t:SetTable}{hashAt:Nat→Int}{h:Int}
end
section
variable {prog:Program}{w:World}{n:Nat}{s:Shared}{A:Around}{E:Value→Shared→Prop}{a:Addr}{o:Obj}{es:Array (Int × Value)}{ep:Nat}{t:SetTable}{x:Value}{h:Int}{Q:SetFound→Shared→Prop}
end
section
variable {prog:Program}{w:World}{n:Nat}{s:Shared}{A:Around}{E:Value→Shared→Prop}{a:Addr}{x:Value}{h:Int}{Q:Bool→Shared→Prop}
theorem yI {hp:Heap}{o:Obj}{es es':Array (Int × Value)}{ep:Nat}{t t':SetTable} (ho:hp.get? a=some o) (hd:o.data=.set es ep t) :
  (hp.update a (Obj.putSet es' t')).get? a=some { o with data:=.set es' (ep+1) t' }:=by
 have:=Heap.get?_update_self (Obj.putSet es' t') ho (by rw [putSet_of es' t' hd];rfl)
 rw [putSet_of es' t' hd] at this;exact this
end
end L3
namespace L3
open PySem PySem.Spec PyProof.Rows
def HbAny (prog:Program) (w:World) (f:Nat) (s:Shared) (x:Value):Prop:=∀ (A:Around) (E:Value→Shared→Prop) (Q:Bool→Shared→Prop),(∀ b,Q b s)→wpAny (model prog w) A (hashByValue f x) Q E s
def OaNo (prog:Program) (w:World) (f:Nat) (s:Shared) (x:Value):Prop:=∀ (A:Around) (E:Value→Shared→Prop) (Q:Bool→Shared→Prop),Q false s→wpAny (model prog w) A (ofAClassStatement f x) Q E s
def Quiet (prog:Program) (w:World) (f:Nat) (s:Shared) (x:Value):Prop:=∀ (A:Around) (E:Value→Shared→Prop) (Q:Bool→Shared→Prop),Q true s→wpAny (model prog w) A (eqIsQuiet f x) Q E s
section
variable {prog:Program}{w:World}{f:Nat}{s:Shared}{a:Addr}{xs:List Value}{x:Value}
end
theorem ZP:Slot "set_iterator" "__next__" "set_iterator.__next__" :=
 .of (owner := "set_iterator") (n := "__next__") (by rw [typeLookup_type,builtinLookup_eq_fast];kernel_rfl) (by decide +kernel) (by decide +kernel) (by decide +kernel)
  (by first | exact .inl (by decide +kernel) | exact .inr (by decide +kernel)) (by rw [isSubtype_type];kernel_rfl)
theorem XE:Slot "set_iterator" "__iter__" "set_iterator.__iter__" :=
 .of (owner := "set_iterator") (n := "__iter__") (by rw [typeLookup_type,builtinLookup_eq_fast];kernel_rfl) (by decide +kernel) (by decide +kernel) (by decide +kernel)
  (by first | exact .inl (by decide +kernel) | exact .inr (by decide +kernel)) (by rw [isSubtype_type];kernel_rfl)
theorem Xv:entryFor table "set_iterator.__next__" = some Builtin.«set_iterator.__next__» := entryFor_of_tree (by kernel_rfl)
theorem WM:entryFor table "set_iterator.__iter__" = some Builtin.«dict_keyiterator.__iter__» :=
 entryFor_alias (id' := "dict_keyiterator.__iter__") (by kernel_rfl) rfl (by decide +kernel) (by kernel_rfl)
theorem UV:Manifest.owners.lookup (String.ofList ['r','o','t','a','r','e','t','i','_','t','e','s'].reverse)=some Manifest.sig_set_iterator:=by kernel_rfl
theorem XD (a:Value):argsOk "set_iterator.__next__" ⟨[a],[]⟩:=by
 unfold argsOk;rw [signature?_of (id := "set_iterator.__next__") (n:=['_','_','t','x','e','n','_','_']) (o:=['r','o','t','a','r','e','t','i','_','t','e','s']) (by kernel_rfl) UV];kernel_rfl
theorem Vd (a:Value):argsOk "set_iterator.__iter__" ⟨[a],[]⟩:=by
 unfold argsOk;rw [signature?_of (id := "set_iterator.__iter__") (n:=['_','_','r','e','t','i','_','_']) (o:=['r','o','t','a','r','e','t','i','_','t','e','s']) (by kernel_rfl) UV];kernel_rfl
theorem qM:entryFor table "set.__iter__" = some Builtin.«frozenset.__iter__» :=
 entryFor_alias (id' := "frozenset.__iter__") (by kernel_rfl) rfl (by decide +kernel) (by kernel_rfl)
theorem xc:typeLookup (.type "set") "__len__" = pure (some (.builtin "set.__len__")):=by rw [typeLookup_type,builtinLookup_eq_fast];kernel_rfl
open SetTable in
theorem UN {xs:Array Nat}:∀ (f hi:Nat),below.go xs 0 f 0 hi=0
 | 0,hi=>rfl
 | f+1,hi=>by
  unfold below.go
  split
  ·simp only
   rw [if_neg (by omega)]
   exact UN f _
  ·rfl
open SetTable in
def X6 (h:Heap) (a:Addr) (es:Array (Int × Value)) (ep:Nat) (t:SetTable):Prop:=∃ o,h.get? a=some o∧o.ExactSet∧o.data=.set es ep t
def WQ (h:Heap) (I a:Addr) (first:Value) (i:Nat) (n ep:Nat):Prop:=∃ o t1 t2 t3,h.get? I=some o∧o.cls=.type "set_iterator" ∧ o.data=.fields #[first,.int i t1,.ref a,.int n t2,.int ep t3]
theorem WQ.typeIs {s:Shared}{I a:Addr}{f:Value}{i n ep:Nat} (x:WQ s.heap I a f i n ep):s.TypeIs (.ref I) "set_iterator" := let ⟨o,_,_,_,ho,hc,_⟩:=x; ⟨o,ho,hc⟩
theorem WQ.at {h h':Heap}{I a:Addr}{f:Value}{i n ep:Nat} (x:WQ h I a f i n ep) (e:∀ o,h.get? I=some o→h'.get? I=some o):WQ h' I a f i n ep:=let ⟨o,t1,t2,t3,ho,r⟩:=x; ⟨o,t1,t2,t3,e _ ho,r⟩
theorem X6.at {h h':Heap}{a:Addr} {es ep t} (x:X6 h a es ep t) (e:∀ o,h.get? a=some o→h'.get? a=some o):X6 h' a es ep t:=let ⟨o,ho,r⟩:=x; ⟨o,e _ ho,r⟩
section
variable {prog:Program}{w:World}{A:Around}{E:Value→Shared→Prop}{s:Shared}
theorem X6.typeIs {a:Addr} {es ep t} (x:X6 s.heap a es ep t):s.TypeIs (.ref a) "set" := let ⟨o,ho,hc,_⟩:=x; ⟨o,ho,hc.1⟩
def WO (byText:Bool) (pick es:Array (Int × Value)) (place:Array Nat) (slot given:Nat):Option (Value × Nat):=
 if byText=true then (pick[given]?).map fun e=>(e.2,slot) else
  match es[SetTable.below place slot]?,place[SetTable.below place slot]? with
  | some (_,x),some j=>some (x,j+1)
  | _,_=>none
theorem zm {a:Addr} {es ep t} {slot given:Nat}{Q:Option (Value × Nat)→Shared→Prop} (hS:X6 s.heap a es ep t) (hf:t.fits es.size=true)
  (hw:w.params.followText "set-order" = false→t.led=true∧(t.plain=true∨es.size≤1)) (h:Q (WO (w.params.followText "set-order") (pickOrder (w.params.setOrder a ep) es) es t.place slot given) s) :
  wpAny (model prog w) A (setNext a slot given ep) Q E s:=by
 obtain ⟨o,ho,_,hd⟩:=hS
 unfold setNext
 refine wpAny_bind (wpAny_setState_of ho hd hf ?_)
 dsimp only
 have by_:∀ {Q:Bool→Shared→Prop},Q (w.params.followText "set-order") s→wpAny (model prog w) A setsByText Q E s:=fun {Q} hq=>by
  unfold setsByText
  exact wpAny_bind (wpAny_askSetting (wpAny_pure hq))
 refine wpAny_bind (by_ ?_)
 cases e:w.params.followText "set-order"
 ·simp only [Bool.false_eq_true,if_false]
  obtain ⟨h1,h2⟩:=hw e
  rw [e] at h
  show wpAny _ _ (if (!t.plain && decide (es.size > 1))=true then _ else (do (if (!t.led && !es.isEmpty)=true then unsupported "set:maker-not-led" else pure PUnit.unit);pure _)) Q E s
  have c:(!t.plain && decide (es.size > 1))=false:=by
   rcases h2 with h2 | h2
   ·rw [h2];rfl
   ·rw [decide_eq_false (by omega)];simp
  rw [c,h1]
  simp only [Bool.false_eq_true,if_false,Bool.not_true,Bool.false_and]
  refine wpAny_bind (wpAny_pure (wpAny_pure ?_))
  exact h
 ·simp only [if_true]
  rw [e] at h
  simp only [bne_self_eq_false,Bool.false_eq_true,if_false]
  unfold setWalk
  refine wpAny_bind (wpAny_bind (wpAny_setState_of ho hd hf ?_))
  dsimp only
  refine wpAny_bind (by_ ?_)
  rw [e]
  simp only [if_true]
  refine wpAny_bind (wpAny_askSetting (wpAny_pure (wpAny_pure ?_)))
  exact h
theorem next_item {I a:Addr}{slot i:Nat}{tk:Tok} {es ep t} {x:Value}{sl':Nat}{Q:Option Value→Shared→Prop} (hit:WQ s.heap I a (.int slot tk) i es.size ep) (hS:X6 s.heap a es ep t) (hf:t.fits es.size=true)
  (hw:w.params.followText "set-order" = false→t.led=true∧(t.plain=true∨es.size≤1)) (hx:WO (w.params.followText "set-order") (pickOrder (w.params.setOrder a ep) es) es t.place slot i=some (x,sl'))
  (hQ:∀ h' tk',WQ h' I a (.int sl' tk') (i+1) es.size ep→Heap.SameBut I s.heap h'→Q (some x) { s with heap:=h' }):wpAny (model prog w) A (pyNext (.ref I)) Q E s:=by
 obtain ⟨o,t1,t2,t3,ho,hc,hd⟩:=id hit
 obtain ⟨os,hos,hcs,hds⟩:=id hS
 unfold pyNext
 refine wpAny_bind (wpAny_attempt (wpAny_callSpecial?_slot (name:=Str.ofString "__next__") hit.typeIs ZP
  (wpAny_call_entry ZP hit.typeIs Xv ?_ (XD _))))
 show wpAny _ _ (fieldsOf (.ref I) >>= _) _ _ s
 refine wpAny_bind (wpAny_fieldsOf ho hd ?_)
 dsimp only
 refine wpAny_bind ?_
 unfold setEntries
 refine wpAny_bind (wpAny_setState_of hos hds hf (wpAny_pure ?_))
 dsimp only
 rw [if_neg (by simp)]
 refine wpAny_bind (zm hS hf hw ?_)
 have e1:((slot:Int)).toNat=slot:=Int.toNat_natCast _
 have e2:((i:Int)).toNat=i:=Int.toNat_natCast _
 have e3:((ep:Int)).toNat=ep:=Int.toNat_natCast _
 rw [e1,e2,e3,hx]
 dsimp only
 refine wpAny_bind (wpAny_setField ho hd (by simp) ?_)
 have ho1:=Heap.get?_update_self (Obj.mapFields (·.setIfInBounds 0 (rawInt (sl':Int)))) ho (Obj.isFreed_of_fields (Obj.data_mapFields hd _))
 have hd1:=Obj.data_mapFields hd (·.setIfInBounds 0 (rawInt (sl':Int)))
 refine wpAny_bind (wpAny_setField ho1 hd1 (by simp) ?_)
 have ho2:=Heap.get?_update_self (Obj.mapFields (·.setIfInBounds 1 (rawInt ((i:Int)+1)))) ho1 (Obj.isFreed_of_fields (Obj.data_mapFields hd1 _))
 have hd2:=Obj.data_mapFields hd1 (·.setIfInBounds 1 (rawInt ((i:Int)+1)))
 refine wpAny_pure ⟨_,rfl,wpAny_pure (hQ _ 0 ⟨_,0,t2,t3,ho2,((Obj.cls_mapFields ..).trans (Obj.cls_mapFields ..)).trans hc,by rw [hd2];simp [rawInt]⟩ ?_)⟩
 exact ⟨(Heap.size_update _ _ _).trans (Heap.size_update _ _ _),fun b hb=>(Heap.get?_update_other _ _ (Ne.symm hb)).trans (Heap.get?_update_other _ _ (Ne.symm hb))⟩
theorem next_end {I a:Addr}{slot i:Nat}{tk:Tok} {es ep t} {Q:Option Value→Shared→Prop} (hh:A.handled=none) (hit:WQ s.heap I a (.int slot tk) i es.size ep) (hS:X6 s.heap a es ep t) (hf:t.fits es.size=true)
  (hw:w.params.followText "set-order" = false→t.led=true∧(t.plain=true∨es.size≤1)) (hx:WO (w.params.followText "set-order") (pickOrder (w.params.setOrder a ep) es) es t.place slot i=none)
  (hQ:∀ h',Heap.ExtBut I s.heap h'→Q none { s with heap:=h' }):wpAny (model prog w) A (pyNext (.ref I)) Q E s:=by
 obtain ⟨o,t1,t2,t3,ho,hc,hd⟩:=id hit
 obtain ⟨os,hos,hcs,hds⟩:=id hS
 unfold pyNext
 refine wpAny_bind (wpAny_attempt (wpAny_callSpecial?_slot (name:=Str.ofString "__next__") hit.typeIs ZP
  (wpAny_call_entry ZP hit.typeIs Xv ?_ (XD _))))
 show wpAny _ _ (fieldsOf (.ref I) >>= _) _ _ s
 refine wpAny_bind (wpAny_fieldsOf ho hd ?_)
 dsimp only
 refine wpAny_bind ?_
 unfold setEntries
 refine wpAny_bind (wpAny_setState_of hos hds hf (wpAny_pure ?_))
 dsimp only
 rw [if_neg (by simp)]
 refine wpAny_bind (zm hS hf hw ?_)
 have e1:((slot:Int)).toNat=slot:=Int.toNat_natCast _
 have e2:((i:Int)).toNat=i:=Int.toNat_natCast _
 have e3:((ep:Int)).toNat=ep:=Int.toNat_natCast _
 rw [e1,e2,e3,hx]
 dsimp only
 refine wpAny_bind (wpAny_setField ho hd (by simp) ?_)
 refine wpAny_bind ?_
 simp only [newExc,newTuple]
 refine wpAny_bind (wpAny_newObj_type ?_ (by size_fits))
 refine wpAny_bind (m:=firstArgMember _ _) (wpAny_of_eq (a:=Value.none) (by first | rfl | (simp only [firstArgMember];rfl)) ?_)
 refine wpAny_newObj_type ?_ (by size_fits)
 simp only [raiseNew]
 refine wpAny_bind (wpAny_handled ?_)
 rw [show A.in1.handled=none from hh]
 refine wpAny_bind (wpAny_pure (wpAny_throw ?_))
 refine wpAny_bind (wpAny_isInstance (T := "StopIteration") (b:=true) ⟨_,Heap.get?_push_size _ rfl,rfl⟩ isSubtype_stop ?_)
 exact wpAny_pure (hQ _ (((Heap.SameBut.update ..).extBut.push _).push _))
def xi (h:Heap) (T:Addr) (ps:List Nat):Prop:=∃ o n,h.get? T=some o∧o.data=.seq ((ps.map fun (i:Nat)=>rawInt (i:Int)).toArray) n∧o.cls=.type "tuple"
theorem v9 {I a T:Addr}{i p:Nat} {es ep t} {ps:List Nat}{e:Int × Value}{Q:Option Value→Shared→Prop} (hit:WQ s.heap I a (.ref T) i es.size ep) (hS:X6 s.heap a es ep t) (hf:t.fits es.size=true)
  (hT:xi s.heap T ps) (hp:ps[i]?=some p) (he:es[p]?=some e)
  (hQ:∀ h',WQ h' I a (.ref T) (i+1) es.size ep→Heap.SameBut I s.heap h'→Q (some e.2) { s with heap:=h' }):wpAny (model prog w) A (pyNext (.ref I)) Q E s:=by
 obtain ⟨o,t1,t2,t3,ho,hc,hd⟩:=id hit
 obtain ⟨os,hos,hcs,hds⟩:=id hS
 obtain ⟨oT,nT,hoT,hdT,_⟩:=hT
 unfold pyNext
 refine wpAny_bind (wpAny_attempt (wpAny_callSpecial?_slot (name:=Str.ofString "__next__") hit.typeIs ZP
  (wpAny_call_entry ZP hit.typeIs Xv ?_ (XD _))))
 show wpAny _ _ (fieldsOf (.ref I) >>= _) _ _ s
 refine wpAny_bind (wpAny_fieldsOf ho hd ?_)
 dsimp only
 refine wpAny_bind ?_
 unfold setEntries
 refine wpAny_bind (wpAny_setState_of hos hds hf (wpAny_pure ?_))
 dsimp only
 rw [if_neg (by simp)]
 refine wpAny_bind (wpAny_seqItems hoT hdT ?_)
 dsimp only
 have e2:((i:Int)).toNat=i:=Int.toNat_natCast _
 have hpi:((ps.map fun (i:Nat)=>rawInt (i:Int)).toArray)[i]?=some (rawInt (p:Int)):=by simp [hp]
 rw [e2,hpi]
 show wpAny _ _ (setNextDrawn a ((p:Int)).toNat ((ep:Int)).toNat >>= _) _ _ s
 rw [Int.toNat_natCast,Int.toNat_natCast]
 refine wpAny_bind ?_
 unfold setNextDrawn
 refine wpAny_bind (wpAny_setState_of hos hds hf ?_)
 dsimp only
 simp only [bne_self_eq_false,Bool.false_eq_true,if_false,he]
 refine wpAny_pure ?_
 refine wpAny_bind (wpAny_setField ho hd (by simp) ?_)
 have ho2:=Heap.get?_update_self (Obj.mapFields (·.setIfInBounds 1 (rawInt ((i:Int)+1)))) ho (Obj.isFreed_of_fields (Obj.data_mapFields hd _))
 have hd2:=Obj.data_mapFields hd (·.setIfInBounds 1 (rawInt ((i:Int)+1)))
 refine wpAny_pure ⟨_,rfl,wpAny_pure (hQ _ ⟨_,0,t2,t3,ho2,(Obj.cls_mapFields ..).trans hc,by rw [hd2];simp [rawInt]⟩ ?_)⟩
 exact ⟨(Heap.size_update _ _ _),fun b hb=>(Heap.get?_update_other _ _ (Ne.symm hb))⟩
theorem nextD_end {I a T:Addr}{i:Nat} {es ep t} {ps:List Nat}{Q:Option Value→Shared→Prop} (hh:A.handled=none) (hit:WQ s.heap I a (.ref T) i es.size ep) (hS:X6 s.heap a es ep t) (hf:t.fits es.size=true)
  (hT:xi s.heap T ps) (hp:ps[i]?=none)
  (hQ:∀ h',Heap.ExtBut I s.heap h'→Q none { s with heap:=h' }):wpAny (model prog w) A (pyNext (.ref I)) Q E s:=by
 obtain ⟨o,t1,t2,t3,ho,hc,hd⟩:=id hit
 obtain ⟨os,hos,hcs,hds⟩:=id hS
 obtain ⟨oT,nT,hoT,hdT,_⟩:=hT
 unfold pyNext
 refine wpAny_bind (wpAny_attempt (wpAny_callSpecial?_slot (name:=Str.ofString "__next__") hit.typeIs ZP
  (wpAny_call_entry ZP hit.typeIs Xv ?_ (XD _))))
 show wpAny _ _ (fieldsOf (.ref I) >>= _) _ _ s
 refine wpAny_bind (wpAny_fieldsOf ho hd ?_)
 dsimp only
 refine wpAny_bind ?_
 unfold setEntries
 refine wpAny_bind (wpAny_setState_of hos hds hf (wpAny_pure ?_))
 dsimp only
 rw [if_neg (by simp)]
 refine wpAny_bind (wpAny_seqItems hoT hdT ?_)
 dsimp only
 have e2:((i:Int)).toNat=i:=Int.toNat_natCast _
 have hpi:((ps.map fun (i:Nat)=>rawInt (i:Int)).toArray)[i]?=none:=by simpa using hp
 rw [e2,hpi]
 dsimp only
 refine wpAny_bind (wpAny_setField ho hd (by simp) ?_)
 have ho1:=Heap.get?_update_self (Obj.mapFields (·.setIfInBounds 0 (rawInt 0))) ho (Obj.isFreed_of_fields (Obj.data_mapFields hd _))
 have hd1:=Obj.data_mapFields hd (·.setIfInBounds 0 (rawInt 0))
 refine wpAny_bind (wpAny_setField ho1 hd1 (by simp) ?_)
 refine wpAny_bind ?_
 simp only [newExc,newTuple]
 refine wpAny_bind (wpAny_newObj_type ?_ (by size_fits))
 refine wpAny_bind (m:=firstArgMember _ _) (wpAny_of_eq (a:=Value.none) (by first | rfl | (simp only [firstArgMember];rfl)) ?_)
 refine wpAny_newObj_type ?_ (by size_fits)
 simp only [raiseNew]
 refine wpAny_bind (wpAny_handled ?_)
 rw [show A.in1.handled=none from hh]
 refine wpAny_bind (wpAny_pure (wpAny_throw ?_))
 refine wpAny_bind (wpAny_isInstance (T := "StopIteration") (b:=true) ⟨_,Heap.get?_push_size _ rfl,rfl⟩ isSubtype_stop ?_)
 have sb:Heap.SameBut I s.heap ((s.heap.update I (Obj.mapFields (·.setIfInBounds 0 (rawInt 0)))).update I (Obj.mapFields (·.setIfInBounds 2 .none))):=
  ⟨(Heap.size_update _ _ _).trans (Heap.size_update _ _ _),fun b hb=>(Heap.get?_update_other _ _ (Ne.symm hb)).trans (Heap.get?_update_other _ _ (Ne.symm hb))⟩
 exact wpAny_pure (hQ _ ((sb.extBut.push _).push _))
end
section
variable {prog:Program}{w:World}{A:Around}{E:Value→Shared→Prop}{s:Shared}
theorem ju {src:Source}{n:Nat}{Q:Nat→Shared→Prop} (hn:n≠0) (h:∀ i dr,i<n→Q i { s with drawn:=dr }):wpAny (model prog w) A (choose src n) Q E s:=
 fun Γ p _=>⟨hn,h _ _ (Nat.mod_lt _ (Nat.pos_of_ne_zero hn))⟩
theorem jD (hh:A.handled=none) {I a:Addr} (hne:a≠I) {es:Array (Int × Value)}{ep:Nat}{t:SetTable} (hf:t.fits es.size=true)
  (hw:w.params.followText "set-order" = false→t.led=true∧(t.plain=true∨es.size≤1)) {seq:List Value}{sls:Nat→Nat}
  (h1:∀ i x,seq[i]?=some x→WO (w.params.followText "set-order") (pickOrder (w.params.setOrder a ep) es) es t.place (sls i) i=some (x,sls (i+1)))
  (h2:WO (w.params.followText "set-order") (pickOrder (w.params.setOrder a ep) es) es t.place (sls seq.length) seq.length=none) :
  Walks prog w A I [I,a] [I] seq.length (fun i v=>seq[i]?=some v) (fun i h=>(∃ tk,WQ h I a (.int (sls i) tk) i es.size ep)∧X6 h a es ep t) where
 sub:=fun b hb=>by simp at hb;simp [hb]
 frame:=fun i h h' st hk=>⟨let ⟨tk,x⟩:=st.1; ⟨tk,x.at fun o e=>hk I (by simp) o e⟩,st.2.at fun o e=>hk a (by simp) o e⟩
 item:=fun i s Q E hi st hQ=>by
  obtain ⟨⟨tk,hit⟩,hS⟩:=st
  have e:seq[i]?=some seq[i]:=List.getElem?_eq_getElem hi
  refine next_item hit hS hf hw (h1 i _ e) fun h' tk' hit' sb=>?_
  exact hQ _ h' s.toks e ⟨⟨tk',hit'⟩,hS.at fun o z=>by rw [sb.2 a hne];exact z⟩ fun b o hb z=>by rw [sb.2 b (fun h=>hb (by simp [h]))];exact z
 done:=fun s Q E st hQ=>by
  obtain ⟨⟨tk,hit⟩,hS⟩:=st
  exact next_end hh hit hS hf hw h2 fun h' x=>hQ h' s.toks fun b o hb z=>x b o (fun h=>hb (by simp [h])) z
 self:=fun i s Q E st hQ=>by
  obtain ⟨⟨tk,hit⟩,hS⟩:=st
  refine wpAny_pyIter_slot hit.typeIs XE (wpAny_call_entry XE hit.typeIs WM ?_ (Vd _))
  show wpAny _ _ (ret (.ref I)) _ _ s
  exact wpAny_pure ⟨_,rfl, "set_iterator",_,hit.typeIs,ZP.lookup,hQ⟩
theorem jB (hh:A.handled=none) {I a T:Addr} (hne:a≠I) (hnT:T≠I) {es:Array (Int × Value)}{ep:Nat}{t:SetTable} (hf:t.fits es.size=true) {ps:List Nat}{seq:List Value} (hl:seq.length=ps.length)
  (h1:∀ (i:Nat) x,seq[i]?=some x→∃ p e,ps[i]?=some p∧es[p]?=some e∧x=e.2) :
  Walks prog w A I [I,a,T] [I] seq.length (fun i v=>seq[i]?=some v) (fun i h=>WQ h I a (.ref T) i es.size ep∧X6 h a es ep t∧xi h T ps) where
 sub:=fun b hb=>by simp at hb;simp [hb]
 frame:=fun i h h' st hk=>⟨st.1.at fun o e=>hk I (by simp) o e,st.2.1.at fun o e=>hk a (by simp) o e,let ⟨o,n,e,r⟩:=st.2.2; ⟨o,n,hk T (by simp) o e,r⟩⟩
 item:=fun i s Q E hi st hQ=>by
  obtain ⟨hit,hS,hT⟩:=st
  have e:seq[i]?=some seq[i]:=List.getElem?_eq_getElem hi
  obtain ⟨p,en,e1,e2,e3⟩:=h1 i _ e
  refine v9 hit hS hf hT e1 e2 fun h' hit' sb=>?_
  rw [← e3]
  refine hQ _ h' s.toks e ⟨hit',hS.at fun o z=>by rw [sb.2 a hne];exact z,let ⟨o,n,z,r⟩:=hT; ⟨o,n,by rw [sb.2 T hnT];exact z,r⟩⟩ fun b o hb z=>by rw [sb.2 b (fun h=>hb (by simp [h]))];exact z
 done:=fun s Q E st hQ=>by
  obtain ⟨hit,hS,hT⟩:=st
  exact nextD_end hh hit hS hf hT (List.getElem?_eq_none_iff.mpr (by omega)) fun h' x=>hQ h' s.toks fun b o hb z=>x b o (fun h=>hb (by simp [h])) z
 self:=fun i s Q E st hQ=>by
  obtain ⟨hit,hS,hT⟩:=st
  refine wpAny_pyIter_slot hit.typeIs XE (wpAny_call_entry XE hit.typeIs WM ?_ (Vd _))
  show wpAny _ _ (ret (.ref I)) _ _ s
  exact wpAny_pure ⟨_,rfl, "set_iterator",_,hit.typeIs,ZP.lookup,hQ⟩
end
structure Elts (prog:Program) (w:World) (n:Nat) (vs:List Value) (s:Shared):Prop where
 ref:∀ v∈vs,∃ b,v=.ref b
 hash:∀ v∈vs,∀ (A:Around) (E:Value→Shared→Prop) (Q:Int→Shared→Prop),A.units+n<cLine→(∀ i tk,Q i { s with toks:=tk })→wpAny (model prog w) A (pyHash v) Q E s
 eq:∀ u∈vs,∀ v∈vs,EqAny prog w n s u v
 quiet:∀ v∈vs,Quiet prog w 8 s v
 oa:∀ v∈vs,OaNo prog w 8 s v
 hb:∀ v∈vs,HbAny prog w 8 s v
theorem UT {h:Heap}{b:Addr} (hb:h.objs.size≤b):h.get? b=none:=by
 cases e:h.get? b with
 | none=>rfl
 | some o=>exact absurd (Heap.lt_size e) (Nat.not_lt.mpr hb)
theorem vQ (t:SetTable) (es:Array (Int × Value)) (h:Int) (x:Value):(layNew t es h x).2.1.led=t.led:=by
 unfold layNew
 split
 ·dsimp only
  unfold SetTable.orStandIn
  split <;> rfl
 ·rfl
theorem y6 (t:SetTable) (es:Array (Int × Value)) (n:Nat):(relayAll t es n).2.1.led=t.led:=by
 unfold relayAll
 split
 ·rename_i t' order he
  dsimp only
  split
  ·unfold SetTable.relaid SetTable.laid at he
   cases hc:SetTable.layClean (SetTable.sizeAbove n - 1) (es.map (·.1)) with
   | none=>rw [hc] at he;cases he
   | some ow=>rw [hc] at he;cases he;rfl
  ·rfl
 ·rfl
section
variable {prog:Program}{w:World}{A:Around}{E:Value→Shared→Prop}{R:Result→Shared→Prop}{n:Nat}{h0:Heap}{s:Shared}
theorem set_loopG {SI:Heap→List Value→Prop}{I ax S:Addr}{items:List Value} (hh:A.handled=none) (hne:ax≠I) (hSI:S≠I) (hSa:S≠ax) (h0S:h0.get? S=none) (h0I:h0.get? I=none)
  (hkeep:∀ {h h' vs},SI h vs→(∀ o,h.get? S=some o→h'.get? S=some o)→SI h' vs)
  (hadd:∀ (s:Shared) (i:Nat) (v:Value),items[i]?=some v→(∀ b o,h0.get? b=some o→s.heap.get? b=some o)→SI s.heap (items.take i) →
   ∀ (E:Value→Shared→Prop) (Q:Bool→Shared→Prop),(∀ h' tk b,Heap.SameBut S s.heap h'→SI h' (items.take i++[v])→Q b { s with heap:=h',toks:=tk })→wpAny (model prog w) A.in1 (setAdd S v) Q E s) :
  ∀ (c i:Nat) (s:Shared),items.length - i=c→i≤items.length→s.heap.IsListIter I ax i∧s.heap.IsList ax items.toArray→(∀ b o,h0.get? b=some o→s.heap.get? b=some o) →
   SI s.heap (items.take i) →
   (∀ (h':Heap) (tk:Nat),SI h' items→(∀ b o,b≠S→b≠I→s.heap.get? b=some o→h'.get? b=some o)→R (.ok (.ret .none)) { s with heap:=h',toks:=tk }) →
   codeAny (model prog w) A (.builtin "set.update.loop" ⟨[.ref S,.ref I],[]⟩) R s:=by
 have W:=Walks.list (prog:=prog) (w:=w) (A:=A.in1) (by simpa using hh) I ax hne items.toArray
 have zs:items.toArray.size=items.length:=by simp
 intro c
 induction c with
 | zero=>
  intro i s hc hi st hg hS hR
  have e:i=items.toArray.size:=by omega
  subst e
  refine codeAny_builtin PyProof.Rows.F.entry_set_update_loop ?_
  rw [Around.under_plainId PyProof.Rows.F.plain_set_update_loop _]
  show wpAny _ A.in1 (pyNext (.ref I) >>= _) _ _ s
  refine wpAny_bind (W.done s _ _ st fun h' tk hk=>?_)
  show wpAny _ A.in1 (ret Value.none) _ _ _
  have et:items.take items.toArray.size=items:=by rw [zs];exact List.take_length
  rw [et] at hS
  exact wpAny_pure (hR h' tk (hkeep hS fun o z=>hk S o (by simpa using hSI) z) fun b o _ hbI z=>hk b o (by simpa using hbI) z)
 | succ c ih=>
  intro i s hc hi st hg hS hR
  have hlt:i<items.toArray.size:=by omega
  refine codeAny_builtin PyProof.Rows.F.entry_set_update_loop ?_
  rw [Around.under_plainId PyProof.Rows.F.plain_set_update_loop _]
  show wpAny _ A.in1 (pyNext (.ref I) >>= _) _ _ s
  refine wpAny_bind (W.item i s _ _ hlt st fun v h1 tk hP st1 hk=>?_)
  have hvi:items[i]?=some v:=by simpa using hP
  have hS1:SI h1 (items.take i):=hkeep hS fun o z=>hk S o (by simpa using hSI) z
  have hg1:∀ b o,h0.get? b=some o→h1.get? b=some o:=fun b o z=>hk b o (by simp;rintro rfl;rw [h0I] at z;cases z) (hg b o z)
  show wpAny _ A.in1 (holding [v] (setAdd S v) >>= _) _ _ { s with heap:=h1,toks:=tk }
  refine wpAny_bind (wpAny_holding ?_)
  refine hadd { s with heap:=h1,toks:=tk } i v hvi hg1 hS1 _ _ fun h2 tk2 bb hsb hS2=>?_
  have et:items.take (i+1)=items.take i++[v]:=by rw [List.take_add_one,hvi];rfl
  rw [← et] at hS2
  refine wpAny_pure ⟨plainId_quiet PyProof.Rows.F.plain_set_update_loop _,ih (i+1) _ (by omega) (by omega) (W.frame _ _ _ st1 fun b hb o z=>?_) (fun b o z=>?_) hS2 fun h' tk'' a1 a4=>?_⟩
  ·rw [hsb.2 b (fun q=>by subst q;simp at hb;exact hb.elim hSI hSa)];exact z
  ·show h2.get? b=some o
   rw [hsb.2 b (by rintro rfl;rw [h0S] at z;cases z)];exact hg1 b o z
  ·exact hR h' tk'' a1 fun b o hbS hbI z=>a4 b o hbS hbI (by show h2.get? b=some o;rw [hsb.2 b hbS];exact hk b o (by simpa using hbI) z)
theorem zr (a:Value) {Q₁:Value→Shared→Prop}
  (h:Q₁ (.ref s.heap.objs.size) { s with heap:=s.heap.push { cls:=.type "set",dict:=none,data:=.set #[] 0 (.fresh 0 0 (!w.params.followText "set-order")) } }) :
  codeAny (model prog w) A (.call (.builtin "set.__new__") ⟨[.type "set",a],[]⟩) (wants Q₁ E) s:=by
 refine codeAny_of_tree ?_
 show wpAny _ A.in1 (do checkBuiltinCall "set.__new__" ⟨[.type "set",a],[]⟩;again (.builtin "set.__new__" ⟨[.type "set",a],[]⟩)) _ _ s
 refine wpAny_bind (wpAny_of_eq (PySem.F.newCall_set_1 a) (wpAny_pure ⟨plainId_quiet PySem.F.plain_set_new _,codeAny_builtin PySem.F.entry_set_new ?_⟩))
 rw [Around.under_plainId PySem.F.plain_set_new _]
 unfold Builtin.«set.__new__» Builtin.Frozenset.newClass
 have hsub:=sub_set_self
 obtain ⟨hp,g,d,tk,os⟩:=s
 dsimp only
 wp_walk
 refine wpAny_askSetting (wpAny_pure ?_)
 dsimp only
 simp only [newObj]
 refine wpAny_bind (wpAny_alloc (wpAny_pure ?_))
 exact wpAny_pure h
end
section
variable {prog:Program}{w:World}{A:Around}{E:Value→Shared→Prop}{n:Nat}
theorem call_setG {s:Shared}{l:Addr}{items:List Value}{SI:Heap→List Value→Prop}{Q:Value→Shared→Prop} (hh:A.handled=none) (hl:s.heap.IsList l items.toArray)
  (hkeep:∀ {h h' vs},SI h vs→(∀ o,h.get? s.heap.objs.size=some o→h'.get? s.heap.objs.size=some o)→SI h' vs)
  (hnew:SI (s.heap.push { cls:=.type "set",dict:=none,data:=.set #[] 0 (.fresh 0 0 (!w.params.followText "set-order")) }) [])
  (hadd:∀ (A':Around) (s':Shared) (i:Nat) (v:Value),A'.units≤A.units+5→items[i]?=some v→(∀ b o,s.heap.get? b=some o→s'.heap.get? b=some o)→SI s'.heap (items.take i) →
   ∀ (E:Value→Shared→Prop) (Q:Bool→Shared→Prop),(∀ h' tk b,Heap.SameBut s.heap.objs.size s'.heap h'→SI h' (items.take i++[v])→Q b { s' with heap:=h',toks:=tk })→wpAny (model prog w) A' (setAdd s.heap.objs.size v) Q E s')
  (h:∀ (h':Heap) (tk:Nat),SI h' items→(∀ b o,s.heap.get? b=some o→h'.get? b=some o)→Q (.ref s.heap.objs.size) { s with heap:=h',toks:=tk }) :
  wpAny (model prog w) A (call (.type "set") [.ref l]) Q E s:=by
 have hmade:=PySem.F.called_set.made
 have hsub:=PySem.F.called_set.sub
 obtain ⟨c,tl,hmro⟩:=PySem.F.called_set.mro
 refine wpAny_call (codeAny_of_tree (wpAny_pure ⟨Code.quiet_builtin _ (by decide +kernel),codeAny_builtin PySem.F.entry_type_call ?_⟩))
 rw [Around.under_plain (weight_type_call_type "set" [.ref l] []) rfl]
 have g1:=PySem.F.called_set.notType
 have g2:=PySem.F.called_set.canCreate
 have g3:=PySem.F.typeCall_set_1 (.ref l)
 repeat (any_goals (first | assumption | wp_step))
 generalize hled:(!w.params.followText "set-order")=led at hnew
 refine codeAny_mono (zr (.ref l) (E:=E) (Q₁:=fun obj t=>obj=.ref s.heap.objs.size∧t={ s with heap:=s.heap.push { cls:=.type "set",dict:=none,data:=.set #[] 0 (.fresh 0 0 led) } }) ⟨rfl,by rw [hled]⟩) fun r t hr=>?_
 cases r with
 | error e=>exact hr
 | ok fl=>
  cases fl with
  | ret obj=>
   obtain ⟨rfl,rfl⟩:=hr
   have hS:(s.heap.push { cls:=.type "set",dict:=none,data:=.set #[] 0 (.fresh 0 0 led) }).get? s.heap.objs.size=some { cls:=.type "set",dict:=none,data:=.set #[] 0 (.fresh 0 0 led) }:=Heap.get?_push_size _ rfl
   have hT:Shared.TypeIs { s with heap:=s.heap.push { cls:=.type "set",dict:=none,data:=.set #[] 0 (.fresh 0 0 led) } } (.ref s.heap.objs.size) "set" := ⟨_,hS,rfl⟩
   have hli:=PySem.F.called_set.init.lookup
   have hbi:=PySem.F.called_set.init.bind (.ref s.heap.objs.size)
   repeat (any_goals (first | assumption | wp_step))
   refine codeAny_mono (codeAny_call_builtin (R:=wants (fun r u=>r=.none∧∃ h' tk,u={ s with heap:=h',toks:=tk }∧SI h' items ∧
     (∀ b o,s.heap.get? b=some o→h'.get? b=some o)) E) PySem.F.called_set.init.plain PySem.F.entry_set_init (check_set_init_1 hT ?_)) fun r2 u hr2=>?_
   ·obtain ⟨ol,hol,hcl,nl,hdl⟩:=hl
    obtain ⟨ocls,odict,odata,oslots⟩:=ol
    simp only at hcl hdl
    subst hcl;subst hdl
    have hol':(s.heap.push { cls:=.type "set",dict:=none,data:=.set #[] 0 (.fresh 0 0 led) }).get? l=some { cls:=.type "list",dict:=odict,data:=.seq items.toArray nl,slots:=oslots }:=Heap.get?_push_of_some _ hol
    have hsls:=PySem.F.sub_list_set
    have hslf:=PySem.F.sub_list_frozenset
    have hne:(Value.type "list" == Value.type "dict")=false:=by decide
    have hl1:(s.heap.push { cls:=.type "set",dict:=none,data:=.set #[] 0 (.fresh 0 0 led) }).IsList l items.toArray:=⟨_,hol',rfl,nl,rfl⟩
    unfold Builtin.«set.__init__» noKeywords Builtin.Frozenset.updateFrom
    generalize hPI:pyIter=PI
    wp_walk
    subst hPI
    refine wpAny_pyIter_list hl1 ?_
    refine wpAny_bind (wpAny_runValue ?_)
    have hlS:l<s.heap.objs.size:=Heap.lt_size hol
    have z1:(s.heap.push { cls:=.type "set",dict:=none,data:=.set #[] 0 (.fresh 0 0 led) }).objs.size=s.heap.objs.size+1:=Heap.size_push _ _
    refine set_loopG (h0:=s.heap) (SI:=SI) (items:=items) (ax:=l) (by simpa using hh) (by rw [z1];exact Nat.ne_of_lt (Nat.lt_succ_of_lt hlS)) (by rw [z1];exact Nat.ne_of_lt (Nat.lt_succ_self _)) (Nat.ne_of_gt hlS)
     (UT (Nat.le_refl _)) (UT (by rw [z1];exact Nat.le_succ _)) hkeep (fun s' i v hv hg hS E Q hQ=>hadd _ s' i v ?hu hv hg hS E Q hQ) (items.length - 0) 0 _ (by omega) (Nat.zero_le _)
     ⟨⟨_,Heap.get?_push_size _ rfl,rfl,rfl⟩,(hl1.push _)⟩ (fun b o z=>Heap.get?_push_of_some _ (Heap.get?_push_of_some _ z)) ?hS0 ?hR
    case hu=>simp only [Around.in1_units];omega
    case hS0=>exact hkeep hnew fun o z=>Heap.get?_push_of_some _ z
    case hR=>
     intro h' tk a1 a4
     show wpAny _ _ _ _ _ _
     refine wpAny_pure ?_
     show wpAny _ _ (ret Value.none) _ _ _
     refine wpAny_pure ⟨rfl,h',tk,rfl,a1,fun b o z=>?_⟩
     have hlt:=Heap.lt_size z
     exact a4 b o (Nat.ne_of_lt hlt) (by rw [z1];exact Nat.ne_of_lt (Nat.lt_succ_of_lt hlt)) (Heap.get?_push_of_some _ (Heap.get?_push_of_some _ z))
   ·cases r2 with
    | error e=>exact hr2
    | ok fl2=>
     cases fl2 with
     | ret r=>
      obtain ⟨rfl,h',tk,rfl,a1,a4⟩:=hr2
      repeat (any_goals (first | assumption | wp_step))
      exact h _ _ a1 a4
     | _=>exact hr2.elim
  | _=>exact hr.elim
end
section
variable {prog:Program}{w:World}{n:Nat}{s:Shared}{A:Around}{E:Value→Shared→Prop}
end
section
variable {prog:Program}{w:World}{A:Around}{E:Value→Shared→Prop}{s:Shared}
end
end L3
namespace L3
open PySem PySem.Spec PyProof.Rows L2
def WX:Value→Str
 | .str x _=>x
 | _=>Str.empty
theorem qu {t:SetTable} (es:Array (Int × Value)) (n:Nat) (h:t.plain=false):(relayAll t es n).2.1.plain=false:=by
 unfold relayAll
 split
 ·rename_i t' order he
  dsimp only
  split
  ·unfold SetTable.relaid SetTable.laid at he
   cases hc:SetTable.layClean (SetTable.sizeAbove n - 1) (es.map (·.1)) with
   | none=>rw [hc] at he;cases he
   | some ow=>rw [hc] at he;cases he;exact h
  ·rfl
 ·rfl
def Up (prog:Program) (w:World) (B:Bool) (h:Heap) (a:Addr) (ss:List Str):Prop:=
 ∃ o es ep t,h.get? a=some o∧o.ExactSet∧o.data=.set es ep t∧t.fits es.size=true∧ElemsOf (Zs prog w) es.toList∧(B=false→t.led=true)∧(0<es.size→t.plain=false) ∧
  (∀ e∈es.toList,∃ x k,e.2=.str x k)∧(es.toList.map fun e=>WX e.2).Nodup∧(∀ x,x∈(es.toList.map fun e=>WX e.2)↔x∈ss)∧es.size≤ss.length
theorem Up.keep {prog:Program}{w:World}{B:Bool}{h h':Heap}{a:Addr}{ss:List Str} (x:Up prog w B h a ss) (k:∀ o,h.get? a=some o→h'.get? a=some o):Up prog w B h' a ss:=by
 obtain ⟨o,es,ep,t,ho,r⟩:=x
 exact ⟨o,es,ep,t,k o ho,r⟩
section
variable {prog:Program}{w:World}{A:Around}{E:Value→Shared→Prop}{s:Shared}
theorem vP {B:Bool}{a:Addr}{ss:List Str}{x:Str}{tk:Tok}{Q:Bool→Shared→Prop} (hS:Up prog w B s.heap a ss) (hroom:ss.length+1<scanBound)
  (h:∀ h' b,Heap.SameBut a s.heap h'→Up prog w B h' a (ss++[x])→Q b { s with heap:=h' }) :
  wpAny (model prog w) A (setAddHashed a (.str x tk) ((Zs prog w).hash (.inr x))) Q E s:=by
 have hkey:(Zs prog w).is (.inr x) (.str x tk)=true:=Wq x tk
 have hsc:(Value.str x tk).scannable=true:=rfl
 obtain ⟨o,es,ep,t,ho,hex,hd,hf,hel,hL,hpl,hst,hnd,hin,hle⟩:=hS
 have hb:es.size<scanBound:=by omega
 have isx:∀ e∈es.toList,((Zs prog w).is (.inr x) e.2=true↔WX e.2=x):=fun e m=>by
  obtain ⟨y,k,ey⟩:=hst e m
  rw [ey]
  constructor
  ·intro q
   have q2:Vc (.inr x) (.str y k)=true:=q
   rcases Yu q2 with ⟨i,t',e1,e2⟩ | ⟨z,t',e1,e2⟩
   ·cases e1
   ·cases e1;cases e2;rfl
  ·intro q
   have q':y=x:=q
   subst q'
   exact Wq y k
 unfold setAddHashed setAddHashedIn
 refine wpAny_holding (wpAny_bind (wpAny_setState_of ho hd hf ?_))
 dsimp only
 rw [byScan_of hsc hb hel]
 simp only [↓reduceIte]
 unfold setAddByScan
 refine wpAny_bind ?_
 refine wpAny_bind (wpAny_rule ?_)
 refine wpAny_bind (wpAny_setScan_of hkey ho hd hf hel ?_)
 cases hr:List.findIdx? (fun e=>(Zs prog w).is (.inr x) e.2) es.toList with
 | some j=>
  dsimp only
  obtain ⟨hj,hpj,_⟩:=List.findIdx?_eq_some_iff_getElem.mp hr
  refine wpAny_pure (wpAny_pure ?_)
  have e:s={ s with heap:=s.heap }:=by cases s;rfl
  rw [e]
  have hm:x∈ss:=(hin x).mp (List.mem_map.mpr ⟨es.toList[j],List.getElem_mem hj,(isx _ (List.getElem_mem hj)).mp hpj⟩)
  refine h s.heap false (Heap.SameBut.refl a s.heap) ⟨o,es,ep,t,ho,hex,hd,hf,hel,hL,hpl,hst,hnd,fun y=>?_,by rw [List.length_append];omega⟩
  rw [hin y,List.mem_append,List.mem_singleton]
  exact ⟨.inl,fun q=>q.elim id fun q=>q ▸ hm⟩
 | none=>
  dsimp only
  have hnone:∀ e∈es.toList,WX e.2≠x:=fun e m q=>by
   have:=List.findIdx?_eq_none_iff.mp hr e m
   rw [(isx e m).mpr q] at this
   cases this
  have hgw:∀ (b:Bool) {s₁:Shared}{Q':Unit→Shared→Prop},Q' () s₁→wpAny (model prog w) A (match b with | true=>rule "set.scan.the-table-gave-way" | false=>pure ()) Q' E s₁:=
   fun b s₁ Q' hq=>by cases b <;> first | exact wpAny_pure hq | exact wpAny_rule hq
  have hperm:=layNew_perm t es ((Zs prog w).hash (.inr x)) (.str x tk)
  have hfits:=layNew_fits t es ((Zs prog w).hash (.inr x)) (.str x tk)
  have hled:=vQ t es ((Zs prog w).hash (.inr x)) (.str x tk)
  generalize hLn:layNew t es ((Zs prog w).hash (.inr x)) (.str x tk)=L at hperm hfits hled ⊢
  obtain ⟨es1,t1,wasDummy,gave⟩:=L
  dsimp only at hperm hfits hled ⊢
  rw [Array.toList_push] at hperm
  have hel1:ElemsOf (Zs prog w) es1.toList:=(hel.push hkey hsc).perm hperm
  have hsz1:es1.size=es.size+1:=by rw [← Array.length_toList,hperm.length_eq,List.length_append,Array.length_toList];rfl
  have good:∀ (es2:Array (Int × Value)),es2.toList.Perm es1.toList→(∀ e∈es2.toList,∃ x k,e.2=.str x k)∧(es2.toList.map fun e=>WX e.2).Nodup∧(∀ y,y∈(es2.toList.map fun e=>WX e.2)↔y∈ss++[x]):=fun es2 hp=>by
   have hp2:=hp.trans hperm
   have hm:=hp2.map fun e=>WX e.2
   rw [List.map_append] at hm
   refine ⟨fun e m=>?_,hm.nodup_iff.mpr (List.nodup_append.mpr ⟨hnd,by simp,fun u hu v hv=>?_⟩),fun y=>?_⟩
   ·rcases List.mem_append.mp (hp2.mem_iff.mp m) with m | m
    ·exact hst e m
    ·rw [List.mem_singleton] at m;subst m;exact ⟨x,tk,rfl⟩
   ·obtain ⟨e,m,rfl⟩:=List.mem_map.mp hu
    have:v=x:=by simpa [WX] using hv
    rw [this]
    exact hnone e m
   ·rw [hm.mem_iff,List.mem_append,List.mem_append,hin y]
    simp [WX]
  refine wpAny_bind (hgw _ ?_)
  have Xc:∀ t2:SetTable,t2.fits es1.size=true→t2.led=t.led→t2.plain=false→wpAny (model prog w) A (do
    storeSet a es1 t2
    if (!wasDummy && t2.tooFull)=true then do
      (match (relayAll t2 es1 (SetTable.grown es1.size)).2.2 with | true=>rule "set.scan.the-table-gave-way" | false=>pure ())
      storeSet a (relayAll t2 es1 (SetTable.grown es1.size)).1 (relayAll t2 es1 (SetTable.grown es1.size)).2.1
      pure (some true)
     else pure (some true)) (fun a_1 s'=>wpAny (model prog w) A (match a_1 with | some added=>pure added | none=>setAddHashedIn a (.str x tk) ((Zs prog w).hash (.inr x)) 99999) Q E s') E s:=by
   intro t2 f2 l2 p2
   refine wpAny_bind (wpAny_storeSet_of ho hd ?_ (by rw [sizeLine_eq];have:scanBound=4096:=rfl;omega))
   have hg:=yI (es':=es1) (t':=t2) ho hd
   have sb:=Heap.SameBut.update s.heap a (Obj.putSet es1 t2)
   split
   ·have hp:=relayAll_perm t2 es1 (SetTable.grown es1.size)
    have hfr:=relayAll_fits t2 es1 (SetTable.grown es1.size)
    have hlr:=y6 t2 es1 (SetTable.grown es1.size)
    have hpr:=qu es1 (SetTable.grown es1.size) p2
    generalize hRl:relayAll t2 es1 (SetTable.grown es1.size)=Rl at hp hfr hlr hpr ⊢
    obtain ⟨es2,t3,gave2⟩:=Rl
    dsimp only at hp hfr hlr hpr ⊢
    have hsz:es2.size=es1.size:=by rw [← Array.length_toList,hp.length_eq,Array.length_toList]
    refine wpAny_bind (hgw _ ?_)
    refine wpAny_bind (wpAny_storeSet_of hg rfl ?_ (by rw [sizeLine_eq];have:scanBound=4096:=rfl;omega))
    have hg':=yI (es':=es2) (t':=t3) hg rfl
    obtain ⟨g1,g2,g3⟩:=good es2 hp
    exact wpAny_pure (wpAny_pure (h _ true (sb.trans (Heap.SameBut.update _ a _)) ⟨_,es2,_,t3,hg',hex,rfl,hfr,hel1.perm hp,(fun z=>by rw [hlr,l2];exact hL z),fun _=>hpr,g1,g2,g3,by rw [hsz,hsz1,List.length_append];simp;omega⟩))
   ·obtain ⟨g1,g2,g3⟩:=good es1 (.refl _)
    exact wpAny_pure (wpAny_pure (h _ true sb ⟨_,es1,_,t2,hg,hex,rfl,f2,hel1,(fun z=>by rw [l2];exact hL z),fun _=>p2,g1,g2,g3,by rw [hsz1,List.length_append];simp;omega⟩))
  cases hp1:t1.plain with
  | true=>
   simp only [if_true]
   refine wpAny_bind ?_
   rw [hashByValue_scannable 8 hsc]
   refine wpAny_pure ?_
   show wpAny _ _ (do storeSet a es1 { t1 with plain:=false }; _) _ _ _
   exact Xc _ (SetTable.fits_plain_off hfits) hled rfl
  | false=>
   simp only [Bool.false_eq_true,if_false]
   refine wpAny_bind (wpAny_pure ?_)
   simp only [↓reduceIte]
   exact Xc t1 hfits hled hp1
theorem call_setX {l:Addr}{ss:List Str}{items:List Value}{Q:Value→Shared→Prop} (hh:A.handled=none) (hl:s.heap.IsList l items.toArray) (hv:ZE (ss.map V.str) items) (hb:ss.length<1000)
  (h:∀ (h':Heap) (tk:Nat),Up prog w (w.params.followText "set-order") h' s.heap.objs.size ss→(∀ b o,s.heap.get? b=some o→h'.get? b=some o)→Q (.ref s.heap.objs.size) { s with heap:=h',toks:=tk }) :
  wpAny (model prog w) A (call (.type "set") [.ref l]) Q E s:=by
 have len:items.length=ss.length:=by rw [← hv.length,List.length_map]
 have hmap:items.map WX=ss:=by
  clear h hb len hl
  induction ss generalizing items with
  | nil=>cases hv;rfl
  | cons y r ih=>
   cases hv with
   | cons h1 h2=>
    obtain ⟨t,rfl⟩:=h1
    rw [List.map_cons,ih h2]
    rfl
 have hstr:∀ v∈items,∃ x k,v=.str x k:=by
  clear h hb len hl hmap
  induction ss generalizing items with
  | nil=>cases hv;intro v h;cases h
  | cons y r ih=>
   cases hv with
   | cons h1 h2=>
    obtain ⟨t,rfl⟩:=h1
    intro v hm
    rcases List.mem_cons.mp hm with rfl | hm
    ·exact ⟨_,_,rfl⟩
    ·exact ih h2 v hm
 refine call_setG (SI:=fun h vs=>Up prog w (w.params.followText "set-order") h s.heap.objs.size (vs.map WX)) hh hl (fun x k=>x.keep k) ?_ ?_ fun h' tk a b=>h h' tk (by rw [hmap] at a;exact a) b
 ·exact ⟨_,#[],0,_,Heap.get?_push_size _ rfl,⟨rfl,rfl,rfl⟩,rfl,by rfl,(fun e he=>by simp at he),(fun z=>by show (!_)=true;rw [z];rfl),(fun z=>absurd z (by simp)),(fun e he=>by simp at he),by simp,fun x=>by simp,Nat.zero_le _⟩
 ·intro A' s' i v hA hvi hg hS E Q hQ
  obtain ⟨x,k,rfl⟩:=hstr v (List.mem_of_getElem? hvi)
  unfold setAdd
  refine wpAny_holding (wpAny_bind ((Zs prog w).pyHash (k:=.inr x) (Wq x k) ?_))
  refine vP (s:={ s' with toks:=s'.toks+1 }) (ss:=(items.take i).map WX) hS (by rw [List.length_map,List.length_take];have:scanBound=4096:=rfl;omega) fun h' b sb hS'=>hQ h' _ b sb ?_
  rw [List.map_append]
  exact hS'
end
section
variable {prog:Program}{w:World}{A:Around}{E:Value→Shared→Prop}{s:Shared}
theorem VW {α:Type}:∀ {l:List α}{i:Nat} (h:i<l.length),l.Perm (l[i] :: l.eraseIdx i)
 | x :: r,0,_=>.refl _
 | x :: r,i+1,h=>by
  have hi:i<r.length:=by simpa using h
  have ih:=VW hi
  show (x :: r).Perm (r[i] :: x :: r.eraseIdx i)
  exact (ih.cons x).trans (.swap _ _ _)
theorem qt {α:Type} (n:Nat):∀ (xs:List α) {s:Shared}{Q:List α→Shared→Prop},xs.length=n→(∀ ys dr,ys.Perm xs→Q ys { s with drawn:=dr })→wpAny (model prog w) A (drawOrder n xs) Q E s:=by
 induction n with
 | zero=>
  intro xs s Q hl h
  have:xs=[]:=List.eq_nil_of_length_eq_zero hl
  subst this
  unfold drawOrder
  exact wpAny_pure (h [] s.drawn (.refl _))
 | succ n ih=>
  intro xs s Q hl h
  cases xs with
  | nil=>simp at hl
  | cons x r=>
   show wpAny _ _ (choose .order (x :: r).length >>= _) _ _ s
   refine wpAny_bind (ju (by simp) fun i dr hi=>?_)
   have e:(x :: r)[i]?=some (x :: r)[i]:=List.getElem?_eq_getElem hi
   rw [e]
   dsimp only
   refine wpAny_bind (ih ((x :: r).eraseIdx i) (by rw [List.length_eraseIdx_of_lt hi];omega) fun ys dr' hp=>?_)
   exact wpAny_pure (h (_ :: ys) dr' ((hp.cons _).trans (VW hi).symm))
theorem VZ {α:Type}{next:Nat→Nat}:∀ (f k:Nat) (left:List α) (out:Array α),left.length=f→(pickOrder.go next f k left out).toList.Perm (out.toList++left)
 | 0,k,left,out,h=>by
  have:left=[]:=List.eq_nil_of_length_eq_zero h
  subst this
  unfold pickOrder.go
  rw [List.append_nil]
 | f+1,k,left,out,h=>by
  have hi:next k % left.length<left.length:=Nat.mod_lt _ (by omega)
  unfold pickOrder.go
  rw [List.getElem?_eq_getElem hi]
  dsimp only
  have ih:=VZ (next:=next) f (k+1) (left.eraseIdx (next k % left.length)) (out.push left[next k % left.length]) (by rw [List.length_eraseIdx_of_lt hi];omega)
  refine ih.trans ?_
  rw [Array.toList_push,List.append_assoc]
  exact List.Perm.append_left _ (VW hi).symm
theorem pick_perm {α:Type}{next:Nat→Nat} (xs:Array α):(pickOrder next xs).toList.Perm xs.toList:=by
 have:=VZ (next:=next) xs.size 0 xs.toList #[] (Array.length_toList ..)
 show (pickOrder.go next xs.size 0 xs.toList #[]).toList.Perm _
 simpa using this
def SetU (B:Bool) (h:Heap) (a:Addr) (ss:List Str):Prop:=
 ∃ es ep t,X6 h a es ep t∧t.fits es.size=true∧(B=false→t.led=true)∧(0<es.size→t.plain=false) ∧
  (∀ e∈es.toList,∃ x k,e.2=.str x k)∧(es.toList.map fun e=>WX e.2).Nodup∧(∀ x,x∈(es.toList.map fun e=>WX e.2)↔x∈ss)∧es.size≤ss.length
theorem Up.toU {B:Bool}{h:Heap}{a:Addr}{ss:List Str} (x:Up prog w B h a ss):SetU B h a ss:=by
 obtain ⟨o,es,ep,t,ho,hc,hd,hf,_,r⟩:=x
 exact ⟨es,ep,t,⟨o,ho,hc,hd⟩,hf,r⟩
def SetWalkT (prog:Program) (w:World) (A:Around) (es:Array (Int × Value)) (z:Nat) (a I:Addr) (h:Heap):Prop:=
 ∃ (fp:List Addr) (seq:List Value) (St:Nat→Heap→Prop),Walks prog w A I fp [I] seq.length (fun i v=>seq[i]?=some v) St∧St 0 h∧(∀ b∈fp,b<h.objs.size)∧(∀ b∈fp,b=a∨z≤b)∧I∈fp∧seq.Perm (es.toList.map (·.2))
theorem below_one {xs:Array Nat}{j:Nat} (h:xs.size=1) (h0:xs[0]?=some j):SetTable.below xs (j+1)=1:=by
 have e:xs.getD 0 (j+1)=j:=by rw [Array.getD_eq_getD_getElem?,h0];rfl
 unfold SetTable.below
 rw [h]
 unfold SetTable.below.go
 simp [e]
 unfold SetTable.below.go
 rfl
theorem zj (xs:Array Nat):SetTable.below xs 0=0:=UN _ _
theorem jt {pick es:Array (Int × Value)}{place:Array Nat} (h1:es.size≤1) (hp:place.size=es.size) :
  ∃ sls:Nat→Nat,sls 0=0∧(∀ (i:Nat) x,(es.toList.map (·.2))[i]?=some x→WO false pick es place (sls i) i=some (x,sls (i+1)))∧WO false pick es place (sls (es.toList.map (·.2)).length) (es.toList.map (·.2)).length=none:=by
 refine ⟨fun i=>if i=0 then 0 else place.getD 0 0+1,rfl,fun i x hx=>?_,?_⟩
 ·rw [List.getElem?_map] at hx
  obtain ⟨e,q1,q2⟩:=Option.map_eq_some_iff.mp hx
  have hi:=(List.getElem?_eq_some_iff.mp q1).1
  rw [Array.length_toList] at hi
  have i0:i=0:=by omega
  subst i0
  rw [Array.getElem?_toList] at q1
  have hpl:place[0]?=some place[0]:=getElem?_pos place 0 (by omega)
  unfold WO
  simp only [Bool.false_eq_true,if_false,if_true,zj,q1,hpl]
  rw [← q2,Array.getD_eq_getD_getElem?,hpl]
  simp
 ·rw [List.length_map,Array.length_toList]
  unfold WO
  simp only [Bool.false_eq_true,if_false]
  by_cases z:es.size=0
  ·rw [if_pos z,zj,Array.getElem?_eq_none (by omega)]
  ·have hpl:place[0]?=some place[0]:=getElem?_pos place 0 (by omega)
   have e:place.getD 0 0=place[0]:=by rw [Array.getD_eq_getD_getElem?,hpl];rfl
   rw [if_neg z,e,below_one (by omega) hpl,Array.getElem?_eq_none (by omega)]
theorem iter_setT {A':Around}{a:Addr} {es ep t} {Q:Value→Shared→Prop} (hh:A'.handled=none) (hS:X6 s.heap a es ep t) (hf:t.fits es.size=true) (hled:w.params.followText "set-order" = false→t.led=true) (hp0:0<es.size→t.plain=false) (hz:es.size≤1000)
  (hQ:∀ I h' dr,s.heap.objs.size≤I→(∀ b o,s.heap.get? b=some o→h'.get? b=some o)→SetWalkT prog w A' es s.heap.objs.size a I h'→Q (.ref I) { s with heap:=h',drawn:=dr }):wpAny (model prog w) A (pyIter (.ref a)) Q E s:=by
 obtain ⟨o,ho,hc,hd⟩:=id hS
 have haz:a<s.heap.objs.size:=Heap.lt_size ho
 refine wpAny_pyIter_slot hS.typeIs F.slot_set_iter (wpAny_call_entry F.slot_set_iter hS.typeIs qM ?_ (F.args_set_iter_1 _))
 show wpAny _ _ (Builtin.Frozenset.sizeOf a >>= _) _ _ s
 refine wpAny_bind ?_
 unfold Builtin.Frozenset.sizeOf setEntries
 refine wpAny_bind (wpAny_bind (wpAny_setState_of ho hd hf (wpAny_pure (wpAny_pure ?_))))
 dsimp only
 refine wpAny_bind ?_
 unfold setDrawn
 refine wpAny_bind (wpAny_setState_of ho hd hf ?_)
 dsimp only
 refine wpAny_bind ?_
 unfold setsByText
 refine wpAny_bind (wpAny_askSetting (wpAny_pure ?_))
 show wpAny _ _ (pure (!w.params.followText "set-order" && (!t.plain && decide (es.size > 1)))) _ _ s
 refine wpAny_pure ?_
 have hpl:t.place.size=es.size:=by
  unfold SetTable.fits at hf
  rw [Bool.and_eq_true] at hf
  simpa using hf.1
 have slots:∀ (seq:List Value) (sls:Nat→Nat),sls 0=0→(w.params.followText "set-order" = false→t.led=true∧(t.plain=true∨es.size≤1)) →
   (∀ (i:Nat) x,seq[i]?=some x→WO (w.params.followText "set-order") (pickOrder (w.params.setOrder a ep) es) es t.place (sls i) i=some (x,sls (i+1)))→WO (w.params.followText "set-order") (pickOrder (w.params.setOrder a ep) es) es t.place (sls seq.length) seq.length=none→seq.Perm (es.toList.map (·.2)) →
   Q (.ref s.heap.objs.size) { s with heap:=s.heap.push { cls:=.type "set_iterator",data:=.fields #[rawInt 0,rawInt 0,.ref a,rawInt es.size,rawInt ep] } }:=fun seq sls h0 hw n1 n2 hpm=>by
  refine hQ _ _ s.drawn (Nat.le_refl _) (fun b o z=>Heap.get?_push_of_some _ z) ⟨_,seq,_,jD (prog:=prog) (A:=A') (sls:=sls) hh (Nat.ne_of_lt haz) hf hw n1 n2,⟨⟨0,?_⟩,?_⟩,?_,?_,by simp,hpm⟩
  ·rw [h0]
   exact ⟨_,0,0,0,Heap.get?_push_size _ rfl,rfl,rfl⟩
  ·exact ⟨o,Heap.get?_push_of_some _ ho,hc,hd⟩
  ·intro b hb
   rw [Heap.size_push]
   simp only [List.mem_cons,List.not_mem_nil,or_false] at hb
   rcases hb with h | h
   ·rw [h];exact Nat.lt_succ_self _
   ·rw [h];exact Nat.lt_succ_of_lt haz
  ·intro b hb
   simp only [List.mem_cons,List.not_mem_nil,or_false] at hb
   rcases hb with h | h
   ·exact .inr (by rw [h];exact Nat.le_refl _)
   ·exact .inl h
 cases hdr:(!w.params.followText "set-order" && (!t.plain && decide (es.size > 1)))
 ·simp only [Bool.false_eq_true,if_false]
  refine wpAny_bind (wpAny_pure ?_)
  refine wpAny_bind ?_
  unfold setEpoch
  refine wpAny_bind (wpAny_setState_of ho hd hf (wpAny_pure ?_))
  dsimp only
  refine wpAny_bind (wpAny_newObj_type ?_)
  refine wpAny_pure ⟨_,rfl, "set_iterator",_,⟨_,Heap.get?_push_size _ rfl,rfl⟩,ZP.lookup,?_⟩
  cases hT:w.params.followText "set-order"
  ·rw [hT] at slots hdr
   have small:es.size≤1:=by
    rcases Nat.lt_or_ge 1 es.size with h | h
    ·rw [hp0 (by omega),decide_eq_true h] at hdr;cases hdr
    ·exact h
   obtain ⟨sls,g0,g1,g2⟩:=jt (pick:=pickOrder (w.params.setOrder a ep) es) (place:=t.place) small hpl
   exact slots _ sls g0 (fun _=>⟨hled hT,.inr small⟩) g1 g2 (.refl _)
  ·rw [hT] at slots
   refine slots ((pickOrder (w.params.setOrder a ep) es).toList.map (·.2)) (fun _=>0) rfl (fun e=>by cases e) (fun i x hx=>?_) ?_ ((pick_perm es).map _)
   ·unfold WO
    simp only [if_true]
    rw [List.getElem?_map,Array.getElem?_toList] at hx
    obtain ⟨e,e1,e2⟩:=Option.map_eq_some_iff.mp hx
    rw [e1,← e2];rfl
   ·unfold WO
    simp
 ·simp only [if_true]
  refine wpAny_bind (qt es.size (List.range es.size) (by simp) fun ys dr hp=>?_)
  have y2:ys.length=es.size:=by rw [hp.length_eq,List.length_range]
  refine wpAny_bind (wpAny_newTuple (items:=ys.map fun (i:Nat)=>rawInt (i:Int)) ?_ (by rw [List.length_map,sizeLine_eq];omega))
  refine wpAny_bind ?_
  unfold setEpoch
  have ho1:(s.heap.push { cls:=.type "tuple",data:=.seq (ys.map fun (i:Nat)=>rawInt (i:Int)).toArray }).get? a=some o:=Heap.get?_push_of_some _ ho
  refine wpAny_bind (wpAny_setState_of (s:={ s with drawn:=dr,heap:=_ }) ho1 hd hf (wpAny_pure ?_))
  dsimp only
  refine wpAny_bind (wpAny_newObj_type ?_)
  refine wpAny_pure ⟨_,rfl, "set_iterator",_,⟨_,Heap.get?_push_size _ rfl,rfl⟩,ZP.lookup,?_⟩
  have y4:∀ y∈ys,y<es.size:=fun y hy=>List.mem_range.mp (hp.mem_iff.mp hy)
  have q2:∀ (i:Nat) x,(ys.map fun p=>(es.getD p (0,.none)).2)[i]?=some x→∃ p e,ys[i]?=some p∧es[p]?=some e∧x=e.2:=fun i x hx=>by
   rw [List.getElem?_map] at hx
   obtain ⟨p,e1,e2⟩:=Option.map_eq_some_iff.mp hx
   have hp:=y4 p (List.mem_of_getElem? e1)
   refine ⟨p,es[p],e1,getElem?_pos es p hp,?_⟩
   rw [← e2,Array.getD_eq_getD_getElem?,getElem?_pos es p hp];rfl
  have z1:(s.heap.push { cls:=.type "tuple",data:=.seq (ys.map fun (i:Nat)=>rawInt (i:Int)).toArray }).objs.size=s.heap.objs.size+1:=Heap.size_push _ _
  refine hQ _ _ dr (by rw [z1];exact Nat.le_succ _) (fun b o z=>Heap.get?_push_of_some _ (Heap.get?_push_of_some _ z)) ⟨_,ys.map fun p=>(es.getD p (0,.none)).2,_,jB (prog:=prog) (A:=A') (T:=s.heap.objs.size) (ps:=ys) (ep:=ep) hh (by rw [z1];exact Nat.ne_of_lt (Nat.lt_succ_of_lt haz)) (by rw [z1];exact Nat.ne_of_lt (Nat.lt_succ_self _)) hf (by simp) q2,⟨?_,?_,?_⟩,?_,?_,by simp,?_⟩
  ·exact ⟨_,0,0,0,Heap.get?_push_size _ rfl,rfl,rfl⟩
  ·exact ⟨o,Heap.get?_push_of_some _ ho1,hc,hd⟩
  ·exact ⟨_,_,Heap.get?_push_of_some _ (Heap.get?_push_size _ rfl),rfl,rfl⟩
  ·intro b hb
   rw [Heap.size_push,z1]
   simp only [List.mem_cons,List.not_mem_nil,or_false] at hb
   rcases hb with h | h | h
   ·rw [h,z1];exact Nat.lt_succ_self _
   ·rw [h];exact Nat.lt_succ_of_lt (Nat.lt_succ_of_lt haz)
   ·rw [h];exact Nat.lt_succ_of_lt (Nat.lt_succ_self _)
  ·intro b hb
   simp only [List.mem_cons,List.not_mem_nil,or_false] at hb
   rcases hb with h | h | h
   ·exact .inr (by rw [h,z1];exact Nat.le_succ _)
   ·exact .inl h
   ·exact .inr (by rw [h];exact Nat.le_refl _)
  ·refine (hp.map fun p=>(es.getD p (0,.none)).2).trans ?_
   have:(List.range es.size).map (fun p=>(es.getD p (0,.none)).2)=es.toList.map (·.2):=by
    apply List.ext_getElem?
    intro i
    rw [List.getElem?_map,List.getElem?_map,show es.toList[i]?=es[i]? from Array.getElem?_toList ..]
    rcases Nat.lt_or_ge i es.size with h | h
    ·rw [List.getElem?_range h,getElem?_pos es i h]
     dsimp only [Option.map]
     rw [Array.getD_eq_getD_getElem?,getElem?_pos es i h];rfl
    ·rw [Array.getElem?_eq_none h,List.getElem?_eq_none (by simpa using h)];rfl
   rw [this]
end
section
variable {prog:Program}{w:World}{A:Around}{E:Value→Shared→Prop}{s:Shared}
theorem xq {a:Addr}{ss:List Str}{Q:List Value→Shared→Prop} (hh:A.handled=none) (hS:SetU (w.params.followText "set-order") s.heap a ss) (hz:ss.length≤1000)
  (hQ:∀ (seq:List Value) (us:List Str) (h':Heap) dr tk,StrsAre seq us→us.Nodup→(∀ x,x∈us↔x∈ss)→us.length≤ss.length→s.heap.objs.size≤h'.objs.size→(∀ b o,s.heap.get? b=some o→h'.get? b=some o)→Q seq { s with heap:=h',drawn:=dr,toks:=tk }) :
  wpAny (model prog w) A (collect (.ref a)) Q E s:=by
 obtain ⟨es,ep,t,hA,hf,hL,hpl,hst,hnd,hin,hle⟩:=hS
 unfold collect
 refine wpAny_bind (wpAny_runValue (codeAny_builtin PySem.F.entry_proto_collect ?_))
 rw [Around.under_plainId PySem.F.plain_proto_collect _]
 show wpAny _ A.in1 (newList [] >>= fun l=>again (.builtin "list.__iadd__" ⟨[l,.ref a],[]⟩)) _ _ s
 refine wpAny_bind (wpAny_newObj_type ?_)
 refine wpAny_pure ⟨plainId_quiet PySem.F.plain_list_iadd _,codeAny_builtin PySem.F.entry_list_iadd ?_⟩
 rw [Around.under_plainId PySem.F.plain_list_iadd _]
 have haz:a<s.heap.objs.size:=by obtain ⟨o,ho,_⟩:=hA;exact Heap.lt_size ho
 have hA1:X6 (s.heap.push { cls:=.type "list",data:=.seq ([]:List Value).toArray }) a es ep t:=hA.at fun o z=>Heap.get?_push_of_some _ z
 show wpAny _ A.in1 (Builtin.List.listExtendWith (.ref s.heap.objs.size) (.ref a) (.ref s.heap.objs.size)) _ _ _
 unfold Builtin.List.listExtendWith
 have hT:=X6.typeIs (s:={ s with heap:=s.heap.push { cls:=.type "list",data:=.seq ([]:List Value).toArray } }) hA1
 refine wpAny_bind (wpAny_typeOf hT ?_)
 have h1:Builtin.List.listSameRef (.ref s.heap.objs.size) (.ref a)=false:=by simp [Builtin.List.listSameRef,Nat.ne_of_gt haz]
 have h2:(Value.type "set" == Value.type "list")=false:=by decide
 have h3:(Value.type "set" == Value.type "tuple")=false:=by decide
 simp only [h1,h2,h3,Bool.or_false,Bool.false_eq_true,if_false]
 have z1:(s.heap.push { cls:=.type "list",data:=.seq ([]:List Value).toArray }).objs.size=s.heap.objs.size+1:=Heap.size_push _ _
 refine wpAny_bind (iter_setT (A':=A.in1) (by simpa using hh) hA1 hf hL hpl (by omega) fun I h1 dr hI hk1 hW=>?_)
 rw [z1] at hI
 obtain ⟨fp,seq,St,W,hst0,hfp,hfa,hIf,hpm⟩:=hW
 have m2:seq.length=es.size:=by rw [hpm.length_eq,List.length_map,Array.length_toList]
 have hA2:X6 h1 a es ep t:=hA1.at fun o z=>hk1 _ o z
 refine wpAny_bind (wpAny_holding ?_)
 unfold Builtin.List.listLengthHint
 have hT2:=X6.typeIs (s:={ s with heap:=h1,drawn:=dr }) hA2
 refine wpAny_bind (wpAny_specialOf hT2 xc ?_)
 have sp:splitId "set.__len__" = some ("set", "__len__"):=by decide +kernel
 dsimp only
 rw [sp]
 dsimp only
 refine wpAny_bind (wpAny_isInstance hT2 sub_set_self ?_)
 simp only [Bool.not_true,Bool.false_eq_true,if_false]
 show wpAny _ _ (if true=true then _ else _) _ _ _
 rw [if_pos rfl]
 refine wpAny_bind (wpAny_typeOf hT2 ?_)
 dsimp only
 refine wpAny_pure ?_
 show wpAny _ A.in1 (if (false || true)=true then _ else _) _ _ _
 rw [if_pos (show (false || true)=true from rfl)]
 refine wpAny_bind (wpAny_rule ?_)
 have hSf:s.heap.objs.size∉fp:=fun hm=>by
  rcases hfa _ hm with e | e
  ·exact absurd e (Nat.ne_of_gt haz)
  ·rw [z1] at e;omega
 have hS₁:h1.get? s.heap.objs.size=some { cls:=.type "list",data:=.seq ([]:List Value).toArray }:=hk1 _ _ (Heap.get?_push_size _ rfl)
 refine wpAny_bind ?_
 show wpAny _ A.in1 (updateSeq s.heap.objs.size (·.push .none) >>= fun _=>updateSeq s.heap.objs.size (·.pop)) _ _ _
 refine wpAny_bind (wpAny_updateSeq hS₁ rfl ?_)
 have hS₂:=Heap.get?_update_self (Obj.mapSeq (·.push Value.none)) hS₁ rfl
 refine wpAny_updateSeq hS₂ rfl ?_
 have hS₃:=Heap.get?_update_self (Obj.mapSeq (·.pop)) hS₂ rfl
 have oth:∀ b o,b≠s.heap.objs.size→h1.get? b=some o→((h1.update s.heap.objs.size (Obj.mapSeq (·.push Value.none))).update s.heap.objs.size (Obj.mapSeq (·.pop))).get? b=some o:=
  fun b o hb e=>(Heap.get?_update_other _ _ (Ne.symm hb)).trans ((Heap.get?_update_other _ _ (Ne.symm hb)).trans e)
 refine wpAny_pure ⟨plainId_quiet PySem.F.plain_extend_loop _,codeAny_extend_loopS W.toS (by rw [sizeLine_eq];omega) _ hSf _ seq.length 0 _ _ _ rfl (Nat.zero_le _)
  (W.frame 0 _ _ hst0 fun b hb o e=>oth b o (fun h=>hSf (h ▸ hb)) e) hS₃ (ItemsOf.nil _) fun s' acc' c' hm hS' hacc=>?_⟩
 show wpAny _ A (load s.heap.objs.size >>= _) _ _ s'
 refine wpAny_bind (wpAny_load hS' ?_)
 have e1:acc'.toList=seq:=by
  apply List.ext_getElem?
  intro i
  rw [Array.getElem?_toList]
  rcases Nat.lt_or_ge i acc'.size with h | h
  ·have:=hacc.2 i _ (getElem?_pos acc' i h)
   rw [getElem?_pos acc' i h];exact this.symm
  ·rw [Array.getElem?_eq_none h,List.getElem?_eq_none (by rw [hacc.1] at h;exact h)]
 refine wpAny_pure ?_
 rw [e1]
 obtain ⟨hh',gg,dd,tt,oo⟩:=s'
 obtain ⟨q1,q2,q3,q4,q5⟩:=hm
 dsimp only at q1 q2 q3 q4 q5
 subst q2;subst q3;subst q4
 have keep:∀ b o,s.heap.get? b=some o→hh'.get? b=some o:=fun b o z=>by
  have hlt:=Heap.lt_size z
  refine q1 b o (by simp only [List.mem_cons,List.not_mem_nil,or_false];rintro (h | h);exact absurd hlt (by rw [h];exact Nat.lt_irrefl _);exact absurd hlt (by rw [h];exact Nat.not_lt.mpr (Nat.le_of_succ_le hI))) (oth b o (Nat.ne_of_lt hlt) (hk1 b o (Heap.get?_push_of_some _ z)))
 have sa:∀ l:List Value,(∀ v∈l,∃ x k,v=Value.str x k)→StrsAre l (l.map WX):=by
  intro l
  induction l with
  | nil=>intro _;exact .nil
  | cons v r ih=>
   intro h
   obtain ⟨x,k,rfl⟩:=h v (by simp)
   exact .cons x k (ih fun u m=>h u (List.mem_cons_of_mem _ m))
 have hsv:∀ v∈seq,∃ x k,v=Value.str x k:=fun v m=>by
  obtain ⟨e,me,rfl⟩:=List.mem_map.mp (hpm.mem_iff.mp m)
  exact hst e me
 have hpm2:(seq.map WX).Perm (es.toList.map fun e=>WX e.2):=by
  have:=hpm.map WX
  rwa [List.map_map] at this
 refine hQ seq (seq.map WX) hh' _ tt (sa seq hsv) (hpm2.nodup_iff.mpr hnd) (fun x=>by rw [hpm2.mem_iff,hin x]) (by rw [List.length_map];omega) ?_ keep
 exact Nat.le_of_lt (Heap.lt_size hS')
theorem sortedT {a:Addr}{ss:List Str}{Q:Value→Shared→Prop} (hh:A.handled=none) (hS:SetU (w.params.followText "set-order") s.heap a ss) (h64:ss.length<64)
  (h:∀ (out:List Value) (us:List Str) (L n:Nat) (h':Heap) dr tk,StrsAre out us→us.Nodup→(∀ x,x∈us↔x∈ss)→us.length≤ss.length→sortedS us=true→s.heap.objs.size≤L→(∀ b o,s.heap.get? b=some o→h'.get? b=some o) →
   h'.get? L=some { cls:=.type "list",data:=.seq out.toArray n }→Q (.ref L) { s with heap:=h',drawn:=dr,toks:=tk }) :
  wpAny (model prog w) A (call (.builtin "sorted") [.ref a]) Q E s:=by
 refine Calls.call_function_entry kind_sorted plain_sorted entry_sorted (args_sorted1 _) ?_
 unfold Builtin.«sorted»
 refine wpAny_bind (m:=checkCount "sorted" 1 1 _) (wpAny_pure ?_)
 refine wpAny_bind (xq (by simpa using hh) hS (by omega) fun seq us h1 dr tk hsa hnd hin hle hz k1=>?_)
 have hlen:seq.length=us.length:=by
  clear hnd hin hle
  induction hsa with
  | nil=>rfl
  | cons x k _ ih=>simp [ih]
 refine wpAny_bind (wpAny_newList ?_ (by rw [sizeLine_eq];omega))
 have hoL:(h1.push (seqObj "list" seq.toArray 0)).get? h1.objs.size=some (seqObj "list" seq.toArray 0):=Heap.get?_push_size _ rfl
 have k2:∀ b o,s.heap.get? b=some o→b≠h1.objs.size∧(h1.push (seqObj "list" seq.toArray 0)).get? b=some o:=fun b o z=>by
  have:=k1 b o z
  exact ⟨Nat.ne_of_lt (Heap.lt_size this),Heap.get?_push_of_some _ this⟩
 show wpAny _ _ _ _ _ { s with heap:=h1.push (seqObj "list" seq.toArray 0),drawn:=dr,toks:=tk }
 refine wpAny_bind (wpAny_holding (wpAny_call_entry slot_list_sort ⟨_,hoL,rfl⟩ entry_list_sort (list_sort_treeK strKind_oneLt hoL hsa.keysOf (fun v₁ v₂ Xc e=>keyKind_strs (by rw [← e];exact hsa)) (by omega) fun st' hp hs=>⟨_,rfl,?_⟩) (args_list_sort _)))
 obtain ⟨us',g1,g2,g3⟩:=sorted_out_str hsa hp hs
 obtain ⟨e,he⟩:=sortedHeap_at (out:=(arrOf st').map (·.2)) hoL
 refine wpAny_pure ⟨_,rfl,h ((arrOf st').map (·.2)).toList us' h1.objs.size e _ dr tk g1 (g2.nodup_iff.mpr hnd) (fun x=>by rw [g2.mem_iff,hin x]) (by rw [g2.length_eq];exact hle) g3 hz (fun b o z=>?_) (by rw [Array.toArray_toList];exact he)⟩
 obtain ⟨n1,z1⟩:=k2 b o z
 show (sortedHeap _ _ _ _).get? b=some o
 rw [sortedHeap_old n1 (Heap.lt_size z1)];exact z1
end
def SuO (Pm:Params) (a:Addr) (ss:List Str):HO:=.ext fun h=>SetU (Pm.followText "set-order") h a ss
theorem su_ok {P:Program}{w:World}{Pm:Params}{H:Hp}{h:Heap}{a:Addr}{ss:List Str} (x:SetU (Pm.followText "set-order") h a ss):YB P w H h a (SuO Pm a ss):=by
 refine ⟨x,?_,?_⟩
 ·obtain ⟨_,_,_,⟨o,e,_⟩,_⟩:=x
  exact ⟨o,e⟩
 ·rintro h1 h2 ⟨es,ep,t,hA,c⟩ k
  exact ⟨es,ep,t,hA.at fun o z=>k o z,c⟩
structure Y5 (us ss:List Str):Prop where
 nd:us.Nodup
 mem:∀ x,x∈us↔x∈ss
 len:us.length≤ss.length
 up:us.Pairwise fun a b=>leS a b=true
inductive rSetU_R (K:PySem.W.Frag) (Pm:Params) (xs:List V) (H:Hp) (Q:VK):Prop
 | mk (p:_) (ss:_) (h0:xs=[.ref p]) (h1:SqL K H p (ss.map V.str)) (h2:ss.length<1000) (h3:∀ l,H l=none→Q (.ref l) (upd H l (SuO Pm l ss))):rSetU_R K Pm xs H Q
def rSetU (K:PySem.W.Frag) (Pm:Params):List V→Hp→VK→Prop:=fun xs H Q=>rSetU_R K Pm xs H Q
inductive vo (Pm:Params) (xs:List V) (H:Hp) (Q:VK):Prop
 | mk (p:_) (ss:_) (h0:xs=[.ref p]) (h1:H p=some (SuO Pm p ss)) (h2:ss.length<64) (h3:∀ l us,H l=none→Y5 us ss→Q (.ref l) (upd H l (.lst (us.map V.str)))):vo Pm xs H Q
def rSortU (Pm:Params):List V→Hp→VK→Prop:=fun xs H Q=>vo Pm xs H Q
section
variable {X:Cx}{K:PySem.W.Frag}{Pm:Params}
theorem inv_dr {pins:List (Addr × Obj)}{σ:L2.St}{H:Hp}{s:Shared} (I:L2.Inv X pins σ H s) (d:Drawn):L2.Inv X pins σ H { s with drawn:=d }:=
 ⟨I.ok,I.os,I.bare,I.base,I.loc,I.cell,I.free,I.freeC,I.pin,I.hok,I.len⟩
theorem call_setU (hK:X.K=K) (hw:X.w.params=Pm) (hc:X.calm=true):Ys X (.type "set") (rSetU K Pm):=by
 subst hK
 intro pins s σ H xs us Q I r h
 obtain ⟨p,ss,rfl,hq,hl,q⟩:=h
 obtain ⟨u,rfl,ru⟩:=Wi r
 obtain rfl:u=Value.ref p:=ru
 obtain ⟨its,rv,pl,hz⟩:=I.list hq
 refine call_setX (I.ok.hd hc) pl.isList rv hl fun h' tk hS k=>?_
 exact ⟨.ref s.heap.objs.size,_,I.laid (o:=SuO Pm s.heap.objs.size ss) k (Nat.le_refl _) (su_ok (by rw [← hw];exact hS.toU)),rfl,q _ (I.hok.fresh (Nat.le_refl _))⟩
theorem vR (hw:X.w.params=Pm) (hc:X.calm=true):Ys X (.builtin "sorted") (rSortU Pm):=by
 intro pins s σ H xs us Q I r h
 obtain ⟨p,ss,rfl,hq,hl,q⟩:=h
 obtain ⟨u,rfl,ru⟩:=Wi r
 obtain rfl:u=Value.ref p:=ru
 obtain ⟨hS,_⟩:=I.hok p _ hq
 refine sortedT (I.ok.hd hc) (by rw [hw];exact hS) hl fun out us L n h' dr tk g1 g2 g3 g4 g5 hL k hg=>?_
 have lo:out.length=us.length:=by
  have:=(Wr g1).length
  rw [List.length_map] at this
  exact this.symm
 exact ⟨.ref L,_,inv_dr (I.laid (o:=.lst (us.map V.str)) k hL ⟨by rw [List.length_map,sizeLine_eq];omega,out,n,Wr g1,hg⟩) dr,rfl,q L us (I.hok.fresh hL) ⟨g2,g3,g4,VM g5⟩⟩
end
theorem YQ {H:Hp}{a:Addr}{o:HO} (h:H a=none):∃ H1,upd H a o=H1∧Zj H H1∧H1 a=some o:=⟨_,rfl,Zf h,Zd⟩
def rowsT (t:Str):List (List Str):=(Txt.split t "\n").map fun y=>Txt.split y " "
def isFig (c:Nat):Bool:=decide (48≤c∧c≤57)
def isNumS (z:Str):Bool:=decide (1≤z.length) && decide (z.length≤6) && z.cps.toList.all isFig && (decide (z = "0") || decide (z.cps.toList[0]?≠some 48))
def numV (z:Str):Int:=(intText? z).getD 0
structure Written (rs:List (List Str)) (m:Nat):Prop where
 heads:rs.map (fun ws=>ws.getD 0 Str.empty)=headsL m
 names:∀ (i:Nat) ws,i<m→rs[i]?=some ws→∀ w∈ws.drop 1,Zw w=true
 up:∀ (i:Nat) ws,i<m→rs[i]?=some ws→upS (ws.drop 1)
 nums:∀ (i:Nat) ws,m≤i→i≤2 * m→rs[i]?=some ws→∀ w∈ws.drop 1,isNumS w=true
 upn:∀ (i:Nat) ws,m≤i→i≤2 * m→rs[i]?=some ws→upI ((ws.drop 1).map numV)
 fair:∀ ws,rs[2 * m+1]?=some ws→∀ w∈ws.drop 1,Zw w=true
structure Makes (rs:List (List Str)) (m:Nat):Prop where
 one:1≤m
 most:m≤20
 nums:∀ (i:Nat) ws,m≤i→i≤2 * m→rs[i]?=some ws→ws.drop 1≠[]∧∀ w∈ws.drop 1,numV w<m
 few:∀ ws,rs[2 * m+1]?=some ws→(ws.drop 1).length≤3
 nd:∀ ws,rs[2 * m+1]?=some ws→(ws.drop 1).Nodup
open Classical in
structure Tame (t:Str) (rs:List (List Str)):Prop where
 rows:rowsT t=rs
 len:t.length≤1000000
 lines:∀ y∈Txt.split t "\n",y.length≤1000000
 many:rs.length≤60
 wide:∀ r∈rs,r.length≤31
 word:∀ r∈rs,∀ w∈r,w.length≤500
 sok:∀ r∈rs,∀ w∈r,PyData.strOk w=true
structure OkW (k:Nat) (w:Str):Prop where
 nl:free 10 w
 sp:free 32 w
 asc:∀ c∈w.cps.toList,c<128
 len:w.length≤8+2 * k
structure OkR (k:Nat) (r:List Str):Prop where
 ne:r≠[]
 len:r.length≤21+2 * k
 all:∀ w∈r,OkW k w
def OkL (k:Nat) (y:Str):Prop:=∃ r,OkR k r∧y=Str.join " " r
structure OkT (k:Nat) (ls:List Str):Prop where
 lo:4≤ls.length+k
 hi:ls.length≤42+k
 all:∀ y∈ls,OkL k y
structure SrtW (d:WD):Prop where
 s:∀ ss∈d.signs,upS ss
 w:∀ ns∈d.ways,upI ns
 st:upI d.starts
section
variable {X:Cx}{K:PySem.W.Frag}
theorem fn_or2 {P:Program}{w:PySem.World}{mg:Str→Option Value}{base:Heap}{CX:CXT}{k:Nat}{f:Addr}{fd:FuncData}{ps:List Str}{s1 s2:Sp} (F:Yy P w K mg base CX k f fd ps s1) (G:Yy P w K mg base CX k f fd ps s2) :
  Yy P w K mg base CX k f fd ps (fun vs H Q E=>s1 vs H Q E∨s2 vs H Q E):=
 ⟨fun vs H Q E h=>h.elim (F.len vs H Q E) (G.len vs H Q E),fun A outer s H args us vs Q E hr e0 hb r h=>h.elim (F.run A outer s H args us vs Q E hr e0 hb r) (G.run A outer s H args us vs Q E hr e0 hb r)⟩
end
section
variable {rs:List (List Str)}{m:Nat}
end
def U4 (i:Str) (n:Nat):Str:=⟨(List.replicate n i.cps).foldl (· ++ ·) #[]⟩
inductive rRepS_R (x y:V) (H:Hp) (Q:VK):Prop
 | mk (i:_) (n:Nat) (h0:x=.str i) (h1:y=.int n) (h2:1≤n) (h3:i.length * n≤4096) (h4:n≤4096) (h5:Q (.str (U4 i n)) H):rRepS_R x y H Q
def rRepS:V→V→Hp→VK→Prop:=fun x y H Q=>rRepS_R x y H Q
theorem repS_one (i:Str):U4 i 1=i:=by
 cases i with | mk c=>simp [U4]
theorem repS_nil {i:Str} (h:i.length=0) (n:Nat):U4 i n=i:=by
 cases i with | mk c=>
  have hc:c=#[]:=Array.eq_empty_of_size_eq_zero h
  subst hc
  have:∀ n,(List.replicate n (#[]:Array _)).foldl (· ++ ·) (#[]:Array Nat)=#[]:=by
   intro n
   induction n with
   | zero=>rfl
   | succ n ih=>simpa [List.replicate_succ] using ih
  unfold U4
  exact congrArg Str.mk (this n)
theorem vJ (i:Str) (n:Nat):(U4 i n).cps.toList=(List.replicate n i.cps.toList).flatten:=by
 have:∀ (n:Nat) (a:Array Nat),((List.replicate n i.cps).foldl (· ++ ·) a).toList=a.toList++(List.replicate n i.cps.toList).flatten:=by
  intro n
  induction n with
  | zero=>intro a;simp
  | succ n ih=>intro a;rw [List.replicate_succ,List.foldl_cons,ih,List.replicate_succ,List.flatten_cons,Array.toList_append,List.append_assoc]
 exact (this n #[]).trans (by simp)
theorem vH (i:Str) (n:Nat):(U4 i n).length=i.length * n:=by
 have h:=congrArg List.length (vJ i n)
 rw [List.length_flatten,List.map_replicate,List.sum_replicate_nat] at h
 show (U4 i n).cps.size=i.cps.size * n
 rw [← Array.length_toList,h,Array.length_toList,Nat.mul_comm]
theorem op_repS:OpR X (binaryOp .Mult) rRepS:=by
  intro pins s σ H x y v u Q I rx ry h
  obtain ⟨i,n,rfl,rfl,h1,h3,h4,q⟩:=h
  obtain ⟨t,rfl⟩:=rx
  obtain ⟨t',rfl⟩:=ry
  have hn:¬ ((n:Int)<1):=by omega
  have hN:(n:Int).toNat=n:=by omega
  refine P.mul_str ?_ (fun _ _=>?_) (fun _ _=>?_) ?_
  · have a1:¬ ((n:Int) < -(2 ^ 63:Int)):=by omega
    have a2:¬ ((n:Int) ≥ 2 ^ 63):=by omega
    rw [decide_eq_false a1,decide_eq_false a2];rfl
  · intro hh
    have:((2:Int) ^ 63 - 1) / n ≥ 4096 * 4096:=by
      apply Int.le_ediv_of_mul_le (by omega)
      have:(n:Int)≤4096:=by omega
      omega
    have h5:i.length≤i.length * n:=Nat.le_mul_of_pos_right _ h1
    omega
  · rw [hN]
    unfold Builtin.Str.tooLong
    exact decide_eq_false (by have:(4096:Nat)≤sizeLine:=by decide
                              omega)
  · rw [if_neg hn,hN]
    by_cases h6:((n:Int) == 1 || i.length == 0)=true
    · rw [if_pos h6]
      have e:U4 i n=i:=by
        rcases Bool.or_eq_true _ _ ▸ h6 with h7 | h7
        · have:n=1:=by have:=eq_of_beq h7;omega
          subst this;exact repS_one i
        · exact repS_nil (eq_of_beq h7) n
      rw [e] at q
      exact ⟨.str i,H,I,⟨t,rfl⟩,q⟩
    · rw [if_neg h6]
      refine ⟨?_,.str (U4 i n),H,I.tok _,⟨_,rfl⟩,q⟩
      have:=vH i n
      have hz:(4096:Nat)≤sizeLine:=by decide
      show (U4 i n).length≤sizeLine
      omega
structure FunD (K:PySem.W.Frag) (x qual:Str) (st:Stmt) (f dt:Addr) (items:Array Value) (fd:FuncData):Prop where
 ex:∃ (oc:Value) (od:Option Addr) (kV doc pm:Value) (an:Option Addr) (cdv ct:Value) (osl:Array (Option Value)),
  fd=PySem.W.fnOf x qual (Zn st) (Zl st) (Zc st) (.ref dt) kV doc pm an cdv ct∧K.lookup f=some ⟨oc,od,.func fd,osl⟩∧PySem.W.codeIn K cdv qual=true
 tup:∃ (oc:Value) (od:Option Addr) (n:Nat) (osl:Array (Option Value)),K.lookup dt=some ⟨oc,od,.seq items n,osl⟩
 kp:PySem.W.keepIn K (.ref f)=true
section
variable {P:Program}{w:World}{K:PySem.W.Frag}{mg:Str→Option Value}{base:Heap}
theorem FunD.ok {x qual:Str}{st:Stmt}{f dt:Addr}{items:Array Value}{fd:FuncData}{N ps:List Str}{k:Nat}{sp:Sp} (F:FunD K x qual st f dt items fd) (S:ZB N ps (Zc st)) (len:∀ vs H Q E,sp vs H Q E→vs.length=ps.length)
  (hbody:∀ (cdv:Value) (A:Around) (outer:List Env) (s:Shared) (H:Hp) (vs:List V) (Q:VK) (E:XK),Y0 k (A.deeper (envOfC qual (Zc st) s.heap.objs.size f cdv))→sp vs H Q E →
   ∃ t,PSs (Uc CX0 P w K mg base N qual (Zc st) f cdv A outer s H E).nox (Zl st) t∧t { nx:=fun _ H'=>Q .non H',rt:=Q } (start N vs) H):Yy P w K mg base CX0 (k+1) f fd ps sp:=by
 obtain ⟨oc,od,kV,doc,pm,an,cdv,ct,osl,rfl,lk,hcd⟩:=F.ex
 refine fn_of lk hcd S len fun A outer s H vs Q E hr hsp=>?_
 obtain ⟨t,h,q⟩:=hbody cdv A outer s H vs Q E hr hsp
 exact ⟨t,h.nox,q⟩
theorem FunD.binds {x qual:Str}{st:Stmt}{f dt:Addr}{items:Array Value}{fd:FuncData}{ps:List Str} (F:FunD K x qual st f dt items fd)
  (h:∀ (kV doc pm:Value) (an:Option Addr) (cdv ct:Value) (us:List Value),us.length=ps.length→∃ k,bindArgs (PySem.W.fnOf x qual (Zn st) (Zl st) (Zc st) (.ref dt) kV doc pm an cdv ct) ⟨us,[]⟩=seqItems? (.ref dt) >>= k∧k (some items)=pure (ps.zip us)):Yd K fd ps []:=by
 obtain ⟨oc,od,kV,doc,pm,an,cdv,ct,osl,rfl,lk,hcd⟩:=F.ex
 obtain ⟨oc2,od2,n,osl2,lk2⟩:=F.tup
 intro s us hK hl
 rw [List.append_nil] at hl ⊢
 obtain ⟨k,h1,h2⟩:=h kV doc pm an cdv ct us hl
 exact .of_defaults rfl (hK _ _ lk2) rfl h1 h2
theorem FunD.bindsD {x qual:Str}{st:Stmt}{f dt:Addr}{items:Array Value}{fd:FuncData}{ps:List Str}{ds:List Value} (F:FunD K x qual st f dt items fd)
  (h:∀ (kV doc pm:Value) (an:Option Addr) (cdv ct:Value) (us:List Value),(us++ds).length=ps.length→∃ k,bindArgs (PySem.W.fnOf x qual (Zn st) (Zl st) (Zc st) (.ref dt) kV doc pm an cdv ct) ⟨us,[]⟩=seqItems? (.ref dt) >>= k∧k (some items)=pure (ps.zip (us++ds))):Yd K fd ps ds:=by
 obtain ⟨oc,od,kV,doc,pm,an,cdv,ct,osl,rfl,lk,hcd⟩:=F.ex
 obtain ⟨oc2,od2,n,osl2,lk2⟩:=F.tup
 intro s us hK hl
 obtain ⟨k,h1,h2⟩:=h kV doc pm an cdv ct us hl
 exact .of_defaults rfl (hK _ _ lk2) rfl h1 h2
theorem y8 {x qual:Str}{st:Stmt}{f dt:Addr}{items:Array Value}{oc oc2:Value}{od od2 an:Option Addr}{osl osl2:Array (Option Value)}{kV doc pm cdv ct:Value}{n:Nat}
  (l:K.lookup f=some ⟨oc,od,.func (PySem.W.fnOf x qual (Zn st) (Zl st) (Zc st) (.ref dt) kV doc pm an cdv ct),osl⟩) (l2:K.lookup dt=some ⟨oc2,od2,.seq items n,osl2⟩)
  (c:PySem.W.codeIn K cdv qual=true) (k:PySem.W.keepIn K (.ref f)=true):FunD K x qual st f dt items (PySem.W.fnOf x qual (Zn st) (Zl st) (Zc st) (.ref dt) kV doc pm an cdv ct):=
 ⟨⟨oc,od,kV,doc,pm,an,cdv,ct,osl,rfl,l,c⟩,⟨oc2,od2,n,osl2,l2⟩,k⟩
end
section
variable {P:Program}{w:World}{K:PySem.W.Frag}{mg:Str→Option Value}{base:Heap}
end
def WR (H:Hp):V→Option (List V)
 | .ref a=>match H a with
  | some (.tup xs)=>some xs
  | _=>none
 | _=>none
theorem UL {H:Hp}{a:Addr}{xs:List V} (h:H a=some (.tup xs)):WR H (.ref a)=some xs:=by simp [WR,h]
theorem qL {H H':Hp}{x:V} (s:Zj H H') (k:Kd H x):WR H' x=WR H x:=by
 cases k with
 | lst e=>simp [WR,e,s _ _ e]
 | tup e=>simp [WR,e,s _ _ e]
 | dK e=>simp [WR,e,s _ _ e]
 | _=>rfl
theorem kd_tup {H:Hp}{x:V} (h:Kd H x):(Xr H "tuple" x=true∧∃ a xs,x=.ref a∧H a=some (.tup xs)∧WR H x=some xs)∨(Xr H "tuple" x=false∧WR H x=none):=by
 cases h with
 | tup e=>exact .inl ⟨by simp [Xr,e],_,_,rfl,e,UL e⟩
 | lst e=>exact .inr ⟨by simp [Xr,e],by simp [WR,e]⟩
 | dK e=>exact .inr ⟨by simp [Xr,e],by simp [WR,e]⟩
 | _=>exact .inr ⟨by simp [Xr],rfl⟩
def KdT (H:Hp) (x:V):Prop:=Kd H x∧∀ xs,WR H x=some xs→xs.length≤1000∧∀ y∈xs,Kd H y
def KdLT (H:Hp) (x:V):Prop:=Kd H x∧∀ xs,YO H x=some xs→xs.length≤1000∧∀ y∈xs,KdT H y
theorem KdT.mono {H H':Hp}{x:V} (s:Zj H H') (h:KdT H x):KdT H' x:=
 ⟨h.1.mono s,fun xs e=>by rw [qL s h.1] at e;exact ⟨(h.2 xs e).1,fun y hy=>((h.2 xs e).2 y hy).mono s⟩⟩
def moveL (n:Int):List V→Bool
 | [a,b,c]=>Ya n a && (YZ b && Ya n c)
 | _=>false
def Xh (H:Hp) (n:Int) (x:V):Bool:=match WR H x with
 | some xs=>moveL n xs
 | none=>false
theorem xf {H H':Hp}{x:V}{n:Int} (s:Zj H H') (k:Kd H x):Xh H' n x=Xh H n x:=by unfold Xh;rw [qL s k]
def X8 (H:Hp) (x y z u:V):Bool:=match YO H x,YO H y with
 | some xs,some ys=>decide (1≤xs.length) && decide (xs.length≤6) && xs.all (Zu H) && ys.all (Xh H xs.length) && (Ya xs.length z && (decide (u=.non) || Zu H u))
 | _,_=>false
theorem moveL_len {n:Int}{xs:List V} (h:xs.length≠3):moveL n xs=false:=by
 match xs,h with
 | [],_=>rfl
 | [_],_=>rfl
 | [_,_],_=>rfl
 | [_,_,_],h=>exact absurd rfl h
 | _ :: _ :: _ :: _ :: _,_=>rfl
theorem three {α:Type}{xs:List α} (h:xs.length=3):∃ a b c,xs=[a,b,c]:=by
 match xs,h with
 | [a,b,c],_=>exact ⟨a,b,c,rfl⟩
inductive OrR (K:PySem.W.Frag) (x:V) (H:Hp) (A B:Prop):Prop
 | mk (k:Bool) (h:TruV K x H k) (q:if k=true then A else B):OrR K x H A B
def tOrU (K:PySem.W.Frag) (ta tb:TE):TE:=fun σ H Q=>ta σ H fun x H1=>OrR K x H1 (Q x H1) (tb σ H1 Q)
theorem xw {X:Cx}{K:PySem.W.Frag}{a b:Expr}{Xc:List Expr}{pos:Pos}{ta tb:TE} (hK:X.K=K) (ha:PE X a ta) (hb:PE X (.BoolOp .Or (b :: Xc) pos) tb):PE X (.BoolOp .Or (a :: b :: Xc) pos) (tOrU K ta tb):=by
 subst hK
 intro pins s σ H Q I h
 refine BoolOp_or (thn (ha pins s σ H _ I h) fun v s1 ⟨x,H1,I1,r1,q1⟩=>?_)
 obtain ⟨k,ht,q⟩:=q1
 refine thn (tru_ok pins s1 σ H1 x v (fun c H2=>if c=true then Q x H2 else tb σ H2 Q) I1 r1 ⟨k,ht,q⟩) fun c s2 ⟨H2,I2,q2⟩=>?_
 cases c with
 | false=>exact hb pins s2 σ H2 Q I2 q2
 | true=>exact ⟨x,H2,I2,r1,q2⟩
structure MD where
 signs:List (List Str)
 moves:List (Int × Str × Int)
 start:Int
 words:List Str
def mvL (m:Int × Str × Int):List V:=[.int m.1,.str m.2.1,.int m.2.2]
def TM (H:Hp) (v:V) (m:Int × Str × Int):Prop:=∃ a,v=.ref a∧H a=some (.tup (mvL m))
theorem TM.mono:Mon TM:=fun _ _ _ _ s ⟨a,e,h⟩=>⟨a,e,s _ _ h⟩
theorem TM.hid {H:Hp}{p C dx:Addr}{fs:List (Str × V)}{v:V}{m:Int × Str × Int} (hp:H p=some (.ins C dx fs)) (h:TM H v m):TM (hide p H) v m:=by
 obtain ⟨a,rfl,e⟩:=h
 exact ⟨a,rfl,Yt (qX e hp (by intro z;cases z)) e⟩
structure XV (H:Hp) (x y z u:V) (d:MD):Prop where
 s:LL LS H x d.signs
 m:LL TM H y d.moves
 st:z=.int d.start
 w:(u=.non∧d.words=[])∨LS H u d.words
theorem XV.mono {H H':Hp}{x y z u:V}{d:MD} (s:Zj H H') (h:XV H x y z u d):XV H' x y z u d:=
 ⟨LL.mono LS.mono _ _ _ _ s h.s,LL.mono TM.mono _ _ _ _ s h.m,h.st,h.w.imp id fun q=>LS.mono _ _ _ _ s q⟩
theorem XV.hid {H:Hp}{p C dx:Addr}{fs:List (Str × V)}{x y z u:V}{d:MD} (hp:H p=some (.ins C dx fs)) (h:XV H x y z u d):XV (hide p H) x y z u d:=
 ⟨h.s.hid hp fun _ _ r=>r.hid hp,h.m.hid hp fun _ _ r=>r.hid hp,h.st,h.w.imp id fun q=>q.hid hp⟩
structure Wj (d:MD):Prop where
 n1:1≤d.signs.length
 n6:d.signs.length≤6
 sn:∀ ss∈d.signs,ss.Nodup∧(∀ x∈ss,Zw x=true)∧ss.length≤30
 mn:∀ m∈d.moves,(0≤m.1∧m.1<d.signs.length)∧Zw m.2.1=true∧(0≤m.2.2∧m.2.2<d.signs.length)
 ml:d.moves.length≤30
 st:0≤d.start∧d.start<d.signs.length
 wn:d.words.Nodup∧(∀ x∈d.words,Zw x=true)∧d.words.length≤30
theorem TM.kd {H:Hp}{v:V}{m:Int × Str × Int} (h:TM H v m) (hn:Zw m.2.1=true):KdT H v:=by
 obtain ⟨a,rfl,e⟩:=h
 refine ⟨.tup e,fun xs q=>?_⟩
 rw [UL e] at q
 cases q
 refine ⟨(by show (3:Nat)≤1000;decide),fun y hy=>?_⟩
 simp only [mvL,List.mem_cons,List.not_mem_nil,or_false] at hy
 rcases hy with rfl | rfl | rfl
 ·exact .int _
 ·exact .str _ (Nat.le_trans (qB hn) (by decide))
 ·exact .int _
theorem XV.kd {H:Hp}{x y z u:V}{d:MD} (h:XV H x y z u d) (g:Wj d):KdLL H x∧KdLT H y∧Kd H z∧KdL H u:=by
 refine ⟨h.s.kd (by have:=g.n6;omega) fun v x r m=>?_,?_,?_,?_⟩
 ·have:=g.sn x m
  exact r.kd (by omega) this.2.1
 ·obtain ⟨a,vs,rfl,e,l,k⟩:=h.m
  refine ⟨.lst e,fun ys z=>?_⟩
  rw [Z2 e] at z
  cases z
  have:=g.ml
  refine ⟨by omega,fun y hy=>?_⟩
  obtain ⟨i,hi,rfl⟩:=List.getElem_of_mem hy
  have hx:i<d.moves.length:=by omega
  exact (k i _ _ (List.getElem?_eq_getElem hi) (List.getElem?_eq_getElem hx)).kd (g.mn _ (List.getElem_mem hx)).2.1
 ·rw [h.st];exact .int _
 ·rcases h.w with ⟨rfl,_⟩ | q
  ·exact ⟨.non,fun xs z=>nomatch z⟩
  ·exact q.kd (by have:=g.wn.2.2;omega) g.wn.2.1
theorem XV.makes {H:Hp}{x y z u:V}{d:MD} (h:XV H x y z u d) (g:Wj d):X8 H x y z u=true:=by
 have hw:(decide (u=.non) || Zu H u)=true:=by
  rcases h.w with ⟨rfl,_⟩ | q
  ·rfl
  ·rw [q.names g.wn.1 g.wn.2.1,Bool.or_true]
 have hz:=h.st
 subst hz
 obtain ⟨a,vs,rfl,e,l,k⟩:=h.s
 obtain ⟨b,ws,rfl,e2,l2,k2⟩:=h.m
 unfold X8
 rw [Z2 e,Z2 e2]
 dsimp only
 rw [l,hw]
 have h1:vs.all (Zu H)=true:=LL.all l k fun v x r m=>r.names (g.sn x m).1 (g.sn x m).2.1
 have h2:ws.all (Xh H d.signs.length)=true:=LL.all l2 k2 fun v x r m=>by
  obtain ⟨c,rfl,e3⟩:=r
  have q:=g.mn x m
  unfold Xh
  rw [UL e3]
  simp [mvL,moveL,Ya,YZ,q.1.1,q.1.2,q.2.1,q.2.2.1,q.2.2.2]
 have:=g.n1
 have:=g.n6
 have hs:Ya d.signs.length (.int d.start)=true:=by simp [Ya,g.st.1,g.st.2]
 rw [h1,h2,hs,decide_eq_true (by omega:1≤d.signs.length),decide_eq_true (by omega:d.signs.length≤6)]
 rfl
theorem qz {K:PySem.W.Frag}{H:Hp}{u:V}{ws:List Str}{R:VK}{σ:L2.St} (h:(u=.non∧ws=[])∨LS H u ws) (q:∀ bb H',Zj H H'→H' bb=some (.lst (ws.map V.str))→R (.ref bb) H') :
  OrR K u H (R u H) (tLst tNil σ H R):=by
 rcases h with ⟨rfl,rfl⟩ | ⟨b,rfl,g⟩
 ·exact ⟨false,rfl,Yz ⟨by decide,fun l hl=>q l _ (Zf hl) (by rw [Zd];rfl)⟩⟩
 ·cases ws with
  | nil=>exact ⟨false,.inl ⟨_,SqL.of g,rfl⟩,Yz ⟨by decide,fun l hl=>q l _ (Zf hl) (by rw [Zd];rfl)⟩⟩
  | cons w r=>exact ⟨true,.inl ⟨_,SqL.of g,rfl⟩,Yh (q b H (.refl H) g)⟩
def mfs (t1 t2 t3 t4:V):List (Str × V):=[("room_signs",t1),("moves",t2),("start",t3),("words",t4)]
theorem m12:¬ (("room_signs" : Str) = "moves"):=by decide +kernel
theorem m13:¬ (("room_signs" : Str) = "start"):=by decide +kernel
theorem m14:¬ (("room_signs" : Str) = "words"):=by decide +kernel
theorem m23:¬ (("moves" : Str) = "start"):=by decide +kernel
theorem m24:¬ (("moves" : Str) = "words"):=by decide +kernel
theorem m34:¬ (("start" : Str) = "words"):=by decide +kernel
theorem mput2 (t1 t2:V):YD "moves" t2 ([("room_signs",t1)]:List (Str × V))=([("room_signs",t1),("moves",t2)]:List (Str × V)):=by simp only [YD,if_neg m12]
theorem mput3 (t1 t2 t3:V):YD "start" t3 ([("room_signs",t1),("moves",t2)]:List (Str × V))=([("room_signs",t1),("moves",t2),("start",t3)]:List (Str × V)):=by simp only [YD,if_neg m13,if_neg m23]
theorem mput4 (t1 t2 t3 t4:V):YD "words" t4 ([("room_signs",t1),("moves",t2),("start",t3)]:List (Str × V))=mfs t1 t2 t3 t4:=by simp only [YD,if_neg m14,if_neg m24,if_neg m34,mfs]
theorem mlk_signs (t1 t2 t3 t4:V):(mfs t1 t2 t3 t4).lookup ("room_signs" : Str)=some t1:=by simp [mfs,List.lookup_cons]
theorem mlk_moves (t1 t2 t3 t4:V):(mfs t1 t2 t3 t4).lookup ("moves" : Str)=some t2:=by simp [mfs,List.lookup_cons,WI (fun e=>m12 e.symm)]
theorem mlk_start (t1 t2 t3 t4:V):(mfs t1 t2 t3 t4).lookup ("start" : Str)=some t3:=by simp [mfs,List.lookup_cons,WI (fun e=>m13 e.symm),WI (fun e=>m23 e.symm)]
theorem yn (t1 t2 t3 t4:V):(mfs t1 t2 t3 t4).lookup ("words" : Str)=some t4:=by simp [mfs,List.lookup_cons,WI (fun e=>m14 e.symm),WI (fun e=>m24 e.symm),WI (fun e=>m34 e.symm)]
def MD.known (d:MD):List Str:=d.moves.map (fun m=>m.2.1)++d.words
structure XG (C:Addr) (H:Hp) (p:Addr) (d:MD) (us:List Str):Prop where
 ex:∃ dx t1 t2 t4,H p=some (.ins C dx (mfs t1 t2 (.int d.start) t4))∧LT TS H t1 d.signs∧LT TM H t2 d.moves∧TS H t4 us∧Y5 us d.known
theorem XG.mono {C:Addr}{H H':Hp}{p:Addr}{d:MD}{us:List Str} (s:Zj H H') (h:XG C H p d us):XG C H' p d us:=by
 obtain ⟨dx,t1,t2,t4,e,h1,h2,h4,hs⟩:=h.ex
 exact ⟨dx,t1,t2,t4,s _ _ e,LT.mono TS.mono _ _ _ _ s h1,LT.mono TM.mono _ _ _ _ s h2,TS.mono _ _ _ _ s h4,hs⟩
theorem letter_is (n:Int):atI ("abcdefghijklmnopqrstuvwxyz" : Str).cps.toList (n % 26)=some (97+(n % 26).toNat):=by
 have h0:=Int.emod_nonneg n (show (26:Int)≠0 by decide)
 have h1:=Int.emod_lt_of_pos n (show (0:Int)<26 by decide)
 obtain ⟨j,e⟩:=Int.eq_ofNat_of_zero_le h0
 rw [e] at h1 ⊢
 have hj:j<26:=by omega
 have ha:∀ i:Fin 26,("abcdefghijklmnopqrstuvwxyz" : Str).cps.toList[i.val]?=some (97+i.val):=by decide +kernel
 exact Xx (ha ⟨j,hj⟩)
def WC (x:Int) (k n:Nat):Str:=U4 ⟨#[97+((x+7 * (k:Int)) % 26).toNat]⟩ n
theorem VO (x:Int) (k n:Nat):(WC x k n).cps.toList=List.replicate n (97+((x+7 * (k:Int)) % 26).toNat):=by
 unfold WC
 rw [vJ]
 show (List.replicate n [_]).flatten=_
 induction n with
 | zero=>rfl
 | succ n ih=>rw [List.replicate_succ,List.flatten_cons,ih];rfl
theorem jp (x:Int) (k n:Nat):(WC x k n).length=n:=by
 unfold WC
 rw [vH]
 show 1 * n=n
 omega
theorem nameAt_ok {x:Int}{k n:Nat} (h1:1≤n) (h2:n≤8):Zw (WC x k n)=true:=by
 have e:=jp x k n
 refine name_of (by omega) (by omega) ?_
 rw [VO]
 have h0:=Int.emod_nonneg (x+7 * (k:Int)) (show (26:Int)≠0 by decide)
 have h3:=Int.emod_lt_of_pos (x+7 * (k:Int)) (show (0:Int)<26 by decide)
 refine List.all_eq_true.mpr fun c hc=>?_
 rw [List.eq_of_mem_replicate hc]
 exact decide_eq_true (by omega)
theorem nameAt_ne {x:Int}{k j n m:Nat} (h1:1≤n) (hk:k<j) (hj:j<3):WC x k n≠WC x j m:=fun e=>by
 have e2:=congrArg (fun z:Str=>z.cps.toList) e
 simp only [VO] at e2
 have hm:(97+((x+7 * (k:Int)) % 26).toNat)∈List.replicate m (97+((x+7 * (j:Int)) % 26).toNat):=by
  rw [← e2]
  exact List.mem_replicate.mpr ⟨by omega,rfl⟩
 have:=List.eq_of_mem_replicate hm
 have h0:=Int.emod_nonneg (x+7 * (k:Int)) (show (26:Int)≠0 by decide)
 have h3:=Int.emod_nonneg (x+7 * (j:Int)) (show (26:Int)≠0 by decide)
 omega
def Wd (h:Heap) (d:Addr) (es:Array DictEntry) (ep:Nat):Prop:=∃ o,h.get? d=some o∧o.ExactDict∧o.data=.dict es ep
section
variable {prog:Program}{w:World}{A:Around}{E:Value→Shared→Prop}{s:Shared}{d it:Addr}{es:Array DictEntry}{ep i:Nat}
theorem Wd.ty (m:Wd s.heap d es ep):s.TypeIs (.ref d) "dict" := let ⟨o,h1,h2,_⟩:=m; ⟨o,h1,h2.1⟩
theorem Wd.keep {h h':Heap} (m:Wd h d es ep) (k:∀ o,h.get? d=some o→h'.get? d=some o):Wd h' d es ep:=let ⟨o,h1,r⟩:=m; ⟨o,k _ h1,r⟩
theorem Wd.lt {h:Heap} (m:Wd h d es ep):d<h.objs.size:=let ⟨_,h1,_⟩:=m;Heap.lt_size h1
theorem iter_rows {Q:Value→Shared→Prop} (hd:(d == sysModules)=false) (m:Wd s.heap d es ep)
  (q:Q (.ref s.heap.objs.size) { s with heap:=s.heap.push { cls:=.type "dict_keyiterator",data:=.fields #[.ref d,.int 0 0,.int es.size 0,.int ep 0] } }) :
  wpAny (model prog w) A (pyIter (.ref d)) Q E s:=by
 obtain ⟨o,ho,hc,hdat⟩:=id m
 refine wpAny_pyIter_slot m.ty F.slot_dict_iter (wpAny_call_entry F.slot_dict_iter m.ty F.entry_dict_iter ?_ (F.args_dict_iter_1 _))
 unfold Builtin.«dict.__iter__» Builtin.Dict.dictSlotNone Builtin.Dict.showsAll
 refine wpAny_bind (wpAny_bind (wpAny_notOrdered_dict m.ty (wpAny_pure ?_)))
 refine wpAny_bind (m:=Builtin.Dict.addrOf _) (wpAny_of_eq (a:=d) rfl ?_)
 rw [if_neg (by rw [hd];exact Bool.false_ne_true)]
 refine wpAny_bind (wpAny_pure (wpAny_bind (wpAny_dictEntries ho hdat (wpAny_bind (wpAny_dictEpoch ho hdat ?_)))))
 exact wpAny_bind (wpAny_newObj_type (wpAny_pure ⟨_,rfl, "dict_keyiterator",_,⟨_,Heap.get?_push_size _ rfl,rfl⟩,F.slot_dict_keyiterator_next.lookup,by simpa [rawInt] using q⟩))
theorem zT {Q:Option Value→Shared→Prop} (hit:s.heap.IsKeyIter it d i es.size ep) (m:Wd s.heap d es ep)
  (q1:∀ hi:i<es.size,∀ h',h'.IsKeyIter it d (i+1) es.size ep→Heap.SameBut it s.heap h'→Q (some es[i].key) { s with heap:=h' })
  (q2:es.size≤i→A.handled=none∧∀ h',Heap.ExtBut it s.heap h'→Q none { s with heap:=h' }):wpAny (model prog w) A (pyNext (.ref it)) Q E s:=by
 have ty:=hit.typeIs
 obtain ⟨o,ho,hc,hd⟩:=id hit
 obtain ⟨od,hod,_,hdd⟩:=m
 have nm:∀ {A':Around}{Q':String→Shared→Prop} {E'},Q' "dict_keyiterator" s→wpAny (model prog w) A' (typeNameOfWhole (.ref it)) Q' E' s:=fun h=>wpAny_typeNameOfWhole_keyiter ty h
 unfold pyNext
 refine wpAny_bind (wpAny_attempt (wpAny_callSpecial?_slot (name:=Str.ofString "__next__") ty F.slot_dict_keyiterator_next (wpAny_call_entry F.slot_dict_keyiterator_next ty F.entry_dict_keyiterator_next ?_ (F.args_dict_keyiterator_next_1 _))))
 refine wpAny_bind (wpAny_pure (wpAny_bind (wpAny_bind (wpAny_bind (nm (wpAny_pure (wpAny_bind (wpAny_fieldsOf ho hd ?_))))))))
 rw [show Builtin.Dict_items.ownsTuple "dict_keyiterator" = false by decide]
 simp only [Bool.false_eq_true,if_false]
 change wpAny _ _ (if (Value.ref d == Value.none)=true then _ else _) _ _ s
 rw [if_neg (show ¬ ((Value.ref d == Value.none)=true) from nofun)]
 refine wpAny_bind (wpAny_pure (wpAny_bind (wpAny_dictEntries hod hdd ?_)))
 rw [if_neg (by simp)]
 refine wpAny_bind (wpAny_pure (wpAny_bind (wpAny_dictEpoch hod hdd ?_)))
 rw [if_neg (by simp)]
 refine wpAny_pure ?_
 have n0:¬ ((i:Int)<0):=by omega
 rcases Nat.lt_or_ge i es.size with hi | hi
 ·simp only [n0,if_false,Int.toNat_natCast,Array.getElem?_eq_getElem hi]
  refine wpAny_bind (wpAny_bind (nm (wpAny_pure (wpAny_bind (wpAny_isOneOf_keyiter ty ?_)))))
  refine wpAny_bind (m:=setField (.ref it) 1 (rawInt ((i:Int)+1))) (wpAny_setField ho hd (by simp) ?_)
  have st:(s.heap.update it (Obj.mapFields (·.setIfInBounds 1 (rawInt ((i:Int)+1))))).IsKeyIter it d (i+1) es.size ep:=
   ⟨_,Heap.get?_update_self _ ho (Obj.isFreed_of_fields (Obj.data_mapFields hd _)),(Obj.cls_mapFields ..).trans hc,by rw [Obj.data_mapFields hd];simp [rawInt]⟩
  have q:=q1 hi _ st (Heap.SameBut.update ..)
  generalize s.heap.update it (Obj.mapFields (·.setIfInBounds 1 (rawInt ((i:Int)+1))))=h' at st q ⊢
  exact wpAny_bind (wpAny_holding (wpAny_bind (wpAny_isOneOf_keyiter (s:={ s with heap:=h' }) st.typeIs (wpAny_pure (wpAny_pure ⟨_,rfl,wpAny_pure q⟩)))))
 ·obtain ⟨hh,q⟩:=q2 hi
  simp only [n0,if_false,Int.toNat_natCast,Array.getElem?_eq_none hi]
  refine wpAny_bind (wpAny_bind (nm (wpAny_pure ?_)))
  refine wpAny_bind (m:=setField (.ref it) 0 .none) (wpAny_setField ho hd (by simp) ?_)
  refine wpAny_bind (m:=newExc (.type "StopIteration") []) ?_
  simp only [newExc,newTuple]
  refine wpAny_bind (wpAny_newObj_type (wpAny_bind (m:=firstArgMember _ _) (wpAny_of_eq (a:=Value.none) rfl (wpAny_newObj_type ?_ (by size_fits)))) (by size_fits))
  unfold raiseNew
  refine wpAny_bind (wpAny_handled ?_)
  rw [show A.in1.handled=none from hh]
  refine wpAny_bind (wpAny_pure (wpAny_throw ?_))
  exact wpAny_bind (wpAny_isInstance (T := "StopIteration") (b:=true) ⟨_,Heap.get?_push_size _ rfl,rfl⟩ isSubtype_stop (wpAny_pure (q _ (((Heap.SameBut.update ..).extBut.push _).push _))))
theorem next_rows {Q:Option Value→Shared→Prop} (hit:s.heap.IsKeyIter it d i es.size ep) (m:Wd s.heap d es ep) (hi:i<es.size)
  (q:∀ h',h'.IsKeyIter it d (i+1) es.size ep→Heap.SameBut it s.heap h'→Q (some es[i].key) { s with heap:=h' }) :
  wpAny (model prog w) A (pyNext (.ref it)) Q E s:=zT hit m (fun _=>q) fun h=>absurd hi (by omega)
theorem last_rows {Q:Option Value→Shared→Prop} (hh:A.handled=none) (hi:es.size≤i) (hit:s.heap.IsKeyIter it d i es.size ep) (m:Wd s.heap d es ep)
  (q:∀ h',Heap.ExtBut it s.heap h'→Q none { s with heap:=h' }):wpAny (model prog w) A (pyNext (.ref it)) Q E s:=zT hit m (fun h=>absurd hi (by omega)) fun _=>⟨hh,q⟩
theorem ja (hh:A.handled=none) (I d:Addr) (hne:d≠I) (es:Array DictEntry) (ep:Nat) :
  Walks prog w A I [I,d] [I] es.size (fun i v=>∃ e,es[i]?=some e∧v=e.key) (fun i h=>h.IsKeyIter I d i es.size ep∧Wd h d es ep) where
 sub:=fun b hb=>by simp at hb;simp [hb]
 frame:=fun _ _ _ st hk=>⟨st.1.at fun o e=>hk I (by simp) o e,st.2.keep fun o e=>hk d (by simp) o e⟩
 item:=fun i s Q E hi st hQ=>next_rows st.1 st.2 hi fun h' hit' hs'=>
  hQ _ h' s.toks ⟨es[i],Array.getElem?_eq_getElem hi,rfl⟩ ⟨hit',st.2.keep fun o e=>hs'.extBut d o hne e⟩ fun b o hb e=>hs'.extBut b o (fun h=>hb (by simp [h])) e
 done:=fun s Q E st hQ=>last_rows hh (Nat.le_refl _) st.1 st.2 fun h' he'=>hQ h' s.toks fun b o hb e=>he' b o (fun h=>hb (by simp [h])) e
 self:=fun _ _ _ _ st hQ=>wpAny_pyIter_keyiter st.1 hQ
theorem vf (lo:(d == sysModules)=false):PySem.W.KdlSrc prog w "dict" d d es.size (fun i v=>∃ e,es[i]?=some e∧v=e.key) (fun h=>Wd h d es ep) where
 type:=fun _ m=>m.ty
 there:=fun _ m=>⟨m.lt,m.lt⟩
 keep:=fun _ _ m hk=>m.keep fun o e=>hk d (.inl rfl) o e
 notList:=by decide
 notTuple:=by decide
 hint:=fun _ _ _ _ m hq=>PySem.W.kdl_hint_dict m.ty hq
 iter:=fun _ _ hh m=>⟨_,_,(fun _ _ hq=>iter_rows lo m hq),ja hh _ d (Nat.ne_of_lt m.lt) es ep,⟨⟨_,Heap.get?_push_size _ rfl,rfl,rfl⟩,m.keep fun _ e=>Heap.get?_push_of_some _ e⟩⟩
end
theorem rows_eq {fs:Array DictEntry}{acc:Array Value}{ys:List Value} (e:fs.toList.map (·.key)=ys) (h:ItemsOf (fun i v=>∃ e,fs[i]?=some e∧v=e.key) acc fs.size):acc.toList=ys:=by
 subst e
 refine List.ext_getElem? fun j=>?_
 rw [List.getElem?_map,Array.getElem?_toList,Array.getElem?_toList]
 cases c:acc[j]? with
 | none=>
  have:acc.size≤j:=by simpa using c
  rw [Array.getElem?_eq_none (by have:=h.1;omega)];rfl
 | some v=>
  obtain ⟨e,he,rfl⟩:=h.2 j v c
  rw [he];rfl
end L3
namespace L3
open PySem PySem.Spec PyProof.Rows PySem.W
section
variable {prog:Program}{w:World}{K1 K2:Type} [DecidableEq K1] [DecidableEq K2] (k1:KeyKind prog w K1) (k2:KeyKind prog w K2)
variable {k1 k2}
variable {A:Around}{E:Value→Shared→Prop}{s:Shared}
end
end L3
namespace L3
open PySem PySem.Spec PyProof.Rows
theorem zL {α β:Type}{xs:List (α × β)} (hn:(xs.map (·.1)).Nodup) {i j:Nat}{x y:α × β} (hi:xs[i]?=some x) (hj:xs[j]?=some y) (e:x.1=y.1):i=j:=by
 induction xs generalizing i j with
 | nil=>simp at hi
 | cons z r ih=>
  rw [List.map_cons,List.nodup_cons] at hn
  have mem:∀ {k:Nat}{u:α × β},r[k]?=some u→u.1∈r.map (·.1):=fun h=>List.mem_map.mpr ⟨_,List.mem_of_getElem? h,rfl⟩
  cases i with
  | zero=>
   cases j with
   | zero=>rfl
   | succ j=>
    have hi':z=x:=by simpa using hi
    have hj':r[j]?=some y:=by simpa using hj
    exact absurd (mem hj') (by rw [← e,← hi'];exact hn.1)
  | succ i=>
   have hi':r[i]?=some x:=by simpa using hi
   cases j with
   | zero=>
    have hj':z=y:=by simpa using hj
    exact absurd (mem hi') (by rw [e,← hj'];exact hn.1)
   | succ j=>rw [ih hn.2 hi' (by simpa using hj)]
structure yo (prog:Program) (w:World) (D:Type) [DecidableEq D] where
 is:Heap→D→Value→Prop
 hash:D→Int
 room:Around→Prop
 quiet:Bool
 pyHash:∀ {A:Around}{E:Value→Shared→Prop}{s:Shared}{k:D}{v:Value}{Q:Int→Shared→Prop},room A→is s.heap k v→(∀ tk,Q (hash k) { s with toks:=tk })→wpAny (model prog w) A (PySem.pyHash v) Q E s
 find:∀ {A:Around}{E:Value→Shared→Prop}{s:Shared}{d:Addr}{o:Obj}{es:Array DictEntry}{ep:Nat}{xs:List (D × Value × Value)}{k:D}{u:Value}{Q:Option Nat→Shared→Prop},room A→is s.heap k u →
  s.heap.get? d=some o→o.data=.dict es ep→es.toList=xs.map (fun x=>⟨hash x.1,x.2.1,x.2.2⟩)→(∀ x∈xs,is s.heap x.1 x.2.1)→(xs.map (·.1)).Nodup →
  ((∀ x∈xs,x.1≠k)→Q none s)→(∀ j x,xs[j]?=some x→x.1=k→Q (some j) s)→wpAny (model prog w) A (dictFind d u (hash k)) Q E s
 eqq:∀ {A:Around}{E:Value→Shared→Prop}{s:Shared}{k:D}{v:Value}{Q:Bool→Shared→Prop},is s.heap k v→Q quiet s→wpAny (model prog w) A (Builtin.Dict.quietEq v) Q E s
section
variable {prog:Program}{w:World}{K:Type} [DecidableEq K]
def qi:Value→Addr
 | .ref a=>a
 | _=>0
def vOfHeap (knd:HeapKind prog w K) (hT:∀ {s:Shared}{k:K}{a:Addr},knd.is s.heap k a→s.TypeIs (.ref a) "tuple"):yo prog w K where
 is:=fun h k v=>∃ a,v=.ref a∧knd.is h k a
 hash:=knd.hash
 room:=knd.room
 quiet:=false
 pyHash:=fun {A E s k v Q} hr h q=>by
  obtain ⟨a,rfl,ha⟩:=h
  exact knd.pyHash hr ha (q _)
 find:=fun {A E s d o es ep xs k u Q} hr hu ho hd he his hn hnone hsome=>by
  obtain ⟨a,rfl,ha⟩:=hu
  refine wpAny_dictFind_heap (xs:=xs.map fun x=>(x.1,qi x.2.1,x.2.2)) hr ha ho hd ?_ ?_ ?_ ?_ ?_
  ·rw [he,List.map_map]
   apply List.map_congr_left
   intro x hx
   obtain ⟨b,eb,_⟩:=his x hx
   simp only [Function.comp,entryOfKey,eb,qi]
  ·intro x hx
   obtain ⟨y,hy,rfl⟩:=List.mem_map.mp hx
   obtain ⟨b,eb,hb⟩:=his y hy
   simp only [eb,qi];exact hb
  ·rw [List.map_map];exact hn
  ·intro h
   refine hnone fun x hx ek=>?_
   obtain ⟨j,hj,e⟩:=List.getElem_of_mem hx
   refine h j (qi x.2.1,x.2.2) ?_
   rw [List.getElem?_map,List.getElem?_eq_getElem hj,e,← ek];rfl
  ·intro j p hj
   rw [List.getElem?_map] at hj
   obtain ⟨x,e1,e2⟩:=Option.map_eq_some_iff.mp hj
   exact hsome j x e1 (congrArg Prod.fst e2)
 eqq:=fun {A E s k v Q} h q=>by
  obtain ⟨a,rfl,ha⟩:=h
  unfold Builtin.Dict.quietEq
  refine wpAny_bind (wpAny_specialOf (hT ha) F.slot_tuple_eq.lookup (wpAny_pure ?_))
  exact q
end
section
variable {prog:Program}{w:World}{D:Type} [DecidableEq D] (knd:yo prog w D)
def Wo (h:Heap) (d:Addr) (xs:List (D × Value × Value)):Prop:=
 ∃ o es ep,h.get? d=some o∧o.ExactDict∧o.data=.dict es ep∧es.toList=xs.map (fun x=>⟨knd.hash x.1,x.2.1,x.2.2⟩)∧(xs.map (·.1)).Nodup
def WK (xs:List (D × Value × Value)) (k:D) (u v:Value):List (D × Value × Value):=if (xs.any fun x=>decide (x.1=k))=true then xs.map (fun x=>if x.1=k then (x.1,x.2.1,v) else x) else xs++[(k,u,v)]
variable {knd} {A:Around}{E:Value→Shared→Prop}{s:Shared}{d:Addr}{xs:List (D × Value × Value)}{k:D}{u v:Value}
theorem Wo.typeIs (m:Wo knd s.heap d xs):s.TypeIs (.ref d) "dict" := let ⟨o,_,_,h1,h2,_⟩:=m; ⟨o,h1,h2.1⟩
theorem V7 {Q:Unit→Shared→Prop} (hr:knd.room A) (hu:knd.is s.heap k u) (m:Wo knd s.heap d xs) (his:∀ x∈xs,knd.is s.heap x.1 x.2.1)
  (hQ:∀ h',Wo knd h' d (WK xs k u v)→Heap.SameBut d s.heap h'→Q () { s with heap:=h' }) (hsz:xs.length≤sizeLine) :
  wpAny (model prog w) A (dictSetHashed d u (knd.hash k) v) Q E s:=by
 obtain ⟨o,es,ep,ho,hc,hd,he,hn⟩:=m
 have hes:es.size≤sizeLine:=by
  have:=congrArg List.length he
  rw [List.length_map,Array.length_toList] at this;omega
 unfold dictSetHashed
 try with_reducible refine wpAny_holding ?_
 refine wpAny_bind (knd.find hr hu ho hd he his hn ?_ ?_)
 ·intro hno
  have ha:¬ (xs.any fun x=>decide (x.1=k))=true:=by
   rw [List.any_eq_true];rintro ⟨x,hx,e⟩;exact hno x hx (of_decide_eq_true e)
  refine wpAny_bind (wpAny_rule (wpAny_updateDictKeys (hz:=hes) ho hd (hQ _ ⟨_,_,ep+1,Heap.get?_update_self _ ho (Obj.isFreed_of_dict (Obj.data_mapDictKeys hd _)),
   hc.mapDictKeys _,Obj.data_mapDictKeys hd _,?_,?_⟩ (Heap.SameBut.update ..))))
  ·unfold WK;rw [if_neg ha]
   simp [he]
  ·unfold WK;rw [if_neg ha]
   rw [List.map_append,List.nodup_append]
   refine ⟨hn,by simp,fun x hx y hy e=>?_⟩
   simp only [List.map_cons,List.map_nil,List.mem_singleton] at hy
   subst hy;subst e
   obtain ⟨z,hz,e⟩:=List.mem_map.mp hx
   exact hno z hz e
 ·intro j x hj hx
  have ha:(xs.any fun x=>decide (x.1=k))=true:=List.any_eq_true.mpr ⟨x,List.mem_of_getElem? hj,by simpa using hx⟩
  refine wpAny_bind (wpAny_rule (wpAny_bind (wpAny_updateDict ho hd (wpAny_point (hQ _ ⟨_,_,ep,Heap.get?_update_self _ ho (Obj.isFreed_of_dict (Obj.data_mapDict hd _)),
   hc.mapDict _,Obj.data_mapDict hd _,?_,?_⟩ (Heap.SameBut.update ..))))))
  ·unfold WK;rw [if_pos ha]
   rw [Array.toList_modify,he,List.map_map]
   apply List.ext_getElem?
   intro i
   rw [List.getElem?_modify,List.getElem?_map,List.getElem?_map]
   cases hi:xs[i]? with
   | none=>simp
   | some y=>
    simp only [Option.map_some,Function.comp]
    by_cases hij:j=i
    ·subst hij
     rw [hj] at hi;cases hi
     rw [if_pos hx];simp
    ·have:y.1≠k:=fun e=>hij (zL hn hj hi (hx.trans e.symm))
     rw [if_neg this]
     simp [hij]
  ·unfold WK;rw [if_pos ha,List.map_map]
   have:((fun x:D × Value × Value=>x.1) ∘ fun x=>if x.1=k then (x.1,x.2.1,v) else x)=(·.1):=by
    funext x;simp only [Function.comp];split <;> rfl
   rw [this];exact hn
end
section
variable {prog:Program}{w:World}{D:Type} [DecidableEq D] {knd:yo prog w D}{A:Around}{E:Value→Shared→Prop}{s:Shared}{d a b:Addr}{xs ys:List (D × Value × Value)}
theorem vF {k:D}{u v:Value} (h:∀ x∈xs,x.1≠k):WK xs k u v=xs++[(k,u,v)]:=by
 unfold WK
 rw [if_neg]
 rw [List.any_eq_true];rintro ⟨x,hx,e⟩;exact h x hx (of_decide_eq_true e)
theorem jc {es:Array DictEntry} (he:es.toList=xs.map (fun x=>(⟨knd.hash x.1,x.2.1,x.2.2⟩:DictEntry))) (hn:(xs.map (·.1)).Nodup) (hi:∀ x∈xs,∀ y∈xs,knd.hash x.1=knd.hash y.1→x.1=y.1) {e:DictEntry} (hm:e∈es):¬ (es.filter (·.hash == e.hash)).size > 1:=by
 have gen:∀ (l:List (D × Value × Value)) (h:Int),(l.map (·.1)).Nodup→(∀ x∈l,∀ y∈l,knd.hash x.1=knd.hash y.1→x.1=y.1)→(l.filter fun x=>knd.hash x.1 == h).length≤1:=by
  intro l h
  induction l with
  | nil=>intro _ _;simp
  | cons z r ih=>
   intro hn hi
   rw [List.map_cons,List.nodup_cons] at hn
   have ih':=ih hn.2 fun x hx y hy=>hi x (List.mem_cons_of_mem _ hx) y (List.mem_cons_of_mem _ hy)
   by_cases c:(knd.hash z.1 == h)=true
   ·rw [List.filter_cons_of_pos (p:=fun x:D × Value × Value=>knd.hash x.1 == h) c]
    have:r.filter (fun x=>knd.hash x.1 == h)=[]:=by
     rw [List.filter_eq_nil_iff]
     intro x hx e
     have e1:knd.hash x.1=knd.hash z.1:=(eq_of_beq e).trans (eq_of_beq c).symm
     have:=hi x (List.mem_cons_of_mem _ hx) z List.mem_cons_self e1
     exact hn.1 (by rw [← this];exact List.mem_map.mpr ⟨x,hx,rfl⟩)
    rw [this];simp
   ·rw [List.filter_cons_of_neg (p:=fun x:D × Value × Value=>knd.hash x.1 == h) c];exact ih'
 have e1:(es.filter (·.hash == e.hash)).size=(xs.filter fun x=>knd.hash x.1 == e.hash).length:=by
  rw [← Array.length_toList,Array.toList_filter,he,List.filter_map,List.length_map]
  rfl
 rw [e1]
 have:=gen xs e.hash hn hi
 omega
theorem jo {id:String}{o:Obj}{es:Array DictEntry}{ep:Nat}{Q:Array DictEntry→Shared→Prop} (ho:s.heap.get? d=some o) (hd:o.data=.dict es ep) (he:es.toList=xs.map (fun x=>(⟨knd.hash x.1,x.2.1,x.2.2⟩:DictEntry))) (hn:(xs.map (·.1)).Nodup)
  (his:∀ x∈xs,knd.is s.heap x.1 x.2.1) (hi:knd.quiet=false→∀ x∈xs,∀ y∈xs,knd.hash x.1=knd.hash y.1→x.1=y.1) (h:Q es s):wpAny (model prog w) A (Builtin.Dict.entriesForEmpty id d) Q E s:=by
 unfold Builtin.Dict.entriesForEmpty
 refine wpAny_bind (wpAny_dictEntries ho hd ?_)
 refine wpAny_bind ?_
 rw [← Array.forIn_toList]
 refine wpAny_forIn_list _ (fun Xc _ s'=>s'=s∧∀ e∈Xc,e∈es.toList) _ ?_ ?_ _ _ ⟨rfl,fun _ h=>h⟩
 ·rintro e Xc r s' ⟨rfl,hr⟩
  have hm:=hr e List.mem_cons_self
  have hm':e∈es:=by simpa using hm
  rw [he] at hm
  obtain ⟨x,hx,rfl⟩:=List.mem_map.mp hm
  refine wpAny_bind (knd.eqq (his x hx) ?_)
  have nx:s'=s'∧∀ e∈Xc,e∈es.toList:=⟨rfl,fun e m=>hr e (List.mem_cons_of_mem _ m)⟩
  cases hq:knd.quiet
  ·simp only [Bool.not_false,if_true]
   rw [if_neg (jc he hn (hi hq) hm')]
   exact wpAny_pure nx
  ·simp only [Bool.not_true,Bool.false_eq_true,if_false]
   exact wpAny_pure nx
 ·rintro r s' ⟨rfl,_⟩
  exact wpAny_pure h
theorem dv_merge {nm:String}{o:Addr}{Q:Unit→Shared→Prop} (hr:knd.room A) (hdo:d≠o) (hoS:(o == sysModules)=false) (m:Wo knd s.heap d []) (mo:Wo knd s.heap o xs)
  (his:∀ h',Heap.SameBut d s.heap h'→∀ x∈xs,knd.is h' x.1 x.2.1) (hi:knd.quiet=false→∀ x∈xs,∀ y∈xs,knd.hash x.1=knd.hash y.1→x.1=y.1) (hsz:xs.length≤sizeLine)
  (hQ:∀ h',Wo knd h' d xs→Heap.SameBut d s.heap h'→Q () { s with heap:=h' }):wpAny (model prog w) A (Builtin.Dict.mergeDict nm d o) Q E s:=by
 obtain ⟨od,esd,epd,hod,hcd,hdd,hed,hnd⟩:=id m
 obtain ⟨oo,eso,epo,hoo,hco,hdo',heo,hno⟩:=id mo
 unfold Builtin.Dict.mergeDict
 rw [if_neg (by simpa using hdo)]
 unfold Builtin.Dict.showsAll
 rw [if_neg (by rw [hoS];exact Bool.false_ne_true)]
 refine wpAny_bind (wpAny_pure ?_)
 refine wpAny_bind (wpAny_dictEntries hoo hdo' ?_)
 have hlen:eso.size=xs.length:=by
  have:=congrArg List.length heo
  rw [List.length_map,Array.length_toList] at this;exact this
 have loop:wpAny (model prog w) A (do
   let epoch ← dictEpoch o
   let l ← dictEntries o
   forIn [:l.size] PUnit.unit fun i (_:PUnit)=>(do
     let l' ← dictEntries o
     match l'[i]? with
      | some e=>do
       holding [e.key,e.val] (dictSetHashed d e.key e.hash e.val)
       let ep' ← dictEpoch o
       if (ep' != epoch)=true then do
         (unsupported (toString nm++toString ":source-changed-during-callback"):Sem PUnit)
         pure (ForInStep.yield PUnit.unit)
        else pure (ForInStep.yield PUnit.unit)
      | _=>do
       (unsupported "internal:dict-merge" : Sem PUnit)
       pure (ForInStep.yield PUnit.unit):Sem (ForInStep PUnit))
   pure ()) Q E s:=by
  refine wpAny_bind (wpAny_dictEpoch hoo hdo' ?_)
  refine wpAny_bind (wpAny_dictEntries hoo hdo' ?_)
  refine wpAny_bind ?_
  rw [Std.Legacy.Range.forIn_eq_forIn_range']
  simp only [Std.Legacy.Range.size,Nat.sub_zero,Nat.add_sub_cancel,Nat.div_one]
  refine wpAny_forIn_list _
   (fun Xc _ s'=>∃ h' i,s'={ s with heap:=h' }∧Xc=List.range' i (eso.size - i)∧i≤eso.size∧Wo knd h' d (xs.take i)∧h'.get? o=some oo∧Heap.SameBut d s.heap h')
   _ ?_ ?_ _ _ ⟨s.heap,0,rfl,by simp,Nat.zero_le _,by simpa using m,hoo,Heap.SameBut.refl _ _⟩
  ·rintro x Xc b s' ⟨h',i,rfl,hr',hi',hd',hoo',hs'⟩
   have hlt:i<eso.size:=by
    rcases Nat.lt_or_ge i eso.size with h | h
    ·exact h
    ·rw [Nat.sub_eq_zero_of_le h] at hr';simp at hr'
   obtain ⟨rfl,hrest⟩:x=i∧Xc=List.range' (i+1) (eso.size - (i+1)):=by
    have e:eso.size - i=(eso.size - (i+1))+1:=by omega
    rw [e,List.range'_succ] at hr'
    injection hr' with h1 h2
    exact ⟨h1,h2⟩
   refine wpAny_bind (wpAny_dictEntries hoo' hdo' ?_)
   have hlx:x<xs.length:=by omega
   have hx:xs[x]?=some xs[x]:=List.getElem?_eq_getElem hlx
   have ee:eso[x]?=some (⟨knd.hash xs[x].1,xs[x].2.1,xs[x].2.2⟩:DictEntry):=by rw [← Array.getElem?_toList,heo,List.getElem?_map,hx];rfl
   rw [ee]
   have hisx:=his h' hs'
   have fresh:∀ z∈xs.take x,z.1≠xs[x].1:=fun z hz e=>by
    obtain ⟨j,hj,ez⟩:=List.getElem_of_mem hz
    have hj2:j<x:=by rw [List.length_take] at hj;omega
    have:xs[j]?=some z:=by rw [← ez,List.getElem_take];exact List.getElem?_eq_getElem (by omega)
    have:=zL hno this hx e
    omega
   show wpAny _ _ (holding [xs[x].2.1,xs[x].2.2] (dictSetHashed d xs[x].2.1 (knd.hash xs[x].1) xs[x].2.2) >>= _) _ _ _
   refine wpAny_bind (wpAny_holding (V7 (s:={ s with heap:=h' }) hr (hisx _ (List.getElem_mem hlx)) hd' (fun z hz=>hisx z (List.mem_of_mem_take hz)) (fun h'' hd'' hs''=>?_) (by rw [List.length_take];omega)))
   have hoo'':h''.get? o=some oo:=(hs''.2 o (Ne.symm hdo)).trans hoo'
   refine wpAny_bind (wpAny_dictEpoch (s:={ s with heap:=h'' }) hoo'' hdo' ?_)
   rw [if_neg (by simp)]
   rw [vF fresh] at hd''
   refine wpAny_pure ⟨h'',x+1,rfl,hrest,hlt,?_,hoo'',hs'.trans hs''⟩
   rw [List.take_add_one,hx];exact hd''
  ·rintro b s' ⟨h',i,rfl,hr',hi',hd',hoo',hs'⟩
   have hin:i=eso.size:=by
    rcases Nat.lt_or_ge i eso.size with h | h
    ·have e:eso.size - i=(eso.size - (i+1))+1:=by omega
     rw [e,List.range'_succ] at hr';exact nomatch hr'
    ·exact Nat.le_antisymm hi' h
   refine wpAny_pure (hQ h' ?_ hs')
   rw [hin,hlen,List.take_length] at hd';exact hd'
 dsimp only
 split
 ·refine wpAny_bind (wpAny_dictEntries hod hdd ?_)
  have hemp:esd.isEmpty=true:=by
   have:=congrArg List.length hed
   rw [Array.length_toList] at this
   exact Array.isEmpty_iff_size_eq_zero.mpr this
  rw [if_pos hemp]
  refine wpAny_bind (jo (xs:=xs) hoo hdo' heo hno (his _ (Heap.SameBut.refl _ _)) hi ?_)
  split
  ·refine wpAny_bind (wpAny_updateDictKeysTo hod hdd (wpAny_pure (hQ _ ⟨_,_,epd+1,Heap.get?_update_self _ hod (Obj.isFreed_of_dict (Obj.data_mapDictKeys hdd _)),hcd.mapDictKeys _,
     Obj.data_mapDictKeys hdd _,heo,hno⟩ (Heap.SameBut.update ..))) (by rw [hlen];omega))
  ·rename_i hne
   have h0:eso=#[]:=Array.isEmpty_iff.mp (by simpa using hne)
   have hm0:xs=[]:=List.length_eq_zero_iff.mp (by rw [← hlen,h0];rfl)
   subst hm0
   exact wpAny_pure (hQ _ m (Heap.SameBut.refl _ _))
 ·exact loop
end
section
variable {prog:Program}{w:World}{D:Type} [DecidableEq D] {knd:yo prog w D}{A:Around}{E:Value→Shared→Prop}{s:Shared}{d a b:Addr}{xs ys:List (D × Value × Value)}{n:Nat}
end
section
variable {prog:Program}{w:World}{D:Type} [DecidableEq D] {knd:yo prog w D}{A:Around}{E:Value→Shared→Prop}{s:Shared}{d:Addr}{xs ys:List (D × Value × Value)}
def Xs (ys xs:List (D × Value × Value)):List (D × Value × Value):=xs.foldl (fun acc x=>WK acc x.1 x.2.1 x.2.2) ys
theorem ve (ys xs:List (D × Value × Value)) (x:D × Value × Value):Xs ys (xs++[x])=WK (Xs ys xs) x.1 x.2.1 x.2.2:=by unfold Xs;rw [List.foldl_append];rfl
theorem putD_len (xs:List (D × Value × Value)) (k:D) (u v:Value):(WK xs k u v).length≤xs.length+1:=by
 unfold WK
 split
 ·rw [List.length_map];omega
 ·rw [List.length_append];simp
theorem ji (ys xs:List (D × Value × Value)):(Xs ys xs).length≤ys.length+xs.length:=by
 induction xs generalizing ys with
 | nil=>exact Nat.le_refl _
 | cons x r ih=>
  have h1:=ih (WK ys x.1 x.2.1 x.2.2)
  have h2:=putD_len ys x.1 x.2.1 x.2.2
  show (Xs (WK ys x.1 x.2.1 x.2.2) r).length≤_
  rw [List.length_cons];omega
theorem putD_key {xs:List (D × Value × Value)}{k:D}{u v:Value}{z:D × Value × Value} (h:z∈WK xs k u v):(∃ x∈xs,z.1=x.1∧z.2.1=x.2.1)∨(z.1=k∧z.2.1=u):=by
 unfold WK at h
 split at h
 ·obtain ⟨x,hx,rfl⟩:=List.mem_map.mp h
  refine .inl ⟨x,hx,?_⟩
  split <;> exact ⟨rfl,rfl⟩
 ·rcases List.mem_append.mp h with h | h
  ·exact .inl ⟨z,h,rfl,rfl⟩
  ·cases List.mem_singleton.mp h
   exact .inr ⟨rfl,rfl⟩
theorem qw:∀ {xs ys:List (D × Value × Value)}{z:D × Value × Value},z∈Xs ys xs→(∃ x∈ys,z.1=x.1∧z.2.1=x.2.1)∨(∃ x∈xs,z.1=x.1∧z.2.1=x.2.1)
 | [],ys,z,h=>.inl ⟨z,h,rfl,rfl⟩
 | x :: r,ys,z,h=>by
  rcases qw (xs:=r) (ys:=WK ys x.1 x.2.1 x.2.2) h with ⟨y,hy,e1,e2⟩ | ⟨y,hy,e⟩
  ·rcases putD_key hy with ⟨q,hq,f1,f2⟩ | ⟨f1,f2⟩
   ·exact .inl ⟨q,hq,e1.trans f1,e2.trans f2⟩
   ·exact .inr ⟨x,List.mem_cons_self,e1.trans f1,e2.trans f2⟩
  ·exact .inr ⟨y,List.mem_cons_of_mem _ hy,e⟩
theorem jf (hn:(xs.map (·.1)).Nodup):Xs [] xs=xs:=by
 have:∀ (r acc:List (D × Value × Value)),((acc++r).map (·.1)).Nodup→Xs acc r=acc++r:=by
  intro r
  induction r with
  | nil=>intro acc _;rw [List.append_nil];rfl
  | cons x r ih=>
   intro acc h
   have fr:∀ z∈acc,z.1≠x.1:=fun z hz e=>by
    rw [List.map_append,List.nodup_append] at h
    exact h.2.2 z.1 (List.mem_map.mpr ⟨z,hz,rfl⟩) x.1 (by simp) e
   show Xs (WK acc x.1 x.2.1 x.2.2) r=_
   rw [vF fr,ih _ (by simpa using h)]
   simp
 simpa using this xs [] (by simpa using hn)
theorem dv_mergeG {nm:String}{o:Addr}{Q:Unit→Shared→Prop} (hr:knd.room A) (hdo:d≠o) (hoS:(o == sysModules)=false) (m:Wo knd s.heap d ys) (mo:Wo knd s.heap o xs)
  (hisy:∀ h',Heap.SameBut d s.heap h'→∀ x∈ys,knd.is h' x.1 x.2.1) (his:∀ h',Heap.SameBut d s.heap h'→∀ x∈xs,knd.is h' x.1 x.2.1) (hi:ys=[]→knd.quiet=false→∀ x∈xs,∀ y∈xs,knd.hash x.1=knd.hash y.1→x.1=y.1) (hsz:ys.length+xs.length≤sizeLine)
  (hQ:∀ h',Wo knd h' d (Xs ys xs)→Heap.SameBut d s.heap h'→Q () { s with heap:=h' }):wpAny (model prog w) A (Builtin.Dict.mergeDict nm d o) Q E s:=by
 by_cases hy:ys=[]
 ·subst hy
  refine dv_merge hr hdo hoS m mo his (hi rfl) (by simpa using hsz) fun h' a b=>hQ h' ?_ b
  obtain ⟨_,_,_,_,_,_,_,hno⟩:=mo
  rw [jf hno];exact a
 obtain ⟨od,esd,epd,hod,hcd,hdd,hed,hnd⟩:=id m
 obtain ⟨oo,eso,epo,hoo,hco,hdo',heo,hno⟩:=id mo
 unfold Builtin.Dict.mergeDict
 rw [if_neg (by simpa using hdo)]
 unfold Builtin.Dict.showsAll
 rw [if_neg (by rw [hoS];exact Bool.false_ne_true)]
 refine wpAny_bind (wpAny_pure ?_)
 refine wpAny_bind (wpAny_dictEntries hoo hdo' ?_)
 have hlen:eso.size=xs.length:=by
  have:=congrArg List.length heo
  rw [List.length_map,Array.length_toList] at this;exact this
 have loop:wpAny (model prog w) A (do
   let epoch ← dictEpoch o
   let l ← dictEntries o
   forIn [:l.size] PUnit.unit fun i (_:PUnit)=>(do
     let l' ← dictEntries o
     match l'[i]? with
      | some e=>do
       holding [e.key,e.val] (dictSetHashed d e.key e.hash e.val)
       let ep' ← dictEpoch o
       if (ep' != epoch)=true then do
         (unsupported (toString nm++toString ":source-changed-during-callback"):Sem PUnit)
         pure (ForInStep.yield PUnit.unit)
        else pure (ForInStep.yield PUnit.unit)
      | _=>do
       (unsupported "internal:dict-merge" : Sem PUnit)
       pure (ForInStep.yield PUnit.unit):Sem (ForInStep PUnit))
   pure ()) Q E s:=by
  refine wpAny_bind (wpAny_dictEpoch hoo hdo' ?_)
  refine wpAny_bind (wpAny_dictEntries hoo hdo' ?_)
  refine wpAny_bind ?_
  rw [Std.Legacy.Range.forIn_eq_forIn_range']
  simp only [Std.Legacy.Range.size,Nat.sub_zero,Nat.add_sub_cancel,Nat.div_one]
  refine wpAny_forIn_list _
   (fun Xc _ s'=>∃ h' i,s'={ s with heap:=h' }∧Xc=List.range' i (eso.size - i)∧i≤eso.size∧Wo knd h' d (Xs ys (xs.take i))∧h'.get? o=some oo∧Heap.SameBut d s.heap h')
   _ ?_ ?_ _ _ ⟨s.heap,0,rfl,by simp,Nat.zero_le _,by simpa [Xs] using m,hoo,Heap.SameBut.refl _ _⟩
  ·rintro x Xc b s' ⟨h',i,rfl,hr',hi',hd',hoo',hs'⟩
   have hlt:i<eso.size:=by
    rcases Nat.lt_or_ge i eso.size with h | h
    ·exact h
    ·rw [Nat.sub_eq_zero_of_le h] at hr';simp at hr'
   obtain ⟨rfl,hrest⟩:x=i∧Xc=List.range' (i+1) (eso.size - (i+1)):=by
    have e:eso.size - i=(eso.size - (i+1))+1:=by omega
    rw [e,List.range'_succ] at hr'
    injection hr' with h1 h2
    exact ⟨h1,h2⟩
   refine wpAny_bind (wpAny_dictEntries hoo' hdo' ?_)
   have hlx:x<xs.length:=by omega
   have hx:xs[x]?=some xs[x]:=List.getElem?_eq_getElem hlx
   have ee:eso[x]?=some (⟨knd.hash xs[x].1,xs[x].2.1,xs[x].2.2⟩:DictEntry):=by rw [← Array.getElem?_toList,heo,List.getElem?_map,hx];rfl
   rw [ee]
   have hisx:=his h' hs'
   have hisy':∀ z∈Xs ys (xs.take x),knd.is h' z.1 z.2.1:=fun z hz=>by
    rcases qw hz with ⟨y,hy,e1,e2⟩ | ⟨y,hy,e1,e2⟩
    ·rw [e1,e2];exact hisy h' hs' y hy
    ·rw [e1,e2];exact hisx y (List.mem_of_mem_take hy)
   show wpAny _ _ (holding [xs[x].2.1,xs[x].2.2] (dictSetHashed d xs[x].2.1 (knd.hash xs[x].1) xs[x].2.2) >>= _) _ _ _
   refine wpAny_bind (wpAny_holding (V7 (s:={ s with heap:=h' }) hr (hisx _ (List.getElem_mem hlx)) hd' hisy' (fun h'' hd'' hs''=>?_) (by have:=ji ys (xs.take x);rw [List.length_take] at this;omega)))
   have hoo'':h''.get? o=some oo:=(hs''.2 o (Ne.symm hdo)).trans hoo'
   refine wpAny_bind (wpAny_dictEpoch (s:={ s with heap:=h'' }) hoo'' hdo' ?_)
   rw [if_neg (by simp)]
   refine wpAny_pure ⟨h'',x+1,rfl,hrest,hlt,?_,hoo'',hs'.trans hs''⟩
   rw [List.take_add_one,hx]
   show Wo knd h'' d (Xs ys (xs.take x++[xs[x]]))
   rw [ve];exact hd''
  ·rintro b s' ⟨h',i,rfl,hr',hi',hd',hoo',hs'⟩
   have hin:i=eso.size:=by
    rcases Nat.lt_or_ge i eso.size with h | h
    ·have e:eso.size - i=(eso.size - (i+1))+1:=by omega
     rw [e,List.range'_succ] at hr';exact nomatch hr'
    ·exact Nat.le_antisymm hi' h
   refine wpAny_pure (hQ h' ?_ hs')
   rw [hin,hlen,List.take_length] at hd';exact hd'
 dsimp only
 split
 ·refine wpAny_bind (wpAny_dictEntries hod hdd ?_)
  have hemp:¬ esd.isEmpty=true:=by
   intro h0
   have:=congrArg List.length hed
   rw [Array.length_toList,Array.isEmpty_iff_size_eq_zero.mp h0,List.length_map] at this
   exact hy (List.eq_nil_of_length_eq_zero this.symm)
  rw [if_neg hemp]
  exact loop
 ·exact loop
end
end L3
namespace L3
open PySem PySem.Spec PyProof.Rows L2
abbrev TEm:=St→Hp→(St→Hp→Prop)→Prop
def PEm (X:Cx) (em:Sem Unit) (t:TEm):Prop:=
 ∀ (pins:List (Addr × Obj)) (s:Shared) (σ:St) (H:Hp) (Q:St→Hp→Prop),L2.Inv X pins σ H s→t σ H Q→wpAny (model X.prog X.w) X.A em (fun _ s'=>∃ σ' H',L2.Inv X pins σ' H' s'∧Q σ' H') X.xe s
def yf (J:It) (g:TG) (tt:TT) (em:TEm) (σ0:St) (H1:Hp) (Q:St→Hp→Prop):Prop:=
 ∃ W:Nat→Nat→St→Hp→Prop,(∃ m,W 0 m σ0 H1)∧∀ i m σ' H',W i m σ' H'→(J.stop i H'∧Q σ' H') ∨
  (J.go i H'∧∃ N:St→Hp→Prop,(∀ σ2 H5,N σ2 H5→∃ m',m'<m∧W (i+1) m' σ2 H5)∧∀ x H2,J.yld i H' x H2→g x σ' H2 fun σ2 H3=>tt σ2 H3 fun c H4=>if c=true then em σ2 H4 N else N σ2 H4)
def UK (p:Pos) (tg:Expr) (ifs:List Expr) (it:Value) (env:Env) (body:Sem Unit) (c:Code):Sem Fin:=do
 standAt p
 match ← pyNext it with
 | none=>pure (.done .next)
 | some v=>
  letOwnedTupleGo tg it v
  assign tg env v
  let mut ok:=true
  for c in ifs do
   if ok then ok ← isTrue c env (eval c env)
  if ok then body
  again c
theorem den_loop {prog:Program}{w:World}{e:Expr}{d:Nat}{it acc:Value}{env:Env} (h:(Code.compLoop e d it acc env).isFrame=false) :
  (model prog w).den (.compLoop e d it acc env)=(compTurn e d it acc env).onRaise (fun x=>do noteFrame x env;theTreesLotGoes x):=by
 show (if (Code.compLoop e d it acc env).isFrame then (compTurn e d it acc env).onRaise (leaving env) else (compTurn e d it acc env).onRaise (fun x=>do noteFrame x env;theTreesLotGoes x))=_
 rw [h];rfl
theorem den_start {prog:Program}{w:World}{e:Expr}{d:Nat}{it acc:Value}{env:Env} (h:(Code.compStart e d it acc env).isFrame=false) :
  (model prog w).den (.compStart e d it acc env)=(compStart e d it acc env).onRaise (fun x=>do noteFrame x env;standAt theWindowsPlace):=by
 show (if (Code.compStart e d it acc env).isFrame then (compStart e d it acc env).onRaise (leaving env) else (compStart e d it acc env).onRaise (fun x=>do noteFrame x env;standAt theWindowsPlace))=_
 rw [h];rfl
theorem zW {prog:Program}{w:World}{A:Around}{R:Result→Shared→Prop}{s:Shared}{e tg iter:Expr}{ifs:List Expr}{d:Nat}{it acc:Value}{env:Env} (cl:(clausesOf e)[d]?=some ⟨tg,iter,ifs,0⟩) (hf:(Code.compStart e d it acc env).isFrame=false)
  (h0:codeAny (model prog w) A (.compLoop e d it acc env) R s)
  (h:wpAny (model prog w) A (pyIter it) (fun it' s'=>codeAny (model prog w) A (.compLoop e d it' acc env) R s') (fun _ _=>False) s) (hu:A.under (.compStart e d it acc env)=A:=by rfl) (hq:∀ it',(Code.compLoop e d it' acc env).quiet=true:=by intro _;rfl) :
  codeAny (model prog w) A (.compStart e d it acc env) R s:=by
 refine codeAny_of_tree ?_
 rw [den_start hf,hu]
 refine wpAny_notedAt ?_
 unfold compStart
 rw [cl]
 show wpAny _ A (ask >>= _) _ _ s
 refine wpAny_bind (wpAny_askSetting (wpAny_ite ?_))
 split
 ·first
   | exact wpAny_bind (wpAny_pure (wpAny_pure (And.intro (hq _) h0)))
   | exact wpAny_pure (And.intro (hq _) h0)
 ·first
   | exact wpAny_bind (wpAny_rule (wpAny_bind (wpAny_standAt (wpAny_bind (thnF h fun it' s' h'=>wpAny_pure (And.intro (hq _) h'))))))
   | (refine wpAny_bind (wpAny_rule ?_);show wpAny _ _ (standAt iter.pos >>= _) _ _ s;exact wpAny_bind (wpAny_standAt (wpAny_bind (thnF h fun it' s' h'=>wpAny_pure (And.intro (hq _) h')))))
section
variable {Y:Cx}{pins:List (Addr × Obj)}{σ0:St}{H1:Hp}{s:Shared}{J:It}{fp:List Addr}{it:Addr}{tn:Nat→Heap→Prop}{tg:Expr}{ifs:List Expr}{g:TG}{tt:TT}{em:TEm}{p:Pos}{body:Sem Unit}{e:Expr}{d:Nat}{acc:Value}{Q:St→Hp→Prop}{R:Result→Shared→Prop}
theorem loop_em (hf:(Code.compLoop e d (.ref it) acc Y.env).isFrame=false) (ht:compTurn e d (.ref it) acc Y.env=UK p tg ifs (.ref it) Y.env body (.compLoop e d (.ref it) acc Y.env))
  (T:Turn Y.prog Y.w Y.K tg J fp it tn) (I:L2.Inv Y pins σ0 H1 s) (st:tn 0 s.heap) (hfp:∀ b∈fp,Ve Y pins H1 b) (hc:Y.calm=true) (hx:Y.xe=fun _ _=>False)
  (hg:PG Y tg g) (hT:PTs Y ifs tt) (he:PEm Y body em) (h:yf J g tt em σ0 H1 Q) (hR:∀ σ' H' s',L2.Inv Y pins σ' H' s'→Q σ' H'→R (.ok .next) s')
  (hu:Y.A.under (.compLoop e d (.ref it) acc Y.env)=Y.A:=by rfl) (hq:(Code.compLoop e d (.ref it) acc Y.env).quiet=true:=by rfl) :
  codeAny (model Y.prog Y.w) Y.A (.compLoop e d (.ref it) acc Y.env) R s:=by
 obtain ⟨W,⟨m0,w0⟩,turn⟩:=h
 have stat:∀ {H':Hp},(∀ b∈fp,H' b=none)→∀ b∈fp,Ve Y pins H' b:=fun {H'} hn b hb=>by
  obtain ⟨f0,fr⟩:=hfp b hb
  exact ⟨hn b hb,fr⟩
 unfold PG at hg
 unfold PTs at hT
 unfold PEm at he
 rw [hx] at hg hT he
 refine codeAny_loop hq (fun n s'=>∃ i σ' H',L2.Inv Y pins σ' H' s'∧tn i s'.heap∧(∀ b∈fp,H' b=none)∧W i n σ' H') ?_ m0 ⟨0,σ0,H1,I,st,fun b hb=>(hfp b hb).1,w0⟩
 rintro n s5 ⟨i,σ5,H5,I5,st5,fr5,w5⟩
 rw [den_loop hf,hu,ht]
 refine wpAny_noted ?_
 unfold UK
 have TI:=T.item Y rfl rfl rfl hc i pins s5 σ5 H5 (fun _ _=>False) I5 (stat fr5) st5
 have TD:=T.done Y rfl rfl rfl hc i pins s5 σ5 H5 (fun _ _=>False) I5 (stat fr5) st5
 rcases turn i n σ5 H5 w5 with ⟨stop,qn⟩ | ⟨go,N,hN,step⟩
 ·refine wpAny_bind (wpAny_standAt (wpAny_bind (thnF (TD stop) fun r s6 ⟨hr,I6⟩=>?_)))
  subst hr
  exact wpAny_pure (hR _ _ _ I6 qn)
 ·refine wpAny_bind (wpAny_standAt (wpAny_bind (thnF (TI go) fun r s6 ⟨u,hr,h6⟩=>?_)))
  subst hr
  refine wpAny_bind (thnF h6 fun _ s7 ⟨x,H7,I7,r7,y7,st7,fr7⟩=>?_)
  have I7':=I7.pinned (stat fr7) (T.obj _ _ st7)
  refine wpAny_bind (thnF (hg _ s7 σ5 H7 x u _ I7' r7 (step x H7 y7)) fun _ s8 ⟨σ8,H8,I8,q8⟩=>?_)
  refine wpAny_bind (thnF (hT _ s8 σ8 H8 _ I8 q8) fun c s9 ⟨H9,I9,q9⟩=>?_)
  have back:∀ {σa:St}{Ha:Hp}{sa:Shared},L2.Inv Y (pins++qF fp s7.heap) σa Ha sa→(∃ m',m'<n∧W (i+1) m' σa Ha)→∃ m,m<n∧∃ i σ' H',L2.Inv Y pins σ' H' sa∧tn i sa.heap∧(∀ b∈fp,H' b=none)∧W i m σ' H':=fun {σa Ha sa} Ia ⟨m',hm,wa⟩=>by
   refine ⟨m',hm,i+1,σa,Ha,Ia.unpinned,T.keep _ _ _ st7 fun b hb o e=>(Ia.pin (b,o) (List.mem_append_right _ (List.mem_append_right _ (W4 hb e)))).1,fun b hb=>?_,wa⟩
   obtain ⟨o,e,d⟩:=T.obj _ _ st7 b hb
   exact (Ia.pin (b,o) (List.mem_append_right _ (List.mem_append_right _ (W4 hb e)))).2.1
  cases c with
  | false=>exact wpAny_pure ⟨rfl,back I9 (hN _ _ (by simpa using q9))⟩
  | true=>
   rw [if_pos rfl] at q9
   exact wpAny_bind (thnF (he _ s9 σ8 H9 _ I9 q9) fun _ s10 ⟨σ10,H10,I10,q10⟩=>wpAny_pure ⟨rfl,back I10 (hN _ _ q10)⟩)
def Vy (iter:Expr) (e:Expr) (d:Nat) (acc:Value) (env:Env):Sem Unit:=do
 let x ← eval iter env
 standAt iter.pos
 let x ← foldedSetIterable iter env x
 let _ ← runOwn (.compStart e d (← holding [x] (pyIter x)) acc env) env
theorem pem_for {iter:Expr}{wi:TI} (cl:(clausesOf e)[d]?=some ⟨tg,iter,ifs,0⟩) (hf:∀ it,(Code.compLoop e d it acc Y.env).isFrame=false∧(Code.compStart e d it acc Y.env).isFrame=false)
  (ht:∀ it,compTurn e d it acc Y.env=UK p tg ifs it Y.env body (.compLoop e d it acc Y.env)) (hc:Y.calm=true) (hx:Y.xe=fun _ _=>False)
  (hi:PI Y tg iter wi) (hg:PG Y tg g) (hT:PTs Y ifs tt) (he:PEm Y body em) (hs:∀ x,foldedSetIterable iter Y.env x=pure x:=by intro _;rfl)
  (hu:∀ it,Y.A.under (.compLoop e d it acc Y.env)=Y.A∧Y.A.under (.compStart e d it acc Y.env)=Y.A:=by intro _;exact ⟨rfl,rfl⟩) (hq:∀ it,(Code.compLoop e d it acc Y.env).quiet=true:=by intro _;rfl) :
  PEm Y (Vy iter e d acc Y.env) (fun σ H Q=>wi σ H fun J H1=>yf J g tt em σ H1 Q):=by
 intro pins s σ H Q I h
 unfold Vy
 refine wpAny_bind (thn (hi pins s σ H _ I h) fun v s1 q1=>?_)
 refine wpAny_bind (wpAny_standAt (wpAny_bind (wpAny_of_eq (hs v) ?_)))
 refine wpAny_bind (wpAny_holding (thn q1 fun itv s2 q2=>?_))
 obtain ⟨it,fp,tn,J,H1,e1,I2,T,st2,f2,q⟩:=q2
 subst e1
 have loop:=loop_em (p:=p) (R:=fun r s'=>match r with | .ok f=>wpAny (model Y.prog Y.w) Y.A (pure ()) (fun _ s'=>∃ σ' H',L2.Inv Y pins σ' H' s'∧Q σ' H') Y.xe s' | .error e=>cameBackBy (model Y.prog Y.w) Y.A Y.env Y.xe e s') (hf _).1 (ht _) T I2 st2 f2 hc hx hg hT he q (fun σ' H' s' I' q'=>wpAny_pure ⟨σ',H',I',q'⟩) (hu _).1 (hq _)
 refine wpAny_bind (wpAny_runOwn ?_)
 exact zW cl (hf _).2 loop (T.self Y.A 0 _ _ _ st2 loop) (hu _).2 hq
end
def qx (wi:TI) (ix:List (Option Nat)) (o0:Addr→HO) (g:TG) (tt:TT) (em:Addr→TEm):TE:=fun σ H Q=>wi σ H fun J H1=>∀ D,H1 D=none→yf J g tt (em D) (sub ix σ) (upd H1 D (o0 D)) (fun _ H'=>Q (.ref D) H')
section
variable {X:Cx}{pins:List (Addr × Obj)}{σ:St}{H:Hp}{s:Shared}{Nc:List Str}{ix:List (Option Nat)}{scope:Scope}
theorem Vx {e tg iter:Expr}{ifs:List Expr}{Xc:List Comprehension}{pos2:Pos}{nA:Sem Value}{ob:Obj}{o0:Addr→HO}{bd:Addr→Env→Sem Unit}{wi:TI}{g:TG}{tt:TT}{em:Addr→TEm}{use:Option (Value→Sem Unit)}{QV:Value→Shared→Prop}{Q:VK}
  (I:L2.Inv X pins σ H s) (h:qx wi ix o0 g tt em σ H Q)
  (fin:∀ (D C:Addr) (H':Hp) (s':Shared) (m:Str→Option Value),L2.Inv X pins σ H' s'→Ve X pins H' C→s'.heap.Ns C m→Q (.ref D) H'→compPost (model X.prog X.w) X.A X.xe use QV (.ref D) C (.ok .next) s')
  (hcl:clausesOf e=⟨tg,iter,ifs,0⟩ :: Xc) (hfr:∀ it acc env,(Code.compLoop e 0 it acc env).isFrame=false∧(Code.compStart e 0 it acc env).isFrame=false)
  (htn:∀ it D env,compTurn e 0 it (.ref D) env=UK iter.pos tg ifs it env (bd D env) (.compLoop e 0 it (.ref D) env))
  (hun:∀ (A:Around) it acc env,A.under (.compLoop e 0 it acc env)=A∧A.under (.compStart e 0 it acc env)=A) (hqt:∀ it acc env,(Code.compLoop e 0 it acc env).quiet=true)
  (hnA:∀ (A:Around) (E:Value→Shared→Prop) (Q:Value→Shared→Prop) (s:Shared),Q (.ref s.heap.objs.size) { s with heap:=s.heap.push ob }→wpAny (model X.prog X.w) A nA Q E s)
  (hpl:∀ s2:Shared,∀ H1,L2.Inv X pins σ H1 s2→L2.Inv X pins σ (upd H1 s2.heap.objs.size (o0 s2.heap.objs.size)) { s2 with heap:=s2.heap.push ob })
  (ok:ZD X.env.scope X.N Nc ix scope) (hc:X.calm=true) (hi:PI X tg iter wi)
  (hg:∀ cl C s H fp,PG (ZN X Nc scope cl C s H fp) tg g) (ht:∀ cl C s H fp,PTs (ZN X Nc scope cl C s H fp) ifs tt) (he:∀ cl C s H fp D,PEm (ZN X Nc scope cl C s H fp) (bd D (compEnvC scope cl C X.env)) (em D))
  (hs:∀ x,foldedSetIterable iter X.env x=pure x:=by intro _;rfl):wpAny (model X.prog X.w) X.A (comprehension e scope X.env pos2 nA false (eval iter X.env) use) QV X.xe s:=by
 refine wpAny_comprehension_free (use:=use) (cl:=XZ scope X.env) hcl hs (clos_eq (UF I ok)) ok.kind ok.names (thn (hi pins s σ H _ I h) fun v s1 q1=>thn q1 fun itv s2 q2=>?_)
 obtain ⟨it,fp,tn,J,H1,e1,I2,T,st2,f2,q⟩:=q2
 subst e1
 have hD:H1 s2.heap.objs.size=none:=I2.hok.fresh (Nat.le_refl _)
 have lw:=q _ hD
 refine hnA _ _ _ _ ?_
 have I3:=hpl s2 H1 I2
 have hob2:=T.obj 0 _ st2
 have f3:∀ b∈fp,Ve X pins (upd H1 s2.heap.objs.size (o0 s2.heap.objs.size)) b:=fun b hb=>by
  obtain ⟨o,e,_⟩:=hob2 b hb
  obtain ⟨f0,fr⟩:=f2 b hb
  exact ⟨by rw [Zo (Nat.ne_of_lt (Heap.lt_size e))];exact f0,fr⟩
 have st3:tn 0 (s2.heap.push ob):=T.keep 0 _ _ st2 fun b _ o e=>Heap.get?_push_of_some _ e
 generalize hs3:({ s2 with heap:=s2.heap.push ob }:Shared)=s3 at I3 ⊢
 have st3':tn 0 s3.heap:=by rw [← hs3];exact st3
 refine wpAny_newFunctionEnv ok.nocell (by intro y hy;simp at hy) (fun h1 hns hsb=>?_) ok.kind
 have k1:∀ b o,s3.heap.get? b=some o→h1.get? b=some o:=fun b o e=>(hsb.2 b (Nat.ne_of_lt (Heap.lt_size e))).trans (Heap.get?_push_of_some _ e)
 have hob3:∀ b∈fp,∃ o,s3.heap.get? b=some o:=fun b hb=>let ⟨o,e,_⟩:=T.obj 0 _ st3' b hb; ⟨o,e⟩
 have I4:L2.Inv (ZN X Nc scope (XZ scope X.env) s3.heap.objs.size s3 (upd H1 s2.heap.objs.size (o0 s2.heap.objs.size)) fp) pins (sub ix σ) (upd H1 s2.heap.objs.size (o0 s2.heap.objs.size)) { s3 with heap:=h1,toks:=s3.toks+([]:List (Str × Value)).length }:=
  jy I3 ok f3 hob3 hns k1
 have st4:tn 0 h1:=T.keep 0 _ _ st3' fun b _ o e=>k1 b o e
 have hC:s3.heap.get? s3.heap.objs.size=none:=Heap.get?_none_of_le (Nat.le_refl _)
 have f4:∀ b∈fp,Ve (ZN X Nc scope (XZ scope X.env) s3.heap.objs.size s3 (upd H1 s2.heap.objs.size (o0 s2.heap.objs.size)) fp) pins (upd H1 s2.heap.objs.size (o0 s2.heap.objs.size)) b:=fun b hb=>by
  obtain ⟨o,e⟩:=hob3 b hb
  obtain ⟨f0,f1,ff,f3',f4,f5⟩:=f3 b hb
  have nst:b∉frs X.stack:=fun z=>by
   rcases List.mem_cons.mp (I3.stkSub b z) with z | z
   ·exact f1 z
   ·exact ff z
  exact ⟨f0,Nat.ne_of_lt (Heap.lt_size e),nst,.inl hb,fun x c q=>f4 x c (We (UF I3 ok) q),f5⟩
 have loop:=loop_em (Y:=ZN X Nc scope (XZ scope X.env) s3.heap.objs.size s3 (upd H1 s2.heap.objs.size (o0 s2.heap.objs.size)) fp) (e:=e) (d:=0) (acc:=.ref s2.heap.objs.size) (p:=iter.pos) (R:=compPost (model X.prog X.w) X.A X.xe use QV (.ref s2.heap.objs.size) s3.heap.objs.size)
  (hfr _ _ _).1 (htn _ _ _) T I4 st4 f4 hc rfl (hg _ _ _ _ _) (ht _ _ _ _ _) (he _ _ _ _ _ _) lw (fun σ' H' s' J' qq=>by
   obtain ⟨m',hn',_⟩:=id J'.loc
   have hCn:H' s3.heap.objs.size=none:=J'.free
   exact fin _ _ H' s' m' (comp_end (h':=s'.heap) I3 f3 hC J' (.refl ..)) (I3.fpOk (Nat.le_refl _) hCn) hn' qq) (hun _ _ _ _).1 (hqt _ _ _)
 exact zW (by rw [hcl];rfl) (hfr _ _ _).2 loop (T.self X.A 0 _ _ _ st4 loop) (hun _ _ _ _).2 (fun _=>hqt _ _ _)
end
end L3
namespace L2
open PySem PySem.Spec PyProof.Rows
section
variable (P:Program) (w:World)
end
section
variable {P:Program}{w:World}{H H':Hp}{h h':Heap}{a:Addr}{o:HO}
end
section
variable {P:Program}{w:World}{H:Hp}{h h':Heap}{x e:Addr}{o':HO}
end
section
variable {fs fs' ex ex':List Addr}{H H1 H2:Hp}{h h1 h2 h':Heap}{a x e:Addr}{o:HO}
end
section
variable {X:Cx}{pins:List (Addr × Obj)}{σ:List (Option V)}{H H':Hp}{s:Shared}{h':Heap}
end
section
variable {X:Cx}
variable {a b:Expr}{ta tb:TE}{pos:Pos}
variable {tA tB':TT}{Xc:List Expr}
end
section
variable {X:Cx}{pins:List (Addr × Obj)}{σ:St}{H:Hp}{s:Shared}{a:Addr}{xs ys:List V}
end
section
variable {X:Cx}{pins:List (Addr × Obj)}{σ:St}{H:Hp}{s:Shared}{E:Value→Shared→Prop}
end
section
variable {X:Cx}{st:Stmt}{Xc:List Stmt}{t u:TS}{e:Expr}{te:TE}{pos:Pos}
end
section
variable {X:Cx}{pos:Pos}
end
section
variable {X:Cx}{pos:Pos}
end
section
variable {X:Cx}{tg:Expr}
end
section
variable {X:Cx}{a b c:Expr}{ta tb tc:TE}{pos:Pos}
end
section
variable {X:Cx}{a b c:Expr}{ta tb tc:TE}{pos:Pos}
end
section
variable {prog:Program}{w:World}{A:Around}{E:Value→Shared→Prop}{s:Shared}{K:PySem.W.Frag}{x dx C f:Addr}{mA:Str→Option Value}{name:Str}{v:Value}
end
section
variable {P:Program}{w:World}{H H':Hp}{h h':Heap}{a C dx:Addr}{fs fs':List (Str × V)}
end
section
variable {X:Cx}{pins:List (Addr × Obj)}{σ:St}{H:Hp}{s:Shared}{a C dx:Addr}{fs:List (Str × V)}{f:Str}{v:V}{A:Around}{E:Value→Shared→Prop}
end
section
variable {X:Cx}{o e value:Expr}{f:Str}{pos pos' tpos:Pos}{ta tv:TE}
end
section
variable {X:Cx}{pins:List (Addr × Obj)}{σ:St}{H:Hp}{s:Shared}{A:Around}{E:Value→Shared→Prop}{Q:Value→Shared→Prop}{c:Value}{b:Bool}
end
section
variable {X:Cx}{e:Expr}{es:List Expr}{te:TE}{t:TA}{pos:Pos}
end
section
variable {X:Cx}{pins:List (Addr × Obj)}{σ:St}{H:Hp}{s s':Shared}
end
section
variable {X:Cx}{CX:CXT}{k:Nat}{f C:Addr}{fd:FuncData}{ps:List Str}{sp:Sp}{dvs:List V}{ds:List Value}{E:XK}{x m:Str}{p pos apos:Pos}{e o:Expr}{es:List Expr}{ta:TE}{t:TA}
end
section
variable {X:Cx}{CX:CXT}{k:Nat}{f C:Addr}{fd:FuncData}{ps ks:List Str}{sp:Sp}{E:XK}{x m:Str}{p pos apos kpos:Pos}{e o:Expr}{es:List Expr}{kws:List Keyword}{te ta:TE}{t tk:TA}{nm:Option Str}
variable {g:List Value→List Value→List Value}{gV:List V→List V→List V}
end
section
variable {X:Cx}{x:Str}{p pos:Pos}{e:Expr}{es:List Expr}{t:TA}{id T:String}{r:List V→Hp→VK→Prop}
end
section
variable {κ:Type} [DecidableEq κ]
def VR (kvs:List (κ × V)) (k:κ):Option V:=(kvs.find? fun kv=>decide (kv.1=k)).map (·.2)
def Wa (kvs:List (κ × V)) (k:κ) (v:V):List (κ × V):=
 if (kvs.any fun kv=>decide (kv.1=k))=true then kvs.map (fun kv=>if kv.1=k then (kv.1,v) else kv) else kvs++[(k,v)]
theorem V3 {p:κ × V}{r:List (κ × V)}{k:κ} (e:p.1=k):VR (p :: r) k=some p.2:=by simp [VR,List.find?_cons,e]
theorem Ug {p:κ × V}{r:List (κ × V)}{k:κ} (e:¬ p.1=k):VR (p :: r) k=VR r k:=by simp [VR,List.find?_cons,e]
theorem qG (k:κ):∀ kvs:List (κ × V),(kvs.any fun kv=>decide (kv.1=k))=(VR kvs k).isSome
 | []=>rfl
 | p :: r=>by
  rw [List.any_cons]
  by_cases e:p.1=k
  ·simp only [V3 e,decide_eq_true e,Bool.true_or,Option.isSome_some]
  ·rw [Ug e,decide_eq_false e,Bool.false_or];exact qG k r
theorem Wk (kvs:List (κ × V)) (k:κ) (v:V):(Wa kvs k v).length≤kvs.length+1:=by
 unfold Wa
 split
 ·rw [List.length_map];omega
 ·rw [List.length_append,List.length_cons,List.length_nil];omega
theorem putK_new {kvs:List (κ × V)}{k:κ} (v:V) (h:VR kvs k=none):Wa kvs k v=kvs++[(k,v)]:=by
 unfold Wa
 rw [qG,h]
 exact if_neg (by decide)
theorem Vz.isSome_eq {o:Option V}{u:Option Value} (r:Vz o u):o.isSome=u.isSome:=by
 cases o with
 | none=>cases u with
  | none=>rfl
  | some _=>exact (show False from r).elim
 | some _=>cases u with
  | none=>exact (show False from r).elim
  | some _=>rfl
theorem KV.val {kvs:List (κ × V)}{vs:List (κ × Value)} (r:KV kvs vs) (k:κ):Vz (VR kvs k) (valueAt vs k):=by
 unfold KV at r
 induction r with
 | nil=>exact True.intro
 | @cons p q ps qs h t ih=>
  obtain ⟨h1,h2⟩:=h
  by_cases e:p.1=k
  ·have e':q.1=k:=h1.symm.trans e
   have b:valueAt (q :: qs) k=some q.2:=by simp [valueAt,List.find?_cons,e']
   rw [V3 e,b];exact h2
  ·have e':¬ q.1=k:=fun z=>e (h1.trans z)
   have b:valueAt (q :: qs) k=valueAt qs k:=by simp [valueAt,List.find?_cons,e']
   rw [Ug e,b];exact ih
theorem KV.any {kvs:List (κ × V)}{vs:List (κ × Value)} (r:KV kvs vs) (k:κ):(kvs.any fun kv=>decide (kv.1=k))=vs.any fun kv=>decide (kv.1=k):=by
 unfold KV at r
 induction r with
 | nil=>rfl
 | cons h t ih=>rw [List.any_cons,List.any_cons,ih,h.1]
theorem KV.repl {kvs:List (κ × V)}{vs:List (κ × Value)} (r:KV kvs vs) (k:κ) {y:V}{u:Value} (ry:ZS y u) :
  KV (kvs.map fun kv=>if kv.1=k then (kv.1,y) else kv) (vs.map fun kv=>if kv.1=k then (kv.1,u) else kv):=by
 unfold KV at r ⊢
 induction r with
 | nil=>exact .nil
 | @cons p q ps qs h t ih=>
  rw [List.map_cons,List.map_cons]
  refine .cons ?_ ih
  obtain ⟨h1,h2⟩:=h
  by_cases e:p.1=k
  ·rw [if_pos e,if_pos (h1.symm.trans e)];exact ⟨h1,ry⟩
  ·rw [if_neg e,if_neg (fun z=>e (h1.trans z))];exact ⟨h1,h2⟩
theorem KV.put {kvs:List (κ × V)}{vs:List (κ × Value)} (r:KV kvs vs) (k:κ) {y:V}{u:Value} (ry:ZS y u):KV (Wa kvs k y) (stored vs k u):=by
 unfold Wa stored
 rw [r.any k]
 by_cases e:(vs.any fun kv=>decide (kv.1=k))=true
 ·rw [if_pos e,if_pos e];exact r.repl k ry
 ·rw [if_neg e,if_neg e];exact Paired.snoc r ⟨rfl,ry⟩
theorem KV.length {kvs:List (κ × V)}{vs:List (κ × Value)} (r:KV kvs vs):kvs.length=vs.length:=Paired.length r
end
theorem kV_is {P:Program}{w:World}{k:Key}{u:Value} (r:ZS (kV k) u):(Zs P w).is k u=true:=by
 cases k with
 | inl i=>obtain ⟨t,e⟩:=(show ∃ t,u=Value.int i t from r);subst e;exact vy P w i t
 | inr x=>obtain ⟨t,e⟩:=(show ∃ t,u=Value.str x t from r);subst e;exact xZ P w x t
theorem yh {P:Program}{w:World}:∀ {ks:List Key}{us:List Value},ZE (ks.map kV) us→ItemsAre (Zs P w) ks us
 | [],_,r=>by rw [List.map_nil] at r;cases r;exact .nil
 | k :: ks,_,r=>by
  rw [List.map_cons] at r
  cases r with
  | cons h t=>exact .cons (kV_is h) (yh t)
abbrev KT (H:Hp):List (List Key × V)→List (List Key × Addr × Value)→Prop:=Paired fun p q=>p.1=q.1∧H q.2.1=some (.tup (p.1.map kV))∧ZS p.2 q.2.2
theorem KT.val {H:Hp}{kvs:List (List Key × V)}{xs:List (List Key × Addr × Value)} (r:KT H kvs xs) (k:List Key):Vz (VR kvs k) ((atKey xs k).map (·.2)):=by
 induction r with
 | nil=>exact True.intro
 | @cons p q ps qs h t ih=>
  obtain ⟨h1,_,h2⟩:=h
  by_cases e:p.1=k
  ·have e':q.1=k:=h1.symm.trans e
   have b:atKey (q :: qs) k=some q.2:=by simp [atKey,List.find?_cons,e']
   rw [V3 e,b];exact h2
  ·have e':¬ q.1=k:=fun z=>e (h1.trans z)
   have b:atKey (q :: qs) k=atKey qs k:=by simp [atKey,List.find?_cons,e']
   rw [Ug e,b];exact ih
theorem KT.repl {H:Hp}{kvs:List (List Key × V)}{xs:List (List Key × Addr × Value)} (r:KT H kvs xs) (k:List Key) {y:V}{u:Value} (ry:ZS y u) :
  KT H (kvs.map fun kv=>if kv.1=k then (kv.1,y) else kv) (xs.map (putAt k u)):=by
 induction r with
 | nil=>exact .nil
 | @cons p q ps qs h t ih=>
  rw [List.map_cons,List.map_cons]
  refine .cons ?_ ih
  obtain ⟨h1,h2,h3⟩:=h
  unfold putAt
  by_cases e:p.1=k
  ·rw [if_pos e,if_pos (h1.symm.trans e)];exact ⟨h1,h2,ry⟩
  ·rw [if_neg e,if_neg (fun z=>e (h1.trans z))];exact ⟨h1,h2,h3⟩
theorem KT.put {H:Hp}{kvs:List (List Key × V)}{xs:List (List Key × Addr × Value)} (r:KT H kvs xs) (k:List Key) {b:Addr}{y:V}{u:Value} (hb:H b=some (.tup (k.map kV))) (ry:ZS y u) :
  KT H (Wa kvs k y) (storedH xs k b u):=by
 have e:(kvs.any fun kv=>decide (kv.1=k))=(atKey xs k).isSome:=by
  rw [qG,(r.val k).isSome_eq,Option.isSome_map]
 unfold Wa storedH
 rw [e]
 by_cases q:(atKey xs k).isSome=true
 ·rw [if_pos q,if_pos q];exact r.repl k ry
 ·rw [if_neg q,if_neg q];exact Paired.snoc r ⟨rfl,hb,ry⟩
theorem KT.keeps {H H':Hp}{kvs:List (List Key × V)}{xs:List (List Key × Addr × Value)} (r:KT H kvs xs) (ht:∀ b ys,H b=some (.tup ys)→H' b=some (.tup ys)):KT H' kvs xs:=
 Paired.mapP r fun _ _ z=>⟨z.1,ht _ _ z.2.1,z.2.2⟩
section
variable {P:Program}{w:World}{H:Hp}{h:Heap}{a:Addr}
theorem rd_of {u:HO} (ok:HOk P w H h) (e:Rd H a u):YB P w H h a u:=e.ok ok
theorem dk_rd {kvs:List (Key × V)} (ok:HOk P w H h) (e:Rd H a (.dK kvs)):kvs.length≤sizeLine∧(a == sysModules)=false∧∃ vs,KV kvs vs∧h.DictOf (Zs P w) a vs:=
 show YB P w H h a (.dK kvs) from rd_of ok e
theorem dk_of {kvs:List (Key × V)} (ok:HOk P w H h) (e:H a=some (.dK kvs)):kvs.length≤sizeLine∧(a == sysModules)=false∧∃ vs,KV kvs vs∧h.DictOf (Zs P w) a vs:=dk_rd ok (.inl e)
theorem Uu {ks:List Key} (ok:HOk P w H h) (e:H a=some (.tup (ks.map kV))):(tupleKind (Zs P w)).is h ks a:=by
 obtain ⟨_,its,r,o,h1,h2,n,h3⟩:=(show YB P w H h a (.tup (ks.map kV)) from ok a _ e)
 exact ⟨o,its.toArray,n,h1,h2,h3,by simpa using yh r⟩
theorem dt_rd {kvs:List (List Key × V)} (ok:HOk P w H h) (e:Rd H a (.dT kvs)):kvs.length≤sizeLine∧(a == sysModules)=false ∧
  ∃ xs,KT H kvs xs∧h.DictOfH (tupleKind (Zs P w)) a xs:=by
 obtain ⟨z,y,xs,r,o,es,ep,h1,h2,h3,h4,h5⟩:=(show YB P w H h a (.dT kvs) from rd_of ok e)
 refine ⟨z,y,xs,r,o,es,ep,h1,h2,h3,h4,fun x hx=>?_,h5⟩
 have all:∀ {l:List (List Key × V)}{m:List (List Key × Addr × Value)},KT H l m→∀ x∈m,(tupleKind (Zs P w)).is h x.1 x.2.1:=by
  intro l m q
  induction q with
  | nil=>intro x hx;exact nomatch hx
  | @cons p q ps qs hq t ih=>
   intro x hx
   rcases List.mem_cons.mp hx with e | hx
   ·subst e
    exact Uu ok (by rw [← hq.1];exact hq.2.1)
   ·exact ih x hx
 exact all r x hx
theorem dt_of {kvs:List (List Key × V)} (ok:HOk P w H h) (e:H a=some (.dT kvs)):kvs.length≤sizeLine∧(a == sysModules)=false ∧
  ∃ xs,KT H kvs xs∧h.DictOfH (tupleKind (Zs P w)) a xs:=dt_rd ok (.inl e)
end
def DGet (H:Hp) (a:Addr) (y:V) (r:Option V):Prop:=
 (∃ kvs k,Rd H a (.dK kvs)∧y=kV k∧r=VR kvs k)∨∃ kvs k b,Rd H a (.dT kvs)∧y=.ref b∧H b=some (.tup (k.map kV))∧r=VR kvs k
def DPut (H:Hp) (a:Addr) (y v:V) (H':Hp):Prop:=
 (∃ kvs k,H a=some (.dK kvs)∧y=kV k∧kvs.length<sizeLine∧H'=upd H a (.dK (Wa kvs k v))) ∨
 ∃ kvs k b,H a=some (.dT kvs)∧y=.ref b∧H b=some (.tup (k.map kV))∧kvs.length<sizeLine∧H'=upd H a (.dT (Wa kvs k v))
theorem DGet.t {H:Hp}{a b:Addr}{kvs:List (List Key × V)}{k:List Key} (e:H a=some (.dT kvs)) (eb:H b=some (.tup (k.map kV))):DGet H a (.ref b) (VR kvs k):=.inr ⟨kvs,k,b,.inl e,rfl,eb,rfl⟩
theorem DPut.k {H:Hp}{a:Addr}{kvs:List (Key × V)}{k:Key}{v:V} (e:H a=some (.dK kvs)) (hl:kvs.length<sizeLine):DPut H a (kV k) v (upd H a (.dK (Wa kvs k v))):=.inl ⟨kvs,k,e,rfl,hl,rfl⟩
theorem DPut.t {H:Hp}{a b:Addr}{kvs:List (List Key × V)}{k:List Key}{v:V} (e:H a=some (.dT kvs)) (eb:H b=some (.tup (k.map kV))) (hl:kvs.length<sizeLine) :
  DPut H a (.ref b) v (upd H a (.dT (Wa kvs k v))):=.inr ⟨kvs,k,b,e,rfl,eb,hl,rfl⟩
section
variable {X:Cx}{pins:List (Addr × Obj)}{σ:St}{H:Hp}{s:Shared}{a:Addr}{y v:V}{u r:Value}{o:Option V}{A:Around}{E:Value→Shared→Prop}
theorem Inv.big (I:Inv X pins σ H s):sysModules<s.heap.objs.size:=by
 have h:mainGlobals<s.heap.objs.size:=(I.mod.glob.keeps I.bk).lt
 exact Nat.lt_trans (by decide) h
theorem d_getItem {Q:Value→Shared→Prop} (hu:A.units+1<cLine) (I:Inv X pins σ H s) (g:DGet H a y (some v)) (ry:ZS y u) (h:∀ w' s',Inv X pins σ H s'→ZS v w'→Q w' s') :
  wpAny (model X.prog X.w) A (getItem (.ref a) u) Q E s:=by
 rcases g with ⟨kvs,k,e,ey,l⟩ | ⟨kvs,k,b,e,ey,eb,l⟩
 ·subst ey
  obtain ⟨z,hd,vs,rel,dd⟩:=dk_rd I.hok e
  obtain ⟨w',hw,rw'⟩:=Vz.some_of (v:=v) (o:=valueAt vs k) (by rw [l];exact rel.val k)
  exact wpAny_getItem_of (kV_is ry) dd.mapOf hw (h w' _ (I.tok _) rw')
 ·subst ey
  cases (show u=Value.ref b from ry)
  obtain ⟨z,hd,xs,rel,dd⟩:=dt_rd I.hok e
  obtain ⟨w',hw,rw'⟩:=Vz.some_of (v:=v) (o:=(atKey xs k).map (·.2)) (by rw [l];exact rel.val k)
  obtain ⟨p,hp,hp2⟩:=Option.map_eq_some_iff.mp hw
  refine wpAny_getItem_heap (tupleKind_room_in1 hu) (Uu I.hok eb) dd hp ?_
  rw [hp2]
  exact h w' _ (I.tok _) rw'
theorem d_notIn {Q:Value→Shared→Prop} (hu:A.units+1<cLine) (I:Inv X pins σ H s) (g:DGet H a y o) (ry:ZS y u) (h:∀ s',Inv X pins σ H s'→Q (.bool (!o.isSome)) s') :
  wpAny (model X.prog X.w) A (compareOp .NotIn u (.ref a)) Q E s:=by
 rcases g with ⟨kvs,k,e,ey,l⟩ | ⟨kvs,k,b,e,ey,eb,l⟩
 ·subst ey
  obtain ⟨z,hd,vs,rel,dd⟩:=dk_rd I.hok e
  refine wpAny_notIn_of (kV_is ry) hd dd.mapOf ?_
  rw [← (rel.val k).isSome_eq,← l]
  exact h _ (I.tok _)
 ·subst ey
  cases (show u=Value.ref b from ry)
  obtain ⟨z,hd,xs,rel,dd⟩:=dt_rd I.hok e
  refine wpAny_notIn_heap (tupleKind_room_in1 hu) (Uu I.hok eb) hd dd ?_
  have q:=(rel.val k).isSome_eq
  rw [Option.isSome_map] at q
  rw [← q,← l]
  exact h _ (I.tok _)
theorem Vt {h':Heap}{t':Nat}{ob:HO} (I:Inv X pins σ H s) (mu:Mut (H a)) (hs:Heap.SameBut a s.heap h') (he:∃ q,h'.get? a=some q) (new:YB X.prog X.w (upd H a ob) h' a ob) :
  Inv X pins σ (upd H a ob) { s with heap:=h',toks:=t' }:=
 I.write (x:=a) (e:=a) mu (.inl rfl) (fun b q hb z=>(hs.2 b hb).trans z) he new
theorem dk_new {P:Program}{w:World}{H':Hp}{h':Heap}{kvs:List (Key × V)}{vs:List (Key × Value)} (z:kvs.length≤sizeLine) (hd:(a == sysModules)=false) (rel:KV kvs vs) (dd:h'.DictOf (Zs P w) a vs) :
  YB P w H' h' a (.dK kvs):=⟨z,hd,vs,rel,dd⟩
theorem d_setItem {H':Hp}{Q:Unit→Shared→Prop} (hu:A.units+1<cLine) (I:Inv X pins σ H s) (g:DPut H a y v H') (ry:ZS y u) (rv:ZS v r) (h:∀ s',Inv X pins σ H' s'→Q () s') :
  wpAny (model X.prog X.w) A (setItem (.ref a) u r) Q E s:=by
 rcases g with ⟨kvs,k,e,ey,l,eH⟩ | ⟨kvs,k,b,e,ey,eb,l,eH⟩
 ·subst ey eH
  obtain ⟨z,hd,vs,rel,dd⟩:=dk_of I.hok e
  have hz:vs.length≤sizeLine:=by rw [← rel.length];exact z
  have hl:(Wa kvs k v).length≤sizeLine:=by have:=Wk kvs k v;omega
  refine wpAny_setItem_pairs (hsz:=hz) (kV_is ry) dd fun h' dd' hs=>h _ ?_
  have he:∃ q,h'.get? a=some q:=let ⟨q,_,_,hq,_⟩:=dd'; ⟨q,hq⟩
  exact Vt I (by rw [e];exact True.intro) hs he (dk_new hl hd (rel.put k rv) dd')
 ·subst ey eH
  cases (show u=Value.ref b from ry)
  obtain ⟨z,hd,xs,rel,dd⟩:=dt_of I.hok e
  have hz:xs.length≤sizeLine:=by rw [← Paired.length rel];exact z
  have hl:(Wa kvs k v).length≤sizeLine:=by have:=Wk kvs k v;omega
  refine wpAny_setItem_heap (hsz:=hz) (tupleKind_room_in1 hu) (Uu I.hok eb) dd fun h' dd' hs=>h _ ?_
  obtain ⟨q,es,ep,hq,h2,h3,h4,_,h5⟩:=dd'
  refine Vt I (by rw [e];exact True.intro) hs ⟨q,hq⟩ ⟨hl,hd,_,(rel.put k eb rv).keeps fun c ys ec=>?_,q,es,ep,hq,h2,h3,h4,h5⟩
  rw [Zo (qX ec e (fun z=>nomatch z))]
  exact ec
end
section
variable {X:Cx}{pins:List (Addr × Obj)}{σ:St}{H:Hp}{s:Shared}{a:Addr}{kvs:List (Key × V)}{k:Key}{u:Value}{A:Around}{E:Value→Shared→Prop}
end
def NoSl (i:Expr):Prop:=∀ ov iv,subscripted i false ov iv=operate [ov,iv] (getItem ov iv)
theorem subD_of {prog:Program}{w:World}{A:Around}{E:Value→Shared→Prop}{s:Shared}{env:Env}{value slice:Expr}{pos:Pos}{T id:String}{Q:Value→Shared→Prop}
  (hl:typeLookup (.type T) "__getitem__" = pure (some (.builtin id))) (hs:NoSl slice)
  (h:wpAny (model prog w) A (eval value env) (fun o s₁=>wpAny (model prog w) A (eval slice env) (fun i s₂=>s₂.TypeIs o T∧wpAny (model prog w) A (getItem o i) Q E s₂) E s₁) E s) :
  wpAny (model prog w) A (eval (.Subscript value slice pos) env) Q E s:=by
 refine Subscript_ (wpAny_mono h (fun o s₁ h₁=>wpAny_mono h₁ (fun i s₂ h₂=>?_) fun _ _ x=>x) fun _ _ x=>x)
 obtain ⟨hT,h₂⟩:=h₂
 unfold subscriptTail
 refine wpAny_bind ?_
 rw [getitemInPython_of_ne hT.not_modules]
 refine wpAny_bind (wpAny_specialOf hT hl ?_)
 have fin:wpAny (model prog w) A (subscripted slice false o i) (fun r s₃=>wpAny (model prog w) A (letTemporaryGo value o r >>= fun _=>pure r) Q E s₃) E s₂:=by
  rw [hs o i]
  exact wpAny_operating (wpAny_mono h₂ (fun r s₃ h₃=>wpAny_bind (wpAny_letTemporaryGo (wpAny_pure h₃))) fun _ _ x=>x)
 first
  | exact wpAny_pure (wpAny_bind fin)
  | exact wpAny_bind (wpAny_pure (wpAny_bind fin))
  | exact wpAny_bind fin
theorem xF {X:Cx}{pins:List (Addr × Obj)}{σ:St}{H:Hp}{s:Shared}{a:Addr}{y:V}{o:Option V} (I:Inv X pins σ H s) (g:DGet H a y o):s.TypeIs (.ref a) "dict" := by
 rcases g with ⟨kvs,k,e,_,_⟩ | ⟨kvs,k,b,e,_,_,_⟩
 ·obtain ⟨_,_,vs,_,dd⟩:=dk_rd I.hok e
  exact dd.typeIs
 ·obtain ⟨_,_,xs,_,dd⟩:=dt_rd I.hok e
  exact dd.typeIs
def tDGet (td ty:TE):TE:=fun σ H Q=>td σ H fun x H1=>ty σ H1 fun y H2=>∃ a v,x=.ref a∧DGet H2 a y (some v)∧Q v H2
def tDNotIn (ty td:TE):TE:=fun σ H Q=>ty σ H fun y H1=>td σ H1 fun x H2=>∃ a o,x=.ref a∧DGet H2 a y o∧Q (.bl (!o.isSome)) H2
def sDPut (td ty tv:TE):TS:=fun D σ H=>tv σ H fun v H1=>td σ H1 fun x H2=>ty σ H2 fun y H3=>∃ a H4,x=.ref a∧DPut H3 a y v H4∧D.nx σ H4
section
variable {X:Cx}{o i e value:Expr}{pos pos' tpos:Pos}{td ty tv:TE}
theorem pe_dget (hu:X.A.units+1<cLine) (ho:PE X o td) (hi:PE X i ty) (hs:NoSl i):PE X (.Subscript o i pos) (tDGet td ty):=by
 intro pins s σ H Q I h
 refine subD_of PySem.F.slot_dict_getitem.lookup hs (thn (ho pins s σ H _ I h) fun u s1 ⟨x,H1,I1,rx,q1⟩=>thn (hi pins s1 σ H1 _ I1 q1) fun iv s2 ⟨y,H2,I2,ry,a,v,ex,g,q2⟩=>?_)
 subst ex
 obtain rfl:u=Value.ref a:=rx
 exact ⟨xF I2 g,d_getItem hu I2 g ry fun w' s3 I3 rw'=>⟨v,H2,I3,rw',q2⟩⟩
theorem pc_dnotin (hu:X.A.units+1<cLine) (hi:PE X i ty) (ho:PE X o td):PC X .NotIn i o (tDNotIn ty td):=by
 intro pins s σ H Q I h
 refine thn (hi pins s σ H _ I h) fun iv s1 ⟨y,H1,I1,ry,q1⟩=>thn (ho pins s1 σ H1 _ I1 q1) fun u s2 ⟨x,H2,I2,rx,a,ov,ex,g,q2⟩=>?_
 subst ex
 obtain rfl:u=Value.ref a:=rx
 exact d_notIn hu I2 g ry fun s3 I3=>⟨.bl (!ov.isSome),H2,I3,rfl,q2⟩
theorem ps_dput (hu:X.A.units+1<cLine) (ho:PE X o td) (hi:PE X i ty) (hv:PE X value tv) (hs:swapsWith value (some (.Subscript o i pos')) pos.line X.env=pure false) :
  PS X (.Assign [.Subscript o i pos'] value pos) (sDPut td ty tv):=by
 intro pins s σ H D I h
 refine wpAny_Assign_Subscript (thn (hv pins s σ H _ I h) fun r s1 ⟨v,H1,I1,rv,q1⟩=>thn (ho pins s1 σ H1 _ I1 q1) fun u s2 ⟨x,H2,I2,rx,q2⟩=>thn (hi pins s2 σ H2 _ I2 q2) fun iv s3 ⟨y,H3,I3,ry,a,H4,ex,g,q3⟩=>?_) hs
 subst ex
 obtain rfl:u=Value.ref a:=rx
 exact d_setItem hu I3 g ry rv fun s4 I4=>⟨σ,H4,I4,q3⟩
end
theorem xU {P:Program}{w:World}{H:Hp} (h:Heap) (hb:sysModules<h.objs.size):YB P w H (h.push { cls:=.type "dict",data:=.dict #[] }) h.objs.size (.dK []):=
 ⟨Nat.zero_le _,beq_eq_false_iff_ne.mpr (Ne.symm (Nat.ne_of_lt hb)),[],.nil,Heap.DictOf.new h⟩
theorem zf {P:Program}{w:World}{H:Hp} (h:Heap) (hb:sysModules<h.objs.size):YB P w H (h.push { cls:=.type "dict",data:=.dict #[] }) h.objs.size (.dT []):=
 ⟨Nat.zero_le _,beq_eq_false_iff_ne.mpr (Ne.symm (Nat.ne_of_lt hb)),[],.nil,_,#[],0,Heap.get?_push_size _ rfl,⟨rfl,rfl,rfl⟩,rfl,rfl,List.nodup_nil⟩
def tDNewT:TE:=fun _ H Q=>∀ p,H p=none→Q (.ref p) (upd H p (.dT []))
section
variable {X:Cx}{pos:Pos}
theorem pe_dnewT:PE X (.Dict [] [] pos) tDNewT:=fun pins s σ H Q I h=>
 wpAny_Dict_empty ⟨.ref s.heap.objs.size,_,I.laid (a:=s.heap.objs.size) (o:=.dT []) (t':=s.toks) (fun _ _ q=>Heap.get?_push_of_some _ q) (Nat.le_refl _) (zf s.heap I.big),rfl,h _ (I.hok.fresh (Nat.le_refl _))⟩
end
structure M1 (X:Cx) (o:Expr) (m:Str) (apos:Pos) (e:Expr) (cpos:Pos):Prop where
 base:attributeBase o m X.env (eval o X.env)=eval o X.env
 few:((backTo cpos (starEach [e] X.env)).all (fun x=>!x.1) && (backToKw cpos (keywordEach [] X.env)).all (fun x=>x.1.isSome)
  && decide (([e]:List Expr).length+([]:List Keyword).length+(if ([]:List Keyword).isEmpty then 0 else 1)<30))=true
 line:(apos.endLine == cpos.line)=true
 trees:backTo cpos (starEach [e] X.env)=[(false,eval e X.env)]
structure M2 (X:Cx) (o:Expr) (m:Str) (apos:Pos) (e f:Expr) (cpos:Pos):Prop where
 base:attributeBase o m X.env (eval o X.env)=eval o X.env
 few:((backTo cpos (starEach [e,f] X.env)).all (fun x=>!x.1) && (backToKw cpos (keywordEach [] X.env)).all (fun x=>x.1.isSome)
  && decide (([e,f]:List Expr).length+([]:List Keyword).length+(if ([]:List Keyword).isEmpty then 0 else 1)<30))=true
 line:(apos.endLine == cpos.line)=true
 trees:backTo cpos (starEach [e,f] X.env)=[(false,eval e X.env),(false,eval f X.env)]
section
variable {X:Cx}{pins:List (Addr × Obj)}{σ:St}{H:Hp}{s:Shared}{a:Addr}{y d:V}{u r:Value}{o:Option V}{A:Around}{E:Value→Shared→Prop}
end
section
variable {X:Cx}{o e f:Expr}{apos cpos:Pos}{td ty tx:TE}
end
section
variable {X:Cx}{pins:List (Addr × Obj)}{σ:St}{H:Hp}{s:Shared}{a:Addr}{kvs:List (Key × V)}{A:Around}{E:Value→Shared→Prop}
end
section
variable {X:Cx}{pins:List (Addr × Obj)}{σ:St}{H:Hp}{s:Shared}{a:Addr}{y:V}{u:Value}{A:Around}{E:Value→Shared→Prop}
end
end L2
namespace Att
open PySem PySem.W PySem.Calls PyProof.Rows
section
variable {prog:Program}{w:World}{A:Around}{E:Value→Shared→Prop}{s:Shared}{K:Frag}
end
end Att
namespace L2
open PySem PySem.Spec PyProof.Rows
section
variable {P:Program}{w:World}{K:PySem.W.Frag}{mg:Str→Option Value}{base:Heap}
end
section
variable {X:Cx}
end
section
variable {κ:Type} [DecidableEq κ]
end
end L2
namespace L3
open PySem PySem.Spec PyProof.Rows L2
theorem XW {J:It}{n:Nat}{g:TG}{tt:TT}{em:TEm}{σ0:St}{H0:Hp}{Q:St→Hp→Prop} (Pv:Nat→St→Hp→Prop) (h0:Pv 0 σ0 H0)
  (hgo:∀ i σ H,i<n→Pv i σ H→J.go i H) (hst:∀ σ H,Pv n σ H→J.stop n H)
  (hs:∀ i x σ H H2,i<n→Pv i σ H→J.yld i H x H2→∀ (N:St→Hp→Prop),(∀ σ2 H4,Pv (i+1) σ2 H4→N σ2 H4) →
   g x σ H2 fun σ2 H3=>tt σ2 H3 fun c H4=>if c=true then em σ2 H4 N else N σ2 H4)
  (hd:∀ σ H,Pv n σ H→Q σ H):yf J g tt em σ0 H0 Q:=by
 refine ⟨fun i m σ H=>m=n - i∧i≤n∧Pv i σ H,⟨n,by simp,Nat.zero_le _,h0⟩,?_⟩
 rintro i m σ H ⟨rfl,hi,p⟩
 by_cases hlt:i<n
 ·refine .inr ⟨hgo i σ H hlt p,fun σ2 H4=>Pv (i+1) σ2 H4,fun σ2 H4 q=>⟨n - (i+1),by omega,rfl,hlt,q⟩,fun x H2 y=>hs i x σ H H2 hlt p y _ fun σ2 H4 q=>q⟩
 ·have:i=n:=by omega
  subst this
  exact .inl ⟨hst σ H p,hd σ H p⟩
def emL (te:TE) (D:Addr):TEm:=fun σ H Q=>te σ H fun v H5=>∃ xs,H5 D=some (.lst xs)∧xs.length<sizeLine∧Q σ (upd H5 D (.lst (xs++[v])))
theorem vt {Y:Cx}{elt:Expr}{te:TE}{D:Addr} (h:PE Y elt te):PEm Y (do let _ ← call (.builtin "list.append") [.ref D,← eval elt Y.env]) (emL te D):=by
 intro pins s σ H Q I q
 refine wpAny_bind (thn (h pins s σ H _ I q) fun z s1 ⟨v,H1,I1,r1,xs,hx,hz,q1⟩=>?_)
 have ap:=YJ (X:=Y) pins s1 σ H1 (.ref D) [v] (.ref D) [z] (fun _ Hb=>Q σ Hb) I1 rfl (.cons r1 .nil) ⟨_,xs,v,rfl,rfl,hx,hz,q1⟩
 exact wpAny_bind (thn ap fun _ s11 ⟨_,H11,I11,_,q11⟩=>wpAny_pure ⟨σ,H11,I11,q11⟩)
def StO (P:Program) (w:World) (a:Addr) (ss:List Str):HO:=.ext fun h=>Up P w (w.params.followText "set-order") h a ss
theorem st_ok {P:Program}{w:World}{H:Hp}{h:Heap}{a:Addr}{ss:List Str} (x:Up P w (w.params.followText "set-order") h a ss):YB P w H h a (StO P w a ss):=
 ⟨x,(let ⟨o,_,_,_,e,_⟩:=x; ⟨o,e⟩),fun _ _ y k=>y.keep k⟩
def emS (P:Program) (w:World) (te:TE) (D:Addr):TEm:=fun σ H Q=>te σ H fun v H5=>∃ x ss,v=.str x∧H5 D=some (StO P w D ss)∧ss.length<1000∧Q σ (upd H5 D (StO P w D (ss++[x])))
theorem call_addT {prog:Program}{w:World}{A:Around}{E:Value→Shared→Prop}{s:Shared}{B:Bool}{a:Addr}{ss:List Str}{x:Str}{tk:Tok}{Q:Value→Shared→Prop} (hS:Up prog w B s.heap a ss) (hroom:ss.length+1<scanBound)
  (h:∀ h',Heap.SameBut a s.heap h'→Up prog w B h' a (ss++[x])→Q .none { s with heap:=h',toks:=s.toks+1 }) :
  wpAny (model prog w) A (call (.builtin "set.add") [.ref a,.str x tk]) Q E s:=by
 have hT:s.TypeIs (.ref a) "set" := let ⟨o,_,_,_,ho,hc,_⟩:=hS; ⟨o,ho,hc.1⟩
 refine wpAny_call_entry F.slot_set_add hT F.entry_set_add ?_ (F.args_set_add_2 _ _)
 unfold Builtin.«set.add» Builtin.Frozenset.oneOther
 simp only [List.isEmpty_nil,bind_assoc]
 unfold Builtin.Frozenset.addrOf setAdd
 refine wpAny_bind (wpAny_pure ?_)
 try dsimp only
 refine wpAny_bind (wpAny_pure ?_)
 try dsimp only
 refine wpAny_bind ?_
 refine wpAny_holding ?_
 refine wpAny_bind ((Zs prog w).pyHash (k:=.inr x) (Wq x tk) ?_)
 refine vP (s:={ s with toks:=s.toks+1 }) hS hroom fun h' b hsb hS'=>?_
 show wpAny _ _ (ret Value.none) _ _ _
 exact wpAny_pure ⟨_,rfl,h h' hsb hS'⟩
theorem pem_set {Y:Cx}{elt:Expr}{te:TE}{D:Addr} (h:PE Y elt te):PEm Y (do let v ← eval elt Y.env;standAt elt.pos;let _ ← call (.builtin "set.add") [.ref D,v]) (emS Y.prog Y.w te D):=by
 intro pins s σ H Q I q
 refine wpAny_bind (thn (h pins s σ H _ I q) fun z s1 ⟨v,H1,I1,r1,x,ss,ev,hx,hz,q1⟩=>?_)
 subst ev
 obtain ⟨t,rfl⟩:=(show ∃ t,z=Value.str x t from r1)
 refine wpAny_bind (wpAny_standAt ?_)
 obtain ⟨hS,_⟩:=I1.hok D _ hx
 refine wpAny_bind (call_addT hS (by have:scanBound=4096:=rfl;omega) fun h' sb hS'=>wpAny_pure ⟨σ,_,Vt (ob:=StO Y.prog Y.w D (ss++[x])) I1 (by rw [hx];exact True.intro) sb (let ⟨o,_,_,_,e,_⟩:=hS'; ⟨o,e⟩) (st_ok hS'),q1⟩)
def emD (tk tv:TE) (D:Addr):TEm:=fun σ H Q=>tk σ H fun y H5=>tv σ H5 fun v H6=>∃ H7,DPut H6 D y v H7∧Q σ H7
section
variable {X:Cx}{pins:List (Addr × Obj)}{σ:L2.St}{H:Hp}{s:Shared}{a:Addr}{y v:V}{u r:Value}{A:Around}{E:Value→Shared→Prop}
theorem d_put {H':Hp}{Q:Unit→Shared→Prop} (hu:A.units<cLine) (I:L2.Inv X pins σ H s) (g:DPut H a y v H') (ry:ZS y u) (rv:ZS v r) (h:∀ s',L2.Inv X pins σ H' s'→Q () s') :
  wpAny (model X.prog X.w) A (dictSet a u r) Q E s:=by
 rcases g with ⟨kvs,k,e,ey,l,eH⟩ | ⟨kvs,k,b,e,ey,eb,l,eH⟩
 ·subst ey eH
  obtain ⟨z,hd,vs,rel,dd⟩:=dk_of I.hok e
  have hz:vs.length≤sizeLine:=by rw [← rel.length];exact z
  have hl:(Wa kvs k v).length≤sizeLine:=by have:=Wk kvs k v;omega
  refine wpAny_dictSet_pairs (hsz:=hz) (kV_is ry) dd fun h' dd' hs=>h _ ?_
  have he:∃ q,h'.get? a=some q:=let ⟨q,_,_,hq,_⟩:=dd'; ⟨q,hq⟩
  exact Vt I (by rw [e];exact True.intro) hs he (dk_new hl hd (rel.put k rv) dd')
 ·subst ey eH
  cases (show u=Value.ref b from ry)
  obtain ⟨z,hd,xs,rel,dd⟩:=dt_of I.hok e
  have hz:xs.length≤sizeLine:=by rw [← Paired.length rel];exact z
  have hl:(Wa kvs k v).length≤sizeLine:=by have:=Wk kvs k v;omega
  refine wpAny_dictSet_heap (hsz:=hz) hu (Uu I.hok eb) dd fun h' dd' hs=>h _ ?_
  obtain ⟨q,es,ep,hq,h2,h3,h4,_,h5⟩:=dd'
  refine Vt I (by rw [e];exact True.intro) hs ⟨q,hq⟩ ⟨hl,hd,_,(rel.put k eb rv).keeps fun c ys ec=>?_,q,es,ep,hq,h2,h3,h4,h5⟩
  rw [Zo (qX ec e (fun z=>nomatch z))]
  exact ec
end
theorem pem_dict {Y:Cx}{kx vx:Expr}{tk tv:TE}{D:Addr} (hu:Y.A.units<cLine) (hk:PE Y kx tk) (hv:PE Y vx tv):PEm Y (do
   let kv ← eval kx Y.env
   let vv ← holding [kv] (eval vx Y.env)
   standAt { kx.pos with endLine:=vx.pos.endLine,endCol:=vx.pos.endCol }
   holding [kv,vv] (dictSet D kv vv)) (emD tk tv D):=by
 intro pins s σ H Q I q
 refine wpAny_bind (thn (hk pins s σ H _ I q) fun z s1 ⟨y,H1,I1,r1,q1⟩=>?_)
 refine wpAny_bind (wpAny_holding (thn (hv pins s1 σ H1 _ I1 q1) fun z2 s2 ⟨v,H2,I2,r2,H3,hp,q2⟩=>?_))
 exact wpAny_bind (wpAny_standAt (wpAny_holding (d_put hu I2 hp r1 r2 fun s' I'=>⟨σ,H3,I',q2⟩)))
inductive vA (xs:List V) (H:Hp) (Q:VK):Prop
 | mk (a:Addr) (kvs:List (Key × V)) (h0:xs=[.ref a]) (h1:H a=some (.dK kvs)) (h2:∀ l,H l=none→Q (.ref l) (upd H l (.lst (kvs.map fun p=>kV p.1)))):vA xs H Q
def rListK:List V→Hp→VK→Prop:=fun xs H Q=>vA xs H Q
def AreT (H:Hp) (vs:List V) (ks:List (List Key)):Prop:=vs.length=ks.length∧∀ (i:Nat) v k,vs[i]?=some v→ks[i]?=some k→∃ b,v=.ref b∧H b=some (.tup (k.map kV))
inductive va (xs:List V) (H:Hp) (Q:VK):Prop
 | mk (a:Addr) (kvs:List (List Key × V)) (h0:xs=[.ref a]) (h1:H a=some (.dT kvs)) (h2:∀ l vs,H l=none→AreT H vs (kvs.map (·.1))→Q (.ref l) (upd H l (.lst vs))):va xs H Q
def rListT:List V→Hp→VK→Prop:=fun xs H Q=>va xs H Q
theorem KV.keyV {P:Program}{w:World}{kvs:List (Key × V)}{vs:List (Key × Value)}{us:List Value} (r:KV kvs vs) (h:us.length=vs.length) (e:∀ (i:Nat) u p,us[i]?=some u→vs[i]?=some p→(Zs P w).is p.1 u=true):ZE (kvs.map fun p=>kV p.1) us:=by
 have r':Paired (fun (p:Key × V) (q:Key × Value)=>p.1=q.1∧ZS p.2 q.2) kvs vs:=r
 clear r
 induction r' generalizing us with
 | nil=>
  cases us with
  | nil=>exact .nil
  | cons u r=>simp at h
 | @cons p q l1 l2 hpq _ ih=>
  cases us with
  | nil=>simp at h
  | cons u r=>
   refine .cons ?_ (ih (by simpa using h) fun i u p a b=>e (i+1) u p (by simpa using a) (by simpa using b))
   have:=e 0 u q rfl rfl
   rw [← hpq.1] at this
   have q2:Vc p.1 u=true:=this
   rcases Yu q2 with ⟨i,t',e1,e2⟩ | ⟨z,t',e1,e2⟩
   ·show ZS (kV p.1) u
    rw [e1,e2];exact ⟨t',rfl⟩
   ·show ZS (kV p.1) u
    rw [e1,e2];exact ⟨t',rfl⟩
theorem vk {X:Cx} (hc:X.calm=true):Ys X (.type "list") rListK:=by
 intro pins s σ H xs us Q I r h
 obtain ⟨a,kvs,rfl,g,q⟩:=h
 obtain ⟨u,rfl,ru⟩:=Wi r
 obtain rfl:u=Value.ref a:=ru
 obtain ⟨z,y,vs,rel,o,es,ep,h1,h2,h3,h4,h5,h6⟩:=dk_of I.hok g
 have e1:=h5.length
 rw [Array.length_toList] at e1
 have e2:=rel.length
 refine PySem.W.kdl_call (vf (ep:=ep) (es:=es) y) (I.ok.hd hc) ⟨o,h1,h2,h3⟩ (by omega) fun h' tk acc c hk hg hacc=>?_
 refine ⟨.ref s.heap.objs.size,_,I.laid (o:=.lst (kvs.map fun p=>kV p.1)) (t':=tk) hk (Nat.le_refl _) ⟨by rw [List.length_map];exact z,acc.toList,c,?_,by simpa using hg⟩,rfl,q _ (I.hok.fresh (Nat.le_refl _))⟩
 rw [rows_eq rfl hacc]
 refine KV.keyV (P:=X.prog) (w:=X.w) rel (by rw [List.length_map,Array.length_toList];exact e1) fun i u p a b=>?_
 rw [List.getElem?_map] at a
 obtain ⟨e,ea,rfl⟩:=Option.map_eq_some_iff.mp a
 exact (h5.get? ea b).1
theorem xN {X:Cx} (hc:X.calm=true):Ys X (.type "list") rListT:=by
 intro pins s σ H xs us Q I r h
 obtain ⟨a,kvs,rfl,g,q⟩:=h
 obtain ⟨u,rfl,ru⟩:=Wi r
 obtain rfl:u=Value.ref a:=ru
 obtain ⟨z,y,ys,rel,o,es,ep,h1,h2,h3,h4,h5⟩:=I.hok a _ g
 have el:=Paired.length rel
 have ef:es.size=ys.length:=by rw [← Array.length_toList,h4,List.length_map]
 refine PySem.W.kdl_call (vf (ep:=ep) (es:=es) y) (I.ok.hd hc) ⟨o,h1,h2,h3⟩ (by omega) fun h' tk acc c hk hg hacc=>?_
 have ek:es.toList.map (·.key)=ys.map fun p=>Value.ref p.2.1:=by rw [h4,List.map_map];rfl
 have vv:∀ l:List (List Key × Addr × Value),ZE (l.map fun p=>V.ref p.2.1) (l.map fun p=>Value.ref p.2.1):=by
  intro l
  induction l with
  | nil=>exact .nil
  | cons p r ih=>exact .cons rfl ih
 refine ⟨.ref s.heap.objs.size,_,I.laid (o:=.lst (ys.map fun p=>V.ref p.2.1)) (t':=tk) hk (Nat.le_refl _) ⟨by rw [List.length_map,← el];exact z,acc.toList,c,?_,by simpa using hg⟩,rfl,q _ _ (I.hok.fresh (Nat.le_refl _)) ⟨by rw [List.length_map,List.length_map];exact el.symm,fun i v k ev ek=>?_⟩⟩
 ·rw [rows_eq ek hacc];exact vv ys
 ·rw [List.getElem?_map] at ev ek
  obtain ⟨p,e1,rfl⟩:=Option.map_eq_some_iff.mp ev
  obtain ⟨p2,e2,rfl⟩:=Option.map_eq_some_iff.mp ek
  have:∀ {l1:List (List Key × V)}{l2:List (List Key × Addr × Value)}{i:Nat}{p:List Key × Addr × Value}{p2:List Key × V},Paired (fun (p:List Key × V) (q:List Key × Addr × Value)=>p.1=q.1∧H q.2.1=some (.tup (p.1.map kV))∧ZS p.2 q.2.2) l1 l2→l1[i]?=some p2→l2[i]?=some p→H p.2.1=some (.tup (p2.1.map kV)):=by
   intro l1 l2 i p p2 r
   induction r generalizing i with
   | nil=>intro a;simp at a
   | cons hh _ ih=>
    cases i with
    | zero=>intro a b;cases a;cases b;exact hh.2.1
    | succ i=>intro a b;exact ih (by simpa using a) (by simpa using b)
  exact ⟨_,rfl,this rel e2 e1⟩
def tkH (P:Program) (w:World) (k:List Key):Int:=tupleKeyHash (Zs P w) k
def W5 (kvs more:List (List Key × V)):List (List Key × V):=more.foldl (fun acc kv=>Wa acc kv.1 kv.2) kvs
theorem qK:∀ (more kvs:List (List Key × V)),(W5 kvs more).length≤kvs.length+more.length
 | [],kvs=>Nat.le_refl _
 | p :: r,kvs=>by
  have h1:=qK r (Wa kvs p.1 p.2)
  have h2:=Wk kvs p.1 p.2
  show (W5 (Wa kvs p.1 p.2) r).length≤_
  rw [List.length_cons];omega
def cv3 (x:List Key × Addr × Value):List Key × Value × Value:=(x.1,.ref x.2.1,x.2.2)
theorem cv3_any (xs:List (List Key × Addr × Value)) (k:List Key):((xs.map cv3).any fun x=>decide (x.1=k))=(atKey xs k).isSome:=by
 induction xs with
 | nil=>rfl
 | cons x r ih=>
  unfold atKey at ih ⊢
  rw [List.map_cons,List.any_cons,ih,List.find?_cons]
  show (decide (x.1=k) || _)=_
  cases h:decide (x.1=k) <;> simp
theorem cv3_put (xs:List (List Key × Addr × Value)) (k:List Key) (b:Addr) (v:Value):WK (xs.map cv3) k (.ref b) v=(storedH xs k b v).map cv3:=by
 unfold WK storedH
 rw [cv3_any]
 by_cases h:(atKey xs k).isSome=true
 ·rw [if_pos h,if_pos h,List.map_map,List.map_map]
  refine List.map_congr_left fun x _=>?_
  show (if x.1=k then (x.1,Value.ref x.2.1,v) else cv3 x)=cv3 (putAt k v x)
  unfold putAt
  split <;> rfl
 ·rw [if_neg h,if_neg h,List.map_append];rfl
def xv (ys xs:List (List Key × Addr × Value)):List (List Key × Addr × Value):=xs.foldl (fun acc x=>storedH acc x.1 x.2.1 x.2.2) ys
theorem cv3_all:∀ (xs ys:List (List Key × Addr × Value)),Xs (ys.map cv3) (xs.map cv3)=(xv ys xs).map cv3
 | [],ys=>rfl
 | x :: r,ys=>by
  show Xs (WK (ys.map cv3) x.1 (.ref x.2.1) x.2.2) (r.map cv3)=_
  rw [cv3_put,cv3_all r];rfl
theorem KT.all {H:Hp}:∀ {more:List (List Key × V)}{xs:List (List Key × Addr × Value)}{kvs:List (List Key × V)}{ys:List (List Key × Addr × Value)},KT H more xs→KT H kvs ys→KT H (W5 kvs more) (xv ys xs):=by
 intro more xs kvs ys r
 have r':Paired (fun (p:List Key × V) (q:List Key × Addr × Value)=>p.1=q.1∧H q.2.1=some (.tup (p.1.map kV))∧ZS p.2 q.2.2) more xs:=r
 clear r
 induction r' generalizing kvs ys with
 | nil=>exact fun q=>q
 | @cons p x l1 l2 hh _ ih=>
  intro q
  have:=KT.put q p.1 (b:=x.2.1) hh.2.1 hh.2.2
  rw [hh.1] at this
  have h2:=ih this
  show KT H (W5 (Wa kvs p.1 p.2) l1) (xv (storedH ys x.1 x.2.1 x.2.2) l2)
  rw [hh.1];exact h2
inductive rUpdT_R (P:Program) (w:World) (x:V) (vs:List V) (H:Hp) (Q:VK):Prop
 | mk (a b:Addr) (kvs more:List (List Key × V)) (h0:x=.ref a) (h1:vs=[.ref b]) (h2:a≠b) (h3:H a=some (.dT kvs)) (h4:H b=some (.dT more)) (h5:kvs=[]→∀ p∈more,∀ q∈more,tkH P w p.1=tkH P w q.1→p.1=q.1)
  (h6:kvs.length+more.length≤sizeLine) (h7:Q .non (upd H a (.dT (W5 kvs more)))):rUpdT_R P w x vs H Q
def rUpdT (P:Program) (w:World):V→List V→Hp→VK→Prop:=fun x vs H Q=>rUpdT_R P w x vs H Q
theorem dv_update {prog:Program}{w:World}{D:Type} [DecidableEq D] {knd:yo prog w D}{A:Around}{E:Value→Shared→Prop}{s:Shared}{d o:Addr}{xs ys:List (D × Value × Value)}{Q:Value→Shared→Prop} (hr:knd.room A.in1) (hdo:d≠o) (hoS:(o == sysModules)=false) (m:Wo knd s.heap d ys) (mo:Wo knd s.heap o xs)
  (hisy:∀ h',Heap.SameBut d s.heap h'→∀ x∈ys,knd.is h' x.1 x.2.1) (his:∀ h',Heap.SameBut d s.heap h'→∀ x∈xs,knd.is h' x.1 x.2.1) (hi:ys=[]→knd.quiet=false→∀ x∈xs,∀ y∈xs,knd.hash x.1=knd.hash y.1→x.1=y.1) (hsz:ys.length+xs.length≤sizeLine)
  (hQ:∀ h',Wo knd h' d (Xs ys xs)→Heap.SameBut d s.heap h'→Q .none { s with heap:=h' }):wpAny (model prog w) A (call (.builtin "dict.update") [.ref d,.ref o]) Q E s:=by
 refine wpAny_call_entry F.slot_dict_update m.typeIs F.entry_dict_update ?_ (F.args_dict_update_2 _ _)
 unfold Builtin.«dict.update»
 refine wpAny_bind ?_
 unfold Builtin.Dict.selfAndRest
 refine wpAny_bind (wpAny_notOrdered_dict m.typeIs ?_)
 show wpAny _ _ (pure (d,[Value.ref o])) _ _ s
 refine wpAny_pure ?_
 show wpAny _ _ (Builtin.Dict.updateFrom "dict.update" d (.ref o) [] .none) _ _ s
 unfold Builtin.Dict.updateFrom
 refine wpAny_bind (wpAny_typeOf mo.typeIs ?_)
 rw [if_neg (by decide)]
 refine wpAny_bind ?_
 unfold Builtin.Dict.merge
 refine wpAny_bind ?_
 unfold Builtin.Dict.readDirectly
 refine wpAny_bind (wpAny_isInstance mo.typeIs isSubtype_dict_dict ?_)
 simp only [Bool.not_true,Bool.false_eq_true,if_false]
 refine wpAny_bind (wpAny_specialOf mo.typeIs F.slot_dict_iter.lookup (wpAny_pure ?_))
 simp only [beq_self_eq_true,if_true]
 refine wpAny_bind (wpAny_pure ?_)
 refine dv_mergeG hr hdo hoS m mo hisy his hi hsz fun h' hd' hs'=>?_
 show wpAny _ _ (Builtin.Dict.addKeywords d [] >>= _) _ _ _
 exact wpAny_bind (wpAny_pure (wpAny_pure ⟨.none,rfl,hQ h' hd' hs'⟩))
theorem mt_updT {X:Cx}{P:Program}{w:World} (hP:X.prog=P) (hw:X.w=w) (hu:X.A.units+1<cLine):MtM X "dict.update" (rUpdT P w):=by
 subst hP hw
 intro pins s σ H x vs v us Q I rx rv h
 obtain ⟨a,b,kvs,more,rfl,rfl,hab,ha,hb,hi,hz,q⟩:=h
 cases rx
 obtain ⟨u,rfl,ru⟩:=rv.one
 obtain rfl:u=Value.ref b:=ru
 obtain ⟨z1,y1,xs1,rel1,o1,es1,ep1,g1,g2,g3,g4,g5⟩:=I.hok a _ ha
 obtain ⟨z2,y2,xs2,rel2,o2,es2,ep2,k1,k2,k3,k4,k5⟩:=I.hok b _ hb
 have l1:=Paired.length rel1
 have l2:=Paired.length rel2
 have ke:∀ {l1:List (List Key × V)}{l2:List (List Key × Addr × Value)},Paired (fun (p:List Key × V) (q:List Key × Addr × Value)=>p.1=q.1∧H q.2.1=some (.tup (p.1.map kV))∧ZS p.2 q.2.2) l1 l2→∀ x∈l2,∃ p∈l1,p.1=x.1∧H x.2.1=some (.tup (x.1.map kV)):=by
  intro l1 l2 r
  induction r with
  | nil=>intro x hx;cases hx
  | @cons p q _ _ hh _ ih=>
   intro x hx
   rcases List.mem_cons.mp hx with rfl | hx
   ·exact ⟨p,List.mem_cons_self,hh.1,by rw [← hh.1];exact hh.2.1⟩
   ·obtain ⟨p,hp,e⟩:=ih x hx
    exact ⟨p,List.mem_cons_of_mem _ hp,e⟩
 have isx:∀ {xs:List (List Key × Addr × Value)},(∀ x∈xs,H x.2.1=some (.tup (x.1.map kV)))→∀ h',Heap.SameBut a s.heap h'→∀ x∈xs.map cv3,(vOfHeap (tupleKind (Zs X.prog X.w)) fun h=>h.typeIs).is h' x.1 x.2.1:=by
  intro xs hx h' sb x hm
  obtain ⟨y,hy,rfl⟩:=List.mem_map.mp hm
  exact ⟨y.2.1,rfl,(tupleKind (Zs X.prog X.w)).keeps (Uu I.hok (hx y hy)) g1 g3 sb⟩
 refine dv_update (knd:=vOfHeap (tupleKind (Zs X.prog X.w)) fun h=>h.typeIs) (xs:=xs2.map cv3) (ys:=xs1.map cv3) (by show X.A.in1.units<cLine;simpa using hu) hab y2 ?_ ?_
  (isx fun x hx=>let ⟨_,_,_,e⟩:=ke rel1 x hx;e) (isx fun x hx=>let ⟨_,_,_,e⟩:=ke rel2 x hx;e) ?_ (by rw [List.length_map,List.length_map];omega) fun h' dd' hs=>?_
 ·exact ⟨o1,es1,ep1,g1,g2,g3,by rw [g4,List.map_map];rfl,by rw [List.map_map];exact g5⟩
 ·exact ⟨o2,es2,ep2,k1,k2,k3,by rw [k4,List.map_map];rfl,by rw [List.map_map];exact k5⟩
 ·intro e0 _ x hx y hy e
  have e1:kvs=[]:=by
   have:=congrArg List.length e0
   rw [List.length_map] at this
   exact List.eq_nil_of_length_eq_zero (by rw [l1];exact this)
  obtain ⟨x',hx',rfl⟩:=List.mem_map.mp hx
  obtain ⟨y',hy',rfl⟩:=List.mem_map.mp hy
  obtain ⟨p,hp,ep,_⟩:=ke rel2 x' hx'
  obtain ⟨q,hq,eq,_⟩:=ke rel2 y' hy'
  show x'.1=y'.1
  rw [← ep,← eq]
  refine hi e1 p hp q hq ?_
  rw [ep,eq];exact e
 ·rw [cv3_all] at dd'
  obtain ⟨q',es,ep,hq,h2,h3,h4,h5⟩:=dd'
  refine ⟨.non,_,Vt (ob:=.dT (W5 kvs more)) I (by rw [ha];exact True.intro) hs ⟨q',hq⟩ ⟨?_,y1,xv xs1 xs2,(KT.all rel2 rel1).keeps fun c ys ec=>?_,q',es,ep,hq,h2,h3,?_,?_⟩,rfl,q⟩
  ·have:=qK more kvs;omega
  ·rw [Zo (qX ec ha (fun z=>nomatch z))]
   exact ec
  ·rw [h4,List.map_map];rfl
  ·rw [List.map_map] at h5;exact h5
def emF (wi:TI) (g:TG) (tt:TT) (em:TEm):TEm:=fun σ H Q=>wi σ H fun J H1=>yf J g tt em σ H1 Q
theorem x3 {e:Expr}{elt tg iter tg2 iter2:Expr}{ifs ifs2:List Expr}{scope:Scope}{pos:Pos} (h:e=.ListComp elt [⟨tg,iter,ifs,0⟩,⟨tg2,iter2,ifs2,0⟩] scope pos∨e=.SetComp elt [⟨tg,iter,ifs,0⟩,⟨tg2,iter2,ifs2,0⟩] scope pos) (it acc:Value) (env:Env) :
  compTurn e 0 it acc env=UK iter.pos tg ifs it env (Vy iter2 e 1 acc env) (.compLoop e 0 it acc env):=by
 rcases h with rfl | rfl <;>
 ·unfold compTurn UK Vy
  simp only [bind_assoc,pure_bind]
  rfl
section
variable {X:Cx}{pins:List (Addr × Obj)}{σ:St}{H:Hp}{s:Shared}{Nc:List Str}{ix:List (Option Nat)}{scope:Scope}
theorem zP {s2:Shared}{H1:Hp} (I2:L2.Inv X pins σ H1 s2):L2.Inv X pins σ (upd H1 s2.heap.objs.size (.lst [])) { s2 with heap:=s2.heap.push { cls:=.type "list",data:=.seq ([]:List Value).toArray } }:=
 I2.laid (t':=s2.toks) (fun b u e=>Heap.get?_push_of_some _ e) (Nat.le_refl _) ⟨Nat.zero_le _,[],0,.nil,Heap.get?_push_size _ rfl⟩
theorem vS {elt tg iter tg2 iter2:Expr}{ifs ifs2:List Expr}{pos pos2:Pos}{wi wi2:TI}{g g2:TG}{tt tt2:TT}{te:TE}{use:Option (Value→Sem Unit)}{QV:Value→Shared→Prop}{Q:VK} (I:L2.Inv X pins σ H s) (h:qx wi ix (fun _=>.lst []) g tt (fun D=>emF wi2 g2 tt2 (emL te D)) σ H Q)
  (fin:∀ (D C:Addr) (H':Hp) (s':Shared) (m:Str→Option Value),L2.Inv X pins σ H' s'→Ve X pins H' C→s'.heap.Ns C m→Q (.ref D) H'→compPost (model X.prog X.w) X.A X.xe use QV (.ref D) C (.ok .next) s')
  (ok:ZD X.env.scope X.N Nc ix scope) (hc:X.calm=true) (hi:PI X tg iter wi)
  (hg:∀ cl C s H fp,PG (ZN X Nc scope cl C s H fp) tg g) (ht:∀ cl C s H fp,PTs (ZN X Nc scope cl C s H fp) ifs tt)
  (hi2:∀ cl C s H fp,PI (ZN X Nc scope cl C s H fp) tg2 iter2 wi2) (hg2:∀ cl C s H fp,PG (ZN X Nc scope cl C s H fp) tg2 g2) (ht2:∀ cl C s H fp,PTs (ZN X Nc scope cl C s H fp) ifs2 tt2)
  (he:∀ cl C s H fp,PE (ZN X Nc scope cl C s H fp) elt te)
  (hs:∀ x,foldedSetIterable iter X.env x=pure x) (hs2:∀ env x,foldedSetIterable iter2 env x=pure x):wpAny (model X.prog X.w) X.A (comprehension (.ListComp elt [⟨tg,iter,ifs,0⟩,⟨tg2,iter2,ifs2,0⟩] scope pos) scope X.env pos2 (newList []) false (eval iter X.env) use) QV X.xe s:=
 Vx (ob:={ cls:=.type "list",data:=.seq ([]:List Value).toArray }) (bd:=fun D env=>Vy iter2 (.ListComp elt [⟨tg,iter,ifs,0⟩,⟨tg2,iter2,ifs2,0⟩] scope pos) 1 (.ref D) env) I h fin rfl (fun _ _ _=>⟨rfl,rfl⟩) (fun _ _ _=>x3 (.inl rfl) _ _ _) (fun _ _ _ _=>⟨rfl,rfl⟩) (fun _ _ _=>rfl)
  (fun _ _ _ _ q=>wpAny_newObj_type q) (fun _ _ I2=>zP I2) ok hc hi hg ht (fun cl C s H fp D=>pem_for (p:=iter2.pos) (Y:=ZN X Nc scope cl C s H fp) rfl (fun _=>⟨rfl,rfl⟩) (fun _=>rfl) hc rfl (hi2 cl C s H fp) (hg2 cl C s H fp) (ht2 cl C s H fp) (vt (he cl C s H fp)) (hs2 _)) hs
theorem zb {i:Nat}{x:Str}{pos':Pos}{D:Ends}{L C:Addr}{H':Hp}{s':Shared}{m:Str→Option Value} (hN:X.N.Nodup) (hi:X.N[i]?=some x) (hx:X.env.kindOf x=some .local) (I':L2.Inv X pins σ H' s') (f:Ve X pins H' C) (hn:s'.heap.Ns C m) (qq:D.nx (σ.set i (some (.ref L))) H') :
  compPost (model X.prog X.w) X.A X.xe (some (assign (.Name x pos') X.env)) (fun _ s'=>SP X pins D .next s') (.ref L) C (.ok .next) s':=by
 obtain ⟨f0,f1,f2,f3,f4,f5⟩:=f
 refine wpAny_assign_Name (zZ (v:=.ref L) I' hN hi (.inl hx) rfl (fun s2 I2 ⟨a,sb,ha⟩=>?_) (.inr hx))
 have hCa:C≠a:=by
  rintro rfl
  rcases ha with z | z
  ·exact f1 z
  ·exact f4 _ _ z rfl
 exact ⟨m,hn.sameBut sb hCa,fun h' sb'=>⟨_,H',I2.turned (t':=s2.toks) (fun b o hb e=>(sb'.2 b hb).trans e) f0 f1 f3 f4 f5,qq⟩⟩
theorem vE {i:Nat}{x:Str}{elt tg iter tg2 iter2:Expr}{ifs ifs2:List Expr}{pos spos pos':Pos}{wi wi2:TI}{g g2:TG}{tt tt2:TT}{te:TE} (hN:X.N.Nodup) (hi:X.N[i]?=some x) (hx:X.env.kindOf x=some .local)
  (ok:ZD X.env.scope X.N Nc ix scope) (hc:X.calm=true) (hit:PI X tg iter wi)
  (hg:∀ cl C s H fp,PG (ZN X Nc scope cl C s H fp) tg g) (ht:∀ cl C s H fp,PTs (ZN X Nc scope cl C s H fp) ifs tt)
  (hi2:∀ cl C s H fp,PI (ZN X Nc scope cl C s H fp) tg2 iter2 wi2) (hg2:∀ cl C s H fp,PG (ZN X Nc scope cl C s H fp) tg2 g2) (ht2:∀ cl C s H fp,PTs (ZN X Nc scope cl C s H fp) ifs2 tt2)
  (he:∀ cl C s H fp,PE (ZN X Nc scope cl C s H fp) elt te)
  (hsw:swapsWith (.ListComp elt [⟨tg,iter,ifs,0⟩,⟨tg2,iter2,ifs2,0⟩] scope pos) (some (.Name x pos')) spos.line X.env=pure true:=by rfl)
  (hs:∀ x,foldedSetIterable iter X.env x=pure x:=by intro _;rfl) (hs2:∀ env x,foldedSetIterable iter2 env x=pure x:=by intro _ _;rfl):PS X (.Assign [.Name x pos'] (.ListComp elt [⟨tg,iter,ifs,0⟩,⟨tg2,iter2,ifs2,0⟩] scope pos) spos) (tAsg (qx wi ix (fun _=>.lst []) g tt (fun D=>emF wi2 g2 tt2 (emL te D))) (yK i)):=by
 intro pins s σ H D I h
 rw [exec_Assign_Name_used _ _ _ _ hsw]
 refine wpAny_bind (wpAny_standAt (wpAny_bind ?_))
 show wpAny _ X.A (do let _ ← comprehension (.ListComp elt [⟨tg,iter,ifs,0⟩,⟨tg2,iter2,ifs2,0⟩] scope pos) scope X.env _ (newList []) false (eval iter X.env) (some (assign (.Name x pos') X.env))) _ _ s
 refine wpAny_bind (thn (vS (use:=some (assign (.Name x pos') X.env)) (QV:=fun _ s'=>SP X pins D .next s') I h (fun L C H' s' m I' f hn qq=>?_) ok hc hit hg ht hi2 hg2 ht2 he hs hs2) fun _ s' q=>wpAny_pure (wpAny_pure q))
 exact zb hN hi hx I' f hn qq
theorem zY {P:Program}{w:World}{elt tg iter tg2 iter2:Expr}{ifs ifs2:List Expr}{pos:Pos}{wi wi2:TI}{g g2:TG}{tt tt2:TT}{te:TE} (hP:X.prog=P) (hw:X.w=w) (ok:ZD X.env.scope X.N Nc ix scope) (hc:X.calm=true) (hi:PI X tg iter wi)
  (hg:∀ cl C s H fp,PG (ZN X Nc scope cl C s H fp) tg g) (ht:∀ cl C s H fp,PTs (ZN X Nc scope cl C s H fp) ifs tt)
  (hi2:∀ cl C s H fp,PI (ZN X Nc scope cl C s H fp) tg2 iter2 wi2) (hg2:∀ cl C s H fp,PG (ZN X Nc scope cl C s H fp) tg2 g2) (ht2:∀ cl C s H fp,PTs (ZN X Nc scope cl C s H fp) ifs2 tt2)
  (he:∀ cl C s H fp,PE (ZN X Nc scope cl C s H fp) elt te)
  (hs:∀ x,foldedSetIterable iter X.env x=pure x:=by intro _;rfl) (hs2:∀ env x,foldedSetIterable iter2 env x=pure x:=by intro _ _;rfl):PE X (.SetComp elt [⟨tg,iter,ifs,0⟩,⟨tg2,iter2,ifs2,0⟩] scope pos) (qx wi ix (fun D=>StO P w D []) g tt (fun D=>emF wi2 g2 tt2 (emS P w te D))):=by
 subst hP hw
 intro pins s σ H Q I h
 rw [arm_eval_SetComp]
 refine Vx (e:=.SetComp elt [⟨tg,iter,ifs,0⟩,⟨tg2,iter2,ifs2,0⟩] scope pos) (use:=none) (QV:=EP X pins σ Q) (ob:={ cls:=.type "set",dict:=none,data:=.set #[] 0 (.fresh 0 0 (!X.w.params.followText "set-order")) }) (bd:=fun D env=>Vy iter2 (.SetComp elt [⟨tg,iter,ifs,0⟩,⟨tg2,iter2,ifs2,0⟩] scope pos) 1 (.ref D) env) I h (fun D C H' s' m I' f hn qq=>?_) rfl (fun _ _ _=>⟨rfl,rfl⟩) (fun _ _ _=>x3 (.inr rfl) _ _ _) (fun _ _ _ _=>⟨rfl,rfl⟩) (fun _ _ _=>rfl)
  (fun A E Q s q=>?_) (fun s2 H1 I2=>?_) ok hc hi hg ht (fun cl C s H fp D=>pem_for (p:=iter2.pos) (Y:=ZN X Nc scope cl C s H fp) rfl (fun _=>⟨rfl,rfl⟩) (fun _=>rfl) hc rfl (hi2 cl C s H fp) (hg2 cl C s H fp) (ht2 cl C s H fp) (pem_set (he cl C s H fp)) (hs2 _)) hs
 ·obtain ⟨f0,f1,f2,f3,f4,f5⟩:=f
  exact ⟨m,hn,fun h' sb=>⟨.ref D,H',I'.turned (t':=s'.toks) (fun b o hb e=>(sb.2 b hb).trans e) f0 f1 f3 f4 f5,rfl,qq⟩⟩
 ·unfold newSet setsByText
  refine wpAny_bind (wpAny_bind (wpAny_askSetting (wpAny_pure ?_)))
  dsimp only
  simp only [newObj]
  exact wpAny_bind (wpAny_alloc (wpAny_pure q))
 ·refine I2.laid (t':=s2.toks) (o:=StO X.prog X.w s2.heap.objs.size []) (fun b u e=>Heap.get?_push_of_some _ e) (Nat.le_refl _) (st_ok ?_)
  exact ⟨_,#[],0,_,Heap.get?_push_size _ rfl,⟨rfl,rfl,rfl⟩,rfl,by rfl,(fun e he=>by simp at he),(fun z=>by show (!_)=true;rw [z];rfl),(fun z=>absurd z (by simp)),(fun e he=>by simp at he),by simp,fun x=>by simp,Nat.zero_le _⟩
theorem yy {kx vx tg iter:Expr}{ifs:List Expr}{pos:Pos}{wi:TI}{g:TG}{tt:TT}{tk tv:TE}{o0:HO} (h0:o0=.dK []∨o0=.dT []) (ok:ZD X.env.scope X.N Nc ix scope) (hu:X.A.units<cLine) (hc:X.calm=true) (hi:PI X tg iter wi)
  (hg:∀ cl C s H fp,PG (ZN X Nc scope cl C s H fp) tg g) (ht:∀ cl C s H fp,PTs (ZN X Nc scope cl C s H fp) ifs tt)
  (hk:∀ cl C s H fp,PE (ZN X Nc scope cl C s H fp) kx tk) (hv:∀ cl C s H fp,PE (ZN X Nc scope cl C s H fp) vx tv)
  (hs:∀ x,foldedSetIterable iter X.env x=pure x:=by intro _;rfl):PE X (.DictComp kx vx [⟨tg,iter,ifs,0⟩] scope pos) (qx wi ix (fun _=>o0) g tt (fun D=>emD tk tv D)):=by
 intro pins s σ H Q I h
 rw [arm_eval_DictComp]
 refine Vx (e:=.DictComp kx vx [⟨tg,iter,ifs,0⟩] scope pos) (use:=none) (QV:=EP X pins σ Q) (ob:={ cls:=.type "dict",data:=.dict #[] }) (bd:=fun D env=>do
   let kv ← eval kx env
   let vv ← holding [kv] (eval vx env)
   standAt { kx.pos with endLine:=vx.pos.endLine,endCol:=vx.pos.endCol }
   holding [kv,vv] (dictSet D kv vv)) I h (fun D C H' s' m I' f hn qq=>?_) rfl (fun _ _ _=>⟨rfl,rfl⟩) (fun _ _ _=>rfl) (fun _ _ _ _=>⟨rfl,rfl⟩) (fun _ _ _=>rfl)
  (fun _ _ _ _ q=>wpAny_newObj_type q) (fun s2 H1 I2=>?_) ok hc hi hg ht (fun cl C s H fp D=>pem_dict (Y:=ZN X Nc scope cl C s H fp) hu (hk cl C s H fp) (hv cl C s H fp)) hs
 ·obtain ⟨f0,f1,f2,f3,f4,f5⟩:=f
  exact ⟨m,hn,fun h' sb=>⟨.ref D,H',I'.turned (t':=s'.toks) (fun b o hb e=>(sb.2 b hb).trans e) f0 f1 f3 f4 f5,rfl,qq⟩⟩
 ·rcases h0 with rfl | rfl
  ·exact I2.laid (t':=s2.toks) (fun b u e=>Heap.get?_push_of_some _ e) (Nat.le_refl _) (xU s2.heap I2.big)
  ·exact I2.laid (t':=s2.toks) (fun b u e=>Heap.get?_push_of_some _ e) (Nat.le_refl _) (zf s2.heap I2.big)
end
theorem add_none (l b:Addr) (ys:Array Value) (n n2:Nat) (dd dd2:Option Addr) (sl sl2:Array (Option Value)) :
  Meets (Builtin.«tuple.__add__» ⟨[.ref l,.ref b],[]⟩) (fun _ R s=>s.heap.get? l=some { cls:=.type "tuple",dict:=dd,data:=.seq #[] n,slots:=sl }∧s.heap.get? b=some { cls:=.type "tuple",dict:=dd2,data:=.seq ys n2,slots:=sl2 }∧R (.ok (.ret (Value.ref b))) s):=
 .of_wp fun prog w A R s h=>by
  obtain ⟨hp,g,d,tk,os⟩:=s
  obtain ⟨hl,hb,h⟩:=h
  have f2:=AutoSeq1.sub_tuple_tuple
  have hc0:(#[]:Array Value).isEmpty=true:=rfl
  wp_walk using wpAny_loadPart' hl,wpAny_loadPart' hb
  exact ⟨_,rfl,h⟩
section
variable {X:Cx}{K:PySem.W.Frag}{Pm:Params}
inductive rCatU_R (K:PySem.W.Frag) (x:V) (y:V) (H:Hp) (Q:VK):Prop
 | mk (a b:Addr) (xs ys:List V) (h0:x=.ref a) (h1:y=.ref b) (h2:SqT K H a xs) (h3:SqT K H b ys) (h4:ys≠[]) (h5:xs.length+ys.length≤sizeLine) (h6:xs=[]→Q (.ref b) H) (h7:xs≠[]→∀ p,H p=none→Q (.ref p) (upd H p (.tup (xs++ys)))):rCatU_R K x y H Q
def rCatU (K:PySem.W.Frag):R2:=fun x y H Q=>rCatU_R K x y H Q
theorem op_catU (hK:X.K=K):OpR X (binaryOp .Add) (rCatU K):=by
 subst hK
 intro pins s σ H x y v u Q I rx ry h
 obtain ⟨a,b,xs,ys,rfl,rfl,ha,hb,hy,hz,q1,q2⟩:=h
 by_cases hx:xs=[]
 ·subst hx
  cases rx
  cases ry
  obtain ⟨its,r1,p1,_⟩:=I.tuple ha
  obtain ⟨its2,r2,p2,_⟩:=I.tuple hb
  obtain rfl:its=[]:=by cases r1;rfl
  obtain ⟨⟨cls,dd,data,sl⟩,ho,hc,n,hd⟩:=id p1
  obtain ⟨⟨cls2,dd2,data2,sl2⟩,ho2,hc2,n2,hd2⟩:=id p2
  simp only at hc hd hc2 hd2
  subst hc hd hc2 hd2
  exact concat_meets ⟨_,ho,rfl⟩ ⟨_,ho2,rfl⟩ noFill_tuple_add seq_tuple_add PySem.F.slot_tuple_add PySem.F.entry_tuple_add (PySem.F.args_tuple_add_2 _ _) (add_none a b its2.toArray n n2 dd dd2 sl sl2) ⟨ho,ho2,⟨.ref b,H,I,rfl,q1 rfl⟩⟩
 ·exact op_catT pins s σ H (.ref a) (.ref b) v u Q I rx ry ⟨a,b,xs,ys,rfl,rfl,ha,hb,hx,hz,fun z=>absurd z hy,fun _=>q2 hx⟩
inductive vn (P:Program) (w:World) (xs:List V) (H:Hp) (Q:VK):Prop
 | mk (p:Addr) (ss:List Str) (h0:xs=[.ref p]) (h1:H p=some (StO P w p ss)) (h2:ss.length<64) (h3:∀ l us,H l=none→Y5 us ss→Q (.ref l) (upd H l (.lst (us.map V.str)))):vn P w xs H Q
def rSortS (P:Program) (w:World):List V→Hp→VK→Prop:=fun xs H Q=>vn P w xs H Q
theorem qm {P:Program}{w:World} (hP:X.prog=P) (hw:X.w=w) (hc:X.calm=true):Ys X (.builtin "sorted") (rSortS P w):=by
 subst hP hw
 intro pins s σ H xs us Q I r h
 obtain ⟨p,ss,rfl,hq,hl,q⟩:=h
 obtain ⟨u,rfl,ru⟩:=Wi r
 obtain rfl:u=Value.ref p:=ru
 obtain ⟨hS,_⟩:=I.hok p _ hq
 refine sortedT (I.ok.hd hc) hS.toU hl fun out us L n h' dr tk g1 g2 g3 g4 g5 hL k hg=>?_
 have lo:out.length=us.length:=by
  have:=(Wr g1).length
  rw [List.length_map] at this
  exact this.symm
 exact ⟨.ref L,_,inv_dr (I.laid (o:=.lst (us.map V.str)) k hL ⟨by rw [List.length_map,sizeLine_eq];omega,out,n,Wr g1,hg⟩) dr,rfl,q L us (I.hok.fresh hL) ⟨g2,g3,g4,VM g5⟩⟩
def tDispT (tk tv:TE):TE:=fun σ H Q=>∀ p,H p=none→tk σ (upd H p (.dT [])) fun y H1=>tv σ H1 fun v H2=>∃ b k,y=.ref b∧H2 p=some (.dT [])∧H2 b=some (.tup (k.map kV))∧Q (.ref p) (upd H2 p (.dT [(k,v)]))
theorem pe_dispT {k v:Expr}{pos:Pos}{tk tv:TE} (hu:X.A.units<cLine) (hk:PE X k tk) (hv:PE X v tv):PE X (.Dict [some k] [v] pos) (tDispT tk tv):=by
 intro pins s σ H Q I q
 have hn:=I.hok.fresh (Nat.le_refl s.heap.objs.size)
 have I1:=I.laid (a:=s.heap.objs.size) (o:=.dT []) (h':=s.heap.push { cls:=.type "dict",data:=.dict #[] }) (t':=s.toks) (fun _ _ q=>Heap.get?_push_of_some _ q) (Nat.le_refl _) (zf s.heap I.big)
 rw [arm_eval_Dict,zip_pairTrees [some k] [v] X.env pos rfl rfl,dictDisplay_pairs _ (by intro e;have:=pairTrees_length [some k] [v] X.env pos rfl rfl;rw [e] at this;cases this) (by rw [pairTrees_length [some k] [v] X.env pos rfl rfl];exact (by decide:1<17))]
 refine wpAny_bind (wpAny_standAt (wpAny_bind ?_))
 unfold subDict
 refine wpAny_bind (wpAny_alloc ?_)
 refine wpAny_bind (wpAny_holding ?_)
 rw [if_pos (by rw [pairTrees_length [some k] [v] X.env pos rfl rfl];exact (by decide:1≤15))]
 refine wpAny_bind (pairTrees_cons_walk (thn (hk pins _ σ _ _ I1 (q _ hn)) fun z s1 ⟨y,H1,J1,r1,q1⟩=>thn (hv pins s1 σ H1 _ J1 q1) fun z2 s2 ⟨x,H2,J2,r2,b,kk,ey,hp,hb,q2⟩=>pairTrees_nil_walk ?_))
 subst ey
 refine wpAny_holding ?_
 simp only [List.forIn_cons,List.forIn_nil]
 refine wpAny_bind (wpAny_bind (wpAny_bind (d_put hu J2 (.inr ⟨[],kk,b,hp,rfl,hb,by rw [List.length_nil,sizeLine_eq];decide,rfl⟩) r1 r2 fun s' I'=>?_)))
 exact wpAny_pure (wpAny_pure (wpAny_pure (wpAny_pure (wpAny_pure ⟨.ref s.heap.objs.size,_,I',rfl,q2⟩))))
inductive rIsLT_R (xs:List V) (H:Hp) (Q:VK):Prop
 | mk (p t:Addr) (ys:List V) (h0:xs=[.ref p,.ref t]) (h1:H p=some (.lst ys)) (h2:H t=some (.tup [.ty "list",.ty "tuple"])) (h3:Q (.bl true) H):rIsLT_R xs H Q
def rIsLT:List V→Hp→VK→Prop:=fun xs H Q=>rIsLT_R xs H Q
theorem call_isLT:Ys X (.builtin "isinstance") rIsLT:=by
 intro pins s σ H xs us Q I r h
 obtain ⟨p,t,ys,rfl,hp,ht,q⟩:=h
 obtain ⟨u,v,rfl,ru,rv⟩:=UW r
 cases (show u=Value.ref p from ru)
 cases (show v=Value.ref t from rv)
 obtain ⟨_,_,n,_,h1⟩:=(show YB X.prog X.w H s.heap p (.lst ys) from I.hok p _ hp)
 obtain ⟨_,its,rt,⟨oc,od,oda,osl⟩,e1,e2,n,e3⟩:=(show YB X.prog X.w H s.heap t (.tup _) from I.hok t _ ht)
 dsimp only at e2 e3
 subst e2 e3
 obtain ⟨u1,u2,rfl,z1,z2⟩:=UW rt
 cases (show u1=Value.type "list" from z1)
 cases (show u2=Value.type "tuple" from z2)
 exact PySem.W.kia_tup PySem.W.kitx_list I.kIn ⟨_,h1,rfl⟩ e1 (b:=true) rfl (fun z=>nomatch z) fun tk=>⟨.bl true,H,I.tok _,rfl,q⟩
end
section
variable {prog:Program}{w:World}{A:Around}{E:Value→Shared→Prop}{s:Shared}
theorem jC {it t:Addr}{i:Nat}{items:Array Value}{x:Value}{Q:Value→Shared→Prop} (hit:s.heap.IsTupleIter it t i) (ht:s.heap.IsTuple t items) (hx:items[i]?=some x)
  (hQ:∀ h',h'.IsTupleIter it t (i+1)→Heap.SameBut it s.heap h'→Q x { s with heap:=h' }):wpAny (model prog w) A (Builtin.SmallTypes.nextOf (.ref it)) Q E s:=by
 obtain ⟨o,ho,hc,hd⟩:=id hit
 obtain ⟨ol,hol,_,nl,hdl⟩:=ht
 unfold Builtin.SmallTypes.nextOf
 refine wpAny_bind (wpAny_callSpecial?_slot (name:=Str.ofString "__next__") hit.typeIs PySem.F.slot_tuple_iterator_next (wpAny_call_entry PySem.F.slot_tuple_iterator_next hit.typeIs PySem.F.entry_tuple_iterator_next ?_ (PySem.F.args_tuple_iterator_next_1 _)))
 show wpAny _ _ (field (.ref it) 0 >>= fun _=>_) _ _ s
 refine wpAny_bind (wpAny_field ho hd (x:=.ref t) rfl ?_)
 show wpAny _ _ (if (Value.ref t == Value.none)=true then _ else (field (.ref it) 1 >>= fun _=>_)) _ _ s
 rw [if_neg (show ¬ (Value.ref t == Value.none)=true from Bool.false_ne_true)]
 refine wpAny_bind (wpAny_field ho hd (x:=.int i 0) rfl ?_)
 show wpAny _ _ (seqItems? (.ref t) >>= fun _=>_) _ _ s
 refine wpAny_bind (wpAny_seqItems hol hdl ?_)
 simp only [Int.toNat_natCast,hx]
 refine wpAny_bind (wpAny_setField ho hd (by simp) (wpAny_pure ⟨x,rfl,wpAny_pure (hQ _ ⟨_,Heap.get?_update_self _ ho (Obj.isFreed_of_fields (Obj.data_mapFields hd _)),(Obj.cls_mapFields ..).trans hc,?_⟩ (Heap.SameBut.update ..))⟩))
 rw [Obj.data_mapFields hd];simp [rawInt]
structure ZSv (h:Heap) (z TI TO i1 i2 l1 l2:Addr) (f:Value) (k:Nat) (xs ys:Array Value):Prop where
 z:IsZip h z TI TO f
 ti:IsPair h TI (.ref i1) (.ref i2)
 to:∃ a b,IsPair h TO a b
 n1:h.IsListIter i1 l1 k
 n2:h.IsTupleIter i2 l2 k
 t1:h.IsList l1 xs
 t2:h.IsTuple l2 ys
theorem zipV_item {z TI TO i1 i2 l1 l2:Addr}{k:Nat}{xs ys:Array Value}{x y:Value}{Q:Option Value→Shared→Prop} (D:ZipApart z TI TO i1 i2 l1 l2) (S:ZSv s.heap z TI TO i1 i2 l1 l2 .none k xs ys) (hx:xs[k]?=some x) (hy:ys[k]?=some y)
  (hQ:∀ h',IsZip h' z TI TO (rawInt s.heap.objs.size)→IsPair h' TO x y→h'.IsListIter i1 l1 (k+1)→h'.IsTupleIter i2 l2 (k+1)→IsPair h' s.heap.objs.size x y →
   (∀ c o,c≠z→c≠TO→c≠i1→c≠i2→s.heap.get? c=some o→h'.get? c=some o)→Q (some (.ref s.heap.objs.size)) { s with heap:=h' }):wpAny (model prog w) A (pyNext (.ref z)) Q E s:=by
 obtain ⟨hz,hTI,⟨a,b,hTO⟩,h1,h2,hl1,hl2⟩:=S
 have hT:s.TypeIs (.ref z) "zip" := ⟨_,hz,rfl⟩
 unfold pyNext
 refine wpAny_bind (wpAny_attempt (wpAny_callSpecial?_slot (name:=Str.ofString "__next__") hT PySem.F.slot_zip_next (wpAny_call_entry PySem.F.slot_zip_next hT PySem.F.entry_zip_next ?_ (PySem.F.args_zip_next_1 _))))
 show wpAny _ _ (field (.ref z) 2 >>= fun _=>_) _ _ s
 refine wpAny_bind (wpAny_field (x:=.bool false) hz rfl rfl ?_)
 show wpAny _ _ (field (.ref z) 3 >>= fun _=>_) _ _ s
 refine wpAny_bind (wpAny_field (x:=.ref TI) hz rfl rfl (wpAny_bind (wpAny_seqItems hTI rfl ?_)))
 show wpAny _ _ (Builtin.SmallTypes.ownedTupleIsFree (.ref z) >>= fun _=>_) _ _ s
 refine wpAny_bind ?_
 unfold Builtin.SmallTypes.ownedTupleIsFree
 refine wpAny_bind (wpAny_field (x:=.none) hz rfl rfl (wpAny_pure ?_))
 simp only [if_true]
 refine wpAny_bind (wpAny_rule (wpAny_bind (wpAny_field (x:=.ref TO) hz rfl rfl (wpAny_bind (wpAny_setField_rec hz (by simp) fun g1 z1 e1=>?_)))))
 replace z1:IsZip g1 z TI TO .ellipsis:=z1
 refine wpAny_bind ?_
 simp only [List.zipIdx_cons,List.zipIdx_nil,List.forIn_cons,List.forIn_nil]
 refine wpAny_bind (wpAny_bind (wpAny_onRaise ?_))
 refine wpAny_bind (wpAny_nextOf_list_item (s:={ s with heap:=g1 }) (h1.at fun o q=>(e1.2 _ D.i1z).trans q) (hl1.at fun o q=>(e1.2 _ D.l1z).trans q) hx fun g2 n1 e2=>wpAny_pure ?_)
 have o2:IsPair g2 TO a b:=(e2.2 _ D.TOi1).trans ((e1.2 _ D.TOz).trans hTO)
 refine wpAny_bind (wpAny_seqItems o2 rfl (wpAny_bind (wpAny_updateSeq_pair o2 fun g3 o3 e3=>?_)))
 replace o3:IsPair g3 TO x b:=o3
 refine wpAny_bind (wpAny_letGo (wpAny_pure (wpAny_bind (wpAny_bind (wpAny_onRaise ?_)))))
 refine wpAny_bind (jC (s:={ s with heap:=g3 }) (h2.at fun o q=>(e3.2 _ D.TOi2.symm).trans ((e2.2 _ D.i12.symm).trans ((e1.2 _ D.i2z).trans q))) (hl2.at fun o q=>(e3.2 _ D.l2TO).trans ((e2.2 _ D.l2i1).trans ((e1.2 _ D.l2z).trans q))) hy fun g4 n2 e4=>wpAny_pure ?_)
 have o4:IsPair g4 TO x b:=(e4.2 _ D.TOi2).trans o3
 refine wpAny_bind (wpAny_seqItems o4 rfl (wpAny_bind (wpAny_updateSeq_pair o4 fun g5 o5 e5=>?_)))
 replace o5:IsPair g5 TO x y:=o5
 refine wpAny_bind (wpAny_letGo (wpAny_pure (wpAny_pure (wpAny_bind (wpAny_seqItems o5 rfl (wpAny_bind (wpAny_newTuple ?_)))))))
 have sz:g5.objs.size=s.heap.objs.size:=by rw [e5.1,e4.1,e3.1,e2.1,e1.1]
 have all:∀ c,c≠z→c≠TO→c≠i1→c≠i2→g5.get? c=s.heap.get? c:=fun c c1 c2 c3 c4=>(e5.2 _ c2).trans ((e4.2 _ c4).trans ((e3.2 _ c2).trans ((e2.2 _ c3).trans (e1.2 _ c1))))
 have z5:IsZip g5 z TI TO .ellipsis:=(e5.2 _ D.TOz.symm).trans ((e4.2 _ D.i2z.symm).trans ((e3.2 _ D.TOz.symm).trans ((e2.2 _ D.i1z.symm).trans z1)))
 have n15:g5.IsListIter i1 l1 (k+1):=n1.at fun o q=>(e5.2 _ D.TOi1.symm).trans ((e4.2 _ D.i12).trans ((e3.2 _ D.TOi1.symm).trans q))
 have n25:g5.IsTupleIter i2 l2 (k+1):=n2.at fun o q=>(e5.2 _ D.TOi2.symm).trans q
 have ltz:z<g5.objs.size:=Heap.lt_size z5
 show wpAny _ _ (Builtin.SmallTypes.ownedTupleHandOut (.ref z) (.ref g5.objs.size) >>= fun _=>_) _ _ _
 refine wpAny_bind ?_
 unfold Builtin.SmallTypes.ownedTupleHandOut
 have z6:IsZip (g5.push { cls:=.type "tuple",data:=.seq #[x,y] }) z TI TO .ellipsis:=Heap.get?_push_of_some _ z5
 refine wpAny_bind (wpAny_setField_rec z6 (by simp) fun g7 z7 e7=>?_)
 replace z7:IsZip g7 z TI TO (rawInt g5.objs.size):=z7
 refine wpAny_setField_rec z7 (by simp) fun g8 z8 e8=>?_
 replace z8:IsZip g8 z TI TO (rawInt g5.objs.size):=z8
 have up:∀ c o,c≠z→g5.get? c=some o→g8.get? c=some o:=fun c o c1 q=>(e8.2 _ c1).trans ((e7.2 _ c1).trans (Heap.get?_push_of_some _ q))
 have p8:IsPair g8 g5.objs.size x y:=(e8.2 _ (Nat.ne_of_gt ltz)).trans ((e7.2 _ (Nat.ne_of_gt ltz)).trans (Heap.get?_push_size _ rfl))
 rw [sz] at z8 p8
 refine wpAny_pure ⟨_,rfl,?_⟩
 show wpAny _ _ (pure (some (Value.ref g5.objs.size))) _ _ _
 rw [sz]
 exact wpAny_pure (hQ g8 z8 (up _ _ D.TOz o5) (n15.at fun o q=>up _ o D.i1z q) (n25.at fun o q=>up _ o D.i2z q) p8 fun c o c1 c2 c3 c4 q=>up c o c1 ((all c c1 c2 c3 c4).trans q))
theorem zipV_end {z TI TO i1 i2 l1 l2:Addr}{k:Nat}{xs ys:Array Value}{Q:Option Value→Shared→Prop} (hh:A.handled=none) (D:ZipApart z TI TO i1 i2 l1 l2) (S:ZSv s.heap z TI TO i1 i2 l1 l2 .none k xs ys) (hl:xs.size=ys.size) (hx:xs[k]?=none)
  (hQ:∀ h',(∀ c o,c≠z→c≠TO→c≠i1→c≠i2→s.heap.get? c=some o→h'.get? c=some o)→Q none { s with heap:=h' }):wpAny (model prog w) A (pyNext (.ref z)) Q E s:=by
 obtain ⟨hz,hTI,⟨a,b,hTO⟩,h1,h2,hl1,hl2⟩:=S
 have hT:s.TypeIs (.ref z) "zip" := ⟨_,hz,rfl⟩
 unfold pyNext
 refine wpAny_bind (wpAny_attempt (wpAny_callSpecial?_slot (name:=Str.ofString "__next__") hT PySem.F.slot_zip_next (wpAny_call_entry PySem.F.slot_zip_next hT PySem.F.entry_zip_next ?_ (PySem.F.args_zip_next_1 _))))
 show wpAny _ _ (field (.ref z) 2 >>= fun _=>_) _ _ s
 refine wpAny_bind (wpAny_field (x:=.bool false) hz rfl rfl ?_)
 show wpAny _ _ (field (.ref z) 3 >>= fun _=>_) _ _ s
 refine wpAny_bind (wpAny_field (x:=.ref TI) hz rfl rfl (wpAny_bind (wpAny_seqItems hTI rfl ?_)))
 show wpAny _ _ (Builtin.SmallTypes.ownedTupleIsFree (.ref z) >>= fun _=>_) _ _ s
 refine wpAny_bind ?_
 unfold Builtin.SmallTypes.ownedTupleIsFree
 refine wpAny_bind (wpAny_field (x:=.none) hz rfl rfl (wpAny_pure ?_))
 simp only [if_true]
 refine wpAny_bind (wpAny_rule (wpAny_bind (wpAny_field (x:=.ref TO) hz rfl rfl (wpAny_bind (wpAny_setField_rec hz (by simp) fun g1 z1 e1=>?_)))))
 replace z1:IsZip g1 z TI TO .ellipsis:=z1
 refine wpAny_bind ?_
 simp only [List.zipIdx_cons,List.zipIdx_nil,List.forIn_cons,List.forIn_nil]
 refine wpAny_bind (wpAny_bind (wpAny_onRaise ?_))
 refine wpAny_bind (wpAny_nextOf_list_end (s:={ s with heap:=g1 }) (by simpa using hh) (h1.at fun o q=>(e1.2 _ D.i1z).trans q) (hl1.at fun o q=>(e1.2 _ D.l1z).trans q) hx fun g2 e x2 he=>?_)
 obtain ⟨oe,hoe,hce⟩:=he
 have z2:IsZip g2 z TI TO .ellipsis:=x2 _ _ D.i1z.symm z1
 have hez:e≠z:=fun x=>by subst x;rw [z2] at hoe;cases hoe;simp at hce
 refine wpAny_setField_rec z2 (by simp) fun g3 _ e3=>?_
 refine wpAny_bind (wpAny_isInstance (T := "StopIteration") (b:=true) ⟨oe,(e3.2 _ hez).trans hoe,hce⟩ isSubtype_stop ?_)
 exact wpAny_pure (hQ _ fun c o c1 _ c3 _ q=>(e3.2 _ c1).trans (x2 _ _ c3 ((e1.2 _ c1).trans q)))
end
abbrev yA (h:Heap) (l1:Addr):Heap:=h.push { cls:=.type "list_iterator",data:=.fields #[.ref l1,.int 0 0] }
abbrev yB (h:Heap) (l1 l2:Addr):Heap:=(yA h l1).push { cls:=.type "tuple_iterator",data:=.fields #[.ref l2,.int 0 0] }
abbrev yC (h:Heap) (l1 l2:Addr):Heap:=(yB h l1 l2).push { cls:=.type "tuple",data:=.seq #[.ref h.objs.size,.ref (yA h l1).objs.size] }
abbrev yD (h:Heap) (l1 l2:Addr):Heap:=(yC h l1 l2).push { cls:=.type "tuple",data:=.seq #[.none,.none] }
abbrev yE (h:Heap) (l1 l2:Addr):Heap:=(yD h l1 l2).push { cls:=.type "zip",data:=.fields #[.none,.bool false,.bool false,.ref (yB h l1 l2).objs.size,.ref (yC h l1 l2).objs.size] }
theorem vT (l1 l2:Addr) (xs ys:Array Value) :
  Meets (Builtin.«zip.__new__» ⟨[.type "zip",.ref l1,.ref l2],[]⟩) (fun _ R s=>s.heap.IsList l1 xs∧s.heap.IsTuple l2 ys∧R (.ok (.ret (.ref (yD s.heap l1 l2).objs.size))) { s with heap:=yE s.heap l1 l2 }):=
 .of_wp fun prog w A R s h=>by
  obtain ⟨hp,g,d,tk,os⟩:=s;obtain ⟨hl1,hl2,h⟩:=h
  have hsub:=sub_zip
  have a1:Heap.IsList (Shared.heap ⟨hp,g,d,tk,os⟩) l1 xs:=hl1
  have a2:Heap.IsTuple (Shared.heap ⟨hp.push { cls:=.type "list_iterator",data:=.fields #[.ref l1,.int 0 0] },g,d,tk,os⟩) l2 ys:=hl2.at fun o q=>Heap.get?_push_of_some _ q
  wp_walk using wpAny_pyIter_list a1,wpAny_pyIter_tuple a2
  exact ⟨_,rfl,h⟩
section
variable {prog:Program}{w:World}{A:Around}{E:Value→Shared→Prop}{s:Shared}
theorem call_zipV {l1 l2:Addr}{xs ys:Array Value}{Q:Value→Shared→Prop} (hl1:s.heap.IsList l1 xs) (hl2:s.heap.IsTuple l2 ys)
  (h:∀ h',ZSv h' (s.heap.objs.size+4) (s.heap.objs.size+2) (s.heap.objs.size+3) s.heap.objs.size (s.heap.objs.size+1) l1 l2 .none 0 xs ys→(∀ c o,s.heap.get? c=some o→h'.get? c=some o)→Q (.ref (s.heap.objs.size+4)) { s with heap:=h' }) :
  wpAny (model prog w) A (call (.type "zip") [.ref l1,.ref l2]) Q E s:=by
 refine callType_new PySem.F.called_zip (by decide) (PySem.F.typeCall_zip_2 _ _) (PySem.F.newCall_zip_2 _ _) (fun obj=>PySem.F.args_object_init_3 obj _ _) PySem.F.entry_zip_new (vT l1 l2 xs ys) ⟨hl1,hl2,?_⟩
 have s1:(yA s.heap l1).objs.size=s.heap.objs.size+1:=Heap.size_push ..
 have s2:(yB s.heap l1 l2).objs.size=s.heap.objs.size+2:=by rw [Heap.size_push,s1]
 have s3:(yC s.heap l1 l2).objs.size=s.heap.objs.size+3:=by rw [Heap.size_push,s2]
 have s4:(yD s.heap l1 l2).objs.size=s.heap.objs.size+4:=by rw [Heap.size_push,s3]
 have g5:(yE s.heap l1 l2).get? (yD s.heap l1 l2).objs.size=some _:=Heap.get?_push_size _ rfl
 have g4:(yE s.heap l1 l2).get? (yC s.heap l1 l2).objs.size=some _:=Heap.get?_push_of_some _ (Heap.get?_push_size _ rfl)
 have g3:(yE s.heap l1 l2).get? (yB s.heap l1 l2).objs.size=some _:=Heap.get?_push_of_some _ (Heap.get?_push_of_some _ (Heap.get?_push_size _ rfl))
 have g2:(yE s.heap l1 l2).get? (yA s.heap l1).objs.size=some _:=Heap.get?_push_of_some _ (Heap.get?_push_of_some _ (Heap.get?_push_of_some _ (Heap.get?_push_size _ rfl)))
 have g1:(yE s.heap l1 l2).get? s.heap.objs.size=some _:=Heap.get?_push_of_some _ (Heap.get?_push_of_some _ (Heap.get?_push_of_some _ (Heap.get?_push_of_some _ (Heap.get?_push_size _ rfl))))
 have k:∀ c o,s.heap.get? c=some o→(yE s.heap l1 l2).get? c=some o:=fun c o x=>Heap.get?_push_of_some _ (Heap.get?_push_of_some _ (Heap.get?_push_of_some _ (Heap.get?_push_of_some _ (Heap.get?_push_of_some _ x))))
 show _∧_
 rw [s2,s3,s4] at g5
 rw [s1,s2] at g3
 rw [s3] at g4
 rw [s1] at g2
 rw [s4]
 exact ⟨⟨_,g5,rfl⟩,h _ ⟨g5,g3,⟨_,_,g4⟩,⟨_,g1,rfl,rfl⟩,⟨_,g2,rfl,rfl⟩,hl1.at fun o q=>k _ o q,hl2.at fun o q=>k _ o q⟩ k⟩
end
def ItzV (K:PySem.W.Frag) (a b:Addr):It:=
 ⟨fun i H=>∃ xs ys x y,SqL K H a xs∧SqT K H b ys∧xs[i]?=some x∧ys[i]?=some y,fun i H x H'=>∃ p v w,x=.ref p∧H p=none∧H'=upd H p (.tup [v,w])∧(∀ xs,SqL K H a xs→xs[i]?=some v)∧∀ ys,SqT K H b ys→ys[i]?=some w,fun i H=>∃ xs ys,SqL K H a xs∧SqT K H b ys∧xs.length=ys.length∧xs.length≤i⟩
theorem UA {X:Cx}{pins:List (Addr × Obj)}{σ:L3.St}{H:Hp}{s:Shared}{a:Addr}{xs:List V} (I:L2.Inv X pins σ H s) (h:SqT X.K H a xs):∃ its:List Value,ZE xs its∧s.heap.IsTuple a its.toArray:=by
 obtain ⟨its,rv,⟨o,h1,h2,n,h3⟩,_⟩:=I.tuple h
 exact ⟨its,rv,o,h1,h2,n,h3⟩
theorem turn_zipV {P:Program}{w:World}{K:PySem.W.Frag}{elts:List Expr}{k1:Nat}{pt:Pos} (a b z TI TO i1 i2:Addr) (D:ZipApart z TI TO i1 i2 a b) :
  Turn P w K (.Tuple elts k1 pt) (ItzV K a b) [z,TI,TO,i1,i2] z (fun i h=>IsZip h z TI TO .none∧IsPair h TI (.ref i1) (.ref i2)∧(∃ u v,IsPair h TO u v)∧h.IsListIter i1 a i∧h.IsTupleIter i2 b i) where
 mem:=by simp
 obj:=fun i h st c hb=>by
  obtain ⟨hz,hTI,⟨u,v,hTO⟩,⟨o1,e1,c1,d1⟩,⟨o2,e2,c2,d2⟩⟩:=st
  rcases (by simpa using hb:c=z∨c=TI∨c=TO∨c=i1∨c=i2) with rfl | rfl | rfl | rfl | rfl
  ·exact ⟨_,hz,fun v q=>by
    have q':Data.fields _=Data.cell v:=q
    cases q'⟩
  ·exact ⟨_,hTI,fun v q=>by
    have q':Data.seq _ _=Data.cell v:=q
    cases q'⟩
  ·exact ⟨_,hTO,fun v q=>by
    have q':Data.seq _ _=Data.cell v:=q
    cases q'⟩
  ·exact ⟨o1,e1,fun v q=>by rw [d1] at q;cases q⟩
  ·exact ⟨o2,e2,fun v q=>by rw [d2] at q;cases q⟩
 keep:=fun i h h' st k=>by
  obtain ⟨hz,hTI,⟨u,v,hTO⟩,h1,h2⟩:=st
  exact ⟨k z (by simp) _ hz,k TI (by simp) _ hTI,⟨u,v,k TO (by simp) _ hTO⟩,h1.at fun o q=>k i1 (by simp) o q,h2.at fun o q=>k i2 (by simp) o q⟩
 item:=by
  intro X hP hw hK hc i pins s σ H E I hf st hg
  subst hP hw hK
  obtain ⟨xs,ys,x,y,hq1,hq2,hx,hy⟩:=hg
  obtain ⟨its1,rv1,p1',hz1⟩:=I.list hq1
  have p1:=p1'.isList
  obtain ⟨its2,rv2,p2⟩:=UA I hq2
  obtain ⟨u1,hu1,ru1⟩:=rv1.get hx
  obtain ⟨u2,hu2,ru2⟩:=rv2.get hy
  obtain ⟨hz,hTI,hTO,hi1,hi2⟩:=st
  refine zipV_item D ⟨hz,hTI,hTO,hi1,hi2,p1,p2⟩ (x:=u1) (y:=u2) (by simpa using hu1) (by simpa using hu2) fun h1 b1 b2 b3 b4 b5 b7=>?_
  refine ⟨_,rfl,wpAny_letOwnedTupleGo_zip b1 fun h2 c1 c2=>?_⟩
  have c2':Heap.SameBut z h1 h2:=c2
  have ltz:z<s.heap.objs.size:=Heap.lt_size hz
  have hit1:h2.IsListIter i1 a (i+1):=b3.at fun o q=>(c2'.2 i1 D.i1z).trans q
  have hit2:h2.IsTupleIter i2 b (i+1):=b4.at fun o q=>(c2'.2 i2 D.i2z).trans q
  have hTO2:IsPair h2 TO u1 u2:=(c2'.2 TO D.TOz).trans b2
  have hTI2:IsPair h2 TI (.ref i1) (.ref i2):=(c2'.2 TI D.TIz).trans (b7 TI _ D.TIz D.TITO D.TIi1 D.TIi2 hTI)
  have ht:h2.get? s.heap.objs.size=some { cls:=.type "tuple",data:=.seq #[u1,u2] }:=(c2'.2 _ (Nat.ne_of_gt ltz)).trans b5
  have I2:L2.Inv X pins σ (upd H s.heap.objs.size (.tup [x,y])) { s with heap:=h2,toks:=s.toks }:=by
   refine Inv.turnedLaid (ch:=[z,TI,TO,i1,i2]) I (fun c o hb q=>?_) (fun c hb=>?_) hf (Nat.le_refl _) ?_
   ·have hb':c≠z∧c≠TI∧c≠TO∧c≠i1∧c≠i2:=by simpa using hb
    exact (c2'.2 c hb'.1).trans (b7 c o hb'.1 hb'.2.2.1 hb'.2.2.2.1 hb'.2.2.2.2 q)
   ·rcases (by simpa using hb:c=z∨c=TI∨c=TO∨c=i1∨c=i2) with rfl | rfl | rfl | rfl | rfl
    ·exact ⟨_,c1⟩
    ·exact ⟨_,hTI2⟩
    ·exact ⟨_,hTO2⟩
    ·obtain ⟨o,q,_⟩:=hit1;exact ⟨o,q⟩
    ·obtain ⟨o,q,_⟩:=hit2;exact ⟨o,q⟩
   ·exact ⟨by show 2≤sizeLine;decide,[u1,u2],.cons ru1 (.cons ru2 .nil),⟨_,ht,rfl,_,rfl⟩⟩
  have hn:=I.hok.fresh (Nat.le_refl s.heap.objs.size)
  refine ⟨.ref s.heap.objs.size,_,I2,rfl,⟨_,x,y,rfl,hn,rfl,fun zs q=>by rw [I.list_inj q hq1];exact hx,fun zs q=>by rw [I.tuple_inj q hq2];exact hy⟩,⟨c1,hTI2,⟨_,_,hTO2⟩,hit1,hit2⟩,fun c hb=>?_⟩
  have lb:c<s.heap.objs.size:=by
   rcases (by simpa using hb:c=z∨c=TI∨c=TO∨c=i1∨c=i2) with rfl | rfl | rfl | rfl | rfl
   ·exact ltz
   ·exact Heap.lt_size hTI
   ·obtain ⟨_,_,q⟩:=hTO;exact Heap.lt_size q
   ·obtain ⟨o,q,_⟩:=hi1;exact Heap.lt_size q
   ·obtain ⟨o,q,_⟩:=hi2;exact Heap.lt_size q
  rw [Zo (Nat.ne_of_lt lb)]
  exact (hf c hb).1
 done:=by
  intro X hP hw hK hc i pins s σ H E I hf st hg
  subst hP hw hK
  obtain ⟨xs,ys,hq1,hq2,hll,hx⟩:=hg
  obtain ⟨its1,rv1,p1',hz1⟩:=I.list hq1
  have p1:=p1'.isList
  obtain ⟨its2,rv2,p2⟩:=UA I hq2
  obtain ⟨hz,hTI,hTO,hi1,hi2⟩:=st
  have l1:=rv1.length
  have l2:=rv2.length
  refine zipV_end (I.ok.hd hc) D ⟨hz,hTI,hTO,hi1,hi2,p1,p2⟩ (by simp;omega) (by simp;omega) fun h' eb=>⟨rfl,?_⟩
  exact Inv.turnedM (ch:=[z,TI,TO,i1,i2]) (t':=s.toks) I (fun c o hb q=>by
   have hb':c≠z∧c≠TI∧c≠TO∧c≠i1∧c≠i2:=by simpa using hb
   exact eb c o hb'.1 hb'.2.2.1 hb'.2.2.2.1 hb'.2.2.2.2 q) hf
 self:=fun _ _ _ _ _ st h=>wpAny_pyIter_zip st.1 h
section
variable {X:Cx}
def iZipV (K:PySem.W.Frag) (ta:TA):TI:=fun σ H R=>ta σ H fun vs H1=>∃ a b xs ys,vs=[.ref a,.ref b]∧SqL K H1 a xs∧SqT K H1 b ys∧R (ItzV K a b) H1
theorem qk {elts:List Expr}{k1:Nat}{pt:Pos}{a b:Expr}{ta:TA}{p pos:Pos}{K:PySem.W.Frag} (hK:X.K=K) (hg:Gl X "zip") (hm:X.mg "zip" = none) (ha:PA X [a,b] ta) (hs:starEach [a,b] X.env=[(false,eval a X.env),(false,eval b X.env)]:=by rfl) (hs2:starEach [b] X.env=[(false,eval b X.env)]:=by rfl) :
  PI X (.Tuple elts k1 pt) (.Call (.Name "zip" p) [a,b] [] pos) (iZipV K ta):=by
 subst hK
 intro pins s σ H R I h
 refine Call_ (UJ I hg hm PyProof.Rows.boot_zip (PyProof.Rows.callWith_type1 (thn (ha pos pins s σ H _ I h) fun us s1 ⟨vs,H1,I1,r1,q1⟩=>?_) (by rw [hs,hs2]) (by rw [hs2];rfl)))
 obtain ⟨l1,l2,xs,ys,rfl,hq1,hq2,q⟩:=q1
 obtain ⟨u,v,rfl,ru,rv⟩:=UW r1
 obtain rfl:u=Value.ref l1:=ru
 obtain rfl:v=Value.ref l2:=rv
 obtain ⟨its1,rv1,p1',hz1⟩:=I1.list hq1
 have p1:=p1'.isList
 obtain ⟨its2,rv2,p2⟩:=UA I1 hq2
 have lt1:l1<s1.heap.objs.size:=by obtain ⟨_,e,_⟩:=p1;exact Heap.lt_size e
 have lt2:l2<s1.heap.objs.size:=by obtain ⟨_,e,_⟩:=p2;exact Heap.lt_size e
 refine call_zipV p1 p2 fun h' S k=>wpAny_pyIter_zip S.z ?_
 have I2:L2.Inv X pins σ H1 { s1 with heap:=h' }:=I1.kept (t':=s1.toks) k
 refine ⟨s1.heap.objs.size+4,[s1.heap.objs.size+4,s1.heap.objs.size+2,s1.heap.objs.size+3,s1.heap.objs.size,s1.heap.objs.size+1],_,_,H1,rfl,I2,turn_zipV l1 l2 _ _ _ _ _ (apart_of _ _ _ lt1 lt2),⟨S.z,S.ti,S.to,S.n1,S.n2⟩,fun c hb=>?_,q⟩
 have lb:s1.heap.objs.size≤c:=by
  rcases (by simpa using hb:c=s1.heap.objs.size+4∨c=s1.heap.objs.size+2∨c=s1.heap.objs.size+3∨c=s1.heap.objs.size∨c=s1.heap.objs.size+1) with rfl | rfl | rfl | rfl | rfl <;> first | exact Nat.le_add_right _ _ | exact Nat.le_refl _
 exact I1.fpOk lb (I1.hok.fresh lb)
end
def CompL (J:It) (D:Addr) (g:TG) (tt:TT) (te:TE) (σ0:St) (H1:Hp) (Q:VK):Prop:=yf J g tt (emL te D) σ0 (upd H1 D (.lst [])) (fun _ H'=>Q (.ref D) H')
def tCompL (wi:TI) (ix:List (Option Nat)) (g:TG) (tt:TT) (te:TE):TE:=fun σ H Q=>wi σ H fun J H1=>∀ D,H1 D=none→CompL J D g tt te (sub ix σ) H1 Q
section
variable {X:Cx}{pins:List (Addr × Obj)}{σ:St}{H:Hp}{s:Shared}{Nc:List Str}{ix:List (Option Nat)}{scope:Scope}
theorem yu {elt tg iter:Expr}{ifs:List Expr}{pos pos2:Pos}{wi:TI}{g:TG}{tt:TT}{te:TE}{use:Option (Value→Sem Unit)}{QV:Value→Shared→Prop}{Q:VK} (I:L2.Inv X pins σ H s) (h:tCompL wi ix g tt te σ H Q)
  (fin:∀ (D C:Addr) (H':Hp) (s':Shared) (m:Str→Option Value),L2.Inv X pins σ H' s'→Ve X pins H' C→s'.heap.Ns C m→Q (.ref D) H'→compPost (model X.prog X.w) X.A X.xe use QV (.ref D) C (.ok .next) s')
  (ok:ZD X.env.scope X.N Nc ix scope) (hc:X.calm=true) (hi:PI X tg iter wi)
  (hg:∀ cl C s H fp,PG (ZN X Nc scope cl C s H fp) tg g) (ht:∀ cl C s H fp,PTs (ZN X Nc scope cl C s H fp) ifs tt) (he:∀ cl C s H fp,PE (ZN X Nc scope cl C s H fp) elt te)
  (hs:∀ x,foldedSetIterable iter X.env x=pure x):wpAny (model X.prog X.w) X.A (comprehension (.ListComp elt [⟨tg,iter,ifs,0⟩] scope pos) scope X.env pos2 (newList []) false (eval iter X.env) use) QV X.xe s:=
 Vx (em:=fun D=>emL te D) (o0:=fun _=>.lst []) (ob:={ cls:=.type "list",data:=.seq ([]:List Value).toArray }) (bd:=fun D env=>do let _ ← call (.builtin "list.append") [.ref D,← eval elt env]) I h fin rfl (fun _ _ _=>⟨rfl,rfl⟩) (fun _ _ _=>rfl) (fun _ _ _ _=>⟨rfl,rfl⟩) (fun _ _ _=>rfl)
  (fun _ _ _ _ q=>wpAny_newObj_type q) (fun _ _ I2=>zP I2) ok hc hi hg ht (fun cl C s H fp D=>vt (he cl C s H fp)) hs
theorem ZV {elt tg iter:Expr}{ifs:List Expr}{pos:Pos}{wi:TI}{g:TG}{tt:TT}{te:TE} (ok:ZD X.env.scope X.N Nc ix scope) (hc:X.calm=true) (hi:PI X tg iter wi)
  (hg:∀ cl C s H fp,PG (ZN X Nc scope cl C s H fp) tg g) (ht:∀ cl C s H fp,PTs (ZN X Nc scope cl C s H fp) ifs tt) (he:∀ cl C s H fp,PE (ZN X Nc scope cl C s H fp) elt te)
  (hs:∀ x,foldedSetIterable iter X.env x=pure x:=by intro _;rfl):PE X (.ListComp elt [⟨tg,iter,ifs,0⟩] scope pos) (tCompL wi ix g tt te):=by
 intro pins s σ H Q I h
 rw [eval_ListComp]
 refine yu (use:=none) I h (fun D C H' s' m I' f hn qq=>?_) ok hc hi hg ht he hs
 obtain ⟨f0,f1,f2,f3,f4,f5⟩:=f
 exact ⟨m,hn,fun h' sb=>⟨.ref D,H',I'.turned (t':=s'.toks) (fun b o hb e=>(sb.2 b hb).trans e) f0 f1 f3 f4 f5,rfl,qq⟩⟩
theorem UQ {i:Nat}{x:Str}{elt tg iter:Expr}{ifs:List Expr}{pos spos pos':Pos}{wi:TI}{g:TG}{tt:TT}{te:TE} (hN:X.N.Nodup) (hi:X.N[i]?=some x) (hx:X.env.kindOf x=some .local)
  (ok:ZD X.env.scope X.N Nc ix scope) (hc:X.calm=true) (hit:PI X tg iter wi)
  (hg:∀ cl C s H fp,PG (ZN X Nc scope cl C s H fp) tg g) (ht:∀ cl C s H fp,PTs (ZN X Nc scope cl C s H fp) ifs tt) (he:∀ cl C s H fp,PE (ZN X Nc scope cl C s H fp) elt te)
  (hsw:swapsWith (.ListComp elt [⟨tg,iter,ifs,0⟩] scope pos) (some (.Name x pos')) spos.line X.env=pure true:=by rfl)
  (hs:∀ x,foldedSetIterable iter X.env x=pure x:=by intro _;rfl):PS X (.Assign [.Name x pos'] (.ListComp elt [⟨tg,iter,ifs,0⟩] scope pos) spos) (tAsg (tCompL wi ix g tt te) (yK i)):=by
 intro pins s σ H D I h
 rw [exec_Assign_Name_used _ _ _ _ hsw]
 refine wpAny_bind (wpAny_standAt (wpAny_bind ?_))
 show wpAny _ X.A (do let _ ← comprehension (.ListComp elt [⟨tg,iter,ifs,0⟩] scope pos) scope X.env _ (newList []) false (eval iter X.env) (some (assign (.Name x pos') X.env))) _ _ s
 refine wpAny_bind (thn (yu (use:=some (assign (.Name x pos') X.env)) (QV:=fun _ s'=>SP X pins D .next s') I h (fun L C H' s' m I' f hn qq=>?_) ok hc hit hg ht he hs) fun _ s' q=>wpAny_pure (wpAny_pure q))
 exact zb hN hi hx I' f hn qq
end
theorem Xw {J:It}{n:Nat}{D:Addr}{g:TG}{tt:TT}{te:TE}{σ0:St}{H0:Hp}{Q:VK} (Pv:Nat→St→Hp→Prop) (h0:Pv 0 σ0 (upd H0 D (.lst [])))
  (hgo:∀ i σ H,i<n→Pv i σ H→J.go i H) (hst:∀ σ H,Pv n σ H→J.stop n H)
  (hs:∀ i x σ H H2,i<n→Pv i σ H→J.yld i H x H2→∀ (N:V→St→Hp→Prop) (N0:St→Hp→Prop),(∀ v σ2 H5 ys,H5 D=some (.lst ys)→ys.length<sizeLine→Pv (i+1) σ2 (upd H5 D (.lst (ys++[v])))→N v σ2 H5)→(∀ σ2 H4,Pv (i+1) σ2 H4→N0 σ2 H4) →
   g x σ H2 fun σ2 H3=>tt σ2 H3 fun c H4=>if c=true then te σ2 H4 fun v H5=>N v σ2 H5 else N0 σ2 H4)
  (hd:∀ σ H,Pv n σ H→Q (.ref D) H):CompL J D g tt te σ0 H0 Q:=by
 refine XW (n:=n) Pv h0 hgo hst (fun i x σ H H2 hi p y N hN=>?_) hd
 exact hs i x σ H H2 hi p y (fun v σ2 H5=>∃ ys,H5 D=some (.lst ys)∧ys.length<sizeLine∧N σ2 (upd H5 D (.lst (ys++[v])))) N (fun v σ2 H5 ys a b c=>⟨ys,a,b,hN _ _ c⟩) hN
theorem Yc {K:PySem.W.Frag}{a D:Addr}{xs:List V}{te:TE}{τ:St}{H0:Hp}{Q:VK} (hD:H0 D=none) (hq:SqL K H0 a xs) (hz:xs.length≤sizeLine) (R:Nat→V→Hp→Prop) (mono:∀ i v H H',Zj H H'→R i v H→R i v H')
  (step:∀ i x H (N:V→Hp→Prop),xs[i]?=some x→Zj H0 H→(∀ v H4,Zj H H4→R i v (New H H4)→N v H4)→te (some x :: τ) H N)
  (fin:∀ H' ys,H' D=some (.lst ys)→Zj H0 H'→ys.length=xs.length→(∀ i v,ys[i]?=some v→R i v (New H0 H'))→Q (.ref D) H') :
  CompL (Itl K a) D (yK 0) tTrue te (none :: τ) H0 Q:=by
 refine Xw (n:=xs.length) (fun i σ H=>∃ z ys,σ=z :: τ∧H D=some (.lst ys)∧ys.length=i∧Zj H0 H∧∀ j v,ys[j]?=some v→R j v (hide D (New H0 H))) ?_ ?_ ?_ ?_ ?_
 ·exact ⟨none,[],rfl,Zd,rfl,Zf hD,fun j v e=>by simp at e⟩
 ·rintro i σ H hi ⟨z,ys,rfl,_,_,s,_⟩
  exact ⟨xs,xs[i],s.seq hq,by simp [hi]⟩
 ·rintro σ H ⟨z,ys,rfl,_,_,s,_⟩
  exact ⟨xs,s.seq hq,Nat.le_refl _⟩
 ·rintro i x σ H H2 hi ⟨z,ys,rfl,hy,hl,s,r⟩ ⟨rfl,hx⟩ N N0 hN hN0
  show te (some x :: τ) H2 _
  refine step i x H2 _ (hx xs (s.seq hq)) s fun v H4 s4 r4=>?_
  refine hN v _ H4 ys (s4 _ _ hy) (by omega) ⟨some x,ys++[v],rfl,Zd,by rw [List.length_append,List.length_singleton,hl],?_,?_⟩
  ·exact (Zy.upd (Zj.x (s.trans s4))).same hD
  ·intro j w e
   by_cases hj:j<ys.length
   ·rw [List.getElem?_append_left hj] at e
    refine mono j w _ _ ?_ (r j w e)
    intro b o hb
    obtain ⟨nb,hb⟩:=WT hb
    obtain ⟨h1,h2⟩:=New.of hb
    exact Yt nb (New.mk h1 (by rw [Zo nb];exact s4 _ _ h2))
   ·have ej:j=ys.length:=by
     have:=(List.getElem?_eq_some_iff.mp e).1
     rw [List.length_append,List.length_singleton] at this
     omega
    subst ej
    simp at e
    subst e
    rw [hl]
    refine mono i v _ _ ?_ r4
    intro b o hb
    obtain ⟨h1,h2⟩:=New.of hb
    have nb:b≠D:=fun z=>by subst z;rw [hy] at h1;cases h1
    exact Yt nb (New.mk (s.free h1) (by rw [Zo nb];exact h2))
 ·rintro σ H ⟨z,ys,rfl,hy,hl,s,r⟩
  exact fin H ys hy s hl fun i v e=>mono i v _ _ YV (r i v e)
theorem sz0:0≤sizeLine:=by rw [sizeLine_eq];decide
theorem sz1:1≤sizeLine:=by rw [sizeLine_eq];decide
theorem sz2:2≤sizeLine:=by rw [sizeLine_eq];decide
theorem sz3:3≤sizeLine:=by rw [sizeLine_eq];decide
theorem sz4:4≤sizeLine:=by rw [sizeLine_eq];decide
end L3
namespace KK
open PySem PySem.Spec L2 L3
def top (i:Nat):Stmt:=PySem.Challenge.pw_timecourt_k81_machines_side_by_side.main.body.getD i (.Pass ⟨0,0,0,0⟩)
abbrev Xb:Stmt:=top 8
abbrev Xd:Stmt:=top 9
abbrev Xk:Stmt:=top 10
abbrev YH:Stmt:=top 11
abbrev YI:Stmt:=top 12
abbrev Yj:Stmt:=Wz (top 16) 0
abbrev YC:Stmt:=Wz (top 16) 1
abbrev ZZ:Stmt:=Wz (top 16) 2
abbrev Z7:Stmt:=Wz (top 16) 3
abbrev Ye:Stmt:=Wz (top 16) 4
abbrev ZI:Stmt:=Wz (top 16) 5
abbrev Z8:Stmt:=top 17
abbrev ZX:Stmt:=top 18
abbrev ZQ:Stmt:=Wz (top 22) 0
abbrev ZG:Stmt:=Wz (top 22) 1
abbrev ZO:Stmt:=top 23
abbrev Xl:Stmt:=top 24
abbrev Z5:Stmt:=top 25
abbrev Y8:Stmt:=top 26
abbrev Yw:Stmt:=top 27
abbrev YW:Stmt:=top 28
abbrev Yg:Stmt:=top 30
abbrev Yn:Stmt:=top 31
abbrev Yq:Stmt:=top 32
abbrev Z3:Stmt:=top 33
abbrev Yp:Stmt:=top 34
abbrev Yl:Stmt:=top 35
abbrev Z6:Stmt:=top 36
abbrev YU:Stmt:=top 37
abbrev YS:Stmt:=top 38
abbrev Yk:Stmt:=top 39
abbrev Ww:Stmt:=top 40
theorem xK:ZB ["thing"] ["thing"] (Zc Xb):=⟨rfl,rfl,rfl,by decide +kernel,rfl,by decide +kernel,by decide +kernel⟩
theorem jm:ZB ["thing"] ["thing"] (Zc Xd):=⟨rfl,rfl,rfl,by decide +kernel,rfl,by decide +kernel,by decide +kernel⟩
theorem jg:ZB ["thing", "many"] ["thing", "many"] (Zc Xk):=⟨rfl,rfl,rfl,by decide +kernel,rfl,by decide +kernel,by decide +kernel⟩
theorem yU:ZB ["thing"] ["thing"] (Zc YH):=⟨rfl,rfl,rfl,by decide +kernel,rfl,by decide +kernel,by decide +kernel⟩
theorem yP:ZB ["thing", "many"] ["thing", "many"] (Zc YI):=⟨rfl,rfl,rfl,by decide +kernel,rfl,by decide +kernel,by decide +kernel⟩
theorem VE:ZB ["self", "signs", "ways", "starts", "fair"] ["self", "signs", "ways", "starts", "fair"] (Zc Yj):=⟨rfl,rfl,rfl,by decide +kernel,rfl,by decide +kernel,by decide +kernel⟩
theorem zF:ZB ["self"] ["self"] (Zc YC):=⟨rfl,rfl,rfl,by decide +kernel,rfl,by decide +kernel,by decide +kernel⟩
theorem V5:ZB ["self", "room"] ["self", "room"] (Zc ZZ):=⟨rfl,rfl,rfl,by decide +kernel,rfl,by decide +kernel,by decide +kernel⟩
theorem UI:ZB ["self", "room"] ["self", "room"] (Zc Z7):=⟨rfl,rfl,rfl,by decide +kernel,rfl,by decide +kernel,by decide +kernel⟩
theorem U8:ZB ["self"] ["self"] (Zc Ye):=⟨rfl,rfl,rfl,by decide +kernel,rfl,by decide +kernel,by decide +kernel⟩
theorem VA:ZB ["self"] ["self"] (Zc ZI):=⟨rfl,rfl,rfl,by decide +kernel,rfl,by decide +kernel,by decide +kernel⟩
theorem Vr:ZB ["signs", "ways", "starts", "fair", "many"] ["signs", "ways", "starts", "fair"] (Zc Z8):=⟨rfl,rfl,rfl,by decide +kernel,rfl,by decide +kernel,by decide +kernel⟩
theorem V2:ZB ["thing", "many"] ["thing", "many"] (Zc ZX):=⟨rfl,rfl,rfl,by decide +kernel,rfl,by decide +kernel,by decide +kernel⟩
theorem Va:ZB ["self", "signs", "moves", "start", "words", "known"] ["self", "signs", "moves", "start", "words"] (Zc ZQ):=⟨rfl,rfl,rfl,by decide +kernel,rfl,by decide +kernel,by decide +kernel⟩
theorem VJ:ZB ["self", "room", "word"] ["self", "room", "word"] (Zc ZG):=⟨rfl,rfl,rfl,by decide +kernel,rfl,by decide +kernel,by decide +kernel⟩
theorem WN:ZB ["signs", "moves", "start", "words", "many"] ["signs", "moves", "start", "words"] (Zc ZO):=⟨rfl,rfl,rfl,by decide +kernel,rfl,by decide +kernel,by decide +kernel⟩
theorem jv:ZB ["thing", "many"] ["thing", "many"] (Zc Xl):=⟨rfl,rfl,rfl,by decide +kernel,rfl,by decide +kernel,by decide +kernel⟩
theorem UY:ZB ["thing"] ["thing"] (Zc Z5):=⟨rfl,rfl,rfl,by decide +kernel,rfl,by decide +kernel,by decide +kernel⟩
theorem X7:ZB ["machines", "fair", "words", "places", "numbers", "ways", "met", "place"] ["machines", "fair"] (Zc Y8):=⟨rfl,rfl,rfl,by decide +kernel,rfl,by decide +kernel,by decide +kernel⟩
theorem Xg:ZB ["machines", "words", "place", "met", "word", "rows", "machine", "room"] ["machines", "words", "place"] (Zc Yw):=⟨rfl,rfl,rfl,by decide +kernel,rfl,by decide +kernel,by decide +kernel⟩
theorem vK:ZB ["machines", "place"] ["machines", "place"] (Zc YW):=⟨rfl,rfl,rfl,by decide +kernel,rfl,by decide +kernel,by decide +kernel⟩
theorem U0:ZB ["_law_script", "_law_k"] ["_law_script", "_law_k"] (Zc Yg):=⟨rfl,rfl,rfl,by decide +kernel,rfl,by decide +kernel,by decide +kernel⟩
theorem YG:ZB ["_law_cell", "_law_many", "_law_found", "_law_rest", "_law_number", "_law_k"] ["_law_cell", "_law_many"] (Zc Yn):=⟨rfl,rfl,rfl,by decide +kernel,rfl,by decide +kernel,by decide +kernel⟩
theorem WE:ZB ["_law_cell", "_law_letters", "_law_xs"] ["_law_cell"] (Zc Yq):=⟨rfl,rfl,rfl,by decide +kernel,rfl,by decide +kernel,by decide +kernel⟩
theorem Yi:ZB ["_law_names_here", "_law_cell", "_law_most", "_law_xs", "_law_many", "_law_words", "_law_signs", "_law_room", "_law_moves", "_law_k", "_law_more"] ["_law_names_here", "_law_cell", "_law_most"] (Zc Z3):=⟨rfl,rfl,rfl,by decide +kernel,rfl,by decide +kernel,by decide +kernel⟩
theorem Yo:ZB ["_law_one", "_law_signs", "_law_moves", "_law_start", "_law_more", "_law_handed", "_law_machine_here", "_law_words", "_law_some"] ["_law_one"] (Zc Yp):=⟨rfl,rfl,rfl,by decide +kernel,rfl,by decide +kernel,by decide +kernel⟩
theorem ZU:ZB ["_law_machines", "_law_place", "_law_word", "_law_found", "_law_one", "_law_room", "_law_signs", "_law_moves", "_law_start", "_law_more", "_law_knows", "_law_ends", "_law_more_rows", "_law_row"] ["_law_machines", "_law_place", "_law_word"] (Zc Yl):=⟨rfl,rfl,rfl,by decide +kernel,rfl,by decide +kernel,by decide +kernel⟩
theorem Zz:ZB ["_law_machines", "_law_words", "_law_signs", "_law_moves", "_law_start", "_law_more", "_law_word", "_law_places", "_law_ways", "_law_place", "_law_on", "_law_other"] ["_law_machines"] (Zc Z6):=⟨rfl,rfl,rfl,by decide +kernel,rfl,by decide +kernel,by decide +kernel⟩
theorem xb:ZB ["_law_names_here", "_law_cell"] ["_law_names_here", "_law_cell"] (Zc YU):=⟨rfl,rfl,rfl,by decide +kernel,rfl,by decide +kernel,by decide +kernel⟩
theorem XT:ZB ["_law_machines", "_law_fair_here", "_law_found", "e"] ["_law_machines", "_law_fair_here"] (Zc YS):=⟨rfl,rfl,rfl,by decide +kernel,rfl,by decide +kernel,by decide +kernel⟩
theorem ZY:ZB ["_law_specs", "_law_machines", "_law_fair_here", "_law_places", "_law_ways", "_law_found", "_law_world", "_law_k", "_law_signs", "_law_one", "_law_room", "_law_other", "_law_again"] ["_law_specs", "_law_machines", "_law_fair_here"] (Zc Yk):=⟨rfl,rfl,rfl,by decide +kernel,rfl,by decide +kernel,by decide +kernel⟩
theorem WF:ZB ["_law_script", "_law_names_here", "_law_teams", "_law_k", "_law_cell", "_law_most", "_law_specs", "_law_machines", "_law_fair_here"] ["_law_script"] (Zc Ww):=⟨rfl,rfl,rfl,by decide +kernel,rfl,by decide +kernel,by decide +kernel⟩
structure Adr where
 is_whole:Addr
 is_whole_fd:FuncData
 is_name:Addr
 is_name_fd:FuncData
 is_room:Addr
 is_room_fd:FuncData
 are_names:Addr
 are_names_fd:FuncData
 are_rooms:Addr
 are_rooms_fd:FuncData
 World_init:Addr
 World_init_fd:FuncData
 World_many:Addr
 World_many_fd:FuncData
 World_signs_of:Addr
 World_signs_of_fd:FuncData
 World_ways_on:Addr
 World_ways_on_fd:FuncData
 World_begins:Addr
 World_begins_fd:FuncData
 World_fair_signs:Addr
 World_fair_signs_fd:FuncData
 makes_world:Addr
 makes_world_fd:FuncData
 are_some_rooms:Addr
 are_some_rooms_fd:FuncData
 Machine_init:Addr
 Machine_init_fd:FuncData
 Machine_init_dt:Addr
 Machine_goes_to:Addr
 Machine_goes_to_fd:FuncData
 makes_machine:Addr
 makes_machine_fd:FuncData
 is_move:Addr
 is_move_fd:FuncData
 are_machines:Addr
 are_machines_fd:FuncData
 beside:Addr
 beside_fd:FuncData
 places_on:Addr
 places_on_fd:FuncData
 signs_at:Addr
 signs_at_fd:FuncData
 _law_cell_at:Addr
 _law_cell_at_fd:FuncData
 _law_stream:Addr
 _law_stream_fd:FuncData
 _law_names:Addr
 _law_names_fd:FuncData
 _law_machine:Addr
 _law_machine_fd:FuncData
 _law_built:Addr
 _law_built_fd:FuncData
 _law_rows:Addr
 _law_rows_fd:FuncData
 _law_beside:Addr
 _law_beside_fd:FuncData
 _law_fair:Addr
 _law_fair_fd:FuncData
 _law_told:Addr
 _law_told_fd:FuncData
 _law_right:Addr
 _law_right_fd:FuncData
 law:Addr
 law_fd:FuncData
 C_TimeError:Addr
 C_BadWorld:Addr
 C_BadMachine:Addr
 C_TooMany:Addr
 C_World:Addr
 C_Machine:Addr
 Pm:Params
structure Txt (K:PySem.W.Frag) (mg:Str→Option Value) (a:Adr):Prop where
 f_is_whole:Fun K "is_whole" "is_whole" Xb a.is_whole a.is_whole_fd
 n_is_whole:Yd K a.is_whole_fd ["thing"] []
 g_is_whole:mg "is_whole" = some (.ref a.is_whole)
 f_is_name:Fun K "is_name" "is_name" Xd a.is_name a.is_name_fd
 n_is_name:Yd K a.is_name_fd ["thing"] []
 g_is_name:mg "is_name" = some (.ref a.is_name)
 f_is_room:Fun K "is_room" "is_room" Xk a.is_room a.is_room_fd
 n_is_room:Yd K a.is_room_fd ["thing", "many"] []
 g_is_room:mg "is_room" = some (.ref a.is_room)
 f_are_names:Fun K "are_names" "are_names" YH a.are_names a.are_names_fd
 n_are_names:Yd K a.are_names_fd ["thing"] []
 g_are_names:mg "are_names" = some (.ref a.are_names)
 f_are_rooms:Fun K "are_rooms" "are_rooms" YI a.are_rooms a.are_rooms_fd
 n_are_rooms:Yd K a.are_rooms_fd ["thing", "many"] []
 g_are_rooms:mg "are_rooms" = some (.ref a.are_rooms)
 f_World_init:Fun K "__init__" "World.__init__" Yj a.World_init a.World_init_fd
 n_World_init:Yd K a.World_init_fd ["self", "signs", "ways", "starts", "fair"] []
 m_World_init:U6 K a.C_World "__init__" a.World_init
 f_World_many:Fun K "many" "World.many" YC a.World_many a.World_many_fd
 n_World_many:Yd K a.World_many_fd ["self"] []
 m_World_many:U6 K a.C_World "many" a.World_many
 f_World_signs_of:Fun K "signs_of" "World.signs_of" ZZ a.World_signs_of a.World_signs_of_fd
 n_World_signs_of:Yd K a.World_signs_of_fd ["self", "room"] []
 m_World_signs_of:U6 K a.C_World "signs_of" a.World_signs_of
 f_World_ways_on:Fun K "ways_on" "World.ways_on" Z7 a.World_ways_on a.World_ways_on_fd
 n_World_ways_on:Yd K a.World_ways_on_fd ["self", "room"] []
 m_World_ways_on:U6 K a.C_World "ways_on" a.World_ways_on
 f_World_begins:Fun K "begins" "World.begins" Ye a.World_begins a.World_begins_fd
 n_World_begins:Yd K a.World_begins_fd ["self"] []
 m_World_begins:U6 K a.C_World "begins" a.World_begins
 f_World_fair_signs:Fun K "fair_signs" "World.fair_signs" ZI a.World_fair_signs a.World_fair_signs_fd
 n_World_fair_signs:Yd K a.World_fair_signs_fd ["self"] []
 m_World_fair_signs:U6 K a.C_World "fair_signs" a.World_fair_signs
 f_makes_world:Fun K "makes_world" "makes_world" Z8 a.makes_world a.makes_world_fd
 n_makes_world:Yd K a.makes_world_fd ["signs", "ways", "starts", "fair"] []
 g_makes_world:mg "makes_world" = some (.ref a.makes_world)
 f_are_some_rooms:Fun K "are_some_rooms" "are_some_rooms" ZX a.are_some_rooms a.are_some_rooms_fd
 n_are_some_rooms:Yd K a.are_some_rooms_fd ["thing", "many"] []
 g_are_some_rooms:mg "are_some_rooms" = some (.ref a.are_some_rooms)
 f_Machine_init:FunD K "__init__" "Machine.__init__" ZQ a.Machine_init a.Machine_init_dt #[.none] a.Machine_init_fd
 d_Machine_init:Yd K a.Machine_init_fd ["self", "signs", "moves", "start", "words"] [.none]
 n_Machine_init:Yd K a.Machine_init_fd ["self", "signs", "moves", "start", "words"] []
 m_Machine_init:U6 K a.C_Machine "__init__" a.Machine_init
 f_Machine_goes_to:Fun K "goes_to" "Machine.goes_to" ZG a.Machine_goes_to a.Machine_goes_to_fd
 n_Machine_goes_to:Yd K a.Machine_goes_to_fd ["self", "room", "word"] []
 m_Machine_goes_to:U6 K a.C_Machine "goes_to" a.Machine_goes_to
 f_makes_machine:Fun K "makes_machine" "makes_machine" ZO a.makes_machine a.makes_machine_fd
 n_makes_machine:Yd K a.makes_machine_fd ["signs", "moves", "start", "words"] []
 g_makes_machine:mg "makes_machine" = some (.ref a.makes_machine)
 f_is_move:Fun K "is_move" "is_move" Xl a.is_move a.is_move_fd
 n_is_move:Yd K a.is_move_fd ["thing", "many"] []
 g_is_move:mg "is_move" = some (.ref a.is_move)
 f_are_machines:Fun K "are_machines" "are_machines" Z5 a.are_machines a.are_machines_fd
 n_are_machines:Yd K a.are_machines_fd ["thing"] []
 g_are_machines:mg "are_machines" = some (.ref a.are_machines)
 f_beside:Fun K "beside" "beside" Y8 a.beside a.beside_fd
 n_beside:Yd K a.beside_fd ["machines", "fair"] []
 g_beside:mg "beside" = some (.ref a.beside)
 f_places_on:Fun K "places_on" "places_on" Yw a.places_on a.places_on_fd
 n_places_on:Yd K a.places_on_fd ["machines", "words", "place"] []
 g_places_on:mg "places_on" = some (.ref a.places_on)
 f_signs_at:Fun K "signs_at" "signs_at" YW a.signs_at a.signs_at_fd
 n_signs_at:Yd K a.signs_at_fd ["machines", "place"] []
 g_signs_at:mg "signs_at" = some (.ref a.signs_at)
 f__law_cell_at:Fun K "_law_cell_at" "_law_cell_at" Yg a._law_cell_at a._law_cell_at_fd
 n__law_cell_at:Yd K a._law_cell_at_fd ["_law_script", "_law_k"] []
 g__law_cell_at:mg "_law_cell_at" = some (.ref a._law_cell_at)
 f__law_stream:Fun K "_law_stream" "_law_stream" Yn a._law_stream a._law_stream_fd
 n__law_stream:Yd K a._law_stream_fd ["_law_cell", "_law_many"] []
 g__law_stream:mg "_law_stream" = some (.ref a._law_stream)
 f__law_names:Fun K "_law_names" "_law_names" Yq a._law_names a._law_names_fd
 n__law_names:Yd K a._law_names_fd ["_law_cell"] []
 g__law_names:mg "_law_names" = some (.ref a._law_names)
 f__law_machine:Fun K "_law_machine" "_law_machine" Z3 a._law_machine a._law_machine_fd
 n__law_machine:Yd K a._law_machine_fd ["_law_names_here", "_law_cell", "_law_most"] []
 g__law_machine:mg "_law_machine" = some (.ref a._law_machine)
 f__law_built:Fun K "_law_built" "_law_built" Yp a._law_built a._law_built_fd
 n__law_built:Yd K a._law_built_fd ["_law_one"] []
 g__law_built:mg "_law_built" = some (.ref a._law_built)
 f__law_rows:Fun K "_law_rows" "_law_rows" Yl a._law_rows a._law_rows_fd
 n__law_rows:Yd K a._law_rows_fd ["_law_machines", "_law_place", "_law_word"] []
 g__law_rows:mg "_law_rows" = some (.ref a._law_rows)
 f__law_beside:Fun K "_law_beside" "_law_beside" Z6 a._law_beside a._law_beside_fd
 n__law_beside:Yd K a._law_beside_fd ["_law_machines"] []
 g__law_beside:mg "_law_beside" = some (.ref a._law_beside)
 f__law_fair:Fun K "_law_fair" "_law_fair" YU a._law_fair a._law_fair_fd
 n__law_fair:Yd K a._law_fair_fd ["_law_names_here", "_law_cell"] []
 g__law_fair:mg "_law_fair" = some (.ref a._law_fair)
 f__law_told:Fun K "_law_told" "_law_told" YS a._law_told a._law_told_fd
 n__law_told:Yd K a._law_told_fd ["_law_machines", "_law_fair_here"] []
 g__law_told:mg "_law_told" = some (.ref a._law_told)
 f__law_right:Fun K "_law_right" "_law_right" Yk a._law_right a._law_right_fd
 n__law_right:Yd K a._law_right_fd ["_law_specs", "_law_machines", "_law_fair_here"] []
 g__law_right:mg "_law_right" = some (.ref a._law_right)
 f_law:Fun K "law" "law" Ww a.law a.law_fd
 n_law:Yd K a.law_fd ["_law_script"] []
 g_law:mg "law" = some (.ref a.law)
 b_ValueError:mg "ValueError" = none
 b_all:mg "all" = none
 b_len:mg "len" = none
 b_sorted:mg "sorted" = none
 b_range:mg "range" = none
 b_zip:mg "zip" = none
 b_isinstance:mg "isinstance" = none
 b_int:mg "int" = none
 b_list:mg "list" = none
 b_tuple:mg "tuple" = none
 b_bool:mg "bool" = none
 b_str:mg "str" = none
 b_set:mg "set" = none
 b_any:mg "any" = none
 b_enumerate:mg "enumerate" = none
 c_LETTERS:∃ u,mg "LETTERS" = some u∧ZS (.str "abcdefghijklmnopqrstuvwxyz") u
 c_MOST_LETTERS:∃ u,mg "MOST_LETTERS" = some u∧ZS (.int 8) u
 c_MOST_ROOMS:∃ u,mg "MOST_ROOMS" = some u∧ZS (.int 20) u
 c_MOST_FAIR:∃ u,mg "MOST_FAIR" = some u∧ZS (.int 3) u
 c_MOST_MACHINE_ROOMS:∃ u,mg "MOST_MACHINE_ROOMS" = some u∧ZS (.int 6) u
 c_MOST_MACHINES:∃ u,mg "MOST_MACHINES" = some u∧ZS (.int 4) u
 g_TimeError:mg "TimeError" = some (.ref a.C_TimeError)
 x_TimeError:PySem.W.excIn K a.C_TimeError [.type "ValueError",.type "Exception",.type "BaseException",.type "object"] "ValueError.__new__" = true
 g_BadWorld:mg "BadWorld" = some (.ref a.C_BadWorld)
 x_BadWorld:PySem.W.excIn K a.C_BadWorld [.type "ValueError",.type "Exception",.type "BaseException",.type "object"] "ValueError.__new__" = true
 g_BadMachine:mg "BadMachine" = some (.ref a.C_BadMachine)
 x_BadMachine:PySem.W.excIn K a.C_BadMachine [.type "ValueError",.type "Exception",.type "BaseException",.type "object"] "ValueError.__new__" = true
 g_TooMany:mg "TooMany" = some (.ref a.C_TooMany)
 x_TooMany:PySem.W.excIn K a.C_TooMany [.type "ValueError",.type "Exception",.type "BaseException",.type "object"] "ValueError.__new__" = true
 k_BadWorld:ExcK K a.C_BadWorld
 k_TooMany:ExcK K a.C_TooMany
 ex_TooMany:PySem.W.exmOne K (.ref a.C_TooMany) (.ref a.C_TooMany)=some true
 i1_TooMany:PySem.W.kitOne K (.ref a.C_TooMany) (.ref a.C_TimeError)=some true
 i3_TooMany:PySem.W.kitOne K (.ref a.C_TooMany) (.type "ValueError")=some true
 n2_TooMany:PySem.W.kitAny K (.ref a.C_TooMany) [.ref a.C_BadMachine,.ref a.C_BadWorld]=some false
 cl_World:Cls K a.C_World
 g_World:mg "World" = some (.ref a.C_World)
 mk_World:Mk K a.C_World a.World_init
 ic_World:PySem.W.kitOne K (.ref a.C_World) (.ref a.C_World)=some true
 t1_World:PySem.W.findIn K (.ref a.C_World) "__class__" = some (some (.builtin "object.__class__"))
 t2_World:PySem.W.specialIn K (.builtin "object.__class__") "__get__" = some (some (.builtin "getset_descriptor.__get__"))
 t3_World:PySem.W.takesIn K (.builtin "object.__class__")=some true
 t4_World:PySem.W.mroIn K a.C_World (.type "object")=some true
 na_World_room_signs:XR K a.C_World "room_signs"
 na_World_room_ways:XR K a.C_World "room_ways"
 na_World_start_rooms:XR K a.C_World "start_rooms"
 na_World_fair_names:XR K a.C_World "fair_names"
 cl_Machine:Cls K a.C_Machine
 g_Machine:mg "Machine" = some (.ref a.C_Machine)
 mk_Machine:Mk K a.C_Machine a.Machine_init
 ic_Machine:PySem.W.kitOne K (.ref a.C_Machine) (.ref a.C_Machine)=some true
 t1_Machine:PySem.W.findIn K (.ref a.C_Machine) "__class__" = some (some (.builtin "object.__class__"))
 t2_Machine:PySem.W.specialIn K (.builtin "object.__class__") "__get__" = some (some (.builtin "getset_descriptor.__get__"))
 t3_Machine:PySem.W.takesIn K (.builtin "object.__class__")=some true
 t4_Machine:PySem.W.mroIn K a.C_Machine (.type "object")=some true
 na_Machine_room_signs:XR K a.C_Machine "room_signs"
 na_Machine_moves:XR K a.C_Machine "moves"
 na_Machine_start:XR K a.C_Machine "start"
 na_Machine_words:XR K a.C_Machine "words"
def xY (K:PySem.W.Frag) (a:Adr):Sp:=fun vs H Q _=>∃ x,vs=[x]∧Kd H x∧Q (.bl (isIntV x)) H
theorem vq {P:Program}{w:World}{K:PySem.W.Frag}{mg:Str→Option Value}{base:Heap}{a:Adr} (T:Txt K mg a) (hw:w.params=a.Pm):Yy P w K mg base CX0 1 a.is_whole a.is_whole_fd ["thing"] (xY K a):=by
 refine T.f_is_whole.ok xK (fun vs H Q E h=>?_) (fun cdv A outer s H vs Q E hr h=>?_)
 ·obtain ⟨x,rfl,_⟩:=h
  rfl
 ·obtain ⟨x,rfl,hk,k⟩:=h
  refine ⟨_,(@Zh _ _ _ (@Zx _ _ _ _ (Wl (Zk (Xj (K:=K) rfl "int") rfl T.b_isinstance PyProof.Rows.Boot.«isinstance» (@Za _ _ _ _ _ (pv 0) (@Za _ _ _ _ _ (Xp (v:=.ty "int") rfl T.b_int PyProof.Rows.Boot.«int» rfl) Zb (by rfl)) (by rfl))) (XF (pe_not (Zk (Xj (K:=K) rfl "bool") rfl T.b_isinstance PyProof.Rows.Boot.«isinstance» (@Za _ _ _ _ _ (pv 0) (@Za _ _ _ _ _ (Xp (v:=.ty "bool") rfl T.b_bool PyProof.Rows.Boot.«bool» rfl) Zb (by rfl)) (by rfl)))))))),?_⟩
  cases hb:Xr H "int" x with
  | false=>
   obtain ⟨t,h1,h2⟩:=XY K (by simp) hk hb
   have e:isIntV x=false:=by cases hk <;> first | rfl | (simp [Xr] at hb)
   rw [e] at k
   exact ⟨_,rfl,_,t,_,rfl,h1,h2,_,rfl,Yz k⟩
  | true=>
   obtain ⟨t,h1,h2⟩:=XY K (by simp) hk hb
   obtain ⟨u,h3,h4⟩:=XY K (T := "bool") (by simp) hk rfl
   have e:isIntV x = !Xr H "bool" x:=by
    cases hk with
    | lst e=>simp [Xr,e] at hb
    | tup e=>simp [Xr,e] at hb
    | dK e=>simp [Xr,e] at hb
    | non=>simp [Xr] at hb
    | str z hz=>simp [Xr] at hb
    | bl b=>rfl
    | int i=>rfl
   rw [e] at k
   exact ⟨_,rfl,_,t,_,rfl,h1,h2,_,rfl,Yh ⟨_,rfl,_,u,_,rfl,h3,h4,_,rfl,k⟩⟩
def jq (K:PySem.W.Frag) (a:Adr):Sp:=fun vs H Q _=>∃ x,vs=[x]∧Kd H x∧∀ H',Zj H H'→Q (.bl (YZ x)) H'
theorem qS {P:Program}{w:World}{K:PySem.W.Frag}{mg:Str→Option Value}{base:Heap}{a:Adr} (T:Txt K mg a) (hw:w.params=a.Pm):Yy P w K mg base CX0 1 a.is_name a.is_name_fd ["thing"] (jq K a):=by
 refine T.f_is_name.ok jm (fun vs H Q E h=>?_) (fun cdv A outer s H vs Q E hr h=>?_)
 ·obtain ⟨x,rfl,_⟩:=h
  rfl
 ·obtain ⟨x,rfl,hk,k⟩:=h
  refine ⟨_,(@Ze _ _ _ _ _ (@YF _ _ _ _ _ _ _ _ (PW.pt (Wt (@YM _ _ _ _ (Xa (Zk (Xj (K:=K) rfl "str") rfl T.b_isinstance PyProof.Rows.Boot.«isinstance» (@Za _ _ _ _ _ (pv 0) (@Za _ _ _ _ _ (Xp (v:=.ty "str") rfl T.b_str PyProof.Rows.Boot.«str» rfl) Zb (by rfl)) (by rfl))))) (Wn (@YM _ _ _ _ (V4 VH VH Zg (Zk (Zv (K:=K) rfl) rfl T.b_len PyProof.Rows.Boot.«len» (@Za _ _ _ _ _ (pv 0) Zb (by rfl))) (W9 rfl T.c_MOST_LETTERS)))))) (@Zh _ _ _ (@Zx _ _ _ _ Xz)) ZL) (@Zh _ _ _ (@Zx _ _ _ _ (Zk (XM (K:=K) rfl rfl) rfl T.b_all PyProof.Rows.Boot.«all» (@Za _ _ _ _ _ (ZV (Nc:=["letter"]) (ix:=[none]) (ZD.of (by decide +kernel:ZK (Zc Xd) ["thing"] ["letter"] [none] _=true)) rfl (pi_str (pv 0)) (fun _ _ _ _ _=>(Zm (i:=0) (show List.Nodup (["letter"]:List Str) by decide +kernel) rfl (Or.inl rfl))) (fun _ _ _ _ _=>ZT) (fun _ _ _ _ _=>(@XQ _ _ _ _ _ _ _ _ op_in_str (pv 0) (W9 rfl T.c_LETTERS) (by with_unfolding_all rfl)))) Zb (by rfl)))))),?_⟩
  rcases kd_str hk with ⟨hb,z,rfl,hz⟩ | ⟨hb,e⟩
  ·obtain ⟨t,h1,h2⟩:=XY K (by simp) hk hb
   refine ⟨_,rfl,_,t,_,rfl,h1,h2,_,rfl,Yz ?_⟩
   refine ⟨_,rfl,.inr (.inl ⟨z,rfl,by rw [sizeLine_eq];omega,_,_,rfl,rfl,_,rfl,?_⟩)⟩
   have fin:decide (1≤(z.length:Int))=true→decide ((z.length:Int)≤8)=true→YZ (.str z)=z.cps.toList.all US:=fun a b=>by
    have a':=of_decide_eq_true a
    have b':=of_decide_eq_true b
    have a2:1≤z.length:=by omega
    have b2:z.length≤8:=by omega
    simp [YZ,Zw,a2,b2]
   have nof:¬ ((1:Int)≤z.length∧(z.length:Int)≤8)→YZ (.str z)=false:=fun q=>by
    have:¬ (1≤z.length∧z.length≤8):=by omega
    simp only [YZ,Zw]
    by_cases h1:1≤z.length
    ·have h2:¬ z.length≤8:=fun h2=>this ⟨h1,h2⟩
     simp [h1,h2]
    ·simp [h1]
   refine Wm (fun c1=>?_) (fun c1=>?_)
   ·refine ⟨_,_,rfl,rfl,_,rfl,?_⟩
    cases c2:decide ((z.length:Int)≤8) with
    | false=>
     refine Yh ?_
     have q:=k H (.refl H)
     rw [nof (fun q=>by have:=of_decide_eq_false c2;omega)] at q
     exact q
    | true=>
     refine Yz ⟨_,rfl,z,rfl,fun D hD=>?_⟩
     refine Xw (J:=Its z) (n:=z.cps.size) (fun i σ H'=>Zj H H'∧H' D=some (.lst ((z.cps.toList.take i).map fun c=>V.bl (US c)))∧∃ y,σ=[y]) ?_ (fun i σ H' hi _=>hi) (fun σ H' _=>Nat.le_refl _) ?_ ?_
     ·exact ⟨Zf hD,Zd,_,rfl⟩
     ·rintro i x σ H' H2 hi ⟨sm,hl,y,rfl⟩ ⟨rfl,c,hc,rfl⟩ N N0 hN hN0
      refine ⟨_,rfl,_,_,rfl,rfl,?_⟩
      have el:=PySem.StrLaws.found_one ("abcdefghijklmnopqrstuvwxyz" : Str) c
      refine hN _ _ _ _ hl (by rw [List.length_map,List.length_take,sizeLine_eq];have:z.cps.size=z.length:=rfl;omega) ⟨(Zy.upd (Zj.x sm)).same hD,?_,_,rfl⟩
      have hc':z.cps.toList[i]?=some c:=by rw [Array.getElem?_toList];exact hc
      rw [Zd,List.take_add_one,hc',List.map_append]
      refine congrArg (fun b=>some (HO.lst (_++[V.bl b]))) ?_
      rw [← vb]
      exact el
     ·rintro σ H' ⟨sm,hl,y,rfl⟩
      have et:z.cps.toList.take z.cps.size=z.cps.toList:=by rw [← Array.length_toList];exact List.take_length
      rw [et] at hl
      have q:=k H' sm
      rw [fin c1 c2,← Vh] at q
      exact ⟨D,z.cps.toList.map US,rfl,SqL.of (by rw [hl,List.map_map];rfl),q⟩
   ·refine ⟨_,rfl,Yh ?_⟩
    have q:=k H (.refl H)
    rw [nof (fun q=>c1 (decide_eq_true q.1))] at q
    exact q
  ·obtain ⟨t,h1,h2⟩:=XY K (by simp) hk hb
   have q:=k H (.refl H)
   rw [e] at q
   exact ⟨_,rfl,_,t,_,rfl,h1,h2,_,rfl,Yh (Yh q)⟩
def jE (K:PySem.W.Frag) (a:Adr):Sp:=fun vs H Q _=>∃ x n,vs=[x,.int n]∧Kd H x∧Q (.bl (Ya n x)) H
theorem VP {P:Program}{w:World}{K:PySem.W.Frag}{mg:Str→Option Value}{base:Heap}{a:Adr} (T:Txt K mg a) (hw:w.params=a.Pm):Yy P w K mg base CX0 2 a.is_room a.is_room_fd ["thing", "many"] (jE K a):=by
 have G_is_whole:=vq (P:=P) (w:=w) (base:=base) T hw
 refine T.f_is_room.ok jg (fun vs H Q E h=>?_) (fun cdv A outer s H vs Q E hr h=>?_)
 ·obtain ⟨x,n,rfl,_⟩:=h
  rfl
 ·obtain ⟨x,n,rfl,hk,k⟩:=h
  refine ⟨_,(@Zh _ _ _ (@Zx _ _ _ _ (Wl (ZA G_is_whole (hr.mono (by decide)) rfl T.g_is_whole T.f_is_whole.kp T.n_is_whole .nil Z4 (@Za _ _ _ _ _ (pv 0) Zb (by rfl))) (XF (pe_chain VH zR Zg (pv 0) (pv 1)))))),?_⟩
  refine ⟨_,rfl,x,rfl,hk,_,rfl,?_⟩
  cases x with
  | int i=>
   refine Yh ⟨_,rfl,_,_,rfl,rfl,_,rfl,?_⟩
   cases c1:decide (0≤i) with
   | true=>
    refine Yh ⟨_,rfl,_,_,rfl,rfl,?_⟩
    have e:Ya n (.int i)=decide (i<n):=by simp only [Ya,c1,Bool.true_and]
    rw [e] at k
    exact k
   | false=>
    have e:Ya n (.int i)=false:=by simp only [Ya,c1,Bool.false_and]
    rw [e] at k
    exact Yz k
  | _=>exact Yz k
def yY (K:PySem.W.Frag) (a:Adr):Sp:=fun vs H Q _=>∃ x,vs=[x]∧KdL H x∧∀ H',Zj H H'→Q (.bl (Zu H x)) H'
theorem V9 {P:Program}{w:World}{K:PySem.W.Frag}{mg:Str→Option Value}{base:Heap}{a:Adr} (T:Txt K mg a) (hw:w.params=a.Pm):Yy P w K mg base CX0 2 a.are_names a.are_names_fd ["thing"] (yY K a):=by
 have G_is_name:=qS (P:=P) (w:=w) (base:=base) T hw
 refine T.f_are_names.ok yU (fun vs H Q E h=>?_) (fun cdv A outer s H vs Q E hr h=>?_)
 ·obtain ⟨x,rfl,_⟩:=h
  rfl
 ·obtain ⟨x,rfl,hk,k⟩:=h
  refine ⟨_,(@Ze _ _ _ _ _ (@YF _ _ _ _ _ _ _ _ (PW.pt (Wt (@YM _ _ _ _ (Xa (Zk (Xj (K:=K) rfl "list") rfl T.b_isinstance PyProof.Rows.Boot.«isinstance» (@Za _ _ _ _ _ (pv 0) (@Za _ _ _ _ _ (Xp (v:=.ty "list") rfl T.b_list PyProof.Rows.Boot.«list» rfl) Zb (by rfl)) (by rfl))))) (Wn (@YM _ _ _ _ (Xa (Zk (XM (K:=K) rfl rfl) rfl T.b_all PyProof.Rows.Boot.«all» (@Za _ _ _ _ _ (ZV (Nc:=["name"]) (ix:=[none]) (ZD.of (by decide +kernel:ZK (Zc YH) ["thing"] ["name"] [none] _=true)) rfl (Zq (K:=K) rfl (pv 0)) (fun _ _ _ _ _=>(Zm (i:=0) (show List.Nodup (["name"]:List Str) by decide +kernel) rfl (Or.inl rfl))) (fun _ _ _ _ _=>ZT) (fun _ _ _ _ _=>(ZA G_is_name (hr.mono (by decide)) rfl T.g_is_name T.f_is_name.kp T.n_is_name .nil Z4 (@Za _ _ _ _ _ (pv 0) Zb (by rfl))))) Zb (by rfl)))))))) (@Zh _ _ _ (@Zx _ _ _ _ Xz)) ZL) (@Zh _ _ _ (@Zx _ _ _ _ (@XQ _ _ _ _ _ _ _ _ VG (Zk (Zv (K:=K) rfl) rfl T.b_len PyProof.Rows.Boot.«len» (@Za _ _ _ _ _ (Zr (yw (K:=K) rfl rfl) rfl T.b_set PyProof.Rows.Boot.«set» (@Za _ _ _ _ _ (pv 0) Zb (by rfl))) Zb (by rfl))) (Zk (Zv (K:=K) rfl) rfl T.b_len PyProof.Rows.Boot.«len» (@Za _ _ _ _ _ (pv 0) Zb (by rfl))) (ZW _))))),?_⟩
  rcases WB hk.1 with ⟨hb,p,xs,rfl,hp,hl⟩ | ⟨hb,e⟩
  ·obtain ⟨t,h1,h2⟩:=XY K (by simp) hk.1 hb
   obtain ⟨hz,hy⟩:=hk.2 xs hl
   have hS:xs.length≤sizeLine:=by rw [sizeLine_eq];omega
   have ev:Zu H (.ref p)=(xs.all YZ && decide xs.Nodup):=by unfold Zu;rw [hl]
   rw [ev] at k
   refine ⟨_,rfl,_,t,_,rfl,h1,h2,_,rfl,Yz ?_⟩
   refine ⟨_,rfl,p,rfl,⟨xs,SqL.of hp⟩,fun D hD=>?_⟩
   refine Yc (K:=K) hD (SqL.of hp) hS (fun i v _=>∀ x,xs[i]?=some x→v=.bl (YZ x)) (fun _ _ _ _ _ q=>q) ?_ ?_
   ·intro i x H2 N hx sm hN
    refine ⟨_,rfl,x,rfl,(hy x (List.mem_of_getElem? hx)).mono sm,fun H3 s3=>hN _ _ s3 fun x' hx'=>?_⟩
    rw [hx] at hx';cases hx';rfl
   ·intro H2 ys hD2 sm hlen hr
    have ey:=Xi (f:=YZ) hlen fun i v x h1 h2=>hr i v h1 x h2
    refine ⟨D,_,rfl,SqL.of (by rw [hD2,ey]),_,rfl,?_⟩
    rw [Vh]
    cases hall:xs.all YZ with
    | false=>
     rw [hall] at k
     exact Yh (k H2 sm)
    | true=>
     rw [hall] at k
     obtain ⟨ks,rfl⟩:=zi hall
     rw [List.length_map] at hz
     refine Yz ⟨_,rfl,p,ks,rfl,SqL.of (sm _ _ hp),by omega,fun n c a1 a2 hc=>?_⟩
     have s3:Zj H (upd H2 c (SetN c n)):=sm.trans (Zf hc)
     refine .inr (.inr ⟨c,n,rfl,Zd,by omega,_,rfl,.inl ⟨p,_,rfl,.inl (SqL.of (s3 _ _ hp)),rfl,?_⟩⟩)
     rw [dec_len rfl a2]
     exact k _ s3
  ·obtain ⟨t,h1,h2⟩:=XY K (by simp) hk.1 hb
   have q:=k H (.refl H)
   have e2:Zu H x=false:=by unfold Zu;rw [e]
   rw [e2] at q
   exact ⟨_,rfl,_,t,_,rfl,h1,h2,_,rfl,Yh (Yh q)⟩
def yS (K:PySem.W.Frag) (a:Adr):Sp:=fun vs H Q _=>∃ x n,vs=[x,.int n]∧KdL H x∧∀ H',Zj H H'→Q (.bl (XO H n x)) H'
theorem yT {P:Program}{w:World}{K:PySem.W.Frag}{mg:Str→Option Value}{base:Heap}{a:Adr} (T:Txt K mg a) (hw:w.params=a.Pm):Yy P w K mg base CX0 3 a.are_rooms a.are_rooms_fd ["thing", "many"] (yS K a):=by
 have G_is_room:=VP (P:=P) (w:=w) (base:=base) T hw
 refine T.f_are_rooms.ok yP (fun vs H Q E h=>?_) (fun cdv A outer s H vs Q E hr h=>?_)
 ·obtain ⟨x,n,rfl,_⟩:=h
  rfl
 ·obtain ⟨x,n,rfl,hk,k⟩:=h
  refine ⟨_,(@Zh _ _ _ (@Zx _ _ _ _ (Wl (Zk (Xj (K:=K) rfl "list") rfl T.b_isinstance PyProof.Rows.Boot.«isinstance» (@Za _ _ _ _ _ (pv 0) (@Za _ _ _ _ _ (Xp (v:=.ty "list") rfl T.b_list PyProof.Rows.Boot.«list» rfl) Zb (by rfl)) (by rfl))) (XF (Zk (XM (K:=K) rfl rfl) rfl T.b_all PyProof.Rows.Boot.«all» (@Za _ _ _ _ _ (ZV (Nc:=["room", "many"]) (ix:=[none,some 1]) (ZD.of (by decide +kernel:ZK (Zc YI) ["thing", "many"] ["room", "many"] [none,some 1] _=true)) rfl (Zq (K:=K) rfl (pv 0)) (fun _ _ _ _ _=>(Zm (i:=0) (show List.Nodup (["room", "many"]:List Str) by decide +kernel) rfl (Or.inl rfl))) (fun _ _ _ _ _=>ZT) (fun _ _ _ _ _=>(ZA G_is_room (hr.mono (by decide)) rfl T.g_is_room T.f_is_room.kp T.n_is_room .nil Z4 (@Za _ _ _ _ _ (pv 0) (@Za _ _ _ _ _ (pv 1) Zb (by rfl)) (by rfl))))) Zb (by rfl))))))),?_⟩
  rcases WB hk.1 with ⟨hb,p,xs,rfl,hp,hl⟩ | ⟨hb,e⟩
  ·obtain ⟨t,h1,h2⟩:=XY K (by simp) hk.1 hb
   obtain ⟨hz,hy⟩:=hk.2 xs hl
   have hS:xs.length≤sizeLine:=by rw [sizeLine_eq];omega
   have ev:XO H n (.ref p)=xs.all (Ya n):=by unfold XO;rw [hl]
   rw [ev] at k
   refine ⟨_,rfl,_,t,_,rfl,h1,h2,_,rfl,Yh ?_⟩
   refine ⟨_,rfl,p,rfl,⟨xs,SqL.of hp⟩,fun D hD=>?_⟩
   refine Yc (K:=K) hD (SqL.of hp) hS (fun i v _=>∀ x,xs[i]?=some x→v=.bl (Ya n x)) (fun _ _ _ _ _ q=>q) ?_ ?_
   ·intro i x H2 N hx sm hN
    refine ⟨_,rfl,_,rfl,x,n,rfl,(hy x (List.mem_of_getElem? hx)).mono sm,hN _ _ (.refl _) fun x' hx'=>?_⟩
    rw [hx] at hx';cases hx';rfl
   ·intro H2 ys hD2 sm hlen hr
    have ey:=Xi (f:=Ya n) hlen fun i v x h1 h2=>hr i v h1 x h2
    refine ⟨D,_,rfl,SqL.of (by rw [hD2,ey]),?_⟩
    rw [Vh]
    exact k H2 sm
  ·obtain ⟨t,h1,h2⟩:=XY K (by simp) hk.1 hb
   have q:=k H (.refl H)
   have e2:XO H n x=false:=by unfold XO;rw [e]
   rw [e2] at q
   exact ⟨_,rfl,_,t,_,rfl,h1,h2,_,rfl,Yz q⟩
def Ua (K:PySem.W.Frag) (a:Adr):Sp:=fun vs H Q _=>∃ x n,vs=[x,.int n]∧KdL H x∧∀ H',Zj H H'→Q (.bl (Yb H n x)) H'
theorem Uj {P:Program}{w:World}{K:PySem.W.Frag}{mg:Str→Option Value}{base:Heap}{a:Adr} (T:Txt K mg a) (hw:w.params=a.Pm):Yy P w K mg base CX0 4 a.are_some_rooms a.are_some_rooms_fd ["thing", "many"] (Ua K a):=by
 have G_are_rooms:=yT (P:=P) (w:=w) (base:=base) T hw
 refine T.f_are_some_rooms.ok V2 (fun vs H Q E h=>?_) (fun cdv A outer s H vs Q E hr h=>?_)
 ·obtain ⟨x,n,rfl,_⟩:=h
  rfl
 ·obtain ⟨x,n,rfl,hk,k⟩:=h
  refine ⟨_,(@Ze _ _ _ _ _ (@YF _ _ _ _ _ _ _ _ (PW.pt (Wt (@YM _ _ _ _ (Xa (ZA G_are_rooms (hr.mono (by decide)) rfl T.g_are_rooms T.f_are_rooms.kp T.n_are_rooms .nil Z4 (@Za _ _ _ _ _ (pv 0) (@Za _ _ _ _ _ (pv 1) Zb (by rfl)) (by rfl))))) (Wn (@ZJ _ _ _ _ _ _ _ _ VG (Zk (Zv (K:=K) rfl) rfl T.b_len PyProof.Rows.Boot.«len» (@Za _ _ _ _ _ (pv 0) Zb (by rfl))) Zg (ZW _))))) (@Zh _ _ _ (@Zx _ _ _ _ Xz)) ZL) (@Zh _ _ _ (@Zx _ _ _ _ (@XQ _ _ _ _ _ _ _ _ VG (Zk (Zv (K:=K) rfl) rfl T.b_len PyProof.Rows.Boot.«len» (@Za _ _ _ _ _ (Zr (yw (K:=K) rfl rfl) rfl T.b_set PyProof.Rows.Boot.«set» (@Za _ _ _ _ _ (pv 0) Zb (by rfl))) Zb (by rfl))) (Zk (Zv (K:=K) rfl) rfl T.b_len PyProof.Rows.Boot.«len» (@Za _ _ _ _ _ (pv 0) Zb (by rfl))) (ZW _))))),?_⟩
  refine ⟨_,rfl,_,rfl,x,n,rfl,hk,fun H1 s1=>⟨_,rfl,?_⟩⟩
  rcases WB hk.1 with ⟨hb,p,xs,rfl,hp,hl⟩ | ⟨hb,e⟩
  ·obtain ⟨hz,hy⟩:=hk.2 xs hl
   have ev:XO H n (.ref p)=xs.all (Ya n):=by unfold XO;rw [hl]
   have ew:Yb H n (.ref p)=(xs.all (Ya n) && !xs.isEmpty && decide xs.Nodup):=by unfold Yb;rw [hl]
   rw [ew] at k
   rw [ev]
   cases hall:xs.all (Ya n) with
   | false=>
    rw [hall] at k
    exact Yh (Yh (k H1 s1))
   | true=>
    rw [hall] at k
    refine Yz ⟨_,rfl,.inl ⟨p,xs,rfl,.inl (SqL.of (s1 _ _ hp)),rfl,_,rfl,?_⟩⟩
    cases xs with
    | nil=>
     exact Yh (k H1 s1)
    | cons y r=>
     have e0:decide (V.int (((y :: r).length:Nat):Int)=V.int 0)=false:=by
      refine decide_eq_false fun q=>?_
      have q':=V.int.inj q
      rw [List.length_cons] at q'
      omega
     rw [e0]
     obtain ⟨ks,eks⟩:=qo hall
     rw [eks] at hp k hz
     rw [List.length_map] at hz
     refine Yz ⟨_,rfl,p,ks,rfl,SqL.of (s1 _ _ hp),by omega,fun m c a1 a2 hc=>?_⟩
     have s3:Zj H (upd H1 c (SetN c m)):=s1.trans (Zf hc)
     refine .inr (.inr ⟨c,m,rfl,Zd,by omega,_,rfl,.inl ⟨p,_,rfl,.inl (SqL.of (s3 _ _ hp)),rfl,?_⟩⟩)
     rw [dec_len rfl a2]
     have q:=k _ s3
     have ne:(!(ks.map kV).isEmpty)=true:=by rw [← eks];rfl
     rw [ne] at q
     exact q
  ·have ev:XO H n x=false:=by unfold XO;rw [e]
   have ew:Yb H n x=false:=by unfold Yb;rw [e]
   rw [ew] at k
   rw [ev]
   exact Yh (Yh (k H1 s1))
def qY (K:PySem.W.Frag) (a:Adr):Sp:=fun vs H Q _=>∃ x y z u,vs=[x,y,z,u]∧KdLL H x∧KdLL H y∧KdL H z∧KdL H u∧∀ H',Zj H H'→Q (.bl (Wx H x y z u)) H'
theorem Vn {P:Program}{w:World}{K:PySem.W.Frag}{mg:Str→Option Value}{base:Heap}{a:Adr} (T:Txt K mg a) (hw:w.params=a.Pm):Yy P w K mg base CX0 5 a.makes_world a.makes_world_fd ["signs", "ways", "starts", "fair"] (qY K a):=by
 have G_are_names:=V9 (P:=P) (w:=w) (base:=base) T hw
 have G_are_some_rooms:=Uj (P:=P) (w:=w) (base:=base) T hw
 refine T.f_makes_world.ok Vr (fun vs H Q E h=>?_) (fun cdv A outer s H vs Q E hr h=>?_)
 ·obtain ⟨x,y,z,u,rfl,_⟩:=h
  rfl
 ·obtain ⟨x,y,z,u,rfl,kx,ky,kz,ku,k⟩:=h
  refine ⟨_,(@Ze _ _ _ _ _ (@YF _ _ _ _ _ _ _ _ (PW.pt (Wt (@YM _ _ _ _ (Xa (Zk (Xj (K:=K) rfl "list") rfl T.b_isinstance PyProof.Rows.Boot.«isinstance» (@Za _ _ _ _ _ (pv 0) (@Za _ _ _ _ _ (Xp (v:=.ty "list") rfl T.b_list PyProof.Rows.Boot.«list» rfl) Zb (by rfl)) (by rfl))))) (Wn (@YM _ _ _ _ (Xa (Zk (Xj (K:=K) rfl "list") rfl T.b_isinstance PyProof.Rows.Boot.«isinstance» (@Za _ _ _ _ _ (pv 1) (@Za _ _ _ _ _ (Xp (v:=.ty "list") rfl T.b_list PyProof.Rows.Boot.«list» rfl) Zb (by rfl)) (by rfl)))))))) (@Zh _ _ _ (@Zx _ _ _ _ Xz)) ZL) (@Ze _ _ _ _ _ (@Zt _ _ (4) _ _ _ _ Vr.nd rfl (Or.inr rfl) (Zk (Zv (K:=K) rfl) rfl T.b_len PyProof.Rows.Boot.«len» (@Za _ _ _ _ _ (pv 0) Zb (by rfl))) (by rfl) (by first | exact .inl rfl | exact .inr rfl | assumption)) (@Ze _ _ _ _ _ (@YF _ _ _ _ _ _ _ _ (PW.pt (Wt (@YM _ _ _ _ (V4 VH VH Zg (pv 4) (W9 rfl T.c_MOST_ROOMS))) (Wn (@ZJ _ _ _ _ _ _ _ _ op_ne (Zk (Zv (K:=K) rfl) rfl T.b_len PyProof.Rows.Boot.«len» (@Za _ _ _ _ _ (pv 1) Zb (by rfl))) (pv 4) (ZW _))))) (@Zh _ _ _ (@Zx _ _ _ _ Xz)) ZL) (@Ze _ _ _ _ _ (@YF _ _ _ _ _ _ _ _ (@YM _ _ _ _ (Xa (Zk (XM (K:=K) rfl rfl) rfl T.b_all PyProof.Rows.Boot.«all» (@Za _ _ _ _ _ (ZV (Nc:=["names"]) (ix:=[none]) (ZD.of (by decide +kernel:ZK (Zc Z8) ["signs", "ways", "starts", "fair", "many"] ["names"] [none] _=true)) rfl (Zq (K:=K) rfl (pv 0)) (fun _ _ _ _ _=>(Zm (i:=0) (show List.Nodup (["names"]:List Str) by decide +kernel) rfl (Or.inl rfl))) (fun _ _ _ _ _=>ZT) (fun _ _ _ _ _=>(ZA G_are_names (hr.mono (by decide)) rfl T.g_are_names T.f_are_names.kp T.n_are_names .nil Z4 (@Za _ _ _ _ _ (pv 0) Zb (by rfl))))) Zb (by rfl))))) (@Zh _ _ _ (@Zx _ _ _ _ Xz)) ZL) (@Ze _ _ _ _ _ (@YF _ _ _ _ _ _ _ _ (@YM _ _ _ _ (Xa (Zk (XM (K:=K) rfl rfl) rfl T.b_all PyProof.Rows.Boot.«all» (@Za _ _ _ _ _ (ZV (Nc:=["rooms", "many"]) (ix:=[none,some 4]) (ZD.of (by decide +kernel:ZK (Zc Z8) ["signs", "ways", "starts", "fair", "many"] ["rooms", "many"] [none,some 4] _=true)) rfl (Zq (K:=K) rfl (pv 1)) (fun _ _ _ _ _=>(Zm (i:=0) (show List.Nodup (["rooms", "many"]:List Str) by decide +kernel) rfl (Or.inl rfl))) (fun _ _ _ _ _=>ZT) (fun _ _ _ _ _=>(ZA G_are_some_rooms (hr.mono (by decide)) rfl T.g_are_some_rooms T.f_are_some_rooms.kp T.n_are_some_rooms .nil Z4 (@Za _ _ _ _ _ (pv 0) (@Za _ _ _ _ _ (pv 1) Zb (by rfl)) (by rfl))))) Zb (by rfl))))) (@Zh _ _ _ (@Zx _ _ _ _ Xz)) ZL) (@Zh _ _ _ (@Zx _ _ _ _ (Wl (ZA G_are_some_rooms (hr.mono (by decide)) rfl T.g_are_some_rooms T.f_are_some_rooms.kp T.n_are_some_rooms .nil Z4 (@Za _ _ _ _ _ (pv 2) (@Za _ _ _ _ _ (pv 4) Zb (by rfl)) (by rfl))) (Wl (ZA G_are_names (hr.mono (by decide)) rfl T.g_are_names T.f_are_names.kp T.n_are_names .nil Z4 (@Za _ _ _ _ _ (pv 3) Zb (by rfl))) (XF (@XQ _ _ _ _ _ _ _ _ VH (Zk (Zv (K:=K) rfl) rfl T.b_len PyProof.Rows.Boot.«len» (@Za _ _ _ _ _ (pv 3) Zb (by rfl))) (W9 rfl T.c_MOST_FAIR) (ZW _)))))))))))),?_⟩
  rcases WB kx.1 with ⟨hb,p,xs,rfl,hp,hl⟩ | ⟨hb,e⟩
  case inr=>
   obtain ⟨t,h1,h2⟩:=XY K (by simp) kx.1 hb
   have q:=k H (.refl H)
   have e2:Wx H x y z u=false:=by unfold Wx;rw [e]
   rw [e2] at q
   exact ⟨_,rfl,_,t,_,rfl,h1,h2,_,rfl,Yh (Yh q)⟩
  obtain ⟨t,h1,h2⟩:=XY K (by simp) kx.1 hb
  refine ⟨_,rfl,_,t,_,rfl,h1,h2,_,rfl,Yz ?_⟩
  rcases WB ky.1 with ⟨hb2,p2,ys,rfl,hp2,hl2⟩ | ⟨hb2,e⟩
  case inr=>
   obtain ⟨t,h1,h2⟩:=XY K (by simp) ky.1 hb2
   have q:=k H (.refl H)
   have e2:Wx H (.ref p) y z u=false:=by unfold Wx;rw [hl,e]
   rw [e2] at q
   exact ⟨_,rfl,_,t,_,rfl,h1,h2,_,rfl,Yh q⟩
  obtain ⟨t2,h3,h4⟩:=XY K (by simp) ky.1 hb2
  refine ⟨_,rfl,_,t2,_,rfl,h3,h4,_,rfl,Yz ?_⟩
  obtain ⟨hz,hy⟩:=kx.2 xs hl
  obtain ⟨hz2,hy2⟩:=ky.2 ys hl2
  have hS:xs.length≤sizeLine:=by rw [sizeLine_eq];omega
  have hS2:ys.length≤sizeLine:=by rw [sizeLine_eq];omega
  have ev:Wx H (.ref p) (.ref p2) z u=(decide (1≤xs.length) && decide (xs.length≤20) && decide (ys.length=xs.length) && xs.all (Zu H) && ys.all (Yb H xs.length) && (Yb H xs.length z && (Zu H u && few3 (YO H u)))):=by unfold Wx;rw [hl,hl2]
  rw [ev] at k
  refine ⟨_,rfl,.inl ⟨p,xs,rfl,.inl (SqL.of hp),?_⟩⟩
  refine ⟨_,rfl,_,_,rfl,rfl,_,rfl,?_⟩
  cases c1:decide ((1:Int)≤xs.length) with
  | false=>
   have e1:decide (1≤xs.length)=false:=decide_eq_false fun q=>absurd (of_decide_eq_false c1) (by omega)
   rw [e1] at k
   exact Yz ⟨_,rfl,Yh (Yh (k H (.refl H)))⟩
  | true=>
  have e1:decide (1≤xs.length)=true:=decide_eq_true (by have:=of_decide_eq_true c1;omega)
  rw [e1] at k
  refine Yh ⟨_,_,rfl,rfl,_,rfl,?_⟩
  cases c2:decide ((xs.length:Int)≤20) with
  | false=>
   have e2:decide (xs.length≤20)=false:=decide_eq_false fun q=>absurd (of_decide_eq_false c2) (by omega)
   rw [e2] at k
   exact Yh (Yh (k H (.refl H)))
  | true=>
  have e2:decide (xs.length≤20)=true:=decide_eq_true (by have:=of_decide_eq_true c2;omega)
  rw [e2] at k
  refine Yz ⟨_,rfl,.inl ⟨p2,ys,rfl,.inl (SqL.of hp2),_,rfl,rfl,_,rfl,?_⟩⟩
  cases c3:decide (V.int (ys.length:Int)=V.int (xs.length:Int)) with
  | false=>
   have e3:decide (ys.length=xs.length)=false:=decide_eq_false fun q=>absurd (of_decide_eq_false c3) (by rw [q];simp)
   rw [e3] at k
   exact Yh (k H (.refl H))
  | true=>
  have e3:decide (ys.length=xs.length)=true:=decide_eq_true (by have:=V.int.inj (of_decide_eq_true c3);omega)
  rw [e3] at k
  refine Yz ⟨_,rfl,p,rfl,⟨xs,SqL.of hp⟩,fun D hD=>?_⟩
  refine Yc (K:=K) hD (SqL.of hp) hS (fun i v _=>∀ x,xs[i]?=some x→v=.bl (Zu H x)) (fun _ _ _ _ _ q=>q) ?_ ?_
  ·intro i x H2 N hx sm hN
   have hk:=hy x (List.mem_of_getElem? hx)
   refine ⟨_,rfl,x,rfl,hk.mono sm,fun H3 s3=>hN _ _ s3 fun x' hx'=>?_⟩
   rw [hx] at hx';cases hx'
   rw [XB sm hk.1]
  intro H2 zs hD2 sm hlen hr
  have ey:=Xi (f:=Zu H) hlen fun i v x h1 h2=>hr i v h1 x h2
  refine ⟨D,_,rfl,SqL.of (by rw [hD2,ey]),_,rfl,?_⟩
  rw [Vh]
  cases c4:xs.all (Zu H) with
  | false=>
   rw [c4] at k
   exact Yh (k H2 sm)
  | true=>
  rw [c4] at k
  refine Yz ⟨_,rfl,p2,rfl,⟨ys,SqL.of (sm _ _ hp2)⟩,fun D' hD'=>?_⟩
  refine Yc (K:=K) hD' (SqL.of (sm _ _ hp2)) hS2 (fun i v _=>∀ x,ys[i]?=some x→v=.bl (Yb H xs.length x)) (fun _ _ _ _ _ q=>q) ?_ ?_
  ·intro i x H3 N hx sm3 hN
   have hk:=hy2 x (List.mem_of_getElem? hx)
   have s3:=sm.trans sm3
   refine ⟨_,rfl,_,rfl,x,_,rfl,hk.mono s3,fun H4 s4=>hN _ _ s4 fun x' hx'=>?_⟩
   rw [hx] at hx';cases hx'
   rw [Vo s3 hk.1]
  intro H3 zs3 hD3 sm3 hlen3 hr3
  have s3:=sm.trans sm3
  have ey3:=Xi (f:=Yb H xs.length) hlen3 fun i v x h1 h2=>hr3 i v h1 x h2
  refine ⟨D',_,rfl,SqL.of (by rw [hD3,ey3]),_,rfl,?_⟩
  rw [Vh]
  cases c5:ys.all (Yb H xs.length) with
  | false=>
   rw [c5] at k
   exact Yh (k H3 s3)
  | true=>
  rw [c5] at k
  refine Yz ⟨_,rfl,_,rfl,z,_,rfl,kz.mono s3,fun H4 s4=>⟨_,rfl,?_⟩⟩
  rw [Vo s3 kz.1]
  have s5:=s3.trans s4
  cases c6:Yb H xs.length z with
  | false=>
   rw [c6] at k
   exact Yz (k H4 s5)
  | true=>
  rw [c6] at k
  refine Yh ⟨_,rfl,u,rfl,ku.mono s5,fun H5 s6=>⟨_,rfl,?_⟩⟩
  rw [XB s5 ku.1]
  have s7:=s5.trans s6
  cases c7:Zu H u with
  | false=>
   rw [c7] at k
   exact Yz (k H5 s7)
  | true=>
  rw [c7] at k
  rcases WB ku.1 with ⟨_,p4,fs,rfl,hp4,hl4⟩ | ⟨_,e⟩
  ·rw [hl4] at k
   refine Yh ⟨_,rfl,.inl ⟨p4,fs,rfl,.inl (SqL.of (s7 _ _ hp4)),_,_,rfl,rfl,?_⟩⟩
   have q:=k H5 s7
   have e8:decide (fs.length≤3)=decide ((fs.length:Int)≤3):=decide_eq_decide.mpr (by omega)
   simp only [few3] at q
   rw [e8] at q
   exact q
  ·unfold Zu at c7
   rw [e] at c7
   cases c7
def zI (K:PySem.W.Frag) (a:Adr):Sp:=fun vs H Q _=>∃ p dx x y z u d,vs=[.ref p,x,y,z,u]∧H p=some (.ins a.C_World dx [])∧Wv H x y z u d∧Good d∧∀ H',Zy p H H'→Y6 a.C_World H' p d→Q .non H'
theorem zK {P:Program}{w:World}{K:PySem.W.Frag}{mg:Str→Option Value}{base:Heap}{a:Adr} (T:Txt K mg a) (hw:w.params=a.Pm):Yy P w K mg base CX0 6 a.World_init a.World_init_fd ["self", "signs", "ways", "starts", "fair"] (zI K a):=by
 have G_makes_world:=Vn (P:=P) (w:=w) (base:=base) T hw
 refine T.f_World_init.ok VE (fun vs H Q E h=>?_) (fun cdv A outer s H vs Q E hr h=>?_)
 ·obtain ⟨p,dx,x,y,z,u,d,rfl,_⟩:=h
  rfl
 ·obtain ⟨p,dx,x,y,z,u,d,rfl,hp,pp,gd,k⟩:=h
  refine ⟨_,(@Ze _ _ _ _ _ (@YF _ _ _ _ _ _ _ _ (@YM _ _ _ _ (Xa (ZA G_makes_world (hr.mono (by decide)) rfl T.g_makes_world T.f_makes_world.kp T.n_makes_world .nil Z4 (@Z9 _ _ _ _ _ (pv 1) (@Z9 _ _ _ _ _ (pv 2) (@Z9 _ _ _ _ _ (pv 3) (@Z9 _ _ _ _ _ (pv 4) Zb (by rfl)) (by rfl)) (by rfl)) (by rfl))))) (@Zh _ _ _ vc) ZL) (@Ze _ _ _ _ _ (Vq (pv 0) (Zr (Yv (K:=K) rfl) rfl T.b_tuple PyProof.Rows.Boot.«tuple» (@Za _ _ _ _ _ (ZV (Nc:=["names"]) (ix:=[none]) (ZD.of (by decide +kernel:ZK (Zc Yj) ["self", "signs", "ways", "starts", "fair"] ["names"] [none] _=true)) rfl (Zq (K:=K) rfl (pv 1)) (fun _ _ _ _ _=>(Zm (i:=0) (show List.Nodup (["names"]:List Str) by decide +kernel) rfl (Or.inl rfl))) (fun _ _ _ _ _=>ZT) (fun _ _ _ _ _=>(Zr (Yv (K:=K) rfl) rfl T.b_tuple PyProof.Rows.Boot.«tuple» (@Za _ _ _ _ _ (Zk (Xu (K:=K) rfl) rfl T.b_sorted PyProof.Rows.Boot.«sorted» (@Za _ _ _ _ _ (pv 0) Zb (by rfl))) Zb (by rfl))))) Zb (by rfl))) rfl) (@Ze _ _ _ _ _ (Vq (pv 0) (Zr (Yv (K:=K) rfl) rfl T.b_tuple PyProof.Rows.Boot.«tuple» (@Za _ _ _ _ _ (ZV (Nc:=["rooms"]) (ix:=[none]) (ZD.of (by decide +kernel:ZK (Zc Yj) ["self", "signs", "ways", "starts", "fair"] ["rooms"] [none] _=true)) rfl (Zq (K:=K) rfl (pv 2)) (fun _ _ _ _ _=>(Zm (i:=0) (show List.Nodup (["rooms"]:List Str) by decide +kernel) rfl (Or.inl rfl))) (fun _ _ _ _ _=>ZT) (fun _ _ _ _ _=>(Zr (Yv (K:=K) rfl) rfl T.b_tuple PyProof.Rows.Boot.«tuple» (@Za _ _ _ _ _ (Zk (Xu (K:=K) rfl) rfl T.b_sorted PyProof.Rows.Boot.«sorted» (@Za _ _ _ _ _ (pv 0) Zb (by rfl))) Zb (by rfl))))) Zb (by rfl))) rfl) (@Ze _ _ _ _ _ (Vq (pv 0) (Zr (Yv (K:=K) rfl) rfl T.b_tuple PyProof.Rows.Boot.«tuple» (@Za _ _ _ _ _ (Zk (Xu (K:=K) rfl) rfl T.b_sorted PyProof.Rows.Boot.«sorted» (@Za _ _ _ _ _ (pv 3) Zb (by rfl))) Zb (by rfl))) rfl) (@Zh _ _ _ (Vq (pv 0) (Zr (Yv (K:=K) rfl) rfl T.b_tuple PyProof.Rows.Boot.«tuple» (@Za _ _ _ _ _ (pv 4) Zb (by rfl))) rfl)))))),?_⟩
  obtain ⟨kx,ky,kz,ku⟩:=pp.kd gd
  have hm:=pp.makes gd
  refine ⟨_,rfl,_,rfl,_,rfl,_,rfl,x,y,z,u,rfl,kx,ky,kz,ku,fun H1 s1=>⟨_,rfl,?_⟩⟩
  rw [hm]
  refine Yz ?_
  have p1:=pp.mono s1
  have hp1:=s1 _ _ hp
  have ph:=p1.hid hp1
  have:=gd.n20
  have:=gd.wl
  obtain ⟨b1,v1,e1,g1,l1,q1⟩:=p1.s
  subst e1
  refine ⟨_,rfl,b1,rfl,⟨v1,SqL.of g1⟩,fun D hD=>?_⟩
  refine Yc (K:=K) hD (SqL.of g1) (by rw [sizeLine_eq];omega) (fun i v G=>∀ ss,d.signs[i]?=some ss→TS G v (X0 ss)) (fun i v _ _ sm q ss e=>TS.mono _ _ _ _ sm (q ss e)) ?_ ?_
  ·intro i w H2 N hx sm hN
   have hi:i<d.signs.length:=by rw [← l1];exact (List.getElem?_eq_some_iff.mp hx).1
   obtain ⟨c,rfl,ec⟩:=q1 i w _ hx (List.getElem?_eq_getElem hi)
   have hg:=gd.sn _ (List.getElem_mem hi)
   refine ⟨_,rfl,.inl ⟨c,_,rfl,SqL.of (sm _ _ ec),by omega,fun l hl=>⟨l,_,rfl,.inl ⟨SqL.of Zd,fun t ht=>?_⟩⟩⟩⟩
   refine hN _ _ ((Zf hl).trans (Zf ht)) fun ss hss=>⟨t,rfl,New.mk ((Zf hl).free ht) ?_⟩
   rw [List.getElem?_eq_getElem hi] at hss
   cases hss
   rw [Zd]
  intro H2 w1 hD2 s2 lw1 r1
  refine ⟨D,w1,rfl,.inl ⟨SqL.of hD2,fun t1 ht1=>?_⟩⟩
  have st1:=Zf (o:=.tup w1) ht1
  have hp2:=st1 _ _ (s2 _ _ hp1)
  refine ⟨_,rfl,p,_,dx,[],rfl,hp2,T.cl_World,T.na_World_room_signs,by decide,?_⟩
  have x2:Zy p H1 (upd (upd H2 t1 (.tup w1)) p (.ins a.C_World dx (YD "room_signs" (.ref t1) []))):=(Zj.x (s2.trans st1)).upd
  have np1:t1≠p:=fun z=>by subst z;rw [s2 _ _ hp1] at ht1;cases ht1
  have W1:LT TS (hide p (upd (upd H2 t1 (.tup w1)) p (.ins a.C_World dx (YD "room_signs" (.ref t1) [])))) (.ref t1) (d.signs.map X0):=by
   refine UB (xs:=d.signs) (Yt np1 (by rw [Zo np1,Zd])) (lw1.trans l1) fun i v hv ss hss=>?_
   refine TS.mono _ _ _ _ ?_ (r1 i v hv ss hss)
   exact (New.hidden hp1).trans (Zy.hide ((Zj.x st1).upd))
  have hp3:(upd (upd H2 t1 (.tup w1)) p (.ins a.C_World dx (YD "room_signs" (.ref t1) []))) p=some (.ins a.C_World dx (YD "room_signs" (.ref t1) [])):=Zd
  rw [put1] at x2 W1 hp3 ⊢
  generalize upd (upd H2 t1 (.tup w1)) p (.ins a.C_World dx ([("room_signs",V.ref t1)]:List (Str × V)))=H3 at x2 W1 hp3 ⊢
  have p3:=(ph.mono x2.hide).mono YV
  obtain ⟨b2,v2,e2,g2,l2,q2⟩:=p3.w
  subst e2
  refine ⟨_,rfl,b2,rfl,⟨v2,SqL.of g2⟩,fun D2 hDD=>?_⟩
  refine Yc (K:=K) hDD (SqL.of g2) (by rw [sizeLine_eq];omega) (fun i v G=>∀ ss,d.ways[i]?=some ss→TIn G v (YX ss)) (fun i v _ _ sm q ss e=>TIn.mono _ _ _ _ sm (q ss e)) ?_ ?_
  ·intro i w H4 N hx sm hN
   have hi:i<d.ways.length:=by rw [← l2];exact (List.getElem?_eq_some_iff.mp hx).1
   obtain ⟨c,rfl,ec⟩:=q2 i w _ hx (List.getElem?_eq_getElem hi)
   have hg:=gd.wn _ (List.getElem_mem hi)
   refine ⟨_,rfl,.inr ⟨c,_,rfl,SqL.of (sm _ _ ec),by omega,fun l hl=>⟨l,_,rfl,.inl ⟨SqL.of Zd,fun t ht=>?_⟩⟩⟩⟩
   refine hN _ _ ((Zf hl).trans (Zf ht)) fun ss hss=>⟨t,rfl,New.mk ((Zf hl).free ht) ?_⟩
   rw [List.getElem?_eq_getElem hi] at hss
   cases hss
   rw [Zd]
  intro H4 w2 hD4 s4 lw2 r2
  refine ⟨D2,w2,rfl,.inl ⟨SqL.of hD4,fun t2 ht2=>?_⟩⟩
  have st2:=Zf (o:=.tup w2) ht2
  have hp4:=st2 _ _ (s4 _ _ hp3)
  refine ⟨_,rfl,p,_,dx,_,rfl,hp4,T.cl_World,T.na_World_room_ways,by simp,?_⟩
  have x4:Zy p H3 (upd (upd H4 t2 (.tup w2)) p (.ins a.C_World dx (YD "room_ways" (.ref t2) ([("room_signs",V.ref t1)]:List (Str × V))))):=(Zj.x (s4.trans st2)).upd
  have np2:t2≠p:=fun z=>by subst z;rw [s4 _ _ hp3] at ht2;cases ht2
  have W2:LT TIn (hide p (upd (upd H4 t2 (.tup w2)) p (.ins a.C_World dx (YD "room_ways" (.ref t2) ([("room_signs",V.ref t1)]:List (Str × V)))))) (.ref t2) (d.ways.map YX):=by
   refine UB (xs:=d.ways) (Yt np2 (by rw [Zo np2,Zd])) (lw2.trans l2) fun i v hv ss hss=>?_
   refine TIn.mono _ _ _ _ ?_ (r2 i v hv ss hss)
   exact (New.hidden hp3).trans (Zy.hide ((Zj.x st2).upd))
  have hp5:(upd (upd H4 t2 (.tup w2)) p (.ins a.C_World dx (YD "room_ways" (.ref t2) ([("room_signs",V.ref t1)]:List (Str × V))))) p=some (.ins a.C_World dx (YD "room_ways" (.ref t2) ([("room_signs",V.ref t1)]:List (Str × V)))):=Zd
  have W1:=LT.mono TS.mono _ _ _ _ x4.hide W1
  rw [put2] at x4 W1 W2 hp5 ⊢
  generalize upd (upd H4 t2 (.tup w2)) p (.ins a.C_World dx ([("room_signs",V.ref t1),("room_ways",V.ref t2)]:List (Str × V)))=H5 at x4 W1 W2 hp5 ⊢
  have x5:=x2.trans x4
  have p5:=(ph.mono x5.hide).mono YV
  obtain ⟨b3,e3,g3⟩:=p5.st
  subst e3
  have hst:=gd.stn.2.2.2
  refine ⟨_,rfl,.inr ⟨b3,_,rfl,SqL.of g3,by omega,fun l hl=>⟨l,_,rfl,.inl ⟨SqL.of Zd,fun t3 ht3=>?_⟩⟩⟩⟩
  have st3:=(Zf (o:=.lst ((YX d.starts).map V.int)) hl).trans (Zf (o:=.tup ((YX d.starts).map V.int)) ht3)
  have hp6:=st3 _ _ hp5
  refine ⟨_,rfl,p,_,dx,_,rfl,hp6,T.cl_World,T.na_World_start_rooms,by simp,?_⟩
  have np3:t3≠p:=fun z=>by subst z;rw [Zf hl _ _ hp5] at ht3;cases ht3
  have x6:Zy p H5 (upd (upd (upd H5 l (.lst ((YX d.starts).map V.int))) t3 (.tup ((YX d.starts).map V.int))) p (.ins a.C_World dx (YD "start_rooms" (.ref t3) ([("room_signs",V.ref t1),("room_ways",V.ref t2)]:List (Str × V))))):=(Zj.x st3).upd
  have hp7:(upd (upd (upd H5 l (.lst ((YX d.starts).map V.int))) t3 (.tup ((YX d.starts).map V.int))) p (.ins a.C_World dx (YD "start_rooms" (.ref t3) ([("room_signs",V.ref t1),("room_ways",V.ref t2)]:List (Str × V))))) p=some (.ins a.C_World dx (YD "start_rooms" (.ref t3) ([("room_signs",V.ref t1),("room_ways",V.ref t2)]:List (Str × V)))):=Zd
  have W3:TIn (hide p (upd (upd (upd H5 l (.lst ((YX d.starts).map V.int))) t3 (.tup ((YX d.starts).map V.int))) p (.ins a.C_World dx (YD "start_rooms" (.ref t3) ([("room_signs",V.ref t1),("room_ways",V.ref t2)]:List (Str × V)))))) (.ref t3) (YX d.starts):=⟨t3,rfl,Yt np3 (by rw [Zo np3,Zd])⟩
  have W1:=LT.mono TS.mono _ _ _ _ x6.hide W1
  have W2:=LT.mono TIn.mono _ _ _ _ x6.hide W2
  rw [put3] at x6 W1 W2 W3 hp7 ⊢
  generalize upd (upd (upd H5 l (.lst ((YX d.starts).map V.int))) t3 (.tup ((YX d.starts).map V.int))) p (.ins a.C_World dx ([("room_signs",V.ref t1),("room_ways",V.ref t2),("start_rooms",V.ref t3)]:List (Str × V)))=H7 at x6 W1 W2 W3 hp7 ⊢
  have x7:=x5.trans x6
  have p7:=(ph.mono x7.hide).mono YV
  obtain ⟨b4,e4,g4⟩:=p7.f
  subst e4
  refine ⟨_,rfl,b4,_,rfl,.inl ⟨SqL.of g4,fun t4 ht4=>?_⟩⟩
  have st4:=Zf (o:=.tup (d.fair.map V.str)) ht4
  have hp8:=st4 _ _ hp7
  refine ⟨_,rfl,p,_,dx,_,rfl,hp8,T.cl_World,T.na_World_fair_names,by simp,?_⟩
  have np4:t4≠p:=fun z=>by subst z;rw [hp7] at ht4;cases ht4
  have x8:Zy p H7 (upd (upd H7 t4 (.tup (d.fair.map V.str))) p (.ins a.C_World dx (YD "fair_names" (.ref t4) ([("room_signs",V.ref t1),("room_ways",V.ref t2),("start_rooms",V.ref t3)]:List (Str × V))))):=(Zj.x st4).upd
  refine k _ ((Zj.x s1).trans (x7.trans x8)) ⟨dx,.ref t1,.ref t2,.ref t3,.ref t4,by rw [Zd,put4],?_,?_,?_,?_⟩
  ·exact LT.mono TS.mono _ _ _ _ (x8.hide.trans YV) W1
  ·exact LT.mono TIn.mono _ _ _ _ (x8.hide.trans YV) W2
  ·exact TIn.mono _ _ _ _ (x8.hide.trans YV) W3
  ·exact ⟨t4,rfl,by rw [Zo np4,Zd]⟩
def zB (K:PySem.W.Frag) (a:Adr):Sp:=fun vs H Q _=>∃ p d,vs=[.ref p]∧Y6 a.C_World H p d∧Q (.int d.signs.length) H
theorem zH {P:Program}{w:World}{K:PySem.W.Frag}{mg:Str→Option Value}{base:Heap}{a:Adr} (T:Txt K mg a) (hw:w.params=a.Pm):Yy P w K mg base CX0 1 a.World_many a.World_many_fd ["self"] (zB K a):=by
 refine T.f_World_many.ok zF (fun vs H Q E h=>?_) (fun cdv A outer s H vs Q E hr h=>?_)
 ·obtain ⟨p,d,rfl,_⟩:=h
  rfl
 ·obtain ⟨p,d,rfl,hw,k⟩:=h
  refine ⟨_,(@Zh _ _ _ (@Zx _ _ _ _ (Zk (Zv (K:=K) rfl) rfl T.b_len PyProof.Rows.Boot.«len» (@Za _ _ _ _ _ (Wg (K:=K) rfl (pv 0) rfl) Zb (by rfl))))),?_⟩
  obtain ⟨dx,t1,t2,t3,t4,e,⟨b,vs,rfl,g,l,q⟩,_⟩:=hw.ex
  refine ⟨_,rfl,p,_,dx,_,_,rfl,e,T.cl_World,T.na_World_room_signs,vG _ _ _ _,.inl ⟨b,vs,rfl,.inr (SqT.of g),?_⟩⟩
  rw [l,List.length_map]
  exact k
def Ul (K:PySem.W.Frag) (a:Adr):Sp:=fun vs H Q _=>∃ p d i ss,vs=[.ref p,.int (i:Nat)]∧Y6 a.C_World H p d∧d.signs[i]?=some ss∧∀ l,H l=none→Q (.ref l) (upd H l (.lst ((X0 ss).map V.str)))
theorem Ui {P:Program}{w:World}{K:PySem.W.Frag}{mg:Str→Option Value}{base:Heap}{a:Adr} (T:Txt K mg a) (hw:w.params=a.Pm):Yy P w K mg base CX0 1 a.World_signs_of a.World_signs_of_fd ["self", "room"] (Ul K a):=by
 refine T.f_World_signs_of.ok V5 (fun vs H Q E h=>?_) (fun cdv A outer s H vs Q E hr h=>?_)
 ·obtain ⟨p,d,i,ss,rfl,_⟩:=h
  rfl
 ·obtain ⟨p,d,i,ss,rfl,hw,hs,k⟩:=h
  refine ⟨_,(@Zh _ _ _ (@Zx _ _ _ _ (Zr (Yr (K:=K) rfl rfl) rfl T.b_list PyProof.Rows.Boot.«list» (@Za _ _ _ _ _ (@ZH _ _ _ _ _ _ _ (Z0 (K:=K) rfl) (Wg (K:=K) rfl (pv 0) rfl) (pv 1) (fun _ _=>rfl)) Zb (by rfl))))),?_⟩
  obtain ⟨dx,t1,t2,t3,t4,e,⟨b,vs,rfl,g,l,q⟩,_⟩:=hw.ex
  have hi:i<vs.length:=by
   rw [l,List.length_map]
   exact (List.getElem?_eq_some_iff.mp hs).1
  obtain ⟨c,ec,gc⟩:=q i _ (X0 ss) (List.getElem?_eq_getElem hi) (by rw [List.getElem?_map,hs];rfl)
  refine ⟨_,rfl,p,_,dx,_,_,rfl,e,T.cl_World,T.na_World_room_signs,vG _ _ _ _,_,rfl,b,vs,_,_,rfl,rfl,SqT.of g,Xx (List.getElem?_eq_getElem hi),?_⟩
  rw [ec]
  exact .inl ⟨c,_,rfl,.inr (SqT.of gc),k⟩
def Uw (K:PySem.W.Frag) (a:Adr):Sp:=fun vs H Q _=>∃ p d i ss,vs=[.ref p,.int (i:Nat)]∧Y6 a.C_World H p d∧d.ways[i]?=some ss∧∀ l,H l=none→Q (.ref l) (upd H l (.lst ((YX ss).map V.int)))
theorem Uq {P:Program}{w:World}{K:PySem.W.Frag}{mg:Str→Option Value}{base:Heap}{a:Adr} (T:Txt K mg a) (hw:w.params=a.Pm):Yy P w K mg base CX0 1 a.World_ways_on a.World_ways_on_fd ["self", "room"] (Uw K a):=by
 refine T.f_World_ways_on.ok UI (fun vs H Q E h=>?_) (fun cdv A outer s H vs Q E hr h=>?_)
 ·obtain ⟨p,d,i,ss,rfl,_⟩:=h
  rfl
 ·obtain ⟨p,d,i,ss,rfl,hw,hs,k⟩:=h
  refine ⟨_,(@Zh _ _ _ (@Zx _ _ _ _ (Zr (Yr (K:=K) rfl rfl) rfl T.b_list PyProof.Rows.Boot.«list» (@Za _ _ _ _ _ (@ZH _ _ _ _ _ _ _ (Z0 (K:=K) rfl) (Wg (K:=K) rfl (pv 0) rfl) (pv 1) (fun _ _=>rfl)) Zb (by rfl))))),?_⟩
  obtain ⟨dx,t1,t2,t3,t4,e,_,⟨b,vs,rfl,g,l,q⟩,_⟩:=hw.ex
  have hi:i<vs.length:=by
   rw [l,List.length_map]
   exact (List.getElem?_eq_some_iff.mp hs).1
  obtain ⟨c,ec,gc⟩:=q i _ (YX ss) (List.getElem?_eq_getElem hi) (by rw [List.getElem?_map,hs];rfl)
  refine ⟨_,rfl,p,_,dx,_,_,rfl,e,T.cl_World,T.na_World_room_ways,lk_ways _ _ _ _,_,rfl,b,vs,_,_,rfl,rfl,SqT.of g,Xx (List.getElem?_eq_getElem hi),?_⟩
  rw [ec]
  exact .inl ⟨c,_,rfl,.inr (SqT.of gc),k⟩
def U9 (K:PySem.W.Frag) (a:Adr):Sp:=fun vs H Q _=>∃ p d,vs=[.ref p]∧Y6 a.C_World H p d∧∀ l,H l=none→Q (.ref l) (upd H l (.lst ((YX d.starts).map V.int)))
theorem UX {P:Program}{w:World}{K:PySem.W.Frag}{mg:Str→Option Value}{base:Heap}{a:Adr} (T:Txt K mg a) (hw:w.params=a.Pm):Yy P w K mg base CX0 1 a.World_begins a.World_begins_fd ["self"] (U9 K a):=by
 refine T.f_World_begins.ok U8 (fun vs H Q E h=>?_) (fun cdv A outer s H vs Q E hr h=>?_)
 ·obtain ⟨p,d,rfl,_⟩:=h
  rfl
 ·obtain ⟨p,d,rfl,hw,k⟩:=h
  refine ⟨_,(@Zh _ _ _ (@Zx _ _ _ _ (Zr (Yr (K:=K) rfl rfl) rfl T.b_list PyProof.Rows.Boot.«list» (@Za _ _ _ _ _ (Wg (K:=K) rfl (pv 0) rfl) Zb (by rfl))))),?_⟩
  obtain ⟨dx,t1,t2,t3,t4,e,_,_,⟨b,rfl,g⟩,_⟩:=hw.ex
  exact ⟨_,rfl,p,_,dx,_,_,rfl,e,T.cl_World,T.na_World_start_rooms,lk_starts _ _ _ _,.inl ⟨b,_,rfl,.inr (SqT.of g),k⟩⟩
def VB (K:PySem.W.Frag) (a:Adr):Sp:=fun vs H Q _=>∃ p d,vs=[.ref p]∧Y6 a.C_World H p d∧∀ l,H l=none→Q (.ref l) (upd H l (.lst (d.fair.map V.str)))
theorem VC {P:Program}{w:World}{K:PySem.W.Frag}{mg:Str→Option Value}{base:Heap}{a:Adr} (T:Txt K mg a) (hw:w.params=a.Pm):Yy P w K mg base CX0 1 a.World_fair_signs a.World_fair_signs_fd ["self"] (VB K a):=by
 refine T.f_World_fair_signs.ok VA (fun vs H Q E h=>?_) (fun cdv A outer s H vs Q E hr h=>?_)
 ·obtain ⟨p,d,rfl,_⟩:=h
  rfl
 ·obtain ⟨p,d,rfl,hw,k⟩:=h
  refine ⟨_,(@Zh _ _ _ (@Zx _ _ _ _ (Zr (Yr (K:=K) rfl rfl) rfl T.b_list PyProof.Rows.Boot.«list» (@Za _ _ _ _ _ (Wg (K:=K) rfl (pv 0) rfl) Zb (by rfl))))),?_⟩
  obtain ⟨dx,t1,t2,t3,t4,e,_,_,_,⟨b,rfl,g⟩⟩:=hw.ex
  exact ⟨_,rfl,p,_,dx,_,_,rfl,e,T.cl_World,T.na_World_fair_names,lk_fair _ _ _ _,.inl ⟨b,_,rfl,.inr (SqT.of g),k⟩⟩
def UG (K:PySem.W.Frag) (a:Adr):Sp:=fun vs H Q E=>∃ p x y z u,vs=[.ref p,x,y,z,u]∧KdLL H x∧KdLL H y∧KdL H z∧KdL H u∧Wx H x y z u=false∧∀ H' e,Zj H H'→E (.ref e) (some a.C_BadWorld) H'
theorem zu {P:Program}{w:World}{K:PySem.W.Frag}{mg:Str→Option Value}{base:Heap}{a:Adr} (T:Txt K mg a) (hw:w.params=a.Pm):Yy P w K mg base (CXe P w) 6 a.World_init a.World_init_fd ["self", "signs", "ways", "starts", "fair"] (UG K a):=by
 have G_makes_world:=Vn (P:=P) (w:=w) (base:=base) T hw
 refine fun_okX T.f_World_init VE (fun vs H Q E h=>?_) (fun cdv A outer s H vs Q E hr h=>?_)
 ·obtain ⟨p,x,y,z,u,rfl,_⟩:=h
  rfl
 ·obtain ⟨p,x,y,z,u,rfl,kx,ky,kz,ku,hm,k⟩:=h
  refine ⟨_,(@Ze _ _ _ _ _ (@YF _ _ _ _ _ _ _ _ (PT.nox (@YM _ _ _ _ (Xa (ZA G_makes_world (hr.mono (by decide)) rfl T.g_makes_world T.f_makes_world.kp T.n_makes_world .nil Z4 (@Za _ _ _ _ _ (pv 1) (@Za _ _ _ _ _ (pv 2) (@Za _ _ _ _ _ (pv 3) (@Za _ _ _ _ _ (pv 4) Zb (by rfl)) (by rfl)) (by rfl)) (by rfl)))))) (@Zh _ _ _ (qV UC rfl rfl T.g_BadWorld T.x_BadWorld PySem.F.excBase_ValueError (@Za _ _ _ _ _ Xm Zb (by rfl)))) ZL) L2.pss_never),?_⟩
  refine ⟨_,rfl,_,rfl,_,rfl,_,rfl,x,y,z,u,rfl,kx,ky,kz,ku,fun H1 s1=>⟨_,rfl,?_⟩⟩
  rw [hm]
  exact Yh ⟨by decide,fun e=>k H1 e s1⟩
def jx (K:PySem.W.Frag) (a:Adr):Sp:=fun vs H Q _=>∃ x n,vs=[x,.int n]∧KdT H x∧∀ H',Zj H H'→Q (.bl (Xh H n x)) H'
theorem jr {P:Program}{w:World}{K:PySem.W.Frag}{mg:Str→Option Value}{base:Heap}{a:Adr} (T:Txt K mg a) (hw:w.params=a.Pm):Yy P w K mg base CX0 3 a.is_move a.is_move_fd ["thing", "many"] (jx K a):=by
 have G_is_name:=qS (P:=P) (w:=w) (base:=base) T hw
 have G_is_room:=VP (P:=P) (w:=w) (base:=base) T hw
 refine T.f_is_move.ok jv (fun vs H Q E h=>?_) (fun cdv A outer s H vs Q E hr h=>?_)
 ·obtain ⟨x,n,rfl,_⟩:=h
  rfl
 ·obtain ⟨x,n,rfl,hk,k⟩:=h
  refine ⟨_,(@Ze _ _ _ _ _ (@YF _ _ _ _ _ _ _ _ (PW.pt (Wt (@YM _ _ _ _ (Xa (Zk (Xj (K:=K) rfl "tuple") rfl T.b_isinstance PyProof.Rows.Boot.«isinstance» (@Za _ _ _ _ _ (pv 0) (@Za _ _ _ _ _ (Xp (v:=.ty "tuple") rfl T.b_tuple PyProof.Rows.Boot.«tuple» rfl) Zb (by rfl)) (by rfl))))) (Wn (@ZJ _ _ _ _ _ _ _ _ op_ne (Zk (Zv (K:=K) rfl) rfl T.b_len PyProof.Rows.Boot.«len» (@Za _ _ _ _ _ (pv 0) Zb (by rfl))) Zg (ZW _))))) (@Zh _ _ _ (@Zx _ _ _ _ Xz)) ZL) (@Zh _ _ _ (@Zx _ _ _ _ (Wl (ZA G_is_room (hr.mono (by decide)) rfl T.g_is_room T.f_is_room.kp T.n_is_room .nil Z4 (@Za _ _ _ _ _ (@ZH _ _ _ _ _ _ _ (Z0 (K:=K) rfl) (pv 0) Zg (fun _ _=>rfl)) (@Za _ _ _ _ _ (pv 1) Zb (by rfl)) (by rfl))) (Wl (ZA G_is_name (hr.mono (by decide)) rfl T.g_is_name T.f_is_name.kp T.n_is_name .nil Z4 (@Za _ _ _ _ _ (@ZH _ _ _ _ _ _ _ (Z0 (K:=K) rfl) (pv 0) Zg (fun _ _=>rfl)) Zb (by rfl))) (XF (ZA G_is_room (hr.mono (by decide)) rfl T.g_is_room T.f_is_room.kp T.n_is_room .nil Z4 (@Za _ _ _ _ _ (@ZH _ _ _ _ _ _ _ (Z0 (K:=K) rfl) (pv 0) Zg (fun _ _=>rfl)) (@Za _ _ _ _ _ (pv 1) Zb (by rfl)) (by rfl))))))))),?_⟩
  rcases kd_tup hk.1 with ⟨hb,p,xs,rfl,hp,hl⟩ | ⟨hb,e⟩
  case inr=>
   obtain ⟨t,h1,h2⟩:=XY K (by simp) hk.1 hb
   have q:=k H (.refl H)
   have e2:Xh H n x=false:=by unfold Xh;rw [e]
   rw [e2] at q
   exact ⟨_,rfl,_,t,_,rfl,h1,h2,_,rfl,Yh (Yh q)⟩
  obtain ⟨t,h1,h2⟩:=XY K (by simp) hk.1 hb
  obtain ⟨hz,hy⟩:=hk.2 xs hl
  have ev:Xh H n (.ref p)=moveL n xs:=by unfold Xh;rw [hl]
  rw [ev] at k
  refine ⟨_,rfl,_,t,_,rfl,h1,h2,_,rfl,Yz ?_⟩
  refine ⟨_,rfl,.inl ⟨p,xs,rfl,.inr (SqT.of hp),rfl,_,rfl,?_⟩⟩
  cases c:decide (V.int (xs.length:Int)=V.int 3) with
  | false=>
   have e3:xs.length≠3:=fun q=>absurd (of_decide_eq_false c) (by rw [q];simp)
   have q:=k H (.refl H)
   rw [moveL_len e3] at q
   exact Yh q
  | true=>
  obtain ⟨u,v,z,rfl⟩:=three (xs:=xs) (by have:=V.int.inj (of_decide_eq_true c);omega)
  refine Yz ?_
  have ku:=hy u (by simp)
  have kv:=hy v (by simp)
  have kz:=hy z (by simp)
  refine ⟨_,rfl,p,_,_,u,rfl,rfl,SqT.of hp,rfl,_,rfl,u,n,rfl,ku,_,rfl,?_⟩
  have k2:∀ H',Zj H H'→Q (.bl (Ya n u && (YZ v && Ya n z))) H':=k
  cases c1:Ya n u with
  | false=>
   rw [c1] at k2
   exact Yz (k2 H (.refl H))
  | true=>
  rw [c1] at k2
  refine Yh ⟨_,rfl,p,_,_,v,rfl,rfl,SqT.of hp,rfl,v,rfl,kv,fun H1 s1=>⟨_,rfl,?_⟩⟩
  cases c2:YZ v with
  | false=>
   rw [c2] at k2
   exact Yz (k2 H1 s1)
  | true=>
  rw [c2] at k2
  exact Yh ⟨_,rfl,p,_,_,z,rfl,rfl,SqT.of (s1 _ _ hp),rfl,_,rfl,z,n,rfl,kz.mono s1,k2 H1 s1⟩
def UE (K:PySem.W.Frag) (a:Adr):Sp:=fun vs H Q _=>∃ x y z u,vs=[x,y,z,u]∧KdLL H x∧KdLT H y∧Kd H z∧KdL H u∧∀ H',Zj H H'→Q (.bl (X8 H x y z u)) H'
theorem UD {P:Program}{w:World}{K:PySem.W.Frag}{mg:Str→Option Value}{base:Heap}{a:Adr} (T:Txt K mg a) (hw:w.params=a.Pm):Yy P w K mg base CX0 4 a.makes_machine a.makes_machine_fd ["signs", "moves", "start", "words"] (UE K a):=by
 have G_is_room:=VP (P:=P) (w:=w) (base:=base) T hw
 have G_are_names:=V9 (P:=P) (w:=w) (base:=base) T hw
 have G_is_move:=jr (P:=P) (w:=w) (base:=base) T hw
 refine T.f_makes_machine.ok WN (fun vs H Q E h=>?_) (fun cdv A outer s H vs Q E hr h=>?_)
 ·obtain ⟨x,y,z,u,rfl,_⟩:=h
  rfl
 ·obtain ⟨x,y,z,u,rfl,kx,ky,kz,ku,k⟩:=h
  refine ⟨_,(@Ze _ _ _ _ _ (@YF _ _ _ _ _ _ _ _ (PW.pt (Wt (@YM _ _ _ _ (Xa (Zk (Xj (K:=K) rfl "list") rfl T.b_isinstance PyProof.Rows.Boot.«isinstance» (@Za _ _ _ _ _ (pv 0) (@Za _ _ _ _ _ (Xp (v:=.ty "list") rfl T.b_list PyProof.Rows.Boot.«list» rfl) Zb (by rfl)) (by rfl))))) (Wn (@YM _ _ _ _ (V4 VH VH Zg (Zk (Zv (K:=K) rfl) rfl T.b_len PyProof.Rows.Boot.«len» (@Za _ _ _ _ _ (pv 0) Zb (by rfl))) (W9 rfl T.c_MOST_MACHINE_ROOMS)))))) (@Zh _ _ _ (@Zx _ _ _ _ Xz)) ZL) (@Ze _ _ _ _ _ (@YF _ _ _ _ _ _ _ _ (@YM _ _ _ _ (Xa (Zk (XM (K:=K) rfl rfl) rfl T.b_all PyProof.Rows.Boot.«all» (@Za _ _ _ _ _ (ZV (Nc:=["names"]) (ix:=[none]) (ZD.of (by decide +kernel:ZK (Zc ZO) ["signs", "moves", "start", "words", "many"] ["names"] [none] _=true)) rfl (Zq (K:=K) rfl (pv 0)) (fun _ _ _ _ _=>(Zm (i:=0) (show List.Nodup (["names"]:List Str) by decide +kernel) rfl (Or.inl rfl))) (fun _ _ _ _ _=>ZT) (fun _ _ _ _ _=>(ZA G_are_names (hr.mono (by decide)) rfl T.g_are_names T.f_are_names.kp T.n_are_names .nil Z4 (@Za _ _ _ _ _ (pv 0) Zb (by rfl))))) Zb (by rfl))))) (@Zh _ _ _ (@Zx _ _ _ _ Xz)) ZL) (@Ze _ _ _ _ _ (@Zt _ _ (4) _ _ _ _ WN.nd rfl (Or.inr rfl) (Zk (Zv (K:=K) rfl) rfl T.b_len PyProof.Rows.Boot.«len» (@Za _ _ _ _ _ (pv 0) Zb (by rfl))) (by rfl) (by first | exact .inl rfl | exact .inr rfl | assumption)) (@Ze _ _ _ _ _ (@YF _ _ _ _ _ _ _ _ (PW.pt (Wt (@YM _ _ _ _ (Xa (Zk (Xj (K:=K) rfl "list") rfl T.b_isinstance PyProof.Rows.Boot.«isinstance» (@Za _ _ _ _ _ (pv 1) (@Za _ _ _ _ _ (Xp (v:=.ty "list") rfl T.b_list PyProof.Rows.Boot.«list» rfl) Zb (by rfl)) (by rfl))))) (Wn (@YM _ _ _ _ (Xa (Zk (XM (K:=K) rfl rfl) rfl T.b_all PyProof.Rows.Boot.«all» (@Za _ _ _ _ _ (ZV (Nc:=["move", "many"]) (ix:=[none,some 4]) (ZD.of (by decide +kernel:ZK (Zc ZO) ["signs", "moves", "start", "words", "many"] ["move", "many"] [none,some 4] _=true)) rfl (Zq (K:=K) rfl (pv 1)) (fun _ _ _ _ _=>(Zm (i:=0) (show List.Nodup (["move", "many"]:List Str) by decide +kernel) rfl (Or.inl rfl))) (fun _ _ _ _ _=>ZT) (fun _ _ _ _ _=>(ZA G_is_move (hr.mono (by decide)) rfl T.g_is_move T.f_is_move.kp T.n_is_move .nil Z4 (@Za _ _ _ _ _ (pv 0) (@Za _ _ _ _ _ (pv 1) Zb (by rfl)) (by rfl))))) Zb (by rfl)))))))) (@Zh _ _ _ (@Zx _ _ _ _ Xz)) ZL) (@Zh _ _ _ (@Zx _ _ _ _ (Wl (ZA G_is_room (hr.mono (by decide)) rfl T.g_is_room T.f_is_room.kp T.n_is_room .nil Z4 (@Za _ _ _ _ _ (pv 2) (@Za _ _ _ _ _ (pv 4) Zb (by rfl)) (by rfl))) (XF (pe_or (@XQ _ _ _ _ _ _ _ _ op_isN (pv 3) yN (ZW _)) (XF (ZA G_are_names (hr.mono (by decide)) rfl T.g_are_names T.f_are_names.kp T.n_are_names .nil Z4 (@Za _ _ _ _ _ (pv 3) Zb (by rfl))))))))))))),?_⟩
  rcases WB kx.1 with ⟨hb,p,xs,rfl,hp,hl⟩ | ⟨hb,e⟩
  case inr=>
   obtain ⟨t,h1,h2⟩:=XY K (by simp) kx.1 hb
   have q:=k H (.refl H)
   have e2:X8 H x y z u=false:=by unfold X8;rw [e]
   rw [e2] at q
   exact ⟨_,rfl,_,t,_,rfl,h1,h2,_,rfl,Yh (Yh q)⟩
  obtain ⟨t,h1,h2⟩:=XY K (by simp) kx.1 hb
  obtain ⟨hz,hy⟩:=kx.2 xs hl
  have hS:xs.length≤sizeLine:=by rw [sizeLine_eq];omega
  refine ⟨_,rfl,_,t,_,rfl,h1,h2,_,rfl,Yz ?_⟩
  have n1:¬ (1≤xs.length∧xs.length≤6)→X8 H (.ref p) y z u=false:=fun q=>by
   unfold X8;rw [hl]
   cases YO H y with
   | none=>rfl
   | some ys=>
    by_cases a1:1≤xs.length
    ·have a2:¬ xs.length≤6:=fun a2=>q ⟨a1,a2⟩
     simp [a1,a2]
    ·simp [a1]
  have n2:xs.all (Zu H)=false→X8 H (.ref p) y z u=false:=fun q=>by
   unfold X8;rw [hl]
   cases YO H y with
   | none=>rfl
   | some ys=>simp only [q,Bool.and_false,Bool.false_and]
  refine ⟨_,rfl,.inl ⟨p,xs,rfl,.inl (SqL.of hp),_,_,rfl,rfl,_,rfl,?_⟩⟩
  refine Wm (fun c1=>?_) (fun c1=>?_)
  case refine_2=>
   refine ⟨_,rfl,Yh ?_⟩
   have q:=k H (.refl H)
   rw [n1 (fun q=>c1 (decide_eq_true (by omega)))] at q
   exact q
  refine ⟨_,_,rfl,rfl,_,rfl,?_⟩
  cases c2:decide ((xs.length:Int)≤6) with
  | false=>
   refine Yh ?_
   have q:=k H (.refl H)
   rw [n1 (fun q=>by have:=of_decide_eq_false c2;omega)] at q
   exact q
  | true=>
  have a1:1≤xs.length:=by have:=of_decide_eq_true c1;omega
  have a2:xs.length≤6:=by have:=of_decide_eq_true c2;omega
  refine Yz ⟨_,rfl,p,rfl,⟨xs,SqL.of hp⟩,fun D hD=>?_⟩
  refine Yc (K:=K) hD (SqL.of hp) hS (fun i v _=>∀ x,xs[i]?=some x→v=.bl (Zu H x)) (fun _ _ _ _ _ q=>q) ?_ ?_
  ·intro i x H2 N hx sm hN
   have hk:=hy x (List.mem_of_getElem? hx)
   refine ⟨_,rfl,x,rfl,hk.mono sm,fun H3 s3=>hN _ _ s3 fun x' hx'=>?_⟩
   rw [hx] at hx';cases hx'
   rw [XB sm hk.1]
  intro H2 zs hD2 sm hlen hr
  have ey:=Xi (f:=Zu H) hlen fun i v x h1 h2=>hr i v h1 x h2
  refine ⟨D,_,rfl,SqL.of (by rw [hD2,ey]),_,rfl,?_⟩
  rw [Vh]
  cases c4:xs.all (Zu H) with
  | false=>
   rw [n2 c4] at k
   exact Yh (k H2 sm)
  | true=>
  refine Yz ⟨_,rfl,.inl ⟨p,xs,rfl,.inl (SqL.of (sm _ _ hp)),?_⟩⟩
  rcases WB ky.1 with ⟨hb2,p2,ys,rfl,hp2,hl2⟩ | ⟨hb2,e⟩
  case inr=>
   obtain ⟨t,h1,h2⟩:=XY K (T := "list") (b:=false) (by simp) (ky.1.mono sm) (by rw [yF (ky.1.mono sm),X9 sm ky.1,e];rfl)
   have q:=k H2 sm
   have e2:X8 H (.ref p) y z u=false:=by unfold X8;rw [hl,e]
   rw [e2] at q
   exact ⟨_,rfl,_,t,_,rfl,h1,h2,_,rfl,Yh (Yh q)⟩
  obtain ⟨t2,h3,h4⟩:=XY K (T := "list") (b:=true) (by simp) (ky.1.mono sm) (by rw [yF (ky.1.mono sm),X9 sm ky.1,hl2];rfl)
  obtain ⟨hz2,hy2⟩:=ky.2 ys hl2
  have hS2:ys.length≤sizeLine:=by rw [sizeLine_eq];omega
  have ev:X8 H (.ref p) (.ref p2) z u=(ys.all (Xh H xs.length) && (Ya xs.length z && (decide (u=.non) || Zu H u))):=by
   unfold X8;rw [hl,hl2]
   simp only [c4,a1,a2,decide_true,Bool.true_and]
  rw [ev] at k
  refine ⟨_,rfl,_,t2,_,rfl,h3,h4,_,rfl,Yz ?_⟩
  refine ⟨_,rfl,p2,rfl,⟨ys,SqL.of (sm _ _ hp2)⟩,fun D' hD'=>?_⟩
  refine Yc (K:=K) hD' (SqL.of (sm _ _ hp2)) hS2 (fun i v _=>∀ x,ys[i]?=some x→v=.bl (Xh H xs.length x)) (fun _ _ _ _ _ q=>q) ?_ ?_
  ·intro i x H3 N hx sm3 hN
   have hk:=hy2 x (List.mem_of_getElem? hx)
   have s3:=sm.trans sm3
   refine ⟨_,rfl,_,rfl,x,_,rfl,hk.mono s3,fun H4 s4=>hN _ _ s4 fun x' hx'=>?_⟩
   rw [hx] at hx';cases hx'
   rw [xf s3 hk.1]
  intro H3 zs3 hD3 sm3 hlen3 hr3
  have s3:=sm.trans sm3
  have ey3:=Xi (f:=Xh H xs.length) hlen3 fun i v x h1 h2=>hr3 i v h1 x h2
  refine ⟨D',_,rfl,SqL.of (by rw [hD3,ey3]),_,rfl,?_⟩
  rw [Vh]
  cases c5:ys.all (Xh H xs.length) with
  | false=>
   rw [c5] at k
   exact Yh (k H3 s3)
  | true=>
  rw [c5] at k
  refine Yz ⟨_,rfl,_,rfl,z,_,rfl,kz.mono s3,_,rfl,?_⟩
  cases c6:Ya xs.length z with
  | false=>
   rw [c6] at k
   exact Yz (k H3 s3)
  | true=>
  rw [c6] at k
  refine Yh ⟨_,rfl,rfl,_,rfl,?_⟩
  cases c7:decide (u=.non) with
  | true=>
   rw [c7] at k
   exact Yh (k H3 s3)
  | false=>
  rw [c7] at k
  refine Yz ⟨_,rfl,u,rfl,ku.mono s3,fun H5 s6=>?_⟩
  rw [XB s3 ku.1]
  exact k H5 (s3.trans s6)
def qa (K:PySem.W.Frag) (a:Adr):Sp:=fun vs H Q _=>∃ p dx x y z u d,vs=[.ref p,x,y,z,u]∧H p=some (.ins a.C_Machine dx [])∧XV H x y z u d∧Wj d∧∀ H' us,Zy p H H'→XG a.C_Machine H' p d us→Q .non H'
theorem UZ {P:Program}{w:World}{K:PySem.W.Frag}{mg:Str→Option Value}{base:Heap}{a:Adr} (T:Txt K mg a) (hw:w.params=a.Pm):Yy P w K mg base CX0 5 a.Machine_init a.Machine_init_fd ["self", "signs", "moves", "start", "words"] (qa K a):=by
 have G_makes_machine:=UD (P:=P) (w:=w) (base:=base) T hw
 refine T.f_Machine_init.ok Va (fun vs H Q E h=>?_) (fun cdv A outer s H vs Q E hr h=>?_)
 ·obtain ⟨p,dx,x,y,z,u,d,rfl,_⟩:=h
  rfl
 ·obtain ⟨p,dx,x,y,z,u,d,rfl,hp,pp,gd,k⟩:=h
  refine ⟨_,(@Ze _ _ _ _ _ (@YF _ _ _ _ _ _ _ _ (@YM _ _ _ _ (Xa (ZA G_makes_machine (hr.mono (by decide)) rfl T.g_makes_machine T.f_makes_machine.kp T.n_makes_machine .nil Z4 (@Z9 _ _ _ _ _ (pv 1) (@Z9 _ _ _ _ _ (pv 2) (@Z9 _ _ _ _ _ (pv 3) (@Z9 _ _ _ _ _ (pv 4) Zb (by rfl)) (by rfl)) (by rfl)) (by rfl))))) (@Zh _ _ _ vc) ZL) (@Ze _ _ _ _ _ (Vq (pv 0) (Zr (Yv (K:=K) rfl) rfl T.b_tuple PyProof.Rows.Boot.«tuple» (@Za _ _ _ _ _ (ZV (Nc:=["names"]) (ix:=[none]) (ZD.of (by decide +kernel:ZK (Zc ZQ) ["self", "signs", "moves", "start", "words", "known"] ["names"] [none] _=true)) rfl (Zq (K:=K) rfl (pv 1)) (fun _ _ _ _ _=>(Zm (i:=0) (show List.Nodup (["names"]:List Str) by decide +kernel) rfl (Or.inl rfl))) (fun _ _ _ _ _=>ZT) (fun _ _ _ _ _=>(Zr (Yv (K:=K) rfl) rfl T.b_tuple PyProof.Rows.Boot.«tuple» (@Za _ _ _ _ _ (pv 0) Zb (by rfl))))) Zb (by rfl))) rfl) (@Ze _ _ _ _ _ (Vq (pv 0) (Zr (Yv (K:=K) rfl) rfl T.b_tuple PyProof.Rows.Boot.«tuple» (@Za _ _ _ _ _ (pv 2) Zb (by rfl))) rfl) (@Ze _ _ _ _ _ (Vq (pv 0) (pv 3) rfl) (@Ze _ _ _ _ _ (@Zt _ _ (5) _ _ _ _ Va.nd rfl (Or.inl rfl) (@ZC _ _ _ _ _ _ _ _ qI (ZV (Nc:=["move"]) (ix:=[none]) (ZD.of (by decide +kernel:ZK (Zc ZQ) ["self", "signs", "moves", "start", "words", "known"] ["move"] [none] _=true)) rfl (Zq (K:=K) rfl (pv 2)) (fun _ _ _ _ _=>(Zm (i:=0) (show List.Nodup (["move"]:List Str) by decide +kernel) rfl (Or.inl rfl))) (fun _ _ _ _ _=>ZT) (fun _ _ _ _ _=>(@ZH _ _ _ _ _ _ _ (Z0 (K:=K) rfl) (pv 0) Zg (fun _ _=>rfl)))) (xw (K:=K) rfl (pv 4) (XF (@ZR _ _ _ _ Zb)))) (by rfl) (by first | exact .inl rfl | exact .inr rfl | assumption)) (@Zh _ _ _ (Vq (pv 0) (Zr (Yv (K:=K) rfl) rfl T.b_tuple PyProof.Rows.Boot.«tuple» (@Za _ _ _ _ _ (Zk (vR hw rfl) rfl T.b_sorted PyProof.Rows.Boot.«sorted» (@Za _ _ _ _ _ (Zr (call_setU (K:=K) rfl hw rfl) rfl T.b_set PyProof.Rows.Boot.«set» (@Za _ _ _ _ _ (pv 5) Zb (by rfl))) Zb (by rfl))) Zb (by rfl))) rfl))))))),?_⟩
  obtain ⟨kx,ky,kz,ku⟩:=pp.kd gd
  have hm:=pp.makes gd
  refine ⟨_,rfl,_,rfl,_,rfl,_,rfl,x,y,z,u,rfl,kx,ky,kz,ku,fun H1 s1=>⟨_,rfl,?_⟩⟩
  rw [hm]
  refine Yz ?_
  have p1:=pp.mono s1
  have hp1:=s1 _ _ hp
  have ph:=p1.hid hp1
  have:=gd.n6
  have:=gd.ml
  have:=gd.wn.2.2
  obtain ⟨b1,v1,e1,g1,l1,q1⟩:=p1.s
  subst e1
  refine ⟨_,rfl,b1,rfl,⟨v1,SqL.of g1⟩,fun D hD=>?_⟩
  refine Yc (K:=K) hD (SqL.of g1) (by rw [sizeLine_eq];omega) (fun i v G=>∀ ss,d.signs[i]?=some ss→TS G v (id ss)) (fun i v _ _ sm q ss e=>TS.mono _ _ _ _ sm (q ss e)) ?_ ?_
  ·intro i w H2 N hx sm hN
   have hi:i<d.signs.length:=by rw [← l1];exact (List.getElem?_eq_some_iff.mp hx).1
   obtain ⟨c,rfl,ec⟩:=q1 i w _ hx (List.getElem?_eq_getElem hi)
   refine ⟨_,rfl,c,_,rfl,.inl ⟨SqL.of (sm _ _ ec),fun t ht=>?_⟩⟩
   refine hN _ _ (Zf ht) fun ss hss=>⟨t,rfl,New.mk ht ?_⟩
   rw [List.getElem?_eq_getElem hi] at hss
   cases hss
   rw [Zd];rfl
  intro H2 w1 hD2 s2 lw1 r1
  refine ⟨D,w1,rfl,.inl ⟨SqL.of hD2,fun t1 ht1=>?_⟩⟩
  have st1:=Zf (o:=.tup w1) ht1
  have hp2:=st1 _ _ (s2 _ _ hp1)
  refine ⟨_,rfl,p,_,dx,[],rfl,hp2,T.cl_Machine,T.na_Machine_room_signs,by decide,?_⟩
  have x2:Zy p H1 (upd (upd H2 t1 (.tup w1)) p (.ins a.C_Machine dx (YD "room_signs" (.ref t1) []))):=(Zj.x (s2.trans st1)).upd
  have np1:t1≠p:=fun z=>by subst z;rw [s2 _ _ hp1] at ht1;cases ht1
  have W1:LT TS (hide p (upd (upd H2 t1 (.tup w1)) p (.ins a.C_Machine dx (YD "room_signs" (.ref t1) [])))) (.ref t1) (d.signs.map id):=by
   refine UB (xs:=d.signs) (Yt np1 (by rw [Zo np1,Zd])) (lw1.trans l1) fun i v hv ss hss=>?_
   refine TS.mono _ _ _ _ ?_ (r1 i v hv ss hss)
   exact (New.hidden hp1).trans (Zy.hide ((Zj.x st1).upd))
  have hp3:(upd (upd H2 t1 (.tup w1)) p (.ins a.C_Machine dx (YD "room_signs" (.ref t1) []))) p=some (.ins a.C_Machine dx (YD "room_signs" (.ref t1) [])):=Zd
  rw [put1] at x2 W1 hp3 ⊢
  rw [List.map_id] at W1
  generalize upd (upd H2 t1 (.tup w1)) p (.ins a.C_Machine dx ([("room_signs",V.ref t1)]:List (Str × V)))=H3 at x2 W1 hp3 ⊢
  have p3:=(ph.mono x2.hide).mono YV
  obtain ⟨b2,v2,e2,g2,l2,q2⟩:=p3.m
  subst e2
  refine ⟨_,rfl,b2,v2,rfl,.inl ⟨SqL.of g2,fun t2 ht2=>?_⟩⟩
  have st2:=Zf (o:=.tup v2) ht2
  have hp4:=st2 _ _ hp3
  refine ⟨_,rfl,p,_,dx,_,rfl,hp4,T.cl_Machine,T.na_Machine_moves,by simp,?_⟩
  have x4:Zy p H3 (upd (upd H3 t2 (.tup v2)) p (.ins a.C_Machine dx (YD "moves" (.ref t2) ([("room_signs",V.ref t1)]:List (Str × V))))):=(Zj.x st2).upd
  have np2:t2≠p:=fun z=>by subst z;rw [hp3] at ht2;cases ht2
  have W2:LT TM (hide p (upd (upd H3 t2 (.tup v2)) p (.ins a.C_Machine dx (YD "moves" (.ref t2) ([("room_signs",V.ref t1)]:List (Str × V)))))) (.ref t2) d.moves:=⟨t2,v2,rfl,Yt np2 (by rw [Zo np2,Zd]),l2,fun i v m h1 h2=>TM.mono _ _ _ _ x4.hide ((q2 i v m h1 h2).hid hp3)⟩
  have hp5:(upd (upd H3 t2 (.tup v2)) p (.ins a.C_Machine dx (YD "moves" (.ref t2) ([("room_signs",V.ref t1)]:List (Str × V))))) p=some (.ins a.C_Machine dx (YD "moves" (.ref t2) ([("room_signs",V.ref t1)]:List (Str × V)))):=Zd
  have W1:=LT.mono TS.mono _ _ _ _ x4.hide W1
  rw [mput2] at x4 W1 W2 hp5 ⊢
  generalize upd (upd H3 t2 (.tup v2)) p (.ins a.C_Machine dx ([("room_signs",V.ref t1),("moves",V.ref t2)]:List (Str × V)))=H5 at x4 W1 W2 hp5 ⊢
  have x5:=x2.trans x4
  have hz:=pp.st
  subst hz
  refine ⟨_,rfl,_,rfl,p,_,dx,_,rfl,hp5,T.cl_Machine,T.na_Machine_start,by simp,?_⟩
  have x6:Zy p H5 (upd H5 p (.ins a.C_Machine dx (YD "start" (.int d.start) ([("room_signs",V.ref t1),("moves",V.ref t2)]:List (Str × V))))):=(Zj.x (.refl H5)).upd
  have hp7:(upd H5 p (.ins a.C_Machine dx (YD "start" (.int d.start) ([("room_signs",V.ref t1),("moves",V.ref t2)]:List (Str × V))))) p=some (.ins a.C_Machine dx (YD "start" (.int d.start) ([("room_signs",V.ref t1),("moves",V.ref t2)]:List (Str × V)))):=Zd
  have W1:=LT.mono TS.mono _ _ _ _ x6.hide W1
  have W2:=LT.mono TM.mono _ _ _ _ x6.hide W2
  rw [mput3] at x6 W1 W2 hp7 ⊢
  generalize upd H5 p (.ins a.C_Machine dx ([("room_signs",V.ref t1),("moves",V.ref t2),("start",V.int d.start)]:List (Str × V)))=H7 at x6 W1 W2 hp7 ⊢
  have x7:=x5.trans x6
  have p7:=(ph.mono x7.hide).mono YV
  obtain ⟨b3,v3,e3,g3,l3,q3⟩:=p7.m
  cases e3
  refine ⟨_,rfl,b2,rfl,⟨v3,SqL.of g3⟩,fun D2 hDD=>?_⟩
  refine Yc (K:=K) hDD (SqL.of g3) (by rw [sizeLine_eq];omega) (fun i v _=>∀ m,d.moves[i]?=some m→v=.str m.2.1) (fun _ _ _ _ _ q=>q) ?_ ?_
  ·intro i w H8 N hx sm hN
   have hi:i<d.moves.length:=by rw [← l3];exact (List.getElem?_eq_some_iff.mp hx).1
   obtain ⟨c,rfl,ec⟩:=q3 i w _ hx (List.getElem?_eq_getElem hi)
   refine ⟨_,rfl,c,_,_,_,rfl,rfl,SqT.of (sm _ _ ec),rfl,?_⟩
   refine hN _ _ (.refl _) fun m hm=>?_
   rw [List.getElem?_eq_getElem hi] at hm
   cases hm
   rfl
  intro H8 zs hD8 s8 lz rz
  have ez:zs=(d.moves.map fun m=>m.2.1).map V.str:=by
   refine List.ext_getElem (by simp only [List.length_map];omega) fun i h1 h2=>?_
   have hm:i<d.moves.length:=by omega
   have:=rz i _ (List.getElem?_eq_getElem h1) _ (List.getElem?_eq_getElem hm)
   rw [this]
   simp only [List.getElem_map]
  subst ez
  refine ⟨_,rfl,@qz K H8 u d.words (fun y H2=>rCat (V.ref D2) y H2 _) _ ((p7.mono s8).w) fun bb H9 s9 hbb=>?_⟩
  refine ⟨_,_,_,_,rfl,rfl,s9 _ _ hD8,hbb,by rw [sizeLine_eq];simp only [List.length_map];omega,fun l hl=>?_⟩
  have hkl:d.known.length≤60:=by unfold MD.known;rw [List.length_append,List.length_map];omega
  have sl:=Zf (o:=.lst (((d.moves.map fun m=>m.2.1).map V.str)++d.words.map V.str)) hl
  have hl1:(upd H9 l (.lst (((d.moves.map fun m=>m.2.1).map V.str)++d.words.map V.str))) l=some (.lst (d.known.map V.str)):=by rw [Zd];unfold MD.known;rw [List.map_append]
  generalize upd H9 l (.lst (((d.moves.map fun m=>m.2.1).map V.str)++d.words.map V.str))=H10 at sl hl1 ⊢
  have sA:Zj H7 H10:=s8.trans (s9.trans sl)
  refine ⟨_,rfl,l,d.known,rfl,SqL.of hl1,by omega,fun l2 hl2=>?_⟩
  refine ⟨l2,d.known,rfl,Zd,by omega,fun l3 us hl3 hs=>?_⟩
  refine ⟨l3,us.map V.str,rfl,.inl ⟨SqL.of Zd,fun t4 ht4=>?_⟩⟩
  have sB:Zj H7 (upd (upd (upd H10 l2 (SuO a.Pm l2 d.known)) l3 (.lst (us.map V.str))) t4 (.tup (us.map V.str))):=sA.trans ((Zf hl2).trans ((Zf hl3).trans (Zf ht4)))
  have ht:(upd (upd (upd H10 l2 (SuO a.Pm l2 d.known)) l3 (.lst (us.map V.str))) t4 (.tup (us.map V.str))) t4=some (.tup (us.map V.str)):=Zd
  have np4:t4≠p:=fun z=>by subst z;rw [((sA.trans (Zf hl2)).trans (Zf hl3)) _ _ hp7] at ht4;cases ht4
  generalize upd (upd (upd H10 l2 (SuO a.Pm l2 d.known)) l3 (.lst (us.map V.str))) t4 (.tup (us.map V.str))=H11 at sB ht ⊢
  refine ⟨_,rfl,p,_,dx,_,rfl,sB _ _ hp7,T.cl_Machine,T.na_Machine_words,by simp,?_⟩
  have x8:Zy p H7 (upd H11 p (.ins a.C_Machine dx (YD "words" (.ref t4) ([("room_signs",V.ref t1),("moves",V.ref t2),("start",V.int d.start)]:List (Str × V))))):=(Zj.x sB).upd
  refine k _ us ((Zj.x s1).trans (x7.trans x8)) ⟨dx,.ref t1,.ref t2,.ref t4,by rw [Zd,mput4],?_,?_,?_,hs⟩
  ·exact LT.mono TS.mono _ _ _ _ (x8.hide.trans YV) W1
  ·exact LT.mono TM.mono _ _ _ _ (x8.hide.trans YV) W2
  ·exact ⟨t4,rfl,by rw [Zo np4,ht]⟩
def qc (K:PySem.W.Frag) (a:Adr):Sp:=fun vs H Q _=>∃ (p:Addr) (ns:List Int) (j:Nat),vs=[.ref p,.int (j:Nat)]∧SqL K H p (ns.map V.int)∧∀ n:Int,Q (.int n) H
theorem U3 {P:Program}{w:World}{K:PySem.W.Frag}{mg:Str→Option Value}{base:Heap}{a:Adr} (T:Txt K mg a) (hw:w.params=a.Pm):Yy P w K mg base CX0 1 a._law_cell_at a._law_cell_at_fd ["_law_script", "_law_k"] (qc K a):=by
 refine T.f__law_cell_at.ok U0 (fun vs H Q E h=>?_) (fun cdv A outer s H vs Q E hr h=>?_)
 ·obtain ⟨p,ns,j,rfl,_⟩:=h
  rfl
 ·obtain ⟨p,ns,j,rfl,hq,k⟩:=h
  refine ⟨_,(@Ze _ _ _ _ _ (@YF _ _ _ _ _ _ _ _ (@ZJ _ _ _ _ _ _ _ _ zR (pv 1) (Zk (Zv (K:=K) rfl) rfl T.b_len PyProof.Rows.Boot.«len» (@Za _ _ _ _ _ (pv 0) Zb (by rfl))) (ZW _)) (@Zh _ _ _ (@Zx _ _ _ _ (@ZH _ _ _ _ _ _ _ (ZM (K:=K) rfl) (pv 0) (pv 1) (fun _ _=>rfl)))) ZL) (@Zh _ _ _ (@Zx _ _ _ _ Zg))),?_⟩
  refine ⟨_,rfl,_,rfl,.inl ⟨p,_,rfl,.inl hq,_,_,rfl,rfl,_,rfl,?_⟩⟩
  refine Wm (fun c=>?_) (fun _=>k 0)
  have hj:j<ns.length:=by have:=of_decide_eq_true c;rw [List.length_map] at this;omega
  exact ⟨_,rfl,_,rfl,p,_,_,_,rfl,rfl,hq,Xx (at_of hj),k _⟩
def qJ (K:PySem.W.Frag) (a:Adr):Sp:=fun vs H Q _=>∃ (c:Int) (m:Nat),vs=[.int c,.int (m:Int)]∧m≤1000∧∀ H' p (ns:List Int),Zj H H'→H p=none→H' p=some (.lst (ns.map V.int))→ns.length=m→Q (.ref p) H'
theorem Vp {P:Program}{w:World}{K:PySem.W.Frag}{mg:Str→Option Value}{base:Heap}{a:Adr} (T:Txt K mg a) (hw:w.params=a.Pm):Yy P w K mg base CX0 1 a._law_stream a._law_stream_fd ["_law_cell", "_law_many"] (qJ K a):=by
 refine T.f__law_stream.ok YG (fun vs H Q E h=>?_) (fun cdv A outer s H vs Q E hr h=>?_)
 ·obtain ⟨c,m,rfl,_⟩:=h
  rfl
 ·obtain ⟨c,m,rfl,hm,k⟩:=h
  refine ⟨_,(@Ze _ _ _ _ _ (@Zt _ _ (2) _ _ _ _ YG.nd rfl (Or.inl rfl) (@ZR _ _ _ _ Zb) (by rfl) (by first | exact .inl rfl | exact .inr rfl | assumption)) (@Ze _ _ _ _ _ (@Zt _ _ (3) _ _ _ _ YG.nd rfl (Or.inl rfl) (pv 0) (by rfl) (by first | exact .inl rfl | exact .inr rfl | assumption)) (WP (@YF _ _ _ _ _ _ _ _ (@ZJ _ _ _ _ _ _ _ _ VG (@ZC _ _ _ _ _ _ _ _ Xn (pv 0) Zg) Zg (ZW _)) (@Ze _ _ _ _ _ (@Zt _ _ (3) _ _ _ _ YG.nd rfl (Or.inl rfl) (@ZC _ _ _ _ _ _ _ _ qf (pv 0) Zg) (by rfl) (by first | exact .inl rfl | exact .inr rfl | assumption)) (@Zh _ _ _ (qW PassesOwn.never (PW.pt (xz (@ZJ _ _ _ _ _ _ _ _ op_gt (pv 3) (@ZC _ _ _ _ _ _ _ _ zn Zg Zg) (ZW _)) (ql (@ZJ _ _ _ _ _ _ _ _ zR (Zk (Zv (K:=K) rfl) rfl T.b_len PyProof.Rows.Boot.«len» (@Za _ _ _ _ _ (pv 2) Zb (by rfl))) (pv 1) (ZW _))))) (@Ze _ _ _ _ _ (@Y9 _ _ _ _ (Wu PySem.F.plainAttrs_list PySem.F.slot_list_append PySem.F.type_list_append YJ (pv 2) (@Za _ _ _ _ _ (@ZC _ _ _ _ _ _ _ _ Xn (pv 3) (@ZC _ _ _ _ _ _ _ _ zn Zg Zg)) Zb (by rfl))) (by rfl)) (@Zh _ _ _ (@Zt _ _ (3) _ _ _ _ YG.nd rfl (Or.inl rfl) (@ZC _ _ _ _ _ _ _ _ qf (pv 3) (@ZC _ _ _ _ _ _ _ _ zn Zg Zg)) (by rfl) (by first | exact .inl rfl | exact .inr rfl | assumption))))))) ZL) (@Ze _ _ _ _ _ (@Zt _ _ (4) _ _ _ _ YG.nd rfl (Or.inl rfl) (@ZC _ _ _ _ _ _ _ _ Xe (@ZC _ _ _ _ _ _ _ _ Xn (pv 3) (@ZC _ _ _ _ _ _ _ _ Xe (@ZC _ _ _ _ _ _ _ _ zn Zg Zg) Zg)) Zg) (by rfl) (by first | exact .inl rfl | exact .inr rfl | assumption)) (@Ze _ _ _ _ _ (Xo PassesOwn.never rfl (Wf rfl T.b_range (@Za _ _ _ _ _ (@ZC _ _ _ _ _ _ _ _ Xe (pv 1) Zg) Zb (by rfl))) (Zm (i:=5) YG.nd rfl (Or.inl rfl)) (@Ze _ _ _ _ _ (@Zt _ _ (4) _ _ _ _ YG.nd rfl (Or.inl rfl) (@ZC _ _ _ _ _ _ _ _ Xn (@ZC _ _ _ _ _ _ _ _ Xe (@ZC _ _ _ _ _ _ _ _ Xe (@ZC _ _ _ _ _ _ _ _ VT (pv 4) (pv 4)) (@ZC _ _ _ _ _ _ _ _ VT Zg (pv 4))) (pv 5)) (@ZC _ _ _ _ _ _ _ _ Xe (@ZC _ _ _ _ _ _ _ _ zn Zg Zg) Zg)) (by rfl) (by first | exact .inl rfl | exact .inr rfl | assumption)) (@Zh _ _ _ (@YF _ _ _ _ _ _ _ _ (@ZJ _ _ _ _ _ _ _ _ op_gt (pv 5) Zg (ZW _)) (@Zh _ _ _ (@Y9 _ _ _ _ (Wu PySem.F.plainAttrs_list PySem.F.slot_list_append PySem.F.type_list_append YJ (pv 2) (@Za _ _ _ _ _ (pv 4) Zb (by rfl))) (by rfl))) ZL)))) (@Zh _ _ _ (@Zx _ _ _ _ (vI (vj (K:=K) rfl) (pv 2) po_none (po_some (pv 1)))))))))),?_⟩
  refine ⟨by decide,fun D hD=>?_⟩
  refine ⟨_,rfl,?_⟩
  refine ⟨fun σ H'=>∃ (ns:List Int) (r:Int),σ=[some (.int c),some (.int m),some (.ref D),some (.int r),none,none]∧H' D=some (.lst (ns.map V.int))∧Zj H H'∧ns.length≤m,?_,?_⟩
  ·refine ⟨_,rfl,_,_,rfl,rfl,by decide,rfl,_,rfl,Wm (fun c1=>?_) (fun c1=>?_)⟩
   ·refine ⟨_,rfl,_,_,rfl,rfl,⟨by decide,by decide⟩,?_⟩
    refine ⟨fun n σ H'=>∃ (ns:List Int) (r:Int),σ=[some (.int c),some (.int m),some (.ref D),some (.int r),none,none]∧H' D=some (.lst (ns.map V.int))∧Zj H H'∧ns.length≤m∧n=m - ns.length,⟨m,[],_,rfl,Zd,Zf hD,Nat.zero_le _,rfl⟩,?_⟩
    rintro n σ H1 ⟨ns,r,rfl,h1,s1,hl,rfl⟩
    refine ⟨_,rfl,_,_,rfl,rfl,⟨by decide,by decide,by decide⟩,_,_,rfl,rfl,_,rfl,Wm (fun c2=>⟨_,rfl,.inl ⟨D,_,rfl,.inl (SqL.of h1),_,rfl,_,_,rfl,rfl,_,rfl,Wm (fun c3=>?body) (fun c3=>?Xc)⟩⟩) (fun c2=>Yz ?rest2)⟩
    case Xc=>exact ⟨ns,r,rfl,h1,s1,hl⟩
    case rest2=>exact ⟨ns,r,rfl,h1,s1,hl⟩
    case body=>
     have c4:ns.length<m:=by have:=of_decide_eq_true c3;rw [List.length_map] at this;omega
     refine ⟨fun σ H'=>∃ (ns':List Int) (r:Int),σ=[some (.int c),some (.int m),some (.ref D),some (.int r),none,none]∧H' D=some (.lst (ns'.map V.int))∧Zj H H'∧ns'.length=ns.length+1,?_,?_⟩
     ·rintro σ' H' ⟨ns',r',rfl,a1,a2,a3⟩
      exact ⟨m - ns'.length,by omega,ns',r',rfl,a1,a2,by omega,rfl⟩
     ·refine ⟨_,rfl,.inl ⟨rfl,_,SqL.of h1⟩,_,rfl,_,_,rfl,rfl,⟨by decide,by decide,by decide⟩,_,_,rfl,rfl,by decide,D,_,_,rfl,rfl,h1,by rw [List.length_map,sizeLine_eq];omega,?_⟩
      refine ⟨_,rfl,_,_,rfl,rfl,⟨by decide,by decide,by decide⟩,_,_,rfl,rfl,⟨by decide,by decide⟩,?_⟩
      exact ⟨ns++[_],_,rfl,by rw [Zd,List.map_append];rfl,(Zy.upd (Zj.x s1)).same hD,by simp⟩
   ·exact ⟨[],c,rfl,Zd,Zf hD,Nat.zero_le _⟩
  rintro σ H1 ⟨ns,r,rfl,h1,s1,hl⟩
  have e18:((10:Int) ^ (18:Int).toNat+9)=1000000000000000009:=by decide
  refine ⟨_,rfl,_,_,rfl,rfl,⟨by decide,by decide,by decide⟩,_,_,rfl,rfl,_,_,rfl,rfl,by decide,_,_,rfl,rfl,?_⟩
  refine ⟨_,rfl,_,_,rfl,rfl,_,rfl,by omega,by omega,?_⟩
  have e0:((m:Int)+2).toNat=m+2:=by omega
  rw [e0]
  have r0:=Int.emod_nonneg r (show (1000000000000000009:Int)≠0 by decide)
  have r1:=Int.emod_lt_of_pos r (show (0:Int)<1000000000000000009 by decide)
  refine YY (J:=Itr 0 (m+2)) (n:=m+2) (fun i σ H'=>∃ (ns':List Int) (num:Int) (z:Option V),σ=[some (.int c),some (.int m),some (.ref D),some (.int r),some (.int num),z]∧(0≤num∧num<1000000000000100000)∧H' D=some (.lst (ns'.map V.int))∧Zj H H'∧ns'.length=ns.length+(i - 2)) ?_ (fun i σ H' hi _=>hi) (fun σ H' _=>Nat.le_refl _) ?_ ?_
  ·exact ⟨ns,r % 1000000000000000009+48271,none,rfl,⟨by omega,by omega⟩,h1,s1,by simp⟩
  ·rintro i x σ H2 H3 hi ⟨ns',num,z,rfl,⟨n0,n1⟩,g1,g2,g3⟩ ⟨rfl,rfl⟩
   refine ⟨_,rfl,_,rfl,_,_,rfl,rfl,.inl ⟨by omega,by omega⟩,_,rfl,_,_,rfl,rfl,.inl ⟨by decide,by decide⟩,_,_,rfl,rfl,_,rfl,_,_,rfl,rfl,_,_,rfl,rfl,⟨by decide,by decide,by decide⟩,_,_,rfl,rfl,_,_,rfl,rfl,by decide,?_⟩
   have m0:=Int.emod_nonneg (num * num+48271 * num+(0+(i:Int))) (show ((10:Int) ^ (18:Int).toNat+9)≠0 by decide)
   have m1:=Int.emod_lt_of_pos (num * num+48271 * num+(0+(i:Int))) (show (0:Int)<((10:Int) ^ (18:Int).toNat+9) by decide)
   have m2:((10:Int) ^ (18:Int).toNat+9)<1000000000000100000:=by decide
   refine ⟨_,rfl,_,_,rfl,rfl,_,rfl,Wm (fun c1=>?_) (fun c1=>?_)⟩
   ·have c2:1<i:=by have:=of_decide_eq_true c1;omega
    refine ⟨_,rfl,.inl ⟨rfl,_,SqL.of g1⟩,_,rfl,D,_,_,rfl,rfl,g1,by rw [List.length_map,sizeLine_eq];omega,?_⟩
    exact ⟨ns'++[_],_,_,rfl,⟨m0,Int.lt_trans m1 m2⟩,by rw [Zd,List.map_append];rfl,(Zy.upd (Zj.x g2)).same hD,by rw [List.length_append,g3];show _+1=_;omega⟩
   ·have c2:¬ 1<i:=fun q=>c1 (decide_eq_true (by omega))
    exact ⟨ns',_,_,rfl,⟨m0,Int.lt_trans m1 m2⟩,g1,g2,by rw [g3];omega⟩
  ·rintro σ H2 ⟨ns',num,z,rfl,_,g1,g2,g3⟩
   refine ⟨_,rfl,?_⟩
   refine ⟨_,rfl,m,rfl,D,_,rfl,SqL.of g1,fun p hp=>?_⟩
   refine k _ p (ns'.take m) (g2.trans (Zf hp)) (g2.free hp) ?_ (by rw [List.length_take];omega)
   rw [Zd,cutV_to _ m (by rw [List.length_map];omega),List.map_take]
theorem jn (x:Int) (k n:Nat):WC x k n ≠ "zyx" := fun e=>by
 have h:=congrArg (fun s:Str=>s.cps.toList) e
 simp only [VO] at h
 have h2:List.replicate n (97+((x+7 * (k:Int)) % 26).toNat)=[122,121,120]:=h
 have a1:122∈List.replicate n (97+((x+7 * (k:Int)) % 26).toNat):=by rw [h2];simp
 have a2:121∈List.replicate n (97+((x+7 * (k:Int)) % 26).toNat):=by rw [h2];simp
 have b1:=(List.mem_replicate.mp a1).2
 have b2:=(List.mem_replicate.mp a2).2
 omega
def zA (K:PySem.W.Frag) (a:Adr):Sp:=fun vs H Q _=>∃ (c:Int),vs=[.int c]∧∀ H' p (ss:List Str),Zj H H'→H p=none→H' p=some (.lst (ss.map V.str))→ss.length=3→(∀ x∈ss,Zw x=true)→ss.Nodup→(∀ x∈ss,x ≠ "zyx")→Q (.ref p) H'
theorem zC {P:Program}{w:World}{K:PySem.W.Frag}{mg:Str→Option Value}{base:Heap}{a:Adr} (T:Txt K mg a) (hw:w.params=a.Pm):Yy P w K mg base CX0 2 a._law_names a._law_names_fd ["_law_cell"] (zA K a):=by
 have G__law_stream:=Vp (P:=P) (w:=w) (base:=base) T hw
 refine T.f__law_names.ok WE (fun vs H Q E h=>?_) (fun cdv A outer s H vs Q E hr h=>?_)
 ·obtain ⟨c,rfl,_⟩:=h
  rfl
 ·obtain ⟨c,rfl,k⟩:=h
  refine ⟨_,(@Ze _ _ _ _ _ (@Zt _ _ (1) _ _ _ _ WE.nd rfl (Or.inr rfl) Xm (by rfl) (by first | exact .inl rfl | exact .inr rfl | assumption)) (@Ze _ _ _ _ _ (@Zt _ _ (2) _ _ _ _ WE.nd rfl (Or.inr rfl) (ZA G__law_stream (hr.mono (by decide)) rfl T.g__law_stream T.f__law_stream.kp T.n__law_stream .nil Z4 (@Za _ _ _ _ _ (pv 0) (@Za _ _ _ _ _ Zg Zb (by rfl)) (by rfl))) (by rfl) (by first | exact .inl rfl | exact .inr rfl | assumption)) (@Zh _ _ _ (@Zx _ _ _ _ (ZV (Nc:=["_law_k", "_law_letters", "_law_xs"]) (ix:=[none,some 1,some 2]) (ZD.of (by decide +kernel:ZK (Zc Yq) ["_law_cell", "_law_letters", "_law_xs"] ["_law_k", "_law_letters", "_law_xs"] [none,some 1,some 2] _=true)) rfl (Wf rfl T.b_range (@Za _ _ _ _ _ Zg Zb (by rfl))) (fun _ _ _ _ _=>(Zm (i:=0) (show List.Nodup (["_law_k", "_law_letters", "_law_xs"]:List Str) by decide +kernel) rfl (Or.inl rfl))) (fun _ _ _ _ _=>ZT) (fun _ _ _ _ _=>(@ZC _ _ _ _ _ _ _ _ op_repS (@ZH _ _ _ _ _ _ _ ix_str (pv 1) (@ZC _ _ _ _ _ _ _ _ Xn (@ZC _ _ _ _ _ _ _ _ Xe (@ZH _ _ _ _ _ _ _ (ZM (K:=K) rfl) (pv 2) Zg (fun _ _=>rfl)) (@ZC _ _ _ _ _ _ _ _ VT Zg (pv 0))) Zg) (fun _ _=>rfl)) (@ZC _ _ _ _ _ _ _ _ Xe Zg (@ZC _ _ _ _ _ _ _ _ Xn (@ZH _ _ _ _ _ _ _ (ZM (K:=K) rfl) (pv 2) (@ZC _ _ _ _ _ _ _ _ Xe Zg (pv 0)) (fun _ _=>rfl)) Zg))))))))),?_⟩
  refine ⟨_,rfl,c,4,rfl,by decide,fun H1 X ns s1 hX1 hX hl=>?_⟩
  refine ⟨_,rfl,by decide,by decide,fun D hD=>?_⟩
  have hx:∀ j:Nat,(hj:j<4)→atI (ns.map V.int) (j:Int)=some (.int (ns[j]'(by omega))):=fun j hj=>Xx (by rw [List.getElem?_map,List.getElem?_eq_getElem (by omega)];rfl)
  refine Xw (J:=Itr 0 3) (n:=3) (fun i σ H'=>∃ (z:Option V) (ss:List Str),σ=[z,some (.str "abcdefghijklmnopqrstuvwxyz"),some (.ref X)]∧Zj H1 H'∧H' D=some (.lst (ss.map V.str))∧ss.length=i∧∀ (j:Nat) y,ss[j]?=some y→∃ n:Nat,1≤n∧n≤8∧y=WC (ns[0]'(by omega)) j n) ?_ (fun i σ H' hi _=>hi) (fun σ H' _=>Nat.le_refl _) ?_ ?_
  ·exact ⟨_,[],rfl,Zf hD,Zd,rfl,fun j y e=>by simp at e⟩
  ·rintro i x σ H' H2 hi ⟨z,ss,rfl,sm,hD2,hlen,hy⟩ ⟨rfl,rfl⟩ N N0 hN hN0
   have hXm:=SqL.of (K:=K) (sm _ _ hX)
   have h8:=Int.emod_nonneg (ns[1+i]'(by omega)) (show (8:Int)≠0 by decide)
   have h9:=Int.emod_lt_of_pos (ns[1+i]'(by omega)) (show (0:Int)<8 by decide)
   obtain ⟨n8,e8⟩:=Int.eq_ofNat_of_zero_le h8
   refine ⟨_,rfl,_,rfl,X,_,_,_,rfl,rfl,hXm,hx 0 (by omega),_,rfl,_,_,rfl,rfl,.inl ⟨by decide,by decide⟩,_,_,rfl,rfl,_,_,rfl,rfl,by decide,?_⟩
   refine ⟨_,_,_,rfl,rfl,by rw [sizeLine_eq];decide,letter_is _,?_⟩
   have ei:(1:Int)+(0+(i:Int))=((1+i:Nat):Int):=by omega
   refine ⟨_,rfl,_,rfl,_,_,rfl,rfl,X,_,_,_,rfl,rfl,hXm,by rw [ei];exact hx (1+i) (by omega),_,_,rfl,rfl,by decide,_,_,rfl,rfl,?_⟩
   have en:(1:Int)+ns[1+i]'(by omega) % 8=((1+n8:Nat):Int):=by omega
   have ek:(97+((ns[0]'(by omega)+7 * (0+(i:Int))) % 26).toNat)=(97+((ns[0]'(by omega)+7 * (i:Int)) % 26).toNat):=by rw [Int.zero_add]
   refine ⟨_,1+n8,rfl,congrArg V.int en,by omega,(by show 1 * (1+n8)≤4096;omega),by omega,?_⟩
   rw [ek]
   refine hN _ _ _ _ hD2 (by rw [List.length_map,sizeLine_eq];omega) ⟨_,ss++[WC (ns[0]'(by omega)) i (1+n8)],rfl,(Zy.upd (Zj.x sm)).same hD,by rw [Zd,List.map_append];rfl,by rw [List.length_append,hlen];rfl,fun j y e=>?_⟩
   rw [List.getElem?_append] at e
   split at e
   ·exact hy j y e
   ·have hj:j=i:=by
     cases hq:j - ss.length with
     | zero=>omega
     | succ q=>rw [hq] at e;cases e
    subst hj
    rw [hlen,Nat.sub_self] at e
    cases e
    exact ⟨1+n8,by omega,by omega,rfl⟩
  ·rintro σ H' ⟨z,ss,rfl,sm,hD2,hlen,hy⟩
   have ok:∀ (j:Nat) y,ss[j]?=some y→Zw y=true:=fun j y e=>by
    obtain ⟨n,a1,a2,rfl⟩:=hy j y e
    exact nameAt_ok a1 a2
   refine k H' D ss (s1.trans sm) (s1.free hD) hD2 hlen (fun x m=>?_) ?_ (fun x m=>?_)
   ·obtain ⟨j,hj,rfl⟩:=List.getElem_of_mem m
    exact ok j _ (List.getElem?_eq_getElem hj)
   ·refine List.pairwise_iff_getElem.mpr fun i j hi hj hij=>?_
    obtain ⟨n,a1,a2,e1⟩:=hy i _ (List.getElem?_eq_getElem hi)
    obtain ⟨m,b1,b2,e2⟩:=hy j _ (List.getElem?_eq_getElem hj)
    rw [e1,e2]
    exact nameAt_ne a1 hij (by omega)
   ·obtain ⟨j,hj,rfl⟩:=List.getElem_of_mem m
    obtain ⟨n,a1,a2,e⟩:=hy j _ (List.getElem?_eq_getElem hj)
    rw [e]
    exact jn _ _ _
structure SmallM (d:MD):Prop where
 s:∀ ss∈d.signs,ss.length≤7
 k:d.known.length≤12
theorem UP {D:Addr}{H0 H G:Hp}{u:HO} (sg:Zj H G):Zj (hide D (New H0 H)) (hide D (New H0 (upd G D u))):=fun b o hb=>by
 obtain ⟨nb,hb⟩:=WT hb
 obtain ⟨h1,h2⟩:=New.of hb
 exact Yt nb (New.mk h1 (by rw [Zo nb];exact sg _ _ h2))
def qd (K:PySem.W.Frag) (a:Adr):Sp:=fun vs H Q _=>∃ (q:Addr) (ss:List Str) (c:Int) (m:Nat),vs=[.ref q,.int c,.int (m:Int)]∧H q=some (.lst (ss.map V.str))∧ss.length=3∧(∀ x∈ss,Zw x=true)∧ss.Nodup∧m≤7∧∀ H' t x y z u d,Zj H H'→H t=none→H' t=some (.tup [x,y,z,u])→XV (New H H') x y z u d→Wj d→SmallM d→Q (.ref t) H'
theorem U2 {P:Program}{w:World}{K:PySem.W.Frag}{mg:Str→Option Value}{base:Heap}{a:Adr} (T:Txt K mg a) (hw:w.params=a.Pm):Yy P w K mg base CX0 2 a._law_machine a._law_machine_fd ["_law_names_here", "_law_cell", "_law_most"] (qd K a):=by
 have G__law_stream:=Vp (P:=P) (w:=w) (base:=base) T hw
 refine T.f__law_machine.ok Yi (fun vs H Q E h=>?_) (fun cdv A outer s H vs Q E hr h=>?_)
 ·obtain ⟨q,ss,c,m,rfl,_⟩:=h
  rfl
 ·obtain ⟨q,ss,c,m,rfl,hq,hl,hn,hnd,hm,k⟩:=h
  refine ⟨_,(@Ze _ _ _ _ _ (@Zt _ _ (3) _ _ _ _ Yi.nd rfl (Or.inr rfl) (ZA G__law_stream (hr.mono (by decide)) rfl T.g__law_stream T.f__law_stream.kp T.n__law_stream .nil Z4 (@Za _ _ _ _ _ (pv 1) (@Za _ _ _ _ _ Zg Zb (by rfl)) (by rfl))) (by rfl) (by first | exact .inl rfl | exact .inr rfl | assumption)) (@Ze _ _ _ _ _ (@Zt _ _ (4) _ _ _ _ Yi.nd rfl (Or.inl rfl) (@ZC _ _ _ _ _ _ _ _ Xe Zg (@ZC _ _ _ _ _ _ _ _ Xn (@ZH _ _ _ _ _ _ _ (ZM (K:=K) rfl) (pv 3) Zg (fun _ _=>rfl)) (@ZH _ _ _ _ _ _ _ (ZM (K:=K) rfl) (@ZR _ _ _ _ (@Z9 _ _ _ _ _ Zg (@Z9 _ _ _ _ _ Zg (@Z9 _ _ _ _ _ Zg (@Z9 _ _ _ _ _ Zg Zb (by rfl)) (by rfl)) (by rfl)) (by rfl))) (@ZC _ _ _ _ _ _ _ _ Xn (@ZH _ _ _ _ _ _ _ (ZM (K:=K) rfl) (pv 3) Zg (fun _ _=>rfl)) Zg) (fun _ _=>rfl)))) (by rfl) (by first | exact .inl rfl | exact .inr rfl | assumption)) (@Ze _ _ _ _ _ (@Zt _ _ (5) _ _ _ _ Yi.nd rfl (Or.inl rfl) (@ZR _ _ _ _ (@Z9 _ _ _ _ _ Xm (@Z9 _ _ _ _ _ Xm (@Z9 _ _ _ _ _ Xm (@Z9 _ _ _ _ _ Xm Zb (by rfl)) (by rfl)) (by rfl)) (by rfl))) (by rfl) (by first | exact .inl rfl | exact .inr rfl | assumption)) (@Ze _ _ _ _ _ (@Zt _ _ (6) _ _ _ _ Yi.nd rfl (Or.inl rfl) (@ZR _ _ _ _ Zb) (by rfl) (by first | exact .inl rfl | exact .inr rfl | assumption)) (@Ze _ _ _ _ _ (Xo PassesOwn.never rfl (Wf rfl T.b_range (@Za _ _ _ _ _ (pv 4) Zb (by rfl))) (Zm (i:=7) Yi.nd rfl (Or.inr rfl)) (@Zh _ _ _ (@Y9 _ _ _ _ (Wu PySem.F.plainAttrs_list PySem.F.slot_list_append PySem.F.type_list_append YJ (pv 6) (@Za _ _ _ _ _ (ZV (Nc:=["_law_k", "_law_name", "_law_xs", "_law_room"]) (ix:=[none,none,some 3,some 7]) (ZD.of (by decide +kernel:ZK (Zc Z3) ["_law_names_here", "_law_cell", "_law_most", "_law_xs", "_law_many", "_law_words", "_law_signs", "_law_room", "_law_moves", "_law_k", "_law_more"] ["_law_k", "_law_name", "_law_xs", "_law_room"] [none,none,some 3,some 7] _=true)) rfl (pi_enumK (K:=K) rfl rfl T.b_enumerate (@Za _ _ _ _ _ (pv 0) Zb (by rfl))) (fun _ _ _ _ _=>(XU (K:=K) (n:=2) rfl rfl (ZF (Zm (i:=0) (show List.Nodup (["_law_k", "_law_name", "_law_xs", "_law_room"]:List Str) by decide +kernel) rfl (Or.inl rfl)) (ZF (Zm (i:=1) (show List.Nodup (["_law_k", "_law_name", "_law_xs", "_law_room"]:List Str) by decide +kernel) rfl (Or.inl rfl)) XX)))) (fun _ _ _ _ _=>(qg (@ZJ _ _ _ _ _ _ _ _ VG (@ZC _ _ _ _ _ _ _ _ Xn (@ZC _ _ _ _ _ _ _ _ qf (@ZH _ _ _ _ _ _ _ (ZM (K:=K) rfl) (pv 2) (@ZC _ _ _ _ _ _ _ _ Xe Zg (pv 3)) (fun _ _=>rfl)) (@ZH _ _ _ _ _ _ _ (Z0 (K:=K) rfl) (@Wb _ _ _ _ _ (@Z9 _ _ _ _ _ Zg (@Z9 _ _ _ _ _ Zg (@Z9 _ _ _ _ _ Zg Zb (by rfl)) (by rfl)) (by rfl))) (pv 0) (fun _ _=>rfl))) Zg) Zg (ZW _)))) (fun _ _ _ _ _=>(pv 1))) Zb (by rfl))) (by rfl)))) (@Ze _ _ _ _ _ (@Zt _ _ (8) _ _ _ _ Yi.nd rfl (Or.inl rfl) (@ZR _ _ _ _ Zb) (by rfl) (by first | exact .inl rfl | exact .inr rfl | assumption)) (@Ze _ _ _ _ _ (Xo PassesOwn.never rfl (Wf rfl T.b_range (@Za _ _ _ _ _ (@ZC _ _ _ _ _ _ _ _ Xn (@ZH _ _ _ _ _ _ _ (ZM (K:=K) rfl) (pv 3) Zg (fun _ _=>rfl)) (@ZC _ _ _ _ _ _ _ _ Xe Zg (pv 2))) Zb (by rfl))) (Zm (i:=9) Yi.nd rfl (Or.inl rfl)) (@Zh _ _ _ (@Y9 _ _ _ _ (Wu PySem.F.plainAttrs_list PySem.F.slot_list_append PySem.F.type_list_append YJ (pv 8) (@Za _ _ _ _ _ (@Wb _ _ _ _ _ (@Z9 _ _ _ _ _ (@ZC _ _ _ _ _ _ _ _ Xn (@ZH _ _ _ _ _ _ _ (ZM (K:=K) rfl) (pv 3) (@ZC _ _ _ _ _ _ _ _ Xe Zg (@ZC _ _ _ _ _ _ _ _ VT Zg (pv 9))) (fun _ _=>rfl)) (pv 4)) (@Z9 _ _ _ _ _ (@ZH _ _ _ _ _ _ _ (ZM (K:=K) rfl) (pv 5) (@ZC _ _ _ _ _ _ _ _ Xn (@ZH _ _ _ _ _ _ _ (ZM (K:=K) rfl) (pv 3) (@ZC _ _ _ _ _ _ _ _ Xe Zg (@ZC _ _ _ _ _ _ _ _ VT Zg (pv 9))) (fun _ _=>rfl)) Zg) (fun _ _=>rfl)) (@Z9 _ _ _ _ _ (@ZC _ _ _ _ _ _ _ _ Xn (@ZH _ _ _ _ _ _ _ (ZM (K:=K) rfl) (pv 3) (@ZC _ _ _ _ _ _ _ _ Xe Zg (@ZC _ _ _ _ _ _ _ _ VT Zg (pv 9))) (fun _ _=>rfl)) (pv 4)) Zb (by rfl)) (by rfl)) (by rfl))) Zb (by rfl))) (by rfl)))) (@Ze _ _ _ _ _ (@Zt _ _ (10) _ _ _ _ Yi.nd rfl (Or.inl rfl) (@ZH _ _ _ _ _ _ _ (ZM (K:=K) rfl) (@ZR _ _ _ _ (@Z9 _ _ _ _ _ yN (@Z9 _ _ _ _ _ (@ZR _ _ _ _ Zb) (@Z9 _ _ _ _ _ (@ZR _ _ _ _ (@Za _ _ _ _ _ Xm Zb (by rfl))) (@Z9 _ _ _ _ _ (@ZR _ _ _ _ (@Z9 _ _ _ _ _ Xm (@Z9 _ _ _ _ _ Xm (@Z9 _ _ _ _ _ Xm Zb (by rfl)) (by rfl)) (by rfl))) Zb (by rfl)) (by rfl)) (by rfl)) (by rfl))) (@ZC _ _ _ _ _ _ _ _ Xn (@ZH _ _ _ _ _ _ _ (ZM (K:=K) rfl) (pv 3) Zg (fun _ _=>rfl)) Zg) (fun _ _=>rfl)) (by rfl) (by first | exact .inl rfl | exact .inr rfl | assumption)) (@Zh _ _ _ (@Zx _ _ _ _ (@Wb _ _ _ _ _ (@Z9 _ _ _ _ _ (pv 6) (@Z9 _ _ _ _ _ (pv 8) (@Z9 _ _ _ _ _ (@ZC _ _ _ _ _ _ _ _ Xn (@ZH _ _ _ _ _ _ _ (ZM (K:=K) rfl) (pv 3) Zg (fun _ _=>rfl)) (pv 4)) (@Z9 _ _ _ _ _ (pv 10) Zb (by rfl)) (by rfl)) (by rfl)) (by rfl))))))))))))),?_⟩
  refine ⟨_,rfl,c,50,rfl,by decide,fun H1 X ns s1 hX1 hX hlx=>?_⟩
  have hx:∀ j:Nat,(hj:j<50)→atI (ns.map V.int) (j:Int)=some (.int (ns[j]'(by omega))):=fun j hj=>Xx (by rw [List.getElem?_map,List.getElem?_eq_getElem (by omega)];rfl)
  have hX0:=SqL.of (K:=K) hX
  refine ⟨_,rfl,X,_,_,_,rfl,rfl,hX0,hx 0 (by omega),by rw [sizeLine_eq];decide,fun l hl0=>?_⟩
  have sl:=Zf (o:=.lst [.int 2,.int 3,.int 3,.int 6]) hl0
  have el:(upd H1 l (.lst [.int 2,.int 3,.int 3,.int 6])) l=some (.lst [.int 2,.int 3,.int 3,.int 6]):=Zd
  generalize upd H1 l (.lst [.int 2,.int 3,.int 3,.int 6])=H2 at sl el ⊢
  obtain ⟨b,hb,hb1,hb2⟩:∃ b:Int,atI [V.int 2,.int 3,.int 3,.int 6] (ns[1]'(by omega) % 4)=some (.int b)∧2≤b∧b≤6:=by
   obtain ⟨_,v,hv,hvm⟩:=xo (ts:=[V.int 2,.int 3,.int 3,.int 6]) (ns[1]'(by omega)) (by simp)
   simp only [List.mem_cons,List.not_mem_nil,or_false] at hvm
   rcases hvm with rfl | rfl | rfl | rfl
   ·exact ⟨_,hv,by decide,by decide⟩
   ·exact ⟨_,hv,by decide,by decide⟩
   ·exact ⟨_,hv,by decide,by decide⟩
   ·exact ⟨_,hv,by decide,by decide⟩
  refine ⟨_,rfl,X,_,_,_,rfl,rfl,sl.seq hX0,hx 1 (by omega),_,_,rfl,rfl,by decide,l,_,_,_,rfl,rfl,SqL.of el,hb,_,_,rfl,rfl,by omega,_,_,rfl,rfl,?_⟩
  have m0:=Int.emod_nonneg (ns[0]'(by omega)) (show b≠0 by omega)
  have m1:=Int.emod_lt_of_pos (ns[0]'(by omega)) (show 0<b by omega)
  obtain ⟨j,ej⟩:=Int.eq_ofNat_of_zero_le m0
  rw [ej] at m1 ⊢
  have hj:j<6:=by omega
  have ej1:(1:Int)+(j:Int)=((1+j:Nat):Int):=by omega
  rw [ej1]
  generalize hM:1+j=M at ej1
  have hM1:1≤M:=by omega
  have hM6:M≤6:=by omega
  clear hM ej1 hj m0 m1 hb hb1 hb2 el hl0
  have s2:=s1.trans sl
  refine ⟨by rw [sizeLine_eq];decide,fun W hW0=>?_⟩
  have sW:=Zf (o:=.lst [.str "go",.str "a",.str "stop",.str "zz"]) hW0
  have eW:(upd H2 W (.lst [.str "go",.str "a",.str "stop",.str "zz"])) W=some (.lst [.str "go",.str "a",.str "stop",.str "zz"]):=Zd
  generalize upd H2 W (.lst [.str "go",.str "a",.str "stop",.str "zz"])=H3 at sW eW ⊢
  have s3:=s2.trans sW
  have hX3:=(sl.trans sW) _ _ hX
  refine ⟨by rw [sizeLine_eq];decide,fun S hS0=>?_⟩
  refine ⟨_,rfl,_,rfl,by omega,by omega,?_⟩
  rw [show ((M:Int)).toNat=M by omega]
  refine YY (J:=Itr 0 M) (n:=M) (fun i σ H'=>∃ (z:Option V) (vs:List V) (sg:List (List Str)),σ=[some (.ref q),some (.int c),some (.int m),some (.ref X),some (.int M),some (.ref W),some (.ref S),z,none,none,none]∧Zj H3 H'∧H' S=some (.lst vs)∧vs.length=i∧sg.length=i∧(∀ (j:Nat) v s,vs[j]?=some v→sg[j]?=some s→LS (hide S (New H3 H')) v s)∧∀ s∈sg,s.Sublist ss) ?_ (fun i σ H' hi _=>hi) (fun σ H' _=>Nat.le_refl _) ?_ ?_
  ·exact ⟨_,[],[],rfl,Zf hS0,Zd,rfl,rfl,(fun j v s e=>by simp at e),(fun s e=>by cases e)⟩
  ·rintro i x σ H' H4 hi ⟨z,vs,sg,rfl,sm,hS,lv,lg,hh,hsub⟩ ⟨rfl,rfl⟩
   have hq4:=(s3.trans sm) _ _ hq
   have hX4:=SqL.of (K:=K) (sm _ _ hX3)
   refine ⟨_,rfl,.inl ⟨rfl,_,SqL.of hS⟩,_,rfl,q,ss.map V.str,rfl,.inl hq4,fun D hD=>?_⟩
   refine Xw (J:=Ite K q) (n:=ss.length) (fun n σ G=>∃ (z1 z2:Option V) (ys:List Str),σ=[z1,z2,some (.ref X),some (.int (0+(i:Int)))]∧Zj H4 G∧G D=some (.lst (ys.map V.str))∧ys.Sublist (ss.take n)) ?_ ?_ ?_ ?_ ?_
   ·exact ⟨_,_,[],rfl,Zf hD,Zd,by simp⟩
   ·rintro n σ G hn' ⟨z1,z2,ys,rfl,sg4,hl4,sb⟩
    exact ⟨_,_,SqL.of (sg4 _ _ hq4),by rw [List.getElem?_map,List.getElem?_eq_getElem hn'];rfl⟩
   ·rintro σ G ⟨z1,z2,ys,rfl,sg4,hl4,sb⟩
    exact ⟨_,SqL.of (sg4 _ _ hq4),by rw [List.length_map];exact Nat.le_refl _⟩
   ·rintro n x σ G G2 hn' ⟨z1,z2,ys,rfl,sg4,hl4,sb⟩ ⟨pr,v,rfl,hpr,rfl,hxv⟩ N N0 hN hN0
    have e:=hxv _ (SqL.of (sg4 _ _ hq4))
    rw [List.getElem?_map,List.getElem?_eq_getElem hn'] at e
    have e':v=.str ss[n]:=(Option.some.inj e).symm
    subst e'
    have s5:=Zf (o:=.tup [.int n,.str ss[n]]) hpr
    refine ⟨pr,[.int n,.str ss[n]],rfl,SqT.of Zd,rfl,_,_,rfl,_,_,rfl,rfl,?_⟩
    generalize upd G pr (.tup [.int n,.str ss[n]])=G3 at s5 ⊢
    have ei:(2:Int)+(0+(i:Int))=((2+i:Nat):Int):=by omega
    refine ⟨_,rfl,_,rfl,_,_,rfl,rfl,X,_,_,_,rfl,rfl,s5.seq (sg4.seq hX4),by rw [ei];exact hx (2+i) (by omega),?_⟩
    refine ⟨by rw [sizeLine_eq];decide,fun t ht=>?_⟩
    have s6:=Zf (o:=.tup [.int 1,.int 2,.int 4]) ht
    have e6:(upd G3 t (.tup [.int 1,.int 2,.int 4])) t=some (.tup [.int 1,.int 2,.int 4]):=Zd
    generalize upd G3 t (.tup [.int 1,.int 2,.int 4])=G4 at s6 e6 ⊢
    obtain ⟨b,hb,hb1,hb2⟩:∃ b:Int,atI [V.int 1,.int 2,.int 4] (n:Int)=some (.int b)∧0<b∧b<5:=by
     have:n<3:=by omega
     rcases (by omega:n=0∨n=1∨n=2) with rfl | rfl | rfl
     ·exact ⟨1,rfl,by decide,by decide⟩
     ·exact ⟨2,rfl,by decide,by decide⟩
     ·exact ⟨4,rfl,by decide,by decide⟩
    refine ⟨_,rfl,t,_,_,_,rfl,rfl,SqT.of e6,hb,_,_,rfl,rfl,⟨hb1,by omega⟩,_,_,rfl,rfl,by decide,rfl,_,rfl,Wm (fun c1=>?_) (fun c1=>?_)⟩
    ·refine ⟨_,rfl,hN _ _ _ _ ((s5.trans s6) _ _ hl4) ?_ ⟨_,_,ys++[ss[n]],rfl,?_,by rw [Zd,List.map_append];rfl,take_push sb (List.getElem?_eq_getElem hn')⟩⟩
     ·have:=sb.length_le;rw [List.length_take] at this;rw [List.length_map,sizeLine_eq];omega
     ·exact (Zy.upd (Zj.x (sg4.trans (s5.trans s6)))).same hD
    ·exact hN0 _ _ ⟨_,_,ys,rfl,sg4.trans (s5.trans s6),(s5.trans s6) _ _ hl4,take_keep sb⟩
   ·rintro σ G ⟨z1,z2,ys,rfl,sg4,hl4,sb⟩
    rw [List.take_length] at sb
    refine ⟨S,vs,_,rfl,rfl,sg4 _ _ hS,by rw [sizeLine_eq];omega,?_⟩
    have nDS:D≠S:=fun e=>by rw [e,hS] at hD;cases hD
    refine ⟨_,vs++[.ref D],sg++[ys],rfl,(Zy.upd (Zj.x (sm.trans sg4))).same hS0,Zd,by rw [List.length_append,lv];rfl,by rw [List.length_append,lg];rfl,fun j v s e1 e2=>?_,fun s hs=>?_⟩
    ·rw [List.getElem?_append] at e1 e2
     rw [lv] at e1;rw [lg] at e2
     split at e1
     ·rename_i hj
      rw [if_pos hj] at e2
      exact LS.mono _ _ _ _ (UP sg4) (hh j v s e1 e2)
     ·rename_i hj
      rw [if_neg hj] at e2
      cases hjj:j - i with
      | zero=>
       rw [hjj] at e1 e2;cases e1;cases e2
       exact ⟨D,rfl,Yt nDS (New.mk (sm.free hD) (by rw [Zo nDS];exact hl4))⟩
      | succ q=>rw [hjj] at e1;cases e1
    ·rcases List.mem_append.mp hs with hs | hs
     ·exact hsub s hs
     ·cases List.mem_singleton.mp hs;exact sb
  ·rintro σ H4 ⟨z0,vs,sg,rfl,sm,hS,lv,lg,hh,hsub⟩
   have hX4:=sm _ _ hX3
   have eW4:=sm _ _ eW
   have S0:H S=none:=s3.free hS0
   refine ⟨by rw [sizeLine_eq];decide,fun B hB0=>?_⟩
   refine ⟨_,rfl,X,_,_,_,rfl,rfl,SqL.of (Zf hB0 _ _ hX4),hx 9 (by omega),_,rfl,_,_,rfl,rfl,_,_,rfl,rfl,by omega,?_⟩
   have r0:=Int.emod_nonneg (ns[9]'(by omega)) (show (1+(m:Int))≠0 by omega)
   have r1:=Int.emod_lt_of_pos (ns[9]'(by omega)) (show 0<(1+(m:Int)) by omega)
   obtain ⟨r,er⟩:=Int.eq_ofNat_of_zero_le r0
   rw [er] at r1
   refine ⟨_,congrArg (fun z=>[V.int z]) er,by omega,by omega,?_⟩
   rw [show ((r:Int)).toNat=r by omega]
   have hr7:r≤7:=by omega
   have nBS:S≠B:=fun e=>by rw [e,hB0] at hS;cases hS
   have SB:∀ {G:Hp},Zj H4 G→Zy S (hide S H4) G:=fun sg=>(fun b o n e=>sg _ _ (by obtain ⟨_,e2⟩:=WT e;exact e2))
   refine YY (J:=Itr 0 r) (n:=r) (fun i σ H'=>∃ (z:Option V) (ws:List V) (ms:List (Int × Str × Int)),σ=[some (.ref q),some (.int c),some (.int m),some (.ref X),some (.int M),some (.ref W),some (.ref S),z0,some (.ref B),z,none]∧Zj H4 H'∧H' B=some (.lst ws)∧ws.length=i∧ms.length=i∧(∀ (j:Nat) v s,ws[j]?=some v→ms[j]?=some s→TM (hide B (New H4 H')) v s)∧∀ s∈ms,(0≤s.1∧s.1<M)∧Zw s.2.1=true∧(0≤s.2.2∧s.2.2<M)) ?_ (fun i σ H' hi _=>hi) (fun σ H' _=>Nat.le_refl _) ?_ ?_
   ·exact ⟨_,[],[],rfl,Zf hB0,Zd,rfl,rfl,(fun j v s e=>by simp at e),(fun s e=>by cases e)⟩
   ·rintro i x σ H5 H6 hi ⟨z,ws,ms,rfl,sm5,hB,lw,lm,hh2,hb2⟩ ⟨rfl,rfl⟩
    have hX5:=SqL.of (K:=K) (sm5 _ _ hX4)
    have e10:(10:Int)+3 * (0+(i:Int))=((10+3 * i:Nat):Int):=by omega
    have e11:(11:Int)+3 * (0+(i:Int))=((11+3 * i:Nat):Int):=by omega
    have e12:(12:Int)+3 * (0+(i:Int))=((12+3 * i:Nat):Int):=by omega
    obtain ⟨wd,hwd,hwn⟩:∃ wd:Str,atI [V.str "go",.str "a",.str "stop",.str "zz"] (ns[11+3 * i]'(by omega) % 4)=some (.str wd)∧Zw wd=true:=by
     obtain ⟨_,v,hv,hvm⟩:=xo (ts:=[V.str "go",.str "a",.str "stop",.str "zz"]) (ns[11+3 * i]'(by omega)) (by simp)
     simp only [List.mem_cons,List.not_mem_nil,or_false] at hvm
     rcases hvm with rfl | rfl | rfl | rfl
     ·exact ⟨_,hv,by decide +kernel⟩
     ·exact ⟨_,hv,by decide +kernel⟩
     ·exact ⟨_,hv,by decide +kernel⟩
     ·exact ⟨_,hv,by decide +kernel⟩
    refine ⟨_,rfl,.inl ⟨rfl,_,SqL.of hB⟩,_,rfl,_,rfl,_,_,rfl,rfl,.inl ⟨by decide,by decide⟩,_,_,rfl,rfl,X,_,_,_,rfl,rfl,hX5,by rw [e10];exact hx (10+3 * i) (by omega),_,rfl,_,_,rfl,rfl,by omega,?_⟩
    refine ⟨_,rfl,_,rfl,_,rfl,_,_,rfl,rfl,.inl ⟨by decide,by decide⟩,_,_,rfl,rfl,X,_,_,_,rfl,rfl,hX5,by rw [e11];exact hx (11+3 * i) (by omega),_,_,rfl,rfl,by decide,W,_,_,_,rfl,rfl,SqL.of (sm5 _ _ eW4),hwd,?_⟩
    refine ⟨_,rfl,_,rfl,_,_,rfl,rfl,.inl ⟨by decide,by decide⟩,_,_,rfl,rfl,X,_,_,_,rfl,rfl,hX5,by rw [e12];exact hx (12+3 * i) (by omega),_,rfl,_,_,rfl,rfl,by omega,?_⟩
    refine ⟨sz3,fun t ht=>?_⟩
    have a0:=Int.emod_nonneg (ns[10+3 * i]'(by omega)) (show (M:Int)≠0 by omega)
    have a1:=Int.emod_lt_of_pos (ns[10+3 * i]'(by omega)) (show (0:Int)<M by omega)
    have b0:=Int.emod_nonneg (ns[12+3 * i]'(by omega)) (show (M:Int)≠0 by omega)
    have b1:=Int.emod_lt_of_pos (ns[12+3 * i]'(by omega)) (show (0:Int)<M by omega)
    generalize ns[10+3 * i]'(by omega) % (M:Int)=p1 at a0 a1 ⊢
    generalize ns[12+3 * i]'(by omega) % (M:Int)=p2 at b0 b1 ⊢
    have st:=Zf (o:=.tup [.int p1,.str wd,.int p2]) ht
    have et:(upd H6 t (.tup [.int p1,.str wd,.int p2])) t=some (.tup [.int p1,.str wd,.int p2]):=Zd
    generalize upd H6 t (.tup [.int p1,.str wd,.int p2])=H7 at st et ⊢
    refine ⟨B,ws,_,rfl,rfl,st _ _ hB,by rw [sizeLine_eq];omega,?_⟩
    have ntB:t≠B:=fun e=>by rw [e,hB] at ht;cases ht
    refine ⟨_,ws++[.ref t],ms++[(p1,wd,p2)],rfl,(Zy.upd (Zj.x (sm5.trans st))).same hB0,Zd,by rw [List.length_append,lw];rfl,by rw [List.length_append,lm];rfl,fun j v s e1 e2=>?_,fun s hs=>?_⟩
    ·rw [List.getElem?_append] at e1 e2
     rw [lw] at e1;rw [lm] at e2
     split at e1
     ·rename_i hj
      rw [if_pos hj] at e2
      exact TM.mono _ _ _ _ (UP st) (hh2 j v s e1 e2)
     ·rename_i hj
      rw [if_neg hj] at e2
      cases hjj:j - i with
      | zero=>
       rw [hjj] at e1 e2;cases e1;cases e2
       exact ⟨t,rfl,Yt ntB (New.mk (sm5.free ht) (by rw [Zo ntB];exact et))⟩
      | succ q=>rw [hjj] at e1;cases e1
    ·rcases List.mem_append.mp hs with hs | hs
     ·exact hb2 s hs
     ·cases List.mem_singleton.mp hs;exact ⟨⟨a0,a1⟩,hwn,b0,b1⟩
   ·rintro σ H5 ⟨z1,ws,ms,rfl,sm5,hB,lw,lm,hh2,hb2⟩
    have hX5:=sm5 _ _ hX4
    refine ⟨by rw [sizeLine_eq];decide,fun n1 h1=>?_⟩
    have t1:=Zf (o:=.lst []) h1
    have g1:(upd H5 n1 (.lst [])) n1=some (.lst (([]:List Str).map V.str)):=Zd
    generalize upd H5 n1 (.lst [])=H6 at t1 g1 ⊢
    refine ⟨by rw [sizeLine_eq];decide,fun n2 h2=>?_⟩
    have t2:=Zf (o:=.lst [.str "go"]) h2
    have g2:(upd H6 n2 (.lst [.str "go"])) n2=some (.lst ((["go"]:List Str).map V.str)):=Zd
    generalize upd H6 n2 (.lst [.str "go"])=H7 at t2 g2 ⊢
    refine ⟨by rw [sizeLine_eq];decide,fun n3 h3=>?_⟩
    have t3:=Zf (o:=.lst [.str "zz",.str "more",.str "a"]) h3
    have g3:(upd H7 n3 (.lst [.str "zz",.str "more",.str "a"])) n3=some (.lst ((["zz", "more", "a"]:List Str).map V.str)):=Zd
    generalize upd H7 n3 (.lst [.str "zz",.str "more",.str "a"])=H8 at t3 g3 ⊢
    refine ⟨sz4,fun n4 h4=>?_⟩
    have t4:=Zf (o:=.lst [.non,.ref n1,.ref n2,.ref n3]) h4
    have g4:(upd H8 n4 (.lst [.non,.ref n1,.ref n2,.ref n3])) n4=some (.lst [.non,.ref n1,.ref n2,.ref n3]):=Zd
    generalize upd H8 n4 (.lst [.non,.ref n1,.ref n2,.ref n3])=H9 at t4 g4 ⊢
    have t59:Zj H5 H9:=t1.trans (t2.trans (t3.trans t4))
    obtain ⟨u,wd,hu,hwp,hwn,hwl⟩:∃ (u:V) (wd:List Str),atI [V.non,.ref n1,.ref n2,.ref n3] (ns[40]'(by omega) % 4)=some u∧((u=.non∧wd=[])∨LS (New H5 H9) u wd)∧(wd.Nodup∧∀ x∈wd,Zw x=true)∧wd.length≤3:=by
     obtain ⟨_,v,hv,hvm⟩:=xo (ts:=[V.non,.ref n1,.ref n2,.ref n3]) (ns[40]'(by omega)) (by simp)
     simp only [List.mem_cons,List.not_mem_nil,or_false] at hvm
     rcases hvm with rfl | rfl | rfl | rfl
     ·exact ⟨_,[],hv,.inl ⟨rfl,rfl⟩,⟨by simp,by simp⟩,by decide⟩
     ·exact ⟨_,[],hv,.inr ⟨n1,rfl,New.mk h1 ((t2.trans (t3.trans t4)) _ _ g1)⟩,⟨by simp,by simp⟩,by decide⟩
     ·exact ⟨_,_,hv,.inr ⟨n2,rfl,New.mk (t1.free h2) ((t3.trans t4) _ _ g2)⟩,⟨by decide +kernel,by decide +kernel⟩,by decide⟩
     ·exact ⟨_,_,hv,.inr ⟨n3,rfl,New.mk ((t1.trans t2).free h3) (t4 _ _ g3)⟩,⟨by decide +kernel,by decide +kernel⟩,by decide⟩
    have hX9:=SqL.of (K:=K) (t59 _ _ hX5)
    refine ⟨_,rfl,X,_,_,_,rfl,rfl,hX9,hx 40 (by omega),_,_,rfl,rfl,by decide,n4,_,_,_,rfl,rfl,SqL.of g4,hu,?_⟩
    refine ⟨_,rfl,_,rfl,_,rfl,X,_,_,_,rfl,rfl,hX9,hx 41 (by omega),_,rfl,_,_,rfl,rfl,by omega,_,rfl,sz4,fun t ht=>?_⟩
    have a0:=Int.emod_nonneg (ns[41]'(by omega)) (show (M:Int)≠0 by omega)
    have a1:=Int.emod_lt_of_pos (ns[41]'(by omega)) (show (0:Int)<M by omega)
    generalize ns[41]'(by omega) % (M:Int)=st0 at a0 a1 ⊢
    have t5:=Zf (o:=.tup [.ref S,.ref B,.int st0,u]) ht
    have s5t:Zj H5 (upd H9 t (.tup [.ref S,.ref B,.int st0,u])):=t59.trans t5
    refine k _ t (.ref S) (.ref B) (.int st0) u ⟨sg,ms,st0,wd⟩ ((s3.trans sm).trans (sm5.trans s5t)) (((s3.trans sm).trans (sm5.trans t59)).free ht) Zd ⟨?_,?_,rfl,?_⟩ ⟨?_,?_,?_,?_,?_,?_,?_⟩ ⟨?_,?_⟩
    ·exact ⟨S,vs,rfl,New.mk S0 ((sm5.trans s5t) _ _ hS),lv.trans lg.symm,fun j v s e1 e2=>LS.mono _ _ _ _ (YV.trans (New.mono s3 (sm5.trans s5t))) (hh j v s e1 e2)⟩
    ·exact ⟨B,ws,rfl,New.mk ((s3.trans sm).free hB0) (s5t _ _ hB),lw.trans lm.symm,fun j v s e1 e2=>TM.mono _ _ _ _ (YV.trans (New.mono (s3.trans sm) s5t)) (hh2 j v s e1 e2)⟩
    ·exact hwp.imp id fun z=>LS.mono _ _ _ _ (New.mono ((s3.trans sm).trans sm5) t5) z
    ·show 1≤sg.length;omega
    ·show sg.length≤6;omega
    ·intro s hs
     have sb:=hsub s hs
     have:=sb.length_le
     exact ⟨hnd.sublist sb,fun x hx=>hn x (sb.subset hx),by omega⟩
    ·intro s hs
     have:=hb2 s hs
     show (0≤s.1∧s.1<(sg.length:Nat))∧_∧(0≤s.2.2∧s.2.2<(sg.length:Nat))
     rw [lg];exact this
    ·show ms.length≤30;omega
    ·show 0≤st0∧st0<(sg.length:Nat)
     rw [lg];exact ⟨a0,a1⟩
    ·exact ⟨hwn.1,hwn.2,by show wd.length≤30;omega⟩
    ·intro s hs
     have:=(hsub s hs).length_le
     omega
    ·show (ms.map (fun m=>m.2.1)++wd).length≤12
     rw [List.length_append,List.length_map];omega
end KK
namespace L3
open PySem PySem.Spec PyProof.Rows L2
section
variable {α:Type} [DecidableEq α]
def YE (ks:List α) (k:α):List α:=if k∈ks then ks else ks++[k]
def Zi (ks more:List α):List α:=more.foldl YE ks
theorem XI (ks more:List α) (k:α):Zi ks (more++[k])=YE (Zi ks more) k:=by unfold Zi;rw [List.foldl_append];rfl
theorem mem_addU {ks:List α}{k x:α}:x∈YE ks k↔x∈ks∨x=k:=by
 unfold YE
 split
 ·rename_i h
  exact ⟨.inl,fun q=>q.elim id fun e=>e ▸ h⟩
 ·simp
theorem YK:∀ {more ks:List α}{x:α},x∈Zi ks more↔x∈ks∨x∈more
 | [],ks,x=>by simp [Zi]
 | k :: r,ks,x=>by
  show x∈Zi (YE ks k) r↔_
  rw [YK,mem_addU,List.mem_cons,or_assoc]
theorem jd {ks:List α}{k:α} (h:ks.Nodup):(YE ks k).Nodup:=by
 unfold YE
 split
 ·exact h
 ·rename_i hk
  rw [List.nodup_append]
  exact ⟨h,by simp,fun a ha b hb e=>hk (by rw [List.mem_singleton] at hb;rw [← hb,← e];exact ha)⟩
theorem XL:∀ {more ks:List α},ks.Nodup→(Zi ks more).Nodup
 | [],_,h=>h
 | k :: r,ks,h=>XL (more:=r) (jd h)
theorem addU_len (ks:List α) (k:α):ks.length≤(YE ks k).length∧(YE ks k).length≤ks.length+1:=by
 unfold YE
 split
 ·exact ⟨Nat.le_refl _,Nat.le_succ _⟩
 ·rw [List.length_append];exact ⟨Nat.le_add_right _ _,Nat.le_refl _⟩
theorem YL:∀ (more ks:List α),ks.length≤(Zi ks more).length∧(Zi ks more).length≤ks.length+more.length
 | [],ks=>⟨Nat.le_refl _,Nat.le_refl _⟩
 | k :: r,ks=>by
  have h1:=YL r (YE ks k)
  have h2:=addU_len ks k
  show ks.length≤(Zi (YE ks k) r).length∧(Zi (YE ks k) r).length≤_
  rw [List.length_cons];omega
theorem qA (ks:List α) (k:α):Wa (ks.map fun k=>(k,V.bl true)) k (.bl true)=(YE ks k).map fun k=>(k,V.bl true):=by
 have any:((ks.map fun k=>(k,V.bl true)).any fun kv=>decide (kv.1=k))=decide (k∈ks):=by
  induction ks with
  | nil=>rfl
  | cons x r ih=>
   rw [List.map_cons,List.any_cons,ih]
   show (decide (x=k) || decide (k∈r))=decide (k∈x :: r)
   by_cases h:x=k
   ·subst h;simp
   ·have:¬ k=x:=fun e=>h e.symm
    simp [h,this]
 unfold Wa YE
 rw [any]
 by_cases h:k∈ks
 ·rw [if_pos (decide_eq_true h),if_pos h,List.map_map]
  refine List.map_congr_left fun x _=>?_
  show (if x=k then (x,V.bl true) else (x,V.bl true))=(x,V.bl true)
  split <;> rfl
 ·rw [if_neg (by simpa using h),if_neg h,List.map_append];rfl
end
theorem qR:∀ (ms ks:List (List Key)),W5 (ks.map fun k=>(k,V.bl true)) (ms.map fun k=>(k,V.bl true))=(Zi ks ms).map fun k=>(k,V.bl true)
 | [],ks=>rfl
 | m :: r,ks=>by
  show W5 (Wa (ks.map fun k=>(k,V.bl true)) m (.bl true)) (r.map fun k=>(k,V.bl true))=_
  rw [qA,qR r];rfl
def Xf (p:List Int):List Key:=p.map .inl
theorem vd {p q:List Int} (h:Xf p=Xf q):p=q:=by
 unfold Xf at h
 induction p generalizing q with
 | nil=>cases q with
  | nil=>rfl
  | cons b r=>cases h
 | cons a p ih=>cases q with
  | nil=>cases h
  | cons b r=>
   rw [List.map_cons,List.map_cons] at h
   injection h with h1 h2
   injection h1 with h1
   rw [h1,ih h2]
theorem qC (p:List Int):(Xf p).map kV=p.map V.int:=by unfold Xf;rw [List.map_map];rfl
theorem vC {p:List Int}{ps:List (List Int)}:Xf p∈ps.map Xf↔p∈ps:=by
 constructor
 ·intro h
  obtain ⟨q,hq,e⟩:=List.mem_map.mp h
  rw [← vd e];exact hq
 ·exact fun h=>List.mem_map.mpr ⟨p,h,rfl⟩
theorem yj (ps:List (List Int)) (p:List Int):YE (ps.map Xf) (Xf p)=(YE ps p).map Xf:=by
 unfold YE
 by_cases h:p∈ps
 ·rw [if_pos (vC.mpr h),if_pos h]
 ·rw [if_neg (fun q=>h (vC.mp q)),if_neg h,List.map_append];rfl
theorem qD:∀ (ms ps:List (List Int)),Zi (ps.map Xf) (ms.map Xf)=(Zi ps ms).map Xf
 | [],ps=>rfl
 | m :: r,ps=>by
  show Zi (YE (ps.map Xf) (Xf m)) (r.map Xf)=_
  rw [yj,qD r];rfl
theorem addU_inl (ps:List Int) (p:Int):YE (ps.map (Sum.inl:Int→Key)) (.inl p)=(YE ps p).map Sum.inl:=by
 have e:(Sum.inl p:Key)∈ps.map (Sum.inl:Int→Key)↔p∈ps:=by
  constructor
  ·intro h
   obtain ⟨q,hq,e⟩:=List.mem_map.mp h
   injection e with e
   rw [← e];exact hq
  ·exact fun h=>List.mem_map.mpr ⟨p,h,rfl⟩
 unfold YE
 by_cases h:p∈ps
 ·rw [if_pos (e.mpr h),if_pos h]
 ·rw [if_neg (fun q=>h (e.mp q)),if_neg h,List.map_append];rfl
def dNum (l:List Int):List (Key × V):=(l.map (Sum.inl:Int→Key)).map fun k=>(k,V.bl true)
theorem dNum_put (l:List Int) (n:Int):Wa (dNum l) (.inl n) (.bl true)=dNum (YE l n):=by unfold dNum;rw [qA,addU_inl]
theorem dNum_keys (l:List Int):(dNum l).map (fun p=>kV p.1)=l.map V.int:=by unfold dNum;rw [List.map_map,List.map_map];rfl
theorem dNum_len (l:List Int):(dNum l).length=l.length:=by unfold dNum;rw [List.length_map,List.length_map]
def dPl (l:List (List Int)):List (List Key × V):=(l.map Xf).map fun k=>(k,V.bl true)
theorem dPl_put (l:List (List Int)) (p:List Int):Wa (dPl l) (Xf p) (.bl true)=dPl (YE l p):=by unfold dPl;rw [qA,yj]
theorem dPl_merge (l more:List (List Int)):W5 (dPl l) (dPl more)=dPl (Zi l more):=by unfold dPl;rw [qR,qD]
theorem dPl_keys (l:List (List Int)):(dPl l).map (·.1)=l.map Xf:=by unfold dPl;rw [List.map_map];exact List.map_id' _
theorem xp (l:List (List Int)):(dPl l).length=l.length:=by unfold dPl;rw [List.length_map,List.length_map]
structure MM where
 d:MD
 us:List Str
def YA (m:MM) (room:Int) (w:Str):List Int:=if w∈m.us then Zi [] ((m.d.moves.filter fun v=>decide (v.1=room) && decide (v.2.1=w)).map fun v=>v.2.2) else [room]
def WL (m:MM) (room:Int) (w:Str) (rows:List (List Int)):List (List Int):=rows.flatMap fun r=>(YA m room w).map fun f=>r++[f]
def X5 (w:Str) (zs:List (MM × Int)):List (List Int):=zs.foldl (fun acc q=>WL q.1 q.2 w acc) [[]]
def XJ (w:Str) (ms:List MM) (place:List Int):List (List Int):=X5 w (ms.zip place)
theorem VL (w:Str) (zs:List (MM × Int)) (q:MM × Int):X5 w (zs++[q])=WL q.1 q.2 w (X5 w zs):=by unfold X5;rw [List.foldl_append];rfl
def Vf (ms:List MM) (place:List Int) (met:List (List Int)) (w:Str):List (List Int):=Zi met (Zi [] (XJ w ms place))
def Y7 (ms:List MM) (ws:List Str) (place:List Int):List (List Int):=
 if ws.foldl (Vf ms place) []=[] then [place] else ws.foldl (Vf ms place) []
def XA (ms:List MM) (ws:List Str) (ps:List (List Int)) (k:Nat):List (List Int):=Zi ps (Y7 ms ws (ps.getD k []))
def WJ (ms:List MM) (ws:List Str) (ps:List (List Int)) (k:Nat):List Int:=(Y7 ms ws (ps.getD k [])).map fun p=>(((XA ms ws ps k).idxOf p:Nat):Int)
def Vj (ms:List MM) (ws:List Str):Nat→List (List Int)→List (List Int)→Option (List (List Int) × List (List Int))
 | 0,_,_=>none
 | n+1,ps,ways=>if ways.length<ps.length then (if (XA ms ws ps ways.length).length > 20 then none else Vj ms ws n (XA ms ws ps ways.length) (ways++[WJ ms ws ps ways.length])) else some (ps,ways)
def YR (ms:List MM) (p:List Int):Prop:=p.length=ms.length∧∀ (i:Nat) m r,ms[i]?=some m→p[i]?=some r→0≤r∧r<m.d.signs.length
theorem zM {m:MM} (g:Wj m.d) {r:Int}{w:Str} (hr:0≤r∧r<m.d.signs.length):∀ f∈YA m r w,0≤f∧f<m.d.signs.length:=by
 intro f hf
 unfold YA at hf
 split at hf
 ·rw [YK] at hf
  rcases hf with hf | hf
  ·cases hf
  ·obtain ⟨v,hv,rfl⟩:=List.mem_map.mp hf
   exact (g.mn v (List.mem_filter.mp hv).1).2.2
 ·cases List.mem_singleton.mp hf;exact hr
theorem zd:∀ {l:List Int}{n:Nat},l.Nodup→(∀ x∈l,0≤x∧x<n)→l.length≤n:=by
 intro l n
 induction n generalizing l with
 | zero=>
  intro _ h
  cases l with
  | nil=>exact Nat.le_refl _
  | cons x r=>have:=h x List.mem_cons_self;omega
 | succ n ih=>
  intro nd h
  have h1:(l.erase (n:Int)).length≤n:=ih (nd.erase _) fun x hx=>by
   have hx':=List.mem_of_mem_erase hx
   have:=h x hx'
   have ne:x≠(n:Int):=fun e=>by
    rw [e] at hx
    exact nd.not_mem_erase hx
   omega
  by_cases hm:(n:Int)∈l
  ·rw [List.length_erase_of_mem hm] at h1;omega
  ·rw [List.erase_of_not_mem hm] at h1;omega
theorem zc {m:MM} (g:Wj m.d) {r:Int}{w:Str} (hr:0≤r∧r<m.d.signs.length):(YA m r w).length≤6:=by
 have nd:(YA m r w).Nodup:=by
  unfold YA
  split
  ·exact XL (by simp)
  ·simp
 have:=zd nd (zM g hr)
 have:=g.n6
 omega
theorem WA {α β:Type} (f:α→List β) (k:Nat):∀ (l:List α),(∀ x∈l,(f x).length≤k)→(l.flatMap f).length≤k * l.length
 | [],_=>by simp
 | x :: r,h=>by
  rw [List.flatMap_cons,List.length_append,List.length_cons]
  have h1:=h x List.mem_cons_self
  have h2:=WA f k r fun y hy=>h y (List.mem_cons_of_mem _ hy)
  rw [Nat.mul_add];omega
theorem rows_ok {w:Str}{zs:List (MM × Int)} (hz:∀ q∈zs,Wj q.1.d∧0≤q.2∧q.2<q.1.d.signs.length) :
  (X5 w zs).length≤6 ^ zs.length∧∀ p∈X5 w zs,p.length=zs.length∧∀ (i:Nat) q r,zs[i]?=some q→p[i]?=some r→0≤r∧r<q.1.d.signs.length:=by
 have:∀ n,n≤zs.length→(X5 w (zs.take n)).length≤6 ^ n∧∀ p∈X5 w (zs.take n),p.length=n∧∀ (i:Nat) q r,zs[i]?=some q→p[i]?=some r→0≤r∧r<q.1.d.signs.length:=by
  intro n
  induction n with
  | zero=>
   intro _
   refine ⟨by rw [List.take_zero];exact Nat.le_refl _,fun p hp=>?_⟩
   rw [List.take_zero] at hp
   have:p=[]:=by simpa [X5] using hp
   subst this
   exact ⟨rfl,fun i q r _ e=>by simp at e⟩
  | succ n ih=>
   intro hn
   obtain ⟨h1,h2⟩:=ih (by omega)
   have e:zs.take (n+1)=zs.take n++[zs[n]]:=by rw [List.take_add_one,List.getElem?_eq_getElem (by omega)];rfl
   rw [e,VL]
   obtain ⟨g,g2⟩:=hz _ (List.getElem_mem (show n<zs.length by omega))
   refine ⟨?_,fun p hp=>?_⟩
   ·have:=WA (fun r=>(YA zs[n].1 zs[n].2 w).map fun f=>r++[f]) 6 (X5 w (zs.take n)) (fun x _=>by rw [List.length_map];exact zc g g2)
    unfold WL
    rw [Nat.pow_succ]
    omega
   ·unfold WL at hp
    obtain ⟨r,hr,hp⟩:=List.mem_flatMap.mp hp
    obtain ⟨f,hf,rfl⟩:=List.mem_map.mp hp
    obtain ⟨l1,l2⟩:=h2 r hr
    refine ⟨by rw [List.length_append,l1];rfl,fun i q x e1 e2=>?_⟩
    rw [List.getElem?_append] at e2
    split at e2
    ·exact l2 i q x e1 e2
    ·rename_i hi
     cases hj:i - r.length with
     | zero=>
      rw [hj] at e2;cases e2
      have:i=n:=by omega
      subst this
      rw [List.getElem?_eq_getElem (by omega)] at e1;cases e1
      exact zM g g2 _ hf
     | succ k=>rw [hj] at e2;cases e2
 have h:=this zs.length (Nat.le_refl _)
 rwa [List.take_length] at h
structure Wc (ms:List MM):Prop where
 n1:1≤ms.length
 n4:ms.length≤4
 g:∀ m∈ms,Wj m.d
 so:∀ m∈ms,Y5 m.us m.d.known
 s7:∀ m∈ms,∀ ss∈m.d.signs,ss.length≤7
 k12:∀ m∈ms,m.d.known.length≤12
theorem zip_ok {ms:List MM} (t:Wc ms) {p:List Int} (h:YR ms p):∀ q∈ms.zip p,Wj q.1.d∧0≤q.2∧q.2<q.1.d.signs.length:=by
 intro q hq
 obtain ⟨i,hi⟩:=List.getElem?_of_mem hq
 obtain ⟨h1,h2⟩:=List.getElem?_zip_eq_some.mp hi
 exact ⟨t.g _ (List.mem_of_getElem? h1),h.2 i _ _ h1 h2⟩
theorem Us {ms:List MM} (t:Wc ms) {p:List Int} (h:YR ms p) (w:Str):(XJ w ms p).length≤1296∧∀ q∈XJ w ms p,YR ms q:=by
 obtain ⟨h1,h2⟩:=rows_ok (w:=w) (zip_ok t h)
 have hl:(ms.zip p).length=ms.length:=by rw [List.length_zip,h.1];exact Nat.min_self _
 rw [hl] at h1 h2
 refine ⟨Nat.le_trans h1 ?_,fun q hq=>⟨(h2 q hq).1,fun i m r e1 e2=>?_⟩⟩
 ·exact Nat.le_trans (Nat.pow_le_pow_right (by decide) t.n4) (by decide)
 ·have hi:i<p.length:=by rw [h.1];exact (List.getElem?_eq_some_iff.mp e1).1
  have:=(h2 q hq).2 i (m,p[i]) r (List.getElem?_zip_eq_some.mpr ⟨e1,List.getElem?_eq_getElem hi⟩) e2
  exact this
theorem metW_ok {ms:List MM} (t:Wc ms) {p:List Int} (h:YR ms p) {met:List (List Int)}{w:Str} (hm:∀ q∈met,YR ms q):∀ q∈Vf ms p met w,YR ms q:=by
 intro q hq
 unfold Vf at hq
 rw [YK,YK] at hq
 rcases hq with hq | hq | hq
 ·exact hm q hq
 ·cases hq
 ·exact (Us t h w).2 q hq
theorem qe {ms:List MM} (t:Wc ms) {p:List Int} (h:YR ms p):∀ (ws:List Str) (met:List (List Int)),(∀ q∈met,YR ms q)→met.Nodup→(∀ q∈ws.foldl (Vf ms p) met,YR ms q)∧(ws.foldl (Vf ms p) met).Nodup∧(ws.foldl (Vf ms p) met).length≤met.length+1296 * ws.length
 | [],met,hm,nd=>⟨hm,nd,Nat.le_refl _⟩
 | w :: r,met,hm,nd=>by
  obtain ⟨a,b,c⟩:=qe t h r (Vf ms p met w) (metW_ok t h hm) (XL nd)
  refine ⟨a,b,?_⟩
  have h1:=(YL (Zi [] (XJ w ms p)) met).2
  have h2:=(YL (XJ w ms p) []).2
  have h3:=(Us t h w).1
  rw [List.length_nil] at h2
  show (r.foldl (Vf ms p) (Vf ms p met w)).length≤_
  have:(Vf ms p met w).length=(Zi met (Zi [] (XJ w ms p))).length:=rfl
  rw [List.length_cons];omega
theorem Ud {ms:List MM} (t:Wc ms) {p:List Int} (h:YR ms p) (ws:List Str):(∀ q∈Y7 ms ws p,YR ms q)∧(Y7 ms ws p).Nodup∧(Y7 ms ws p).length≤1+1296 * ws.length∧Y7 ms ws p≠[]:=by
 obtain ⟨a,b,c⟩:=qe t h ws [] (fun q hq=>by cases hq) (by simp)
 rw [List.length_nil] at c
 unfold Y7
 split
 ·exact ⟨fun q hq=>by cases List.mem_singleton.mp hq;exact h,by simp,by simp,by simp⟩
 ·rename_i hne
  exact ⟨a,b,by omega,hne⟩
def tupH (p:List Int):Int:=reduceHash (Builtin.Tuple.tupleHashOf (p.map hashInt))
theorem yr (P:Program) (w:World) (p:List Int):tkH P w (Xf p)=tupH p:=by
 unfold tkH tupleKeyHash tupH Xf
 rw [List.map_map]
 rfl
def xt (ms:List MM):Prop:=∀ p q,YR ms p→YR ms q→tupH p=tupH q→p=q
theorem mg1:¬ (("goes_to" : Str) = "room_signs"):=by decide +kernel
theorem mg2:¬ (("goes_to" : Str) = "moves"):=by decide +kernel
theorem mg3:¬ (("goes_to" : Str) = "start"):=by decide +kernel
theorem mg4:¬ (("goes_to" : Str) = "words"):=by decide +kernel
theorem mlk_goes (t1 t2 t3 t4:V):(mfs t1 t2 t3 t4).lookup ("goes_to" : Str)=none:=by simp [mfs,List.lookup_cons,WI mg1,WI mg2,WI mg3,WI mg4]
def Yx (zs:List (MM × Int)):List Str:=zs.flatMap fun q=>q.1.d.signs.getD q.2.toNat []
theorem Ue (zs:List (MM × Int)) (q:MM × Int):Yx (zs++[q])=Yx zs++q.1.d.signs.getD q.2.toNat []:=by unfold Yx;rw [List.flatMap_append];simp
theorem Z1 {α:Type}{l:List α}{i:Nat} (h:i<l.length):l.take (i+1)=l.take i++[l[i]]:=by rw [List.take_add_one,List.getElem?_eq_getElem h];rfl
theorem Wh {ms:List MM} (t:Wc ms) {p:List Int} (n:Nat):(Yx ((ms.zip p).take n)).length≤28:=by
 have:∀ zs:List (MM × Int),(∀ q∈zs,q.1∈ms)→(Yx zs).length≤7 * zs.length:=fun zs h=>WA _ 7 zs fun q hq=>by
  rw [List.getD_eq_getElem?_getD]
  cases e:q.1.d.signs[q.2.toNat]? with
  | none=>simp
  | some ss=>exact t.s7 _ (h q hq) ss (List.mem_of_getElem? e)
 have h:=this ((ms.zip p).take n) fun q hq=>(List.of_mem_zip (List.mem_of_mem_take hq)).1
 have h2:((ms.zip p).take n).length≤ms.length:=by rw [List.length_take,List.length_zip];omega
 have:=t.n4
 omega
theorem Uv {X:Cx}{K:PySem.W.Frag}{tg l:Expr}{tl:TE} (hK:X.K=K) (hl:PE X l tl):PI X tg l (iTup K tl):=by subst hK;exact pi_tup hl
def dNu (ps:List (List Int)):List (List Key × V):=ps.zipIdx.map fun q=>(Xf q.1,V.int ((q.2:Nat):Int))
theorem dNu_len (ps:List (List Int)):(dNu ps).length=ps.length:=by unfold dNu;rw [List.length_map,List.length_zipIdx]
theorem dNu_snoc (ps:List (List Int)) (p:List Int):dNu (ps++[p])=dNu ps++[(Xf p,V.int (ps.length:Nat))]:=by unfold dNu;rw [List.zipIdx_append,List.map_append];simp
theorem yX (ps:List (List Int)) (p:List Int):VR (dNu ps) (Xf p)=if p∈ps then some (.int ((ps.idxOf p:Nat):Int)) else none:=by
 have:∀ (ps:List (List Int)) (k:Nat),VR ((ps.zipIdx k).map fun q=>(Xf q.1,V.int ((q.2:Nat):Int))) (Xf p)=if p∈ps then some (.int ((ps.idxOf p+k:Nat):Int)) else none:=by
  intro ps
  induction ps with
  | nil=>intro k;rfl
  | cons x r ih=>
   intro k
   rw [List.zipIdx_cons,List.map_cons]
   by_cases h:x=p
   ·subst h
    rw [V3 rfl,if_pos List.mem_cons_self,List.idxOf_cons_self,Nat.zero_add]
   ·rw [Ug (fun e=>h (vd e)),ih (k+1)]
    have hb:(x == p)=false:=by simpa using h
    have e:List.idxOf p (x :: r)=List.idxOf p r+1:=by rw [List.idxOf_cons,hb];rfl
    have hm:p∈x :: r↔p∈r:=by rw [List.mem_cons];exact ⟨fun q=>q.elim (fun e=>absurd e.symm h) id,.inr⟩
    by_cases hr:p∈r
    ·rw [if_pos hr,if_pos (hm.mpr hr),e,show r.idxOf p+1+k=r.idxOf p+(k+1) by omega]
    ·rw [if_neg hr,if_neg (fun q=>hr (hm.mp q))]
 have h:=this ps 0
 simpa [dNu] using h
theorem dNu_put {ps:List (List Int)}{p:List Int} (h:¬ p∈ps):Wa (dNu ps) (Xf p) (.int (ps.length:Nat))=dNu (ps++[p]):=by
 rw [putK_new _ (by rw [yX,if_neg h]),dNu_snoc]
structure PlOk (ms:List MM) (ps:List (List Int)):Prop where
 nd:ps.Nodup
 ne:ps≠[]
 pl:∀ p∈ps,YR ms p
theorem xO {ms:List MM} (t:Wc ms):PlOk ms [ms.map fun m=>m.d.start]:=by
 refine ⟨by simp,by simp,fun p hp=>?_⟩
 cases List.mem_singleton.mp hp
 refine ⟨by rw [List.length_map],fun i m r h1 h2=>?_⟩
 rw [List.getElem?_map,h1] at h2
 cases h2
 exact (t.g m (List.mem_of_getElem? h1)).st
theorem xk {ms:List MM} (t:Wc ms) {ws:List Str}{ps:List (List Int)} (h:PlOk ms ps) {k:Nat} (hk:k<ps.length):PlOk ms (XA ms ws ps k)∧YR ms (ps.getD k [])∧(XA ms ws ps k).length≤ps.length+(1+1296 * ws.length)∧ps.length≤(XA ms ws ps k).length:=by
 have hp:YR ms (ps.getD k []):=by
  rw [List.getD_eq_getElem?_getD,List.getElem?_eq_getElem hk]
  exact h.pl _ (List.getElem_mem hk)
 obtain ⟨m1,m2,m3,m4⟩:=Ud t hp ws
 have l:=YL (Y7 ms ws (ps.getD k [])) ps
 refine ⟨⟨XL h.nd,fun e=>?_,fun p hp=>?_⟩,hp,?_,l.1⟩
 ·have:=l.1
  have e2:(XA ms ws ps k).length=0:=by rw [e];rfl
  unfold XA at e2
  omega
 ·unfold XA at hp
  rw [YK] at hp
  exact hp.elim (h.pl p) (m1 p)
 ·unfold XA;omega
def WyOk (n:Nat) (ways:List (List Int)):Prop:=∀ w∈ways,w.Nodup∧w≠[]∧∀ x∈w,0≤x∧x<n
theorem WyOk.mono {n m:Nat}{ways:List (List Int)} (h:WyOk n ways) (hn:n≤m):WyOk m ways:=fun w hw=>⟨(h w hw).1,(h w hw).2.1,fun x hx=>by have:=(h w hw).2.2 x hx;omega⟩
theorem idx_inj {ps:List (List Int)}{p q:List Int} (hp:p∈ps) (hq:q∈ps) (e:ps.idxOf p=ps.idxOf q):p=q:=by
 have h1:=List.getElem_idxOf (List.idxOf_lt_length_iff.mpr hp)
 have h2:=List.getElem_idxOf (List.idxOf_lt_length_iff.mpr hq)
 rw [← h1,← h2]
 congr 1
theorem stepW_ok {ms:List MM} (t:Wc ms) {ws:List Str}{ps:List (List Int)} (h:PlOk ms ps) {k:Nat} (hk:k<ps.length):(WJ ms ws ps k).Nodup∧WJ ms ws ps k≠[]∧∀ x∈WJ ms ws ps k,0≤x∧x<(XA ms ws ps k).length:=by
 obtain ⟨_,hp,_⟩:=xk (ws:=ws) t h hk
 obtain ⟨m1,m2,m3,m4⟩:=Ud t hp ws
 have inn:∀ p∈Y7 ms ws (ps.getD k []),p∈XA ms ws ps k:=fun p hp=>by unfold XA;rw [YK];exact .inr hp
 refine ⟨?_,fun e=>m4 ?_,fun x hx=>?_⟩
 ·unfold WJ List.Nodup
  rw [List.pairwise_map]
  refine List.Pairwise.imp_of_mem (fun {p q} hp hq hne e=>hne ?_) m2
  exact idx_inj (inn p hp) (inn q hq) (by omega)
 ·unfold WJ at e
  exact List.map_eq_nil_iff.mp e
 ·unfold WJ at hx
  obtain ⟨p,hp,rfl⟩:=List.mem_map.mp hx
  have:=List.idxOf_lt_length_iff.mpr (inn p hp)
  omega
theorem names_are {H:Hp}{f:V} (h:Zu H f=true):∃ (b:Addr) (fs:List Str),f=.ref b∧H b=some (.lst (fs.map V.str))∧(∀ x∈fs,Zw x=true)∧fs.Nodup:=by
 unfold Zu at h
 cases e:YO H f with
 | none=>rw [e] at h;cases h
 | some xs=>
  rw [e] at h
  dsimp only at h
  rw [Bool.and_eq_true] at h
  obtain ⟨h1,h2⟩:=h
  have:∃ fs:List Str,xs=fs.map V.str∧∀ x∈fs,Zw x=true:=by
   clear h2 e
   induction xs with
   | nil=>exact ⟨[],rfl,fun x hx=>by cases hx⟩
   | cons x r ih=>
    rw [List.all_cons,Bool.and_eq_true] at h1
    obtain ⟨fs,rfl,hf⟩:=ih h1.2
    have hx:=h1.1
    unfold YZ at hx
    cases x with
    | str z=>exact ⟨z :: fs,rfl,fun y hy=>by
      rcases List.mem_cons.mp hy with rfl | hy
      ·exact hx
      ·exact hf y hy⟩
    | _=>cases hx
  obtain ⟨fs,rfl,hf⟩:=this
  obtain ⟨b,eb,hb⟩:∃ b,f=.ref b∧H b=some (.lst (fs.map V.str)):=by
   unfold YO at e
   split at e
   ·split at e
    ·cases e;exact ⟨_,rfl,by assumption⟩
    ·cases e
   ·cases e
  exact ⟨b,fs,eb,hb,hf,vL (of_decide_eq_true h2)⟩
theorem fn_down {P:Program}{w:World}{K:PySem.W.Frag}{mg:Str→Option Value}{base:Heap}{k:Nat}{f:Addr}{fd:FuncData}{ps:List Str}{sp:Sp} (F:Yy P w K mg base (CXe P w) k f fd ps sp):Yy P w K mg base CX0 k f fd ps (fun vs H Q _=>sp vs H Q fun _ _ _=>False):=
 ⟨fun vs H Q E h=>F.len vs H Q _ h,fun A outer s H args us vs Q E hr e0 hb r h=>codeAny_mono (F.run A outer s H args us vs Q _ hr e0 hb r h) fun res s' q=>by
  cases res with
  | error e=>
   obtain ⟨_,_,_,_,_,_,_,_,_,_,z⟩:=q
   exact z.elim
  | ok fl=>cases fl <;> exact q⟩
end L3
namespace KK
open PySem PySem.Spec L2 L3
def VF (C:Addr) (H:Hp) (xs:List V) (ms:List MM):Prop:=xs.length=ms.length∧∀ (i:Nat) x m,xs[i]?=some x→ms[i]?=some m→∃ q,x=.ref q∧XG C H q m.d m.us
theorem VF.mono {C:Addr}{H H':Hp}{xs:List V}{ms:List MM} (s:Zj H H') (h:VF C H xs ms):VF C H' xs ms:=⟨h.1,fun i x m a b=>let ⟨q,e,g⟩:=h.2 i x m a b; ⟨q,e,g.mono s⟩⟩
def U7 (K:PySem.W.Frag) (a:Adr):Sp:=fun vs H Q _=>∃ p xs ms,vs=[.ref p]∧H p=some (.lst xs)∧VF a.C_Machine H xs ms∧xs.length≤1000∧∀ H',Zj H H'→Q (.bl (decide (1≤xs.length) && decide (xs.length≤4))) H'
theorem qb {P:Program}{w:World}{K:PySem.W.Frag}{mg:Str→Option Value}{base:Heap}{a:Adr} (T:Txt K mg a) (hw:w.params=a.Pm):Yy P w K mg base CX0 1 a.are_machines a.are_machines_fd ["thing"] (U7 K a):=by
 refine T.f_are_machines.ok UY (fun vs H Q E h=>?_) (fun cdv A outer s H vs Q E hr h=>?_)
 ·obtain ⟨p,xs,ms,rfl,_⟩:=h
  rfl
 ·obtain ⟨p,xs,ms,rfl,hp,hm,hz,k⟩:=h
  refine ⟨_,(@Ze _ _ _ _ _ (@YF _ _ _ _ _ _ _ _ (PW.pt (Wt (@YM _ _ _ _ (Xa (Zk call_isLT rfl T.b_isinstance PyProof.Rows.Boot.«isinstance» (@Za _ _ _ _ _ (pv 0) (@Za _ _ _ _ _ (@Wb _ _ _ _ _ (@Za _ _ _ _ _ (Xp (v:=.ty "list") rfl T.b_list PyProof.Rows.Boot.«list» rfl) (@Za _ _ _ _ _ (Xp (v:=.ty "tuple") rfl T.b_tuple PyProof.Rows.Boot.«tuple» rfl) Zb (by rfl)) (by rfl))) Zb (by rfl)) (by rfl))))) (Wn (@YM _ _ _ _ (V4 VH VH Zg (Zk (Zv (K:=K) rfl) rfl T.b_len PyProof.Rows.Boot.«len» (@Za _ _ _ _ _ (pv 0) Zb (by rfl))) (W9 rfl T.c_MOST_MACHINES)))))) (@Zh _ _ _ (@Zx _ _ _ _ Xz)) ZL) (@Zh _ _ _ (@Zx _ _ _ _ (Zk (XM (K:=K) rfl rfl) rfl T.b_all PyProof.Rows.Boot.«all» (@Za _ _ _ _ _ (ZV (Nc:=["one"]) (ix:=[none]) (ZD.of (by decide +kernel:ZK (Zc Z5) ["thing"] ["one"] [none] _=true)) rfl (Zq (K:=K) rfl (pv 0)) (fun _ _ _ _ _=>(Zm (i:=0) (show List.Nodup (["one"]:List Str) by decide +kernel) rfl (Or.inl rfl))) (fun _ _ _ _ _=>ZT) (fun _ _ _ _ _=>(Zk (vg (K:=K) rfl a.C_Machine) rfl T.b_isinstance PyProof.Rows.Boot.«isinstance» (@Za _ _ _ _ _ (pv 0) (@Za _ _ _ _ _ (W9 (v:=.ref a.C_Machine) rfl ⟨_,T.g_Machine,rfl⟩) Zb (by rfl)) (by rfl))))) Zb (by rfl)))))),?_⟩
  refine ⟨_,rfl,sz2,fun t ht=>?_⟩
  have s1:=Zf (o:=.tup [.ty "list",.ty "tuple"]) ht
  have e1:(upd H t (.tup [.ty "list",.ty "tuple"])) t=some (.tup [.ty "list",.ty "tuple"]):=Zd
  generalize upd H t (.tup [.ty "list",.ty "tuple"])=H1 at s1 e1 ⊢
  have hp1:=s1 _ _ hp
  refine ⟨p,t,xs,rfl,hp1,e1,_,rfl,Yz ?_⟩
  refine ⟨_,rfl,.inl ⟨p,xs,rfl,.inl (SqL.of hp1),_,_,rfl,rfl,_,rfl,?_⟩⟩
  refine Wm (fun c1=>?_) (fun c1=>?_)
  case refine_2=>
   refine ⟨_,rfl,Yh ?_⟩
   have q:=k H1 s1
   have:decide (1≤xs.length)=false:=decide_eq_false fun z=>c1 (decide_eq_true (by omega))
   rw [this] at q
   exact q
  refine ⟨_,_,rfl,rfl,_,rfl,?_⟩
  have a1:1≤xs.length:=by have:=of_decide_eq_true c1;omega
  cases c2:decide ((xs.length:Int)≤4) with
  | false=>
   refine Yh ?_
   have q:=k H1 s1
   have:decide (xs.length≤4)=false:=decide_eq_false fun z=>by have:=of_decide_eq_false c2;omega
   rw [this,Bool.and_false] at q
   exact q
  | true=>
  have a2:xs.length≤4:=by have:=of_decide_eq_true c2;omega
  refine Yz ⟨_,rfl,p,rfl,⟨xs,SqL.of hp1⟩,fun D hD=>?_⟩
  refine Yc (K:=K) hD (SqL.of hp1) (by rw [sizeLine_eq];omega) (fun i v _=>v=.bl true) (fun _ _ _ _ _ q=>q) ?_ ?_
  ·intro i x H2 N hx sm hN
   have hi:i<ms.length:=by rw [← hm.1];exact (List.getElem?_eq_some_iff.mp hx).1
   obtain ⟨q,rfl,hq⟩:=hm.2 i x _ hx (List.getElem?_eq_getElem hi)
   obtain ⟨dx,t1,t2,t4,eq,_⟩:=hq.ex
   refine ⟨_,rfl,q,rfl,?_,T.ic_Machine,hN _ _ (.refl _) rfl⟩
   exact Vl.ins ((s1.trans sm) _ _ eq) T.cl_Machine T.t1_Machine T.t2_Machine T.t3_Machine T.t4_Machine
  intro H2 zs hD2 sm hlen hr
  have ey:=Xi (f:=fun _=>true) hlen fun i v x h1 h2=>hr i v h1
  refine ⟨D,_,rfl,SqL.of (by rw [hD2,ey]),?_⟩
  rw [Vh]
  have q:=k H2 (s1.trans sm)
  rw [decide_eq_true a1,decide_eq_true a2] at q
  have e:(xs.all fun _=>true)=true:=by simp
  rw [e]
  exact q
theorem yc {l:List (Int × Str × Int)}{i:Nat} (h:i<l.length) (p:Int × Str × Int→Bool):((l.take (i+1)).filter p).map (fun v=>v.2.2)=((l.take i).filter p).map (fun v=>v.2.2)++(if p l[i]=true then [l[i].2.2] else []):=by
 rw [List.take_add_one,List.getElem?_eq_getElem h,List.filter_append,List.map_append]
 congr 1
 show (([l[i]]:List _).filter p).map _=_
 by_cases q:p l[i]=true
 ·rw [if_pos q,List.filter_cons_of_pos q];rfl
 ·rw [if_neg q,List.filter_cons_of_neg q];rfl
def VS (K:PySem.W.Frag) (a:Adr):Sp:=fun vs H Q _=>∃ p r w m,vs=[.ref p,.int r,.str w]∧XG a.C_Machine H p m.d m.us∧Wj m.d∧∀ H' l,Zj H H'→H l=none→H' l=some (.lst ((YA m r w).map V.int))→Q (.ref l) H'
theorem VN {P:Program}{w:World}{K:PySem.W.Frag}{mg:Str→Option Value}{base:Heap}{a:Adr} (T:Txt K mg a) (hw:w.params=a.Pm):Yy P w K mg base CX0 1 a.Machine_goes_to a.Machine_goes_to_fd ["self", "room", "word"] (VS K a):=by
 refine T.f_Machine_goes_to.ok VJ (fun vs H Q E h=>?_) (fun cdv A outer s H vs Q E hr h=>?_)
 ·obtain ⟨p,r,w,m,rfl,_⟩:=h
  rfl
 ·obtain ⟨p,r,wd,m,rfl,hm,gm,k⟩:=h
  obtain ⟨dx,t1,t2,t4,ep,h1,h2,h4,hso⟩:=hm.ex
  obtain ⟨a2,v2,rfl,g2,l2,q2⟩:=h2
  obtain ⟨a4,rfl,g4⟩:=h4
  refine ⟨_,(@Ze _ _ _ _ _ (@YF _ _ _ _ _ _ _ _ (@ZJ _ _ _ _ _ _ _ _ (Ut (K:=K) rfl) (pv 2) (Wg (K:=K) rfl (pv 0) rfl) (by with_unfolding_all rfl)) (@Zh _ _ _ (@Zx _ _ _ _ (@ZR _ _ _ _ (@Za _ _ _ _ _ (pv 1) Zb (by rfl))))) ZL) (@Zh _ _ _ (@Zx _ _ _ _ (Zr (vk rfl) rfl T.b_list PyProof.Rows.Boot.«list» (@Za _ _ _ _ _ (yy (o0:=.dK []) (.inl rfl) (Nc:=["here", "by", "further", "room", "word"]) (ix:=[none,none,none,some 1,some 2]) (ZD.of (by decide +kernel:ZK (Zc ZG) ["self", "room", "word"] ["here", "by", "further", "room", "word"] [none,none,none,some 1,some 2] _=true)) (Y0.units0 hr) rfl (Uv (K:=K) rfl (Wg (K:=K) rfl (pv 0) rfl)) (fun _ _ _ _ _=>(XU (K:=K) (n:=3) rfl rfl (ZF (Zm (i:=0) (show List.Nodup (["here", "by", "further", "room", "word"]:List Str) by decide +kernel) rfl (Or.inl rfl)) (ZF (Zm (i:=1) (show List.Nodup (["here", "by", "further", "room", "word"]:List Str) by decide +kernel) rfl (Or.inl rfl)) (ZF (Zm (i:=2) (show List.Nodup (["here", "by", "further", "room", "word"]:List Str) by decide +kernel) rfl (Or.inl rfl)) XX))))) (fun _ _ _ _ _=>(qg (PW.pt (xz (@ZJ _ _ _ _ _ _ _ _ VG (pv 0) (pv 3) (ZW _)) (ql (@ZJ _ _ _ _ _ _ _ _ VG (pv 1) (pv 4) (ZW _))))))) (fun _ _ _ _ _=>(pv 2)) (fun _ _ _ _ _=>Xz)) Zb (by rfl)))))),?_⟩
  refine ⟨_,rfl,_,rfl,p,a.C_Machine,dx,_,_,rfl,ep,T.cl_Machine,T.na_Machine_words,yn _ _ _ _,a4,_,rfl,.inr (SqT.of g4),rfl,by simp [W8],_,rfl,?_⟩
  rw [V6]
  by_cases hw':wd∈m.us
  case neg=>
   rw [decide_eq_false hw']
   refine Yh ⟨_,rfl,sz1,fun l hl=>?_⟩
   refine k _ l (Zf hl) hl ?_
   rw [Zd]
   unfold YA
   rw [if_neg hw'];rfl
  rw [decide_eq_true hw']
  refine Yz ⟨_,rfl,p,a.C_Machine,dx,_,_,rfl,ep,T.cl_Machine,T.na_Machine_moves,mlk_moves _ _ _ _,a2,rfl,⟨_,SqT.of g2⟩,fun D hD=>?_⟩
  refine XW (J:=Itt K a2) (n:=m.d.moves.length) (fun i σ G=>∃ z1 z2 z3:Option V,σ=[z1,z2,z3,some (.int r),some (.str wd)]∧Zj H G∧G D=some (.dK (dNum (Zi [] (((m.d.moves.take i).filter fun v=>decide (v.1=r) && decide (v.2.1=wd)).map fun v=>v.2.2))))) ?_ ?_ ?_ ?_ ?_
  ·exact ⟨_,_,_,rfl,Zf hD,Zd⟩
  ·rintro i σ G hi ⟨z1,z2,z3,rfl,sm,hd⟩
   exact ⟨_,_,SqT.of (sm _ _ g2),List.getElem?_eq_getElem (by omega)⟩
  ·rintro σ G ⟨z1,z2,z3,rfl,sm,hd⟩
   exact ⟨_,SqT.of (sm _ _ g2),by omega⟩
  ·rintro i x σ G G2 hi ⟨z1,z2,z3,rfl,sm,hd⟩ ⟨rfl,hx⟩ N hN
   have hiv:i<v2.length:=by omega
   have e:=hx _ (SqT.of (sm _ _ g2))
   obtain ⟨c,rfl,ec⟩:=q2 i x _ e (List.getElem?_eq_getElem hi)
   have snoc:=yc hi (fun v=>decide (v.1=r) && decide (v.2.1=wd))
   have few:(dNum (Zi [] (((m.d.moves.take i).filter fun v=>decide (v.1=r) && decide (v.2.1=wd)).map fun v=>v.2.2))).length<sizeLine:=by
    rw [dNum_len]
    have h1:=(YL (((m.d.moves.take i).filter fun v=>decide (v.1=r) && decide (v.2.1=wd)).map fun v=>v.2.2) []).2
    have h2:=List.length_filter_le (fun v=>decide (v.1=r) && decide (v.2.1=wd)) (m.d.moves.take i)
    rw [List.length_map,List.length_nil] at h1
    rw [List.length_take] at h2
    have:=gm.ml
    rw [sizeLine_eq];omega
   refine ⟨c,mvL m.d.moves[i],rfl,SqT.of (sm _ _ ec),rfl,_,_,rfl,_,_,rfl,_,_,rfl,rfl,?_⟩
   have no:¬ ((fun v:Int × Str × Int=>decide (v.1=r) && decide (v.2.1=wd)) m.d.moves[i]=true)→N [some (.int m.d.moves[i].1),some (.str m.d.moves[i].2.1),some (.int m.d.moves[i].2.2),some (.int r),some (.str wd)] G2:=fun q=>by
    rw [if_neg q,List.append_nil] at snoc
    exact hN _ _ ⟨_,_,_,rfl,sm,by rw [snoc];exact hd⟩
   refine ⟨_,rfl,_,rfl,rfl,_,rfl,Wm (fun c1=>?_) (fun c1=>?_)⟩
   ·have d1:m.d.moves[i].1=r:=by have:=of_decide_eq_true c1;injection this
    refine ⟨_,rfl,_,rfl,rfl,_,rfl,Wm (fun c2=>?_) (fun c2=>?_)⟩
    ·have d2:m.d.moves[i].2.1=wd:=by have:=of_decide_eq_true c2;injection this
     have q:(fun v:Int × Str × Int=>decide (v.1=r) && decide (v.2.1=wd)) m.d.moves[i]=true:=by simp [d1,d2]
     rw [if_pos q,] at snoc
     refine ⟨_,rfl,_,DPut.k (k:=.inl m.d.moves[i].2.2) hd few,hN _ _ ⟨_,_,_,rfl,(Zy.upd (Zj.x sm)).same hD,?_⟩⟩
     rw [Zd,snoc,XI,dNum_put]
    ·exact no fun q=>c2 (decide_eq_true (by rw [Bool.and_eq_true] at q;rw [of_decide_eq_true q.2]))
   ·exact no fun q=>c1 (decide_eq_true (by rw [Bool.and_eq_true] at q;rw [of_decide_eq_true q.1]))
  ·rintro σ G ⟨z1,z2,z3,rfl,sm,hd⟩
   rw [List.take_length] at hd
   refine ⟨D,_,rfl,hd,fun l hl=>?_⟩
   refine k _ l (sm.trans (Zf hl)) (sm.free hl) ?_
   rw [Zd,dNum_keys]
   unfold YA
   rw [if_pos hw']
def xH (K:PySem.W.Frag) (a:Adr):Sp:=fun vs H Q _=>∃ p q xs ms pl,vs=[.ref p,.ref q]∧H p=some (.lst xs)∧VF a.C_Machine H xs ms∧H q=some (.tup (pl.map V.int))∧Wc ms∧YR ms pl∧∀ H' l us,Zj H H'→H l=none→H' l=some (.lst (us.map V.str))→Y5 us (Yx (ms.zip pl))→Q (.ref l) H'
theorem xM {P:Program}{w:World}{K:PySem.W.Frag}{mg:Str→Option Value}{base:Heap}{a:Adr} (T:Txt K mg a) (hw:w.params=a.Pm):Yy P w K mg base CX0 1 a.signs_at a.signs_at_fd ["machines", "place"] (xH K a):=by
 refine T.f_signs_at.ok vK (fun vs H Q E h=>?_) (fun cdv A outer s H vs Q E hr h=>?_)
 ·obtain ⟨p,q,xs,ms,pl,rfl,_⟩:=h
  rfl
 ·obtain ⟨p,q,xs,ms,pl,rfl,hp,hm,hq,tm,ip,k⟩:=h
  refine ⟨_,(@Zh _ _ _ (@Zx _ _ _ _ (Zk (qm (P:=P) (w:=w) rfl rfl rfl) rfl T.b_sorted PyProof.Rows.Boot.«sorted» (@Za _ _ _ _ _ (zY (P:=P) (w:=w) rfl rfl (Nc:=["machine", "room", "name"]) (ix:=[none,none,none]) (ZD.of (by decide +kernel:ZK (Zc YW) ["machines", "place"] ["machine", "room", "name"] [none,none,none] _=true)) rfl (qk (K:=K) rfl rfl T.b_zip (@Za _ _ _ _ _ (pv 0) (@Za _ _ _ _ _ (pv 1) Zb (by rfl)) (by rfl))) (fun _ _ _ _ _=>(XU (K:=K) (n:=2) rfl rfl (ZF (Zm (i:=0) (show List.Nodup (["machine", "room", "name"]:List Str) by decide +kernel) rfl (Or.inl rfl)) (ZF (Zm (i:=1) (show List.Nodup (["machine", "room", "name"]:List Str) by decide +kernel) rfl (Or.inl rfl)) XX)))) (fun _ _ _ _ _=>ZT) (fun _ _ _ _ _=>(Uv (K:=K) rfl (@ZH _ _ _ _ _ _ _ (Z0 (K:=K) rfl) (Wg (K:=K) rfl (pv 0) rfl) (pv 1) (fun _ _=>rfl)))) (fun _ _ _ _ _=>(Zm (i:=2) (show List.Nodup (["machine", "room", "name"]:List Str) by decide +kernel) rfl (Or.inl rfl))) (fun _ _ _ _ _=>ZT) (fun _ _ _ _ _=>(pv 2))) Zb (by rfl))))),?_⟩
  refine ⟨_,rfl,_,rfl,p,q,xs,pl.map V.int,rfl,SqL.of hp,SqT.of hq,fun D hD=>?_⟩
  have hl:(ms.zip pl).length=ms.length:=by rw [List.length_zip,ip.1];exact Nat.min_self _
  have lx:=hm.1
  have lp:=ip.1
  refine XW (J:=ItzV K p q) (n:=ms.length) (fun i σ G=>∃ z1 z2 z3:Option V,σ=[z1,z2,z3]∧Zj H G∧G D=some (StO P w D (Yx ((ms.zip pl).take i)))) ?_ ?_ ?_ ?_ ?_
  ·exact ⟨_,_,_,rfl,Zf hD,Zd⟩
  ·rintro i σ G hi ⟨z1,z2,z3,rfl,sm,hd⟩
   exact ⟨_,_,xs[i],.int pl[i],SqL.of (sm _ _ hp),SqT.of (sm _ _ hq),List.getElem?_eq_getElem (by omega),by rw [List.getElem?_map,List.getElem?_eq_getElem (by omega)];rfl⟩
  ·rintro σ G ⟨z1,z2,z3,rfl,sm,hd⟩
   exact ⟨_,_,SqL.of (sm _ _ hp),SqT.of (sm _ _ hq),by rw [List.length_map];omega,by omega⟩
  ·rintro i x σ G G2 hi ⟨z1,z2,z3,rfl,sm,hd⟩ ⟨pr,v,wv,rfl,hpr,rfl,hv,hwv⟩ N hN
   have ev:=hv _ (SqL.of (sm _ _ hp))
   have ew:=hwv _ (SqT.of (sm _ _ hq))
   rw [List.getElem?_map,List.getElem?_eq_getElem (by omega)] at ew
   have ew':wv=.int pl[i]:=(Option.some.inj ew).symm
   subst ew'
   obtain ⟨mq,rfl,hmq⟩:=hm.2 i v _ ev (List.getElem?_eq_getElem hi)
   obtain ⟨dx,t1,t2,t4,ep,h1,h2,h4,hso⟩:=hmq.ex
   obtain ⟨a1,v1,rfl,g1,l1,q1⟩:=h1
   have s2:=Zf (o:=.tup [.ref mq,.int pl[i]]) hpr
   have e2:(upd G pr (.tup [.ref mq,.int pl[i]])) pr=some (.tup [.ref mq,.int pl[i]]):=Zd
   generalize upd G pr (.tup [.ref mq,.int pl[i]])=G3 at s2 e2 ⊢
   refine ⟨pr,_,rfl,SqT.of e2,rfl,_,_,rfl,_,_,rfl,rfl,?_⟩
   have s3:=sm.trans s2
   have hr:=ip.2 i _ _ (List.getElem?_eq_getElem hi) (List.getElem?_eq_getElem (by omega))
   obtain ⟨j,ej⟩:=Int.eq_ofNat_of_zero_le hr.1
   have hj:j<ms[i].d.signs.length:=by omega
   have hj1:j<v1.length:=by omega
   obtain ⟨b,eb,gb⟩:=q1 j _ _ (List.getElem?_eq_getElem hj1) (List.getElem?_eq_getElem hj)
   refine ⟨_,rfl,mq,a.C_Machine,dx,_,_,rfl,s3 _ _ ep,T.cl_Machine,T.na_Machine_room_signs,mlk_signs _ _ _ _,_,rfl,a1,_,_,_,rfl,rfl,SqT.of (s3 _ _ g1),by rw [ej];exact Xx (by rw [List.getElem?_eq_getElem hj1,eb]),b,rfl,⟨_,SqT.of (s3 _ _ gb)⟩,?_⟩
   have esn:Yx ((ms.zip pl).take (i+1))=Yx ((ms.zip pl).take i)++ms[i].d.signs[j]:=by
    rw [Z1 (by omega),Ue]
    congr 1
    rw [List.getElem_zip]
    show ms[i].d.signs.getD (pl[i]).toNat []=_
    rw [ej,Int.toNat_natCast,List.getD_eq_getElem?_getD,List.getElem?_eq_getElem hj];rfl
   have few:(Yx ((ms.zip pl).take i)++ms[i].d.signs[j]).length≤28:=by rw [← esn];exact Wh tm _
   refine XW (J:=Itt K b) (n:=ms[i].d.signs[j].length) (fun n σ F=>∃ z3:Option V,σ=[some (.ref mq),some (.int pl[i]),z3]∧Zj H F∧F D=some (StO P w D (Yx ((ms.zip pl).take i)++(ms[i].d.signs[j]).take n))) ?_ ?_ ?_ ?_ ?_
   ·exact ⟨_,rfl,s3,by rw [List.take_zero,List.append_nil];exact s2 _ _ hd⟩
   ·rintro n σ F hn ⟨z,rfl,sf,hf⟩
    exact ⟨_,_,SqT.of (sf _ _ gb),by rw [List.getElem?_map,List.getElem?_eq_getElem hn];rfl⟩
   ·rintro σ F ⟨z,rfl,sf,hf⟩
    exact ⟨_,SqT.of (sf _ _ gb),by rw [List.length_map];exact Nat.le_refl _⟩
   ·rintro n x σ F F2 hn ⟨z,rfl,sf,hf⟩ ⟨rfl,hx⟩ N2 hN2
    have e:=hx _ (SqT.of (sf _ _ gb))
    rw [List.getElem?_map,List.getElem?_eq_getElem hn] at e
    have e':x=.str (ms[i].d.signs[j])[n]:=(Option.some.inj e).symm
    subst e'
    refine ⟨_,rfl,_,_,rfl,hf,?_,hN2 _ _ ⟨_,rfl,(Zy.upd (Zj.x sf)).same hD,?_⟩⟩
    ·rw [List.length_append] at few ⊢
     rw [List.length_take];omega
    ·rw [Zd,Z1 hn,List.append_assoc]
   ·rintro σ F ⟨z,rfl,sf,hf⟩
    rw [List.take_length,← esn] at hf
    exact hN _ _ ⟨_,_,_,rfl,sf,hf⟩
  ·rintro σ G ⟨z1,z2,z3,rfl,sm,hd⟩
   have few:=Wh tm (p:=pl) ms.length
   rw [← hl,List.take_length] at few hd
   refine ⟨D,_,rfl,hd,by omega,fun l us hl2 hs=>?_⟩
   exact k _ l us (sm.trans (Zf hl2)) (sm.free hl2) Zd hs
def ArePl (H:Hp) (vs:List V) (ps:List (List Int)):Prop:=vs.length=ps.length∧∀ (i:Nat) v p,vs[i]?=some v→ps[i]?=some p→∃ b,v=.ref b∧H b=some (.tup (p.map V.int))
theorem ArePl.mono {H H':Hp}{vs:List V}{ps:List (List Int)} (s:∀ b xs,H b=some (.tup xs)→H' b=some (.tup xs)) (h:ArePl H vs ps):ArePl H' vs ps:=⟨h.1,fun i v p a b=>let ⟨c,e,g⟩:=h.2 i v p a b; ⟨c,e,s _ _ g⟩⟩
theorem ArePl.snoc {H:Hp}{vs:List V}{ps:List (List Int)}{b:Addr}{p:List Int} (h:ArePl H vs ps) (e:H b=some (.tup (p.map V.int))):ArePl H (vs++[.ref b]) (ps++[p]):=by
 refine ⟨by rw [List.length_append,List.length_append,h.1];rfl,fun i v q h1 h2=>?_⟩
 rw [List.getElem?_append] at h1 h2
 rw [h.1] at h1
 split at h1
 ·rename_i hi
  rw [if_pos hi] at h2
  exact h.2 i v q h1 h2
 ·rename_i hi
  rw [if_neg hi] at h2
  cases hj:i - ps.length with
  | zero=>rw [hj] at h1 h2;cases h1;cases h2;exact ⟨b,rfl,e⟩
  | succ k=>rw [hj] at h1;cases h1
theorem WV {H:Hp}{D:Addr}{xs:List V}{o:HO} (h:H D=some (.lst xs)):∀ b ys,H b=some (.tup ys)→(upd H D o) b=some (.tup ys):=fun b ys e=>by
 rw [Zo (fun q=>by rw [q,h] at e;cases e)];exact e
def xh (K:PySem.W.Frag) (a:Adr):Sp:=fun vs H Q _=>∃ p ww q xs ms ws pl,vs=[.ref p,.ref ww,.ref q]∧H p=some (.lst xs)∧VF a.C_Machine H xs ms∧H ww=some (.lst (ws.map V.str))∧ws.length≤64∧H q=some (.tup (pl.map V.int))∧Wc ms∧YR ms pl∧xt ms∧∀ H' l us,Zj H H'→H l=none→H' l=some (.lst us)→ArePl H' us (Y7 ms ws pl)→Q (.ref l) H'
theorem yQ {P:Program}{w:World}{K:PySem.W.Frag}{mg:Str→Option Value}{base:Heap}{a:Adr} (T:Txt K mg a) (hw:w.params=a.Pm):Yy P w K mg base CX0 2 a.places_on a.places_on_fd ["machines", "words", "place"] (xh K a):=by
 have G_Machine_goes_to:=VN (P:=P) (w:=w) (base:=base) T hw
 refine T.f_places_on.ok Xg (fun vs H Q E h=>?_) (fun cdv A outer s H vs Q E hr h=>?_)
 ·obtain ⟨p,ww,q,xs,ms,ws,pl,rfl,_⟩:=h
  rfl
 ·obtain ⟨p,ww,q,xs,ms,ws,pl,rfl,hp,hm,hww,hws,hq,tm,ip,hk,k⟩:=h
  refine ⟨_,(@Ze _ _ _ _ _ (@Zt _ _ (3) _ _ _ _ Xg.nd rfl (Or.inl rfl) pe_dnewT (by rfl) (by first | exact .inl rfl | exact .inr rfl | assumption)) (@Ze _ _ _ _ _ (Xo PassesOwn.never rfl (Zq (K:=K) rfl (pv 1)) (Zm (i:=4) Xg.nd rfl (Or.inr rfl)) (@Ze _ _ _ _ _ (@Zt _ _ (5) _ _ _ _ Xg.nd rfl (Or.inl rfl) (@ZR _ _ _ _ (@Za _ _ _ _ _ (@Wb _ _ _ _ _ Zb) Zb (by rfl))) (by rfl) (by first | exact .inl rfl | exact .inr rfl | assumption)) (@Ze _ _ _ _ _ (Xo PassesOwn.never rfl (qk (K:=K) rfl rfl T.b_zip (@Za _ _ _ _ _ (pv 0) (@Za _ _ _ _ _ (pv 2) Zb (by rfl)) (by rfl))) (XU (K:=K) (n:=2) rfl rfl (ZF (Zm (i:=6) Xg.nd rfl (Or.inr rfl)) (ZF (Zm (i:=7) Xg.nd rfl (Or.inr rfl)) XX))) (@Zh _ _ _ (vE (i:=5) Xg.nd rfl rfl (Nc:=["row", "further", "room", "word", "machine"]) (ix:=[none,none,some 7,some 4,some 6]) (ZD.of (by decide +kernel:ZK (Zc Yw) ["machines", "words", "place", "met", "word", "rows", "machine", "room"] ["row", "further", "room", "word", "machine"] [none,none,some 7,some 4,some 6] _=true)) rfl (Zq (K:=K) rfl (pv 5)) (fun _ _ _ _ _=>(Zm (i:=0) (show List.Nodup (["row", "further", "room", "word", "machine"]:List Str) by decide +kernel) rfl (Or.inl rfl))) (fun _ _ _ _ _=>ZT) (fun _ _ _ _ _=>(Zq (K:=K) rfl (xB (pv 4) T.cl_Machine T.m_Machine_goes_to G_Machine_goes_to (hr.mono (by decide)) T.n_Machine_goes_to .nil Z4 (@Za _ _ _ _ _ (pv 2) (@Za _ _ _ _ _ (pv 3) Zb (by rfl)) (by rfl))))) (fun _ _ _ _ _=>(Zm (i:=1) (show List.Nodup (["row", "further", "room", "word", "machine"]:List Str) by decide +kernel) rfl (Or.inl rfl))) (fun _ _ _ _ _=>ZT) (fun _ _ _ _ _=>(@ZC _ _ _ _ _ _ _ _ (op_catU (K:=K) rfl) (pv 0) (@Wb _ _ _ _ _ (@Za _ _ _ _ _ (pv 1) Zb (by rfl)))))))) (@Zh _ _ _ (@Y9 _ _ _ _ (Wu PySem.F.plainAttrs_dict PySem.F.slot_dict_update PySem.F.type_dict_update (mt_updT (P:=P) (w:=w) rfl rfl (hu_of hr)) (pv 3) (@Za _ _ _ _ _ (yy (o0:=.dT []) (.inr rfl) (Nc:=["row"]) (ix:=[none]) (ZD.of (by decide +kernel:ZK (Zc Yw) ["machines", "words", "place", "met", "word", "rows", "machine", "room"] ["row"] [none] _=true)) (Y0.units0 hr) rfl (Zq (K:=K) rfl (pv 5)) (fun _ _ _ _ _=>(Zm (i:=0) (show List.Nodup (["row"]:List Str) by decide +kernel) rfl (Or.inl rfl))) (fun _ _ _ _ _=>ZT) (fun _ _ _ _ _=>(pv 0)) (fun _ _ _ _ _=>Xz)) Zb (by rfl))) (by rfl)))))) (@Zh _ _ _ (@Zx _ _ _ _ (xw (K:=K) rfl (Zr (xN rfl) rfl T.b_list PyProof.Rows.Boot.«list» (@Za _ _ _ _ _ (pv 3) Zb (by rfl))) (XF (@ZR _ _ _ _ (@Za _ _ _ _ _ (pv 2) Zb (by rfl))))))))),?_⟩
  have hl:(ms.zip pl).length=ms.length:=by rw [List.length_zip,ip.1];exact Nat.min_self _
  have lx:=hm.1
  have lp:=ip.1
  refine fun M hM=>?_
  refine ⟨_,rfl,ww,rfl,⟨_,SqL.of (Zf hM _ _ hww)⟩,?_⟩
  refine YY (J:=Itl K ww) (n:=ws.length) (fun i σ G=>∃ z4 z5 z6 z7:Option V,σ=[some (.ref p),some (.ref ww),some (.ref q),some (.ref M),z4,z5,z6,z7]∧Zj H G∧G M=some (.dT (dPl ((ws.take i).foldl (Vf ms pl) [])))) ?_ ?_ ?_ ?_ ?_
  ·exact ⟨_,_,_,_,rfl,Zf hM,Zd⟩
  ·rintro i σ G hi ⟨z4,z5,z6,z7,rfl,sm,hd⟩
   exact ⟨_,_,SqL.of (sm _ _ hww),by rw [List.getElem?_map,List.getElem?_eq_getElem hi];rfl⟩
  ·rintro σ G ⟨z4,z5,z6,z7,rfl,sm,hd⟩
   exact ⟨_,SqL.of (sm _ _ hww),by rw [List.length_map];exact Nat.le_refl _⟩
  ·rintro i x σ G G2 hi ⟨z4,z5,z6,z7,rfl,sm,hd⟩ ⟨rfl,hx⟩
   have e:=hx _ (SqL.of (sm _ _ hww))
   rw [List.getElem?_map,List.getElem?_eq_getElem hi] at e
   have e':x=.str ws[i]:=(Option.some.inj e).symm
   subst e'
   generalize hwd:ws[i]=wd
   refine ⟨sz0,fun t0 ht0=>?_⟩
   have s1:=Zf (o:=.tup []) ht0
   have e1:(upd G2 t0 (.tup [])) t0=some (.tup (([]:List Int).map V.int)):=Zd
   generalize upd G2 t0 (.tup [])=G3 at s1 e1 ⊢
   refine ⟨sz1,fun R hR=>?_⟩
   have s2:=Zf (o:=.lst [.ref t0]) hR
   have e2:(upd G3 R (.lst [.ref t0])) R=some (.lst [.ref t0]):=Zd
   generalize upd G3 R (.lst [.ref t0])=G4 at s2 e2 ⊢
   have s4:=sm.trans (s1.trans s2)
   refine ⟨_,rfl,_,rfl,p,q,xs,pl.map V.int,rfl,SqL.of (s4 _ _ hp),SqT.of (s4 _ _ hq),?_⟩
   refine YY (J:=ItzV K p q) (n:=ms.length) (fun j σ F=>∃ (R:Addr) (rv:List V) (z6 z7:Option V),σ=[some (.ref p),some (.ref ww),some (.ref q),some (.ref M),some (.str wd),some (.ref R),z6,z7]∧Zj G2 F∧F R=some (.lst rv)∧ArePl F rv (X5 wd ((ms.zip pl).take j))) ?_ ?_ ?_ ?_ ?_
   ·refine ⟨R,[.ref t0],_,_,rfl,s1.trans s2,e2,?_⟩
    rw [List.take_zero]
    refine ⟨rfl,fun i v p h1 h2=>?_⟩
    cases i with
    | zero=>cases h1;cases h2;exact ⟨t0,rfl,s2 _ _ e1⟩
    | succ n=>simp at h1
   ·rintro j σ F hj ⟨R,rv,z6,z7,rfl,sf,hR,ar⟩
    exact ⟨_,_,xs[j],.int pl[j],SqL.of ((sm.trans sf) _ _ hp),SqT.of ((sm.trans sf) _ _ hq),List.getElem?_eq_getElem (by omega),by rw [List.getElem?_map,List.getElem?_eq_getElem (by omega)];rfl⟩
   ·rintro σ F ⟨R,rv,z6,z7,rfl,sf,hR,ar⟩
    exact ⟨_,_,SqL.of ((sm.trans sf) _ _ hp),SqT.of ((sm.trans sf) _ _ hq),by rw [List.length_map];omega,by omega⟩
   ·rintro j x σ F F2 hj ⟨R,rv,z6,z7,rfl,sf,hR,ar⟩ ⟨pr,v,wv,rfl,hpr,rfl,hv,hwv⟩
    have sHF:=sm.trans sf
    have ev:=hv _ (SqL.of (sHF _ _ hp))
    have ew:=hwv _ (SqT.of (sHF _ _ hq))
    rw [List.getElem?_map,List.getElem?_eq_getElem (by omega)] at ew
    have ew':wv=.int pl[j]:=(Option.some.inj ew).symm
    subst ew'
    obtain ⟨mq,rfl,hmq⟩:=hm.2 j v _ ev (List.getElem?_eq_getElem hj)
    have s5:=Zf (o:=.tup [.ref mq,.int pl[j]]) hpr
    have e5:(upd F pr (.tup [.ref mq,.int pl[j]])) pr=some (.tup [.ref mq,.int pl[j]]):=Zd
    generalize upd F pr (.tup [.ref mq,.int pl[j]])=F3 at s5 e5 ⊢
    refine ⟨pr,_,rfl,SqT.of e5,rfl,_,_,rfl,_,_,rfl,rfl,?_⟩
    have hR3:=s5 _ _ hR
    have ar3:ArePl F3 rv (X5 wd ((ms.zip pl).take j)):=ar.mono fun b ys e=>s5 _ _ e
    have sH3:=sHF.trans s5
    have hr:=ip.2 j _ _ (List.getElem?_eq_getElem hj) (List.getElem?_eq_getElem (by omega))
    have gj:=tm.g _ (List.getElem_mem hj)
    have hzk:∀ z∈(ms.zip pl).take j,Wj z.1.d∧0≤z.2∧z.2<z.1.d.signs.length:=fun z hz=>zip_ok tm ip z (List.mem_of_mem_take hz)
    obtain ⟨ro1,ro2⟩:=rows_ok (w:=wd) hzk
    have jl:((ms.zip pl).take j).length=j:=by rw [List.length_take];omega
    rw [jl] at ro1 ro2
    have n4:=tm.n4
    have ro3:(X5 wd ((ms.zip pl).take j)).length≤216:=Nat.le_trans ro1 (Nat.le_trans (Nat.pow_le_pow_right (by decide) (show j≤3 by omega)) (by decide))
    have six:=zc (w:=wd) gj hr
    have esn:X5 wd ((ms.zip pl).take (j+1))=WL ms[j] pl[j] wd (X5 wd ((ms.zip pl).take j)):=by
     rw [Z1 (by omega),VL,List.getElem_zip]
    generalize X5 wd ((ms.zip pl).take j)=rows at ar3 ro2 ro3 esn
    refine ⟨_,rfl,R,rfl,⟨_,SqL.of hR3⟩,fun D hD=>?_⟩
    refine XW (J:=Itl K R) (n:=rows.length) (fun n σ X=>∃ (z1 z2:Option V) (dv:List V),σ=[z1,z2,some (.int pl[j]),some (.str wd),some (.ref mq)]∧Zj F3 X∧X D=some (.lst dv)∧ArePl X dv ((rows.take n).flatMap fun r=>(YA ms[j] pl[j] wd).map fun f=>r++[f])) ?_ ?_ ?_ ?_ ?_
    ·exact ⟨_,_,[],rfl,Zf hD,Zd,rfl,fun i v p h1 h2=>by simp at h1⟩
    ·rintro n σ X hn ⟨z1,z2,dv,rfl,sx,hd2,ad⟩
     exact ⟨_,_,SqL.of (sx _ _ hR3),List.getElem?_eq_getElem (by rw [ar3.1];exact hn)⟩
    ·rintro σ X ⟨z1,z2,dv,rfl,sx,hd2,ad⟩
     exact ⟨_,SqL.of (sx _ _ hR3),by rw [ar3.1];exact Nat.le_refl _⟩
    ·rintro n x σ X X2 hn ⟨z1,z2,dv,rfl,sx,hd2,ad⟩ ⟨rfl,hx⟩ N hN
     have e:=hx _ (SqL.of (sx _ _ hR3))
     obtain ⟨b,rfl,eb⟩:=ar3.2 n x _ e (List.getElem?_eq_getElem hn)
     have lr:=(ro2 _ (List.getElem_mem hn)).1
     have take1:=Z1 hn
     have sHX:=sH3.trans sx
     obtain ⟨dx,t1,t2,t4,em,_⟩:=(hmq.mono sHX).ex
     refine ⟨_,rfl,mq,dx,_,rfl,em,mlk_goes _ _ _ _,_,rfl,_,rfl,mq,pl[j],wd,ms[j],rfl,hmq.mono sHX,gj,fun X3 l s6 hl0 hl3=>?_⟩
     refine ⟨l,rfl,⟨_,SqL.of hl3⟩,?_⟩
     have fm:((rows.take n).flatMap fun r=>(YA ms[j] pl[j] wd).map fun f=>r++[f]).length≤1296:=by
      have:=WA (fun r=>(YA ms[j] pl[j] wd).map fun f=>r++[f]) 6 (rows.take n) fun x _=>by rw [List.length_map];exact six
      rw [List.length_take] at this
      omega
     have nlD:D≠l:=fun e=>by rw [e,hl0] at hd2;cases hd2
     refine XW (J:=Itl K l) (n:=(YA ms[j] pl[j] wd).length) (fun m σ Y=>∃ (z2:Option V) (dv:List V),σ=[some (.ref b),z2,some (.int pl[j]),some (.str wd),some (.ref mq)]∧Zy D X3 Y∧Y D=some (.lst dv)∧ArePl Y dv (((rows.take n).flatMap fun r=>(YA ms[j] pl[j] wd).map fun f=>r++[f])++((YA ms[j] pl[j] wd).take m).map fun f=>rows[n]++[f])) ?_ ?_ ?_ ?_ ?_
     ·refine ⟨_,dv,rfl,.refl _,s6 _ _ hd2,?_⟩
      rw [List.take_zero,List.map_nil,List.append_nil]
      exact ad.mono fun c ys e=>s6 _ _ e
     ·rintro m σ Y hm' ⟨z2,dv,rfl,sy,hdy,ay⟩
      exact ⟨_,_,SqL.of (sy _ _ (Ne.symm nlD) hl3),by rw [List.getElem?_map,List.getElem?_eq_getElem hm'];rfl⟩
     ·rintro σ Y ⟨z2,dv,rfl,sy,hdy,ay⟩
      exact ⟨_,SqL.of (sy _ _ (Ne.symm nlD) hl3),by rw [List.length_map];exact Nat.le_refl _⟩
     ·rintro m x σ Y Y2 hm' ⟨z2,dv,rfl,sy,hdy,ay⟩ ⟨rfl,hx2⟩ N2 hN2
      have e:=hx2 _ (SqL.of (sy _ _ (Ne.symm nlD) hl3))
      rw [List.getElem?_map,List.getElem?_eq_getElem hm'] at e
      have e':x=.int (YA ms[j] pl[j] wd)[m]:=(Option.some.inj e).symm
      subst e'
      have ldv:dv.length≤2000:=by
       rw [ay.1,List.length_append,List.length_map,List.length_take];omega
      have nbD:b≠D:=fun q=>by rw [q,hD] at eb;cases eb
      have ebY:=sy _ _ nbD ((sx.trans s6) _ _ eb)
      have grow:∀ (c:Addr) (Z:Hp),Zj Y2 Z→Z c=some (.tup ((rows[n]++[(YA ms[j] pl[j] wd)[m]]).map V.int))→∃ ys,Z D=some (.lst ys)∧ys.length<sizeLine∧N2 [some (.ref b),some (.int (YA ms[j] pl[j] wd)[m]),some (.int pl[j]),some (.str wd),some (.ref mq)] (upd Z D (.lst (ys++[.ref c]))):=fun c Z sz hc=>by
       have hdz:=sz _ _ hdy
       refine ⟨dv,hdz,by rw [sizeLine_eq];omega,hN2 _ _ ⟨_,dv++[.ref c],rfl,Zy.upd (sy.trans (Zj.x sz)),Zd,?_⟩⟩
       have:=((ay.mono fun c ys e=>sz _ _ e).snoc hc).mono (WV (o:=.lst (dv++[.ref c])) hdz)
       rw [Z1 hm',List.map_append,← List.append_assoc]
       exact this
      refine ⟨_,rfl,_,rfl,sz1,fun t ht=>?_⟩
      have s7:=Zf (o:=.tup [.int (YA ms[j] pl[j] wd)[m]]) ht
      have e7:(upd Y2 t (.tup [.int (YA ms[j] pl[j] wd)[m]])) t=some (.tup [.int (YA ms[j] pl[j] wd)[m]]):=Zd
      generalize upd Y2 t (.tup [.int (YA ms[j] pl[j] wd)[m]])=Y3 at s7 e7 ⊢
      refine ⟨b,t,_,_,rfl,rfl,SqT.of (s7 _ _ ebY),SqT.of e7,by simp,by rw [List.length_map,lr,sizeLine_eq];show j+1≤_;omega,fun hz=>?_,fun _ c hc=>?_⟩
      ·have:rows[n]=[]:=by simpa using hz
       refine grow t Y3 s7 ?_
       rw [this];exact e7
      ·refine grow c _ (s7.trans (Zf hc)) ?_
       rw [Zd,List.map_append];rfl
     ·rintro σ Y ⟨z2,dv,rfl,sy,hdy,ay⟩
      rw [List.take_length] at ay
      refine hN _ _ ⟨_,_,dv,rfl,?_,hdy,?_⟩
      ·exact (((Zj.x (sx.trans s6)).trans sy)).same hD
      ·rw [take1,List.flatMap_append]
       have:([rows[n]].flatMap fun r=>(YA ms[j] pl[j] wd).map fun f=>r++[f])=(YA ms[j] pl[j] wd).map fun f=>rows[n]++[f]:=by simp
       rw [this];exact ay
    ·rintro σ X ⟨z1,z2,dv,rfl,sx,hd2,ad⟩
     rw [List.take_length] at ad
     exact ⟨D,dv,_,_,rfl,(sf.trans s5).trans sx,hd2,by rw [esn];exact ad⟩
   ·rintro σ F ⟨R,rv,z6,z7,rfl,sf,hR,ar⟩
    rw [← hl,List.take_length] at ar
    have hdF:=sf _ _ hd
    obtain ⟨ro1,ro2⟩:=Us tm ip wd
    change ArePl F rv (XJ wd ms pl) at ar
    refine ⟨_,rfl,.inr (.inr (.inl ⟨rfl,.inr ⟨_,hdF⟩⟩)),_,rfl,R,rfl,⟨_,SqL.of hR⟩,fun D hD=>?_⟩
    have nMD:M≠D:=fun e=>by rw [e,hD] at hdF;cases hdF
    refine XW (J:=Itl K R) (n:=(XJ wd ms pl).length) (fun n σ X=>∃ z:Option V,σ=[z]∧Zj F X∧X D=some (.dT (dPl (Zi [] ((XJ wd ms pl).take n))))) ?_ ?_ ?_ ?_ ?_
    ·exact ⟨_,rfl,Zf hD,Zd⟩
    ·rintro n σ X hn ⟨z,rfl,sx,hd2⟩
     exact ⟨_,_,SqL.of (sx _ _ hR),List.getElem?_eq_getElem (by rw [ar.1];exact hn)⟩
    ·rintro σ X ⟨z,rfl,sx,hd2⟩
     exact ⟨_,SqL.of (sx _ _ hR),by rw [ar.1];exact Nat.le_refl _⟩
    ·rintro n x σ X X2 hn ⟨z,rfl,sx,hd2⟩ ⟨rfl,hx2⟩ N hN
     have e:=hx2 _ (SqL.of (sx _ _ hR))
     obtain ⟨b,rfl,eb⟩:=ar.2 n x _ e (List.getElem?_eq_getElem hn)
     have fw:=(YL ((XJ wd ms pl).take n) []).2
     rw [List.length_nil,List.length_take] at fw
     refine ⟨_,rfl,_,DPut.t (k:=Xf (XJ wd ms pl)[n]) hd2 (by rw [qC];exact sx _ _ eb) (by rw [xp,sizeLine_eq];omega),hN _ _ ⟨_,rfl,(Zy.upd (Zj.x sx)).same hD,?_⟩⟩
     rw [Zd,Z1 hn,XI,dPl_put]
    ·rintro σ X ⟨z,rfl,sx,hd2⟩
     rw [List.take_length] at hd2
     have mb:=qe tm ip (ws.take i) [] (fun q hq=>by cases hq) (by simp)
     have ub:=(YL (XJ wd ms pl) []).2
     rw [List.length_nil] at ub
     have mb3:=mb.2.2
     rw [List.length_nil,List.length_take] at mb3
     refine ⟨M,D,_,_,rfl,rfl,nMD,sx _ _ hdF,hd2,fun _=>?_,by rw [xp,xp,sizeLine_eq];omega,?_⟩
     ·intro x hx y hy exy
      unfold dPl at hx hy
      obtain ⟨x1,hx1,rfl⟩:=List.mem_map.mp hx
      obtain ⟨y1,hy1,rfl⟩:=List.mem_map.mp hy
      obtain ⟨x2,hx2,rfl⟩:=List.mem_map.mp hx1
      obtain ⟨y2,hy2,rfl⟩:=List.mem_map.mp hy1
      rw [YK] at hx2 hy2
      have hx3:x2∈XJ wd ms pl:=hx2.elim (fun z=>by cases z) id
      have hy3:y2∈XJ wd ms pl:=hy2.elim (fun z=>by cases z) id
      change tkH P w (Xf x2)=tkH P w (Xf y2) at exy
      rw [yr,yr] at exy
      show Xf x2=Xf y2
      rw [hk _ _ (ro2 _ hx3) (ro2 _ hy3) exy]
     ·refine ⟨_,_,_,_,rfl,(Zy.upd (Zj.x (sm.trans (sf.trans sx)))).same hM,?_⟩
      rw [Zd,dPl_merge,Z1 hi,List.foldl_append,hwd];rfl
  ·rintro σ G ⟨z4,z5,z6,z7,rfl,sm,hd⟩
   rw [List.take_length] at hd
   refine ⟨_,rfl,M,_,rfl,hd,fun l vs hl0 ar=>?_⟩
   rw [dPl_keys] at ar
   have s8:=Zf (o:=.lst vs) hl0
   have e8:(upd G l (.lst vs)) l=some (.lst vs):=Zd
   have ar8:ArePl (upd G l (.lst vs)) vs (ws.foldl (Vf ms pl) []):=⟨by rw [ar.1,List.length_map],fun i v p h1 h2=>by
    obtain ⟨b,e,g⟩:=ar.2 i v (Xf p) h1 (by rw [List.getElem?_map,h2];rfl)
    rw [qC] at g
    exact ⟨b,e,s8 _ _ g⟩⟩
   generalize upd G l (.lst vs)=G2 at s8 e8 ar8 ⊢
   have hnl:=sm.free hl0
   by_cases hz:ws.foldl (Vf ms pl) []=[]
   ·have hv:vs=[]:=List.eq_nil_of_length_eq_zero (by rw [ar8.1,hz];rfl)
    subst hv
    refine ⟨false,.inl ⟨_,SqL.of e8,rfl⟩,Yz ⟨_,rfl,sz1,fun l2 hl2=>?_⟩⟩
    have s9:=Zf (o:=.lst [.ref q]) hl2
    refine k _ l2 [.ref q] (sm.trans (s8.trans s9)) ((sm.trans s8).free hl2) Zd ?_
    unfold Y7
    rw [if_pos hz]
    refine ⟨rfl,fun i v p h1 h2=>?_⟩
    cases i with
    | zero=>cases h1;cases h2;exact ⟨q,rfl,(sm.trans (s8.trans s9)) _ _ hq⟩
    | succ n=>simp at h1
   ·have hv:vs≠[]:=fun e=>hz (List.eq_nil_of_length_eq_zero (by rw [← ar8.1,e];rfl))
    refine ⟨true,.inl ⟨_,SqL.of e8,?_⟩,Yh ?_⟩
    ·cases vs with
     | nil=>exact absurd rfl hv
     | cons v r=>rfl
    ·refine k _ l vs (sm.trans s8) hnl e8 ?_
     unfold Y7
     rw [if_neg hz];exact ar8
def AreW (PL WY:Addr) (H:Hp) (wv:List V) (ways:List (List Int)):Prop:=wv.length=ways.length∧∀ (i:Nat) v w,wv[i]?=some v→ways[i]?=some w→∃ b,v=.ref b∧b≠PL∧b≠WY∧H b=some (.lst (w.map V.int))
def Xq (ms:List MM):List Str:=ms.flatMap fun m=>m.us
theorem UU {ms:List MM} (t:Wc ms) (n:Nat):(Xq (ms.take n)).length≤48:=by
 have h:=WA (fun m:MM=>m.us) 12 (ms.take n) fun m hm=>by
  have:=(t.so m (List.mem_of_mem_take hm)).len
  have:=t.k12 m (List.mem_of_mem_take hm)
  omega
 have:(ms.take n).length≤ms.length:=by rw [List.length_take];omega
 have:=t.n4
 unfold Xq
 omega
theorem V8 (ms:List MM) (m:MM):Xq (ms++[m])=Xq ms++m.us:=by unfold Xq;rw [List.flatMap_append];simp
theorem UH {α:Type}:∀ {ys:List V}{P:Nat→V→α→Prop},(∀ (i:Nat) v,ys[i]?=some v→∃ x,P i v x)→∃ xs:List α,ys.length=xs.length∧∀ (i:Nat) v x,ys[i]?=some v→xs[i]?=some x→P i v x
 | [],P,_=>⟨[],rfl,fun i v x h=>by simp at h⟩
 | y :: r,P,h=>by
  obtain ⟨x,hx⟩:=h 0 y rfl
  obtain ⟨xs,hl,hq⟩:=UH (ys:=r) (P:=fun i v x=>P (i+1) v x) fun i v e=>h (i+1) v (by simpa using e)
  refine ⟨x :: xs,by rw [List.length_cons,List.length_cons,hl],fun i v z e1 e2=>?_⟩
  cases i with
  | zero=>cases e1;cases e2;exact hx
  | succ n=>exact hq n v z (by simpa using e1) (by simpa using e2)
def yp (a:Adr) (H:Hp) (f:V) (ms:List MM) (Q:VK) (E:XK):Option (List (List Int) × List (List Int))→Prop
 | none=>∀ H' e,Zj H H'→E (.ref e) (some a.C_TooMany) H'
 | some (ps,ways)=>((Zu H f && few3 (YO H f))=false→∀ H' e,Zj H H'→E (.ref e) (some a.C_BadWorld) H') ∧
   ∀ fs:List Str,LS H f fs→fs.Nodup→(∀ x∈fs,Zw x=true)→fs.length≤3→∀ H' r o L pv d,Zj H H'→H' r=some (.tup [.ref o,.ref L])→H L=none→H' L=some (.lst pv)→ArePl H' pv ps→Y6 a.C_World H' o d→Good d→d.signs.length=ps.length →
    (∀ (i:Nat) p ss,ps[i]?=some p→d.signs[i]?=some ss→Y5 ss (Yx (ms.zip p)))→d.ways=ways→d.starts=[0]→d.fair=fs→Q (.ref r) H'
def Uf (K:PySem.W.Frag) (a:Adr):Sp:=fun vs H Q E=>∃ p xs ms f,vs=[.ref p,f]∧H p=some (.lst xs)∧VF a.C_Machine H xs ms∧xs.length≤1000∧KdL H f ∧
   (¬ (1≤xs.length∧xs.length≤4)→∀ H' e,Zj H H'→E (.ref e) (some a.C_BadWorld) H') ∧
   (1≤xs.length→xs.length≤4→Wc ms∧xt ms∧∀ ws,Y5 ws (Xq ms)→yp a H f ms Q E (Vj ms ws 22 [ms.map fun m=>m.d.start] []))
theorem yl {P:Program}{w:World}{K:PySem.W.Frag}{mg:Str→Option Value}{base:Heap}{a:Adr} (T:Txt K mg a) (hw:w.params=a.Pm):Yy P w K mg base (CXe P w) 8 a.beside a.beside_fd ["machines", "fair"] (Uf K a):=by
 have G_are_machines:=qb (P:=P) (w:=w) (base:=base) T hw
 have G_places_on:=yQ (P:=P) (w:=w) (base:=base) T hw
 have G_signs_at:=xM (P:=P) (w:=w) (base:=base) T hw
 have Z_World_init:=fn_or2 (zu (P:=P) (w:=w) (base:=base) T hw) (fn_up (zK (P:=P) (w:=w) (base:=base) T hw))
 refine fun_okX T.f_beside X7 (fun vs H Q E h=>?_) (fun cdv A outer s H vs Q E hr h=>?_)
 ·obtain ⟨p,xs,ms,f,rfl,_⟩:=h
  rfl
 ·obtain ⟨p,xs,ms,f,rfl,hp,hm,hz,kf,kb,kg⟩:=h
  refine ⟨_,(@Ze _ _ _ _ _ (@YF _ _ _ _ _ _ _ _ (@YM _ _ _ _ (Xa (ZA G_are_machines (hr.mono (by decide)) rfl T.g_are_machines T.f_are_machines.kp T.n_are_machines .nil Z4 (@Za _ _ _ _ _ (pv 0) Zb (by rfl))))) (@Zh _ _ _ (qV UC rfl rfl T.g_BadWorld T.x_BadWorld PySem.F.excBase_ValueError (@Za _ _ _ _ _ Xm Zb (by rfl)))) ZL) (@Ze _ _ _ _ _ (@Zt _ _ (2) _ _ _ _ X7.nd rfl (Or.inl rfl) (Zk (qm (P:=P) (w:=w) rfl rfl rfl) rfl T.b_sorted PyProof.Rows.Boot.«sorted» (@Za _ _ _ _ _ (zY (P:=P) (w:=w) rfl rfl (Nc:=["machine", "word"]) (ix:=[none,none]) (ZD.of (by decide +kernel:ZK (Zc Y8) ["machines", "fair", "words", "places", "numbers", "ways", "met", "place"] ["machine", "word"] [none,none] _=true)) rfl (Zq (K:=K) rfl (pv 0)) (fun _ _ _ _ _=>(Zm (i:=0) (show List.Nodup (["machine", "word"]:List Str) by decide +kernel) rfl (Or.inl rfl))) (fun _ _ _ _ _=>ZT) (fun _ _ _ _ _=>(Uv (K:=K) rfl (Wg (K:=K) rfl (pv 0) rfl))) (fun _ _ _ _ _=>(Zm (i:=1) (show List.Nodup (["machine", "word"]:List Str) by decide +kernel) rfl (Or.inl rfl))) (fun _ _ _ _ _=>ZT) (fun _ _ _ _ _=>(pv 1))) Zb (by rfl))) (by rfl) (by first | exact .inl rfl | exact .inr rfl | assumption)) (@Ze _ _ _ _ _ (@Zt _ _ (3) _ _ _ _ X7.nd rfl (Or.inl rfl) (@ZR _ _ _ _ (@Za _ _ _ _ _ (Zr (Yv (K:=K) rfl) rfl T.b_tuple PyProof.Rows.Boot.«tuple» (@Za _ _ _ _ _ (ZV (Nc:=["machine"]) (ix:=[none]) (ZD.of (by decide +kernel:ZK (Zc Y8) ["machines", "fair", "words", "places", "numbers", "ways", "met", "place"] ["machine"] [none] _=true)) rfl (Zq (K:=K) rfl (pv 0)) (fun _ _ _ _ _=>(Zm (i:=0) (show List.Nodup (["machine"]:List Str) by decide +kernel) rfl (Or.inl rfl))) (fun _ _ _ _ _=>ZT) (fun _ _ _ _ _=>(Wg (K:=K) rfl (pv 0) rfl))) Zb (by rfl))) Zb (by rfl))) (by rfl) (by first | exact .inl rfl | exact .inr rfl | assumption)) (@Ze _ _ _ _ _ (@Zt _ _ (4) _ _ _ _ X7.nd rfl (Or.inr rfl) (pe_dispT (Y0.units0 hr) (@ZH _ _ _ _ _ _ _ (ZM (K:=K) rfl) (pv 3) Zg (fun _ _=>rfl)) Zg) (by rfl) (by first | exact .inl rfl | exact .inr rfl | assumption)) (@Ze _ _ _ _ _ (@Zt _ _ (5) _ _ _ _ X7.nd rfl (Or.inl rfl) (@ZR _ _ _ _ Zb) (by rfl) (by first | exact .inl rfl | exact .inr rfl | assumption)) (@Ze _ _ _ _ _ (qW PassesOwn.leaving (@ZJ _ _ _ _ _ _ _ _ zR (Zk (Zv (K:=K) rfl) rfl T.b_len PyProof.Rows.Boot.«len» (@Za _ _ _ _ _ (pv 5) Zb (by rfl))) (Zk (Zv (K:=K) rfl) rfl T.b_len PyProof.Rows.Boot.«len» (@Za _ _ _ _ _ (pv 3) Zb (by rfl))) (ZW _)) (@Ze _ _ _ _ _ (@Zt _ _ (6) _ _ _ _ X7.nd rfl (Or.inl rfl) (ZA G_places_on (hr.mono (by decide)) rfl T.g_places_on T.f_places_on.kp T.n_places_on .nil Z4 (@Z9 _ _ _ _ _ (pv 0) (@Z9 _ _ _ _ _ (pv 2) (@Z9 _ _ _ _ _ (@ZH _ _ _ _ _ _ _ (ZM (K:=K) rfl) (pv 3) (Zk (Zv (K:=K) rfl) rfl T.b_len PyProof.Rows.Boot.«len» (@Za _ _ _ _ _ (pv 5) Zb (by rfl))) (fun _ _=>rfl)) Zb (by rfl)) (by rfl)) (by rfl))) (by rfl) (by first | exact .inl rfl | exact .inr rfl | assumption)) (@Ze _ _ _ _ _ (Xo PassesOwn.leaving rfl (Zq (K:=K) rfl (pv 6)) (Zm (i:=7) X7.nd rfl (Or.inl rfl)) (@Zh _ _ _ (@YF _ _ _ _ _ _ _ _ (pt_cmp (pc_dnotin (hu_of hr) (pv 7) (pv 4))) (@Ze _ _ _ _ _ (ps_dput (hu_of hr) (pv 4) (pv 7) (Zk (Zv (K:=K) rfl) rfl T.b_len PyProof.Rows.Boot.«len» (@Za _ _ _ _ _ (pv 3) Zb (by rfl))) rfl) (@Zh _ _ _ (@Y9 _ _ _ _ (Wu PySem.F.plainAttrs_list PySem.F.slot_list_append PySem.F.type_list_append YJ (pv 3) (@Za _ _ _ _ _ (pv 7) Zb (by rfl))) (by rfl)))) ZL))) (@Ze _ _ _ _ _ (@YF _ _ _ _ _ _ _ _ (@ZJ _ _ _ _ _ _ _ _ op_gt (Zk (Zv (K:=K) rfl) rfl T.b_len PyProof.Rows.Boot.«len» (@Za _ _ _ _ _ (pv 3) Zb (by rfl))) (W9 rfl T.c_MOST_ROOMS) (ZW _)) (@Zh _ _ _ (qV UC rfl rfl T.g_TooMany T.x_TooMany PySem.F.excBase_ValueError (@Za _ _ _ _ _ Xm Zb (by rfl)))) ZL) (@Zh _ _ _ (@Y9 _ _ _ _ (Wu PySem.F.plainAttrs_list PySem.F.slot_list_append PySem.F.type_list_append YJ (pv 5) (@Za _ _ _ _ _ (ZV (Nc:=["place", "numbers"]) (ix:=[none,some 4]) (ZD.of (by decide +kernel:ZK (Zc Y8) ["machines", "fair", "words", "places", "numbers", "ways", "met", "place"] ["place", "numbers"] [none,some 4] _=true)) rfl (Zq (K:=K) rfl (pv 6)) (fun _ _ _ _ _=>(Zm (i:=0) (show List.Nodup (["place", "numbers"]:List Str) by decide +kernel) rfl (Or.inl rfl))) (fun _ _ _ _ _=>ZT) (fun _ _ _ _ _=>(pe_dget (hu_of hr) (pv 1) (pv 0) (fun _ _=>rfl)))) Zb (by rfl))) (by rfl))))))) (@Zh _ _ _ (@Zx _ _ _ _ (@Wb _ _ _ _ _ (@Za _ _ _ _ _ (yZ T.mk_World Z_World_init (hr.mono (by decide)) rfl T.g_World T.n_World_init .nil passes_cx (@Z9 _ _ _ _ _ (ZV (Nc:=["place", "machines"]) (ix:=[none,some 0]) (ZD.of (by decide +kernel:ZK (Zc Y8) ["machines", "fair", "words", "places", "numbers", "ways", "met", "place"] ["place", "machines"] [none,some 0] _=true)) rfl (Zq (K:=K) rfl (pv 3)) (fun _ _ _ _ _=>(Zm (i:=0) (show List.Nodup (["place", "machines"]:List Str) by decide +kernel) rfl (Or.inl rfl))) (fun _ _ _ _ _=>ZT) (fun _ _ _ _ _=>(ZA G_signs_at (hr.mono (by decide)) rfl T.g_signs_at T.f_signs_at.kp T.n_signs_at .nil Z4 (@Za _ _ _ _ _ (pv 1) (@Za _ _ _ _ _ (pv 0) Zb (by rfl)) (by rfl))))) (@Z9 _ _ _ _ _ (pv 5) (@Z9 _ _ _ _ _ (@ZR _ _ _ _ (@Za _ _ _ _ _ Zg Zb (by rfl))) (@Z9 _ _ _ _ _ (pv 1) Zb (by rfl)) (by rfl)) (by rfl)) (by rfl))) (@Za _ _ _ _ _ (pv 3) Zb (by rfl)) (by rfl))))))))))),?_⟩
  refine ⟨_,rfl,p,xs,ms,rfl,hp,hm,hz,fun H1 s1=>⟨_,rfl,?_⟩⟩
  by_cases c0:1≤xs.length∧xs.length≤4
  case neg=>
   have e:(decide (1≤xs.length) && decide (xs.length≤4))=false:=by
    rw [Bool.and_eq_false_iff,decide_eq_false_iff_not,decide_eq_false_iff_not];omega
   rw [e]
   exact Yh ⟨by decide,fun e=>kb c0 H1 e s1⟩
  rw [decide_eq_true c0.1,decide_eq_true c0.2]
  refine Yz ?_
  obtain ⟨tm,hk,kw⟩:=kg c0.1 c0.2
  clear kg kb
  have lx:=hm.1
  have hp1:=s1 _ _ hp
  have hm1:=hm.mono s1
  refine ⟨_,rfl,p,rfl,⟨_,SqL.of hp1⟩,fun D hD=>?_⟩
  refine XW (J:=Itl K p) (n:=ms.length) (fun i σ G=>∃ z1 z2:Option V,σ=[z1,z2]∧Zj H1 G∧G D=some (StO P w D (Xq (ms.take i)))) ?_ ?_ ?_ ?_ ?_
  ·exact ⟨_,_,rfl,Zf hD,Zd⟩
  ·rintro i σ G hi ⟨z1,z2,rfl,sm,hd⟩
   exact ⟨_,_,SqL.of (sm _ _ hp1),List.getElem?_eq_getElem (by omega)⟩
  ·rintro σ G ⟨z1,z2,rfl,sm,hd⟩
   exact ⟨_,SqL.of (sm _ _ hp1),by omega⟩
  ·rintro i x σ G G2 hi ⟨z1,z2,rfl,sm,hd⟩ ⟨rfl,hx⟩ N hN
   have e:=hx _ (SqL.of (sm _ _ hp1))
   obtain ⟨mq,rfl,hmq⟩:=hm1.2 i x _ e (List.getElem?_eq_getElem hi)
   obtain ⟨dx,t1,t2,t4,ep,_,_,h4,hso⟩:=hmq.ex
   obtain ⟨a4,rfl,g4⟩:=h4
   refine ⟨_,rfl,mq,a.C_Machine,dx,_,_,rfl,sm _ _ ep,T.cl_Machine,T.na_Machine_words,yn _ _ _ _,a4,rfl,⟨_,SqT.of (sm _ _ g4)⟩,?_⟩
   have few:(Xq (ms.take i)++ms[i].us).length≤48:=by rw [← V8,← Z1 hi];exact UU tm _
   refine XW (J:=Itt K a4) (n:=ms[i].us.length) (fun n σ F=>∃ z2:Option V,σ=[some (.ref mq),z2]∧Zj H1 F∧F D=some (StO P w D (Xq (ms.take i)++(ms[i].us).take n))) ?_ ?_ ?_ ?_ ?_
   ·exact ⟨_,rfl,sm,by rw [List.take_zero,List.append_nil];exact hd⟩
   ·rintro n σ F hn ⟨z,rfl,sf,hf⟩
    exact ⟨_,_,SqT.of (sf _ _ g4),by rw [List.getElem?_map,List.getElem?_eq_getElem hn];rfl⟩
   ·rintro σ F ⟨z,rfl,sf,hf⟩
    exact ⟨_,SqT.of (sf _ _ g4),by rw [List.length_map];exact Nat.le_refl _⟩
   ·rintro n x σ F F2 hn ⟨z,rfl,sf,hf⟩ ⟨rfl,hx⟩ N2 hN2
    have e:=hx _ (SqT.of (sf _ _ g4))
    rw [List.getElem?_map,List.getElem?_eq_getElem hn] at e
    have e':x=.str (ms[i].us)[n]:=(Option.some.inj e).symm
    subst e'
    refine ⟨_,rfl,_,_,rfl,hf,?_,hN2 _ _ ⟨_,rfl,(Zy.upd (Zj.x sf)).same hD,?_⟩⟩
    ·rw [List.length_append] at few ⊢
     rw [List.length_take];omega
    ·rw [Zd,Z1 hn,List.append_assoc]
   ·rintro σ F ⟨z,rfl,sf,hf⟩
    rw [List.take_length,← V8,← Z1 hi] at hf
    exact hN _ _ ⟨_,_,rfl,sf,hf⟩
  rintro σ G ⟨z1,z2,rfl,sm,hd⟩
  have few:=UU tm ms.length
  rw [List.take_length] at few hd
  refine ⟨D,_,rfl,hd,by omega,fun WS ws hWS hso=>?_⟩
  have s2:=sm.trans (Zf (o:=.lst (ws.map V.str)) hWS)
  have eWS:(upd G WS (.lst (ws.map V.str))) WS=some (.lst (ws.map V.str)):=Zd
  generalize upd G WS (.lst (ws.map V.str))=H2 at s2 eWS ⊢
  have wl:ws.length≤64:=by have:=hso.len;omega
  have kr:=kw ws hso
  clear kw
  have hp2:=s2 _ _ hp1
  have hm2:=hm1.mono s2
  refine ⟨_,rfl,p,rfl,⟨_,SqL.of hp2⟩,fun D2 hD2=>?_⟩
  refine Yc (K:=K) hD2 (SqL.of hp2) (by rw [sizeLine_eq];omega) (fun i v _=>∀ m,ms[i]?=some m→v=.int m.d.start) (fun _ _ _ _ _ q=>q) ?_ ?_
  ·intro i x H3 N hx sm3 hN
   have hi:i<ms.length:=by rw [← lx];exact (List.getElem?_eq_some_iff.mp hx).1
   obtain ⟨mq,rfl,hmq⟩:=hm2.2 i x _ hx (List.getElem?_eq_getElem hi)
   obtain ⟨dx,t1,t2,t4,ep,_⟩:=hmq.ex
   refine ⟨_,rfl,mq,a.C_Machine,dx,_,_,rfl,sm3 _ _ ep,T.cl_Machine,T.na_Machine_start,mlk_start _ _ _ _,?_⟩
   refine hN _ _ (.refl _) fun m hm'=>?_
   rw [List.getElem?_eq_getElem hi] at hm'
   cases hm'
   rfl
  intro H3 zs hD3 s3 lz rz
  have ez:zs=(ms.map fun m=>m.d.start).map V.int:=by
   refine List.ext_getElem (by simp only [List.length_map];omega) fun i h1 h2=>?_
   have hi:i<ms.length:=by omega
   have:=rz i _ (List.getElem?_eq_getElem h1) _ (List.getElem?_eq_getElem hi)
   rw [this]
   simp only [List.getElem_map]
  subst ez
  have pk0:=xO tm
  generalize hst:(ms.map fun m=>m.d.start)=p0 at hD3 pk0 kr
  refine ⟨D2,_,rfl,.inl ⟨SqL.of hD3,fun t0 ht0=>?_⟩⟩
  have s4:=Zf (o:=.tup (p0.map V.int)) ht0
  have e4:(upd H3 t0 (.tup (p0.map V.int))) t0=some (.tup (p0.map V.int)):=Zd
  generalize upd H3 t0 (.tup (p0.map V.int))=H4 at s4 e4 ⊢
  refine ⟨sz1,fun PL hPL=>?_⟩
  have s5:=Zf (o:=.lst [.ref t0]) hPL
  have e5:(upd H4 PL (.lst [.ref t0])) PL=some (.lst [.ref t0]):=Zd
  generalize upd H4 PL (.lst [.ref t0])=H5 at s5 e5 ⊢
  refine fun NB hNB=>?_
  have s6:=Zf (o:=.dT []) hNB
  have e6:(upd H5 NB (.dT [])) NB=some (.dT []):=Zd
  generalize upd H5 NB (.dT [])=H6 at s6 e6 ⊢
  refine ⟨_,rfl,PL,_,_,.ref t0,rfl,rfl,SqL.of (s6 _ _ e5),rfl,t0,Xf p0,rfl,e6,by rw [qC];exact (s5.trans s6) _ _ e4,?_⟩
  have s7:Zj H5 (upd H6 NB (.dT [(Xf p0,.int 0)])):=(Zy.upd (Zj.x s6)).same hNB
  have e7:(upd H6 NB (.dT [(Xf p0,.int 0)])) NB=some (.dT (dNu [p0])):=Zd
  generalize upd H6 NB (.dT [(Xf p0,.int 0)])=H7 at s7 e7 ⊢
  refine ⟨sz0,fun WY hWY=>?_⟩
  have s8:=Zf (o:=.lst []) hWY
  have e8:(upd H7 WY (.lst [])) WY=some (.lst []):=Zd
  generalize upd H7 WY (.lst [])=H8 at s8 e8 ⊢
  have s24:=s3.trans s4
  have nPL:H4 PL=none:=hPL
  have nNB:H4 NB=none:=s5.free hNB
  have nWY:H4 WY=none:=(s5.trans s7).free hWY
  have s48:Zj H4 H8:=s5.trans (s7.trans s8)
  have d1:PL≠NB:=fun e=>by rw [e,hNB] at e5;cases e5
  have d2:PL≠WY:=fun e=>by rw [← e,s7 _ _ e5] at hWY;cases hWY
  have d3:NB≠WY:=fun e=>by rw [← e,e7] at hWY;cases hWY
  have hp4:=s24 _ _ hp2
  have hm4:=hm2.mono s24
  have eW4:=s24 _ _ eWS
  have sH4:Zj H H4:=s1.trans (s2.trans s24)
  have e58:=(s7.trans s8) _ _ e5
  have e78:=s8 _ _ e7
  have a0:ArePl H8 [.ref t0] [p0]:=⟨rfl,fun i v q h1 h2=>by
   cases i with
   | zero=>cases h1;cases h2;exact ⟨t0,rfl,s48 _ _ e4⟩
   | succ n=>simp at h1⟩
  clear e5 e6 e7 hWY hNB hPL s5 s6 s7 s8 s3 s4 rz lz hD3 hD2 hst e4 ht0 hd hWS
  refine ⟨fun n σ G=>∃ (z6 z7:Option V) (pv wv:List V) (ps ways:List (List Int)),σ=[some (.ref p),some f,some (.ref WS),some (.ref PL),some (.ref NB),some (.ref WY),z6,z7]∧Zj H4 G∧G PL=some (.lst pv)∧ArePl G pv ps∧G NB=some (.dT (dNu ps))∧G WY=some (.lst wv)∧AreW PL WY G wv ways∧PlOk ms ps∧ps.length≤20∧ways.length≤ps.length∧WyOk ps.length ways∧Vj ms ws (22 - ways.length) ps ways=Vj ms ws 22 [p0] []∧n=22 - ways.length,⟨22,_,_,[.ref t0],[],[p0],[],rfl,s48,e58,a0,e78,e8,⟨rfl,fun i v w e=>by simp at e⟩,pk0,(by show 1≤20;decide),Nat.zero_le _,(fun w hw=>by cases hw),rfl,rfl⟩,?_⟩
  rintro n σ G ⟨z6,z7,pv,wv,ps,ways,rfl,sG,hPL,aP,hNB,hWY,aW,pk,l20,lw,wk,hrun,rfl⟩
  have lpv:=aP.1
  have lwv:=aW.1
  refine ⟨_,rfl,.inl ⟨WY,wv,rfl,.inl (SqL.of hWY),_,rfl,.inl ⟨PL,pv,rfl,.inl (SqL.of hPL),_,_,rfl,rfl,_,rfl,Wm (fun c1=>?body) (fun c1=>?Xc)⟩⟩⟩
  case Xc=>
   have hk1:ways.length=ps.length:=by have:¬ ((wv.length:Int)<(pv.length:Nat)):=fun z=>c1 (decide_eq_true z);omega
   have hrun2:Vj ms ws (22 - ways.length) ps ways=some (ps,ways):=by
    have:22 - ways.length=(21 - ways.length)+1:=by omega
    rw [this]
    show (if ways.length<ps.length then _ else _)=_
    rw [if_neg (by omega)]
   rw [hrun2] at hrun
   rw [← hrun] at kr
   obtain ⟨kbad,kgood⟩:=kr
   have hmG:=hm4.mono sG
   refine ⟨_,rfl,PL,rfl,⟨_,SqL.of hPL⟩,fun D hD=>?_⟩
   refine Yc (K:=K) hD (SqL.of hPL) (by rw [sizeLine_eq];omega) (fun i v G=>∃ us,LS G v us∧∀ q,ps[i]?=some q→Y5 us (Yx (ms.zip q))) (fun i v _ _ sm ⟨us,h1,h2⟩=>⟨us,LS.mono _ _ _ _ sm h1,h2⟩) ?_ ?_
   ·intro i x F N hx sm2 hN
    have hi:i<ps.length:=by rw [← lpv];exact (List.getElem?_eq_some_iff.mp hx).1
    obtain ⟨c,rfl,gc⟩:=aP.2 i x _ hx (List.getElem?_eq_getElem hi)
    refine ⟨_,rfl,_,rfl,p,c,xs,ms,ps[i],rfl,(sG.trans sm2) _ _ hp4,hmG.mono sm2,sm2 _ _ gc,tm,pk.pl _ (List.getElem_mem hi),fun F2 l us t2 hl0 hl1 hs=>hN _ _ t2 ⟨us,⟨l,rfl,New.mk hl0 hl1⟩,fun q hq=>?_⟩⟩
    rw [List.getElem?_eq_getElem hi] at hq;cases hq;exact hs
   intro F sv hDF sF lsv rsv
   obtain ⟨sg,lsg,hsg⟩:=UH rsv
   have lsg2:sg.length=ps.length:=by omega
   refine ⟨_,rfl,sz1,fun Z hZ=>?_⟩
   have sZ:=Zf (o:=.lst [.int 0]) hZ
   have eZ:(upd F Z (.lst [.int 0])) Z=some (.lst [.int 0]):=Zd
   generalize upd F Z (.lst [.int 0])=F2 at sZ eZ ⊢
   refine ⟨_,rfl,fun o dx ho hdx hne=>?_⟩
   have sO:Zj F2 (upd (upd F2 dx (.own o)) o (.ins a.C_World dx [])):=(Zf hdx).trans (Zf (by rw [Zo (Ne.symm hne)];exact ho))
   have eO:(upd (upd F2 dx (.own o)) o (.ins a.C_World dx [])) o=some (.ins a.C_World dx []):=Zd
   generalize upd (upd F2 dx (.own o)) o (.ins a.C_World dx [])=FO at sO eO ⊢
   have sGF:Zj G FO:=sF.trans (sZ.trans sO)
   have sHO:Zj H FO:=sH4.trans (sG.trans sGF)
   have okS:∀ ss∈sg,ss.Nodup∧(∀ x∈ss,Zw x=true)∧ss.length≤30:=by
    intro ss hss
    obtain ⟨i,hi,rfl⟩:=List.getElem_of_mem hss
    have hs:=(hsg i _ _ (List.getElem?_eq_getElem (show i<sv.length by omega)) (List.getElem?_eq_getElem hi)).2 _ (List.getElem?_eq_getElem (show i<ps.length by omega))
    have hl:=Wh tm (p:=ps[i]'(by omega)) ms.length
    have hz2:((ms.zip (ps[i]'(by omega))).take ms.length)=ms.zip (ps[i]'(by omega)):=List.take_of_length_le (by rw [List.length_zip];omega)
    rw [hz2] at hl
    refine ⟨hs.nd,fun x hx=>?_,by have:=hs.len;omega⟩
    have hx:=(hs.mem x).mp hx
    unfold Yx at hx
    obtain ⟨q,hq,hx⟩:=List.mem_flatMap.mp hx
    rw [List.getD_eq_getElem?_getD] at hx
    cases eq:q.1.d.signs[q.2.toNat]? with
    | none=>rw [eq] at hx;cases hx
    | some ss=>
     rw [eq] at hx
     exact ((tm.g _ (List.of_mem_zip hq).1).sn ss (List.mem_of_getElem? eq)).2.1 x hx
   have okW:∀ ns∈ways,ns.Nodup∧ns≠[]∧(∀ x∈ns,0≤x∧x<sg.length)∧ns.length≤20:=by
    intro w hw
    obtain ⟨w1,w2,w3⟩:=wk w hw
    have:=zd w1 w3
    rw [lsg2]
    exact ⟨w1,w2,w3,by omega⟩
   have n1:1≤sg.length:=by have:=List.length_pos_iff.mpr pk.ne;omega
   have LX:LL LS FO (.ref D) sg:=⟨D,sv,rfl,(sZ.trans sO) _ _ hDF,lsg,fun i v ss h1 h2=>LS.mono _ _ _ _ (New.sub.trans (sZ.trans sO)) (hsg i v ss h1 h2).1⟩
   have LY:LL LI FO (.ref WY) ways:=⟨WY,wv,rfl,sGF _ _ hWY,lwv,fun i v w h1 h2=>let ⟨c,e,_,_,g⟩:=aW.2 i v w h1 h2; ⟨c,e,sGF _ _ g⟩⟩
   have LZ:LI FO (.ref Z) [0]:=⟨Z,rfl,sO _ _ eZ⟩
   cases hf:(Zu H f && few3 (YO H f)) with
   | false=>
    refine .inl ⟨o,.ref D,.ref WY,.ref Z,f,rfl,LX.kd (by omega) fun v x r m=>r.kd (by have:=(okS x m).2.2;omega) (okS x m).2.1,LY.kd (by omega) fun v x r m=>r.kd (by have:=(okW x m).2.2.2;omega),LZ.kd (by decide),kf.mono sHO,?_,fun H' e s'=>kbad hf H' e (sHO.trans s')⟩
    unfold Wx
    rw [Z2 ((sZ.trans sO) _ _ hDF),Z2 (sGF _ _ hWY),XB sHO kf.1,X9 sHO kf.1]
    dsimp only
    rw [hf,Bool.and_false,Bool.and_false]
   | true=>
    rw [Bool.and_eq_true] at hf
    obtain ⟨bf,fs,rfl,gf,nmf,ndf⟩:=names_are hf.1
    have l3:fs.length≤3:=by
     have:=hf.2
     rw [Z2 gf] at this
     have:=of_decide_eq_true this
     rwa [List.length_map] at this
    have LF:LS H (.ref bf) fs:=⟨bf,rfl,gf⟩
    have gd:Good ⟨sg,ways,[0],fs⟩:=⟨n1,by show sg.length≤20;omega,by show ways.length=sg.length;omega,okS,okW,⟨by simp,by simp,fun x hx=>by cases List.mem_singleton.mp hx;exact ⟨by decide,by show (0:Int)<(sg.length:Nat);omega⟩,by simp⟩,ndf,nmf,l3⟩
    refine .inr ⟨o,dx,.ref D,.ref WY,.ref Z,.ref bf,⟨sg,ways,[0],fs⟩,rfl,eO,⟨LX,LY,LZ,LS.mono _ _ _ _ sHO LF⟩,gd,fun H' sx wa=>⟨rfl,?_⟩⟩
    refine ⟨_,rfl,sz2,fun r hr=>?_⟩
    have s9:Zj F2 H':=((Zj.x sO).trans sx).same ho
    have sr:=Zf (o:=.tup [.ref o,.ref PL]) hr
    have sGH:Zj G H':=(sF.trans sZ).trans s9
    refine kgood fs LF ndf nmf l3 _ r o PL pv ⟨sg,ways,[0],fs⟩ ((sH4.trans (sG.trans sGH)).trans sr) Zd (sH4.free nPL) ((sGH.trans sr) _ _ hPL) (aP.mono fun b ys e=>(sGH.trans sr) _ _ e) (wa.mono sr) gd lsg2 (fun i q ss h1 h2=>?_) rfl rfl rfl
    have hi:i<sg.length:=(List.getElem?_eq_some_iff.mp h2).1
    exact (hsg i _ _ (List.getElem?_eq_getElem (show i<sv.length by omega)) h2).2 q h1
  case body=>
   have hk1:ways.length<ps.length:=by have:=of_decide_eq_true c1;omega
   have hkp:ways.length<pv.length:=by omega
   obtain ⟨b,eb,gb⟩:=aP.2 ways.length _ _ (List.getElem?_eq_getElem hkp) (List.getElem?_eq_getElem hk1)
   obtain ⟨pk2,ip,pl2,pl3⟩:=xk (ws:=ws) tm pk hk1
   have wk2:=stepW_ok (ws:=ws) tm pk hk1
   have eg:ps.getD ways.length []=ps[ways.length]:=by rw [List.getD_eq_getElem?_getD,List.getElem?_eq_getElem hk1];rfl
   have mk:=Ud tm ip ws
   rw [eg] at ip
   have hrun2:Vj ms ws (22 - ways.length) ps ways=if (XA ms ws ps ways.length).length > 20 then none else Vj ms ws (22 - (ways.length+1)) (XA ms ws ps ways.length) (ways++[WJ ms ws ps ways.length]):=by
    have:22 - ways.length=(22 - (ways.length+1))+1:=by omega
    rw [this]
    show (if ways.length<ps.length then _ else _)=_
    rw [if_pos hk1]
   rw [hrun2] at hrun
   have eS:XA ms ws ps ways.length=Zi ps (Y7 ms ws ps[ways.length]):=by unfold XA;rw [eg]
   have eW:WJ ms ws ps ways.length=(Y7 ms ws ps[ways.length]).map fun q=>(((Zi ps (Y7 ms ws ps[ways.length])).idxOf q:Nat):Int):=by unfold WJ;rw [eS,eg]
   rw [eg] at mk
   rw [eS] at pk2 pl2 pl3 hrun wk2
   rw [eW] at hrun wk2
   generalize hmet:Y7 ms ws ps[ways.length]=met at mk pk2 pl2 pl3 hrun wk2
   clear eS eW hrun2
   refine ⟨fun σ G'=>∃ (z6 z7:Option V) (pv wv:List V) (ps' ways':List (List Int)),σ=[some (.ref p),some f,some (.ref WS),some (.ref PL),some (.ref NB),some (.ref WY),z6,z7]∧Zj H4 G'∧G' PL=some (.lst pv)∧ArePl G' pv ps'∧G' NB=some (.dT (dNu ps'))∧G' WY=some (.lst wv)∧AreW PL WY G' wv ways'∧PlOk ms ps'∧ps'.length≤20∧ways'.length≤ps'.length∧WyOk ps'.length ways'∧Vj ms ws (22 - ways'.length) ps' ways'=Vj ms ws 22 [p0] []∧ways'.length=ways.length+1,?_,?_⟩
   ·rintro σ' G' ⟨z6,z7,pv,wv,ps',ways',rfl,q1,q2,q3,q4,q5,q6,q7,q8,q9,q10,q11,q12⟩
    exact ⟨22 - ways'.length,by omega,z6,z7,pv,wv,ps',ways',rfl,q1,q2,q3,q4,q5,q6,q7,q8,q9,q10,q11,rfl⟩
   have hmG:=hm4.mono sG
   refine ⟨_,rfl,_,rfl,_,rfl,_,rfl,.inl ⟨WY,wv,rfl,.inl (SqL.of hWY),PL,pv,_,_,rfl,rfl,SqL.of hPL,by rw [lwv];exact Xx (List.getElem?_eq_getElem hkp),?_⟩⟩
   rw [eb]
   refine ⟨p,WS,b,xs,ms,ws,ps[ways.length],rfl,sG _ _ hp4,hmG,sG _ _ eW4,wl,gb,tm,ip,hk,fun G1 l us t1 hl0 hl1 ar=>?_⟩
   rw [hmet] at ar
   have nl1:l≠PL:=fun e=>by rw [e,hPL] at hl0;cases hl0
   have nl2:l≠NB:=fun e=>by rw [e,hNB] at hl0;cases hl0
   have nl3:l≠WY:=fun e=>by rw [e,hWY] at hl0;cases hl0
   have lar:=ar.1
   have aW1:AreW PL WY G1 wv ways:=⟨lwv,fun i v w h1 h2=>let ⟨c,e,n1,n2,g⟩:=aW.2 i v w h1 h2; ⟨c,e,n1,n2,t1 _ _ g⟩⟩
   refine ⟨_,rfl,l,rfl,⟨_,SqL.of hl1⟩,?_⟩
   refine YY (J:=Itl K l) (n:=met.length) (fun j σ F=>∃ (z7:Option V) (pv':List V),σ=[some (.ref p),some f,some (.ref WS),some (.ref PL),some (.ref NB),some (.ref WY),some (.ref l),z7]∧Zj H4 F∧F PL=some (.lst pv')∧ArePl F pv' (Zi ps (met.take j))∧F NB=some (.dT (dNu (Zi ps (met.take j))))∧F WY=some (.lst wv)∧AreW PL WY F wv ways∧F l=some (.lst us)∧ArePl F us met) ?_ ?_ ?_ ?_ ?_
   ·exact ⟨_,pv,rfl,sG.trans t1,t1 _ _ hPL,aP.mono fun b ys e=>t1 _ _ e,t1 _ _ hNB,t1 _ _ hWY,aW1,hl1,ar⟩
   ·rintro j σ F hj ⟨z7,pv',rfl,sF,fPL,fP,fNB,fWY,fW,fl,fa⟩
    exact ⟨_,_,SqL.of fl,List.getElem?_eq_getElem (by omega)⟩
   ·rintro σ F ⟨z7,pv',rfl,sF,fPL,fP,fNB,fWY,fW,fl,fa⟩
    exact ⟨_,SqL.of fl,by omega⟩
   ·rintro j x σ F F2 hj ⟨z7,pv',rfl,sF,fPL,fP,fNB,fWY,fW,fl,fa⟩ ⟨rfl,hx⟩
    have e:=hx _ (SqL.of fl)
    obtain ⟨c,rfl,gc⟩:=fa.2 j x _ e (List.getElem?_eq_getElem hj)
    have gk:F2 c=some (.tup ((Xf met[j]).map kV)):=by rw [qC];exact gc
    refine ⟨_,rfl,_,rfl,NB,_,rfl,DGet.t fNB gk,_,rfl,?_⟩
    rw [yX]
    have sn:Zi ps (met.take (j+1))=YE (Zi ps (met.take j)) met[j]:=by rw [Z1 hj,XI]
    have ln:(Zi ps (met.take j)).length≤100000:=by
     have:=(YL (met.take j) ps).2
     rw [List.length_take] at this
     omega
    by_cases hin:met[j]∈Zi ps (met.take j)
    ·rw [if_pos hin]
     refine Yz ?_
     have:YE (Zi ps (met.take j)) met[j]=Zi ps (met.take j):=by unfold YE;rw [if_pos hin]
     rw [this] at sn
     exact ⟨_,pv',rfl,sF,fPL,by rw [sn];exact fP,by rw [sn];exact fNB,fWY,fW,fl,fa⟩
    ·rw [if_neg hin]
     refine Yh ?_
     have ad:YE (Zi ps (met.take j)) met[j]=Zi ps (met.take j)++[met[j]]:=by unfold YE;rw [if_neg hin]
     rw [ad] at sn
     have lpv':=fP.1
     refine ⟨_,rfl,.inl ⟨PL,pv',rfl,.inl (SqL.of fPL),_,rfl,_,rfl,NB,_,rfl,DPut.t fNB gk (by rw [dNu_len,sizeLine_eq];omega),?_⟩⟩
     have e9:Wa (dNu (Zi ps (met.take j))) (Xf met[j]) (.int (pv'.length:Nat))=dNu (Zi ps (met.take (j+1))):=by rw [lpv',dNu_put hin,sn]
     rw [e9]
     have tu:∀ b ys,F2 b=some (.tup ys)→(upd F2 NB (.dT (dNu (Zi ps (met.take (j+1)))))) b=some (.tup ys):=fun b ys e=>by
      rw [Zo (fun q=>by rw [q,fNB] at e;cases e)];exact e
     have u1:(upd F2 NB (.dT (dNu (Zi ps (met.take (j+1)))))) NB=some (.dT (dNu (Zi ps (met.take (j+1))))):=Zd
     have u2:(upd F2 NB (.dT (dNu (Zi ps (met.take (j+1)))))) PL=some (.lst pv'):=by rw [Zo d1];exact fPL
     have u3:(upd F2 NB (.dT (dNu (Zi ps (met.take (j+1)))))) WY=some (.lst wv):=by rw [Zo (Ne.symm d3)];exact fWY
     have u4:(upd F2 NB (.dT (dNu (Zi ps (met.take (j+1)))))) l=some (.lst us):=by rw [Zo nl2];exact fl
     have u5:Zj H4 (upd F2 NB (.dT (dNu (Zi ps (met.take (j+1)))))):=(Zy.upd (Zj.x sF)).same nNB
     have u6:AreW PL WY (upd F2 NB (.dT (dNu (Zi ps (met.take (j+1)))))) wv ways:=⟨fW.1,fun i v w h1 h2=>let ⟨c,e,n1,n2,g⟩:=fW.2 i v w h1 h2; ⟨c,e,n1,n2,by rw [Zo (fun q=>by rw [q,fNB] at g;cases g)];exact g⟩⟩
     generalize upd F2 NB (.dT (dNu (Zi ps (met.take (j+1)))))=F3 at tu u1 u2 u3 u4 u5 u6 ⊢
     refine ⟨_,rfl,.inl ⟨rfl,_,SqL.of u2⟩,_,rfl,PL,_,_,rfl,rfl,u2,by rw [lpv',sizeLine_eq];omega,?_⟩
     have tv:∀ b ys,F3 b=some (.tup ys)→(upd F3 PL (.lst (pv'++[.ref c]))) b=some (.tup ys):=WV u2
     refine ⟨_,pv'++[.ref c],rfl,(Zy.upd (Zj.x u5)).same nPL,Zd,?_,by rw [Zo (Ne.symm d1)];exact u1,by rw [Zo (Ne.symm d2)];exact u3,⟨u6.1,fun i v w h1 h2=>let ⟨c,e,n1,n2,g⟩:=u6.2 i v w h1 h2; ⟨c,e,n1,n2,by rw [Zo n1];exact g⟩⟩,by rw [Zo nl1];exact u4,(fa.mono tu).mono tv⟩
     rw [sn]
     exact ((fP.mono tu).snoc (tu _ _ gc)).mono tv
   ·rintro σ F ⟨z7,pv',rfl,sF,fPL,fP,fNB,fWY,fW,fl,fa⟩
    rw [List.take_length] at fP fNB
    have inn:∀ q∈met,q∈Zi ps met:=fun q hq=>YK.mpr (.inr hq)
    generalize Zi ps met=ps2 at inn fP fNB pk2 pl2 pl3 hrun wk2
    have lpv':=fP.1
    refine ⟨_,rfl,.inl ⟨PL,pv',rfl,.inl (SqL.of fPL),_,_,rfl,rfl,_,rfl,Wm (fun c2=>?_) (fun c2=>?_)⟩⟩
    ·have c3:ps2.length > 20:=by have:=of_decide_eq_true c2;omega
     rw [if_pos c3] at hrun
     rw [← hrun] at kr
     exact ⟨by decide,fun e=>kr F e (sH4.trans sF)⟩
    ·have c3:¬ ps2.length > 20:=fun q=>c2 (decide_eq_true (by omega))
     rw [if_neg c3] at hrun
     refine ⟨_,rfl,.inl ⟨rfl,_,SqL.of fWY⟩,_,rfl,l,rfl,⟨_,SqL.of fl⟩,fun D3 hD3=>?_⟩
     refine Yc (K:=K) hD3 (SqL.of fl) (by rw [sizeLine_eq];omega) (fun i v _=>∀ q,met[i]?=some q→v=.int ((ps2.idxOf q:Nat):Int)) (fun _ _ _ _ _ q=>q) ?_ ?_
     ·intro i x F2 N hx sm2 hN
      have hi:i<met.length:=by rw [← lar];exact (List.getElem?_eq_some_iff.mp hx).1
      obtain ⟨c,rfl,gc⟩:=fa.2 i x _ hx (List.getElem?_eq_getElem hi)
      have gk:F2 c=some (.tup ((Xf met[i]).map kV)):=by rw [qC];exact sm2 _ _ gc
      have hv:VR (dNu ps2) (Xf met[i])=some (.int ((ps2.idxOf met[i]:Nat):Int)):=by rw [yX,if_pos (inn _ (List.getElem_mem hi))]
      refine ⟨_,rfl,_,rfl,NB,_,rfl,(by have:=DGet.t (sm2 _ _ fNB) gk;rw [hv] at this;exact this),hN _ _ (.refl _) fun q hq=>?_⟩
      rw [List.getElem?_eq_getElem hi] at hq;cases hq;rfl
     intro F2 zs hD4 t2 lz rz
     have ez:zs=(met.map fun q=>((ps2.idxOf q:Nat):Int)).map V.int:=by
      refine List.ext_getElem (by simp only [List.length_map];omega) fun i h1 h2=>?_
      have hi:i<met.length:=by omega
      have:=rz i _ (List.getElem?_eq_getElem h1) _ (List.getElem?_eq_getElem hi)
      rw [this]
      simp only [List.getElem_map]
     subst ez
     have w2:=t2 _ _ fWY
     refine ⟨WY,wv,_,rfl,rfl,w2,by rw [sizeLine_eq];omega,?_⟩
     have nD1:D3≠PL:=fun e=>by rw [e,fPL] at hD3;cases hD3
     have nD2:D3≠WY:=fun e=>by rw [e,fWY] at hD3;cases hD3
     have sK:=sF.trans t2
     refine ⟨_,_,pv',wv++[.ref D3],ps2,ways++[met.map fun q=>((ps2.idxOf q:Nat):Int)],rfl,(Zy.upd (Zj.x sK)).same nWY,by rw [Zo d2];exact t2 _ _ fPL,(fP.mono fun b ys e=>t2 _ _ e).mono (WV w2),by rw [Zo d3];exact t2 _ _ fNB,Zd,⟨by rw [List.length_append,List.length_append,lwv];rfl,fun i v w h1 h2=>?_⟩,pk2,by omega,by rw [List.length_append];show ways.length+1≤_;omega,fun w hw=>?_,by rw [List.length_append];exact hrun,by rw [List.length_append];rfl⟩
     ·rw [List.getElem?_append] at h1 h2
      rw [lwv] at h1
      split at h1
      ·rename_i hi
       rw [if_pos hi] at h2
       obtain ⟨c,e,n1,n2,g⟩:=fW.2 i v w h1 h2
       exact ⟨c,e,n1,n2,by rw [Zo n2];exact t2 _ _ g⟩
      ·rename_i hi
       rw [if_neg hi] at h2
       cases hj:i - ways.length with
       | zero=>rw [hj] at h1 h2;cases h1;cases h2;exact ⟨D3,rfl,nD1,nD2,by rw [Zo nD2];exact hD4⟩
       | succ k=>rw [hj] at h1;cases h1
     ·rcases List.mem_append.mp hw with hw | hw
      ·exact wk.mono pl3 w hw
      ·cases List.mem_singleton.mp hw;exact wk2
theorem Ws {C:Addr}{H:Hp}{p D:Addr}{d:MD}{us:List Str}{xs:List V}{o:HO} (h:XG C H p d us) (hD:H D=some (.lst xs)):XG C (upd H D o) p d us:=by
 have st:∀ b u,H b=some u→(∀ ys,u≠.lst ys)→(upd H D o) b=some u:=fun b u e n=>by rw [Zo (fun q=>by rw [q,hD] at e;exact n xs (Option.some.inj e).symm)];exact e
 obtain ⟨dx,t1,t2,t4,e,h1,h2,h4,hs⟩:=h.ex
 obtain ⟨a1,v1,r1,g1,l1,q1⟩:=h1
 obtain ⟨a2,v2,r2,g2,l2,q2⟩:=h2
 obtain ⟨a4,r4,g4⟩:=h4
 refine ⟨dx,t1,t2,t4,st _ _ e (fun _ z=>by cases z),⟨a1,v1,r1,st _ _ g1 (fun _ z=>by cases z),l1,fun i v x e1 e2=>?_⟩,⟨a2,v2,r2,st _ _ g2 (fun _ z=>by cases z),l2,fun i v x e1 e2=>?_⟩,⟨a4,r4,st _ _ g4 (fun _ z=>by cases z)⟩,hs⟩
 ·obtain ⟨b,e3,g⟩:=q1 i v x e1 e2
  exact ⟨b,e3,st _ _ g (fun _ z=>by cases z)⟩
 ·obtain ⟨b,e3,g⟩:=q2 i v x e1 e2
  exact ⟨b,e3,st _ _ g (fun _ z=>by cases z)⟩
theorem newO {H:Hp}{o dx C:Addr} (ho:H o=none) (hdx:H dx=none) (hne:dx≠o):∃ G,upd (upd H dx (.own o)) o (.ins C dx [])=G∧Zj H G∧G o=some (.ins C dx []):=
 ⟨_,rfl,(Zf hdx).trans (Zf (by rw [Zo (Ne.symm hne)];exact ho)),Zd⟩
def zG (K:PySem.W.Frag) (a:Adr):Sp:=fun vs H Q _=>∃ (t:Addr) (x y z u:V) (d:MD),vs=[.ref t]∧H t=some (.tup [x,y,z,u])∧XV H x y z u d∧Wj d∧∀ H' p us,Zj H H'→XG a.C_Machine H' p d us→Q (.ref p) H'
theorem zv {P:Program}{w:World}{K:PySem.W.Frag}{mg:Str→Option Value}{base:Heap}{a:Adr} (T:Txt K mg a) (hw:w.params=a.Pm):Yy P w K mg base CX0 7 a._law_built a._law_built_fd ["_law_one"] (zG K a):=by
 have G_Machine_init:=UZ (P:=P) (w:=w) (base:=base) T hw
 refine T.f__law_built.ok Yo (fun vs H Q E h=>?_) (fun cdv A outer s H vs Q E hr h=>?_)
 ·obtain ⟨t,x,y,z,u,d,rfl,_⟩:=h
  rfl
 ·obtain ⟨t,x,y,z,u,d,rfl,ht,pp,gd,k⟩:=h
  refine ⟨_,(@Ze _ _ _ _ _ (ps_asg (pv 0) (XU (K:=K) (n:=4) rfl rfl (ZF (Zm (i:=1) Yo.nd rfl (Or.inl rfl)) (ZF (Zm (i:=2) Yo.nd rfl (Or.inl rfl)) (ZF (Zm (i:=3) Yo.nd rfl (Or.inl rfl)) (ZF (Zm (i:=4) Yo.nd rfl (Or.inl rfl)) XX)))))) (@Ze _ _ _ _ _ (@Zt _ _ (5) _ _ _ _ Yo.nd rfl (Or.inl rfl) (@Wb _ _ _ _ _ (@Za _ _ _ _ _ (ZV (Nc:=["_law_some"]) (ix:=[none]) (ZD.of (by decide +kernel:ZK (Zc Yp) ["_law_one", "_law_signs", "_law_moves", "_law_start", "_law_more", "_law_handed", "_law_machine_here", "_law_words", "_law_some"] ["_law_some"] [none] _=true)) rfl (Zq (K:=K) rfl (pv 1)) (fun _ _ _ _ _=>(Zm (i:=0) (show List.Nodup (["_law_some"]:List Str) by decide +kernel) rfl (Or.inl rfl))) (fun _ _ _ _ _=>ZT) (fun _ _ _ _ _=>(Zr (Yr (K:=K) rfl rfl) rfl T.b_list PyProof.Rows.Boot.«list» (@Za _ _ _ _ _ (pv 0) Zb (by rfl))))) (@Za _ _ _ _ _ (Zr (Yr (K:=K) rfl rfl) rfl T.b_list PyProof.Rows.Boot.«list» (@Za _ _ _ _ _ (pv 2) Zb (by rfl))) Zb (by rfl)) (by rfl))) (by rfl) (by first | exact .inl rfl | exact .inr rfl | assumption)) (WP (@YF _ _ _ _ _ _ _ _ (@ZJ _ _ _ _ _ _ _ _ op_isN (pv 4) yN (ZW _)) (@Zh _ _ _ (@Zt _ _ (6) _ _ _ _ Yo.nd rfl (Or.inl rfl) (yZ T.mk_Machine G_Machine_init (hr.mono (by decide)) rfl T.g_Machine T.d_Machine_init (.cons (show ZS V.non Value.none from rfl) .nil) Z4 (@Z9 _ _ _ _ _ (@ZH _ _ _ _ _ _ _ (Z0 (K:=K) rfl) (pv 5) Zg (fun _ _=>rfl)) (@Z9 _ _ _ _ _ (@ZH _ _ _ _ _ _ _ (Z0 (K:=K) rfl) (pv 5) Zg (fun _ _=>rfl)) (@Z9 _ _ _ _ _ (pv 3) Zb (by rfl)) (by rfl)) (by rfl))) (by rfl) (by first | exact .inl rfl | exact .inr rfl | assumption))) (@Ze _ _ _ _ _ (@Zt _ _ (7) _ _ _ _ Yo.nd rfl (Or.inl rfl) (Zr (Yr (K:=K) rfl rfl) rfl T.b_list PyProof.Rows.Boot.«list» (@Za _ _ _ _ _ (pv 4) Zb (by rfl))) (by rfl) (by first | exact .inl rfl | exact .inr rfl | assumption)) (@Ze _ _ _ _ _ (@Zt _ _ (6) _ _ _ _ Yo.nd rfl (Or.inl rfl) (yZ T.mk_Machine G_Machine_init (hr.mono (by decide)) rfl T.g_Machine T.n_Machine_init .nil Z4 (@Z9 _ _ _ _ _ (@ZH _ _ _ _ _ _ _ (Z0 (K:=K) rfl) (pv 5) Zg (fun _ _=>rfl)) (@Z9 _ _ _ _ _ (@ZH _ _ _ _ _ _ _ (Z0 (K:=K) rfl) (pv 5) Zg (fun _ _=>rfl)) (@Z9 _ _ _ _ _ (pv 3) (@Z9 _ _ _ _ _ (pv 7) Zb (by rfl)) (by rfl)) (by rfl)) (by rfl))) (by rfl) (by first | exact .inl rfl | exact .inr rfl | assumption)) (@Zh _ _ _ (@Y9 _ _ _ _ (Wu PySem.F.plainAttrs_list PySem.F.slot_list_append PySem.F.type_list_append YJ (pv 7) (@Za _ _ _ _ _ Xm Zb (by rfl))) (by rfl)))))) (@Ze _ _ _ _ _ (Xo PassesOwn.never rfl (Zq (K:=K) rfl (@ZH _ _ _ _ _ _ _ (Z0 (K:=K) rfl) (pv 5) Zg (fun _ _=>rfl))) (Zm (i:=8) Yo.nd rfl (Or.inl rfl)) (@Zh _ _ _ (@Y9 _ _ _ _ (Wu PySem.F.plainAttrs_list PySem.F.slot_list_append PySem.F.type_list_append YJ (pv 8) (@Za _ _ _ _ _ Xm Zb (by rfl))) (by rfl)))) (@Ze _ _ _ _ _ (@Y9 _ _ _ _ (pe_bm0 PySem.F.plainAttrs_list PySem.F.slot_list_clear PySem.F.type_list_clear qT (@ZH _ _ _ _ _ _ _ (Z0 (K:=K) rfl) (pv 5) Zg (fun _ _=>rfl))) (by rfl)) (@Ze _ _ _ _ _ (@Y9 _ _ _ _ (pe_bm0 PySem.F.plainAttrs_list PySem.F.slot_list_clear PySem.F.type_list_clear qT (@ZH _ _ _ _ _ _ _ (Z0 (K:=K) rfl) (pv 5) Zg (fun _ _=>rfl))) (by rfl)) (@Zh _ _ _ (@Zx _ _ _ _ (pv 6))))))))),?_⟩
  have n6:=gd.n6
  have ml:=gd.ml
  refine ⟨_,rfl,t,_,rfl,SqT.of ht,rfl,_,_,rfl,_,_,rfl,_,_,rfl,_,_,rfl,rfl,?_⟩
  obtain ⟨b1,v1,e1,g1,l1,q1⟩:=id pp.s
  obtain ⟨b2,v2,e2,g2,l2,q2⟩:=id pp.m
  subst e1 e2
  refine ⟨_,rfl,b1,rfl,⟨_,SqL.of g1⟩,fun L1 hL1=>?_⟩
  refine Yc (K:=K) hL1 (SqL.of g1) (by rw [sizeLine_eq];omega) (fun i v G=>∀ ss,d.signs[i]?=some ss→LS G v ss) (fun i v _ _ sm q ss e=>LS.mono _ _ _ _ sm (q ss e)) ?_ ?_
  ·intro i w H2 N hx sm hN
   have hi:i<d.signs.length:=by rw [← l1];exact (List.getElem?_eq_some_iff.mp hx).1
   obtain ⟨c,rfl,ec⟩:=q1 i w _ hx (List.getElem?_eq_getElem hi)
   refine ⟨_,rfl,.inl ⟨c,_,rfl,.inl (SqL.of (sm _ _ ec)),fun l hl=>hN _ _ (Zf hl) fun ss hss=>⟨l,rfl,New.mk hl ?_⟩⟩⟩
   rw [List.getElem?_eq_getElem hi] at hss
   cases hss
   rw [Zd]
  intro H1 w1 hD1 s1 lw1 r1
  refine ⟨_,rfl,.inl ⟨b2,_,rfl,.inl (SqL.of (s1 _ _ g2)),fun L2 hL2=>?_⟩⟩
  obtain ⟨H2,qN,s2,eL2⟩:=YQ (o:=.lst v2) hL2
  rw [qN];clear qN
  refine ⟨sz2,fun tp htp=>?_⟩
  obtain ⟨H3,qN,s3,etp⟩:=YQ (o:=.tup [.ref L1,.ref L2]) htp
  rw [qN];clear qN
  have S3:Zj H H3:=s1.trans (s2.trans s3)
  have eL1:=(s2.trans s3) _ _ hD1
  have eL2:=s3 _ _ eL2
  have px:LL LS H3 (.ref L1) d.signs:=⟨L1,w1,rfl,eL1,lw1.trans l1,fun i v ss h1 h2=>LS.mono _ _ _ _ (New.sub.trans (s2.trans s3)) (r1 i v h1 ss h2)⟩
  have py:LL TM H3 (.ref L2) d.moves:=⟨L2,v2,rfl,eL2,l2,fun i v x h1 h2=>TM.mono _ _ _ _ S3 (q2 i v x h1 h2)⟩
  have nL1:H L1=none:=hL1
  have nL2:H L2=none:=s1.free hL2
  have n12:L1≠L2:=fun e=>by rw [← e,hD1] at hL2;cases hL2
  have fresh:∀ (i:Nat) v,w1[i]?=some v→∃ b ss,v=.ref b∧H b=none∧b≠L1∧b≠L2∧H3 b=some (.lst ss)∧ss.length≤30:=fun i v h1=>by
   have hi:i<d.signs.length:=by rw [← l1,← lw1];exact (List.getElem?_eq_some_iff.mp h1).1
   obtain ⟨b,rfl,gb⟩:=r1 i v h1 _ (List.getElem?_eq_getElem hi)
   obtain ⟨gn,gb⟩:=New.of gb
   refine ⟨b,_,rfl,gn,fun e=>?_,fun e=>?_,(s2.trans s3) _ _ gb,by rw [List.length_map];exact (gd.sn _ (List.getElem_mem hi)).2.2⟩
   ·rw [e,hD1] at gb
    have q:w1=(d.signs[i]).map V.str:=by injection Option.some.inj gb
    rw [q,List.getElem?_map] at h1
    obtain ⟨_,_,z⟩:=Option.map_eq_some_iff.mp h1
    cases z
   ·rw [e,hL2] at gb;cases gb
  refine ⟨fun σ G=>∃ (p:Addr) (us:List Str) (z7:Option V),σ=[some (.ref t),some (.ref b1),some (.ref b2),some z,some u,some (.ref tp),some (.ref p),z7,none]∧Zj H3 G∧XG a.C_Machine G p d us,?_,?_⟩
  ·rcases pp.w with ⟨rfl,ew⟩ | wl
   ·refine ⟨_,rfl,rfl,_,rfl,Yh ?_⟩
    refine ⟨_,rfl,tp,_,_,_,rfl,rfl,SqT.of etp,rfl,_,rfl,tp,_,_,_,rfl,rfl,SqT.of etp,rfl,_,rfl,fun o dx ho hdx hne=>?_⟩
    obtain ⟨O,qN,sO,eO⟩:=newO (C:=a.C_Machine) ho hdx hne
    rw [qN];clear qN
    refine ⟨o,dx,.ref L1,.ref L2,z,.non,d,rfl,eO,⟨LL.mono LS.mono _ _ _ _ sO px,LL.mono TM.mono _ _ _ _ sO py,pp.st,.inl ⟨rfl,ew⟩⟩,gd,fun G us sx ma=>⟨rfl,?_⟩⟩
    exact ⟨o,us,_,rfl,((Zj.x sO).trans sx).same ho,ma⟩
   ·obtain ⟨b4,rfl,g4⟩:=wl
    refine ⟨_,rfl,rfl,_,rfl,Yz ?_⟩
    refine ⟨_,rfl,.inl ⟨b4,_,rfl,.inl (SqL.of (S3 _ _ g4)),fun L4 hL4=>?_⟩⟩
    obtain ⟨H4,qN,s4,eL4⟩:=YQ (o:=.lst (d.words.map V.str)) hL4
    rw [qN];clear qN
    refine ⟨_,rfl,tp,_,_,_,rfl,rfl,SqT.of (s4 _ _ etp),rfl,_,rfl,tp,_,_,_,rfl,rfl,SqT.of (s4 _ _ etp),rfl,_,rfl,_,rfl,fun o dx ho hdx hne=>?_⟩
    obtain ⟨O,qN,sO,eO⟩:=newO (C:=a.C_Machine) ho hdx hne
    rw [qN];clear qN
    refine ⟨o,dx,.ref L1,.ref L2,z,.ref L4,d,rfl,eO,⟨LL.mono LS.mono _ _ _ _ (s4.trans sO) px,LL.mono TM.mono _ _ _ _ (s4.trans sO) py,pp.st,.inr ⟨L4,rfl,sO _ _ eL4⟩⟩,gd,fun G us sx ma=>⟨rfl,?_⟩⟩
    have s5:Zj H4 G:=((Zj.x sO).trans sx).same ho
    have eG:=s5 _ _ eL4
    have:=gd.wn.2.2
    refine ⟨_,rfl,.inl ⟨rfl,_,SqL.of eG⟩,L4,_,_,rfl,rfl,eG,by rw [List.length_map,sizeLine_eq];omega,?_⟩
    exact ⟨o,us,_,rfl,(Zy.upd (Zj.x (s4.trans s5))).same hL4,Ws ma eG⟩
  rintro σ G ⟨p,us,z7,rfl,sG,ma⟩
  have etG:=sG _ _ etp
  refine ⟨_,rfl,tp,_,_,_,rfl,rfl,SqT.of etG,rfl,L1,rfl,⟨_,SqL.of (sG _ _ eL1)⟩,?_⟩
  refine YY (J:=Itl K L1) (n:=w1.length) (fun i σ F=>∃ z8:Option V,σ=[some (.ref t),some (.ref b1),some (.ref b2),some z,some u,some (.ref tp),some (.ref p),z7,z8]∧Zj H F∧F L1=some (.lst w1)∧F L2=some (.lst v2)∧F tp=some (.tup [.ref L1,.ref L2])∧XG a.C_Machine F p d us∧∀ (j:Nat) v,w1[j]?=some v→∃ b ss,v=.ref b∧H b=none∧b≠L1∧b≠L2∧F b=some (.lst ss)∧ss.length≤30+i) ?_ ?_ ?_ ?_ ?_
  ·exact ⟨_,rfl,S3.trans sG,sG _ _ eL1,sG _ _ eL2,etG,ma,fun j v e=>let ⟨b,ss,c1,c2,c3,c4,c5,c6⟩:=fresh j v e; ⟨b,ss,c1,c2,c3,c4,sG _ _ c5,c6⟩⟩
  ·rintro i σ F hi ⟨z8,rfl,sF,f1,f2,f3,mF,fr⟩
   exact ⟨_,_,SqL.of f1,List.getElem?_eq_getElem hi⟩
  ·rintro σ F ⟨z8,rfl,sF,f1,f2,f3,mF,fr⟩
   exact ⟨_,SqL.of f1,Nat.le_refl _⟩
  ·rintro i x σ F F2 hi ⟨z8,rfl,sF,f1,f2,f3,mF,fr⟩ ⟨rfl,hx⟩
   have e:=hx _ (SqL.of f1)
   obtain ⟨b,ss,rfl,c2,c3,c4,c5,c6⟩:=fr i x e
   refine ⟨_,rfl,.inl ⟨rfl,_,SqL.of c5⟩,b,ss,_,rfl,rfl,c5,by rw [sizeLine_eq];omega,?_⟩
   refine ⟨_,rfl,(Zy.upd (Zj.x sF)).same c2,by rw [Zo (Ne.symm c3)];exact f1,by rw [Zo (Ne.symm c4)];exact f2,by rw [Zo (fun q=>by rw [q,c5] at f3;cases f3)];exact f3,Ws mF c5,fun j v ej=>?_⟩
   obtain ⟨b',ss',rfl,d2,d3,d4,d5,d6⟩:=fr j v ej
   by_cases hb:b'=b
   ·subst hb
    exact ⟨b',ss++[.str "x"],rfl,d2,d3,d4,Zd,by rw [List.length_append];show ss.length+1≤_;omega⟩
   ·exact ⟨b',ss',rfl,d2,d3,d4,by rw [Zo hb];exact d5,by omega⟩
  ·rintro σ F ⟨z8,rfl,sF,f1,f2,f3,mF,fr⟩
   refine ⟨_,rfl,tp,_,_,_,rfl,rfl,SqT.of f3,rfl,.inl ⟨rfl,_,SqL.of f1⟩,L1,w1,rfl,rfl,f1,?_⟩
   have u1:Zj H (upd F L1 (.lst [])):=(Zy.upd (Zj.x sF)).same nL1
   have u2:(upd F L1 (.lst [])) L2=some (.lst v2):=by rw [Zo (Ne.symm n12)];exact f2
   have u3:(upd F L1 (.lst [])) tp=some (.tup [.ref L1,.ref L2]):=by rw [Zo (fun q=>by rw [q,f1] at f3;cases f3)];exact f3
   have u4:=Ws (o:=.lst []) mF f1
   generalize upd F L1 (.lst [])=F2 at u1 u2 u3 u4 ⊢
   refine ⟨_,rfl,tp,_,_,_,rfl,rfl,SqT.of u3,rfl,.inl ⟨rfl,_,SqL.of u2⟩,L2,v2,rfl,rfl,u2,?_⟩
   exact ⟨_,rfl,k _ p us ((Zy.upd (Zj.x u1)).same nL2) (Ws u4 u2)⟩
end KK
namespace L3
open PySem PySem.Spec PyProof.Rows L2
def natH (p:List Int):Nat:=(tupH p+9223372036854775808).toNat
def bitAt (d x:Nat):Bool:=Nat.beq (Nat.mod (Nat.div x (Nat.pow 2 d)) 2) 1
def apart:Nat→List Nat→Bool
 | _,[]=>true
 | _,[_]=>true
 | 0,_=>false
 | d+1,l=>apart d (l.filter (bitAt d)) && apart d (l.filter fun x=>!bitAt d x)
theorem W6 {p:Nat→Bool}:∀ {l:List Nat},(l.filter p).Nodup→(l.filter fun x=>!p x).Nodup→l.Nodup
 | [],_,_=>.nil
 | x :: r,h1,h2=>by
  rw [List.nodup_cons]
  cases e:p x with
  | true=>
   rw [List.filter_cons_of_pos e,List.nodup_cons] at h1
   rw [List.filter_cons_of_neg (by simp [e])] at h2
   exact ⟨fun hx=>h1.1 (List.mem_filter.mpr ⟨hx,e⟩),W6 h1.2 h2⟩
  | false=>
   rw [List.filter_cons_of_neg (by simp [e])] at h1
   rw [List.filter_cons_of_pos (by simp [e]),List.nodup_cons] at h2
   exact ⟨fun hx=>h2.1 (List.mem_filter.mpr ⟨hx,by simp [e]⟩),W6 h1 h2.2⟩
theorem WH:∀ {d:Nat}{l:List Nat},apart d l=true→l.Nodup
 | _,[],_=>.nil
 | _,[x],_=>by simp
 | 0,x :: y :: r,h=>by unfold apart at h;cases h
 | d+1,x :: y :: r,h=>by
  unfold apart at h
  rw [Bool.and_eq_true] at h
  exact W6 (WH h.1) (WH h.2)
def tups:Nat→List (List Int)
 | 0=>[[]]
 | n+1=>(tups n).flatMap fun r=>[r++[0],r++[1],r++[2],r++[3],r++[4],r++[5]]
theorem hash4:apart 64 ((tups 4).map natH)=true:=by decide +kernel
theorem hash3:apart 64 ((tups 3).map natH)=true:=by decide +kernel
theorem hash2:apart 64 ((tups 2).map natH)=true:=by decide +kernel
theorem hash1:apart 64 ((tups 1).map natH)=true:=by decide +kernel
theorem vi:∀ {n:Nat}{p:List Int},p.length=n→(∀ r∈p,0≤r∧r<6)→p∈tups n
 | 0,p,h,_=>by rw [List.eq_nil_of_length_eq_zero h];exact List.mem_singleton.mpr rfl
 | n+1,p,h,hr=>by
  have hne:p≠[]:=fun e=>by rw [e] at h;cases h
  have e:=List.dropLast_concat_getLast hne
  have h1:p.dropLast∈tups n:=vi (by rw [List.length_dropLast,h];rfl) fun r m=>hr r (List.dropLast_subset p m)
  have h2:=hr _ (List.getLast_mem hne)
  refine List.mem_flatMap.mpr ⟨p.dropLast,h1,?_⟩
  generalize p.getLast hne=r at e h2
  rw [← e]
  rcases (by omega:r=0∨r=1∨r=2∨r=3∨r=4∨r=5) with rfl | rfl | rfl | rfl | rfl | rfl <;> simp
theorem inj_of {f:List Int→Nat}:∀ {l:List (List Int)},(l.map f).Nodup→∀ p∈l,∀ q∈l,f p=f q→p=q
 | [],_,p,hp,_,_,_=>by cases hp
 | x :: r,h,p,hp,q,hq,e=>by
  rw [List.map_cons,List.nodup_cons] at h
  rcases List.mem_cons.mp hp with rfl | hp
  ·rcases List.mem_cons.mp hq with rfl | hq
   ·rfl
   ·exact absurd (List.mem_map.mpr ⟨q,hq,e.symm⟩) h.1
  ·rcases List.mem_cons.mp hq with rfl | hq
   ·exact absurd (show f q∈r.map f from List.mem_map.mpr ⟨p,by assumption,e⟩) h.1
   ·exact inj_of h.2 p hp q hq e
theorem hash_all {n:Nat} (h1:1≤n) (h4:n≤4):((tups n).map natH).Nodup:=by
 rcases (by omega:n=1∨n=2∨n=3∨n=4) with rfl | rfl | rfl | rfl
 ·exact WH hash1
 ·exact WH hash2
 ·exact WH hash3
 ·exact WH hash4
theorem Wc.hash {ms:List MM} (t:Wc ms):xt ms:=by
 intro p q hp hq e
 have inn:∀ p,YR ms p→p∈tups ms.length:=fun p hp=>vi hp.1 fun r hr=>by
  obtain ⟨i,hi,rfl⟩:=List.getElem_of_mem hr
  have hm:i<ms.length:=by rw [← hp.1];exact hi
  have h:=hp.2 i _ _ (List.getElem?_eq_getElem hm) (List.getElem?_eq_getElem hi)
  have:=(t.g _ (List.getElem_mem hm)).n6
  omega
 exact inj_of (hash_all t.n1 t.n4) p (inn p hp) q (inn q hq) (by unfold natH;rw [e])
def Xy (m:MM) (r:Int) (w:Str):List Int:=if w∈m.d.known then (m.d.moves.filter fun v=>decide (v.1=r) && decide (v.2.1=w)).map (fun v=>v.2.2) else [r]
def YT (w:Str) (zs:List (MM × Int)):List (List Int):=zs.foldl (fun acc q=>acc.flatMap fun r=>(Xy q.1 q.2 w).map fun f=>r++[f]) [[]]
theorem VI (w:Str) (zs:List (MM × Int)) (q:MM × Int):YT w (zs++[q])=(YT w zs).flatMap fun r=>(Xy q.1 q.2 w).map fun f=>r++[f]:=by unfold YT;rw [List.foldl_append];rfl
theorem zV {m:MM} (g:Wj m.d) (r:Int) (w:Str):(Xy m r w).length≤30:=by
 unfold Xy
 split
 ·have h2:=List.length_filter_le (fun v=>decide (v.1=r) && decide (v.2.1=w)) m.d.moves
  rw [List.length_map]
  have:=g.ml
  omega
 ·exact (by decide:1≤30)
theorem yq {w:Str}:∀ (zs:List (MM × Int)),(∀ q∈zs,Wj q.1.d)→(YT w zs).length≤30 ^ zs.length∧∀ p∈YT w zs,p.length=zs.length:=by
 intro zs hz
 have:∀ n,n≤zs.length→(YT w (zs.take n)).length≤30 ^ n∧∀ p∈YT w (zs.take n),p.length=n:=by
  intro n
  induction n with
  | zero=>
   intro _
   rw [List.take_zero]
   exact ⟨Nat.le_refl _,fun p hp=>(show p=[] by simpa [YT] using hp) ▸ rfl⟩
  | succ n ih=>
   intro hn
   obtain ⟨h1,h2⟩:=ih (by omega)
   rw [Z1 (by omega),VI]
   refine ⟨?_,fun p hp=>?_⟩
   ·have:=WA (fun r=>(Xy zs[n].1 zs[n].2 w).map fun f=>r++[f]) 30 (YT w (zs.take n)) fun x _=>by rw [List.length_map];exact zV (hz _ (List.getElem_mem (by omega))) _ _
    rw [Nat.pow_succ]
    omega
   ·obtain ⟨r,hr,hp⟩:=List.mem_flatMap.mp hp
    obtain ⟨f,hf,rfl⟩:=List.mem_map.mp hp
    rw [List.length_append,h2 r hr];rfl
 have h:=this zs.length (Nat.le_refl _)
 rwa [List.take_length] at h
section
variable {α:Type} [DecidableEq α]
theorem Vw (ks a b:List α):Zi ks (a++b)=Zi (Zi ks a) b:=by unfold Zi;rw [List.foldl_append]
theorem XC {ks:List α}{k:α} (h:k∈ks):YE ks k=ks:=if_pos h
theorem xX:∀ {more ks:List α},(∀ x∈more,x∈ks)→Zi ks more=ks
 | [],_,_=>rfl
 | x :: r,ks,h=>by
  show Zi (YE ks x) r=ks
  rw [XC (h x List.mem_cons_self),xX fun y hy=>h y (List.mem_cons_of_mem _ hy)]
theorem qv (ks more:List α):Zi ks (Zi [] more)=Zi ks more:=by
 have:∀ (more acc:List α),Zi ks (Zi acc more)=Zi (Zi ks acc) more:=by
  intro more
  induction more with
  | nil=>intro acc;rfl
  | cons x r ih=>
   intro acc
   show Zi ks (Zi (YE acc x) r)=Zi (YE (Zi ks acc) x) r
   rw [ih]
   congr 1
   by_cases h:x∈acc
   ·rw [XC h,XC (YK.mpr (.inr h))]
   ·have:YE acc x=acc++[x]:=if_neg h
    rw [this,XI]
 exact this more []
end
theorem yv (ends:List Int):∀ (rows acc:List (List Int)),Zi (acc.flatMap fun r=>(Zi [] ends).map fun f=>r++[f]) (rows.flatMap fun r=>ends.map fun f=>r++[f])=(Zi acc rows).flatMap fun r=>(Zi [] ends).map fun f=>r++[f]
 | [],acc=>rfl
 | x :: rows,acc=>by
  rw [List.flatMap_cons,Vw]
  have hx:Zi (acc.flatMap fun r=>(Zi [] ends).map fun f=>r++[f]) (ends.map fun f=>x++[f])=(YE acc x).flatMap fun r=>(Zi [] ends).map fun f=>r++[f]:=by
   by_cases h:x∈acc
   ·rw [XC h]
    refine xX fun y hy=>?_
    obtain ⟨f,hf,rfl⟩:=List.mem_map.mp hy
    exact List.mem_flatMap.mpr ⟨x,h,List.mem_map.mpr ⟨f,YK.mpr (.inr hf),rfl⟩⟩
   ·have e:YE acc x=acc++[x]:=if_neg h
    rw [e,List.flatMap_append]
    have no:∀ f:Int,¬ (x++[f]∈acc.flatMap fun r=>(Zi [] ends).map fun f=>r++[f]):=fun f hm=>by
     obtain ⟨r,hr,hm⟩:=List.mem_flatMap.mp hm
     obtain ⟨f',_,e⟩:=List.mem_map.mp hm
     have:=List.append_inj_left' e rfl
     rw [this] at hr;exact h hr
    generalize acc.flatMap (fun r=>(Zi [] ends).map fun f=>r++[f])=base at no
    have:∀ (es done:List Int),Zi (base++done.map fun f=>x++[f]) (es.map fun f=>x++[f])=base++(Zi done es).map fun f=>x++[f]:=by
     intro es
     induction es with
     | nil=>intro done;rfl
     | cons f es ih=>
      intro done
      have hf:YE (base++done.map fun f=>x++[f]) (x++[f])=base++(YE done f).map fun f=>x++[f]:=by
       by_cases hd:f∈done
       ·rw [XC hd,XC (List.mem_append_right _ (List.mem_map.mpr ⟨f,hd,rfl⟩))]
       ·have e1:YE done f=done++[f]:=if_neg hd
        have e2:YE (base++done.map fun f=>x++[f]) (x++[f])=(base++done.map fun f=>x++[f])++[x++[f]]:=if_neg fun hm=>by
         rcases List.mem_append.mp hm with hm | hm
         ·exact no f hm
         ·obtain ⟨g,hg,e⟩:=List.mem_map.mp hm
          have:=List.append_inj_right' e rfl
          injection this with e3
          rw [e3] at hg;exact hd hg
        rw [e1,e2,List.map_append,List.append_assoc];rfl
      show Zi (YE (base++done.map fun f=>x++[f]) (x++[f])) (es.map fun f=>x++[f])=_
      rw [hf,ih];rfl
    have h2:=this ends []
    rw [List.map_nil,List.append_nil] at h2
    rw [h2];simp
  rw [hx,yv ends rows (YE acc x)]
  rfl
theorem x9 {m:MM} (so:Y5 m.us m.d.known) (r:Int) (w:Str):YA m r w=Zi [] (Xy m r w):=by
 unfold YA Xy
 by_cases h:w∈m.us
 ·rw [if_pos h,if_pos ((so.mem w).mp h)]
 ·rw [if_neg h,if_neg (fun q=>h ((so.mem w).mpr q))];rfl
theorem rows_once {w:Str}:∀ (zs:List (MM × Int)),(∀ q∈zs,Y5 q.1.us q.1.d.known)→X5 w zs=Zi [] (YT w zs):=by
 intro zs hz
 have:∀ n,n≤zs.length→X5 w (zs.take n)=Zi [] (YT w (zs.take n)):=by
  intro n
  induction n with
  | zero=>intro _;rw [List.take_zero];rfl
  | succ n ih=>
   intro hn
   have hn':n<zs.length:=hn
   rw [Z1 hn',VL,VI,ih (by omega)]
   unfold WL
   rw [x9 (hz _ (List.getElem_mem hn'))]
   exact (yv _ _ []).symm
 have h:=this zs.length (Nat.le_refl _)
 rwa [List.take_length] at h
theorem xG {ms:List MM} (t:Wc ms) (p:List Int) (met:List (List Int)) (w:Str):Vf ms p met w=Zi met (YT w (ms.zip p)):=by
 unfold Vf XJ
 rw [qv,rows_once _ fun q hq=>t.so _ (List.of_mem_zip hq).1,qv]
end L3
namespace KK
open PySem PySem.Spec L2 L3
def qO (H:Hp) (v:V) (d:MD):Prop:=∃ t x y z u,v=.ref t∧H t=some (.tup [x,y,z,u])∧XV H x y z u d
theorem qO.mono {H H':Hp}{v:V}{d:MD} (s:Zj H H') (h:qO H v d):qO H' v d:=let ⟨t,x,y,z,u,e,g,p⟩:=h; ⟨t,x,y,z,u,e,s _ _ g,p.mono s⟩
def zh (H:Hp) (xs:List V) (ms:List MM):Prop:=xs.length=ms.length∧∀ (i:Nat) v m,xs[i]?=some v→ms[i]?=some m→qO H v m.d
theorem zh.mono {H H':Hp}{xs:List V}{ms:List MM} (s:Zj H H') (h:zh H xs ms):zh H' xs ms:=⟨h.1,fun i v m a b=>(h.2 i v m a b).mono s⟩
theorem _root_.KK.ArePl.app {H H':Hp}{vs ws:List V}{ps qs:List (List Int)} (h:ArePl H vs ps) (g:ArePl H' ws qs) (s:Zj H H'):ArePl H' (vs++ws) (ps++qs):=by
 refine ⟨by rw [List.length_append,List.length_append,h.1,g.1],fun i v q h1 h2=>?_⟩
 rw [List.getElem?_append] at h1 h2
 rw [h.1] at h1
 split at h1
 ·rename_i hi
  rw [if_pos hi] at h2
  obtain ⟨b,e,gb⟩:=h.2 i v q h1 h2
  exact ⟨b,e,s _ _ gb⟩
 ·rename_i hi
  rw [if_neg hi] at h2
  exact g.2 _ v q h1 h2
def xA (K:PySem.W.Frag) (a:Adr):Sp:=fun vs H Q _=>∃ p q xs ms pl wd,vs=[.ref p,.ref q,.str wd]∧H p=some (.lst xs)∧zh H xs ms∧H q=some (.tup (pl.map V.int))∧(∀ m∈ms,Wj m.d)∧ms.length≤4∧pl.length=ms.length∧∀ H' l rv,Zj H H'→H l=none→H' l=some (.lst rv)→ArePl H' rv (YT wd (ms.zip pl))→Q (.ref l) H'
theorem xg {P:Program}{w:World}{K:PySem.W.Frag}{mg:Str→Option Value}{base:Heap}{a:Adr} (T:Txt K mg a) (hw:w.params=a.Pm):Yy P w K mg base CX0 1 a._law_rows a._law_rows_fd ["_law_machines", "_law_place", "_law_word"] (xA K a):=by
 refine T.f__law_rows.ok ZU (fun vs H Q E h=>?_) (fun cdv A outer s H vs Q E hr h=>?_)
 ·obtain ⟨p,q,xs,ms,pl,wd,rfl,_⟩:=h
  rfl
 ·obtain ⟨p,q,xs,ms,pl,wd,rfl,hp,hm,hq,hg,n4,lp,k⟩:=h
  refine ⟨_,(@Ze _ _ _ _ _ (@Zt _ _ (3) _ _ _ _ ZU.nd rfl (Or.inl rfl) (@ZR _ _ _ _ (@Za _ _ _ _ _ (@Wb _ _ _ _ _ Zb) Zb (by rfl))) (by rfl) (by first | exact .inl rfl | exact .inr rfl | assumption)) (@Ze _ _ _ _ _ (Xo PassesOwn.never rfl (qk (K:=K) rfl rfl T.b_zip (@Za _ _ _ _ _ (pv 0) (@Za _ _ _ _ _ (pv 1) Zb (by rfl)) (by rfl))) (XU (K:=K) (n:=2) rfl rfl (ZF (Zm (i:=4) ZU.nd rfl (Or.inl rfl)) (ZF (Zm (i:=5) ZU.nd rfl (Or.inr rfl)) XX))) (@Ze _ _ _ _ _ (ps_asg (pv 4) (XU (K:=K) (n:=4) rfl rfl (ZF (Zm (i:=6) ZU.nd rfl (Or.inl rfl)) (ZF (Zm (i:=7) ZU.nd rfl (Or.inl rfl)) (ZF (Zm (i:=8) ZU.nd rfl (Or.inl rfl)) (ZF (Zm (i:=9) ZU.nd rfl (Or.inl rfl)) XX)))))) (WP (@Zt _ _ (10) _ _ _ _ ZU.nd rfl (Or.inl rfl) (pe_or (@XQ _ _ _ _ _ _ _ _ (op_inK (K:=K) rfl) (pv 2) (xw (K:=K) rfl (pv 9) (XF (@ZR _ _ _ _ Zb))) (by with_unfolding_all rfl)) (XF (Zk (call_anyK (K:=K) rfl rfl) rfl T.b_any PyProof.Rows.Boot.«any» (@Za _ _ _ _ _ (ZV (Nc:=["_law_move", "_law_word"]) (ix:=[none,some 2]) (ZD.of (by decide +kernel:ZK (Zc Yl) ["_law_machines", "_law_place", "_law_word", "_law_found", "_law_one", "_law_room", "_law_signs", "_law_moves", "_law_start", "_law_more", "_law_knows", "_law_ends", "_law_more_rows", "_law_row"] ["_law_move", "_law_word"] [none,some 2] _=true)) rfl (Zq (K:=K) rfl (pv 7)) (fun _ _ _ _ _=>(Zm (i:=0) (show List.Nodup (["_law_move", "_law_word"]:List Str) by decide +kernel) rfl (Or.inl rfl))) (fun _ _ _ _ _=>ZT) (fun _ _ _ _ _=>(@XQ _ _ _ _ _ _ _ _ VG (@ZH _ _ _ _ _ _ _ (Z0 (K:=K) rfl) (pv 0) Zg (fun _ _=>rfl)) (pv 1) (ZW _)))) Zb (by rfl))))) (by rfl) (by first | exact .inl rfl | exact .inr rfl | assumption)) (@Ze _ _ _ _ _ (@Zt _ _ (11) _ _ _ _ ZU.nd rfl (Or.inl rfl) (@ZR _ _ _ _ (@Za _ _ _ _ _ (pv 5) Zb (by rfl))) (by rfl) (by first | exact .inl rfl | exact .inr rfl | assumption)) (WP (@YF _ _ _ _ _ _ _ _ (pt_truthK (K:=K) rfl (pv 10) (fun _=>rfl)) (@Zh _ _ _ (UQ (i:=11) ZU.nd rfl rfl (Nc:=["_law_move", "_law_room", "_law_word"]) (ix:=[none,some 5,some 2]) (ZD.of (by decide +kernel:ZK (Zc Yl) ["_law_machines", "_law_place", "_law_word", "_law_found", "_law_one", "_law_room", "_law_signs", "_law_moves", "_law_start", "_law_more", "_law_knows", "_law_ends", "_law_more_rows", "_law_row"] ["_law_move", "_law_room", "_law_word"] [none,some 5,some 2] _=true)) rfl (Zq (K:=K) rfl (pv 7)) (fun _ _ _ _ _=>(Zm (i:=0) (show List.Nodup (["_law_move", "_law_room", "_law_word"]:List Str) by decide +kernel) rfl (Or.inl rfl))) (fun _ _ _ _ _=>(qg (PW.pt (xz (@ZJ _ _ _ _ _ _ _ _ VG (@ZH _ _ _ _ _ _ _ (Z0 (K:=K) rfl) (pv 0) Zg (fun _ _=>rfl)) (pv 1) (ZW _)) (ql (@ZJ _ _ _ _ _ _ _ _ VG (@ZH _ _ _ _ _ _ _ (Z0 (K:=K) rfl) (pv 0) Zg (fun _ _=>rfl)) (pv 2) (ZW _))))))) (fun _ _ _ _ _=>(@ZH _ _ _ _ _ _ _ (Z0 (K:=K) rfl) (pv 0) Zg (fun _ _=>rfl))))) ZL) (@Ze _ _ _ _ _ (@Zt _ _ (12) _ _ _ _ ZU.nd rfl (Or.inl rfl) (@ZR _ _ _ _ Zb) (by rfl) (by first | exact .inl rfl | exact .inr rfl | assumption)) (@Ze _ _ _ _ _ (Xo PassesOwn.never rfl (Zq (K:=K) rfl (pv 3)) (Zm (i:=13) ZU.nd rfl (Or.inr rfl)) (@Zh _ _ _ (@Zt _ _ (12) _ _ _ _ ZU.nd rfl (Or.inl rfl) (@ZC _ _ _ _ _ _ _ _ qI (pv 12) (ZV (Nc:=["_law_end", "_law_row"]) (ix:=[none,some 13]) (ZD.of (by decide +kernel:ZK (Zc Yl) ["_law_machines", "_law_place", "_law_word", "_law_found", "_law_one", "_law_room", "_law_signs", "_law_moves", "_law_start", "_law_more", "_law_knows", "_law_ends", "_law_more_rows", "_law_row"] ["_law_end", "_law_row"] [none,some 13] _=true)) rfl (Zq (K:=K) rfl (pv 11)) (fun _ _ _ _ _=>(Zm (i:=0) (show List.Nodup (["_law_end", "_law_row"]:List Str) by decide +kernel) rfl (Or.inl rfl))) (fun _ _ _ _ _=>ZT) (fun _ _ _ _ _=>(@ZC _ _ _ _ _ _ _ _ (op_catU (K:=K) rfl) (pv 1) (@Wb _ _ _ _ _ (@Za _ _ _ _ _ (pv 0) Zb (by rfl))))))) (by rfl) (by first | exact .inl rfl | exact .inr rfl | assumption)))) (@Zh _ _ _ (@Zt _ _ (3) _ _ _ _ ZU.nd rfl (Or.inl rfl) (pv 12) (by rfl) (by first | exact .inl rfl | exact .inr rfl | assumption)))))))))) (@Zh _ _ _ (@Zx _ _ _ _ (pv 3))))),?_⟩
  have lx:=hm.1
  have hl:(ms.zip pl).length=ms.length:=by rw [List.length_zip,lp];exact Nat.min_self _
  refine ⟨sz0,fun t0 ht0=>?_⟩
  obtain ⟨G1,qN,s1,e1⟩:=YQ (o:=.tup []) ht0
  rw [qN];clear qN
  refine ⟨sz1,fun R hR=>?_⟩
  obtain ⟨G2,qN,s2,e2⟩:=YQ (o:=.lst [.ref t0]) hR
  rw [qN];clear qN
  have S2:=s1.trans s2
  have R0:H R=none:=s1.free hR
  refine ⟨_,rfl,_,rfl,p,q,xs,pl.map V.int,rfl,SqL.of (S2 _ _ hp),SqT.of (S2 _ _ hq),?_⟩
  refine YY (J:=ItzV K p q) (n:=ms.length) (fun j σ F=>∃ (R:Addr) (rv:List V) (z4 z5 z6 z7 z8 z9 z10 z11 z12 z13:Option V),σ=[some (.ref p),some (.ref q),some (.str wd),some (.ref R),z4,z5,z6,z7,z8,z9,z10,z11,z12,z13]∧Zj H F∧H R=none∧F R=some (.lst rv)∧ArePl F rv (YT wd ((ms.zip pl).take j))) ?_ ?_ ?_ ?_ ?_
  ·refine ⟨R,[.ref t0],_,_,_,_,_,_,_,_,_,_,rfl,S2,R0,e2,?_⟩
   rw [List.take_zero]
   refine ⟨rfl,fun i v p h1 h2=>?_⟩
   cases i with
   | zero=>cases h1;cases h2;exact ⟨t0,rfl,s2 _ _ e1⟩
   | succ n=>simp at h1
  ·rintro j σ F hj ⟨R,rv,z4,z5,z6,z7,z8,z9,z10,z11,z12,z13,rfl,sF,R0,hR,ar⟩
   exact ⟨_,_,xs[j],.int pl[j],SqL.of (sF _ _ hp),SqT.of (sF _ _ hq),List.getElem?_eq_getElem (by omega),by rw [List.getElem?_map,List.getElem?_eq_getElem (by omega)];rfl⟩
  ·rintro σ F ⟨R,rv,z4,z5,z6,z7,z8,z9,z10,z11,z12,z13,rfl,sF,R0,hR,ar⟩
   exact ⟨_,_,SqL.of (sF _ _ hp),SqT.of (sF _ _ hq),by rw [List.length_map];omega,by omega⟩
  ·rintro j x σ F F2 hj ⟨R,rv,z4,z5,z6,z7,z8,z9,z10,z11,z12,z13,rfl,sF,R0,hR,ar⟩ ⟨pr,v,wv,rfl,hpr,rfl,hv,hwv⟩
   have ev:=hv _ (SqL.of (sF _ _ hp))
   have ew:=hwv _ (SqT.of (sF _ _ hq))
   rw [List.getElem?_map,List.getElem?_eq_getElem (by omega)] at ew
   have ew':wv=.int pl[j]:=(Option.some.inj ew).symm
   subst ew'
   obtain ⟨t,px,py,pz,pu,rfl,ht,pp⟩:=hm.2 j v _ ev (List.getElem?_eq_getElem hj)
   have gj:=hg _ (List.getElem_mem hj)
   obtain ⟨F3,qN,s5,e5⟩:=YQ (o:=.tup [.ref t,.int pl[j]]) hpr
   rw [qN];clear qN
   refine ⟨pr,_,rfl,SqT.of e5,rfl,_,_,rfl,_,_,rfl,rfl,?_⟩
   have s3:=sF.trans s5
   have ht3:=s3 _ _ ht
   have pp3:=pp.mono s3
   refine ⟨_,rfl,t,_,rfl,SqT.of ht3,rfl,_,_,rfl,_,_,rfl,_,_,rfl,_,_,rfl,rfl,?_⟩
   have hR3:=s5 _ _ hR
   have ar3:ArePl F3 rv (YT wd ((ms.zip pl).take j)):=ar.mono fun b ys e=>s5 _ _ e
   have few:=(yq (w:=wd) ((ms.zip pl).take j) fun z hz=>hg _ (List.of_mem_zip (List.mem_of_mem_take hz)).1)
   have jl:((ms.zip pl).take j).length=j:=by rw [List.length_take];omega
   rw [jl] at few
   have f3:(YT wd ((ms.zip pl).take j)).length≤27000:=Nat.le_trans few.1 (Nat.le_trans (Nat.pow_le_pow_right (by decide) (show j≤3 by omega)) (by decide))
   have ends30:=zV gj pl[j] wd
   have esn:YT wd ((ms.zip pl).take (j+1))=(YT wd ((ms.zip pl).take j)).flatMap fun r=>(Xy ms[j] pl[j] wd).map fun f=>r++[f]:=by
    rw [Z1 (by omega),VI,List.getElem_zip]
   have lr:=few.2
   generalize YT wd ((ms.zip pl).take j)=rows at ar3 f3 esn lr
   obtain ⟨b2,v2,e2',g2,l2,q2⟩:=id pp3.m
   subst e2'
   refine ⟨fun σ G=>σ=[some (.ref p),some (.ref q),some (.str wd),some (.ref R),some (.ref t),some (.int pl[j]),some px,some (.ref b2),some pz,some pu,some (.bl (decide (wd∈ms[j].d.known))),z11,z12,z13]∧Zj F3 G,?_,?_⟩
   ·refine ⟨_,rfl,_,rfl,@qz K F3 pu ms[j].d.words (fun y H2=>rIn K false (V.str wd) y H2 _) _ pp3.w fun bb F4 s6 hbb=>?_⟩
    refine ⟨bb,_,rfl,.inl (SqL.of hbb),rfl,by simp [W8],_,rfl,?_⟩
    show if inV (V.str wd) (ms[j].d.words.map V.str)=true then _ else _
    rw [V6]
    by_cases h1:wd∈ms[j].d.words
    ·rw [decide_eq_true h1]
     refine Yh ⟨?_,s6⟩
     show _=_
     rw [decide_eq_true (show wd∈ms[j].d.known from List.mem_append_right _ h1)]
     rfl
    ·rw [decide_eq_false h1]
     have g24:=s6 _ _ g2
     have mlj:=gj.ml
     refine Yz ⟨_,rfl,b2,rfl,⟨_,SqL.of g24⟩,fun D hD=>?_⟩
     refine Yc (K:=K) hD (SqL.of g24) (by rw [sizeLine_eq];omega) (fun i v _=>∀ m,ms[j].d.moves[i]?=some m→v=.bl (decide (m.2.1=wd))) (fun _ _ _ _ _ q=>q) ?_ ?_
     ·intro i w H2 N hx sm hN
      have hi:i<ms[j].d.moves.length:=by rw [← l2];exact (List.getElem?_eq_some_iff.mp hx).1
      obtain ⟨b,rfl,eb⟩:=q2 i w _ hx (List.getElem?_eq_getElem hi)
      refine ⟨_,rfl,b,_,_,_,rfl,rfl,SqT.of ((s6.trans sm) _ _ eb),rfl,_,rfl,rfl,hN _ _ (.refl _) fun m hm'=>?_⟩
      rw [List.getElem?_eq_getElem hi] at hm'
      cases hm'
      show V.bl (decide (V.str ms[j].d.moves[i].2.1=V.str wd))=_
      congr 1
      by_cases e:ms[j].d.moves[i].2.1=wd
      ·rw [decide_eq_true e,decide_eq_true (by rw [e])]
      ·rw [decide_eq_false e,decide_eq_false (fun q=>e (by injection q))]
     intro H2 zs hD2 sm hlen hr
     have ey:=Xi (f:=fun m:Int × Str × Int=>decide (m.2.1=wd)) (hlen.trans l2) fun i v x h1 h2=>hr i v h1 x h2
     refine ⟨D,_,rfl,SqL.of (by rw [hD2,ey]),?_⟩
     rw [any_id]
     have ek:(ms[j].d.moves.any fun m=>decide (m.2.1=wd))=decide (wd∈ms[j].d.known):=by
      unfold MD.known
      by_cases h2:wd∈ms[j].d.moves.map fun m=>m.2.1
      ·rw [decide_eq_true (List.mem_append_left _ h2)]
       obtain ⟨m,hm',e⟩:=List.mem_map.mp h2
       exact List.any_eq_true.mpr ⟨m,hm',decide_eq_true e⟩
      ·rw [decide_eq_false (fun q=>(List.mem_append.mp q).elim h2 h1)]
       exact List.any_eq_false.mpr fun m hm' q=>h2 (List.mem_map.mpr ⟨m,hm',of_decide_eq_true q⟩)
     rw [ek]
     exact ⟨rfl,s6.trans sm⟩
   rintro σ F5 ⟨rfl,s35⟩
   refine ⟨_,rfl,sz1,fun E1 hE1=>?_⟩
   obtain ⟨F6,qN,s8,eE1⟩:=YQ (o:=.lst [.int pl[j]]) hE1
   rw [qN];clear qN
   have s36:=s35.trans s8
   refine ⟨fun σ G=>∃ E2:Addr,σ=[some (.ref p),some (.ref q),some (.str wd),some (.ref R),some (.ref t),some (.int pl[j]),some px,some (.ref b2),some pz,some pu,some (.bl (decide (wd∈ms[j].d.known))),some (.ref E2),z12,z13]∧Zj F3 G∧G E2=some (.lst ((Xy ms[j] pl[j] wd).map V.int)),?_,?_⟩
   ·refine ⟨_,rfl,_,rfl,?_⟩
    by_cases hw':wd∈ms[j].d.known
    ·rw [decide_eq_true hw']
     refine Yh ⟨_,rfl,b2,rfl,⟨_,SqL.of (s36 _ _ g2)⟩,fun D hD=>?_⟩
     refine Xw (J:=Itl K b2) (n:=ms[j].d.moves.length) (fun i σ G=>∃ z1:Option V,σ=[z1,some (.int pl[j]),some (.str wd)]∧Zj F6 G∧G D=some (.lst ((((ms[j].d.moves.take i).filter fun v=>decide (v.1=pl[j]) && decide (v.2.1=wd)).map fun v=>v.2.2).map V.int))) ?_ ?_ ?_ ?_ ?_
     ·exact ⟨_,rfl,Zf hD,Zd⟩
     ·rintro i σ G hi ⟨z1,rfl,sg,hd⟩
      exact ⟨_,_,SqL.of ((s36.trans sg) _ _ g2),List.getElem?_eq_getElem (by omega)⟩
     ·rintro σ G ⟨z1,rfl,sg,hd⟩
      exact ⟨_,SqL.of ((s36.trans sg) _ _ g2),by omega⟩
     ·rintro i x σ G G2 hi ⟨z1,rfl,sg,hd⟩ ⟨rfl,hx⟩ N N0 hN hN0
      have e:=hx _ (SqL.of ((s36.trans sg) _ _ g2))
      obtain ⟨c,rfl,ec⟩:=q2 i x _ e (List.getElem?_eq_getElem hi)
      have ecG:=SqT.of (K:=K) ((s36.trans sg) _ _ ec)
      have snoc:=yc hi (fun v=>decide (v.1=pl[j]) && decide (v.2.1=wd))
      have gml:=gj.ml
      have no:¬ ((fun v:Int × Str × Int=>decide (v.1=pl[j]) && decide (v.2.1=wd)) ms[j].d.moves[i]=true)→N0 [some (.ref c),some (.int pl[j]),some (.str wd)] G2:=fun q=>by
       rw [if_neg q,List.append_nil] at snoc
       exact hN0 _ _ ⟨_,rfl,sg,by rw [snoc];exact hd⟩
      refine ⟨_,rfl,c,_,_,_,rfl,rfl,ecG,rfl,_,rfl,rfl,_,rfl,Wm (fun c1=>?_) (fun c1=>?_)⟩
      ·have d1:ms[j].d.moves[i].1=pl[j]:=by have:=of_decide_eq_true c1;injection this
       refine ⟨_,rfl,c,_,_,_,rfl,rfl,ecG,rfl,_,rfl,rfl,_,rfl,Wm (fun c2=>?_) (fun c2=>?_)⟩
       ·have d2:ms[j].d.moves[i].2.1=wd:=by have:=of_decide_eq_true c2;injection this
        have q:(fun v:Int × Str × Int=>decide (v.1=pl[j]) && decide (v.2.1=wd)) ms[j].d.moves[i]=true:=by simp [d1,d2]
        rw [if_pos q] at snoc
        refine ⟨_,rfl,c,_,_,_,rfl,rfl,ecG,rfl,hN _ _ _ _ hd ?_ ⟨_,rfl,(Zy.upd (Zj.x sg)).same hD,?_⟩⟩
        ·have h2:=List.length_filter_le (fun v=>decide (v.1=pl[j]) && decide (v.2.1=wd)) (ms[j].d.moves.take i)
         rw [List.length_take] at h2
         rw [List.length_map,List.length_map,sizeLine_eq];omega
        ·rw [Zd,snoc,List.map_append];rfl
       ·exact no fun q=>c2 (decide_eq_true (by rw [Bool.and_eq_true] at q;rw [show ms[j].d.moves[i].2.1=wd from of_decide_eq_true q.2]))
      ·exact no fun q=>c1 (decide_eq_true (by rw [Bool.and_eq_true] at q;rw [show ms[j].d.moves[i].1=pl[j] from of_decide_eq_true q.1]))
     ·rintro σ G ⟨z1,rfl,sg,hd⟩
      rw [List.take_length] at hd
      refine ⟨D,rfl,s36.trans sg,?_⟩
      unfold Xy
      rw [if_pos hw'];exact hd
    ·rw [decide_eq_false hw']
     refine Yz ⟨E1,rfl,s36,?_⟩
     unfold Xy
     rw [if_neg hw'];exact eE1
   rintro σ G ⟨E2,rfl,sG,hE2⟩
   refine ⟨sz0,fun M0 hM0=>?_⟩
   obtain ⟨G1,qN,u1,eM0⟩:=YQ (o:=.lst []) hM0
   rw [qN];clear qN
   have sG1:=sG.trans u1
   refine ⟨_,rfl,R,rfl,⟨_,SqL.of (sG1 _ _ hR3)⟩,?_⟩
   refine YY (J:=Itl K R) (n:=rows.length) (fun n σ X=>∃ (M:Addr) (mv:List V) (y13:Option V),σ=[some (.ref p),some (.ref q),some (.str wd),some (.ref R),some (.ref t),some (.int pl[j]),some px,some (.ref b2),some pz,some pu,some (.bl (decide (wd∈ms[j].d.known))),some (.ref E2),some (.ref M),y13]∧Zj G1 X∧H M=none∧X M=some (.lst mv)∧ArePl X mv ((rows.take n).flatMap fun r=>(Xy ms[j] pl[j] wd).map fun f=>r++[f])) ?_ ?_ ?_ ?_ ?_
   ·exact ⟨M0,[],_,rfl,.refl _,(s3.trans sG).free hM0,eM0,rfl,fun i v p h1 h2=>by simp at h1⟩
   ·rintro n σ X hn ⟨M,mv,y13,rfl,sX,M0,eM,aM⟩
    exact ⟨_,_,SqL.of ((sG1.trans sX) _ _ hR3),List.getElem?_eq_getElem (by rw [ar3.1];exact hn)⟩
   ·rintro σ X ⟨M,mv,y13,rfl,sX,M0,eM,aM⟩
    exact ⟨_,SqL.of ((sG1.trans sX) _ _ hR3),by rw [ar3.1];exact Nat.le_refl _⟩
   ·rintro n x σ X X2 hn ⟨M,mv,y13,rfl,sX,M0,eM,aM⟩ ⟨rfl,hx⟩
    have s1X:=sG1.trans sX
    have e:=hx _ (SqL.of (s1X _ _ hR3))
    obtain ⟨b,rfl,eb⟩:=ar3.2 n x _ e (List.getElem?_eq_getElem hn)
    have lrn:=lr _ (List.getElem_mem hn)
    have hE:=(u1.trans sX) _ _ hE2
    have fm:((rows.take n).flatMap fun r=>(Xy ms[j] pl[j] wd).map fun f=>r++[f]).length≤900000:=by
     have:=WA (fun r=>(Xy ms[j] pl[j] wd).map fun f=>r++[f]) 30 (rows.take n) fun x _=>by rw [List.length_map];exact ends30
     rw [List.length_take] at this
     omega
    refine ⟨_,rfl,_,rfl,E2,rfl,⟨_,SqL.of hE⟩,fun D hD=>?_⟩
    refine Xw (J:=Itl K E2) (n:=(Xy ms[j] pl[j] wd).length) (fun m σ Y=>∃ (z1:Option V) (dv:List V),σ=[z1,some (.ref b)]∧Zj X2 Y∧Y D=some (.lst dv)∧ArePl Y dv (((Xy ms[j] pl[j] wd).take m).map fun f=>rows[n]++[f])) ?_ ?_ ?_ ?_ ?_
    ·exact ⟨_,[],rfl,Zf hD,Zd,rfl,fun i v p h1 h2=>by simp at h1⟩
    ·rintro m σ Y hm' ⟨z1,dv,rfl,sy,hd,ad⟩
     exact ⟨_,_,SqL.of (sy _ _ hE),by rw [List.getElem?_map,List.getElem?_eq_getElem hm'];rfl⟩
    ·rintro σ Y ⟨z1,dv,rfl,sy,hd,ad⟩
     exact ⟨_,SqL.of (sy _ _ hE),by rw [List.length_map];exact Nat.le_refl _⟩
    ·rintro m x σ Y Y2 hm' ⟨z1,dv,rfl,sy,hd,ad⟩ ⟨rfl,hx2⟩ N N0 hN hN0
     have e:=hx2 _ (SqL.of (sy _ _ hE))
     rw [List.getElem?_map,List.getElem?_eq_getElem hm'] at e
     have e':x=.int (Xy ms[j] pl[j] wd)[m]:=(Option.some.inj e).symm
     subst e'
     have ldv:dv.length≤30:=by rw [ad.1,List.length_map,List.length_take];omega
     have grow:∀ (c:Addr) (Z:Hp),Zj Y2 Z→Z c=some (.tup ((rows[n]++[(Xy ms[j] pl[j] wd)[m]]).map V.int))→N (.ref c) [some (.int (Xy ms[j] pl[j] wd)[m]),some (.ref b)] Z:=fun c Z sz hc=>by
      have hdz:=sz _ _ hd
      refine hN _ _ _ _ hdz (by rw [sizeLine_eq];omega) ⟨_,dv++[.ref c],rfl,(Zy.upd (Zj.x (sy.trans sz))).same hD,Zd,?_⟩
      rw [Z1 hm',List.map_append]
      exact ((ad.mono fun c ys e=>sz _ _ e).snoc hc).mono (WV hdz)
     have ebY:=(s1X.trans sy) _ _ eb
     refine ⟨_,rfl,_,rfl,sz1,fun t ht=>?_⟩
     obtain ⟨Y3,qN,s7,e7⟩:=YQ (o:=.tup [.int (Xy ms[j] pl[j] wd)[m]]) ht
     rw [qN];clear qN
     refine ⟨b,t,_,_,rfl,rfl,SqT.of (s7 _ _ ebY),SqT.of e7,by simp,by rw [List.length_map,lrn,sizeLine_eq];show j+1≤_;omega,fun hz=>?_,fun _ c hc=>?_⟩
     ·have:rows[n]=[]:=by simpa using hz
      refine grow t Y3 s7 ?_
      rw [this];exact e7
     ·refine grow c _ (s7.trans (Zf hc)) ?_
      rw [Zd,List.map_append];rfl
    ·rintro σ Y ⟨z1,dv,rfl,sy,hd,ad⟩
     rw [List.take_length] at ad
     have ldv:dv.length≤30:=by rw [ad.1,List.length_map];exact ends30
     refine ⟨M,D,mv,dv,rfl,rfl,sy _ _ eM,hd,by rw [aM.1,sizeLine_eq];omega,fun M2 hM2=>?_⟩
     have u2:=Zf (o:=.lst (mv++dv)) hM2
     refine ⟨M2,mv++dv,_,rfl,sX.trans (sy.trans u2),(s3.trans (s1X.trans sy)).free hM2,Zd,?_⟩
     rw [Z1 hn,List.flatMap_append]
     have e1:([rows[n]].flatMap fun r=>(Xy ms[j] pl[j] wd).map fun f=>r++[f])=(Xy ms[j] pl[j] wd).map fun f=>rows[n]++[f]:=by simp
     rw [e1]
     exact (aM.app ad sy).mono fun c ys e=>u2 _ _ e
   ·rintro σ X ⟨M,mv,y13,rfl,sX,M0,eM,aM⟩
    rw [List.take_length,← esn] at aM
    exact ⟨_,rfl,M,mv,_,_,_,_,_,_,_,_,_,_,rfl,s3.trans (sG1.trans sX),M0,eM,aM⟩
  ·rintro σ F ⟨R,rv,z4,z5,z6,z7,z8,z9,z10,z11,z12,z13,rfl,sF,R0,hR,ar⟩
   rw [← hl,List.take_length] at ar
   exact ⟨_,rfl,k _ R rv sF R0 hR ar⟩
end KK
namespace L3
open PySem PySem.Spec PyProof.Rows L2
theorem za:∀ {l₁ l₂:List Str},l₁.Nodup→(∀ x∈l₁,x∈l₂)→l₁.length≤l₂.length
 | [],_,_,_=>Nat.zero_le _
 | x :: r,l₂,nd,h=>by
  rw [List.nodup_cons] at nd
  have hx:=h x List.mem_cons_self
  have:=za (l₁:=r) (l₂:=l₂.erase x) nd.2 fun y hy=>(List.mem_erase_of_ne (show y≠x from fun e=>nd.1 (by rw [← e];exact hy))).mpr (h y (List.mem_cons_of_mem _ hy))
  rw [List.length_erase_of_mem hx] at this
  have:0<l₂.length:=List.length_pos_of_mem hx
  rw [List.length_cons];omega
theorem Vk:∀ {us vs:List Str},us.Nodup→vs.Nodup→us.Pairwise (fun a b=>leS a b=true)→vs.Pairwise (fun a b=>leS a b=true)→(∀ x,x∈us↔x∈vs)→us=vs
 | [],[],_,_,_,_,_=>rfl
 | [],y :: s,_,_,_,_,h=>by have:=(h y).mpr List.mem_cons_self;cases this
 | x :: r,[],_,_,_,_,h=>by have:=(h x).mp List.mem_cons_self;cases this
 | x :: r,y :: s,n1,n2,p1,p2,h=>by
  rw [List.nodup_cons] at n1 n2
  rw [List.pairwise_cons] at p1 p2
  have e:x=y:=by
   rcases List.mem_cons.mp ((h x).mp List.mem_cons_self) with e | hx
   ·exact e
   ·rcases List.mem_cons.mp ((h y).mpr List.mem_cons_self) with e | hy
    ·exact e.symm
    ·exact xJ (p1.1 y hy) (p2.1 x hx)
  subst e
  congr 1
  refine Vk n1.2 n2.2 p1.2 p2.2 fun z=>⟨fun hz=>?_,fun hz=>?_⟩
  ·rcases List.mem_cons.mp ((h z).mp (List.mem_cons_of_mem _ hz)) with e | q
   ·exact absurd (e ▸ hz) n1.1
   ·exact q
  ·rcases List.mem_cons.mp ((h z).mpr (List.mem_cons_of_mem _ hz)) with e | q
   ·exact absurd (e ▸ hz) n2.1
   ·exact q
def Wy (ps:List (List Int)) (on:List (List Int)):List Int:=on.map fun q=>((ps.idxOf q:Nat):Int)
theorem idx_app {ps qs:List (List Int)}{p:List Int} (h:p∈ps):(ps++qs).idxOf p=ps.idxOf p:=by
 rw [List.idxOf_append,if_pos h]
theorem yi:∀ (more ks:List (List Int)),∃ t,Zi ks more=ks++t
 | [],ks=>⟨[],by rw [List.append_nil];rfl⟩
 | x :: r,ks=>by
  obtain ⟨t,e⟩:=yi r (YE ks x)
  by_cases h:x∈ks
  ·rw [XC h] at e
   exact ⟨t,by show Zi (YE ks x) r=_;rw [XC h,e]⟩
  ·have h2:YE ks x=ks++[x]:=if_neg h
   rw [h2] at e
   exact ⟨[x]++t,by show Zi (YE ks x) r=_;rw [h2,e,List.append_assoc]⟩
theorem jF {ps more on:List (List Int)} (h:∀ q∈on,q∈ps):Wy (Zi ps more) on=Wy ps on:=by
 obtain ⟨t,e⟩:=yi more ps
 unfold Wy
 rw [e]
 exact List.map_congr_left fun q hq=>by rw [idx_app (h q hq)]
structure LInv (ms:List MM) (ws:List Str) (R0:Option (List (List Int) × List (List Int))) (ps:List (List Int)) (ons:List (List (List Int))):Prop where
 pk:PlOk ms ps
 le:ons.length≤ps.length
 inn:∀ on∈ons,∀ q∈on,q∈ps
 ne:∀ on∈ons,on.Nodup∧on≠[]
 len:ps.length≤90000
 run:(ps.length≤20∧Vj ms ws (22 - ons.length) ps (ons.map (Wy ps))=R0)∨(20<ps.length∧R0=none)
theorem LInv.start {ms:List MM} (t:Wc ms) (ws:List Str):LInv ms ws (Vj ms ws 22 [ms.map fun m=>m.d.start] []) [ms.map fun m=>m.d.start] []:=
 ⟨xO t,Nat.zero_le _,(fun on h=>by cases h),(fun on h=>by cases h),by show 1≤90000;decide,.inl ⟨by show 1≤20;decide,rfl⟩⟩
theorem LInv.step {ms:List MM} (t:Wc ms) {ws:List Str} (hws:ws.length≤64) {R0:Option (List (List Int) × List (List Int))}{ps:List (List Int)}{ons:List (List (List Int))} (h:LInv ms ws R0 ps ons) (h1:ons.length<ps.length) (h2:ps.length<21) :
  LInv ms ws R0 (Zi ps (Y7 ms ws ps[ons.length])) (ons++[Y7 ms ws ps[ons.length]]):=by
 obtain ⟨pk2,ip,pl2,pl3⟩:=xk (ws:=ws) t h.pk h1
 have eg:ps.getD ons.length []=ps[ons.length]:=by rw [List.getD_eq_getElem?_getD,List.getElem?_eq_getElem h1];rfl
 have mk:=Ud t ip ws
 rw [eg] at mk
 have eS:XA ms ws ps ons.length=Zi ps (Y7 ms ws ps[ons.length]):=by unfold XA;rw [eg]
 have eW:WJ ms ws ps ons.length=Wy (Zi ps (Y7 ms ws ps[ons.length])) (Y7 ms ws ps[ons.length]):=by unfold WJ Wy;rw [eS,eg]
 rcases h.run with ⟨l20,hr⟩ | ⟨l20,_⟩
 ·have hl:(ons.map (Wy ps)).length=ons.length:=List.length_map ..
  have hr2:Vj ms ws (22 - ons.length) ps (ons.map (Wy ps))=if (XA ms ws ps ons.length).length > 20 then none else Vj ms ws (22 - (ons.length+1)) (XA ms ws ps ons.length) (ons.map (Wy ps)++[WJ ms ws ps ons.length]):=by
   have:22 - ons.length=(22 - (ons.length+1))+1:=by omega
   rw [this]
   show (if (ons.map (Wy ps)).length<ps.length then _ else _)=_
   rw [hl,if_pos h1]
  rw [hr2,eS,eW] at hr
  rw [eS] at pk2 pl2 pl3
  have ew:(ons++[Y7 ms ws ps[ons.length]]).map (Wy (Zi ps (Y7 ms ws ps[ons.length])))=ons.map (Wy ps)++[Wy (Zi ps (Y7 ms ws ps[ons.length])) (Y7 ms ws ps[ons.length])]:=by
   rw [List.map_append]
   congr 1
   exact List.map_congr_left fun on hon=>jF (h.inn on hon)
  refine ⟨pk2,by rw [List.length_append];show ons.length+1≤_;omega,fun on hon q hq=>?_,fun on hon=>?_,by omega,?_⟩
  ·rcases List.mem_append.mp hon with hon | hon
   ·exact YK.mpr (.inl (h.inn on hon q hq))
   ·cases List.mem_singleton.mp hon
    exact YK.mpr (.inr hq)
  ·rcases List.mem_append.mp hon with hon | hon
   ·exact h.ne on hon
   ·cases List.mem_singleton.mp hon
    exact ⟨mk.2.1,mk.2.2.2⟩
  ·rw [ew,List.length_append]
   by_cases c:(Zi ps (Y7 ms ws ps[ons.length])).length > 20
   ·rw [if_pos c] at hr
    exact .inr ⟨c,hr.symm⟩
   ·rw [if_neg c] at hr
    exact .inl ⟨by omega,hr⟩
 ·omega
structure LEnd (ms:List MM) (R0:Option (List (List Int) × List (List Int))) (ps:List (List Int)) (ons:List (List (List Int))):Prop where
 pk:PlOk ms ps
 inn:∀ on∈ons,∀ q∈on,q∈ps
 ne:∀ on∈ons,on.Nodup∧on≠[]
 len:ps.length≤90000
 run:(20<ps.length∧R0=none)∨(ps.length≤20∧ons.length=ps.length∧R0=some (ps,ons.map (Wy ps)))
theorem LInv.stop {ms:List MM}{ws:List Str}{R0:Option (List (List Int) × List (List Int))}{ps:List (List Int)}{ons:List (List (List Int))} (h:LInv ms ws R0 ps ons) (hn:¬ (ons.length<ps.length∧ps.length<21)):LEnd ms R0 ps ons:=by
 refine ⟨h.pk,h.inn,h.ne,h.len,?_⟩
 have:=h.le
 rcases h.run with ⟨l20,hr⟩ | q
 ·refine .inr ⟨l20,by omega,?_⟩
  rw [← hr]
  have:22 - ons.length=(21 - ons.length)+1:=by omega
  rw [this]
  show (if (ons.map (Wy ps)).length<ps.length then _ else _)=_
  rw [List.length_map,if_neg (by omega)]
 ·exact .inl q
theorem metOf_law {ms:List MM} (t:Wc ms) (ws:List Str) (p:List Int):Y7 ms ws p=if ws.foldl (fun on w=>Zi on (YT w (ms.zip p))) []=[] then [p] else ws.foldl (fun on w=>Zi on (YT w (ms.zip p))) []:=by
 have e:Vf ms p=fun on w=>Zi on (YT w (ms.zip p)):=by funext on w;exact xG t p on w
 unfold Y7
 rw [e]
def PlsAt (H:Hp) (vs:List V) (ps:List (List Int)):Prop:=vs.length=ps.length∧∀ (i:Nat) v p,vs[i]?=some v→ps[i]?=some p→∃ b,v=.ref b∧H b=some (.tup (p.map V.int))
def XN (p:List Int):PyData:=.tuple (p.map PyData.int)
theorem dp_ints {K:PySem.W.Frag}{H:Hp}:∀ p:List Int,Vb K H (p.map V.int) (p.map PyData.int)
 | []=>.nil
 | x :: r=>.cons (.int x) (dp_ints r)
theorem yO {K:PySem.W.Frag}{H:Hp}{b:Addr}{p:List Int} (g:H b=some (.tup (p.map V.int))):Dp K H (.ref b) (XN p):=.tup (SqT.of g) (dp_ints p)
theorem WW {K:PySem.W.Frag}{H:Hp}:∀ {vs:List V}{ps:List (List Int)},PlsAt H vs ps→Vb K H vs (ps.map XN)
 | [],[],_=>.nil
 | [],_ :: _,h=>by cases h.1
 | _ :: _,[],h=>by cases h.1
 | v :: vs,p :: ps,h=>by
  obtain ⟨b,rfl,g⟩:=h.2 0 v p rfl rfl
  exact .cons (yO g) (WW ⟨by simpa using h.1,fun i v q h1 h2=>h.2 (i+1) v q (by simpa using h1) (by simpa using h2)⟩)
theorem Ub (p:List Int):Fine 1 (XN p):=by
 have h:=fineAll (f:=PyData.int) (n:=0) (xs:=p) fun x _=>⟨by simp [PyData.canLay0],by simp [PyData.depth]⟩
 exact ⟨by show PyData.canLayAll0 _=true;exact h.1,by show PyData.depthAll _+1≤1;omega⟩
theorem Wp (ps:List (List Int)):Fine 2 (.list (ps.map XN)):=fineL fun p _=>Ub p
theorem y9:∀ p q:List Int,PyData.eqv (XN p) (XN q)=decide (p=q):=by
 have:∀ p q:List Int,PyData.eqvAll (p.map PyData.int) (q.map PyData.int)=decide (p=q):=by
  intro p
  induction p with
  | nil=>intro q;cases q with
   | nil=>rfl
   | cons y s=>rfl
  | cons x r ih=>intro q;cases q with
   | nil=>rfl
   | cons y s=>
    show (PyData.eqv (.int x) (.int y) && PyData.eqvAll (r.map PyData.int) (s.map PyData.int))=_
    rw [ih]
    show ((x == y) && decide (r=s))=_
    by_cases h:x=y
    ·subst h;simp
    ·have:(x == y)=false:=by simpa using h
     rw [this];simp [h]
 exact fun p q=>this p q
theorem eqv_plas:∀ ps qs:List (List Int),PyData.eqv (.list (ps.map XN)) (.list (qs.map XN))=decide (ps=qs):=by
 have:∀ ps qs:List (List Int),PyData.eqvAll (ps.map XN) (qs.map XN)=decide (ps=qs):=by
  intro ps
  induction ps with
  | nil=>intro q;cases q with
   | nil=>rfl
   | cons y s=>rfl
  | cons x r ih=>intro q;cases q with
   | nil=>rfl
   | cons y s=>
    show (PyData.eqv (XN x) (XN y) && PyData.eqvAll (r.map XN) (s.map XN))=_
    rw [ih,y9]
    by_cases h:x=y
    ·subst h;simp
    ·simp [h]
 exact fun p q=>this p q
theorem any_pla (ps:List (List Int)) (q:List Int):((ps.map XN).any fun z=>PyData.eqv z (XN q))=decide (q∈ps):=by
 induction ps with
 | nil=>rfl
 | cons x r ih=>
  rw [List.map_cons,List.any_cons,ih,y9]
  by_cases h:x=q
  ·subst h;simp
  ·have:¬ q=x:=fun e=>h e.symm
   simp [h,this]
section
variable {X:Cx}{K:PySem.W.Frag}
inductive xI (x y:V) (H:Hp) (Q:VK):Prop
 | mk (b p:Addr) (q:List Int) (vs:List V) (ps:List (List Int)) (h0:x=.ref b) (h1:y=.ref p) (h2:H b=some (.tup (q.map V.int))) (h3:H p=some (.lst vs)) (h4:PlsAt H vs ps) (h5:Q (.bl (!decide (q∈ps))) H):xI x y H Q
def rNotPl:R2:=fun x y H Q=>xI x y H Q
theorem vB (hu:X.A.units+64<cLine):OpR X (compareOp .NotIn) rNotPl:=by
 intro pins s σ H x y u v Q I rx ry h
 obtain ⟨b,p,q,vs,ps,rfl,rfl,hb,hp,a,qq⟩:=h
 obtain ⟨as,r1⟩:=(Dp.lst (SqL.of hp) (WW a):Dp X.K H (.ref p) (.list (ps.map XN))).reads I ry
 obtain ⟨bs,r2⟩:=(yO hb:Dp X.K H (.ref b) (XN q)).reads I rx
 have f2:=Ub q
 refine SeqAt.notIn_list_reads r1 r2 (Wp ps).1 f2.1 ?_ ⟨.bl _,H,I,rfl,?_⟩
 ·have:=Nat.min_le_right (PyData.depthAll (ps.map XN)) (XN q).depth
  have:=f2.2
  omega
 ·rw [any_pla];exact qq
end
end L3
namespace KK
open PySem PySem.Spec L2 L3
def Ym (ms:List MM):List Str:=ms.flatMap fun m=>m.d.known
theorem VD (ms:List MM) (m:MM):Ym (ms++[m])=Ym ms++m.d.known:=by unfold Ym;rw [List.flatMap_append];simp
theorem Uh {ms:List MM} (t:Wc ms) (n:Nat):(Ym (ms.take n)).length≤48:=by
 have h:=WA (fun m:MM=>m.d.known) 12 (ms.take n) fun m hm=>t.k12 m (List.mem_of_mem_take hm)
 have:(ms.take n).length≤ms.length:=by rw [List.length_take];omega
 have:=t.n4
 unfold Ym
 omega
def Xt (ms:List MM):List Str:=X0 (Zi [] (Ym ms))
theorem UO {ms:List MM} (t:Wc ms):Y5 (Xt ms) (Xq ms):=by
 have hp:(Xt ms).Perm (Zi [] (Ym ms)):=List.mergeSort_perm ..
 have nd:(Xt ms).Nodup:=hp.nodup_iff.mpr (XL (by simp))
 have mem:∀ x,x∈Xt ms↔x∈Xq ms:=fun x=>by
  rw [hp.mem_iff,YK]
  unfold Ym Xq
  rw [List.mem_flatMap,List.mem_flatMap]
  constructor
  ·rintro (h | ⟨m,hm,h⟩)
   ·cases h
   ·exact ⟨m,hm,((t.so m hm).mem x).mpr h⟩
  ·rintro ⟨m,hm,h⟩
   exact .inr ⟨m,hm,((t.so m hm).mem x).mp h⟩
 exact ⟨nd,mem,za nd fun x hx=>(mem x).mp hx,Uo _⟩
theorem W7 {ms:List MM} (t:Wc ms) {ws:List Str} (h:Y5 ws (Xq ms)):ws=Xt ms:=by
 have g:=UO t
 exact Vk h.nd g.nd h.up g.up fun x=>(h.mem x).trans (g.mem x).symm
def AreOn (PL WY:Addr) (H:Hp) (wv:List V) (ons:List (List (List Int))):Prop:=wv.length=ons.length∧∀ (i:Nat) v on,wv[i]?=some v→ons[i]?=some on→∃ b us,v=.ref b∧b≠PL∧b≠WY∧H b=some (.lst us)∧ArePl H us on
theorem _root_.KK.AreOn.mono {PL WY:Addr}{H H':Hp}{wv:List V}{ons:List (List (List Int))} (h:AreOn PL WY H wv ons) (s:∀ b xs,H b=some (.tup xs)→H' b=some (.tup xs)) (l:∀ b xs,b≠PL→b≠WY→H b=some (.lst xs)→H' b=some (.lst xs)):AreOn PL WY H' wv ons:=⟨h.1,fun i v on h1 h2=>let ⟨b,us,e,n1,n2,g,ar⟩:=h.2 i v on h1 h2; ⟨b,us,e,n1,n2,l _ _ n1 n2 g,ar.mono s⟩⟩
theorem _root_.KK.AreOn.snoc {PL WY:Addr}{H:Hp}{wv:List V}{ons:List (List (List Int))}{b:Addr}{us:List V}{on:List (List Int)} (h:AreOn PL WY H wv ons) (n1:b≠PL) (n2:b≠WY) (g:H b=some (.lst us)) (ar:ArePl H us on):AreOn PL WY H (wv++[.ref b]) (ons++[on]):=by
 refine ⟨by rw [List.length_append,List.length_append,h.1];rfl,fun i v w h1 h2=>?_⟩
 rw [List.getElem?_append] at h1 h2
 rw [h.1] at h1
 split at h1
 ·rename_i hi
  rw [if_pos hi] at h2
  exact h.2 i v w h1 h2
 ·rename_i hi
  rw [if_neg hi] at h2
  cases hj:i - ons.length with
  | zero=>rw [hj] at h1 h2;cases h1;cases h2;exact ⟨b,us,rfl,n1,n2,g,ar⟩
  | succ k=>rw [hj] at h1;cases h1
theorem qE {ks more:List (List Int)} (n:Nat):(Zi ks (more.take n)).length≤(Zi ks more).length:=by
 have h:=(YL (more.drop n) (Zi ks (more.take n))).1
 rw [← Vw,List.take_append_drop] at h
 exact h
def qH (K:PySem.W.Frag) (a:Adr):Sp:=fun vs H Q _=>∃ p xs ms,vs=[.ref p]∧H p=some (.lst xs)∧zh H xs ms∧Wc ms∧∀ H' r L W pv wv ps ons,Zj H H'→H' r=some (.tup [.ref L,.ref W])→H' L=some (.lst pv)→ArePl H' pv ps→H' W=some (.lst wv)→AreOn L W H' wv ons→LEnd ms (Vj ms (Xt ms) 22 [ms.map fun m=>m.d.start] []) ps ons→Q (.ref r) H'
theorem qy {P:Program}{w:World}{K:PySem.W.Frag}{mg:Str→Option Value}{base:Heap}{a:Adr} (T:Txt K mg a) (hw:w.params=a.Pm):Yy P w K mg base CX0 2 a._law_beside a._law_beside_fd ["_law_machines"] (qH K a):=by
 have G__law_rows:=xg (P:=P) (w:=w) (base:=base) T hw
 refine T.f__law_beside.ok Zz (fun vs H Q E h=>?_) (fun cdv A outer s H vs Q E hr h=>?_)
 ·obtain ⟨p,xs,ms,rfl,_⟩:=h
  rfl
 ·obtain ⟨p,xs,ms,rfl,hp,hm,tm,k⟩:=h
  refine ⟨_,(@Ze _ _ _ _ _ (@Zt _ _ (1) _ _ _ _ Zz.nd rfl (Or.inl rfl) (@ZR _ _ _ _ Zb) (by rfl) (by first | exact .inl rfl | exact .inr rfl | assumption)) (@Ze _ _ _ _ _ (Xo PassesOwn.never rfl (Zq (K:=K) rfl (pv 0)) (XU (K:=K) (n:=4) rfl rfl (ZF (Zm (i:=2) Zz.nd rfl (Or.inl rfl)) (ZF (Zm (i:=3) Zz.nd rfl (Or.inl rfl)) (ZF (Zm (i:=4) Zz.nd rfl (Or.inl rfl)) (ZF (Zm (i:=5) Zz.nd rfl (Or.inl rfl)) XX))))) (@Zh _ _ _ (Xo PassesOwn.never rfl (Zq (K:=K) rfl (@ZC _ _ _ _ _ _ _ _ qI (ZV (Nc:=["_law_move"]) (ix:=[none]) (ZD.of (by decide +kernel:ZK (Zc Z6) ["_law_machines", "_law_words", "_law_signs", "_law_moves", "_law_start", "_law_more", "_law_word", "_law_places", "_law_ways", "_law_place", "_law_on", "_law_other"] ["_law_move"] [none] _=true)) rfl (Zq (K:=K) rfl (pv 3)) (fun _ _ _ _ _=>(Zm (i:=0) (show List.Nodup (["_law_move"]:List Str) by decide +kernel) rfl (Or.inl rfl))) (fun _ _ _ _ _=>ZT) (fun _ _ _ _ _=>(@ZH _ _ _ _ _ _ _ (Z0 (K:=K) rfl) (pv 0) Zg (fun _ _=>rfl)))) (xw (K:=K) rfl (pv 5) (XF (@ZR _ _ _ _ Zb))))) (Zm (i:=6) Zz.nd rfl (Or.inl rfl)) (@Zh _ _ _ (@YF _ _ _ _ _ _ _ _ (@ZJ _ _ _ _ _ _ _ _ (Ut (K:=K) rfl) (pv 6) (pv 1) (by with_unfolding_all rfl)) (@Zh _ _ _ (@Y9 _ _ _ _ (Wu PySem.F.plainAttrs_list PySem.F.slot_list_append PySem.F.type_list_append YJ (pv 1) (@Za _ _ _ _ _ (pv 6) Zb (by rfl))) (by rfl))) ZL))))) (@Ze _ _ _ _ _ (@Zt _ _ (7) _ _ _ _ Zz.nd rfl (Or.inl rfl) (@ZR _ _ _ _ (@Za _ _ _ _ _ (Zr (Yv (K:=K) rfl) rfl T.b_tuple PyProof.Rows.Boot.«tuple» (@Za _ _ _ _ _ (ZV (Nc:=["_law_one"]) (ix:=[none]) (ZD.of (by decide +kernel:ZK (Zc Z6) ["_law_machines", "_law_words", "_law_signs", "_law_moves", "_law_start", "_law_more", "_law_word", "_law_places", "_law_ways", "_law_place", "_law_on", "_law_other"] ["_law_one"] [none] _=true)) rfl (Zq (K:=K) rfl (pv 0)) (fun _ _ _ _ _=>(Zm (i:=0) (show List.Nodup (["_law_one"]:List Str) by decide +kernel) rfl (Or.inl rfl))) (fun _ _ _ _ _=>ZT) (fun _ _ _ _ _=>(@ZH _ _ _ _ _ _ _ (Z0 (K:=K) rfl) (pv 0) Zg (fun _ _=>rfl)))) Zb (by rfl))) Zb (by rfl))) (by rfl) (by first | exact .inl rfl | exact .inr rfl | assumption)) (@Ze _ _ _ _ _ (@Zt _ _ (8) _ _ _ _ Zz.nd rfl (Or.inl rfl) (@ZR _ _ _ _ Zb) (by rfl) (by first | exact .inl rfl | exact .inr rfl | assumption)) (@Ze _ _ _ _ _ (qW PassesOwn.never (PW.pt (xz (@ZJ _ _ _ _ _ _ _ _ zR (Zk (Zv (K:=K) rfl) rfl T.b_len PyProof.Rows.Boot.«len» (@Za _ _ _ _ _ (pv 8) Zb (by rfl))) (Zk (Zv (K:=K) rfl) rfl T.b_len PyProof.Rows.Boot.«len» (@Za _ _ _ _ _ (pv 7) Zb (by rfl))) (ZW _)) (ql (@ZJ _ _ _ _ _ _ _ _ zR (Zk (Zv (K:=K) rfl) rfl T.b_len PyProof.Rows.Boot.«len» (@Za _ _ _ _ _ (pv 7) Zb (by rfl))) Zg (ZW _))))) (@Ze _ _ _ _ _ (@Zt _ _ (9) _ _ _ _ Zz.nd rfl (Or.inl rfl) (@ZH _ _ _ _ _ _ _ (ZM (K:=K) rfl) (pv 7) (Zk (Zv (K:=K) rfl) rfl T.b_len PyProof.Rows.Boot.«len» (@Za _ _ _ _ _ (pv 8) Zb (by rfl))) (fun _ _=>rfl)) (by rfl) (by first | exact .inl rfl | exact .inr rfl | assumption)) (@Ze _ _ _ _ _ (@Zt _ _ (10) _ _ _ _ Zz.nd rfl (Or.inl rfl) (@ZR _ _ _ _ Zb) (by rfl) (by first | exact .inl rfl | exact .inr rfl | assumption)) (@Ze _ _ _ _ _ (Xo PassesOwn.never rfl (Zq (K:=K) rfl (Zk (Xu (K:=K) rfl) rfl T.b_sorted PyProof.Rows.Boot.«sorted» (@Za _ _ _ _ _ (pv 1) Zb (by rfl)))) (Zm (i:=6) Zz.nd rfl (Or.inl rfl)) (@Zh _ _ _ (Xo PassesOwn.never rfl (Zq (K:=K) rfl (ZA G__law_rows (hr.mono (by decide)) rfl T.g__law_rows T.f__law_rows.kp T.n__law_rows .nil Z4 (@Z9 _ _ _ _ _ (pv 0) (@Z9 _ _ _ _ _ (pv 9) (@Z9 _ _ _ _ _ (pv 6) Zb (by rfl)) (by rfl)) (by rfl)))) (Zm (i:=11) Zz.nd rfl (Or.inl rfl)) (@Zh _ _ _ (@YF _ _ _ _ _ _ _ _ (@ZJ _ _ _ _ _ _ _ _ (vB (Y0.units hr)) (pv 11) (pv 10) (by with_unfolding_all rfl)) (@Zh _ _ _ (@Y9 _ _ _ _ (Wu PySem.F.plainAttrs_list PySem.F.slot_list_append PySem.F.type_list_append YJ (pv 10) (@Za _ _ _ _ _ (pv 11) Zb (by rfl))) (by rfl))) ZL))))) (WP (@YF _ _ _ _ _ _ _ _ (@ZJ _ _ _ _ _ _ _ _ (qj (K:=K) rfl (Y0.units hr)) (pv 10) (@ZR _ _ _ _ Zb) (ZW _)) (@Zh _ _ _ (@Zt _ _ (10) _ _ _ _ Zz.nd rfl (Or.inl rfl) (@ZR _ _ _ _ (@Za _ _ _ _ _ (pv 9) Zb (by rfl))) (by rfl) (by first | exact .inl rfl | exact .inr rfl | assumption))) ZL) (@Ze _ _ _ _ _ (Xo PassesOwn.never rfl (Zq (K:=K) rfl (pv 10)) (Zm (i:=11) Zz.nd rfl (Or.inl rfl)) (@Zh _ _ _ (@YF _ _ _ _ _ _ _ _ (@ZJ _ _ _ _ _ _ _ _ (vB (Y0.units hr)) (pv 11) (pv 7) (by with_unfolding_all rfl)) (@Zh _ _ _ (@Y9 _ _ _ _ (Wu PySem.F.plainAttrs_list PySem.F.slot_list_append PySem.F.type_list_append YJ (pv 7) (@Za _ _ _ _ _ (pv 11) Zb (by rfl))) (by rfl))) ZL))) (@Zh _ _ _ (@Y9 _ _ _ _ (Wu PySem.F.plainAttrs_list PySem.F.slot_list_append PySem.F.type_list_append YJ (pv 8) (@Za _ _ _ _ _ (pv 10) Zb (by rfl))) (by rfl))))))))) (@Zh _ _ _ (@Zx _ _ _ _ (@Wb _ _ _ _ _ (@Za _ _ _ _ _ (pv 7) (@Za _ _ _ _ _ (pv 8) Zb (by rfl)) (by rfl)))))))))),?_⟩
  have lx:=hm.1
  have n4:=tm.n4
  refine ⟨sz0,fun W0 hW0=>?_⟩
  obtain ⟨H1,qN,s1,eW0⟩:=YQ (o:=.lst []) hW0
  rw [qN];clear qN
  refine ⟨_,rfl,p,rfl,⟨_,SqL.of (s1 _ _ hp)⟩,?_⟩
  refine YY (J:=Itl K p) (n:=ms.length) (fun i σ G=>∃ z2 z3 z4 z5 z6:Option V,σ=[some (.ref p),some (.ref W0),z2,z3,z4,z5,z6,none,none,none,none,none]∧Zj H G∧G W0=some (.lst ((Zi [] (Ym (ms.take i))).map V.str))) ?_ ?_ ?_ ?_ ?_
  ·exact ⟨_,_,_,_,_,rfl,s1,eW0⟩
  ·rintro i σ G hi ⟨z2,z3,z4,z5,z6,rfl,sm,hd⟩
   exact ⟨_,_,SqL.of (sm _ _ hp),List.getElem?_eq_getElem (by omega)⟩
  ·rintro σ G ⟨z2,z3,z4,z5,z6,rfl,sm,hd⟩
   exact ⟨_,SqL.of (sm _ _ hp),by omega⟩
  ·rintro i x σ G G2 hi ⟨z2,z3,z4,z5,z6,rfl,sm,hd⟩ ⟨rfl,hx⟩
   have e:=hx _ (SqL.of (sm _ _ hp))
   obtain ⟨t,px,py,pz,pu,rfl,ht,pp⟩:=hm.2 i x _ e (List.getElem?_eq_getElem hi)
   have gi:=tm.g _ (List.getElem_mem hi)
   have k12:=tm.k12 _ (List.getElem_mem hi)
   have mli:=gi.ml
   have wli:=gi.wn.2.2
   refine ⟨t,_,rfl,SqT.of (sm _ _ ht),rfl,_,_,rfl,_,_,rfl,_,_,rfl,_,_,rfl,rfl,?_⟩
   have ppG:=pp.mono sm
   obtain ⟨b2,v2,e2',g2,l2,q2⟩:=id ppG.m
   subst e2'
   refine ⟨_,rfl,b2,rfl,⟨_,SqL.of g2⟩,fun D hD=>?_⟩
   refine Yc (K:=K) hD (SqL.of g2) (by rw [sizeLine_eq];omega) (fun i' v _=>∀ m,ms[i].d.moves[i']?=some m→v=.str m.2.1) (fun _ _ _ _ _ q=>q) ?_ ?_
   ·intro n w F N hx sm2 hN
    have hn:n<ms[i].d.moves.length:=by rw [← l2];exact (List.getElem?_eq_some_iff.mp hx).1
    obtain ⟨c,rfl,ec⟩:=q2 n w _ hx (List.getElem?_eq_getElem hn)
    refine ⟨_,rfl,c,_,_,_,rfl,rfl,SqT.of (sm2 _ _ ec),rfl,hN _ _ (.refl _) fun m hm'=>?_⟩
    rw [List.getElem?_eq_getElem hn] at hm'
    cases hm'
    rfl
   intro F zs hDF sF lz rz
   have ez:zs=(ms[i].d.moves.map fun m=>m.2.1).map V.str:=by
    refine List.ext_getElem (by simp only [List.length_map];omega) fun n h1 h2=>?_
    have hn:n<ms[i].d.moves.length:=by omega
    have:=rz n _ (List.getElem?_eq_getElem h1) _ (List.getElem?_eq_getElem hn)
    rw [this]
    simp only [List.getElem_map]
   subst ez
   refine ⟨_,rfl,@qz K F pu ms[i].d.words (fun y H2=>rCat (V.ref D) y H2 _) _ ((ppG.mono sF).w) fun bb F2 s6 hbb=>?_⟩
   refine ⟨D,bb,_,_,rfl,rfl,s6 _ _ hDF,hbb,by rw [sizeLine_eq];simp only [List.length_map];omega,fun L hL=>?_⟩
   obtain ⟨F3,qN,s7,eL⟩:=YQ (o:=.lst (((ms[i].d.moves.map fun m=>m.2.1).map V.str)++ms[i].d.words.map V.str)) hL
   rw [qN];clear qN
   have eL:F3 L=some (.lst (ms[i].d.known.map V.str)):=by rw [eL];unfold MD.known;rw [List.map_append]
   have sGF:Zj G2 F3:=sF.trans (s6.trans s7)
   have nLW:L≠W0:=fun q=>by rw [q,(sF.trans s6) _ _ hd] at hL;cases hL
   have few:=Uh tm (i+1)
   rw [Z1 hi,VD,List.length_append] at few
   have fw1:=(YL (Ym (ms.take i)) []).2
   rw [List.length_nil] at fw1
   refine ⟨L,rfl,⟨_,SqL.of eL⟩,?_⟩
   refine YY (J:=Itl K L) (n:=ms[i].d.known.length) (fun n σ X=>∃ z6:Option V,σ=[some (.ref p),some (.ref W0),some px,some (.ref b2),some pz,some pu,z6,none,none,none,none,none]∧Zj H X∧X L=some (.lst (ms[i].d.known.map V.str))∧X W0=some (.lst ((Zi (Zi [] (Ym (ms.take i))) (ms[i].d.known.take n)).map V.str))) ?_ ?_ ?_ ?_ ?_
   ·exact ⟨_,rfl,sm.trans sGF,eL,sGF _ _ hd⟩
   ·rintro n σ X hn ⟨z6,rfl,sX,xL,xW⟩
    exact ⟨_,_,SqL.of xL,by rw [List.getElem?_map,List.getElem?_eq_getElem hn];rfl⟩
   ·rintro σ X ⟨z6,rfl,sX,xL,xW⟩
    exact ⟨_,SqL.of xL,by rw [List.length_map];exact Nat.le_refl _⟩
   ·rintro n x σ X X2 hn ⟨z6,rfl,sX,xL,xW⟩ ⟨rfl,hx⟩
    have e:=hx _ (SqL.of xL)
    rw [List.getElem?_map,List.getElem?_eq_getElem hn] at e
    have e':x=.str (ms[i].d.known)[n]:=(Option.some.inj e).symm
    subst e'
    have sn:Zi (Zi [] (Ym (ms.take i))) (ms[i].d.known.take (n+1))=YE (Zi (Zi [] (Ym (ms.take i))) (ms[i].d.known.take n)) (ms[i].d.known)[n]:=by rw [Z1 hn,XI]
    have ln:=(YL (ms[i].d.known.take n) (Zi [] (Ym (ms.take i)))).2
    rw [List.length_take] at ln
    generalize Zi (Zi [] (Ym (ms.take i))) (ms[i].d.known.take n)=acc at xW sn ln
    refine ⟨_,rfl,_,rfl,W0,_,rfl,.inl (SqL.of xW),rfl,by simp [W8],_,rfl,?_⟩
    show if (!inV (V.str (ms[i].d.known)[n]) (acc.map V.str))=true then _ else _
    rw [V6]
    by_cases hin:(ms[i].d.known)[n]∈acc
    ·rw [decide_eq_true hin]
     rw [XC hin] at sn
     exact Yz ⟨_,rfl,sX,xL,by rw [sn];exact xW⟩
    ·rw [decide_eq_false hin]
     have ad:YE acc (ms[i].d.known)[n]=acc++[(ms[i].d.known)[n]]:=if_neg hin
     rw [ad] at sn
     refine Yh ⟨_,rfl,.inl ⟨rfl,_,SqL.of xW⟩,_,rfl,W0,_,_,rfl,rfl,xW,by rw [List.length_map,sizeLine_eq];omega,?_⟩
     exact ⟨_,rfl,(Zy.upd (Zj.x sX)).same hW0,by rw [Zo nLW];exact xL,by rw [Zd,sn,List.map_append];rfl⟩
   ·rintro σ X ⟨z6,rfl,sX,xL,xW⟩
    rw [List.take_length,← Vw,← VD,← Z1 hi] at xW
    exact ⟨_,_,_,_,_,rfl,sX,xW⟩
  rintro σ G ⟨z2,z3,z4,z5,z6,rfl,sG,eW⟩
  rw [List.take_length] at eW
  have few:=Uh tm ms.length
  rw [List.take_length] at few
  have fw1:=(YL (Ym ms) []).2
  rw [List.length_nil] at fw1
  have hpG:=sG _ _ hp
  have hmG:=hm.mono sG
  refine ⟨_,rfl,p,rfl,⟨_,SqL.of hpG⟩,fun D2 hD2=>?_⟩
  refine Yc (K:=K) hD2 (SqL.of hpG) (by rw [sizeLine_eq];omega) (fun i v _=>∀ m,ms[i]?=some m→v=.int m.d.start) (fun _ _ _ _ _ q=>q) ?_ ?_
  ·intro i x H3 N hx sm3 hN
   have hi:i<ms.length:=by rw [← lx];exact (List.getElem?_eq_some_iff.mp hx).1
   obtain ⟨t,px,py,pz,pu,rfl,ht,pp⟩:=hmG.2 i x _ hx (List.getElem?_eq_getElem hi)
   refine ⟨_,rfl,t,_,_,_,rfl,rfl,SqT.of (sm3 _ _ ht),rfl,hN _ _ (.refl _) fun m hm'=>?_⟩
   rw [List.getElem?_eq_getElem hi] at hm'
   cases hm'
   exact pp.st
  intro H3 zs hD3 s3 lz rz
  have ez:zs=(ms.map fun m=>m.d.start).map V.int:=by
   refine List.ext_getElem (by simp only [List.length_map];omega) fun i h1 h2=>?_
   have hi:i<ms.length:=by omega
   have:=rz i _ (List.getElem?_eq_getElem h1) _ (List.getElem?_eq_getElem hi)
   rw [this]
   simp only [List.getElem_map]
  subst ez
  have li0:=LInv.start tm (Xt ms)
  have hww:=(UO tm).len
  generalize hR0:Vj ms (Xt ms) 22 [ms.map fun m=>m.d.start] []=R0 at li0 k
  generalize hst:(ms.map fun m=>m.d.start)=p0 at hD3 li0
  refine ⟨D2,_,rfl,.inl ⟨SqL.of hD3,fun t0 ht0=>?_⟩⟩
  obtain ⟨H4,qN,s4,e4⟩:=YQ (o:=.tup (p0.map V.int)) ht0
  rw [qN];clear qN
  refine ⟨sz1,fun PL hPL=>?_⟩
  obtain ⟨H5,qN,s5,e5⟩:=YQ (o:=.lst [.ref t0]) hPL
  rw [qN];clear qN
  refine ⟨sz0,fun WY hWY=>?_⟩
  obtain ⟨H8,qN,s8,e8⟩:=YQ (o:=.lst []) hWY
  rw [qN];clear qN
  have sG4:Zj G H4:=s3.trans s4
  have s48:Zj H4 H8:=s5.trans s8
  have nWY:H4 WY=none:=s5.free hWY
  have dPW:PL≠WY:=fun e=>by rw [← e,e5] at hWY;cases hWY
  have hp4:=sG4 _ _ hpG
  have hm4:=hmG.mono sG4
  have eW4:=sG4 _ _ eW
  have sH4:Zj H H4:=sG.trans sG4
  have a0:ArePl H8 [.ref t0] [p0]:=⟨rfl,fun i v q h1 h2=>by
   cases i with
   | zero=>cases h1;cases h2;exact ⟨t0,rfl,s48 _ _ e4⟩
   | succ n=>simp at h1⟩
  have e58:=s8 _ _ e5
  have hwl:(Zi [] (Ym ms)).length<64:=by omega
  have hws:(Xt ms).length=(Zi [] (Ym ms)).length:=(List.mergeSort_perm ..).length_eq
  have w64:(Xt ms).length≤64:=by omega
  clear e5 hWY s5 s8 s3 s4 rz lz hD3 hD2 hst e4 ht0 sG eW hpG hmG few fw1 eW0 s1 hW0 sG4
  generalize hW:Xt ms=ws at *
  have hW':X0 (Zi [] (Ym ms))=ws:=hW
  refine ⟨fun n σ G=>∃ (z2 z3 z4 z5 z6 z9 z10 z11:Option V) (pv wv:List V) (ps:List (List Int)) (ons:List (List (List Int))),σ=[some (.ref p),some (.ref W0),z2,z3,z4,z5,z6,some (.ref PL),some (.ref WY),z9,z10,z11]∧Zj H4 G∧G PL=some (.lst pv)∧ArePl G pv ps∧G WY=some (.lst wv)∧AreOn PL WY G wv ons∧LInv ms ws R0 ps ons∧n=22 - ons.length,⟨22,_,_,_,_,_,_,_,_,[.ref t0],[],[p0],[],rfl,s48,e58,a0,e8,⟨rfl,fun i v w e=>by simp at e⟩,li0,rfl⟩,?_⟩
  rintro n σ G ⟨z2,z3,z4,z5,z6,z9,z10,z11,pv,wv,ps,ons,rfl,sG,hPL1,aP,hWY1,aW,li,rfl⟩
  have lpv:=aP.1
  have lwv:=aW.1
  refine ⟨_,rfl,.inl ⟨WY,wv,rfl,.inl (SqL.of hWY1),_,rfl,.inl ⟨PL,pv,rfl,.inl (SqL.of hPL1),_,_,rfl,rfl,_,rfl,Wm (fun c1=>?one) (fun c1=>?rest1)⟩⟩⟩
  case one=>
   refine ⟨_,rfl,.inl ⟨PL,pv,rfl,.inl (SqL.of hPL1),_,_,rfl,rfl,_,rfl,Wm (fun c2=>?_) (fun c2=>?_)⟩⟩
   ·have hk1:ons.length<ps.length:=by have:=of_decide_eq_true c1;omega
    have hk2:ps.length<21:=by have:=of_decide_eq_true c2;omega
    have hkp:ons.length<pv.length:=by omega
    obtain ⟨b,eb,gb⟩:=aP.2 ons.length _ _ (List.getElem?_eq_getElem hkp) (List.getElem?_eq_getElem hk1)
    have ip:=li.pk.pl _ (List.getElem_mem hk1)
    have li2:=li.step tm w64 hk1 hk2
    have hml:=metOf_law tm ws ps[ons.length]
    have hol:∀ j,(((ws.take j).foldl (fun on w=>Zi on (YT w (ms.zip ps[ons.length]))) [])).length≤100000:=fun j=>by
     have e:Vf ms ps[ons.length]=fun on w=>Zi on (YT w (ms.zip ps[ons.length])):=by funext on w;exact xG tm _ on w
     have h:=(qe tm ip (ws.take j) [] (fun q hq=>by cases hq) (by simp)).2.2
     rw [e] at h
     rw [List.length_take] at h
     have:([]:List (List Int)).length=0:=rfl
     omega
    have hrf:=fun w=>(yq (w:=w) (ms.zip ps[ons.length]) fun q hq=>(zip_ok tm ip q hq).1).1
    have z4l:(ms.zip ps[ons.length]).length≤4:=by rw [List.length_zip];omega
    have hrl:∀ w,(YT w (ms.zip ps[ons.length])).length≤810000:=fun w=>Nat.le_trans (hrf w) (Nat.le_trans (Nat.pow_le_pow_right (by decide) z4l) (by decide))
    generalize hmet:Y7 ms ws ps[ons.length]=met at li2 hml
    generalize hP:ps[ons.length]=P0 at *
    refine ⟨fun σ G'=>∃ (z2 z3 z4 z5 z6 z9 z10 z11:Option V) (pv wv:List V) (ps':List (List Int)) (ons':List (List (List Int))),σ=[some (.ref p),some (.ref W0),z2,z3,z4,z5,z6,some (.ref PL),some (.ref WY),z9,z10,z11]∧Zj H4 G'∧G' PL=some (.lst pv)∧ArePl G' pv ps'∧G' WY=some (.lst wv)∧AreOn PL WY G' wv ons'∧LInv ms ws R0 ps' ons'∧ons'.length=ons.length+1,?_,?_⟩
    ·rintro σ' G' ⟨z2,z3,z4,z5,z6,z9,z10,z11,pv,wv,ps',ons',rfl,q1,q2,q3,q4,q5,q6,q7⟩
     exact ⟨22 - ons'.length,by omega,z2,z3,z4,z5,z6,z9,z10,z11,pv,wv,ps',ons',rfl,q1,q2,q3,q4,q5,q6,rfl⟩
    refine ⟨_,rfl,_,rfl,.inl ⟨WY,wv,rfl,.inl (SqL.of hWY1),PL,pv,_,_,rfl,rfl,SqL.of hPL1,by rw [lwv];exact Xx (List.getElem?_eq_getElem hkp),?_⟩⟩
    rw [eb]
    refine ⟨sz0,fun l hl=>?_⟩
    obtain ⟨G1,qN,t1,el⟩:=YQ (o:=.lst []) hl
    rw [qN];clear qN
    refine ⟨_,rfl,.inl ⟨W0,Zi [] (Ym ms),rfl,SqL.of ((sG.trans t1) _ _ eW4),hwl,fun S hS=>?_⟩⟩
    rw [hW']
    obtain ⟨G2,qN,t2,eS⟩:=YQ (o:=.lst (ws.map V.str)) hS
    rw [qN];clear qN
    have nSl:S≠l:=fun e=>by rw [e,el] at hS;cases hS
    have sG2:Zj G G2:=t1.trans t2
    have el2:=t2 _ _ el
    clear hS t1 t2 el
    refine ⟨S,rfl,⟨_,SqL.of eS⟩,?_⟩
    refine YY (J:=Itl K S) (n:=ws.length) (fun j σ F=>∃ (z6 z11:Option V) (uv:List V),σ=[some (.ref p),some (.ref W0),z2,z3,z4,z5,z6,some (.ref PL),some (.ref WY),some (.ref b),some (.ref l),z11]∧Zj G F∧F l=some (.lst uv)∧ArePl F uv ((ws.take j).foldl (fun on w=>Zi on (YT w (ms.zip P0))) [])∧F S=some (.lst (ws.map V.str))) ?_ ?_ ?_ ?_ ?_
    ·exact ⟨_,_,[],rfl,sG2,el2,⟨rfl,fun i v q e=>by simp at e⟩,eS⟩
    ·rintro j σ F hj ⟨z6,z11,uv,rfl,sF,fl,fa,fS⟩
     exact ⟨_,_,SqL.of fS,by rw [List.getElem?_map,List.getElem?_eq_getElem hj];rfl⟩
    ·rintro σ F ⟨z6,z11,uv,rfl,sF,fl,fa,fS⟩
     exact ⟨_,SqL.of fS,by rw [List.length_map];exact Nat.le_refl _⟩
    ·rintro j x σ F F2 hj ⟨z6,z11,uv,rfl,sF,fl,fa,fS⟩ ⟨rfl,hx⟩
     have e:=hx _ (SqL.of fS)
     rw [List.getElem?_map,List.getElem?_eq_getElem hj] at e
     have e':x=.str ws[j]:=(Option.some.inj e).symm
     subst e'
     have sn:(ws.take (j+1)).foldl (fun on w=>Zi on (YT w (ms.zip P0))) []=Zi ((ws.take j).foldl (fun on w=>Zi on (YT w (ms.zip P0))) []) (YT ws[j] (ms.zip P0)):=by rw [Z1 hj,List.foldl_append];rfl
     have lo:=hol (j+1)
     rw [sn] at lo
     have lr:=hrl ws[j]
     generalize (ws.take j).foldl (fun on w=>Zi on (YT w (ms.zip P0))) []=cur at fa sn lo
     refine ⟨_,rfl,_,rfl,_,rfl,p,b,xs,ms,P0,ws[j],rfl,(sG.trans sF) _ _ hp4,hm4.mono (sG.trans sF),sF _ _ gb,tm.g,tm.n4,ip.1,fun F3 R rv t3 hR0 hR1 ar=>?_⟩
     generalize YT ws[j] (ms.zip P0)=rows at sn lo lr ar
     have nRl:R≠l:=fun e=>by rw [e,fl] at hR0;cases hR0
     have lar:=ar.1
     refine ⟨R,rfl,⟨_,SqL.of hR1⟩,?_⟩
     refine YY (J:=Itl K R) (n:=rows.length) (fun i σ F=>∃ (z11:Option V) (uv:List V),σ=[some (.ref p),some (.ref W0),z2,z3,z4,z5,some (.str ws[j]),some (.ref PL),some (.ref WY),some (.ref b),some (.ref l),z11]∧Zj G F∧F l=some (.lst uv)∧ArePl F uv (Zi cur (rows.take i))∧F S=some (.lst (ws.map V.str))∧F R=some (.lst rv)∧ArePl F rv rows) ?_ ?_ ?_ ?_ ?_
     ·exact ⟨_,uv,rfl,sF.trans t3,t3 _ _ fl,fa.mono fun b ys e=>t3 _ _ e,t3 _ _ fS,hR1,ar⟩
     ·rintro i σ X hi ⟨z11,uv,rfl,sX,xl,xa,xS,xR,xr⟩
      exact ⟨_,_,SqL.of xR,List.getElem?_eq_getElem (by omega)⟩
     ·rintro σ X ⟨z11,uv,rfl,sX,xl,xa,xS,xR,xr⟩
      exact ⟨_,SqL.of xR,by omega⟩
     ·rintro i x σ X X2 hi ⟨z11,uv,rfl,sX,xl,xa,xS,xR,xr⟩ ⟨rfl,hx⟩
      have e:=hx _ (SqL.of xR)
      obtain ⟨c,rfl,gc⟩:=xr.2 i x _ e (List.getElem?_eq_getElem hi)
      have sn2:Zi cur (rows.take (i+1))=YE (Zi cur (rows.take i)) rows[i]:=by rw [Z1 hi,XI]
      have ln:=qE (ks:=cur) (more:=rows) i
      generalize Zi cur (rows.take i)=now at xa sn2 ln
      have lxa:=xa.1
      refine ⟨_,rfl,_,rfl,c,l,rows[i],uv,now,rfl,rfl,gc,xl,xa,_,rfl,?_⟩
      show if (!decide (rows[i]∈now))=true then _ else _
      by_cases hin:rows[i]∈now
      ·rw [decide_eq_true hin]
       rw [XC hin] at sn2
       exact Yz ⟨_,uv,rfl,sX,xl,by rw [sn2];exact xa,xS,xR,xr⟩
      ·rw [decide_eq_false hin]
       have ad:YE now rows[i]=now++[rows[i]]:=if_neg hin
       rw [ad] at sn2
       refine Yh ⟨_,rfl,.inl ⟨rfl,_,SqL.of xl⟩,_,rfl,l,_,_,rfl,rfl,xl,by rw [sizeLine_eq];omega,?_⟩
       have tv:=WV (o:=.lst (uv++[.ref c])) xl
       exact ⟨_,uv++[.ref c],rfl,(Zy.upd (Zj.x sX)).same hl,Zd,by rw [sn2];exact (xa.snoc gc).mono tv,by rw [Zo nSl];exact xS,by rw [Zo nRl];exact xR,xr.mono tv⟩
     ·rintro σ X ⟨z11,uv,rfl,sX,xl,xa,xS,xR,xr⟩
      rw [List.take_length] at xa
      exact ⟨_,_,uv,rfl,sX,xl,by rw [sn];exact xa,xS⟩
    ·rintro σ F ⟨z6,z11,uv,rfl,sF,fl,fa,fS⟩
     rw [List.take_length] at fa
     have lo:=hol ws.length
     rw [List.take_length] at lo
     generalize ws.foldl (fun on w=>Zi on (YT w (ms.zip P0))) []=on at fa hml lo
     refine ⟨fun σ' F=>∃ (z11:Option V) (l2:Addr) (us:List V),σ'=[some (.ref p),some (.ref W0),z2,z3,z4,z5,z6,some (.ref PL),some (.ref WY),some (.ref b),some (.ref l2),z11]∧Zj G F∧G l2=none∧F l2=some (.lst us)∧ArePl F us met,?_,?_⟩
     ·refine ⟨_,rfl,sz0,fun N hN=>?_⟩
      obtain ⟨F2,qN,t2,eN⟩:=YQ (o:=.lst []) hN
      rw [qN];clear qN
      have fa2:=fa.mono fun b ys e=>t2 _ _ e
      refine ⟨.list (on.map XN),.list (([]:List (List Int)).map XN),Dp.lst (SqL.of (t2 _ _ fl)) (WW fa2),Dp.lst (SqL.of eN) .nil,(Wp on).1,(Wp []).1,Nat.le_trans (Wp on).2 (by decide),_,rfl,?_⟩
      show if PyData.eqv (.list (on.map XN)) (.list (([]:List (List Int)).map XN))=true then _ else _
      rw [eqv_plas]
      by_cases ho:on=[]
      ·rw [decide_eq_true ho]
       rw [if_pos ho] at hml
       refine Yh ⟨_,rfl,sz1,fun N2 hN2=>?_⟩
       obtain ⟨F3,qN,t3,eN2⟩:=YQ (o:=.lst [.ref b]) hN2
       rw [qN];clear qN
       have sF3:=sF.trans (t2.trans t3)
       refine ⟨_,N2,[.ref b],rfl,sF3,(sF.trans t2).free hN2,eN2,?_⟩
       rw [hml]
       exact ⟨rfl,fun i v q h1 h2=>by
        cases i with
        | zero=>cases h1;cases h2;exact ⟨b,rfl,sF3 _ _ gb⟩
        | succ n=>simp at h1⟩
      ·rw [decide_eq_false ho]
       rw [if_neg ho] at hml
       exact Yz ⟨_,l,uv,rfl,sF.trans t2,hl,t2 _ _ fl,by rw [hml];exact fa2⟩
     ·rintro σ' F' ⟨z11,l2,us,rfl,sF',hl2,fl2,far⟩
      have nlP:l2≠PL:=fun e=>by rw [e,hPL1] at hl2;cases hl2
      have nlW:l2≠WY:=fun e=>by rw [e,hWY1] at hl2;cases hl2
      have lar:=far.1
      have l9:=li2.len
      refine ⟨_,rfl,l2,rfl,⟨_,SqL.of fl2⟩,?_⟩
      refine YY (J:=Itl K l2) (n:=met.length) (fun j σ F=>∃ (z11:Option V) (pv':List V),σ=[some (.ref p),some (.ref W0),z2,z3,z4,z5,z6,some (.ref PL),some (.ref WY),some (.ref b),some (.ref l2),z11]∧Zj H4 F∧F PL=some (.lst pv')∧ArePl F pv' (Zi ps (met.take j))∧F WY=some (.lst wv)∧AreOn PL WY F wv ons∧F l2=some (.lst us)∧ArePl F us met) ?_ ?_ ?_ ?_ ?_
      ·exact ⟨_,pv,rfl,sG.trans sF',sF' _ _ hPL1,aP.mono fun b ys e=>sF' _ _ e,sF' _ _ hWY1,aW.mono (fun b ys e=>sF' _ _ e) fun b ys _ _ e=>sF' _ _ e,fl2,far⟩
      ·rintro j σ F hj ⟨z11,pv',rfl,sF,fPL,fP,fWY,fW,fl,fa⟩
       exact ⟨_,_,SqL.of fl,List.getElem?_eq_getElem (by omega)⟩
      ·rintro σ F ⟨z11,pv',rfl,sF,fPL,fP,fWY,fW,fl,fa⟩
       exact ⟨_,SqL.of fl,by omega⟩
      ·rintro j x σ F F2 hj ⟨z11,pv',rfl,sF,fPL,fP,fWY,fW,fl,fa⟩ ⟨rfl,hx⟩
       have e:=hx _ (SqL.of fl)
       obtain ⟨c,rfl,gc⟩:=fa.2 j x _ e (List.getElem?_eq_getElem hj)
       have sn2:Zi ps (met.take (j+1))=YE (Zi ps (met.take j)) met[j]:=by rw [Z1 hj,XI]
       have ln:=qE (ks:=ps) (more:=met) j
       generalize Zi ps (met.take j)=now at fP sn2 ln
       have lxa:=fP.1
       refine ⟨_,rfl,_,rfl,c,PL,met[j],pv',now,rfl,rfl,gc,fPL,fP,_,rfl,?_⟩
       show if (!decide (met[j]∈now))=true then _ else _
       by_cases hin:met[j]∈now
       ·rw [decide_eq_true hin]
        rw [XC hin] at sn2
        exact Yz ⟨_,pv',rfl,sF,fPL,by rw [sn2];exact fP,fWY,fW,fl,fa⟩
       ·rw [decide_eq_false hin]
        have ad:YE now met[j]=now++[met[j]]:=if_neg hin
        rw [ad] at sn2
        refine Yh ⟨_,rfl,.inl ⟨rfl,_,SqL.of fPL⟩,_,rfl,PL,_,_,rfl,rfl,fPL,by rw [sizeLine_eq];omega,?_⟩
        have tv:=WV (o:=.lst (pv'++[.ref c])) fPL
        exact ⟨_,pv'++[.ref c],rfl,(Zy.upd (Zj.x sF)).same hPL,Zd,by rw [sn2];exact (fP.snoc gc).mono tv,by rw [Zo (Ne.symm dPW)];exact fWY,fW.mono tv fun b ys n1 _ e=>by rw [Zo n1];exact e,by rw [Zo nlP];exact fl,fa.mono tv⟩
      ·rintro σ F ⟨z11,pv',rfl,sF,fPL,fP,fWY,fW,fl,fa⟩
       rw [List.take_length] at fP
       have low:=li.le
       refine ⟨_,rfl,.inl ⟨rfl,_,SqL.of fWY⟩,_,rfl,WY,_,_,rfl,rfl,fWY,by rw [sizeLine_eq];omega,?_⟩
       have tv:=WV (o:=.lst (wv++[.ref l2])) fWY
       exact ⟨_,_,_,_,_,_,_,_,pv',wv++[.ref l2],Zi ps met,ons++[met],rfl,(Zy.upd (Zj.x sF)).same nWY,by rw [Zo dPW];exact fPL,fP.mono tv,Zd,(fW.mono tv fun b ys _ n2 e=>by rw [Zo n2];exact e).snoc nlP nlW (by rw [Zo nlW];exact fl) (fa.mono tv),li2,by rw [List.length_append];rfl⟩
   ·have hn:¬ (ons.length<ps.length∧ps.length<21):=fun q=>c2 (decide_eq_true (by omega))
    refine ⟨_,rfl,_,rfl,sz2,fun r hr=>?_⟩
    have sr:=Zf (o:=.tup [.ref PL,.ref WY]) hr
    exact k _ r PL WY pv wv ps ons (sH4.trans (sG.trans sr)) Zd (sr _ _ hPL1) (aP.mono fun b ys e=>sr _ _ e) (sr _ _ hWY1) (aW.mono (fun b ys e=>sr _ _ e) fun b ys _ _ e=>sr _ _ e) (li.stop hn)
  case rest1=>
   have hn:¬ (ons.length<ps.length∧ps.length<21):=fun q=>c1 (decide_eq_true (by omega))
   refine ⟨_,rfl,_,rfl,sz2,fun r hr=>?_⟩
   have sr:=Zf (o:=.tup [.ref PL,.ref WY]) hr
   exact k _ r PL WY pv wv ps ons (sH4.trans (sG.trans sr)) Zd (sr _ _ hPL1) (aP.mono fun b ys e=>sr _ _ e) (sr _ _ hWY1) (aW.mono (fun b ys e=>sr _ _ e) fun b ys _ _ e=>sr _ _ e) (li.stop hn)
def tAsgX (te:L2.St→Hp→VK→XK→Prop) (i:Nat):L2.Ends→XS→L2.St→Hp→Prop:=fun D E σ H=>te σ H (fun v H1=>D.nx (σ.set i (some v)) H1) (fun e c H1=>E e c σ H1)
theorem psx_set {X:Cx}{e:Expr}{pos pos':Pos}{i:Nat}{x:Str}{te:L2.St→Hp→VK→XK→Prop} (hN:X.N.Nodup) (hi:X.N[i]?=some x) (hx:Loc X.env.scope x) (h0:PEx X e te) (hs:swapsWith e (some (.Name x pos')) pos.line X.env=pure false:=by rfl) (hf:X.fn x=true∨X.env.scope.names.lookup x=some .local:=by first | exact .inl rfl | exact .inr rfl | assumption) :
  PSx X [.Assign [.Name x pos'] e pos] (tAsgX te i):=by
 intro pins s σ H D E I h
 refine wpAny_execs_cons (wpAny_Assign_Name (wpAny_mono (h0 pins s σ H _ _ I h) (fun v s1 h1=>?_) fun v s1 z=>?_) hs)
 ·obtain ⟨y,H1,I1,r1,q1⟩:=h1
  exact V0 I1 hN hi hx r1 (fun s2 I2=>wpAny_execs_nil ⟨_,H1,I2,q1⟩) hf
 ·exact xp_mono (fun e c σ' H' ⟨q1,q2⟩=>by subst q1;exact q2) z
def sp_beside (K:PySem.W.Frag) (a:Adr):Sp:=fun vs H Q _=>Uf K a vs H Q fun _ _ _=>False
theorem yb {P:Program}{w:World}{K:PySem.W.Frag}{mg:Str→Option Value}{base:Heap}{a:Adr} (T:Txt K mg a) (hw:w.params=a.Pm):Yy P w K mg base CX0 8 a.beside a.beside_fd ["machines", "fair"] (sp_beside K a):=fn_down (yl T hw)
theorem refs2 {a b:Addr}:∀ v∈[V.ref a,V.ref b],∃ C,v=V.ref C:=by
 intro v hv
 simp only [List.mem_cons,List.not_mem_nil,or_false] at hv
 rcases hv with h | h <;> exact ⟨_,h⟩
theorem vals2r {a b:Addr}:ZE [V.ref a,V.ref b] [.ref a,.ref b]:=.cons rfl (.cons rfl .nil)
def ToldEnd (a:Adr) (H:Hp) (f:V) (ms:List MM) (Q:VK):Option (List (List Int) × List (List Int))→Prop
 | none=>∀ H',Zj H H'→Q (.bl true) H'
 | some r=>∃ fs:List Str,LS H f fs∧fs.Nodup∧(∀ x∈fs,Zw x=true)∧fs.length≤3∧yp a H f ms Q (fun _ _ _=>True) (some r)
def yL (K:PySem.W.Frag) (a:Adr):Sp:=fun vs H Q _=>∃ p xs ms f,vs=[.ref p,f]∧H p=some (.lst xs)∧VF a.C_Machine H xs ms∧xs.length≤1000∧KdL H f∧1≤xs.length∧xs.length≤4∧Wc ms∧xt ms∧∀ ws,Y5 ws (Xq ms)→ToldEnd a H f ms Q (Vj ms ws 22 [ms.map fun m=>m.d.start] [])
theorem yR {P:Program}{w:World}{K:PySem.W.Frag}{mg:Str→Option Value}{base:Heap}{a:Adr} (T:Txt K mg a) (hw:w.params=a.Pm):Yy P w K mg base CX0 9 a._law_told a._law_told_fd ["_law_machines", "_law_fair_here"] (yL K a):=by
 have G_beside:=yb (P:=P) (w:=w) (base:=base) T hw
 have Z_beside:=yl (P:=P) (w:=w) (base:=base) T hw
 refine T.f__law_told.ok XT (fun vs H Q E h=>?_) (fun cdv A outer s H vs Q E hr h=>?_)
 ·obtain ⟨p,xs,ms,f,rfl,_⟩:=h
  rfl
 ·obtain ⟨p,xs,ms,f,rfl,hp,hm,hz,kf,c1,c2,tm,hk,k⟩:=h
  refine ⟨_,(@Ze _ _ _ _ _ (@Zt _ _ (2) _ _ _ _ XT.nd rfl (Or.inl rfl) yN (by rfl) (by first | exact .inl rfl | exact .inr rfl | assumption)) (@Ze _ _ _ _ _ (ps_try (i:=3) rfl rfl XT.nd rfl rfl rfl T.g_TooMany (psx_set (i:=2) XT.nd rfl (by first | exact Or.inl rfl | exact Or.inr rfl) (pex_call Z_beside (hr.mono (by decide)) rfl T.g_beside T.f_beside.kp T.n_beside (@Za _ _ _ _ _ (pv 0) (@Za _ _ _ _ _ (pv 1) Zb (by rfl)) (by rfl)))) (fun _=>(@Zh _ _ _ (@Zt _ _ (2) _ _ _ _ XT.nd rfl (Or.inl rfl) (Wl (Zk (vh (K:=K) rfl (c:=.ref a.C_TimeError) (.inl ⟨_,rfl⟩)) rfl T.b_isinstance PyProof.Rows.Boot.«isinstance» (@Za _ _ _ _ _ (pv 3) (@Za _ _ _ _ _ (W9 (v:=.ref a.C_TimeError) rfl ⟨_,T.g_TimeError,rfl⟩) Zb (by rfl)) (by rfl))) (Wl (Zk (vh (K:=K) rfl (c:=.ty "ValueError") (.inr ⟨_,rfl⟩)) rfl T.b_isinstance PyProof.Rows.Boot.«isinstance» (@Za _ _ _ _ _ (pv 3) (@Za _ _ _ _ _ (Xp (v:=.ty "ValueError") rfl T.b_ValueError PyProof.Rows.Boot.«ValueError» rfl) Zb (by rfl)) (by rfl))) (XF (pe_not (Zk (call_isXT (K:=K) rfl (cs:=[.ref a.C_BadMachine,.ref a.C_BadWorld]) (ws:=[.ref a.C_BadMachine,.ref a.C_BadWorld]) refs2 vals2r) rfl T.b_isinstance PyProof.Rows.Boot.«isinstance» (@Za _ _ _ _ _ (pv 3) (@Za _ _ _ _ _ (@Wb _ _ _ _ _ (@Za _ _ _ _ _ (W9 (v:=.ref a.C_BadMachine) rfl ⟨_,T.g_BadMachine,rfl⟩) (@Za _ _ _ _ _ (W9 (v:=.ref a.C_BadWorld) rfl ⟨_,T.g_BadWorld,rfl⟩) Zb (by rfl)) (by rfl))) Zb (by rfl)) (by rfl))))))) (by rfl) (by first | exact .inl rfl | exact .inr rfl | assumption))))) (@Zh _ _ _ (@Zx _ _ _ _ (pv 2))))),?_⟩
  refine ⟨_,rfl,_,rfl,p,xs,ms,f,rfl,hp,hm,hz,kf,fun c0=>absurd ⟨c1,c2⟩ c0,fun _ _=>⟨tm,hk,fun ws hs=>?_⟩⟩
  have kk:=k ws hs
  cases hrun:Vj ms ws 22 [ms.map fun m=>m.d.start] [] with
  | none=>
   rw [hrun] at kk
   intro H2 e s2
   refine ⟨e,a.C_TooMany,rfl,rfl,T.ex_TooMany,fun he=>?_⟩
   obtain ⟨H3,qN,s3,h3⟩:=YQ (o:=XcO e a.C_TooMany) he
   rw [qN];clear qN
   refine ⟨.ref e,rfl,e,a.C_TooMany,_,true,rfl,h3,T.k_TooMany,rfl,T.i1_TooMany,true,rfl,Yh ⟨.ref e,rfl,e,a.C_TooMany,_,true,rfl,h3,T.k_TooMany,rfl,T.i3_TooMany,true,rfl,Yh ⟨.ref e,rfl,sz2,fun tp htp=>⟨e,a.C_TooMany,tp,false,rfl,Zf htp _ _ h3,T.k_TooMany,Zd,T.n2_TooMany,_,rfl,?_⟩⟩⟩⟩
   exact ⟨_,rfl,kk _ (s2.trans (s3.trans (Zf htp)))⟩
  | some r=>
   rw [hrun] at kk
   obtain ⟨fs,lf,nd,nm,l3,kb⟩:=kk
   obtain ⟨ps,ways⟩:=r
   refine ⟨fun hb=>?_,fun fs2 lf2 nd2 nm2 l32 H' r o L pv d q1 q2 q3 q4 q5 q6 q7 q8 q9 q10 q11 q12=>⟨_,rfl,kb.2 fs2 lf2 nd2 nm2 l32 H' r o L pv d q1 q2 q3 q4 q5 q6 q7 q8 q9 q10 q11 q12⟩⟩
   exfalso
   rw [lf.names nd nm] at hb
   obtain ⟨b,rfl,g⟩:=lf
   rw [Z2 g] at hb
   have:few3 (some (fs.map V.str))=true:=by show decide ((fs.map V.str).length≤3)=true;rw [List.length_map];exact decide_eq_true l3
   rw [this] at hb
   cases hb
def xE (K:PySem.W.Frag) (a:Adr):Sp:=fun vs H Q _=>∃ (p:Addr) (c:Int) (n0 n1 n2:Str),vs=[.ref p,.int c]∧H p=some (.lst [.str n0,.str n1,.str n2])∧(∀ x∈[n0,n1,n2],Zw x=true∧x ≠ "zyx")∧[n0,n1,n2].Nodup∧∀ H' l (fs:List Str),Zj H H'→H l=none→H' l=some (.lst (fs.map V.str))→fs.Nodup→(∀ x∈fs,Zw x=true)→fs.length≤3→Q (.ref l) H'
theorem xy {P:Program}{w:World}{K:PySem.W.Frag}{mg:Str→Option Value}{base:Heap}{a:Adr} (T:Txt K mg a) (hw:w.params=a.Pm):Yy P w K mg base CX0 1 a._law_fair a._law_fair_fd ["_law_names_here", "_law_cell"] (xE K a):=by
 refine T.f__law_fair.ok xb (fun vs H Q E h=>?_) (fun cdv A outer s H vs Q E hr h=>?_)
 ·obtain ⟨p,c,n0,n1,n2,rfl,_⟩:=h
  rfl
 ·obtain ⟨p,c,n0,n1,n2,rfl,hp,hn,nd,k⟩:=h
  refine ⟨_,(@Zh _ _ _ (@Zx _ _ _ _ (@ZH _ _ _ _ _ _ _ (ZM (K:=K) rfl) (@ZR _ _ _ _ (@Z9 _ _ _ _ _ (@ZR _ _ _ _ Zb) (@Z9 _ _ _ _ _ (@ZR _ _ _ _ (@Za _ _ _ _ _ (@ZH _ _ _ _ _ _ _ (ZM (K:=K) rfl) (pv 0) Zg (fun _ _=>rfl)) Zb (by rfl))) (@Z9 _ _ _ _ _ (@ZR _ _ _ _ (@Za _ _ _ _ _ (@ZH _ _ _ _ _ _ _ (ZM (K:=K) rfl) (pv 0) Zg (fun _ _=>rfl)) (@Za _ _ _ _ _ (@ZH _ _ _ _ _ _ _ (ZM (K:=K) rfl) (pv 0) Zg (fun _ _=>rfl)) Zb (by rfl)) (by rfl))) (@Z9 _ _ _ _ _ (@ZR _ _ _ _ (@Z9 _ _ _ _ _ (@ZH _ _ _ _ _ _ _ (ZM (K:=K) rfl) (pv 0) Zg (fun _ _=>rfl)) (@Z9 _ _ _ _ _ Xm (@Z9 _ _ _ _ _ (@ZH _ _ _ _ _ _ _ (ZM (K:=K) rfl) (pv 0) Zg (fun _ _=>rfl)) Zb (by rfl)) (by rfl)) (by rfl))) Zb (by rfl)) (by rfl)) (by rfl)) (by rfl))) (@ZC _ _ _ _ _ _ _ _ Xn (pv 1) Zg) (fun _ _=>rfl)))),?_⟩
  refine ⟨sz0,fun l0 h0=>?_⟩
  obtain ⟨H0,qN,s0,e0⟩:=YQ (o:=.lst []) h0
  rw [qN];clear qN
  refine ⟨_,rfl,p,_,_,_,rfl,rfl,SqL.of (s0 _ _ hp),rfl,sz1,fun l1 h1=>?_⟩
  obtain ⟨H1,qN,s1,e1⟩:=YQ (o:=.lst [.str n0]) h1
  rw [qN];clear qN
  have t1:=s0.trans s1
  refine ⟨_,rfl,p,_,_,_,rfl,rfl,SqL.of (t1 _ _ hp),rfl,_,rfl,p,_,_,_,rfl,rfl,SqL.of (t1 _ _ hp),rfl,sz2,fun l2 h2=>?_⟩
  obtain ⟨H2,qN,s2,e2⟩:=YQ (o:=.lst [.str n2,.str n0]) h2
  rw [qN];clear qN
  have t2:=t1.trans s2
  refine ⟨_,rfl,p,_,_,_,rfl,rfl,SqL.of (t2 _ _ hp),rfl,_,rfl,p,_,_,_,rfl,rfl,SqL.of (t2 _ _ hp),rfl,sz3,fun l3 h3=>?_⟩
  obtain ⟨H3,qN,s3,e3⟩:=YQ (o:=.lst [.str n1,.str "zyx",.str n2]) h3
  rw [qN];clear qN
  have t3:=t2.trans s3
  refine ⟨sz4,fun l4 h4=>?_⟩
  obtain ⟨H4,qN,s4,e4⟩:=YQ (o:=.lst [.ref l0,.ref l1,.ref l2,.ref l3]) h4
  rw [qN];clear qN
  have t4:=t3.trans s4
  have m0:=Int.emod_nonneg c (show (4:Int)≠0 by decide)
  have m1:=Int.emod_lt_of_pos c (show (0:Int)<4 by decide)
  have cs:c % 4=0∨c % 4=1∨c % 4=2∨c % 4=3:=by omega
  simp only [List.mem_cons,List.not_mem_nil,or_false,forall_eq_or_imp,forall_eq] at hn
  simp only [List.nodup_cons,List.mem_cons,List.not_mem_nil,or_false,not_or,not_false_eq_true,List.nodup_nil,and_true] at nd
  obtain ⟨⟨a0,b0⟩,⟨a1,b1⟩,a2,b2⟩:=hn
  obtain ⟨⟨d01,d02⟩,d12⟩:=nd
  refine ⟨_,rfl,_,_,rfl,rfl,by decide,?_⟩
  have z1:Zw "zyx" = true:=by decide
  rcases cs with q | q | q | q
  ·exact ⟨l4,_,_,.ref l0,rfl,rfl,SqL.of e4,by rw [q];rfl,k H4 l0 [] t4 h0 ((s1.trans (s2.trans (s3.trans s4))) _ _ e0) (by simp) (fun x hx=>by cases hx) (by decide)⟩
  ·exact ⟨l4,_,_,.ref l1,rfl,rfl,SqL.of e4,by rw [q];rfl,k H4 l1 [n0] t4 (s0.free h1) ((s2.trans (s3.trans s4)) _ _ e1) (by simp) (fun x hx=>by cases List.mem_singleton.mp hx;exact a0) (show 1≤3 by decide)⟩
  ·exact ⟨l4,_,_,.ref l2,rfl,rfl,SqL.of e4,by rw [q];rfl,k H4 l2 [n2,n0] t4 (t1.free h2) ((s3.trans s4) _ _ e2) (by simp;exact fun e=>d02 e.symm) (by simp;exact ⟨a2,a0⟩) (show 2≤3 by decide)⟩
  ·exact ⟨l4,_,_,.ref l3,rfl,rfl,SqL.of e4,by rw [q];rfl,k H4 l3 [n1, "zyx",n2] t4 (t2.free h3) (s4 _ _ e3) (by simp only [List.nodup_cons,List.mem_cons,List.not_mem_nil,or_false,not_or,not_false_eq_true,List.nodup_nil,and_true];exact ⟨⟨b1,d12⟩,fun e=>b2 e.symm⟩) (by simp only [List.mem_cons,List.not_mem_nil,or_false,forall_eq_or_imp,forall_eq];exact ⟨a1,z1,a2⟩) (show 3≤3 by decide)⟩
end KK
namespace L3
open PySem PySem.Spec PyProof.Rows L2
section
variable {X:Cx}
theorem op_isB:OpR X (compareOp .Is) (fun x y H Q=>∃ c d,x=.bl c∧y=.bl d∧Q (.bl (c == d)) H):=by
 intro pins s σ H x y v u Q I rx ry h
 obtain ⟨c,d,rfl,rfl,q⟩:=h
 cases rx
 cases ry
 exact is_bool ⟨.bl _,H,I,rfl,q⟩
theorem xV:∀ {p q:List Int},p.map V.int=q.map V.int→p=q
 | [],[],_=>rfl
 | [],_ :: _,h=>by cases h
 | _ :: _,[],h=>by cases h
 | x :: r,y :: s,h=>by
  simp only [List.map_cons,List.cons.injEq,V.int.injEq] at h
  rw [h.1,xV h.2]
theorem yJ:∀ {ps:List (List Int)}{q:List Int},q∈ps→ps[ps.idxOf q]?=some q∧∀ m,m<ps.idxOf q→ps[m]?≠some q
 | [],_,h=>by cases h
 | x :: r,q,h=>by
  by_cases c:x=q
  ·have e:(x :: r).idxOf q=0:=by rw [List.idxOf_cons,c];simp
   rw [e,c]
   exact ⟨rfl,fun m hm=>absurd hm (Nat.not_lt_zero _)⟩
  ·have e:(x :: r).idxOf q=r.idxOf q+1:=by rw [List.idxOf_cons,beq_false_of_ne c];rfl
   have hr:q∈r:=by
    rcases List.mem_cons.mp h with h | h
    ·exact absurd h.symm c
    ·exact h
   obtain ⟨h1,h2⟩:=yJ hr
   rw [e]
   refine ⟨by rw [List.getElem?_cons_succ];exact h1,fun m hm=>?_⟩
   cases m with
   | zero=>exact fun z=>c (Option.some.inj z)
   | succ k=>rw [List.getElem?_cons_succ];exact h2 k (by omega)
inductive zO (x:V) (vs:List V) (H:Hp) (Q:VK):Prop
 | mk (l b:Addr) (xs:List V) (ps:List (List Int)) (q:List Int) (h0:x=.ref l) (h1:vs=[.ref b]) (h2:H l=some (.lst xs)) (h3:PlsAt H xs ps) (h4:H b=some (.tup (q.map V.int))) (h5:q∈ps) (h6:Q (.int (ps.idxOf q:Nat)) H):zO x vs H Q
def rIndexP:V→List V→Hp→VK→Prop:=fun x vs H Q=>zO x vs H Q
open Classical in
theorem mt_indexP (hu:X.A.units+64<cLine):MtM X "list.index" rIndexP:=by
 intro pins s σ H x vs v us Q I rx rv h
 obtain ⟨l,b0,xs,ps,q0,rfl,rfl,hH,nx,hb0,hin,q⟩:=h
 cases rx
 obtain ⟨u,rfl,ru⟩:=rv.one
 obtain ⟨z,its,n,r,hl,e⟩:=I.lstM hH
 have lx:=nx.1
 have li:=r.length
 obtain ⟨i1,i2⟩:=yJ hin
 generalize ps.idxOf q0=j at i1 i2 q
 have hjl:j<its.length:=by have:=(List.getElem?_eq_some_iff.mp i1).1;omega
 have at_:∀ m (hm:m<its.length),∃ dm bm,ps[m]?=some dm∧its[m]=Value.ref bm∧H bm=some (.tup (dm.map V.int)):=fun m hm=>by
  have hmx:m<xs.length:=by omega
  have hmp:m<ps.length:=by omega
  obtain ⟨bm,e1,e2⟩:=nx.2 m _ _ (List.getElem?_eq_getElem hmx) (List.getElem?_eq_getElem hmp)
  obtain ⟨um,hum,rum⟩:=r.get (List.getElem?_eq_getElem hmx)
  have em:its[m]=um:=(List.getElem?_eq_some_iff.mp hum).2
  rw [e1] at rum
  exact ⟨_,bm,List.getElem?_eq_getElem hmp,by rw [em];exact rum,e2⟩
 have key:∀ bm dm,H bm=some (.tup (dm.map V.int))→(decide (∃ b',Value.ref bm=Value.ref b'∧H b'=some (.tup (q0.map V.int)))=decide (dm=q0)):=fun bm dm h=>by
  by_cases c:dm=q0
  ·rw [decide_eq_true c];exact decide_eq_true ⟨bm,rfl,by rw [h,c]⟩
  ·rw [decide_eq_false c]
   refine decide_eq_false fun ⟨b',e1,e2⟩=>c ?_
   cases e1
   rw [h] at e2
   have e3:dm.map V.int=q0.map V.int:=by injection e2 with e2;injection e2
   exact xV e3
 refine call_meets PySem.F.slot_list_index ⟨_,e,rfl⟩ PySem.F.entry_list_index (PySem.F.args_list_index_2 _ _) (SeqAt.list_indexAt l its.toArray n none #[] u (fun w=>decide (∃ b',w=Value.ref b'∧H b'=some (.tup (q0.map V.int)))) j (by simpa using hjl) (by rw [sizeLine_eq] at z;omega) ?_ ?_) ⟨e,?_,?_⟩
 ·obtain ⟨dm,bm,e1,e2,e3⟩:=at_ j hjl
  rw [i1] at e1;cases e1
  have:its.toArray[j]'(by simpa using hjl)=Value.ref bm:=by simpa using e2
  rw [this,key bm _ e3];exact decide_eq_true rfl
 ·intro m hm hmj
  have hm':m<its.length:=by simpa using hm
  obtain ⟨dm,bm,e1,e2,e3⟩:=at_ m hm'
  have:its.toArray[m]'hm=Value.ref bm:=by simpa using e2
  rw [this,key bm _ e3]
  exact decide_eq_false fun c=>i2 m hmj (by rw [e1,c])
 ·intro b hb
  have hb':b∈its:=by simpa using hb
  obtain ⟨m,hm,em⟩:=List.getElem_of_mem hb'
  obtain ⟨dm,bm,e1,e2,e3⟩:=at_ m hm
  rw [em] at e2
  subst e2
  obtain ⟨as,ra⟩:=(yO e3:Dp X.K H (.ref bm) (XN dm)).reads I rfl
  obtain ⟨bs,rb⟩:=(yO hb0:Dp X.K H (.ref b0) (XN q0)).reads I ru
  have f1:=Ub dm
  have f2:=Ub q0
  have:=SeqAt.eqAt_reads _ _ X.A.in1 s _ u as bs ra rb f1.1 f2.1 (by simp only [Around.in1_units];have:=f1.2;have:=Nat.min_le_left (XN dm).depth (XN q0).depth;omega)
  have ee:PyData.eqv (XN dm) (XN q0)=decide (∃ b',Value.ref bm=Value.ref b'∧H b'=some (.tup (q0.map V.int))):=by rw [y9,key bm _ e3]
  rw [← ee]
  exact this
 ·exact ⟨.int (j:Nat),H,I.tok _,⟨_,rfl⟩,q⟩
inductive rIsTu_R (K:PySem.W.Frag) (xs:List V) (H:Hp) (Q:VK):Prop
 | mk (a:Addr) (ys:List V) (h0:xs=[.ref a,.ty "tuple"]) (h1:SqT K H a ys) (h2:Q (.bl true) H):rIsTu_R K xs H Q
def rIsTu (K:PySem.W.Frag):List V→Hp→VK→Prop:=fun xs H Q=>rIsTu_R K xs H Q
theorem call_isTu {K:PySem.W.Frag} (hK:X.K=K):Ys X (.builtin "isinstance") (rIsTu K):=by
 subst hK
 intro pins s σ H xs us Q I r h
 obtain ⟨a,ys,rfl,hq,q⟩:=h
 obtain ⟨u,v,rfl,ru,rv⟩:=UW r
 obtain rfl:v=Value.type "tuple" := rv
 obtain rfl:u=Value.ref a:=ru
 obtain ⟨its,r,⟨o,h1,h2,h3⟩,hz⟩:=I.tuple hq
 exact PySem.W.kia_one (b:=true) PySem.W.kitx_tuple I.kIn ⟨o,h1,h2⟩ rfl (fun z=>nomatch z) fun tk=>⟨.bl true,H,I.tok _,rfl,q⟩
end
end L3
namespace KK
open PySem PySem.Spec L2 L3
theorem vN:∀ {p q:List Str},p.map V.str=q.map V.str→p=q
 | [],[],_=>rfl
 | [],_ :: _,h=>by cases h
 | _ :: _,[],h=>by cases h
 | x :: r,y :: s,h=>by
  simp only [List.map_cons,List.cons.injEq,V.str.injEq] at h
  rw [h.1,vN h.2]
theorem LS.one {H:Hp}{l:Addr}{fs gs:List Str} (h:H l=some (.lst (fs.map V.str))) (g:LS H (.ref l) gs):gs=fs:=by
 obtain ⟨b,e,g⟩:=g
 cases e
 rw [h] at g
 have e3:fs.map V.str=gs.map V.str:=by injection g with g;injection g
 exact (vN e3).symm
theorem WZ:∀ {ss cur:List Str},ss.Nodup→Zi cur ss=cur++ss.filter fun x=>!decide (x∈cur)
 | [],cur,_=>(List.append_nil cur).symm
 | x :: r,cur,nd=>by
  rw [List.nodup_cons] at nd
  show Zi (YE cur x) r=_
  by_cases h:x∈cur
  ·rw [XC h,List.filter_cons,decide_eq_true h,WZ nd.2];rfl
  ·have ad:YE cur x=cur++[x]:=if_neg h
   rw [ad,List.filter_cons,decide_eq_false h,WZ nd.2,List.append_assoc]
   congr 1
   show [x]++_=[x]++_
   congr 1
   refine List.filter_congr fun y hy=>?_
   have:(y∈cur++[x])=(y∈cur):=by
    rw [List.mem_append,List.mem_singleton]
    exact propext ⟨fun q=>q.elim id fun e=>absurd (e ▸ hy) nd.1,.inl⟩
   simp only [this]
theorem LS.fits {H:Hp}{f:V}{fs:List Str} (lf:LS H f fs) (nd:fs.Nodup) (nm:∀ x∈fs,Zw x=true) (l3:fs.length≤3):(Zu H f && few3 (YO H f))=true:=by
 rw [lf.names nd nm]
 obtain ⟨b,rfl,g⟩:=lf
 rw [Z2 g]
 show decide ((fs.map V.str).length≤3)=true
 rw [List.length_map]
 exact decide_eq_true l3
theorem jk:YX [0]=[0]:=by unfold YX;simp
def zD (K:PySem.W.Frag) (a:Adr):Sp:=fun vs H Q _=>∃ (ps pm:Addr) (xs ys:List V) (ms:List MM) (f:Addr) (fs:List Str),vs=[.ref ps,.ref pm,.ref f]∧H ps=some (.lst xs)∧zh H xs ms∧H pm=some (.lst ys)∧VF a.C_Machine H ys ms∧Wc ms∧H f=some (.lst (fs.map V.str))∧fs.Nodup∧(∀ x∈fs,Zw x=true)∧fs.length≤3∧∀ H',Zj H H'→Q (.bl true) H'
theorem zw {P:Program}{w:World}{K:PySem.W.Frag}{mg:Str→Option Value}{base:Heap}{a:Adr} (T:Txt K mg a) (hw:w.params=a.Pm):Yy P w K mg base CX0 10 a._law_right a._law_right_fd ["_law_specs", "_law_machines", "_law_fair_here"] (zD K a):=by
 have G_World_many:=zH (P:=P) (w:=w) (base:=base) T hw
 have G_World_signs_of:=Ui (P:=P) (w:=w) (base:=base) T hw
 have G_World_ways_on:=Uq (P:=P) (w:=w) (base:=base) T hw
 have G_World_begins:=UX (P:=P) (w:=w) (base:=base) T hw
 have G_World_fair_signs:=VC (P:=P) (w:=w) (base:=base) T hw
 have G_beside:=yb (P:=P) (w:=w) (base:=base) T hw
 have G__law_beside:=qy (P:=P) (w:=w) (base:=base) T hw
 have G__law_told:=yR (P:=P) (w:=w) (base:=base) T hw
 refine T.f__law_right.ok ZY (fun vs H Q E h=>?_) (fun cdv A outer s H vs Q E hr h=>?_)
 ·obtain ⟨ps,pm,xs,ys,ms,f,fs,rfl,_⟩:=h
  rfl
 ·obtain ⟨ps,pm,xs,ys,ms,f,fs,rfl,hps,hsp,hpm,hma,tm,hf,nd,nm,l3,k⟩:=h
  refine ⟨_,(@Ze _ _ _ _ _ (ps_asg (ZA G__law_beside (hr.mono (by decide)) rfl T.g__law_beside T.f__law_beside.kp T.n__law_beside .nil Z4 (@Za _ _ _ _ _ (pv 0) Zb (by rfl))) (XU (K:=K) (n:=2) rfl rfl (ZF (Zm (i:=3) ZY.nd rfl (Or.inr rfl)) (ZF (Zm (i:=4) ZY.nd rfl (Or.inl rfl)) XX)))) (@Ze _ _ _ _ _ (@Zt _ _ (5) _ _ _ _ ZY.nd rfl (Or.inl rfl) (ZA G__law_told (hr.mono (by decide)) rfl T.g__law_told T.f__law_told.kp T.n__law_told .nil Z4 (@Za _ _ _ _ _ (Zr (Yr (K:=K) rfl rfl) rfl T.b_list PyProof.Rows.Boot.«list» (@Za _ _ _ _ _ (pv 1) Zb (by rfl))) (@Za _ _ _ _ _ (Zr (Yr (K:=K) rfl rfl) rfl T.b_list PyProof.Rows.Boot.«list» (@Za _ _ _ _ _ (pv 2) Zb (by rfl))) Zb (by rfl)) (by rfl))) (by rfl) (by first | exact .inl rfl | exact .inr rfl | assumption)) (@Ze _ _ _ _ _ (@YF _ _ _ _ _ _ _ _ (@ZJ _ _ _ _ _ _ _ _ op_gt (Zk (Zv (K:=K) rfl) rfl T.b_len PyProof.Rows.Boot.«len» (@Za _ _ _ _ _ (pv 3) Zb (by rfl))) Zg (ZW _)) (@Zh _ _ _ (@Zx _ _ _ _ (Wl (@XQ _ _ _ _ _ _ _ _ op_isB (pv 5) Xz (ZW _)) (XF (@XQ _ _ _ _ _ _ _ _ op_isB (ZA G__law_told (hr.mono (by decide)) rfl T.g__law_told T.f__law_told.kp T.n__law_told .nil Z4 (@Za _ _ _ _ _ (Zr (Yr (K:=K) rfl rfl) rfl T.b_list PyProof.Rows.Boot.«list» (@Za _ _ _ _ _ (pv 1) Zb (by rfl))) (@Za _ _ _ _ _ (@ZR _ _ _ _ (@Za _ _ _ _ _ Xm Zb (by rfl))) Zb (by rfl)) (by rfl))) Xz (ZW _)))))) ZL) (@Ze _ _ _ _ _ (@YF _ _ _ _ _ _ _ _ (PW.pt (Wt (@YM _ _ _ _ (Xa (Zk (call_isTu (K:=K) rfl) rfl T.b_isinstance PyProof.Rows.Boot.«isinstance» (@Za _ _ _ _ _ (pv 5) (@Za _ _ _ _ _ (Xp (v:=.ty "tuple") rfl T.b_tuple PyProof.Rows.Boot.«tuple» rfl) Zb (by rfl)) (by rfl))))) (Wt (@ZJ _ _ _ _ _ _ _ _ op_ne (Zk (Zv (K:=K) rfl) rfl T.b_len PyProof.Rows.Boot.«len» (@Za _ _ _ _ _ (pv 5) Zb (by rfl))) Zg (ZW _)) (Wt (@ZJ _ _ _ _ _ _ _ _ (Vu (K:=K) rfl (Y0.units hr)) (@ZH _ _ _ _ _ _ _ (Z0 (K:=K) rfl) (pv 5) Zg (fun _ _=>rfl)) (pv 3) (ZW _)) (Wn (@YM _ _ _ _ (Xa (Zk (vg (K:=K) rfl a.C_World) rfl T.b_isinstance PyProof.Rows.Boot.«isinstance» (@Za _ _ _ _ _ (@ZH _ _ _ _ _ _ _ (Z0 (K:=K) rfl) (pv 5) Zg (fun _ _=>rfl)) (@Za _ _ _ _ _ (W9 (v:=.ref a.C_World) rfl ⟨_,T.g_World,rfl⟩) Zb (by rfl)) (by rfl)))))))))) (@Zh _ _ _ (@Zx _ _ _ _ Xz)) ZL) (@Ze _ _ _ _ _ (@Zt _ _ (6) _ _ _ _ ZY.nd rfl (Or.inl rfl) (@ZH _ _ _ _ _ _ _ (Z0 (K:=K) rfl) (pv 5) Zg (fun _ _=>rfl)) (by rfl) (by first | exact .inl rfl | exact .inr rfl | assumption)) (@Ze _ _ _ _ _ (@YF _ _ _ _ _ _ _ _ (PW.pt (Wt (@ZJ _ _ _ _ _ _ _ _ op_ne (Vm (pv 6) T.cl_World T.m_World_many G_World_many (hr.mono (by first | decide | omega)) T.n_World_many .nil Z4) (Zk (Zv (K:=K) rfl) rfl T.b_len PyProof.Rows.Boot.«len» (@Za _ _ _ _ _ (pv 3) Zb (by rfl))) (ZW _)) (Wt (@ZJ _ _ _ _ _ _ _ _ (Vu (K:=K) rfl (Y0.units hr)) (Vm (pv 6) T.cl_World T.m_World_begins G_World_begins (hr.mono (by first | decide | omega)) T.n_World_begins .nil Z4) (@ZR _ _ _ _ (@Za _ _ _ _ _ Zg Zb (by rfl))) (ZW _)) (Wn (@ZJ _ _ _ _ _ _ _ _ (Vu (K:=K) rfl (Y0.units hr)) (Vm (pv 6) T.cl_World T.m_World_fair_signs G_World_fair_signs (hr.mono (by first | decide | omega)) T.n_World_fair_signs .nil Z4) (pv 2) (ZW _)))))) (@Zh _ _ _ (@Zx _ _ _ _ Xz)) ZL) (@Ze _ _ _ _ _ (Xo PassesOwn.never rfl (Wf rfl T.b_range (@Za _ _ _ _ _ (Zk (Zv (K:=K) rfl) rfl T.b_len PyProof.Rows.Boot.«len» (@Za _ _ _ _ _ (pv 3) Zb (by rfl))) Zb (by rfl))) (Zm (i:=7) ZY.nd rfl (Or.inl rfl)) (@Ze _ _ _ _ _ (@Zt _ _ (8) _ _ _ _ ZY.nd rfl (Or.inr rfl) (@ZR _ _ _ _ Zb) (by rfl) (by first | exact .inl rfl | exact .inr rfl | assumption)) (@Ze _ _ _ _ _ (Xo PassesOwn.never rfl (qk (K:=K) rfl rfl T.b_zip (@Za _ _ _ _ _ (pv 0) (@Za _ _ _ _ _ (@ZH _ _ _ _ _ _ _ (ZM (K:=K) rfl) (pv 3) (pv 7) (fun _ _=>rfl)) Zb (by rfl)) (by rfl))) (XU (K:=K) (n:=2) rfl rfl (ZF (Zm (i:=9) ZY.nd rfl (Or.inl rfl)) (ZF (Zm (i:=10) ZY.nd rfl (Or.inl rfl)) XX))) (@Zh _ _ _ (@Zt _ _ (8) _ _ _ _ ZY.nd rfl (Or.inr rfl) (@ZC _ _ _ _ _ _ _ _ qI (pv 8) (ZV (Nc:=["_law_name", "_law_signs"]) (ix:=[none,some 8]) (ZD.of (by decide +kernel:ZK (Zc Yk) ["_law_specs", "_law_machines", "_law_fair_here", "_law_places", "_law_ways", "_law_found", "_law_world", "_law_k", "_law_signs", "_law_one", "_law_room", "_law_other", "_law_again"] ["_law_name", "_law_signs"] [none,some 8] _=true)) rfl (Zq (K:=K) rfl (@ZH _ _ _ _ _ _ _ (ZM (K:=K) rfl) (@ZH _ _ _ _ _ _ _ (Z0 (K:=K) rfl) (pv 9) Zg (fun _ _=>rfl)) (pv 10) (fun _ _=>rfl))) (fun _ _ _ _ _=>(Zm (i:=0) (show List.Nodup (["_law_name", "_law_signs"]:List Str) by decide +kernel) rfl (Or.inl rfl))) (fun _ _ _ _ _=>(qg (@ZJ _ _ _ _ _ _ _ _ (Ut (K:=K) rfl) (pv 0) (pv 1) (by with_unfolding_all rfl)))) (fun _ _ _ _ _=>(pv 0)))) (by rfl) (by first | exact .inl rfl | exact .inr rfl | assumption)))) (@Zh _ _ _ (@YF _ _ _ _ _ _ _ _ (PW.pt (Wt (@ZJ _ _ _ _ _ _ _ _ (Vu (K:=K) rfl (Y0.units hr)) (xB (pv 6) T.cl_World T.m_World_signs_of G_World_signs_of (hr.mono (by decide)) T.n_World_signs_of .nil Z4 (@Za _ _ _ _ _ (pv 7) Zb (by rfl))) (Zk (Xu (K:=K) rfl) rfl T.b_sorted PyProof.Rows.Boot.«sorted» (@Za _ _ _ _ _ (pv 8) Zb (by rfl))) (ZW _)) (Wn (@ZJ _ _ _ _ _ _ _ _ (Vu (K:=K) rfl (Y0.units hr)) (xB (pv 6) T.cl_World T.m_World_ways_on G_World_ways_on (hr.mono (by decide)) T.n_World_ways_on .nil Z4 (@Za _ _ _ _ _ (pv 7) Zb (by rfl))) (Zk (Xu (K:=K) rfl) rfl T.b_sorted PyProof.Rows.Boot.«sorted» (@Za _ _ _ _ _ (ZV (Nc:=["_law_on", "_law_places"]) (ix:=[none,some 3]) (ZD.of (by decide +kernel:ZK (Zc Yk) ["_law_specs", "_law_machines", "_law_fair_here", "_law_places", "_law_ways", "_law_found", "_law_world", "_law_k", "_law_signs", "_law_one", "_law_room", "_law_other", "_law_again"] ["_law_on", "_law_places"] [none,some 3] _=true)) rfl (Zq (K:=K) rfl (@ZH _ _ _ _ _ _ _ (ZM (K:=K) rfl) (pv 4) (pv 7) (fun _ _=>rfl))) (fun _ _ _ _ _=>(Zm (i:=0) (show List.Nodup (["_law_on", "_law_places"]:List Str) by decide +kernel) rfl (Or.inl rfl))) (fun _ _ _ _ _=>ZT) (fun _ _ _ _ _=>(PE.bmK (K:=K) rfl (Wu PySem.F.plainAttrs_list PySem.F.slot_list_index PySem.F.type_list_index (mt_indexP (Y0.units hr)) (pv 1) (@Za _ _ _ _ _ (pv 0) Zb (by rfl)))))) Zb (by rfl))) (ZW _))))) (@Zh _ _ _ (@Zx _ _ _ _ Xz)) ZL))))) (@Ze _ _ _ _ _ (@Y9 _ _ _ _ (pe_bm0 PySem.F.plainAttrs_list PySem.F.slot_list_clear PySem.F.type_list_clear qT (@ZH _ _ _ _ _ _ _ (Z0 (K:=K) rfl) (pv 5) Zg (fun _ _=>rfl))) (by rfl)) (@Ze _ _ _ _ _ (@Zt _ _ (11) _ _ _ _ ZY.nd rfl (Or.inl rfl) (@ZR _ _ _ _ Zb) (by rfl) (by first | exact .inl rfl | exact .inr rfl | assumption)) (WP (@YF _ _ _ _ _ _ _ _ (@ZJ _ _ _ _ _ _ _ _ (qj (K:=K) rfl (Y0.units hr)) (pv 2) (@ZR _ _ _ _ Zb) (ZW _)) (@Zh _ _ _ (@Zt _ _ (11) _ _ _ _ ZY.nd rfl (Or.inl rfl) (@ZR _ _ _ _ (@Za _ _ _ _ _ Xm (@Za _ _ _ _ _ Xm Zb (by rfl)) (by rfl))) (by rfl) (by first | exact .inl rfl | exact .inr rfl | assumption))) ZL) (@Ze _ _ _ _ _ (@YF _ _ _ _ _ _ _ _ (@ZJ _ _ _ _ _ _ _ _ (Vu (K:=K) rfl (Y0.units hr)) (Vm (@ZH _ _ _ _ _ _ _ (Z0 (K:=K) rfl) (ZA G_beside (hr.mono (by decide)) rfl T.g_beside T.f_beside.kp T.n_beside .nil Z4 (@Za _ _ _ _ _ (Zr (Yr (K:=K) rfl rfl) rfl T.b_list PyProof.Rows.Boot.«list» (@Za _ _ _ _ _ (pv 1) Zb (by rfl))) (@Za _ _ _ _ _ (Zr (Yr (K:=K) rfl rfl) rfl T.b_list PyProof.Rows.Boot.«list» (@Za _ _ _ _ _ (pv 11) Zb (by rfl))) Zb (by rfl)) (by rfl))) Zg (fun _ _=>rfl)) T.cl_World T.m_World_fair_signs G_World_fair_signs (hr.mono (by first | decide | omega)) T.n_World_fair_signs .nil Z4) (pv 11) (ZW _)) (@Zh _ _ _ (@Zx _ _ _ _ Xz)) ZL) (@Ze _ _ _ _ _ (@Zt _ _ (12) _ _ _ _ ZY.nd rfl (Or.inl rfl) (ZA G_beside (hr.mono (by decide)) rfl T.g_beside T.f_beside.kp T.n_beside .nil Z4 (@Za _ _ _ _ _ (Zr (Yr (K:=K) rfl rfl) rfl T.b_list PyProof.Rows.Boot.«list» (@Za _ _ _ _ _ (pv 1) Zb (by rfl))) (@Za _ _ _ _ _ (Zr (Yr (K:=K) rfl rfl) rfl T.b_list PyProof.Rows.Boot.«list» (@Za _ _ _ _ _ (pv 2) Zb (by rfl))) Zb (by rfl)) (by rfl))) (by rfl) (by first | exact .inl rfl | exact .inr rfl | assumption)) (@Zh _ _ _ (@Zx _ _ _ _ (Wl (@XQ _ _ _ _ _ _ _ _ (qj (K:=K) rfl (Y0.units hr)) (@ZH _ _ _ _ _ _ _ (Z0 (K:=K) rfl) (pv 12) Zg (fun _ _=>rfl)) (pv 3) (ZW _)) (XF (@XQ _ _ _ _ _ _ _ _ (qj (K:=K) rfl (Y0.units hr)) (Vm (@ZH _ _ _ _ _ _ _ (Z0 (K:=K) rfl) (pv 12) Zg (fun _ _=>rfl)) T.cl_World T.m_World_fair_signs G_World_fair_signs (hr.mono (by first | decide | omega)) T.n_World_fair_signs .nil Z4) (pv 2) (ZW _)))))))))))))))))),?_⟩
  have n1:=tm.n1
  have n4:=tm.n4
  have ly:=hma.1
  have hk:=tm.hash
  refine ⟨_,rfl,ps,xs,ms,rfl,hps,hsp,tm,fun H1 r L W pv wv qs ons s1 hr hL aP hW aW le=>?_⟩
  refine ⟨r,_,rfl,SqT.of hr,rfl,_,_,rfl,_,_,rfl,rfl,?_⟩
  refine ⟨_,rfl,.inl ⟨pm,_,rfl,.inl (SqL.of (s1 _ _ hpm)),fun M1 hM1=>?_⟩⟩
  obtain ⟨H2,qN,s2,eM1⟩:=YQ (o:=.lst ys) hM1
  rw [qN];clear qN
  refine ⟨_,rfl,.inl ⟨f,_,rfl,.inl (SqL.of ((s1.trans s2) _ _ hf)),fun F1 hF1=>?_⟩⟩
  obtain ⟨H3,qN,s3,eF1⟩:=YQ (o:=.lst (fs.map V.str)) hF1
  rw [qN];clear qN
  have t3:=s1.trans (s2.trans s3)
  refine ⟨M1,ys,ms,.ref F1,rfl,s3 _ _ eM1,hma.mono t3,by omega,LS.kd (ss:=fs) ⟨F1,rfl,eF1⟩ (by omega) nm,by omega,by omega,tm,hk,fun ws hs=>?_⟩
  have ew:=W7 tm hs
  subst ew
  have lpv:=aP.1
  rcases le.run with ⟨l20,er⟩ | ⟨l20,lo,er⟩
  ·rw [er]
   intro H4 s4
   have t4:=t3.trans s4
   have eL:=(s2.trans (s3.trans s4)) _ _ hL
   refine ⟨_,rfl,.inl ⟨L,pv,rfl,.inl (SqL.of eL),_,_,rfl,rfl,_,rfl,Wm (fun _=>?_) (fun c=>absurd (decide_eq_true (by omega)) c)⟩⟩
   refine ⟨_,rfl,true,true,rfl,rfl,true,rfl,Yh ?_⟩
   refine ⟨_,rfl,.inl ⟨pm,_,rfl,.inl (SqL.of (t4 _ _ hpm)),fun M2 hM2=>?_⟩⟩
   obtain ⟨H5,qN,s5,eM2⟩:=YQ (o:=.lst ys) hM2
   rw [qN];clear qN
   refine ⟨sz1,fun F2 hF2=>?_⟩
   obtain ⟨H6,qN,s6,eF2⟩:=YQ (o:=.lst [.str "A"]) hF2
   rw [qN];clear qN
   have t6:=t4.trans (s5.trans s6)
   refine ⟨M2,ys,ms,.ref F2,rfl,s6 _ _ eM2,hma.mono t6,by omega,⟨.lst eF2,fun xs q=>by
    rw [Z2 eF2] at q
    cases q
    exact ⟨by decide,fun y hy=>by cases List.mem_singleton.mp hy;exact .str _ (by decide)⟩⟩,by omega,by omega,tm,hk,fun ws hs=>?_⟩
   have ew:=W7 tm hs
   subst ew
   rw [er]
   intro H7 s7
   exact ⟨true,true,rfl,rfl,k H7 (t6.trans s7)⟩
  rw [er]
  refine ⟨fs,⟨F1,rfl,eF1⟩,nd,nm,l3,fun _ _ _ _=>trivial,fun fs2 lf2 _ _ _ H4 r4 o L4 pv4 d s4 hr4 hL40 hL4 aP4 wa gd dl ds dw dst df=>?_⟩
  have efs:=LS.one eF1 lf2
  subst efs
  have t4:=t3.trans s4
  have eL:=(s2.trans (s3.trans s4)) _ _ hL
  have aPm:ArePl H4 pv qs:=aP.mono fun b ys e=>(s2.trans (s3.trans s4)) _ _ e
  refine ⟨_,rfl,.inl ⟨L,pv,rfl,.inl (SqL.of eL),_,_,rfl,rfl,_,rfl,Wm (fun c=>absurd (of_decide_eq_true c) (by omega)) (fun _=>?_)⟩⟩
  refine ⟨_,rfl,r4,_,rfl,SqT.of hr4,true,rfl,Wm (fun c=>absurd c (by decide)) (fun _=>?_)⟩
  refine ⟨_,rfl,.inl ⟨r4,_,rfl,.inr (SqT.of hr4),rfl,_,rfl,Wm (fun c=>absurd c (by simp)) (fun _=>?_)⟩⟩
  refine ⟨_,rfl,r4,_,_,_,rfl,rfl,SqT.of hr4,rfl,_,rfl,Uy (Wp qs) (by decide) (Dp.lst (SqL.of hL4) (WW aP4)) (Dp.lst (SqL.of eL) (WW aPm)) ⟨_,rfl,Yz ?_⟩⟩
  obtain ⟨dx,u1,u2,u3,u4,eo,_⟩:=wa.ex
  refine ⟨_,rfl,r4,_,_,_,rfl,rfl,SqT.of hr4,rfl,o,rfl,Vl.ins eo T.cl_World T.t1_World T.t2_World T.t3_World T.t4_World,T.ic_World,true,rfl,Wm (fun c=>absurd c (by decide)) (fun _=>?_)⟩
  refine ⟨_,rfl,r4,_,_,_,rfl,rfl,SqT.of hr4,rfl,?_⟩
  obtain ⟨dx1,f1,o1,k1⟩:=at_many wa
  refine ⟨_,rfl,o,dx1,f1,rfl,o1,k1,o,d,rfl,wa,_,rfl,.inl ⟨L,pv,rfl,.inl (SqL.of eL),rfl,_,rfl,Wm (fun c=>absurd c (by rw [dl,lpv];simp)) (fun _=>?_)⟩⟩
  obtain ⟨dx2,f2,o2,k2⟩:=at_begins wa
  refine ⟨_,rfl,o,dx2,f2,rfl,o2,k2,o,d,rfl,wa,fun B hB=>?_⟩
  obtain ⟨H5,qN,s5,eB⟩:=YQ (o:=.lst ((YX d.starts).map V.int)) hB
  rw [qN];clear qN
  refine ⟨sz1,fun Z hZ=>?_⟩
  obtain ⟨H6,qN,s6,eZ⟩:=YQ (o:=.lst [.int 0]) hZ
  rw [qN];clear qN
  refine Uy (fineI [0]) (by decide) (LI.dp ⟨B,rfl,by rw [s6 _ _ eB,dst,jk]⟩) (LI.dp ⟨Z,rfl,eZ⟩) ⟨_,rfl,Yz ?_⟩
  have s46:=s5.trans s6
  have wa6:=wa.mono s46
  obtain ⟨dx3,f3,o3,k3⟩:=WG wa6
  refine ⟨_,rfl,o,dx3,f3,rfl,o3,k3,o,d,rfl,wa6,fun B2 hB2=>?_⟩
  obtain ⟨H7,qN,s7,eB2⟩:=YQ (o:=.lst (d.fair.map V.str)) hB2
  rw [qN];clear qN
  have t7:=t4.trans (s46.trans s7)
  refine ⟨_,rfl,Uy (zQ nm) (by decide) (LS.dp ⟨B2,rfl,by rw [eB2,df]⟩) (LS.dp ⟨f,rfl,t7 _ _ hf⟩) ⟨_,rfl,Yz ?_⟩⟩
  have s47:Zj H4 H7:=s46.trans s7
  clear s5 s6 s7 eB eZ eB2 hB hZ hB2 wa6 o1 k1 o2 k2 o3 k3
  refine ⟨_,rfl,.inl ⟨L,pv,rfl,.inl (SqL.of (s47 _ _ eL)),_,rfl,by omega,by omega,?_⟩⟩
  refine YY (J:=Itr 0 pv.length) (n:=pv.length) (fun i σ G=>∃ z7 z8 z9 z10:Option V,σ=[some (.ref ps),some (.ref pm),some (.ref f),some (.ref L),some (.ref W),some (.ref r4),some (.ref o),z7,z8,z9,z10,none,none]∧Zj H4 G) ?_ (fun i σ G hi _=>hi) (fun σ G _=>Nat.le_refl _) ?_ ?_
  ·exact ⟨_,_,_,_,rfl,s47⟩
  ·rintro i x σ G G0 hi ⟨z7,z8,z9,z10,rfl,sG⟩ ⟨rfl,rfl⟩
   have hiq:i<qs.length:=by omega
   have ei:(0:Int)+(i:Int)=((i:Nat):Int):=Int.zero_add _
   rw [ei]
   have ip:=le.pk.pl _ (List.getElem_mem hiq)
   have lq:qs[i].length=ms.length:=ip.1
   obtain ⟨b,eb,gb⟩:=aPm.2 i _ _ (List.getElem?_eq_getElem hi) (List.getElem?_eq_getElem hiq)
   have lx:=hsp.1
   have zl:(ms.zip qs[i]).length=ms.length:=by rw [List.length_zip,lq];exact Nat.min_self _
   refine ⟨sz0,fun S0 hS0=>?_⟩
   obtain ⟨G1,qN,v1,eS0⟩:=YQ (o:=.lst []) hS0
   rw [qN];clear qN
   have w1:=sG.trans v1
   refine ⟨_,rfl,_,rfl,_,rfl,L,pv,_,_,rfl,rfl,SqL.of (w1 _ _ eL),Xx (List.getElem?_eq_getElem hi),?_⟩
   rw [eb]
   refine ⟨ps,b,xs,qs[i].map V.int,rfl,SqL.of ((t4.trans w1) _ _ hps),SqT.of (w1 _ _ gb),?_⟩
   refine YY (J:=ItzV K ps b) (n:=ms.length) (fun j σ F=>∃ (S:Addr) (z9 z10:Option V),σ=[some (.ref ps),some (.ref pm),some (.ref f),some (.ref L),some (.ref W),some (.ref r4),some (.ref o),some (.int (i:Nat)),some (.ref S),z9,z10,none,none]∧Zj H4 F∧F S=some (.lst ((Zi [] (Yx ((ms.zip qs[i]).take j))).map V.str))) ?_ ?_ ?_ ?_ ?_
   ·exact ⟨S0,_,_,rfl,w1,eS0⟩
   ·rintro j σ F hj ⟨S,z9,z10,rfl,sF,fS⟩
    exact ⟨_,_,xs[j],.int qs[i][j],SqL.of ((t4.trans sF) _ _ hps),SqT.of (sF _ _ gb),List.getElem?_eq_getElem (by omega),by rw [List.getElem?_map,List.getElem?_eq_getElem (by omega)];rfl⟩
   ·rintro σ F ⟨S,z9,z10,rfl,sF,fS⟩
    exact ⟨_,_,SqL.of ((t4.trans sF) _ _ hps),SqT.of (sF _ _ gb),by rw [List.length_map];omega,by omega⟩
   ·rintro j x σ F F2 hj ⟨S,z9,z10,rfl,sF,fS⟩ ⟨pr,v,wv',rfl,hpr,rfl,hv,hwv⟩
    have ev:=hv _ (SqL.of ((t4.trans sF) _ _ hps))
    have ew:=hwv _ (SqT.of (sF _ _ gb))
    rw [List.getElem?_map,List.getElem?_eq_getElem (by omega)] at ew
    have ew':wv'=.int qs[i][j]:=(Option.some.inj ew).symm
    subst ew'
    obtain ⟨t,px,py,pz,pu,rfl,ht,pp⟩:=hsp.2 j v _ ev (List.getElem?_eq_getElem hj)
    have gj:=tm.g _ (List.getElem_mem hj)
    obtain ⟨F3,qN,s5,e5⟩:=YQ (o:=.tup [.ref t,.int qs[i][j]]) hpr
    rw [qN];clear qN
    refine ⟨pr,_,rfl,SqT.of e5,rfl,_,_,rfl,_,_,rfl,rfl,?_⟩
    have w3:=sF.trans s5
    have pp3:=pp.mono (t4.trans w3)
    obtain ⟨r0,r1⟩:=ip.2 j _ _ (List.getElem?_eq_getElem hj) (List.getElem?_eq_getElem (by omega))
    obtain ⟨b1,v1',eb1,g1,l1,q1⟩:=id pp3.s
    subst eb1
    obtain ⟨kk,ek⟩:=Int.eq_ofNat_of_zero_le r0
    have hkk:kk<ms[j].d.signs.length:=by omega
    obtain ⟨c,ec,gc⟩:=q1 kk _ _ (List.getElem?_eq_getElem (by omega)) (List.getElem?_eq_getElem hkk)
    have sn:=gj.sn _ (List.getElem_mem hkk)
    have s7:=tm.s7 _ (List.getElem_mem hj) _ (List.getElem_mem hkk)
    have esn:Zi [] (Yx ((ms.zip qs[i]).take (j+1)))=Zi (Zi [] (Yx ((ms.zip qs[i]).take j))) ms[j].d.signs[kk]:=by
     rw [Z1 (by omega),Ue,Vw,List.getElem_zip]
     congr 1
     show ms[j].d.signs.getD (qs[i][j]).toNat []=_
     rw [ek,List.getD_eq_getElem?_getD]
     show (ms[j].d.signs[kk]?).getD []=_
     rw [List.getElem?_eq_getElem hkk];rfl
    have lcur:=(YL (Yx ((ms.zip qs[i]).take j)) []).2
    have l28:=Wh tm (p:=qs[i]) j
    rw [List.length_nil] at lcur
    have fS3:=s5 _ _ fS
    rw [WZ sn.1] at esn
    generalize Zi [] (Yx ((ms.zip qs[i]).take j))=cur at fS3 lcur esn
    generalize ms[j].d.signs[kk]=ss at gc sn s7 esn
    refine ⟨_,rfl,_,rfl,t,_,_,_,rfl,rfl,SqT.of ((t4.trans w3) _ _ ht),rfl,_,rfl,b1,v1',_,_,rfl,rfl,SqL.of g1,by rw [ek];exact Xx (List.getElem?_eq_getElem (by omega)),?_⟩
    rw [ec]
    refine ⟨c,rfl,⟨_,SqL.of gc⟩,fun D hD=>?_⟩
    refine Xw (J:=Itl K c) (n:=ss.length) (fun m σ X=>∃ z:Option V,σ=[z,some (.ref S)]∧Zj F3 X∧X D=some (.lst (((ss.take m).filter fun x=>!decide (x∈cur)).map V.str))) ?_ ?_ ?_ ?_ ?_
    ·exact ⟨_,rfl,Zf hD,Zd⟩
    ·rintro m σ X hm ⟨z,rfl,sX,xD⟩
     exact ⟨_,_,SqL.of (sX _ _ gc),by rw [List.getElem?_map,List.getElem?_eq_getElem hm];rfl⟩
    ·rintro σ X ⟨z,rfl,sX,xD⟩
     exact ⟨_,SqL.of (sX _ _ gc),by rw [List.length_map];exact Nat.le_refl _⟩
    ·rintro m x σ X X2 hm ⟨z,rfl,sX,xD⟩ ⟨rfl,hx⟩ N N0 hN hN0
     have e:=hx _ (SqL.of (sX _ _ gc))
     rw [List.getElem?_map,List.getElem?_eq_getElem hm] at e
     have e':x=.str ss[m]:=(Option.some.inj e).symm
     subst e'
     refine ⟨_,rfl,_,rfl,S,_,rfl,.inl (SqL.of (sX _ _ fS3)),rfl,by simp [W8],_,rfl,?_⟩
     show if (!inV (V.str ss[m]) (cur.map V.str))=true then _ else _
     rw [V6]
     have ef:(ss.take (m+1)).filter (fun x=>!decide (x∈cur))=(ss.take m).filter (fun x=>!decide (x∈cur))++[ss[m]].filter (fun x=>!decide (x∈cur)):=by rw [Z1 hm,List.filter_append]
     have lf:((ss.take m).filter (fun x=>!decide (x∈cur))).length≤7:=Nat.le_trans (List.length_filter_le _ _) (by rw [List.length_take];omega)
     by_cases hin:ss[m]∈cur
     ·rw [decide_eq_true hin]
      refine Yz (hN0 _ _ ⟨_,rfl,sX,?_⟩)
      rw [ef,List.filter_cons,decide_eq_true hin,xD]
      simp
     ·rw [decide_eq_false hin]
      refine Yh ⟨_,rfl,hN _ _ _ _ xD (by rw [List.length_map,sizeLine_eq];omega) ⟨_,rfl,(Zy.upd (Zj.x sX)).same hD,?_⟩⟩
      rw [ef,List.filter_cons,decide_eq_false hin,Zd,List.map_append]
      rfl
    ·rintro σ X ⟨z,rfl,sX,xD⟩
     rw [List.take_length] at xD
     have lf:(ss.filter (fun x=>!decide (x∈cur))).length≤7:=Nat.le_trans (List.length_filter_le _ _) s7
     refine ⟨S,D,_,_,rfl,rfl,sX _ _ fS3,xD,by rw [List.length_map,List.length_map,sizeLine_eq];omega,fun N hN=>?_⟩
     have sN:=Zf (o:=.lst (cur.map V.str++(ss.filter fun x=>!decide (x∈cur)).map V.str)) hN
     exact ⟨N,_,_,rfl,w3.trans (sX.trans sN),by rw [esn,Zd,List.map_append]⟩
   ·rintro σ F ⟨S,z9,z10,rfl,sF,fS⟩
    have ztl:(ms.zip qs[i]).take ms.length=ms.zip qs[i]:=List.take_of_length_le (by omega)
    have l28:=Wh tm (p:=qs[i]) ms.length
    rw [ztl] at fS l28
    have lcur:=(YL (Yx (ms.zip qs[i])) []).2
    rw [List.length_nil] at lcur
    have hid:i<d.signs.length:=by omega
    have hiw:i<d.ways.length:=by have:=gd.wl;omega
    have hio:i<ons.length:=by omega
    have so:=ds i _ _ (List.getElem?_eq_getElem hiq) (List.getElem?_eq_getElem hid)
    have sgn:=gd.sn _ (List.getElem_mem hid)
    have es:X0 d.signs[i]=X0 (Zi [] (Yx (ms.zip qs[i]))):=by
     refine Vk ((XH _).nodup_iff.mpr so.nd) ((XH _).nodup_iff.mpr (XL (by simp))) (Uo _) (Uo _) fun x=>?_
     rw [(XH _).mem_iff,(XH _).mem_iff,so.mem x,YK]
     exact ⟨.inr,fun q=>q.elim (fun z=>by cases z) id⟩
    have wF:=wa.mono sF
    obtain ⟨dx1,f1,o1,k1⟩:=vD wF
    refine ⟨_,rfl,o,dx1,f1,rfl,o1,k1,_,rfl,o,d,i,_,rfl,wF,List.getElem?_eq_getElem hid,fun B hB=>?_⟩
    obtain ⟨F2,qN,s5,eB⟩:=YQ (o:=.lst ((X0 d.signs[i]).map V.str)) hB
    rw [qN];clear qN
    refine ⟨_,rfl,.inl ⟨S,_,rfl,SqL.of (s5 _ _ fS),by omega,fun R hR=>?_⟩⟩
    obtain ⟨F3,qN,s6,eR⟩:=YQ (o:=.lst ((X0 (Zi [] (Yx (ms.zip qs[i])))).map V.str)) hR
    rw [qN];clear qN
    refine Uy (zQ (ss:=X0 d.signs[i]) fun x hx=>sgn.2.1 x ((XH _).mem_iff.mp hx)) (by decide) (LS.dp ⟨B,rfl,s6 _ _ eB⟩) (LS.dp ⟨R,rfl,by rw [eR,es]⟩) ⟨_,rfl,Yz ?_⟩
    have w3:=sF.trans (s5.trans s6)
    have w3F:=wa.mono w3
    obtain ⟨dx2,f2,o2,k2⟩:=v6 w3F
    have ewi:d.ways[i]=Wy qs ons[i]:=by simp only [dw,List.getElem_map]
    have wl20:=(gd.wn _ (List.getElem_mem hiw)).2.2.2
    refine ⟨_,rfl,o,dx2,f2,rfl,o2,k2,_,rfl,o,d,i,_,rfl,w3F,List.getElem?_eq_getElem hiw,fun B2 hB2=>?_⟩
    obtain ⟨F4,qN,s7,eB2⟩:=YQ (o:=.lst ((YX d.ways[i]).map V.int)) hB2
    rw [qN];clear qN
    have w4:=w3.trans s7
    have sH1:Zj H1 H4:=s2.trans (s3.trans s4)
    have lwv:=aW.1
    have hiv:i<wv.length:=by omega
    obtain ⟨bo,us,ebo,_,_,gbo,aro⟩:=aW.2 i _ _ (List.getElem?_eq_getElem hiv) (List.getElem?_eq_getElem hio)
    have u4:=sH1.trans w4
    have gb4:=u4 _ _ gbo
    have ar4:ArePl F4 us ons[i]:=aro.mono fun b ys e=>u4 _ _ e
    have gL4:=w4 _ _ eL
    have aL4:ArePl F4 pv qs:=aPm.mono fun b ys e=>w4 _ _ e
    have inn:=le.inn _ (List.getElem_mem hio)
    rw [ewi] at eB2 wl20
    unfold Wy at wl20
    rw [List.length_map] at wl20
    have lus:=ar4.1
    refine ⟨_,rfl,_,rfl,W,wv,_,_,rfl,rfl,SqL.of (u4 _ _ hW),Xx (List.getElem?_eq_getElem hiv),?_⟩
    rw [ebo]
    refine ⟨bo,rfl,⟨_,SqL.of gb4⟩,fun D hD=>?_⟩
    refine Yc (K:=K) hD (SqL.of gb4) (by rw [sizeLine_eq];omega) (fun m v _=>∀ q,ons[i][m]?=some q→v=.int ((qs.idxOf q:Nat):Int)) (fun _ _ _ _ _ q=>q) ?_ ?_
    ·intro m x X N hx sm hN
     have hm:m<ons[i].length:=by rw [← lus];exact (List.getElem?_eq_some_iff.mp hx).1
     obtain ⟨c,rfl,gc⟩:=ar4.2 m x _ hx (List.getElem?_eq_getElem hm)
     refine ⟨_,rfl,.inl ⟨rfl,_,SqL.of (sm _ _ gL4)⟩,_,rfl,L,c,pv,qs,ons[i][m],rfl,rfl,sm _ _ gL4,aL4.mono fun b ys e=>sm _ _ e,sm _ _ gc,inn _ (List.getElem_mem hm),hN _ _ (.refl _) fun q hq=>?_⟩
     rw [List.getElem?_eq_getElem hm] at hq
     cases hq
     rfl
    intro F5 zs hD5 s8 lz rz
    have ez:zs=(Wy qs ons[i]).map V.int:=by
     unfold Wy
     refine List.ext_getElem (by simp only [List.length_map];omega) fun m h1 h2=>?_
     have hm:m<ons[i].length:=by omega
     have:=rz m _ (List.getElem?_eq_getElem h1) _ (List.getElem?_eq_getElem hm)
     rw [this]
     simp only [List.getElem_map]
    subst ez
    refine .inr ⟨D,_,rfl,SqL.of hD5,by unfold Wy;rw [List.length_map];omega,fun R2 hR2=>?_⟩
    obtain ⟨F6,qN,s9,eR2⟩:=YQ (o:=.lst ((YX (Wy qs ons[i])).map V.int)) hR2
    rw [qN];clear qN
    refine Uy (fineI (YX (Wy qs ons[i]))) (by decide) (LI.dp ⟨B2,rfl,(s8.trans s9) _ _ eB2⟩) (LI.dp ⟨R2,rfl,eR2⟩) ⟨_,rfl,Yz ?_⟩
    exact ⟨_,_,_,_,rfl,w4.trans (s8.trans s9)⟩
  ·rintro σ G ⟨z7,z8,z9,z10,rfl,sG⟩
   refine ⟨_,rfl,r4,_,_,_,rfl,rfl,SqT.of (sG _ _ hr4),rfl,.inl ⟨rfl,_,SqL.of (sG _ _ hL4)⟩,L4,_,rfl,rfl,sG _ _ hL4,?_⟩
   have sC:Zj H3 (upd G L4 (.lst [])):=(Zy.upd (Zj.x (s4.trans sG))).same hL40
   generalize upd G L4 (.lst [])=G1 at sC ⊢
   have sH31:Zj H1 H3:=s2.trans s3
   have eL3:=sH31 _ _ hL
   have aP3:ArePl H3 pv qs:=aP.mono fun b ys e=>sH31 _ _ e
   clear sG s4 t4 eL aPm s46 s47 wa eo hr4 hL4 aP4 hL40 dl ds dw dst df gd
   have tC:=t3.trans sC
   refine ⟨sz0,fun O1 hO1=>?_⟩
   obtain ⟨G2,qN,v2,eO1⟩:=YQ (o:=.lst []) hO1
   rw [qN];clear qN
   have tC2:=tC.trans v2
   refine ⟨fun σ' X=>∃ (O:Addr) (gs:List Str),σ'=[some (.ref ps),some (.ref pm),some (.ref f),some (.ref L),some (.ref W),some (.ref r4),some (.ref o),z7,z8,z9,z10,some (.ref O),none]∧Zj H3 X∧X O=some (.lst (gs.map V.str))∧gs.Nodup∧(∀ x∈gs,Zw x=true)∧gs.length≤3,?_,?_⟩
   ·refine ⟨_,rfl,sz0,fun N hN=>?_⟩
    obtain ⟨G3,qN,v3,eN⟩:=YQ (o:=.lst []) hN
    rw [qN];clear qN
    refine eqD_nilS nm ((tC2.trans v3) _ _ hf) eN fun c hc=>⟨c,rfl,Wm (fun _=>?_) (fun _=>?_)⟩
    ·refine ⟨sz2,fun N2 hN2=>?_⟩
     have v4:=Zf (o:=.lst [.str "other",.str "q"]) hN2
     exact ⟨N2,["other", "q"],rfl,(sC.trans v2).trans (v3.trans v4),Zd,by decide,by decide,by decide⟩
    ·exact ⟨O1,[],rfl,sC.trans (v2.trans v3),v3 _ _ eO1,by simp,(fun x hx=>by cases hx),by decide⟩
   rintro σ' X ⟨O,gs,rfl,sX,eO,gnd,gnm,gl⟩
   have tX:=t3.trans sX
   refine ⟨_,rfl,.inl ⟨pm,_,rfl,.inl (SqL.of (tX _ _ hpm)),fun M3 hM3=>?_⟩⟩
   obtain ⟨X1,qN,y1,eM3⟩:=YQ (o:=.lst ys) hM3
   rw [qN];clear qN
   refine ⟨_,rfl,.inl ⟨O,_,rfl,.inl (SqL.of (y1 _ _ eO)),fun F3 hF3=>?_⟩⟩
   obtain ⟨X2,qN,y2,eF3⟩:=YQ (o:=.lst (gs.map V.str)) hF3
   rw [qN];clear qN
   have y12:=y1.trans y2
   refine ⟨M3,ys,ms,.ref F3,rfl,y2 _ _ eM3,hma.mono (tX.trans y12),by omega,LS.kd (ss:=gs) ⟨F3,rfl,eF3⟩ (by omega) gnm,fun c0=>absurd ⟨by omega,by omega⟩ c0,fun _ _=>⟨tm,hk,fun ws hs=>?_⟩⟩
   have ew:=W7 tm hs
   subst ew
   rw [er]
   refine ⟨(fun hb=>by rw [LS.fits (fs:=gs) ⟨F3,rfl,eF3⟩ gnd gnm gl] at hb;cases hb),fun gs2 lg2 _ _ _ X3 r5 o5 L5 pv5 d5 q1 q2 q3 q4 q5 q6 q7 q8 q9 q10 q11 q12=>?_⟩
   have egs:=LS.one eF3 lg2
   subst egs
   obtain ⟨dx5,f5,o5',k5⟩:=WG q6
   refine ⟨r5,_,_,_,rfl,rfl,SqT.of q2,rfl,o5,dx5,f5,rfl,o5',k5,o5,d5,rfl,q6,fun B hB=>?_⟩
   obtain ⟨X4,qN,y4,eB⟩:=YQ (o:=.lst (d5.fair.map V.str)) hB
   rw [qN];clear qN
   have y14:Zj X X4:=y12.trans (q1.trans y4)
   refine ⟨_,rfl,Uy (zQ gnm) (by decide) (LS.dp ⟨B,rfl,by rw [eB,q12]⟩) (LS.dp ⟨O,rfl,y14 _ _ eO⟩) ⟨_,rfl,Yz ?_⟩⟩
   have sX4:=sX.trans y14
   clear q1 q2 q3 q4 q5 q6 q7 q8 q9 q10 q11 q12 o5' k5 eB hB y4 y14 y12 y1 y2 eM3 eF3 hM3 hF3 eO lg2
   have t5:=t3.trans sX4
   refine ⟨_,rfl,.inl ⟨pm,_,rfl,.inl (SqL.of (t5 _ _ hpm)),fun M4 hM4=>?_⟩⟩
   obtain ⟨Y1,qN,y1,eM4⟩:=YQ (o:=.lst ys) hM4
   rw [qN];clear qN
   refine ⟨_,rfl,.inl ⟨f,_,rfl,.inl (SqL.of ((t5.trans y1) _ _ hf)),fun F4 hF4=>?_⟩⟩
   obtain ⟨Y2,qN,y2,eF4⟩:=YQ (o:=.lst (fs2.map V.str)) hF4
   rw [qN];clear qN
   have y12:=y1.trans y2
   refine ⟨M4,ys,ms,.ref F4,rfl,y2 _ _ eM4,hma.mono (t5.trans y12),by omega,LS.kd (ss:=fs2) ⟨F4,rfl,eF4⟩ (by omega) nm,fun c0=>absurd ⟨by omega,by omega⟩ c0,fun _ _=>⟨tm,hk,fun ws hs=>?_⟩⟩
   have ew:=W7 tm hs
   subst ew
   rw [er]
   refine ⟨(fun hb=>by rw [LS.fits (fs:=fs2) ⟨F4,rfl,eF4⟩ nd nm l3] at hb;cases hb),fun gs3 lg3 _ _ _ Y3 r6 o6 L6 pv6 d6 q1 q2 q3 q4 q5 q6 q7 q8 q9 q10 q11 q12=>?_⟩
   have egs3:=LS.one eF4 lg3
   have sY3:Zj H3 Y3:=sX4.trans (y12.trans q1)
   obtain ⟨dx6,f6,o6',k6⟩:=WG q6
   refine ⟨_,rfl,r6,_,_,_,rfl,rfl,SqT.of q2,rfl,_,rfl,eqD_yes (Wp qs) (by decide) (Dp.lst (SqL.of q4) (WW q5)) (Dp.lst (SqL.of (sY3 _ _ eL3)) (WW (aP3.mono fun b ys e=>sY3 _ _ e))) ⟨true,rfl,Yh ⟨_,rfl,r6,_,_,_,rfl,rfl,SqT.of q2,rfl,o6,dx6,f6,rfl,o6',k6,o6,d6,rfl,q6,fun B hB=>?_⟩⟩⟩
   obtain ⟨Y4,qN,y4,eB⟩:=YQ (o:=.lst (d6.fair.map V.str)) hB
   rw [qN];clear qN
   have t6:=t3.trans (sY3.trans y4)
   exact ⟨_,rfl,eqD_yes (zQ nm) (by decide) (LS.dp ⟨B,rfl,by rw [eB,q12,egs3]⟩) (LS.dp ⟨f,rfl,t6 _ _ hf⟩) (k _ t6)⟩
end KK
namespace L3
open PySem PySem.Spec PyProof.Rows L2
theorem jz {n:Nat}{D:Addr}{te:TE}{τ:St}{H0:Hp}{Q:VK} (hD:H0 D=none) (hz:n≤sizeLine) (R:Nat→V→Hp→Prop) (mono:∀ i v H H',Zj H H'→R i v H→R i v H')
  (step:∀ i H (N:V→Hp→Prop),i<n→Zj H0 H→(∀ v H4,Zj H H4→R i v (New H H4)→N v H4)→te (some (.int (i:Nat)) :: τ) H N)
  (fin:∀ H' ys,H' D=some (.lst ys)→Zj H0 H'→ys.length=n→(∀ i v,ys[i]?=some v→R i v (New H0 H'))→Q (.ref D) H') :
  CompL (Itr 0 n) D (yK 0) tTrue te (none :: τ) H0 Q:=by
 refine Xw (n:=n) (fun i σ H=>∃ z ys,σ=z :: τ∧H D=some (.lst ys)∧ys.length=i∧Zj H0 H∧∀ j v,ys[j]?=some v→R j v (hide D (New H0 H))) ?_ ?_ ?_ ?_ ?_
 ·exact ⟨none,[],rfl,Zd,rfl,Zf hD,fun j v e=>by simp at e⟩
 ·rintro i σ H hi _
  exact hi
 ·rintro σ H _
  exact Nat.le_refl _
 ·rintro i x σ H H2 hi ⟨z,ys,rfl,hy,hl,s,r⟩ ⟨rfl,rfl⟩ N N0 hN hN0
  have ei:(0:Int)+(i:Int)=((i:Nat):Int):=Int.zero_add _
  rw [ei]
  show te (some (.int (i:Nat)) :: τ) H2 _
  refine step i H2 _ hi s fun v H4 s4 r4=>?_
  refine hN v _ H4 ys (s4 _ _ hy) (by omega) ⟨some (.int (i:Nat)),ys++[v],rfl,Zd,by rw [List.length_append,List.length_singleton,hl],?_,?_⟩
  ·exact (Zy.upd (Zj.x (s.trans s4))).same hD
  ·intro j w e
   by_cases hj:j<ys.length
   ·rw [List.getElem?_append_left hj] at e
    refine mono j w _ _ ?_ (r j w e)
    intro b o hb
    obtain ⟨nb,hb⟩:=WT hb
    obtain ⟨h1,h2⟩:=New.of hb
    exact Yt nb (New.mk h1 (by rw [Zo nb];exact s4 _ _ h2))
   ·have ej:j=ys.length:=by
     have:=(List.getElem?_eq_some_iff.mp e).1
     rw [List.length_append,List.length_singleton] at this
     omega
    subst ej
    simp at e
    subst e
    rw [hl]
    refine mono i v _ _ ?_ r4
    intro b o hb
    obtain ⟨h1,h2⟩:=New.of hb
    have nb:b≠D:=fun z=>by subst z;rw [hy] at h1;cases h1
    exact Yt nb (New.mk (s.free h1) (by rw [Zo nb];exact h2))
 ·rintro σ H ⟨z,ys,rfl,hy,hl,s,r⟩
  exact fin H ys hy s hl fun i v e=>mono i v _ _ YV (r i v e)
end L3
namespace KK
open PySem PySem.Spec L2 L3
theorem mach_hide {C:Addr}{H:Hp}{p D:Addr}{d:MD}{us:List Str}{xs:List V} (h:XG C H p d us) (hD:H D=some (.lst xs)):XG C (hide D H) p d us:=by
 have st:∀ b u,H b=some u→(∀ ys,u≠.lst ys)→(hide D H) b=some u:=fun b u e n=>Yt (fun q=>by rw [q,hD] at e;exact n xs (Option.some.inj e).symm) e
 obtain ⟨dx,t1,t2,t4,e,h1,h2,h4,hs⟩:=h.ex
 obtain ⟨a1,v1,r1,g1,l1,q1⟩:=h1
 obtain ⟨a2,v2,r2,g2,l2,q2⟩:=h2
 obtain ⟨a4,r4,g4⟩:=h4
 refine ⟨dx,t1,t2,t4,st _ _ e (fun _ z=>by cases z),⟨a1,v1,r1,st _ _ g1 (fun _ z=>by cases z),l1,fun i v x e1 e2=>?_⟩,⟨a2,v2,r2,st _ _ g2 (fun _ z=>by cases z),l2,fun i v x e1 e2=>?_⟩,⟨a4,r4,st _ _ g4 (fun _ z=>by cases z)⟩,hs⟩
 ·obtain ⟨b,e3,g⟩:=q1 i v x e1 e2
  exact ⟨b,e3,st _ _ g (fun _ z=>by cases z)⟩
 ·obtain ⟨b,e3,g⟩:=q2 i v x e1 e2
  exact ⟨b,e3,st _ _ g (fun _ z=>by cases z)⟩
def TeamAt (C:Addr) (H:Hp) (v:V):Prop:=∃ (t ps pm f:Addr) (xs ys:List V) (ms:List MM) (fs:List Str),v=.ref t∧H t=some (.tup [.ref ps,.ref pm,.ref f])∧H ps=some (.lst xs)∧zh H xs ms∧H pm=some (.lst ys)∧VF C H ys ms∧Wc ms∧H f=some (.lst (fs.map V.str))∧fs.Nodup∧(∀ x∈fs,Zw x=true)∧fs.length≤3
theorem _root_.KK.TeamAt.mono {C:Addr}{H H':Hp}{v:V} (s:Zj H H') (h:TeamAt C H v):TeamAt C H' v:=by
 obtain ⟨t,ps,pm,f,xs,ys,ms,fs,e,h1,h2,h3,h4,h5,h6,h7,h8⟩:=h
 exact ⟨t,ps,pm,f,xs,ys,ms,fs,e,s _ _ h1,s _ _ h2,h3.mono s,s _ _ h4,h5.mono s,h6,s _ _ h7,h8⟩
def sp_law (K:PySem.W.Frag) (a:Adr):Sp:=fun vs H Q _=>∃ (p:Addr) (ns:List Int),vs=[.ref p]∧SqL K H p (ns.map V.int)∧ns.length≤63∧∀ H',Q (.bl true) H'
theorem ok_law {P:Program}{w:World}{K:PySem.W.Frag}{mg:Str→Option Value}{base:Heap}{a:Adr} (T:Txt K mg a) (hw:w.params=a.Pm):Yy P w K mg base CX0 11 a.law a.law_fd ["_law_script"] (sp_law K a):=by
 have G__law_cell_at:=U3 (P:=P) (w:=w) (base:=base) T hw
 have G__law_names:=zC (P:=P) (w:=w) (base:=base) T hw
 have G__law_machine:=U2 (P:=P) (w:=w) (base:=base) T hw
 have G__law_built:=zv (P:=P) (w:=w) (base:=base) T hw
 have G__law_fair:=xy (P:=P) (w:=w) (base:=base) T hw
 have G__law_right:=zw (P:=P) (w:=w) (base:=base) T hw
 refine T.f_law.ok WF (fun vs H Q E h=>?_) (fun cdv A outer s H vs Q E hr h=>?_)
 ·obtain ⟨b,ns,rfl,_⟩:=h
  rfl
 ·obtain ⟨b,ns,rfl,hb,hn63,k⟩:=h
  refine ⟨_,(@Ze _ _ _ _ _ (@Zt _ _ (1) _ _ _ _ WF.nd rfl (Or.inr rfl) (ZA G__law_names (hr.mono (by decide)) rfl T.g__law_names T.f__law_names.kp T.n__law_names .nil Z4 (@Za _ _ _ _ _ (ZA G__law_cell_at (hr.mono (by decide)) rfl T.g__law_cell_at T.f__law_cell_at.kp T.n__law_cell_at .nil Z4 (@Za _ _ _ _ _ (pv 0) (@Za _ _ _ _ _ Zg Zb (by rfl)) (by rfl))) Zb (by rfl))) (by rfl) (by first | exact .inl rfl | exact .inr rfl | assumption)) (@Ze _ _ _ _ _ (@Zt _ _ (2) _ _ _ _ WF.nd rfl (Or.inl rfl) (@ZR _ _ _ _ Zb) (by rfl) (by first | exact .inl rfl | exact .inr rfl | assumption)) (@Ze _ _ _ _ _ (Xo PassesOwn.never rfl (Wf rfl T.b_range (@Za _ _ _ _ _ Zg Zb (by rfl))) (Zm (i:=3) WF.nd rfl (Or.inr rfl)) (@Ze _ _ _ _ _ (@Zt _ _ (4) _ _ _ _ WF.nd rfl (Or.inl rfl) (ZA G__law_cell_at (hr.mono (by decide)) rfl T.g__law_cell_at T.f__law_cell_at.kp T.n__law_cell_at .nil Z4 (@Za _ _ _ _ _ (pv 0) (@Za _ _ _ _ _ (@ZC _ _ _ _ _ _ _ _ Xe Zg (pv 3)) Zb (by rfl)) (by rfl))) (by rfl) (by first | exact .inl rfl | exact .inr rfl | assumption)) (@Ze _ _ _ _ _ (@Zt _ _ (5) _ _ _ _ WF.nd rfl (Or.inr rfl) (@ZH _ _ _ _ _ _ _ (ZM (K:=K) rfl) (@ZR _ _ _ _ (@Z9 _ _ _ _ _ Zg (@Z9 _ _ _ _ _ Zg (@Z9 _ _ _ _ _ Zg (@Z9 _ _ _ _ _ Zg Zb (by rfl)) (by rfl)) (by rfl)) (by rfl))) (@ZC _ _ _ _ _ _ _ _ Xn (pv 4) Zg) (fun _ _=>rfl)) (by rfl) (by first | exact .inl rfl | exact .inr rfl | assumption)) (@Ze _ _ _ _ _ (UQ (i:=6) WF.nd rfl rfl (Nc:=["_law_j", "_law_names_here", "_law_most", "_law_script", "_law_k"]) (ix:=[none,some 1,some 5,some 0,some 3]) (ZD.of (by decide +kernel:ZK (Zc Ww) ["_law_script", "_law_names_here", "_law_teams", "_law_k", "_law_cell", "_law_most", "_law_specs", "_law_machines", "_law_fair_here"] ["_law_j", "_law_names_here", "_law_most", "_law_script", "_law_k"] [none,some 1,some 5,some 0,some 3] _=true)) rfl (Wf rfl T.b_range (@Za _ _ _ _ _ (@ZC _ _ _ _ _ _ _ _ Xe Zg (@ZC _ _ _ _ _ _ _ _ Xn (pv 4) Zg)) Zb (by rfl))) (fun _ _ _ _ _=>(Zm (i:=0) (show List.Nodup (["_law_j", "_law_names_here", "_law_most", "_law_script", "_law_k"]:List Str) by decide +kernel) rfl (Or.inl rfl))) (fun _ _ _ _ _=>ZT) (fun _ _ _ _ _=>(ZA G__law_machine (hr.mono (by decide)) rfl T.g__law_machine T.f__law_machine.kp T.n__law_machine .nil Z4 (@Z9 _ _ _ _ _ (pv 1) (@Z9 _ _ _ _ _ (@ZC _ _ _ _ _ _ _ _ Xe (ZA G__law_cell_at (hr.mono (by decide)) rfl T.g__law_cell_at T.f__law_cell_at.kp T.n__law_cell_at .nil Z4 (@Za _ _ _ _ _ (pv 3) (@Za _ _ _ _ _ (@ZC _ _ _ _ _ _ _ _ Xe (@ZC _ _ _ _ _ _ _ _ Xe Zg (@ZC _ _ _ _ _ _ _ _ VT Zg (pv 4))) (pv 0)) Zb (by rfl)) (by rfl))) (pv 0)) (@Z9 _ _ _ _ _ (pv 2) Zb (by rfl)) (by rfl)) (by rfl))))) (@Zh _ _ _ (@Y9 _ _ _ _ (Wu PySem.F.plainAttrs_list PySem.F.slot_list_append PySem.F.type_list_append YJ (pv 2) (@Za _ _ _ _ _ (@Wb _ _ _ _ _ (@Z9 _ _ _ _ _ (pv 6) (@Z9 _ _ _ _ _ (ZV (Nc:=["_law_one"]) (ix:=[none]) (ZD.of (by decide +kernel:ZK (Zc Ww) ["_law_script", "_law_names_here", "_law_teams", "_law_k", "_law_cell", "_law_most", "_law_specs", "_law_machines", "_law_fair_here"] ["_law_one"] [none] _=true)) rfl (Zq (K:=K) rfl (pv 6)) (fun _ _ _ _ _=>(Zm (i:=0) (show List.Nodup (["_law_one"]:List Str) by decide +kernel) rfl (Or.inl rfl))) (fun _ _ _ _ _=>ZT) (fun _ _ _ _ _=>(ZA G__law_built (hr.mono (by decide)) rfl T.g__law_built T.f__law_built.kp T.n__law_built .nil Z4 (@Za _ _ _ _ _ (pv 0) Zb (by rfl))))) (@Z9 _ _ _ _ _ (ZA G__law_fair (hr.mono (by decide)) rfl T.g__law_fair T.f__law_fair.kp T.n__law_fair .nil Z4 (@Za _ _ _ _ _ (pv 1) (@Za _ _ _ _ _ (@ZC _ _ _ _ _ _ _ _ qf (pv 4) Zg) Zb (by rfl)) (by rfl))) Zb (by rfl)) (by rfl)) (by rfl))) Zb (by rfl))) (by rfl))))))) (@Ze _ _ _ _ _ (Xo PassesOwn.never rfl (Zq (K:=K) rfl (@ZC _ _ _ _ _ _ _ _ qI (pv 2) (vI (vj (K:=K) rfl) (pv 2) po_none (po_some Zg)))) (XU (K:=K) (n:=3) rfl rfl (ZF (Zm (i:=6) WF.nd rfl (Or.inl rfl)) (ZF (Zm (i:=7) WF.nd rfl (Or.inl rfl)) (ZF (Zm (i:=8) WF.nd rfl (Or.inl rfl)) XX)))) (@Zh _ _ _ (@YF _ _ _ _ _ _ _ _ (@YM _ _ _ _ (Xa (ZA G__law_right (hr.mono (by decide)) rfl T.g__law_right T.f__law_right.kp T.n__law_right .nil Z4 (@Z9 _ _ _ _ _ (pv 6) (@Z9 _ _ _ _ _ (pv 7) (@Z9 _ _ _ _ _ (pv 8) Zb (by rfl)) (by rfl)) (by rfl))))) (@Zh _ _ _ (@Zx _ _ _ _ Xz)) ZL))) (@Zh _ _ _ (@Zx _ _ _ _ Xz)))))),?_⟩
  refine ⟨_,rfl,b,ns,0,rfl,hb,fun c0=>?_⟩
  refine ⟨c0,rfl,fun H1 NL ss s1 hN0 hN hl hnm hnd hzy=>?_⟩
  obtain ⟨n0,n1,n2,rfl⟩:∃ n0 n1 n2,ss=[n0,n1,n2]:=by
   match ss,hl with
   | [a,b,c],_=>exact ⟨a,b,c,rfl⟩
  refine ⟨sz0,fun TE hTE0=>?_⟩
  obtain ⟨H2,qN,s2,eTE⟩:=YQ (o:=.lst []) hTE0
  rw [qN];clear qN
  refine ⟨_,rfl,by decide,by decide,?_⟩
  refine YY (J:=Itr 0 2) (n:=2) (fun i σ G=>∃ (z3 z4 z5 z6:Option V) (tv:List V),σ=[some (.ref b),some (.ref NL),some (.ref TE),z3,z4,z5,z6,none,none]∧Zj H1 G∧G TE=some (.lst tv)∧tv.length=i∧∀ v∈tv,TeamAt a.C_Machine (hide TE G) v) ?_ (fun i σ G hi _=>hi) (fun σ G _=>Nat.le_refl _) ?_ ?_
  ·exact ⟨_,_,_,_,[],rfl,s2,eTE,rfl,fun v hv=>by cases hv⟩
  ·rintro i x σ G G0 hi ⟨z3,z4,z5,z6,tv,rfl,sG,gTE,ltv,hte⟩ ⟨rfl,rfl⟩
   have ei:(0:Int)+(i:Int)=((i:Nat):Int):=Int.zero_add _
   rw [ei]
   have hbG:=(s1.trans sG).seq hb
   have e1i:(1:Int)+(i:Int)=((1+i:Nat):Int):=by omega
   refine ⟨_,rfl,_,rfl,_,_,rfl,rfl,b,ns,1+i,by rw [e1i];rfl,hbG,fun c=>?_⟩
   refine ⟨sz4,fun l0 hl0=>?_⟩
   obtain ⟨G1,qN,v1,el0⟩:=YQ (o:=.lst [.int 7,.int 7,.int 4,.int 3]) hl0
   rw [qN];clear qN
   obtain ⟨m,hm,hm7⟩:∃ m:Nat,atI [V.int 7,.int 7,.int 4,.int 3] (c % 4)=some (.int (m:Int))∧m≤7:=by
    obtain ⟨_,v,hv,hvm⟩:=xo (ts:=[V.int 7,.int 7,.int 4,.int 3]) c (by simp)
    simp only [List.mem_cons,List.not_mem_nil,or_false] at hvm
    rcases hvm with rfl | rfl | rfl | rfl
    ·exact ⟨7,hv,by decide⟩
    ·exact ⟨7,hv,by decide⟩
    ·exact ⟨4,hv,by decide⟩
    ·exact ⟨3,hv,by decide⟩
   refine ⟨_,rfl,_,_,rfl,rfl,by decide,l0,_,_,_,rfl,rfl,SqL.of el0,hm,?_⟩
   have m0:=Int.emod_nonneg c (show (4:Int)≠0 by decide)
   have m1:=Int.emod_lt_of_pos c (show (0:Int)<4 by decide)
   obtain ⟨jj,ej⟩:=Int.eq_ofNat_of_zero_le m0
   have en:(1:Int)+c % 4=((1+jj:Nat):Int):=by omega
   refine ⟨_,rfl,_,_,rfl,rfl,by decide,_,_,rfl,rfl,_,congrArg (fun z=>[V.int z]) en,by omega,by omega,fun D hD=>?_⟩
   rw [show ((1+jj:Nat):Int).toNat=1+jj by omega]
   have hNG1:=(sG.trans v1) _ _ hN
   refine jz hD (by rw [sizeLine_eq];omega) (fun _ v F=>∃ d,qO F v d∧Wj d∧SmallM d) (fun _ v _ _ sm ⟨d,q,g⟩=>⟨d,q.mono sm,g⟩) ?_ ?_
   ·intro j F N hj sF hN'
    have e3:(3:Int)+4 * (i:Int)+(j:Int)=((3+4 * i+j:Nat):Int):=by omega
    refine ⟨_,rfl,_,rfl,_,rfl,_,_,rfl,rfl,.inl ⟨by decide,by decide⟩,_,_,rfl,rfl,_,rfl,_,_,rfl,rfl,b,ns,3+4 * i+j,by rw [e3];rfl,sF.seq (v1.seq hbG),fun cj=>?_⟩
    refine ⟨_,rfl,_,_,rfl,rfl,_,rfl,NL,_,_,m,rfl,sF _ _ hNG1,hl,hnm,hnd,hm7,fun F' t x y z u d sm ht0 ht pp gd sd=>hN' _ _ sm ⟨d,⟨t,x,y,z,u,rfl,New.mk ht0 ht,pp⟩,gd,sd⟩⟩
   intro G2 xs hD2 sG2 lxs rxs
   obtain ⟨ds,lds,hds⟩:=UH rxs
   have w2:=v1.trans sG2
   refine ⟨_,rfl,.inl ⟨rfl,_,SqL.of (w2 _ _ gTE)⟩,_,rfl,_,rfl,D,rfl,⟨_,SqL.of hD2⟩,fun D2 hD20=>?_⟩
   refine Xw (J:=Itl K D) (n:=xs.length) (fun j σ X=>∃ (z:Option V) (ys:List V) (ms:List MM),σ=[z]∧Zj G2 X∧X D2=some (.lst ys)∧ys.length=j∧ms.length=j∧∀ (q:Nat) v mm,ys[q]?=some v→ms[q]?=some mm→ds[q]?=some mm.d∧∃ p,v=.ref p∧XG a.C_Machine X p mm.d mm.us) ?_ ?_ ?_ ?_ ?_
   ·exact ⟨_,[],[],rfl,Zf hD20,Zd,rfl,rfl,fun q v mm e=>by simp at e⟩
   ·rintro j σ X hj ⟨z,ys,ms,rfl,sX,xD,ly,lm,hq⟩
    exact ⟨_,_,SqL.of (sX _ _ hD2),List.getElem?_eq_getElem hj⟩
   ·rintro σ X ⟨z,ys,ms,rfl,sX,xD,ly,lm,hq⟩
    exact ⟨_,SqL.of (sX _ _ hD2),Nat.le_refl _⟩
   ·rintro j x σ X X2 hj ⟨z,ys,ms,rfl,sX,xD,ly,lm,hq⟩ ⟨rfl,hx⟩ N N0 hN' hN0'
    have e:=hx _ (SqL.of (sX _ _ hD2))
    have hjd:j<ds.length:=by omega
    obtain ⟨⟨t,px,py,pz,pu,rfl,ht,pp⟩,gd,sd⟩:=hds j x _ e (List.getElem?_eq_getElem hjd)
    have sN:Zj (New G1 G2) X2:=New.sub.trans sX
    refine ⟨_,rfl,t,px,py,pz,pu,ds[j],rfl,sN _ _ ht,pp.mono sN,gd,fun X3 p us s3 ma=>?_⟩
    have xD3:=s3 _ _ xD
    refine hN' _ _ _ _ xD3 (by rw [sizeLine_eq];omega) ⟨_,ys++[.ref p],ms++[⟨ds[j],us⟩],rfl,(Zy.upd (Zj.x (sX.trans s3))).same hD20,Zd,by rw [List.length_append,ly];rfl,by rw [List.length_append,lm];rfl,fun q v mm e1 e2=>?_⟩
    rw [List.getElem?_append] at e1 e2
    rw [ly] at e1;rw [lm] at e2
    split at e1
    ·rename_i hqj
     rw [if_pos hqj] at e2
     obtain ⟨h1,p',h2,h3⟩:=hq q v mm e1 e2
     exact ⟨h1,p',h2,Ws (h3.mono s3) xD3⟩
    ·rename_i hqj
     rw [if_neg hqj] at e2
     cases hjj:q - j with
     | zero=>
      rw [hjj] at e1 e2;cases e1;cases e2
      have:q=j:=by omega
      subst this
      exact ⟨List.getElem?_eq_getElem hjd,p,rfl,Ws ma xD3⟩
     | succ q'=>rw [hjj] at e1;cases e1
   ·rintro σ X ⟨z,ys,ms,rfl,sX,xD,ly,lm,hq⟩
    have wX:=w2.trans sX
    refine ⟨_,rfl,_,rfl,_,_,rfl,rfl,⟨by decide,by decide⟩,NL,_,n0,n1,n2,rfl,(sG.trans wX) _ _ hN,fun x hx=>⟨hnm x hx,hzy x hx⟩,hnd,fun X2 l fs s5 hl50 hl5 fnd fnm f3=>?_⟩
    refine ⟨sz3,fun t ht=>?_⟩
    obtain ⟨X3,qN,s6,et⟩:=YQ (o:=.tup [.ref D,.ref D2,.ref l]) ht
    rw [qN];clear qN
    have s56:=s5.trans s6
    have gTE3:=(wX.trans s56) _ _ gTE
    refine ⟨TE,tv,_,rfl,rfl,gTE3,by rw [sizeLine_eq];omega,?_⟩
    have hids:∀ q (hq:q<ms.length),ds[q]?=some (ms[q]).d∧∃ p,ys[q]'(by omega)=.ref p∧XG a.C_Machine X p (ms[q]).d (ms[q]).us:=fun q hq'=>hq q _ _ (List.getElem?_eq_getElem (by omega)) (List.getElem?_eq_getElem hq')
    have goods:∀ mm∈ms,Wj mm.d∧SmallM mm.d∧Y5 mm.us mm.d.known:=fun mm hmm=>by
     obtain ⟨q,hq',rfl⟩:=List.getElem_of_mem hmm
     obtain ⟨h1,p,h2,h3⟩:=hids q hq'
     obtain ⟨_,gd,sd⟩:=hds q _ _ (List.getElem?_eq_getElem (show q<xs.length by omega)) h1
     obtain ⟨_,_,_,_,_,_,_,_,so⟩:=h3.ex
     exact ⟨gd,sd,so⟩
    have tm:Wc ms:=⟨by omega,by omega,fun mm h=>(goods mm h).1,fun mm h=>(goods mm h).2.2,fun mm h=>(goods mm h).2.1.s,fun mm h=>(goods mm h).2.1.k⟩
    have nD:D≠TE:=fun e=>by rw [e,v1 _ _ gTE] at hD;cases hD
    have nD2:D2≠TE:=fun e=>by rw [e,w2 _ _ gTE] at hD20;cases hD20
    have nl:l≠TE:=fun e=>by rw [e,wX _ _ gTE] at hl50;cases hl50
    have nt:t≠TE:=fun e=>by rw [e,gTE3] at et;cases et
    have tnew:TeamAt a.C_Machine (hide TE X3) (.ref t):=by
     refine ⟨t,D,D2,l,xs,ys,ms,fs,rfl,Yt nt et,Yt nD ((sX.trans s56) _ _ hD2),⟨by omega,fun q v mm e1 e2=>?_⟩,Yt nD2 (s56 _ _ xD),⟨by omega,fun q v mm e1 e2=>?_⟩,tm,Yt nl (s6 _ _ hl5),fnd,fnm,f3⟩
     ·have hqm:=(List.getElem?_eq_some_iff.mp e2).1
      have em:ms[q]=mm:=(List.getElem?_eq_some_iff.mp e2).2
      have h1:=(hids q hqm).1
      rw [em] at h1
      exact (hds q v _ e1 h1).1.mono ((New.mono (.refl _) (sX.trans s56)).trans (New.hidden (v1 _ _ gTE)))
     ·obtain ⟨_,p,h2,h3⟩:=hq q v mm e1 e2
      exact ⟨p,h2,mach_hide (h3.mono s56) gTE3⟩
    refine ⟨_,_,_,_,tv++[.ref t],rfl,(Zy.upd (Zj.x (sG.trans (wX.trans s56)))).same hTE0,Zd,by rw [List.length_append,ltv];rfl,fun v hv=>?_⟩
    rcases List.mem_append.mp hv with hv | hv
    ·exact (hte v hv).mono (Zy.hide ((Zj.x (wX.trans s56)).upd))
    ·cases List.mem_singleton.mp hv
     exact tnew.mono (Zy.hide ((Zj.x (.refl _)).upd))
  ·rintro σ G ⟨z3,z4,z5,z6,tv,rfl,sG,gTE,ltv,hte⟩
   obtain ⟨v0,v1,rfl⟩:∃ v0 v1,tv=[v0,v1]:=by
    match tv,ltv with
    | [a,b],_=>exact ⟨a,b,rfl⟩
   refine ⟨_,rfl,_,rfl,1,rfl,TE,_,rfl,SqL.of gTE,fun C hC=>?_⟩
   obtain ⟨G1,qN,w1,eC⟩:=YQ (o:=.lst (cutV [v0,v1] none (some 1))) hC
   rw [qN];clear qN
   have ec:cutV [v0,v1] none (some 1)=[v0]:=rfl
   rw [ec] at eC
   refine ⟨TE,C,_,_,rfl,rfl,w1 _ _ gTE,eC,sz3,fun L hL=>?_⟩
   obtain ⟨G2,qN,w2,eL⟩:=YQ (o:=.lst ([v0,v1]++[v0])) hL
   rw [qN];clear qN
   have all:∀ v∈[v0,v1]++[v0],TeamAt a.C_Machine G2 v:=fun v hv=>by
    have:v∈[v0,v1]:=by
     rcases List.mem_append.mp hv with h | h
     ·exact h
     ·cases List.mem_singleton.mp h;simp
    exact (hte v this).mono (YV.trans (w1.trans w2))
   generalize [v0,v1]++[v0]=tl at eL all
   refine ⟨L,rfl,⟨_,SqL.of eL⟩,?_⟩
   refine YY (J:=Itl K L) (n:=tl.length) (fun i σ X=>∃ z6 z7 z8:Option V,σ=[some (.ref b),some (.ref NL),some (.ref TE),z3,z4,z5,z6,z7,z8]∧Zj G2 X) ?_ ?_ ?_ ?_ ?_
   ·exact ⟨_,_,_,rfl,.refl _⟩
   ·rintro i σ X hi ⟨z6,z7,z8,rfl,sX⟩
    exact ⟨_,_,SqL.of (sX _ _ eL),List.getElem?_eq_getElem hi⟩
   ·rintro σ X ⟨z6,z7,z8,rfl,sX⟩
    exact ⟨_,SqL.of (sX _ _ eL),Nat.le_refl _⟩
   ·rintro i x σ X X2 hi ⟨z6,z7,z8,rfl,sX⟩ ⟨rfl,hx⟩
    have e:=hx _ (SqL.of (sX _ _ eL))
    obtain ⟨t,ps,pm,f,xs,ys,ms,fs,rfl,h1,h2,h3,h4,h5,h6,h7,h8,h9,h10⟩:=(all x (List.mem_of_getElem? e)).mono sX
    refine ⟨t,_,rfl,SqT.of h1,rfl,_,_,rfl,_,_,rfl,_,_,rfl,rfl,?_⟩
    exact ⟨_,rfl,_,rfl,_,rfl,ps,pm,xs,ys,ms,f,fs,rfl,h2,h3,h4,h5,h6,h7,h8,h9,h10,fun X3 s3=>⟨true,rfl,Wm (fun c=>absurd c (by decide)) fun _=>⟨_,_,_,rfl,sX.trans s3⟩⟩⟩
   ·rintro σ X ⟨z6,z7,z8,rfl,sX⟩
    exact k X
def spL (K:PySem.W.Frag):Sp:=fun vs H Q _=>∃ (p:Addr) (ns:List Int),vs=[.ref p]∧SqL K H p (ns.map V.int)∧ns.length≤63∧∀ H',Q (.bl true) H'
theorem all_mk {l:PySem.W.OpenLaw}{w:World}{K:PySem.W.Frag}{h:Heap}{mg:Str→Option Value}{fa:Addr} (X:K.In h) (G:h.Ns mainGlobals mg) (hfa:mg "law" = some (.ref fa))
  {f0 f1 f2 f3 f4 f5 f6 f7 f8 f9 f10 f11 f12 f13 f14 f15 f16 f17 f18 f19 f20 f21 f22 f23 f24 f25 f26 f27 f28 f29 f30 f31:Addr}
  {C_World C_Machine C_TimeError C_BadWorld C_BadMachine C_TooMany:Addr}
  {od0 an0 od1 an1 od2 an2 od3 an3 od4 an4 od5 an5 od6 an6 od7 an7 od8 an8 od9 an9 od10 an10 od11 an11 od12 an12 od13 an13 od14 an14 od15 an15 od16 an16 od17 an17 od18 an18 od19 an19 od20 an20 od21 an21 od22 an22 od23 an23 od24 an24 od25 an25 od26 an26 od27 an27 od28 an28 od29 an29 od30 an30 od31 an31:Option Addr}
  {sl0 sl1 sl2 sl3 sl4 sl5 sl6 sl7 sl8 sl9 sl10 sl11 sl12 sl13 sl14 sl15 sl16 sl17 sl18 sl19 sl20 sl21 sl22 sl23 sl24 sl25 sl26 sl27 sl28 sl29 sl30 sl31:Array (Option Value)}
  {oc0 kV0 dc0 pm0 cd0 ct0 oc1 kV1 dc1 pm1 cd1 ct1 oc2 kV2 dc2 pm2 cd2 ct2 oc3 kV3 dc3 pm3 cd3 ct3 oc4 kV4 dc4 pm4 cd4 ct4 oc5 kV5 dc5 pm5 cd5 ct5 oc6 kV6 dc6 pm6 cd6 ct6 oc7 kV7 dc7 pm7 cd7 ct7 oc8 kV8 dc8 pm8 cd8 ct8 oc9 kV9 dc9 pm9 cd9 ct9 oc10 kV10 dc10 pm10 cd10 ct10 oc11 kV11 dc11 pm11 cd11 ct11 oc12 kV12 dc12 pm12 cd12 ct12 oc13 kV13 dc13 pm13 cd13 ct13 oc14 kV14 dc14 pm14 cd14 ct14 oc15 kV15 dc15 pm15 cd15 ct15 oc16 kV16 dc16 pm16 cd16 ct16 oc17 kV17 dc17 pm17 cd17 ct17 oc18 kV18 dc18 pm18 cd18 ct18 oc19 kV19 dc19 pm19 cd19 ct19 oc20 kV20 dc20 pm20 cd20 ct20 oc21 kV21 dc21 pm21 cd21 ct21 oc22 kV22 dc22 pm22 cd22 ct22 oc23 kV23 dc23 pm23 cd23 ct23 oc24 kV24 dc24 pm24 cd24 ct24 oc25 kV25 dc25 pm25 cd25 ct25 oc26 kV26 dc26 pm26 cd26 ct26 oc27 kV27 dc27 pm27 cd27 ct27 oc28 kV28 dc28 pm28 cd28 ct28 oc29 kV29 dc29 pm29 cd29 ct29 oc30 kV30 dc30 pm30 cd30 ct30 oc31 kV31 dc31 pm31 cd31 ct31:Value}
  {tk_LETTERS tk_MOST_LETTERS tk_MOST_ROOMS tk_MOST_FAIR tk_MOST_MACHINE_ROOMS tk_MOST_MACHINES:Tok}
  {dt13:Addr}{dto13:Value}{dtd13:Option Addr}{dtn13:Nat}{dts13:Array (Option Value)}
  (aC_World:PySem.W.nsIn K mainGlobals "World" = some (some (.ref C_World)))
  (aC_Machine:PySem.W.nsIn K mainGlobals "Machine" = some (some (.ref C_Machine)))
  (aC_TimeError:PySem.W.nsIn K mainGlobals "TimeError" = some (some (.ref C_TimeError)))
  (aC_BadWorld:PySem.W.nsIn K mainGlobals "BadWorld" = some (some (.ref C_BadWorld)))
  (aC_BadMachine:PySem.W.nsIn K mainGlobals "BadMachine" = some (some (.ref C_BadMachine)))
  (aC_TooMany:PySem.W.nsIn K mainGlobals "TooMany" = some (some (.ref C_TooMany)))
  (a0:PySem.W.nsIn K mainGlobals "is_whole" = some (some (.ref f0)))
  (l0:K.lookup f0=some ⟨oc0,od0,.func (PySem.W.fnOf "is_whole" "is_whole" (Zn Xb) (Zl Xb) (Zc Xb) .none kV0 dc0 pm0 an0 cd0 ct0),sl0⟩)
  (c0:PySem.W.codeIn K cd0 "is_whole" = true)
  (k0:PySem.W.keepIn K (.ref f0)=true)
  (a1:PySem.W.nsIn K mainGlobals "is_name" = some (some (.ref f1)))
  (l1:K.lookup f1=some ⟨oc1,od1,.func (PySem.W.fnOf "is_name" "is_name" (Zn Xd) (Zl Xd) (Zc Xd) .none kV1 dc1 pm1 an1 cd1 ct1),sl1⟩)
  (c1:PySem.W.codeIn K cd1 "is_name" = true)
  (k1:PySem.W.keepIn K (.ref f1)=true)
  (a2:PySem.W.nsIn K mainGlobals "is_room" = some (some (.ref f2)))
  (l2:K.lookup f2=some ⟨oc2,od2,.func (PySem.W.fnOf "is_room" "is_room" (Zn Xk) (Zl Xk) (Zc Xk) .none kV2 dc2 pm2 an2 cd2 ct2),sl2⟩)
  (c2:PySem.W.codeIn K cd2 "is_room" = true)
  (k2:PySem.W.keepIn K (.ref f2)=true)
  (a3:PySem.W.nsIn K mainGlobals "are_names" = some (some (.ref f3)))
  (l3:K.lookup f3=some ⟨oc3,od3,.func (PySem.W.fnOf "are_names" "are_names" (Zn YH) (Zl YH) (Zc YH) .none kV3 dc3 pm3 an3 cd3 ct3),sl3⟩)
  (c3:PySem.W.codeIn K cd3 "are_names" = true)
  (k3:PySem.W.keepIn K (.ref f3)=true)
  (a4:PySem.W.nsIn K mainGlobals "are_rooms" = some (some (.ref f4)))
  (l4:K.lookup f4=some ⟨oc4,od4,.func (PySem.W.fnOf "are_rooms" "are_rooms" (Zn YI) (Zl YI) (Zc YI) .none kV4 dc4 pm4 an4 cd4 ct4),sl4⟩)
  (c4:PySem.W.codeIn K cd4 "are_rooms" = true)
  (k4:PySem.W.keepIn K (.ref f4)=true)
  (a5:PySem.W.findIn K (.ref C_World) "__init__" = some (some (.ref f5)))
  (i5:PySem.W.isFn K (.ref f5)=true)
  (l5:K.lookup f5=some ⟨oc5,od5,.func (PySem.W.fnOf "__init__" "World.__init__" (Zn Yj) (Zl Yj) (Zc Yj) .none kV5 dc5 pm5 an5 cd5 ct5),sl5⟩)
  (c5:PySem.W.codeIn K cd5 "World.__init__" = true)
  (k5:PySem.W.keepIn K (.ref f5)=true)
  (a6:PySem.W.findIn K (.ref C_World) "many" = some (some (.ref f6)))
  (i6:PySem.W.isFn K (.ref f6)=true)
  (l6:K.lookup f6=some ⟨oc6,od6,.func (PySem.W.fnOf "many" "World.many" (Zn YC) (Zl YC) (Zc YC) .none kV6 dc6 pm6 an6 cd6 ct6),sl6⟩)
  (c6:PySem.W.codeIn K cd6 "World.many" = true)
  (k6:PySem.W.keepIn K (.ref f6)=true)
  (a7:PySem.W.findIn K (.ref C_World) "signs_of" = some (some (.ref f7)))
  (i7:PySem.W.isFn K (.ref f7)=true)
  (l7:K.lookup f7=some ⟨oc7,od7,.func (PySem.W.fnOf "signs_of" "World.signs_of" (Zn ZZ) (Zl ZZ) (Zc ZZ) .none kV7 dc7 pm7 an7 cd7 ct7),sl7⟩)
  (c7:PySem.W.codeIn K cd7 "World.signs_of" = true)
  (k7:PySem.W.keepIn K (.ref f7)=true)
  (a8:PySem.W.findIn K (.ref C_World) "ways_on" = some (some (.ref f8)))
  (i8:PySem.W.isFn K (.ref f8)=true)
  (l8:K.lookup f8=some ⟨oc8,od8,.func (PySem.W.fnOf "ways_on" "World.ways_on" (Zn Z7) (Zl Z7) (Zc Z7) .none kV8 dc8 pm8 an8 cd8 ct8),sl8⟩)
  (c8:PySem.W.codeIn K cd8 "World.ways_on" = true)
  (k8:PySem.W.keepIn K (.ref f8)=true)
  (a9:PySem.W.findIn K (.ref C_World) "begins" = some (some (.ref f9)))
  (i9:PySem.W.isFn K (.ref f9)=true)
  (l9:K.lookup f9=some ⟨oc9,od9,.func (PySem.W.fnOf "begins" "World.begins" (Zn Ye) (Zl Ye) (Zc Ye) .none kV9 dc9 pm9 an9 cd9 ct9),sl9⟩)
  (c9:PySem.W.codeIn K cd9 "World.begins" = true)
  (k9:PySem.W.keepIn K (.ref f9)=true)
  (a10:PySem.W.findIn K (.ref C_World) "fair_signs" = some (some (.ref f10)))
  (i10:PySem.W.isFn K (.ref f10)=true)
  (l10:K.lookup f10=some ⟨oc10,od10,.func (PySem.W.fnOf "fair_signs" "World.fair_signs" (Zn ZI) (Zl ZI) (Zc ZI) .none kV10 dc10 pm10 an10 cd10 ct10),sl10⟩)
  (c10:PySem.W.codeIn K cd10 "World.fair_signs" = true)
  (k10:PySem.W.keepIn K (.ref f10)=true)
  (a11:PySem.W.nsIn K mainGlobals "makes_world" = some (some (.ref f11)))
  (l11:K.lookup f11=some ⟨oc11,od11,.func (PySem.W.fnOf "makes_world" "makes_world" (Zn Z8) (Zl Z8) (Zc Z8) .none kV11 dc11 pm11 an11 cd11 ct11),sl11⟩)
  (c11:PySem.W.codeIn K cd11 "makes_world" = true)
  (k11:PySem.W.keepIn K (.ref f11)=true)
  (a12:PySem.W.nsIn K mainGlobals "are_some_rooms" = some (some (.ref f12)))
  (l12:K.lookup f12=some ⟨oc12,od12,.func (PySem.W.fnOf "are_some_rooms" "are_some_rooms" (Zn ZX) (Zl ZX) (Zc ZX) .none kV12 dc12 pm12 an12 cd12 ct12),sl12⟩)
  (c12:PySem.W.codeIn K cd12 "are_some_rooms" = true)
  (k12:PySem.W.keepIn K (.ref f12)=true)
  (a13:PySem.W.findIn K (.ref C_Machine) "__init__" = some (some (.ref f13)))
  (i13:PySem.W.isFn K (.ref f13)=true)
  (l13:K.lookup f13=some ⟨oc13,od13,.func (PySem.W.fnOf "__init__" "Machine.__init__" (Zn ZQ) (Zl ZQ) (Zc ZQ) (.ref dt13) kV13 dc13 pm13 an13 cd13 ct13),sl13⟩)
  (ld13:K.lookup dt13=some ⟨dto13,dtd13,.seq #[.none] dtn13,dts13⟩)
  (c13:PySem.W.codeIn K cd13 "Machine.__init__" = true)
  (k13:PySem.W.keepIn K (.ref f13)=true)
  (a14:PySem.W.findIn K (.ref C_Machine) "goes_to" = some (some (.ref f14)))
  (i14:PySem.W.isFn K (.ref f14)=true)
  (l14:K.lookup f14=some ⟨oc14,od14,.func (PySem.W.fnOf "goes_to" "Machine.goes_to" (Zn ZG) (Zl ZG) (Zc ZG) .none kV14 dc14 pm14 an14 cd14 ct14),sl14⟩)
  (c14:PySem.W.codeIn K cd14 "Machine.goes_to" = true)
  (k14:PySem.W.keepIn K (.ref f14)=true)
  (a15:PySem.W.nsIn K mainGlobals "makes_machine" = some (some (.ref f15)))
  (l15:K.lookup f15=some ⟨oc15,od15,.func (PySem.W.fnOf "makes_machine" "makes_machine" (Zn ZO) (Zl ZO) (Zc ZO) .none kV15 dc15 pm15 an15 cd15 ct15),sl15⟩)
  (c15:PySem.W.codeIn K cd15 "makes_machine" = true)
  (k15:PySem.W.keepIn K (.ref f15)=true)
  (a16:PySem.W.nsIn K mainGlobals "is_move" = some (some (.ref f16)))
  (l16:K.lookup f16=some ⟨oc16,od16,.func (PySem.W.fnOf "is_move" "is_move" (Zn Xl) (Zl Xl) (Zc Xl) .none kV16 dc16 pm16 an16 cd16 ct16),sl16⟩)
  (c16:PySem.W.codeIn K cd16 "is_move" = true)
  (k16:PySem.W.keepIn K (.ref f16)=true)
  (a17:PySem.W.nsIn K mainGlobals "are_machines" = some (some (.ref f17)))
  (l17:K.lookup f17=some ⟨oc17,od17,.func (PySem.W.fnOf "are_machines" "are_machines" (Zn Z5) (Zl Z5) (Zc Z5) .none kV17 dc17 pm17 an17 cd17 ct17),sl17⟩)
  (c17:PySem.W.codeIn K cd17 "are_machines" = true)
  (k17:PySem.W.keepIn K (.ref f17)=true)
  (a18:PySem.W.nsIn K mainGlobals "beside" = some (some (.ref f18)))
  (l18:K.lookup f18=some ⟨oc18,od18,.func (PySem.W.fnOf "beside" "beside" (Zn Y8) (Zl Y8) (Zc Y8) .none kV18 dc18 pm18 an18 cd18 ct18),sl18⟩)
  (c18:PySem.W.codeIn K cd18 "beside" = true)
  (k18:PySem.W.keepIn K (.ref f18)=true)
  (a19:PySem.W.nsIn K mainGlobals "places_on" = some (some (.ref f19)))
  (l19:K.lookup f19=some ⟨oc19,od19,.func (PySem.W.fnOf "places_on" "places_on" (Zn Yw) (Zl Yw) (Zc Yw) .none kV19 dc19 pm19 an19 cd19 ct19),sl19⟩)
  (c19:PySem.W.codeIn K cd19 "places_on" = true)
  (k19:PySem.W.keepIn K (.ref f19)=true)
  (a20:PySem.W.nsIn K mainGlobals "signs_at" = some (some (.ref f20)))
  (l20:K.lookup f20=some ⟨oc20,od20,.func (PySem.W.fnOf "signs_at" "signs_at" (Zn YW) (Zl YW) (Zc YW) .none kV20 dc20 pm20 an20 cd20 ct20),sl20⟩)
  (c20:PySem.W.codeIn K cd20 "signs_at" = true)
  (k20:PySem.W.keepIn K (.ref f20)=true)
  (a21:PySem.W.nsIn K mainGlobals "_law_cell_at" = some (some (.ref f21)))
  (l21:K.lookup f21=some ⟨oc21,od21,.func (PySem.W.fnOf "_law_cell_at" "_law_cell_at" (Zn Yg) (Zl Yg) (Zc Yg) .none kV21 dc21 pm21 an21 cd21 ct21),sl21⟩)
  (c21:PySem.W.codeIn K cd21 "_law_cell_at" = true)
  (k21:PySem.W.keepIn K (.ref f21)=true)
  (a22:PySem.W.nsIn K mainGlobals "_law_stream" = some (some (.ref f22)))
  (l22:K.lookup f22=some ⟨oc22,od22,.func (PySem.W.fnOf "_law_stream" "_law_stream" (Zn Yn) (Zl Yn) (Zc Yn) .none kV22 dc22 pm22 an22 cd22 ct22),sl22⟩)
  (c22:PySem.W.codeIn K cd22 "_law_stream" = true)
  (k22:PySem.W.keepIn K (.ref f22)=true)
  (a23:PySem.W.nsIn K mainGlobals "_law_names" = some (some (.ref f23)))
  (l23:K.lookup f23=some ⟨oc23,od23,.func (PySem.W.fnOf "_law_names" "_law_names" (Zn Yq) (Zl Yq) (Zc Yq) .none kV23 dc23 pm23 an23 cd23 ct23),sl23⟩)
  (c23:PySem.W.codeIn K cd23 "_law_names" = true)
  (k23:PySem.W.keepIn K (.ref f23)=true)
  (a24:PySem.W.nsIn K mainGlobals "_law_machine" = some (some (.ref f24)))
  (l24:K.lookup f24=some ⟨oc24,od24,.func (PySem.W.fnOf "_law_machine" "_law_machine" (Zn Z3) (Zl Z3) (Zc Z3) .none kV24 dc24 pm24 an24 cd24 ct24),sl24⟩)
  (c24:PySem.W.codeIn K cd24 "_law_machine" = true)
  (k24:PySem.W.keepIn K (.ref f24)=true)
  (a25:PySem.W.nsIn K mainGlobals "_law_built" = some (some (.ref f25)))
  (l25:K.lookup f25=some ⟨oc25,od25,.func (PySem.W.fnOf "_law_built" "_law_built" (Zn Yp) (Zl Yp) (Zc Yp) .none kV25 dc25 pm25 an25 cd25 ct25),sl25⟩)
  (c25:PySem.W.codeIn K cd25 "_law_built" = true)
  (k25:PySem.W.keepIn K (.ref f25)=true)
  (a26:PySem.W.nsIn K mainGlobals "_law_rows" = some (some (.ref f26)))
  (l26:K.lookup f26=some ⟨oc26,od26,.func (PySem.W.fnOf "_law_rows" "_law_rows" (Zn Yl) (Zl Yl) (Zc Yl) .none kV26 dc26 pm26 an26 cd26 ct26),sl26⟩)
  (c26:PySem.W.codeIn K cd26 "_law_rows" = true)
  (k26:PySem.W.keepIn K (.ref f26)=true)
  (a27:PySem.W.nsIn K mainGlobals "_law_beside" = some (some (.ref f27)))
  (l27:K.lookup f27=some ⟨oc27,od27,.func (PySem.W.fnOf "_law_beside" "_law_beside" (Zn Z6) (Zl Z6) (Zc Z6) .none kV27 dc27 pm27 an27 cd27 ct27),sl27⟩)
  (c27:PySem.W.codeIn K cd27 "_law_beside" = true)
  (k27:PySem.W.keepIn K (.ref f27)=true)
  (a28:PySem.W.nsIn K mainGlobals "_law_fair" = some (some (.ref f28)))
  (l28:K.lookup f28=some ⟨oc28,od28,.func (PySem.W.fnOf "_law_fair" "_law_fair" (Zn YU) (Zl YU) (Zc YU) .none kV28 dc28 pm28 an28 cd28 ct28),sl28⟩)
  (c28:PySem.W.codeIn K cd28 "_law_fair" = true)
  (k28:PySem.W.keepIn K (.ref f28)=true)
  (a29:PySem.W.nsIn K mainGlobals "_law_told" = some (some (.ref f29)))
  (l29:K.lookup f29=some ⟨oc29,od29,.func (PySem.W.fnOf "_law_told" "_law_told" (Zn YS) (Zl YS) (Zc YS) .none kV29 dc29 pm29 an29 cd29 ct29),sl29⟩)
  (c29:PySem.W.codeIn K cd29 "_law_told" = true)
  (k29:PySem.W.keepIn K (.ref f29)=true)
  (a30:PySem.W.nsIn K mainGlobals "_law_right" = some (some (.ref f30)))
  (l30:K.lookup f30=some ⟨oc30,od30,.func (PySem.W.fnOf "_law_right" "_law_right" (Zn Yk) (Zl Yk) (Zc Yk) .none kV30 dc30 pm30 an30 cd30 ct30),sl30⟩)
  (c30:PySem.W.codeIn K cd30 "_law_right" = true)
  (k30:PySem.W.keepIn K (.ref f30)=true)
  (a31:PySem.W.nsIn K mainGlobals "law" = some (some (.ref f31)))
  (l31:K.lookup f31=some ⟨oc31,od31,.func (PySem.W.fnOf "law" "law" (Zn Ww) (Zl Ww) (Zc Ww) .none kV31 dc31 pm31 an31 cd31 ct31),sl31⟩)
  (c31:PySem.W.codeIn K cd31 "law" = true)
  (k31:PySem.W.keepIn K (.ref f31)=true)
  (pg_World:PySem.W.plainGet K C_World Str.empty=true)
  (hd_World:PySem.W.hasDictIn K C_World=true)
  (po_World:PySem.W.plainOver K C_World=true)
  (sa_World:PySem.W.findIn K (.ref C_World) "__setattr__" = some (some (.builtin "object.__setattr__")))
  (mk_World:PySem.W.makesIn K C_World=true)
  (kc_World:PySem.W.keepIn K (.ref C_World)=true)
  (t1_World:PySem.W.findIn K (.ref C_World) "__class__" = some (some (.builtin "object.__class__")))
  (t2_World:PySem.W.specialIn K (.builtin "object.__class__") "__get__" = some (some (.builtin "getset_descriptor.__get__")))
  (t3_World:PySem.W.takesIn K (.builtin "object.__class__")=some true)
  (t4_World:PySem.W.mroIn K C_World (.type "object")=some true)
  (n_World_room_signs:PySem.W.findIn K (.ref C_World) "room_signs" = some none)
  (n_World_room_ways:PySem.W.findIn K (.ref C_World) "room_ways" = some none)
  (n_World_start_rooms:PySem.W.findIn K (.ref C_World) "start_rooms" = some none)
  (n_World_fair_names:PySem.W.findIn K (.ref C_World) "fair_names" = some none)
  (pg_Machine:PySem.W.plainGet K C_Machine Str.empty=true)
  (hd_Machine:PySem.W.hasDictIn K C_Machine=true)
  (po_Machine:PySem.W.plainOver K C_Machine=true)
  (sa_Machine:PySem.W.findIn K (.ref C_Machine) "__setattr__" = some (some (.builtin "object.__setattr__")))
  (mk_Machine:PySem.W.makesIn K C_Machine=true)
  (kc_Machine:PySem.W.keepIn K (.ref C_Machine)=true)
  (t1_Machine:PySem.W.findIn K (.ref C_Machine) "__class__" = some (some (.builtin "object.__class__")))
  (t2_Machine:PySem.W.specialIn K (.builtin "object.__class__") "__get__" = some (some (.builtin "getset_descriptor.__get__")))
  (t3_Machine:PySem.W.takesIn K (.builtin "object.__class__")=some true)
  (t4_Machine:PySem.W.mroIn K C_Machine (.type "object")=some true)
  (n_Machine_room_signs:PySem.W.findIn K (.ref C_Machine) "room_signs" = some none)
  (n_Machine_moves:PySem.W.findIn K (.ref C_Machine) "moves" = some none)
  (n_Machine_start:PySem.W.findIn K (.ref C_Machine) "start" = some none)
  (n_Machine_words:PySem.W.findIn K (.ref C_Machine) "words" = some none)
  (z_ValueError:PySem.W.nsIn K mainGlobals "ValueError" = some none)
  (z_all:PySem.W.nsIn K mainGlobals "all" = some none)
  (z_len:PySem.W.nsIn K mainGlobals "len" = some none)
  (z_sorted:PySem.W.nsIn K mainGlobals "sorted" = some none)
  (z_range:PySem.W.nsIn K mainGlobals "range" = some none)
  (z_zip:PySem.W.nsIn K mainGlobals "zip" = some none)
  (z_isinstance:PySem.W.nsIn K mainGlobals "isinstance" = some none)
  (z_int:PySem.W.nsIn K mainGlobals "int" = some none)
  (z_list:PySem.W.nsIn K mainGlobals "list" = some none)
  (z_tuple:PySem.W.nsIn K mainGlobals "tuple" = some none)
  (z_bool:PySem.W.nsIn K mainGlobals "bool" = some none)
  (z_str:PySem.W.nsIn K mainGlobals "str" = some none)
  (z_set:PySem.W.nsIn K mainGlobals "set" = some none)
  (z_any:PySem.W.nsIn K mainGlobals "any" = some none)
  (z_enumerate:PySem.W.nsIn K mainGlobals "enumerate" = some none)
  (x_LETTERS:PySem.W.nsIn K mainGlobals "LETTERS" = some (some (.str "abcdefghijklmnopqrstuvwxyz" tk_LETTERS)))
  (x_MOST_LETTERS:PySem.W.nsIn K mainGlobals "MOST_LETTERS" = some (some (.int 8 tk_MOST_LETTERS)))
  (x_MOST_ROOMS:PySem.W.nsIn K mainGlobals "MOST_ROOMS" = some (some (.int 20 tk_MOST_ROOMS)))
  (x_MOST_FAIR:PySem.W.nsIn K mainGlobals "MOST_FAIR" = some (some (.int 3 tk_MOST_FAIR)))
  (x_MOST_MACHINE_ROOMS:PySem.W.nsIn K mainGlobals "MOST_MACHINE_ROOMS" = some (some (.int 6 tk_MOST_MACHINE_ROOMS)))
  (x_MOST_MACHINES:PySem.W.nsIn K mainGlobals "MOST_MACHINES" = some (some (.int 4 tk_MOST_MACHINES)))
  (xc_TimeError:PySem.W.excIn K C_TimeError [.type "ValueError",.type "Exception",.type "BaseException",.type "object"] "ValueError.__new__" = true)
  (xc_BadWorld:PySem.W.excIn K C_BadWorld [.type "ValueError",.type "Exception",.type "BaseException",.type "object"] "ValueError.__new__" = true)
  (xc_BadMachine:PySem.W.excIn K C_BadMachine [.type "ValueError",.type "Exception",.type "BaseException",.type "object"] "ValueError.__new__" = true)
  (xc_TooMany:PySem.W.excIn K C_TooMany [.type "ValueError",.type "Exception",.type "BaseException",.type "object"] "ValueError.__new__" = true)
  (xgt:PySem.W.specialIn K (.builtin "object.__class__") "__get__" = some (some (.builtin "getset_descriptor.__get__")))
  (xtk:PySem.W.takesIn K (.builtin "object.__class__")=some true)
  (xga_BadWorld:PySem.W.findIn K (.ref C_BadWorld) "__getattribute__" = some (some (.builtin "BaseException.__getattribute__")))
  (xgh_BadWorld:PySem.W.findIn K (.ref C_BadWorld) "__getattr__" = some none)
  (xob_BadWorld:PySem.W.mroIn K C_BadWorld (.type "object")=some true)
  (xbe_BadWorld:PySem.W.mroIn K C_BadWorld (.type "BaseException")=some true)
  (xcl_BadWorld:PySem.W.findIn K (.ref C_BadWorld) "__class__" = some (some (.builtin "object.__class__")))
  (xhd_BadWorld:PySem.W.hasDictIn K C_BadWorld=true)
  (xga_TooMany:PySem.W.findIn K (.ref C_TooMany) "__getattribute__" = some (some (.builtin "BaseException.__getattribute__")))
  (xgh_TooMany:PySem.W.findIn K (.ref C_TooMany) "__getattr__" = some none)
  (xob_TooMany:PySem.W.mroIn K C_TooMany (.type "object")=some true)
  (xbe_TooMany:PySem.W.mroIn K C_TooMany (.type "BaseException")=some true)
  (xcl_TooMany:PySem.W.findIn K (.ref C_TooMany) "__class__" = some (some (.builtin "object.__class__")))
  (xhd_TooMany:PySem.W.hasDictIn K C_TooMany=true)
  (ex_TooMany:PySem.W.exmOne K (.ref C_TooMany) (.ref C_TooMany)=some true)
  (i1_TooMany:PySem.W.kitOne K (.ref C_TooMany) (.ref C_TimeError)=some true)
  (i3_TooMany:PySem.W.kitOne K (.ref C_TooMany) (.type "ValueError")=some true)
  (n2_TooMany:PySem.W.kitAny K (.ref C_TooMany) [.ref C_BadMachine,.ref C_BadWorld]=some false) :
  ∃ fd:FuncData,(∀ (s:Shared) (v:Value),BindsTo s fd ⟨[v],[]⟩ [("_law_script",v)])∧∀ base:Heap,K.In base→base.Ns mainGlobals mg→Yy l.prog w K mg base CX0 11 fa fd ["_law_script"] (spL K):=by
 have e:=hfa.symm.trans (PySem.W.mg_of X G a31)
 cases e
 have T:Txt K mg { is_whole:=f0,is_whole_fd:=PySem.W.fnOf "is_whole" "is_whole" (Zn Xb) (Zl Xb) (Zc Xb) .none kV0 dc0 pm0 an0 cd0 ct0,is_name:=f1,is_name_fd:=PySem.W.fnOf "is_name" "is_name" (Zn Xd) (Zl Xd) (Zc Xd) .none kV1 dc1 pm1 an1 cd1 ct1,is_room:=f2,is_room_fd:=PySem.W.fnOf "is_room" "is_room" (Zn Xk) (Zl Xk) (Zc Xk) .none kV2 dc2 pm2 an2 cd2 ct2,are_names:=f3,are_names_fd:=PySem.W.fnOf "are_names" "are_names" (Zn YH) (Zl YH) (Zc YH) .none kV3 dc3 pm3 an3 cd3 ct3,are_rooms:=f4,are_rooms_fd:=PySem.W.fnOf "are_rooms" "are_rooms" (Zn YI) (Zl YI) (Zc YI) .none kV4 dc4 pm4 an4 cd4 ct4,World_init:=f5,World_init_fd:=PySem.W.fnOf "__init__" "World.__init__" (Zn Yj) (Zl Yj) (Zc Yj) .none kV5 dc5 pm5 an5 cd5 ct5,World_many:=f6,World_many_fd:=PySem.W.fnOf "many" "World.many" (Zn YC) (Zl YC) (Zc YC) .none kV6 dc6 pm6 an6 cd6 ct6,World_signs_of:=f7,World_signs_of_fd:=PySem.W.fnOf "signs_of" "World.signs_of" (Zn ZZ) (Zl ZZ) (Zc ZZ) .none kV7 dc7 pm7 an7 cd7 ct7,World_ways_on:=f8,World_ways_on_fd:=PySem.W.fnOf "ways_on" "World.ways_on" (Zn Z7) (Zl Z7) (Zc Z7) .none kV8 dc8 pm8 an8 cd8 ct8,World_begins:=f9,World_begins_fd:=PySem.W.fnOf "begins" "World.begins" (Zn Ye) (Zl Ye) (Zc Ye) .none kV9 dc9 pm9 an9 cd9 ct9,World_fair_signs:=f10,World_fair_signs_fd:=PySem.W.fnOf "fair_signs" "World.fair_signs" (Zn ZI) (Zl ZI) (Zc ZI) .none kV10 dc10 pm10 an10 cd10 ct10,makes_world:=f11,makes_world_fd:=PySem.W.fnOf "makes_world" "makes_world" (Zn Z8) (Zl Z8) (Zc Z8) .none kV11 dc11 pm11 an11 cd11 ct11,are_some_rooms:=f12,are_some_rooms_fd:=PySem.W.fnOf "are_some_rooms" "are_some_rooms" (Zn ZX) (Zl ZX) (Zc ZX) .none kV12 dc12 pm12 an12 cd12 ct12,Machine_init:=f13,Machine_init_fd:=PySem.W.fnOf "__init__" "Machine.__init__" (Zn ZQ) (Zl ZQ) (Zc ZQ) (.ref dt13) kV13 dc13 pm13 an13 cd13 ct13,Machine_init_dt:=dt13,Machine_goes_to:=f14,Machine_goes_to_fd:=PySem.W.fnOf "goes_to" "Machine.goes_to" (Zn ZG) (Zl ZG) (Zc ZG) .none kV14 dc14 pm14 an14 cd14 ct14,makes_machine:=f15,makes_machine_fd:=PySem.W.fnOf "makes_machine" "makes_machine" (Zn ZO) (Zl ZO) (Zc ZO) .none kV15 dc15 pm15 an15 cd15 ct15,is_move:=f16,is_move_fd:=PySem.W.fnOf "is_move" "is_move" (Zn Xl) (Zl Xl) (Zc Xl) .none kV16 dc16 pm16 an16 cd16 ct16,are_machines:=f17,are_machines_fd:=PySem.W.fnOf "are_machines" "are_machines" (Zn Z5) (Zl Z5) (Zc Z5) .none kV17 dc17 pm17 an17 cd17 ct17,beside:=f18,beside_fd:=PySem.W.fnOf "beside" "beside" (Zn Y8) (Zl Y8) (Zc Y8) .none kV18 dc18 pm18 an18 cd18 ct18,places_on:=f19,places_on_fd:=PySem.W.fnOf "places_on" "places_on" (Zn Yw) (Zl Yw) (Zc Yw) .none kV19 dc19 pm19 an19 cd19 ct19,signs_at:=f20,signs_at_fd:=PySem.W.fnOf "signs_at" "signs_at" (Zn YW) (Zl YW) (Zc YW) .none kV20 dc20 pm20 an20 cd20 ct20,_law_cell_at:=f21,_law_cell_at_fd:=PySem.W.fnOf "_law_cell_at" "_law_cell_at" (Zn Yg) (Zl Yg) (Zc Yg) .none kV21 dc21 pm21 an21 cd21 ct21,_law_stream:=f22,_law_stream_fd:=PySem.W.fnOf "_law_stream" "_law_stream" (Zn Yn) (Zl Yn) (Zc Yn) .none kV22 dc22 pm22 an22 cd22 ct22,_law_names:=f23,_law_names_fd:=PySem.W.fnOf "_law_names" "_law_names" (Zn Yq) (Zl Yq) (Zc Yq) .none kV23 dc23 pm23 an23 cd23 ct23,_law_machine:=f24,_law_machine_fd:=PySem.W.fnOf "_law_machine" "_law_machine" (Zn Z3) (Zl Z3) (Zc Z3) .none kV24 dc24 pm24 an24 cd24 ct24,_law_built:=f25,_law_built_fd:=PySem.W.fnOf "_law_built" "_law_built" (Zn Yp) (Zl Yp) (Zc Yp) .none kV25 dc25 pm25 an25 cd25 ct25,_law_rows:=f26,_law_rows_fd:=PySem.W.fnOf "_law_rows" "_law_rows" (Zn Yl) (Zl Yl) (Zc Yl) .none kV26 dc26 pm26 an26 cd26 ct26,_law_beside:=f27,_law_beside_fd:=PySem.W.fnOf "_law_beside" "_law_beside" (Zn Z6) (Zl Z6) (Zc Z6) .none kV27 dc27 pm27 an27 cd27 ct27,_law_fair:=f28,_law_fair_fd:=PySem.W.fnOf "_law_fair" "_law_fair" (Zn YU) (Zl YU) (Zc YU) .none kV28 dc28 pm28 an28 cd28 ct28,_law_told:=f29,_law_told_fd:=PySem.W.fnOf "_law_told" "_law_told" (Zn YS) (Zl YS) (Zc YS) .none kV29 dc29 pm29 an29 cd29 ct29,_law_right:=f30,_law_right_fd:=PySem.W.fnOf "_law_right" "_law_right" (Zn Yk) (Zl Yk) (Zc Yk) .none kV30 dc30 pm30 an30 cd30 ct30,law:=fa,law_fd:=PySem.W.fnOf "law" "law" (Zn Ww) (Zl Ww) (Zc Ww) .none kV31 dc31 pm31 an31 cd31 ct31,C_TimeError:=C_TimeError,C_BadWorld:=C_BadWorld,C_BadMachine:=C_BadMachine,C_TooMany:=C_TooMany,C_World:=C_World,C_Machine:=C_Machine,Pm:=w.params }:={
  f_is_whole:=Zp (st:=Xb) l0 c0 k0,
  n_is_whole:=(Zp (st:=Xb) l0 c0 k0).binds (ps:=["thing"]) (fun _ _ _ _ _ _ us hl=>match us,hl with | [_],_=>rfl),
  g_is_whole:=PySem.W.mg_of X G a0,
  f_is_name:=Zp (st:=Xd) l1 c1 k1,
  n_is_name:=(Zp (st:=Xd) l1 c1 k1).binds (ps:=["thing"]) (fun _ _ _ _ _ _ us hl=>match us,hl with | [_],_=>rfl),
  g_is_name:=PySem.W.mg_of X G a1,
  f_is_room:=Zp (st:=Xk) l2 c2 k2,
  n_is_room:=(Zp (st:=Xk) l2 c2 k2).binds (ps:=["thing", "many"]) (fun _ _ _ _ _ _ us hl=>match us,hl with | [_,_],_=>rfl),
  g_is_room:=PySem.W.mg_of X G a2,
  f_are_names:=Zp (st:=YH) l3 c3 k3,
  n_are_names:=(Zp (st:=YH) l3 c3 k3).binds (ps:=["thing"]) (fun _ _ _ _ _ _ us hl=>match us,hl with | [_],_=>rfl),
  g_are_names:=PySem.W.mg_of X G a3,
  f_are_rooms:=Zp (st:=YI) l4 c4 k4,
  n_are_rooms:=(Zp (st:=YI) l4 c4 k4).binds (ps:=["thing", "many"]) (fun _ _ _ _ _ _ us hl=>match us,hl with | [_,_],_=>rfl),
  g_are_rooms:=PySem.W.mg_of X G a4,
  f_World_init:=Zp (st:=Yj) l5 c5 k5,
  n_World_init:=(Zp (st:=Yj) l5 c5 k5).binds (ps:=["self", "signs", "ways", "starts", "fair"]) (fun _ _ _ _ _ _ us hl=>match us,hl with | [_,_,_,_,_],_=>rfl),
  m_World_init:=⟨a5,i5,k5⟩,
  f_World_many:=Zp (st:=YC) l6 c6 k6,
  n_World_many:=(Zp (st:=YC) l6 c6 k6).binds (ps:=["self"]) (fun _ _ _ _ _ _ us hl=>match us,hl with | [_],_=>rfl),
  m_World_many:=⟨a6,i6,k6⟩,
  f_World_signs_of:=Zp (st:=ZZ) l7 c7 k7,
  n_World_signs_of:=(Zp (st:=ZZ) l7 c7 k7).binds (ps:=["self", "room"]) (fun _ _ _ _ _ _ us hl=>match us,hl with | [_,_],_=>rfl),
  m_World_signs_of:=⟨a7,i7,k7⟩,
  f_World_ways_on:=Zp (st:=Z7) l8 c8 k8,
  n_World_ways_on:=(Zp (st:=Z7) l8 c8 k8).binds (ps:=["self", "room"]) (fun _ _ _ _ _ _ us hl=>match us,hl with | [_,_],_=>rfl),
  m_World_ways_on:=⟨a8,i8,k8⟩,
  f_World_begins:=Zp (st:=Ye) l9 c9 k9,
  n_World_begins:=(Zp (st:=Ye) l9 c9 k9).binds (ps:=["self"]) (fun _ _ _ _ _ _ us hl=>match us,hl with | [_],_=>rfl),
  m_World_begins:=⟨a9,i9,k9⟩,
  f_World_fair_signs:=Zp (st:=ZI) l10 c10 k10,
  n_World_fair_signs:=(Zp (st:=ZI) l10 c10 k10).binds (ps:=["self"]) (fun _ _ _ _ _ _ us hl=>match us,hl with | [_],_=>rfl),
  m_World_fair_signs:=⟨a10,i10,k10⟩,
  f_makes_world:=Zp (st:=Z8) l11 c11 k11,
  n_makes_world:=(Zp (st:=Z8) l11 c11 k11).binds (ps:=["signs", "ways", "starts", "fair"]) (fun _ _ _ _ _ _ us hl=>match us,hl with | [_,_,_,_],_=>rfl),
  g_makes_world:=PySem.W.mg_of X G a11,
  f_are_some_rooms:=Zp (st:=ZX) l12 c12 k12,
  n_are_some_rooms:=(Zp (st:=ZX) l12 c12 k12).binds (ps:=["thing", "many"]) (fun _ _ _ _ _ _ us hl=>match us,hl with | [_,_],_=>rfl),
  g_are_some_rooms:=PySem.W.mg_of X G a12,
  f_Machine_init:=(y8 (st:=ZQ) l13 ld13 c13 k13),
  n_Machine_init:=(y8 (st:=ZQ) l13 ld13 c13 k13).binds (ps:=["self", "signs", "moves", "start", "words"]) (fun _ _ _ _ _ _ us hl=>match us,hl with | [_,_,_,_,_],_=>⟨_,rfl,rfl⟩),
  d_Machine_init:=(y8 (st:=ZQ) l13 ld13 c13 k13).bindsD (ps:=["self", "signs", "moves", "start", "words"]) (fun _ _ _ _ _ _ us hl=>match us,(show us.length=4 by simpa using hl) with | [_,_,_,_],_=>⟨_,rfl,rfl⟩),
  m_Machine_init:=⟨a13,i13,k13⟩,
  f_Machine_goes_to:=Zp (st:=ZG) l14 c14 k14,
  n_Machine_goes_to:=(Zp (st:=ZG) l14 c14 k14).binds (ps:=["self", "room", "word"]) (fun _ _ _ _ _ _ us hl=>match us,hl with | [_,_,_],_=>rfl),
  m_Machine_goes_to:=⟨a14,i14,k14⟩,
  f_makes_machine:=Zp (st:=ZO) l15 c15 k15,
  n_makes_machine:=(Zp (st:=ZO) l15 c15 k15).binds (ps:=["signs", "moves", "start", "words"]) (fun _ _ _ _ _ _ us hl=>match us,hl with | [_,_,_,_],_=>rfl),
  g_makes_machine:=PySem.W.mg_of X G a15,
  f_is_move:=Zp (st:=Xl) l16 c16 k16,
  n_is_move:=(Zp (st:=Xl) l16 c16 k16).binds (ps:=["thing", "many"]) (fun _ _ _ _ _ _ us hl=>match us,hl with | [_,_],_=>rfl),
  g_is_move:=PySem.W.mg_of X G a16,
  f_are_machines:=Zp (st:=Z5) l17 c17 k17,
  n_are_machines:=(Zp (st:=Z5) l17 c17 k17).binds (ps:=["thing"]) (fun _ _ _ _ _ _ us hl=>match us,hl with | [_],_=>rfl),
  g_are_machines:=PySem.W.mg_of X G a17,
  f_beside:=Zp (st:=Y8) l18 c18 k18,
  n_beside:=(Zp (st:=Y8) l18 c18 k18).binds (ps:=["machines", "fair"]) (fun _ _ _ _ _ _ us hl=>match us,hl with | [_,_],_=>rfl),
  g_beside:=PySem.W.mg_of X G a18,
  f_places_on:=Zp (st:=Yw) l19 c19 k19,
  n_places_on:=(Zp (st:=Yw) l19 c19 k19).binds (ps:=["machines", "words", "place"]) (fun _ _ _ _ _ _ us hl=>match us,hl with | [_,_,_],_=>rfl),
  g_places_on:=PySem.W.mg_of X G a19,
  f_signs_at:=Zp (st:=YW) l20 c20 k20,
  n_signs_at:=(Zp (st:=YW) l20 c20 k20).binds (ps:=["machines", "place"]) (fun _ _ _ _ _ _ us hl=>match us,hl with | [_,_],_=>rfl),
  g_signs_at:=PySem.W.mg_of X G a20,
  f__law_cell_at:=Zp (st:=Yg) l21 c21 k21,
  n__law_cell_at:=(Zp (st:=Yg) l21 c21 k21).binds (ps:=["_law_script", "_law_k"]) (fun _ _ _ _ _ _ us hl=>match us,hl with | [_,_],_=>rfl),
  g__law_cell_at:=PySem.W.mg_of X G a21,
  f__law_stream:=Zp (st:=Yn) l22 c22 k22,
  n__law_stream:=(Zp (st:=Yn) l22 c22 k22).binds (ps:=["_law_cell", "_law_many"]) (fun _ _ _ _ _ _ us hl=>match us,hl with | [_,_],_=>rfl),
  g__law_stream:=PySem.W.mg_of X G a22,
  f__law_names:=Zp (st:=Yq) l23 c23 k23,
  n__law_names:=(Zp (st:=Yq) l23 c23 k23).binds (ps:=["_law_cell"]) (fun _ _ _ _ _ _ us hl=>match us,hl with | [_],_=>rfl),
  g__law_names:=PySem.W.mg_of X G a23,
  f__law_machine:=Zp (st:=Z3) l24 c24 k24,
  n__law_machine:=(Zp (st:=Z3) l24 c24 k24).binds (ps:=["_law_names_here", "_law_cell", "_law_most"]) (fun _ _ _ _ _ _ us hl=>match us,hl with | [_,_,_],_=>rfl),
  g__law_machine:=PySem.W.mg_of X G a24,
  f__law_built:=Zp (st:=Yp) l25 c25 k25,
  n__law_built:=(Zp (st:=Yp) l25 c25 k25).binds (ps:=["_law_one"]) (fun _ _ _ _ _ _ us hl=>match us,hl with | [_],_=>rfl),
  g__law_built:=PySem.W.mg_of X G a25,
  f__law_rows:=Zp (st:=Yl) l26 c26 k26,
  n__law_rows:=(Zp (st:=Yl) l26 c26 k26).binds (ps:=["_law_machines", "_law_place", "_law_word"]) (fun _ _ _ _ _ _ us hl=>match us,hl with | [_,_,_],_=>rfl),
  g__law_rows:=PySem.W.mg_of X G a26,
  f__law_beside:=Zp (st:=Z6) l27 c27 k27,
  n__law_beside:=(Zp (st:=Z6) l27 c27 k27).binds (ps:=["_law_machines"]) (fun _ _ _ _ _ _ us hl=>match us,hl with | [_],_=>rfl),
  g__law_beside:=PySem.W.mg_of X G a27,
  f__law_fair:=Zp (st:=YU) l28 c28 k28,
  n__law_fair:=(Zp (st:=YU) l28 c28 k28).binds (ps:=["_law_names_here", "_law_cell"]) (fun _ _ _ _ _ _ us hl=>match us,hl with | [_,_],_=>rfl),
  g__law_fair:=PySem.W.mg_of X G a28,
  f__law_told:=Zp (st:=YS) l29 c29 k29,
  n__law_told:=(Zp (st:=YS) l29 c29 k29).binds (ps:=["_law_machines", "_law_fair_here"]) (fun _ _ _ _ _ _ us hl=>match us,hl with | [_,_],_=>rfl),
  g__law_told:=PySem.W.mg_of X G a29,
  f__law_right:=Zp (st:=Yk) l30 c30 k30,
  n__law_right:=(Zp (st:=Yk) l30 c30 k30).binds (ps:=["_law_specs", "_law_machines", "_law_fair_here"]) (fun _ _ _ _ _ _ us hl=>match us,hl with | [_,_,_],_=>rfl),
  g__law_right:=PySem.W.mg_of X G a30,
  f_law:=Zp (st:=Ww) l31 c31 k31,
  n_law:=(Zp (st:=Ww) l31 c31 k31).binds (ps:=["_law_script"]) (fun _ _ _ _ _ _ us hl=>match us,hl with | [_],_=>rfl),
  g_law:=PySem.W.mg_of X G a31,
  b_ValueError:=PySem.W.mg_none_of X G z_ValueError,
  b_all:=PySem.W.mg_none_of X G z_all,
  b_len:=PySem.W.mg_none_of X G z_len,
  b_sorted:=PySem.W.mg_none_of X G z_sorted,
  b_range:=PySem.W.mg_none_of X G z_range,
  b_zip:=PySem.W.mg_none_of X G z_zip,
  b_isinstance:=PySem.W.mg_none_of X G z_isinstance,
  b_int:=PySem.W.mg_none_of X G z_int,
  b_list:=PySem.W.mg_none_of X G z_list,
  b_tuple:=PySem.W.mg_none_of X G z_tuple,
  b_bool:=PySem.W.mg_none_of X G z_bool,
  b_str:=PySem.W.mg_none_of X G z_str,
  b_set:=PySem.W.mg_none_of X G z_set,
  b_any:=PySem.W.mg_none_of X G z_any,
  b_enumerate:=PySem.W.mg_none_of X G z_enumerate,
  c_LETTERS:=⟨_,PySem.W.mg_of X G x_LETTERS,⟨_,rfl⟩⟩,
  c_MOST_LETTERS:=⟨_,PySem.W.mg_of X G x_MOST_LETTERS,⟨_,rfl⟩⟩,
  c_MOST_ROOMS:=⟨_,PySem.W.mg_of X G x_MOST_ROOMS,⟨_,rfl⟩⟩,
  c_MOST_FAIR:=⟨_,PySem.W.mg_of X G x_MOST_FAIR,⟨_,rfl⟩⟩,
  c_MOST_MACHINE_ROOMS:=⟨_,PySem.W.mg_of X G x_MOST_MACHINE_ROOMS,⟨_,rfl⟩⟩,
  c_MOST_MACHINES:=⟨_,PySem.W.mg_of X G x_MOST_MACHINES,⟨_,rfl⟩⟩,
  cl_World:=⟨pg_World,hd_World,po_World,sa_World⟩,
  g_World:=PySem.W.mg_of X G aC_World,
  mk_World:=⟨mk_World,a5,i5,kc_World⟩,
  t1_World:=t1_World,
  t2_World:=t2_World,
  t3_World:=t3_World,
  t4_World:=t4_World,
  ic_World:=(by unfold PySem.W.kitOne;rw [if_pos (beq_self_eq_true _)]),
  na_World_room_signs:=n_World_room_signs,
  na_World_room_ways:=n_World_room_ways,
  na_World_start_rooms:=n_World_start_rooms,
  na_World_fair_names:=n_World_fair_names,
  cl_Machine:=⟨pg_Machine,hd_Machine,po_Machine,sa_Machine⟩,
  g_Machine:=PySem.W.mg_of X G aC_Machine,
  mk_Machine:=⟨mk_Machine,a13,i13,kc_Machine⟩,
  t1_Machine:=t1_Machine,
  t2_Machine:=t2_Machine,
  t3_Machine:=t3_Machine,
  t4_Machine:=t4_Machine,
  ic_Machine:=(by unfold PySem.W.kitOne;rw [if_pos (beq_self_eq_true _)]),
  na_Machine_room_signs:=n_Machine_room_signs,
  na_Machine_moves:=n_Machine_moves,
  na_Machine_start:=n_Machine_start,
  na_Machine_words:=n_Machine_words,
  g_TimeError:=PySem.W.mg_of X G aC_TimeError,
  x_TimeError:=xc_TimeError,
  g_BadWorld:=PySem.W.mg_of X G aC_BadWorld,
  x_BadWorld:=xc_BadWorld,
  g_BadMachine:=PySem.W.mg_of X G aC_BadMachine,
  x_BadMachine:=xc_BadMachine,
  g_TooMany:=PySem.W.mg_of X G aC_TooMany,
  x_TooMany:=xc_TooMany,
  k_BadWorld:=⟨xga_BadWorld,xgh_BadWorld,xob_BadWorld,xbe_BadWorld,xcl_BadWorld,xgt,xtk,xhd_BadWorld⟩,
  k_TooMany:=⟨xga_TooMany,xgh_TooMany,xob_TooMany,xbe_TooMany,xcl_TooMany,xgt,xtk,xhd_TooMany⟩,
  ex_TooMany:=ex_TooMany,
  i1_TooMany:=i1_TooMany,
  i3_TooMany:=i3_TooMany,
  n2_TooMany:=n2_TooMany }
 exact ⟨PySem.W.fnOf "law" "law" (Zn Ww) (Zl Ww) (Zc Ww) .none kV31 dc31 pm31 an31 cd31 ct31,fun s v=>.of_eq rfl,fun base _ _=>ok_law T rfl⟩
theorem walk {l:PySem.W.OpenLaw}{q:Program}{loose:List Str}{XP:(Str→Option Value)→Heap→Prop}{YP:World→Heap→Prop}{d:DefRec}{K:Params→PySem.W.Frag} (hn:l.most=some 63) (hdf:d.params.defaults=[])
  (hY:∀ (w:World) (h:Heap),YP w h→(K w.params).In h)
  (F:∀ (w:World) (mg:Str→Option Value) (fa:Addr) (h:Heap),(K w.params).In h→h.Ns mainGlobals mg→mg d.name=some (.ref fa) →
   ∃ fd:FuncData,(∀ (s:Shared) (u:Value),BindsTo s fd ⟨[u],[]⟩ [("_law_script",u)])∧∀ base:Heap,(K w.params).In base→base.Ns mainGlobals mg→Yy l.prog w (K w.params) mg base CX0 11 fa fd ["_law_script"] (spL (K w.params))) :
  PySem.W.WalkO q loose XP YP l.row.toRowW d [] (fun f vs=>PySem.call f vs):=
 L2.walk_of (n:=63) (k:=11) (x := "_law_script") (CX:=fun _=>CX0) (sp:=fun w=>spL (K w.params)) hn (by decide) hdf ⟨rfl,by decide,by decide⟩ hY F (fun _ _ a ns hl _ hS=>⟨a,ns,rfl,hS,hl,fun _=>rfl⟩) fun _ _ _ _ _ z=>z
end KK
open PySem PySem.W PyProof.Rows
def PySem.W.Fast.tw14340099704225202603:Nat:=0
def PySem.W.Fast.tw17384139668857791805:Nat:=0
def PySem.W.Fast.tw5471968362963026726:Nat:=0
def PySem.W.Fast.tw12703001760165322688:Nat:=0
def PySem.W.Fast.tw3958065420210852209:Nat:=0
def PySem.W.Fast.tw15196969667269187362:Nat:=0
def PySem.W.Fast.tw9918275396927361094:Nat:=0
def PySem.W.Fast.tw15869260970769037007:Nat:=0
def PySem.W.Fast.tw2298548053092575741:Nat:=0
def PySem.W.Fast.tw167393496570659185:Nat:=0
def PySem.W.Fast.tw12584834659989505480:Nat:=0
def PySem.W.Fast.tw13648006511187083:Nat:=0
set_option maxRecDepth 100000 in
set_option maxHeartbeats 0 in
theorem PySem.Challenge.cw_timecourt_k81_machines_side_by_side_holds : PySem.Challenge.rw_timecourt_k81_machines_side_by_side.Holds := by
 w_on; o_law; k_head; (case hw => w_witness2)
 k_fill
 refine KK.walk (l := PySem.Challenge.rw_timecourt_k81_machines_side_by_side) rfl rfl (fun w h Y => PySem.W.kIn_of Y) ?F
 case F =>
  intro w mg fa h KX G hmg
  have hmg2 : mg "law" = some (.ref fa) := hmg
  clear hmg
  refine' KK.all_mk KX G hmg2 ?aC_World ?aC_Machine ?aC_TimeError ?aC_BadWorld ?aC_BadMachine ?aC_TooMany ?a0 ?l0 ?c0 ?k0 ?a1 ?l1 ?c1 ?k1 ?a2 ?l2 ?c2 ?k2 ?a3 ?l3 ?c3 ?k3 ?a4 ?l4 ?c4 ?k4 ?a5 ?i5 ?l5 ?c5 ?k5 ?a6 ?i6 ?l6 ?c6 ?k6 ?a7 ?i7 ?l7 ?c7 ?k7 ?a8 ?i8 ?l8 ?c8 ?k8 ?a9 ?i9 ?l9 ?c9 ?k9 ?a10 ?i10 ?l10 ?c10 ?k10 ?a11 ?l11 ?c11 ?k11 ?a12 ?l12 ?c12 ?k12 ?a13 ?i13 ?l13 ?ld13 ?c13 ?k13 ?a14 ?i14 ?l14 ?c14 ?k14 ?a15 ?l15 ?c15 ?k15 ?a16 ?l16 ?c16 ?k16 ?a17 ?l17 ?c17 ?k17 ?a18 ?l18 ?c18 ?k18 ?a19 ?l19 ?c19 ?k19 ?a20 ?l20 ?c20 ?k20 ?a21 ?l21 ?c21 ?k21 ?a22 ?l22 ?c22 ?k22 ?a23 ?l23 ?c23 ?k23 ?a24 ?l24 ?c24 ?k24 ?a25 ?l25 ?c25 ?k25 ?a26 ?l26 ?c26 ?k26 ?a27 ?l27 ?c27 ?k27 ?a28 ?l28 ?c28 ?k28 ?a29 ?l29 ?c29 ?k29 ?a30 ?l30 ?c30 ?k30 ?a31 ?l31 ?c31 ?k31 ?pg_World ?hd_World ?po_World ?sa_World ?mk_World ?kc_World ?t1_World ?t2_World ?t3_World ?t4_World ?n_World_room_signs ?n_World_room_ways ?n_World_start_rooms ?n_World_fair_names ?pg_Machine ?hd_Machine ?po_Machine ?sa_Machine ?mk_Machine ?kc_Machine ?t1_Machine ?t2_Machine ?t3_Machine ?t4_Machine ?n_Machine_room_signs ?n_Machine_moves ?n_Machine_start ?n_Machine_words ?z_ValueError ?z_all ?z_len ?z_sorted ?z_range ?z_zip ?z_isinstance ?z_int ?z_list ?z_tuple ?z_bool ?z_str ?z_set ?z_any ?z_enumerate ?x_LETTERS ?x_MOST_LETTERS ?x_MOST_ROOMS ?x_MOST_FAIR ?x_MOST_MACHINE_ROOMS ?x_MOST_MACHINES ?xc_TimeError ?xc_BadWorld ?xc_BadMachine ?xc_TooMany ?xgt ?xtk ?xga_BadWorld ?xgh_BadWorld ?xob_BadWorld ?xbe_BadWorld ?xcl_BadWorld ?xhd_BadWorld ?xga_TooMany ?xgh_TooMany ?xob_TooMany ?xbe_TooMany ?xcl_TooMany ?xhd_TooMany ?ex_TooMany ?i1_TooMany ?i3_TooMany ?n2_TooMany
  (case aC_World => k_is)
  (case aC_Machine => k_is)
  (case aC_TimeError => k_is)
  (case aC_BadWorld => k_is)
  (case aC_BadMachine => k_is)
  (case aC_TooMany => k_is)
  (case a0 => k_is)
  (case l0 => k_is)
  (case c0 => k_is)
  (case k0 => k_is)
  (case a1 => k_is)
  (case l1 => k_is)
  (case c1 => k_is)
  (case k1 => k_is)
  (case a2 => k_is)
  (case l2 => k_is)
  (case c2 => k_is)
  (case k2 => k_is)
  (case a3 => k_is)
  (case l3 => k_is)
  (case c3 => k_is)
  (case k3 => k_is)
  (case a4 => k_is)
  (case l4 => k_is)
  (case c4 => k_is)
  (case k4 => k_is)
  (case a5 => k_is)
  (case i5 => k_is)
  (case l5 => k_is)
  (case c5 => k_is)
  (case k5 => k_is)
  (case a6 => k_is)
  (case i6 => k_is)
  (case l6 => k_is)
  (case c6 => k_is)
  (case k6 => k_is)
  (case a7 => k_is)
  (case i7 => k_is)
  (case l7 => k_is)
  (case c7 => k_is)
  (case k7 => k_is)
  (case a8 => k_is)
  (case i8 => k_is)
  (case l8 => k_is)
  (case c8 => k_is)
  (case k8 => k_is)
  (case a9 => k_is)
  (case i9 => k_is)
  (case l9 => k_is)
  (case c9 => k_is)
  (case k9 => k_is)
  (case a10 => k_is)
  (case i10 => k_is)
  (case l10 => k_is)
  (case c10 => k_is)
  (case k10 => k_is)
  (case a11 => k_is)
  (case l11 => k_is)
  (case c11 => k_is)
  (case k11 => k_is)
  (case a12 => k_is)
  (case l12 => k_is)
  (case c12 => k_is)
  (case k12 => k_is)
  (case a13 => k_is)
  (case i13 => k_is)
  (case l13 => k_is)
  (case ld13 => k_is)
  (case c13 => k_is)
  (case k13 => k_is)
  (case a14 => k_is)
  (case i14 => k_is)
  (case l14 => k_is)
  (case c14 => k_is)
  (case k14 => k_is)
  (case a15 => k_is)
  (case l15 => k_is)
  (case c15 => k_is)
  (case k15 => k_is)
  (case a16 => k_is)
  (case l16 => k_is)
  (case c16 => k_is)
  (case k16 => k_is)
  (case a17 => k_is)
  (case l17 => k_is)
  (case c17 => k_is)
  (case k17 => k_is)
  (case a18 => k_is)
  (case l18 => k_is)
  (case c18 => k_is)
  (case k18 => k_is)
  (case a19 => k_is)
  (case l19 => k_is)
  (case c19 => k_is)
  (case k19 => k_is)
  (case a20 => k_is)
  (case l20 => k_is)
  (case c20 => k_is)
  (case k20 => k_is)
  (case a21 => k_is)
  (case l21 => k_is)
  (case c21 => k_is)
  (case k21 => k_is)
  (case a22 => k_is)
  (case l22 => k_is)
  (case c22 => k_is)
  (case k22 => k_is)
  (case a23 => k_is)
  (case l23 => k_is)
  (case c23 => k_is)
  (case k23 => k_is)
  (case a24 => k_is)
  (case l24 => k_is)
  (case c24 => k_is)
  (case k24 => k_is)
  (case a25 => k_is)
  (case l25 => k_is)
  (case c25 => k_is)
  (case k25 => k_is)
  (case a26 => k_is)
  (case l26 => k_is)
  (case c26 => k_is)
  (case k26 => k_is)
  (case a27 => k_is)
  (case l27 => k_is)
  (case c27 => k_is)
  (case k27 => k_is)
  (case a28 => k_is)
  (case l28 => k_is)
  (case c28 => k_is)
  (case k28 => k_is)
  (case a29 => k_is)
  (case l29 => k_is)
  (case c29 => k_is)
  (case k29 => k_is)
  (case a30 => k_is)
  (case l30 => k_is)
  (case c30 => k_is)
  (case k30 => k_is)
  (case a31 => k_is)
  (case l31 => k_is)
  (case c31 => k_is)
  (case k31 => k_is)
  (case pg_World => k_is)
  (case hd_World => k_is)
  (case po_World => k_is)
  (case sa_World => k_is)
  (case mk_World => k_is)
  (case kc_World => k_is)
  (case t1_World => k_is)
  (case t2_World => k_is)
  (case t3_World => k_is)
  (case t4_World => k_is)
  (case n_World_room_signs => k_is)
  (case n_World_room_ways => k_is)
  (case n_World_start_rooms => k_is)
  (case n_World_fair_names => k_is)
  (case pg_Machine => k_is)
  (case hd_Machine => k_is)
  (case po_Machine => k_is)
  (case sa_Machine => k_is)
  (case mk_Machine => k_is)
  (case kc_Machine => k_is)
  (case t1_Machine => k_is)
  (case t2_Machine => k_is)
  (case t3_Machine => k_is)
  (case t4_Machine => k_is)
  (case n_Machine_room_signs => k_is)
  (case n_Machine_moves => k_is)
  (case n_Machine_start => k_is)
  (case n_Machine_words => k_is)
  (case z_ValueError => k_is)
  (case z_all => k_is)
  (case z_len => k_is)
  (case z_sorted => k_is)
  (case z_range => k_is)
  (case z_zip => k_is)
  (case z_isinstance => k_is)
  (case z_int => k_is)
  (case z_list => k_is)
  (case z_tuple => k_is)
  (case z_bool => k_is)
  (case z_str => k_is)
  (case z_set => k_is)
  (case z_any => k_is)
  (case z_enumerate => k_is)
  (case x_LETTERS => k_is)
  (case x_MOST_LETTERS => k_is)
  (case x_MOST_ROOMS => k_is)
  (case x_MOST_FAIR => k_is)
  (case x_MOST_MACHINE_ROOMS => k_is)
  (case x_MOST_MACHINES => k_is)
  (case xc_TimeError => k_exc)
  (case xc_BadWorld => k_exc)
  (case xc_BadMachine => k_exc)
  (case xc_TooMany => k_exc)
  (case xgt => k_is)
  (case xtk => k_is)
  (case xga_BadWorld => k_is)
  (case xgh_BadWorld => k_is)
  (case xob_BadWorld => k_is)
  (case xbe_BadWorld => k_is)
  (case xcl_BadWorld => k_is)
  (case xhd_BadWorld => k_is)
  (case xga_TooMany => k_is)
  (case xgh_TooMany => k_is)
  (case xob_TooMany => k_is)
  (case xbe_TooMany => k_is)
  (case xcl_TooMany => k_is)
  (case xhd_TooMany => k_is)
  (case ex_TooMany => kts_exm)
  (case i1_TooMany => kit_is)
  (case i3_TooMany => kit_is)
  (case n2_TooMany => kit_is)
