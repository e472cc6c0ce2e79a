import PyProof.Rows.All
import Wide.All
import OpenK.AllK
import Wide.FinOn
import Lean
import PyProof.EqAt
import PyProof.EqKinds
import PyProof.TupleCall
import PyProof.StrOps2
import KE.KDictList
import KE.BitLaws
import PyProof.Rows.RuleM_int
import KE.KEqDict
import PySem.Challenge.RW_timecourt_k62_turns_and_fair_rooms
set_option linter.all false
def mL:=@PySem.wpAny_bind
def mM:=@List.length_map
def mN:=@PySem.sizeLine_eq
def mO:=@List.getElem?_eq_getElem
def mP:=@Nat.le_refl
def mQ:=@PySem.wpAny_pure
def mR:=@PySem.Heap.lt_size
def mS:=@PySem.W.mg_of
def mT:=@List.length_append
def mU:=@List.getElem?_map
def mV:=@List.map_cons
def mW:=@List.mem_map
def mX:=@List.mem_range
def mY:=@Int.toNat_natCast
def mZ:=@List.map_map
def m4:=@PySem.Heap.get?_push_of_some
def m7:=@List.size_toArray
def m8:=@Bool.and_eq_true
def m9:=@List.length_range
def na:=@Nat.ne_of_lt
def nh:=@Bool.false_ne_true
def ni:=@congrArg
def nj:=@List.mem_singleton
def nk:=@List.getElem_mem
def nu:=@List.mem_cons
def nv:=@Option.some.inj
def ny:=@of_decide_eq_true
def nB:=@PySem.PassesOwn.never
def nE:=@List.mem_append
def nG:=@decide_eq_true
def nH:=@decide_eq_false
def nI:=@PySem.Heap.get?_push_size
def nJ:=@Nat.lt_of_lt_of_le
def nM:=@PySem.mem_of_lookup
def nN:=@Ne.symm
def nO:=@List.map_nil
def nP:=@List.map_append
def nQ:=@Nat.le_trans
def nR:=@List.lookup_cons
def nS:=@PySem.F.plainAttrs_list
def nT:=@List.getElem?_eq_some_iff
def nU:=@List.mem_append_right
def nW:=@List.length_take
def nY:=@List.all_eq_true
def n5:=@List.mem_filter
def n6:=@Bool.eq_iff_iff
def n9:=@List.length_cons
def oa:=@PySem.W.mg_none_of
def oe:=@List.mem_cons_of_mem
def og:=@Nat.zero_le
def oh:=@PySem.F.slot_list_append
def oi:=@PySem.F.type_list_append
def oj:=@PySem.wpAny_mono
def om:=@List.mem_of_getElem?
def oo:=@PySem.wpAny_holding
def oq:=@Int.emod_nonneg
def ou:=@Int.zero_add
def ow:=@PySem.wpAny_truthy_bool
def ox:=@PySem.W.kia_one
def oy:=@List.take_length
def oz:=@List.any_map
def oA:=@Int.eq_ofNat_of_zero_le
def oB:=@List.mem_append_left
def oC:=@List.append_nil
def oE:=@PySem.wpAny_newObj_type
def oF:=@decide_eq_decide
def oG:=@decide_eq_true_eq
def oH:=@List.getElem_of_mem
def oI:=@Int.emod_lt_of_pos
def oJ:=@Classical.byContradiction
def oK:=@List.getElem?_append_left
def oM:=@if_false
def oN:=@List.length_singleton
def oO:=@Nat.le_succ
def oP:=@List.replicate_succ
def oQ:=@PySem.wpAny_standAt
def oR:=@List.any_eq_true
def oS:=@List.nodup_append
def oT:=@List.map_congr_left
def oU:=@Option.map_eq_some_iff
def oV:=@Array.length_toList
def oW:=@beq_iff_eq
def oX:=@List.nodup_cons
def oY:=@List.append_assoc
def oZ:=@PySem.F.called_set
def o3:=@List.all_map
def o4:=@Nat.not_lt_zero
def o5:=@beq_eq_false_iff_ne
def o6:=@Nat.lt_irrefl
def o7:=@PySem.wpAny_passesOwn
def o8:=@Nat.ne_of_gt
def o9:=@PySem.codeAny_mono
def pb:=@List.all_cons
def pd:=@List.any_cons
def pe:=@List.getElem?_range
def pf:=@List.range_succ
def pi:=@List.mem_cons_self
def pj:=@PySem.Heap.size_push
def pq:=@PySem.wpAny_field
def pw:=@List.length_drop
def px:=@PySem.wpAny_call_entry
def py:=@List.flatten_cons
def pz:=@List.find?_cons
def pA:=@List.filter_append
def pB:=@List.getElem_range
def pC:=@List.take_succ
def pD:=@PySem.Paired.length
def pE:=@PySem.wpAny_pyIter_list
def pF:=@Nat.lt_succ_self
def pG:=@List.getElem?_append_right
def pH:=@List.take_sublist
def pI:=@List.nil_append
def pJ:=@List.filter_cons_of_neg
def pK:=@PySem.codeAny_builtin
def pL:=@Bool.not_eq_true'
def pM:=@List.length_reverse
def pN:=@Nat.le_of_succ_le
def pO:=@List.length_filter_le
def pP:=@List.filter_eq_self
def pQ:=@List.length_zip
def pR:=@List.nodup_range
def pT:=@Nat.pow_succ
def pU:=@List.filter_cons
def pV:=@List.length_eq_zero_iff
def pX:=@List.not_mem_nil
def pY:=@List.filterMap_cons
def pZ:=@List.getElem?_set_self
def p0:=@List.getElem?_set_ne
def p6:=@PySem.wpAny_Call_Name_kw
def p8:=@Array.getElem?_toList
def p9:=@List.filter_cons_of_pos
def rd:=@PySem.Around.under_plainId
def re:=@PyProof.Rows.F.plain_set_update_loop
def rf:=@decide_eq_false_iff_not
def rg:=@Bool.or_eq_true
def rh:=@List.pairwise_map
def ri:=@List.take_of_length_le
def rk:=@Bool.false_eq_true
def rn:=@List.take_succ_eq_append_getElem
def rz:=@List.filter_nil
def rA:=@List.dropLast_concat_getLast
def rB:=@of_decide_eq_false
def rC:=@PySem.F.slot_list_pop
def rD:=@PySem.F.type_list_pop
def rE:=@PyProof.Rows.callWith_type1
def rF:=@PySem.W.methodCall_KW
def rG:=@Option.isSome_iff_exists
def rH:=@PySem.wpAny_callSpecial?_slot
def rJ:=@PyProof.Rows.slot_tuple_getitem
def rK:=@List.length_dropLast
def rL:=@List.range_succ_eq_map
def rM:=@Array.getElem?_eq_getElem
def rN:=@List.length_pos_of_mem
def rO:=@PySem.F.slot_dict_keyiterator_next
def rP:=@Nat.testBit_lt_two_pow
def rQ:=@List.drop_eq_getElem_cons
def rR:=@List.dropLast_concat
def rW:=@PyProof.Rows.Boot.«len»
def rX:=@PyProof.Rows.Boot.«list»
def rY:=@PyProof.Rows.Boot.«range»
def rZ:=@PyProof.Rows.Boot.«tuple»
def r6:=@PyProof.Rows.Boot.«all»
def r8:=@PyProof.Rows.Boot.«isinstance»
def r9:=@PyProof.Rows.Boot.«sorted»
def sd:=@PyProof.Rows.Boot.«any»
set_option Elab.async false
set_option linter.all false
set_option maxRecDepth 100000
namespace L2
open PySem PySem.Spec PyProof.Rows
abbrev Key:=Sum Int Str
def V4:Key->Value->Bool
 |.inl k,v=>Value.isInt k v
 |.inr x,v=>Value.isStrOf x v
def keyH(w:World):Key->Int
 |.inl k=>hashInt k
 |.inr x=>hashStr w x
theorem YC:∀{k:Key}{v:Value},V4 k v=true->(∃i t,k=Sum.inl i/\v=Value.int i t)\/(∃x t,k=Sum.inr x/\v=Value.str x t)
 |.inl i,v,h=>by
  obtain⟨t,e⟩:=Value.isInt_shape (k:=i) (v:=v) h;exact .inl ⟨i,t,rfl,e⟩
 |.inr x,v,h=>by
  obtain⟨t,e⟩:=Value.isStrOf_shape (x:=x) (v:=v) h;exact .inr ⟨x,t,rfl,e⟩
theorem xx(i:Int)(t:Tok):V4 (.inl i) (.int i t)=true:=by simp[V4,Value.isInt]
theorem xj(x:Str)(t:Tok):V4 (.inr x) (.str x t)=true:=by simp[V4,Value.isStrOf]
theorem key_ll(a b:Int):decide ((Sum.inl a:Key)=Sum.inl b)=(a==b):=by
 by_cases e:a=b
 ·subst e;simp
 ·have h:¬(Sum.inl a:Key)=Sum.inl b:=fun q=>e (Sum.inl.inj q);rw[nH h];exact(o5.mpr e).symm
theorem key_rr(a b:Str):decide ((Sum.inr a:Key)=Sum.inr b)=decide (a=b):=by
 by_cases e:a=b
 ·subst e;simp
 ·have h:¬(Sum.inr a:Key)=Sum.inr b:=fun q=>e (Sum.inr.inj q);rw[nH h,nH e]
theorem key_lr(a:Int)(b:Str):decide ((Sum.inl a:Key)=Sum.inr b)=false:=nH (fun q=>nomatch q)
theorem key_rl(a:Str)(b:Int):decide ((Sum.inr a:Key)=Sum.inl b)=false:=nH (fun q=>nomatch q)
def Z3(prog:Program)(w:World):PySem.KeyKind prog w Key where
 is:=V4
 hash:=keyH w
 inj:=fun v a b ha hb=>by
  rcases YC ha with⟨i,t,rfl,rfl⟩|⟨x,t,rfl,rfl⟩
  ·rcases YC hb with⟨j,u,rfl,e⟩|⟨y,u,rfl,e⟩
   ·injection e with e1 _;rw[e1]
   ·exact nomatch e
  ·rcases YC hb with⟨j,u,rfl,e⟩|⟨y,u,rfl,e⟩
   ·exact nomatch e
   ·injection e with e1 _;rw[e1]
 byValue:=fun k v h=>by
  rcases YC h with⟨i,t,rfl,rfl⟩|⟨x,t,rfl,rfl⟩<;>rfl
 pyHash:=fun hv h=>by
  rcases YC hv with⟨i,t,rfl,rfl⟩|⟨x,t,rfl,rfl⟩
  ·exact wpAny_pyHash_int h
  ·exact wpAny_pyHash_str h
 eqBool:=fun hu hv h=>by
  rcases YC hu with⟨i,t,rfl,rfl⟩|⟨x,t,rfl,rfl⟩
  ·rcases YC hv with⟨j,u,rfl,rfl⟩|⟨y,u,rfl,rfl⟩
   ·rw[key_ll] at h;exact wpAny_eqBool_int h
   ·rw[key_lr] at h;exact SeqAt.EqAt.int_str i t y u _ _ _ _ h
  ·rcases YC hv with⟨j,u,rfl,rfl⟩|⟨y,u,rfl,rfl⟩
   ·rw[key_rl] at h;exact SeqAt.EqAt.str_int x t j u _ _ _ _ h
   ·rw[key_rr] at h;exact wpAny_eqBool_str h
 «strs» := fun k x t v h=>by
  rcases YC h with⟨i,u,rfl,e⟩|⟨y,u,rfl,e⟩
  ·exact nomatch e
  ·injection e with e1 _;subst e1;cases v<;>rfl
theorem jH(prog:Program)(w:World)(i:Int)(t:Tok):(Z3 prog w).is (.inl i) (.int i t)=true:=xx i t
theorem j5(prog:Program)(w:World)(x:Str)(t:Tok):(Z3 prog w).is (.inr x) (.str x t)=true:=xj x t
inductive V where
 |non|bl (b:Bool)|int (i:Int)|str (x:Str)|byt (b:Array UInt8)|flt (b:UInt64)|ref (a:Addr)|ty (n:String)
 deriving DecidableEq
def Z1:V->Value->Prop
 |.non,u=>u=Value.none
 |.bl b,u=>u=Value.bool b
 |.int i,u=>∃t,u=Value.int i t
 |.str x,u=>∃t,u=Value.str x t
 |.byt b,u=>∃t,u=Value.bytes b t
 |.flt b,u=>∃t,u=Value.float b t
 |.ref a,u=>u=Value.ref a
 |.ty n,u=>u=Value.type n
abbrev ZP:List V->List Value->Prop:=Paired Z1
theorem ZP.length{xs:List V}{us:List Value}(r:ZP xs us):xs.length=us.length:=pD r
theorem ZP.get:∀{xs:List V}{us:List Value}{i:Nat}{x:V},ZP xs us->xs[i]?=some x->∃u,us[i]?=some u/\Z1 x u
 |_,_,_,_,.nil,e=>by simp at e
 |_,_,0,_,.cons r _,e=>by simp at e;subst e;exact⟨_,rfl,r⟩
 |_,_,i+1,x,.cons _ t,e=>by
  obtain⟨u,h1,h2⟩:=ZP.get (i:=i) (x:=x) t (by simpa using e);exact⟨u,by simpa using h1,h2⟩
theorem ZP.set{x:V}{u:Value}(r:Z1 x u):∀{xs:List V}{us:List Value} (i:Nat),ZP xs us->ZP (xs.set i x) (us.set i u)
 |_,_,_,.nil=>.nil
 |_,_,0,.cons _ t=>.cons r t
 |_,_,i+1,.cons q t=>.cons q (ZP.set r i t)
theorem ZP.append:∀{xs ys:List V}{us ws:List Value},ZP xs us->ZP ys ws->ZP (xs++ys) (us++ws)
 |_,_,_,_,.nil,s=>s
 |_,_,_,_,.cons r t,s=>.cons r (ZP.append t s)
theorem ZP.take:∀{xs:List V}{us:List Value} (n:Nat),ZP xs us->ZP (xs.take n) (us.take n)
 |_,_,0,_=>.nil
 |_,_,_+1,.nil=>.nil
 |_,_,n+1,.cons r t=>.cons r (ZP.take n t)
theorem ZP.drop:∀{xs:List V}{us:List Value} (n:Nat),ZP xs us->ZP (xs.drop n) (us.drop n)
 |_,_,0,r=>r
 |_,_,_+1,.nil=>.nil
 |_,_,n+1,.cons _ t=>ZP.drop n t
def Ur:Option V->Option Value->Prop
 |some v,some u=>Z1 v u
 |none,none=>True
 |_,_=>False
def KV{κ:Type}:List (κ×V)->List (κ×Value)->Prop:=Paired fun(p:κ×V) (q:κ×Value)=>p.1=q.1/\Z1 p.2 q.2
def kV:Key->V
 |.inl i=>.int i
 |.inr x=>.str x
inductive HO where
 |lst (xs:List V)
 |tup (xs:List V)
 |dK (kvs:List (Key×V))|dT (kvs:List (List Key×V))
 |set (S:Int->Bool) (n:Nat)
 |ins (C dx:Addr) (fs:List (Str×V))
 |own (x:Addr)
 |xd (fs:List (Str×V))
 |met (f x:Addr)
 |rng (lo hi:Int)
 |frz (o:Obj) (u:HO)
 |tbl (ps:Array Value)
 |ext (φ:Heap->Prop)
abbrev Hp:=Addr->Option HO
def upd(H:Hp)(a:Addr)(o:HO):Hp:=fun b=>if b=a then some o else H b
theorem Ze{H:Hp}{a:Addr}{o:HO}:upd H a o a=some o:=by unfold upd;rw[if_pos rfl]
theorem Zy{H:Hp}{a b:Addr}{o:HO}(h:b≠a):upd H a o b=H b:=by unfold upd;rw[if_neg h]
theorem yq{H:Hp}{a b:Addr}{o u:HO}(h:H a=some o)(h':H b=some u)(d:o≠u):a≠b:=by
 intro e;subst e;rw[h] at h';exact d (nv h')
theorem ZZ{H:Hp}{a b:Addr}{o:HO}(h:H a=some o)(h':H b=none):a≠b:=by
 intro e;subst e;rw[h] at h';cases h'
section
variable(P:Program)(w:World)
def Xe(H:Hp)(h:Heap)(a:Addr):HO->Prop
 |.lst xs=>xs.length<=sizeLine/\∃(its:List Value) (n:Nat),ZP xs its/\h.get? a=some { cls:=.type "list",data:=.seq its.toArray n }
 |.tup xs=>xs.length<=sizeLine/\∃its:List Value,ZP xs its/\IsTup h a its.toArray
 |.dK kvs=>kvs.length<=sizeLine/\(a==sysModules)=false/\∃vs,KV kvs vs/\h.DictOf (Z3 P w) a vs
 |.dT kvs=>kvs.length<=sizeLine/\(a==sysModules)=false/\∃xs:List (List Key×Addr×Value),
   Paired (fun(p:List Key×V) (q:List Key×Addr×Value)=>p.1=q.1/\H q.2.1=some (.tup (p.1.map kV))/\Z1 p.2 q.2.2) kvs xs /\
   ∃o es ep,h.get? a=some o/\o.ExactDict/\o.data=.dict es ep/\es.toList=xs.map (entryOfKey (tupleKind (Z3 P w)))/\(xs.map (·.1)).Nodup
 |.set S n=>h.SetOf (intKind P w) a S n
 |.ins C dx fs=>H dx=some (.own a)/\fs.length<=1000/\dx≠a/\h.get? a=some (W.instObj C dx) /\
   ∃mA,h.Ns1 dx mA/\(∀f,Ur (fs.lookup f) (mA f))/\PySem.Within mA (fs.map (·.1))
 |.own _=>∃o,h.get? a=some o
 |.xd fs=>∃mA,h.Ns1 a mA/\∀f,Ur (fs.lookup f) (mA f)
 |.rng lo hi=>∃t u v,h.get? a=some { cls:=.type "range",data:=.fields #[.int lo t,.int hi u,.int 1 v] }
 |.frz o u=>h.get? a=some o/\Xe H h a u
 |.tbl ps=>h.get? a=some { cls:=.none,data:=.fields ps }
 |.met f x=>h.get? a=some (W.methodObj (.ref f) (.ref x))
 |.ext φ=>φ h/\(∃o,h.get? a=some o)/\∀h1 h2:Heap,φ h1->(∀o,h1.get? a=some o->h2.get? a=some o)->φ h2
def HOk(H:Hp)(h:Heap):Prop:=∀a o,H a=some o->Xe P w H h a o
end
section
variable{P:Program}{w:World}{H H':Hp}{h h':Heap}{a:Addr}{o:HO}
theorem Xe.lt(x:Xe P w H h a o):a<h.objs.size:=by
 cases o with
 |lst xs=>obtain⟨_,_,_,_,e⟩:=x;exact mR e
 |tup xs=>obtain⟨_,_,_,p⟩:=x;exact p.lt
 |dK kvs=>obtain⟨_,_,_,_,o,_,_,e,_⟩:=x;exact mR e
 |dT kvs=>obtain⟨_,_,_,_,o,_,_,e,_⟩:=x;exact mR e
 |set S n=>obtain⟨o,_,_,_,e,_⟩:=x;exact mR e
 |ins C dx fs=>obtain⟨_,_,_,e,_⟩:=x;exact mR e
 |own y=>obtain⟨_,e⟩:=x;exact mR e
 |xd fs=>obtain⟨_,⟨_,_,_,e,_⟩,_⟩:=x;exact mR e
 |rng lo hi=>obtain⟨_,_,_,e⟩:=x;exact mR e
 |frz ob u=>obtain⟨e,_⟩:=x;exact mR e
 |tbl ps=>exact mR (show h.get? a=some _ from x)
 |met f y=>exact mR (show h.get? a=some _ from x)
 |ext φ=>obtain⟨_,⟨_,e⟩,_⟩:=x;exact mR e
theorem Paired.mapP{α β:Type}{F G:α->β->Prop}:∀{l₁:List α}{l₂:List β},Paired F l₁ l₂->(∀a b,F a b->G a b)->Paired G l₁ l₂
 |_,_,.nil,_=>.nil
 |_,_,.cons r t,f=>.cons (f _ _ r) (Paired.mapP t f)
theorem Xe.stay(x:Xe P w H h a o)(k:∀b u,(b=a\/H b=some (.own a))->h.get? b=some u->h'.get? b=some u)
  (ho:∀b,H b=some (.own a)->H' b=some (.own a)) (ht:∀b xs,H b=some (.tup xs)->H' b=some (.tup xs)):Xe P w H' h' a o:=by
 induction o with
 |lst xs=>obtain⟨z,its,n,r,e⟩:=x;exact⟨z,its,n,r,k _ _ (.inl rfl) e⟩
 |tup xs=>obtain⟨z,its,r,ob,e,c⟩:=x;exact⟨z,its,r,ob,k _ _ (.inl rfl) e,c⟩
 |dK kvs=>obtain⟨z,y,vs,r,ob,es,ep,e,c⟩:=x;exact⟨z,y,vs,r,ob,es,ep,k _ _ (.inl rfl) e,c⟩
 |dT kvs=>
  obtain⟨z,y,xs,r,ob,es,ep,e,c⟩:=x;exact⟨z,y,xs,Paired.mapP r fun p q z=>⟨z.1,ht _ _ z.2.1,z.2.2⟩,ob,es,ep,k _ _ (.inl rfl) e,c⟩
 |set S n=>obtain⟨ob,es,ep,t,e,c⟩:=x;exact⟨ob,es,ep,t,k _ _ (.inl rfl) e,c⟩
 |ins C dx fs=>
  obtain⟨d,z,ne,e,mA,⟨od,es,ep,e2,c⟩,r⟩:=x;exact⟨ho _ d,z,ne,k _ _ (.inl rfl) e,mA,⟨od,es,ep,k _ _ (.inr d) e2,c⟩,r⟩
 |own y=>obtain⟨ob,e⟩:=x;exact⟨ob,k _ _ (.inl rfl) e⟩
 |xd fs=>obtain⟨mA,⟨od,es,ep,e,c⟩,r⟩:=x;exact⟨mA,⟨od,es,ep,k _ _ (.inl rfl) e,c⟩,r⟩
 |rng lo hi=>obtain⟨t,u,v,e⟩:=x;exact⟨t,u,v,k _ _ (.inl rfl) e⟩
 |frz ob u ih=>obtain⟨e,q⟩:=x;exact⟨k _ _ (.inl rfl) e,ih q⟩
 |tbl ps=>
  have e:h.get? a=some { cls:=.none,data:=.fields ps }:=x
  show h'.get? a=some { cls:=.none,data:=.fields ps }
  exact k a _ (.inl rfl) e
 |met f y=>
  have e:h.get? a=some (W.methodObj (.ref f) (.ref y)):=x
  show h'.get? a=some (W.methodObj (.ref f) (.ref y))
  exact k a _ (.inl rfl) e
 |ext φ=>obtain⟨p,⟨o,e⟩,st⟩:=x;exact⟨st _ _ p fun o q=>k _ _ (.inl rfl) q,⟨o,k _ _ (.inl rfl) e⟩,st⟩
theorem HOk.lt(x:HOk P w H h)(e:H a=some o):a<h.objs.size:=(x a o e).lt
theorem HOk.fresh(x:HOk P w H h)(e:h.objs.size<=a):H a=none:=by
 cases q:H a with
 |none=>rfl
 |some u=>exact absurd (nJ (x.lt q) e) (o6 _)
theorem HOk.kept(x:HOk P w H h)(k:∀b u,h.get? b=some u->h'.get? b=some u):HOk P w H h':=fun a o e=>
 (x a o e).stay (fun b u _ q=>k b u q) (fun _ q=>q) fun _ _ q=>q
theorem HOk.laid(x:HOk P w H h)(k:∀b u,h.get? b=some u->h'.get? b=some u)(hp:h.objs.size<=a)(new:Xe P w (upd H a o) h' a o):HOk P w (upd H a o) h':=fun b u e=>by
 have hn:=x.fresh hp
 by_cases hb:b=a
 ·subst hb;rw[Ze] at e;cases e;exact new
 ·rw[Zy hb] at e;exact(x b u e).stay (fun c v _ q=>k c v q) (fun c q=>by rw[Zy (ZZ q hn)];exact q) fun c xs q=>by rw[Zy (ZZ q hn)];exact q
end
def Rd(H:Hp)(a:Addr)(u:HO):Prop:=H a=some u\/∃o,H a=some (.frz o u)
theorem Rd.ok{P:Program}{w:World}{H:Hp}{h:Heap}{a:Addr}{u:HO}(r:Rd H a u)(x:HOk P w H h):Xe P w H h a u:=by
 rcases r with r|⟨o,r⟩
 ·exact x a u r
 ·obtain⟨_,q⟩:=x a _ r;exact q
def Mut:Option HO->Prop
 |some (.lst _)=>True
 |some (.dK _)=>True
 |some (.dT _)=>True
 |some (.set _ _)=>True
 |some (.ins _ _ _)=>True
 |some (.ext _)=>True
 |_=>False
section
variable{P:Program}{w:World}{H:Hp}{h h':Heap}{x e:Addr}{o':HO}
theorem HOk.write(ok:HOk P w H h)(mu:Mut (H x))(he:e=x\/H e=some (.own x))(k:∀b u,b≠e->h.get? b=some u->h'.get? b=some u)(heo:∃u,h'.get? e=some u)
  (new:Xe P w (upd H x o') h' x o'):HOk P w (upd H x o') h':=fun b u q=>by
 have nown:∀c y,H c=some (.own y)->c≠x:=fun c y r z=>by subst z;rw[r] at mu;exact mu
 have ntup:∀c xs,H c=some (.tup xs)->c≠x:=fun c xs r z=>by subst z;rw[r] at mu;exact mu
 by_cases hb:b=x
 ·subst hb;rw[Ze] at q;cases q;exact new
 ·rw[Zy hb] at q
  by_cases hbe:b=e
  ·have q':H b=some (.own x):=by
    rcases he with z|z
    ·exact absurd (hbe.trans z) hb
    ·rw[hbe];exact z
   rw[q] at q';cases q';obtain⟨v,hv⟩:=heo;exact⟨v,by rw[hbe];exact hv⟩
  ·refine(ok b u q).stay (fun c v hc r=>k c v ?_ r) (fun c r=>by rw[Zy (nown c b r)];exact r) fun c xs r=>by rw[Zy (ntup c xs r)];exact r
   rcases hc with rfl|hc
   ·exact hbe
   ·rintro rfl;rcases he with z|z
    ·exact nown c b hc z
    ·rw[hc] at z;cases z;exact hb rfl
end
structure Un(fs ex:List Addr)(H H':Hp)(h h':Heap):Prop where
 keep:∀b o,h.get? b=some o->H b=none->b∉fs->b∉ex->h'.get? b=some o
 slot:∀b o,h.get? b=some o->H b=none->b∈fs->b∉ex->∃sl,h'.get? b=some { o with slots:=sl }
 free:∀b o,h.get? b=some o->H b=none->b∉ex->H' b=none
 there:∀b o,h.get? b=some o->b∉ex->∃o',h'.get? b=some o'
 tups:∀b xs,H b=some (.tup xs)->H' b=some (.tup xs)
 frzs:∀b o u,H b=some (.frz o u)->H' b=some (.frz o u)
 tbls:∀b ps,H b=some (.tbl ps)->∃more,H' b=some (.tbl (ps++more))
section
variable{fs fs' ex ex':List Addr}{H H1 H2:Hp}{h h1 h2 h':Heap}{a x e:Addr}{o:HO}
theorem Un.any(u:Un fs ex H H1 h h1){b:Addr}{ob:Obj}(q:h.get? b=some ob)(n:H b=none)(hx:b∉ex):∃sl,h1.get? b=some { ob with slots:=sl }:=by
 by_cases hb:b∈fs
 ·exact u.slot b ob q n hb hx
 ·exact⟨ob.slots,u.keep b ob q n hb hx⟩
theorem Un.kept(k:∀b u,h.get? b=some u->h'.get? b=some u):Un fs ex H H h h':=
 ⟨fun b ob q _ _ _=>k b ob q,fun b ob q _ _ _=>⟨ob.slots,k b ob q⟩,fun _ _ _ n _=>n,fun b ob q _=>⟨ob,k b ob q⟩,fun _ _ q=>q,fun _ _ _ q=>q,fun _ ps q=>⟨#[],by rw[q];simp⟩⟩
theorem Un.refl:Un fs ex H H h h:=Un.kept fun _ _ q=>q
theorem Un.laid(k:∀b u,h.get? b=some u->h'.get? b=some u)(hp:h.objs.size<=a)(hn:H a=none):Un fs ex H (upd H a o) h h' where
 keep:=fun b u q _ _ _=>k b u q
 slot:=fun b u q _ _ _=>⟨u.slots,k b u q⟩
 free:=fun b u q n _=>by rw[Zy (na (nJ (mR q) hp))];exact n
 there:=fun b u q _=>⟨u,k b u q⟩
 tups:=fun b xs q=>by rw[Zy (ZZ q hn)];exact q
 frzs:=fun b u xs q=>by rw[Zy (ZZ q hn)];exact q
 tbls:=fun b ps q=>⟨#[],by rw[Zy (ZZ q hn),q];simp⟩
theorem Un.write(mu:Mut (H x))(he:e=x\/H e=some (.own x))(k:∀b u,b≠e->h.get? b=some u->h'.get? b=some u)(heo:∃u,h'.get? e=some u):Un fs ex H (upd H x o) h h':=by
 have hx:∀b,H b=none->b≠x:=fun b n z=>by subst z;rw[n] at mu;exact mu
 have hb:∀b,H b=none->b≠e:=fun b n z=>by
  subst z;rcases he with r|r
  ·exact hx b n r
  ·rw[n] at r;cases r
 have hm:∀b u,H b=some u->¬Mut (some u)->b≠x:=fun b u q nm z=>by subst z;rw[q] at mu;exact nm mu
 refine⟨fun b u q n _ _=>k b u (hb b n) q,fun b u q n _ _=>⟨u.slots,k b u (hb b n) q⟩,fun b u q n _=>by rw[Zy (hx b n)];exact n,fun b u q _=>?_,
  fun b xs q=>by rw[Zy (hm b _ q fun z=>z)];exact q,fun b u xs q=>by rw[Zy (hm b _ q fun z=>z)];exact q,fun b ps q=>⟨#[],by rw[Zy (hm b _ q fun z=>z),q];simp⟩⟩
 by_cases hbe:b=e
 ·subst hbe;exact heo
 ·exact⟨u,k b u hbe q⟩
end
def trk(h:Heap)(H:Hp):List Addr:=(List.range h.objs.size).filter fun a=>(H a).isSome
def hidT(h:Heap)(H:Hp):Heap:=W.hideAll h (trk h H)
theorem hidT_size(h:Heap)(H:Hp):(hidT h H).objs.size=h.objs.size:=W.hideAll_size _ _
theorem hidT_get{h:Heap}{H:Hp}{b:Addr}{o:Obj}(e:h.get? b=some o)(n:H b=none):(hidT h H).get? b=some o:=
 W.hideAll_get _ e fun hm=>by
  have q:(H b).isSome=true:=(n5.mp hm).2;rw[n] at q;simp at q
theorem of_hidT{h:Heap}{H:Hp}{b:Addr}{o:Obj}(e:(hidT h H).get? b=some o):h.get? b=some o/\H b=none:=by
 have e':h.get? b=some o:=W.of_hideAll (trk h H) e;refine⟨e',?_⟩;cases q:H b with
 |none=>rfl
 |some x=>
  have hm:b∈trk h H:=n5.mpr ⟨mX.mpr (mR e'),by simp[q]⟩;have z:(hidT h H).get? b=none:=W.hideAll_none (trk h H) hm;rw[z] at e;cases e
def allNews(g h:Heap)(L:Addr):List (Addr×Obj):=(List.range h.objs.size).filterMap fun a=>if a=L\/(g.get? a).isSome=true then none else(h.get? a).map fun o=>(a,o)
def WG(g h:Heap)(L d:Addr):List (Addr×Obj):=(allNews g h L).filter fun p=>decide (p.1≠d)
structure Mod(K:W.Frag)(mg:Str->Option Value)(base:Heap):Prop where
 kin:K.In base
 glob:base.Ns mainGlobals mg
 blt:∃mb,base.Ns builtinsNs mb/\∀x:Str,x ≠ "__name__" -> mb x=bootBuiltins x
 nolimit:base.NoLimit
structure Cx where
 prog:Program
 w:World
 K:W.Frag
 mg:Str->Option Value
 base:Heap
 A:Around
 N:List Str
 s₀:Shared
 H₀:Hp
 env:Env
 outer:List Env
 stack:List Env
 ex:List Addr
 fn:Str->Bool
 calm:Bool
 pn:List (Addr×Obj)
 xe:Value->Shared->Prop
def frs(l:List Env):List Addr:=l.filterMap (·.frame)
abbrev Cx.fs(X:Cx):List Addr:=frs X.outer
def Vis(sc:Scope)(x:Str):Prop:=sc.names.lookup x=some .local\/sc.names.lookup x=some .cell\/sc.names.lookup x=some .free
def Loc(sc:Scope)(x:Str):Prop:=sc.names.lookup x=some .local\/sc.names.lookup x=some .cell
def Look(env:Env)(h:Heap)(m:Str->Option Value)(x:Str)(u:Value):Prop:=
 (env.kindOf x=some .local/\m x=some u)\/((env.kindOf x=some .cell\/env.kindOf x=some .free)/\∃c,env.cells.lookup x=some c/\h.IsCell c (some u))
structure Cx.Ok(X:Cx):Prop where
 mod:Mod X.K X.mg X.base
 kind:X.env.scope.kind=.function
 glob:X.env.globals=mainGlobals
 blt:X.env.builtins=builtinsNs
 above:X.s₀.heap.objs.size<=X.env.locals
 inj:∀x y c,X.env.cells.lookup x=some c->X.env.cells.lookup y=some c->x=y
 has:∀x,(X.env.kindOf x=some .cell\/X.env.kindOf x=some .free)->∃c,X.env.cells.lookup x=some c
 cab:∀x c,X.fn x=true->X.env.cells.lookup x=some c->X.s₀.heap.objs.size<=c
 hd:X.calm=true->X.A.handled=none
 frames:X.A.frames=some X.stack
 stk:X.stack=X.outer\/(X.stack=X.env::X.outer/\X.env.frame=some X.env.locals)
 exf:∀b∈X.ex,b≠X.env.locals/\∀x c,X.env.cells.lookup x=some c->c≠b
 bs:∀b o,X.base.get? b=some o->X.s₀.heap.get? b=some o/\X.H₀ b=none
 bsz:X.base.objs.size<=X.s₀.heap.objs.size
 noex:∀b o,X.base.get? b=some o->b∉X.ex
 exfs:∀b∈X.ex,b∉X.fs
 funs:X.s₀.heap.FunFrames X.base X.outer
 frf:∀b∈X.fs,X.H₀ b=none
structure Inv(X:Cx)(lC:List (Addr×Obj))(σ:List (Option V))(H:Hp)(s:Shared):Prop where
 ok:X.Ok
 os:s.os=X.s₀.os
 bare:AllBare s.gens
 base:Un X.fs X.ex X.H₀ H X.s₀.heap s.heap
 loc:∃m,s.heap.Ns X.env.locals m/\∀(i:Nat) (x:Str) (v:V),X.N[i]?=some x->σ[i]?=some (some v)->Vis X.env.scope x->∃u,Z1 v u/\Look X.env s.heap m x u
 cell:∀x c,X.env.cells.lookup x=some c->∃v,s.heap.IsCell c v
 free:H X.env.locals=none
 freeC:∀x c,X.env.cells.lookup x=some c->H c=none
 pin:∀p∈X.pn++lC,s.heap.get? p.1=some p.2/\H p.1=none/\p.1≠X.env.locals/\p.1∉X.fs/\∀v,p.2.data≠.cell v
 hok:HOk X.prog X.w H s.heap
 len:σ.length=X.N.length
section
variable{X:Cx}{lC:List (Addr×Obj)}{σ:List (Option V)}{H H':Hp}{s:Shared}{h':Heap}
theorem Cx.Ok.nofr(ok:X.Ok){b:Addr}{o:Obj}(e:X.base.get? b=some o):b∉X.fs:=fun hb=>by
 have:=(ok.funs.mem hb).1;rw[e] at this;cases this
theorem Inv.bs(I:Inv X lC σ H s):∀b o,X.base.get? b=some o->s.heap.get? b=some o/\H b=none:=fun b o e=>
 ⟨I.base.keep b o (I.ok.bs b o e).1 (I.ok.bs b o e).2 (I.ok.nofr e) (I.ok.noex b o e),I.base.free b o (I.ok.bs b o e).1 (I.ok.bs b o e).2 (I.ok.noex b o e)⟩
theorem Inv.bk(I:Inv X lC σ H s):∀b o,X.base.get? b=some o->s.heap.get? b=some o:=fun b o e=>(I.bs b o e).1
theorem Inv.mod(I:Inv X lC σ H s):Mod X.K X.mg X.base:=I.ok.mod
theorem Inv.kIn(I:Inv X lC σ H s):X.K.In s.heap:=I.ok.mod.kin.keeps I.bk
theorem Inv.fr(I:Inv X lC σ H s):∃m,Fr X.base X.env.locals s.heap m:=
 let ⟨m,hn,_⟩:=I.loc
 ⟨m,hn,I.bk,nQ I.ok.bsz I.ok.above⟩
theorem Inv.lt(I:Inv X lC σ H s):X.env.locals<s.heap.objs.size:=let ⟨_,hn,_⟩:=I.loc;hn.lt
theorem Inv.sz(I:Inv X lC σ H s):X.s₀.heap.objs.size<=s.heap.objs.size:=nQ I.ok.above (Nat.le_of_lt I.lt)
theorem Inv.nofs(I:Inv X lC σ H s){a:Addr}(h:s.heap.objs.size<=a):a∉X.fs:=fun hb=>by
 obtain⟨_,o,ho,_⟩:=I.ok.funs.mem hb;exact absurd (nJ (mR ho) (nQ I.sz h)) (o6 _)
theorem Inv.cne(I:Inv X lC σ H s):∀x c,X.env.cells.lookup x=some c->c≠X.env.locals:=fun x c e z=>by
 obtain⟨v,o,ho,hd⟩:=I.cell x c e;obtain⟨m,⟨o',es,ep,ho',hd',_⟩,_⟩:=I.loc;rw[z,ho'] at ho;cases ho;rw[hd'] at hd;cases hd
theorem Inv.funs(I:Inv X lC σ H s):s.heap.FunFrames X.base X.outer:=by
 have all:∀(l:List Env),(∀b∈frs l,b∈X.fs)->X.s₀.heap.FunFrames X.base l->s.heap.FunFrames X.base l:=by
  intro l
  induction l with
  |nil=>intro _ _;trivial
  |cons env r ih=>
   intro hs hl;obtain⟨hk,⟨L,o,hf,hn,ho,hd⟩,hr⟩:=hl;have hL:L∈X.fs:=hs L (by unfold frs;rw[pY,hf];exact pi);obtain⟨sl,e⟩:=I.base.slot L o ho (I.ok.frf L hL) hL fun z=>I.ok.exfs L z hL;exact⟨hk,⟨L,_,hf,hn,e,hd⟩,ih (fun b hb=>hs b (by unfold frs;rw[pY,hf];exact oe _ hb)) hr⟩
 exact all X.outer (fun _ hb=>hb) I.ok.funs
theorem Inv.stack(I:Inv X lC σ H s):s.heap.FunFrames X.base X.stack:=by
 rcases I.ok.stk with e|⟨e,hf⟩
 ·rw[e];exact I.funs
 ·rw[e];obtain⟨m,hn,_⟩:=I.loc;refine .cons (by rw[I.ok.kind];decide) hf hn ?_ I.funs;exact Heap.get?_none_of_le (nQ I.ok.bsz I.ok.above)
theorem Inv.stkSub(I:Inv X lC σ H s):∀b∈frs X.stack,b∈X.env.locals::X.fs:=fun b hb=>by
 rcases I.ok.stk with e|⟨e,hf⟩
 ·rw[e] at hb;exact oe _ hb
 ·rw[e] at hb;unfold frs at hb;rw[pY,hf] at hb;exact hb
theorem Inv.stkFree(I:Inv X lC σ H s):∀b∈frs X.stack,H b=none:=fun b hb=>by
 rcases nu.mp (I.stkSub b hb) with e|hb
 ·rw[e];exact I.free
 ·obtain⟨_,o,ho,_⟩:=I.ok.funs.mem hb;exact I.base.free b o ho (I.ok.frf b hb) fun z=>I.ok.exfs b z hb
theorem Inv.step{g':Array GenState}{t':Nat}{d':Drawn}{ch:List Addr}(I:Inv X lC σ H s)
  (hch:∀b∈ch,(b∈X.ex\/X.s₀.heap.objs.size<=b)/\b≠X.env.locals/\(∀x c,X.env.cells.lookup x=some c->c≠b)/\∀p∈X.pn++lC,p.1≠b)
  (keep:∀b o,b≠X.env.locals->b∉X.fs->b∉ch->s.heap.get? b=some o->H b=none->h'.get? b=some o)
  (slot:∀b o,b≠X.env.locals->b∈X.fs->b∉ch->s.heap.get? b=some o->H b=none->∃sl,h'.get? b=some { o with slots:=sl }) (free:∀b o,b∉ch->s.heap.get? b=some o->H b=none->H' b=none)
  (there:∀b o,b∉ch->s.heap.get? b=some o->∃o',h'.get? b=some o')
  (tups:∀b xs,H b=some (.tup xs)->H' b=some (.tup xs)) (frzs:∀b o u,H b=some (.frz o u)->H' b=some (.frz o u)) (tbls:∀b ps,H b=some (.tbl ps)->∃more,H' b=some (.tbl (ps++more)))
  (ns:∀m,s.heap.Ns X.env.locals m->h'.Ns X.env.locals m) (hok:HOk X.prog X.w H' h') (hg:AllBare g') :
  Inv X lC σ H' { s with heap:=h',gens:=g',drawn:=d',toks:=t' }:=by
 have neL:∀b o,X.s₀.heap.get? b=some o->b≠X.env.locals:=fun b o e=>na (nJ (mR e) I.ok.above);have neC:∀b o,X.s₀.heap.get? b=some o->b∉X.ex->b∉ch:=fun b o e hx hb=>by
  rcases(hch b hb).1 with z|z
  ·exact hx z
  ·exact absurd (nJ (mR e) z) (o6 _)
 have cellK:∀x c,X.env.cells.lookup x=some c->∀v,s.heap.IsCell c v->h'.IsCell c v:=fun x c e v ⟨o,ho,hd⟩=>by
  have nch:c∉ch:=fun z=>(hch c z).2.2.1 x c e rfl
  by_cases hc:c∈X.fs
  ·obtain⟨sl,q⟩:=slot c o (I.cne x c e) hc nch ho (I.freeC x c e);exact⟨_,q,hd⟩
  ·exact⟨o,keep c o (I.cne x c e) hc nch ho (I.freeC x c e),hd⟩
 refine⟨I.ok,I.os,hg,⟨fun b o e n hb hx=>?_,fun b o e n hb hx=>?_,fun b o e n hx=>?_,fun b o e hx=>?_,fun b xs e=>tups b xs (I.base.tups b xs e),fun b o xs e=>frzs b o xs (I.base.frzs b o xs e),fun b ps e=>?_⟩,?_,fun x c e=>?_,?_,fun x c e=>?_,fun p hp=>?_,hok,I.len⟩
 ·exact keep b o (neL b o e) hb (neC b o e hx) (I.base.keep b o e n hb hx) (I.base.free b o e n hx)
 ·obtain⟨sl,e1⟩:=I.base.slot b o e n hb hx;obtain⟨sl',e2⟩:=slot b _ (neL b o e) hb (neC b o e hx) e1 (I.base.free b o e n hx);exact⟨sl',e2⟩
 ·obtain⟨o',e1⟩:=I.base.there b o e hx;exact free b o' (neC b o e hx) e1 (I.base.free b o e n hx)
 ·obtain⟨o',e1⟩:=I.base.there b o e hx;exact there b o' (neC b o e hx) e1
 ·obtain⟨m1,e1⟩:=I.base.tbls b ps e;obtain⟨m2,e2⟩:=tbls b _ e1;exact⟨m1++m2,by rw[e2,Array.append_assoc]⟩
 ·obtain⟨m,hn,hl⟩:=I.loc;refine⟨m,ns m hn,fun i x v e1 e2 e3=>?_⟩;obtain⟨u,r,l⟩:=hl i x v e1 e2 e3;refine⟨u,r,?_⟩;rcases l with l|⟨k,c,e,z⟩
  ·exact .inl l
  ·exact .inr ⟨k,c,e,cellK x c e _ z⟩
 ·obtain⟨v,z⟩:=I.cell x c e;exact⟨v,cellK x c e v z⟩
 ·obtain⟨m,⟨o,_,_,ho,_⟩,_⟩:=I.loc;exact free _ o (fun z=>(hch _ z).2.1 rfl) ho I.free
 ·obtain⟨v,o,ho,hd⟩:=I.cell x c e;exact free c o (fun z=>(hch c z).2.2.1 x c e rfl) ho (I.freeC x c e)
 ·obtain⟨e,n,ne,nf,d⟩:=I.pin p hp;have nch:p.1∉ch:=fun z=>(hch p.1 z).2.2.2 p hp rfl;exact⟨keep p.1 p.2 ne nf nch e n,free p.1 p.2 nch e n,ne,nf,d⟩
theorem Inv.un{t':Nat}(I:Inv X lC σ H s)(u:Un X.fs [] H H' s.heap h')(hok:HOk X.prog X.w H' h'):Inv X lC σ H' { s with heap:=h',toks:=t' }:=by
 obtain⟨m,⟨o,es,ep,ho,r⟩,_⟩:=id I.loc;obtain⟨sl,hL⟩:=u.any ho I.free (by simp);exact I.step (g':=s.gens) (d':=s.drawn) (ch:=[]) (fun _ z=>nomatch z) (fun b o _ hb _ e n=>u.keep b o e n hb (by simp)) (fun b o _ hb _ e n=>u.slot b o e n hb (by simp)) (fun b o _ e n=>u.free b o e n (by simp)) (fun b o _ e=>u.there b o e (by simp)) u.tups u.frzs u.tbls (fun m' hm=>by
  obtain⟨o',es',ep',ho',r'⟩:=hm;rw[ho] at ho';cases ho';exact⟨_,es',ep',hL,r'⟩) hok I.bare
theorem Inv.call{g':Array GenState}{t':Nat}{d':Drawn}{ch:List Addr}(I:Inv X lC σ H s)(u:Un (frs X.stack) ch H H' s.heap h')(hok:HOk X.prog X.w H' h')(hg:AllBare g')
  (hch:∀b∈ch,(b∈X.ex\/X.s₀.heap.objs.size<=b)/\b≠X.env.locals/\(∀x c,X.env.cells.lookup x=some c->c≠b)/\∀p∈X.pn++lC,p.1≠b) :
  Inv X lC σ H' { s with heap:=h',gens:=g',drawn:=d',toks:=t' }:=by
 obtain⟨m,⟨o,es,ep,ho,r⟩,_⟩:=id I.loc;obtain⟨sl,hL⟩:=u.any ho I.free fun z=>(hch _ z).2.1 rfl;exact I.step (ch:=ch) hch (fun b o hL hb hc e n=>u.keep b o e n (fun z=>(nu.mp (I.stkSub b z)).elim hL hb) hc) (fun b o _ _ hc e n=>u.any e n hc) (fun b o hc e n=>u.free b o e n hc) (fun b o hc e=>u.there b o e hc) u.tups u.frzs u.tbls (fun m' hm=>by
  obtain⟨o',es',ep',ho',r'⟩:=hm;rw[ho] at ho';cases ho';exact⟨_,es',ep',hL,r'⟩) hok hg
theorem Inv.turned{t':Nat}{it:Addr}(I:Inv X lC σ H s)(k:∀b o,b≠it->s.heap.get? b=some o->h'.get? b=some o)(hn:H it=none)(hL:it≠X.env.locals)
  (h1:it∈X.ex\/X.s₀.heap.objs.size<=it) (h2:∀x c,X.env.cells.lookup x=some c->c≠it) (h3:∀p∈X.pn++lC,p.1≠it):Inv X lC σ H { s with heap:=h',toks:=t' }:=by
 have nit:∀b u,H b=some u->b≠it:=fun b u e z=>by rw[z,hn] at e;cases e
 refine I.step (g':=s.gens) (d':=s.drawn) (ch:=[it]) (fun b hb=>?_) (fun b o _ _ hc e _=>k b o (fun z=>hc (by simp[z])) e) (fun b o _ _ hc e _=>⟨o.slots,k b o (fun z=>hc (by simp[z])) e⟩) (fun _ _ _ _ n=>n)
  (fun b o hc e=>⟨o,k b o (fun z=>hc (by simp[z])) e⟩) (fun _ _ e=>e) (fun _ _ _ e=>e) (fun b ps e=>⟨#[],by rw[e];simp⟩) (fun m hm=>?_) (fun b u e=>?_) I.bare
 ·have e:b=it:=by simpa using hb
  subst e;exact⟨h1,hL,h2,h3⟩
 ·obtain⟨o,es,ep,ho,r⟩:=hm;exact⟨o,es,ep,k _ o (nN hL) ho,r⟩
 ·refine(I.hok b u e).stay (fun c v hc q=>k c v ?_ q) (fun _ q=>q) fun _ _ q=>q;rcases hc with z|z
  ·rw[z];exact nit b u e
  ·exact nit c _ z
theorem Inv.tok(I:Inv X lC σ H s)(t:Nat):Inv X lC σ H { s with toks:=t }:=I.un (h':=s.heap) (t':=t) Un.refl I.hok
theorem Inv.kept{t':Nat}(I:Inv X lC σ H s)(k:∀b u,s.heap.get? b=some u->h'.get? b=some u):Inv X lC σ H { s with heap:=h',toks:=t' }:=I.un (Un.kept k) (I.hok.kept k)
theorem Inv.laid{a:Addr}{o:HO}{t':Nat}(I:Inv X lC σ H s)(k:∀b u,s.heap.get? b=some u->h'.get? b=some u)(hp:s.heap.objs.size<=a)(new:Xe X.prog X.w (upd H a o) h' a o) :
  Inv X lC σ (upd H a o) { s with heap:=h',toks:=t' }:=I.un (Un.laid k hp (I.hok.fresh hp)) (I.hok.laid k hp new)
theorem Inv.write{x e:Addr}{o:HO}{t':Nat}(I:Inv X lC σ H s)(mu:Mut (H x))(he:e=x\/H e=some (.own x))(k:∀b u,b≠e->s.heap.get? b=some u->h'.get? b=some u)(heo:∃u,h'.get? e=some u)
  (new:Xe X.prog X.w (upd H x o) h' x o):Inv X lC σ (upd H x o) { s with heap:=h',toks:=t' }:=I.un (Un.write mu he k heo) (I.hok.write mu he k heo new)
theorem Inv.pins_of{pins':List (Addr×Obj)}(I:Inv X lC σ H s)(h:∀p∈pins',s.heap.get? p.1=some p.2/\H p.1=none/\p.1≠X.env.locals/\p.1∉X.fs/\∀v,p.2.data≠.cell v):Inv X pins' σ H s:=
 ⟨I.ok,I.os,I.bare,I.base,I.loc,I.cell,I.free,I.freeC,fun p hp=>(nE.mp hp).elim (fun z=>I.pin p (oB _ z)) (h p),I.hok,I.len⟩
theorem jC{N:List Str}(hN:N.Nodup){i j:Nat}{x:Str}(a:N[i]?=some x)(b:N[j]?=some x):i=j:=by
 obtain⟨h1,e1⟩:=nT.mp a;obtain⟨h2,e2⟩:=nT.mp b;exact(List.getElem_inj hN).mp (e1.trans e2.symm)
theorem zd{M:Model}{A:Around}{E:Value->Shared->Prop}{i:Nat}{x:Str}{v:V}{u:Value}{Q:Unit->Shared->Prop}(I:Inv X lC σ H s)(hN:X.N.Nodup)(hi:X.N[i]?=some x)(hx:Loc X.env.scope x)(r:Z1 v u)
  (h:∀s',Inv X lC (σ.set i (some v)) H s'->(∃a,Heap.SameBut a s.heap s'.heap/\(a=X.env.locals\/X.env.cells.lookup x=some a))->Q () s') (hf:X.fn x=true\/X.env.scope.names.lookup x=some .local:=by first|exact .inl rfl|exact .inr rfl|assumption):wpAny M A (storeName X.env x u) Q E s:=by
 obtain⟨m,hn,hl⟩:=id I.loc;have hcls:(X.env.scope.kind==.class||(X.env.scope.kind==.module&&X.env.locals != X.env.globals))=false:=by rw[I.ok.kind];rfl
 have hiσ:i<σ.length:=by rw[I.len];exact(nT.mp hi).1
 have cne:=I.cne;have tracked:∀{a:Addr}{h':Heap},(∃o,s.heap.get? a=some o/\H a=none)->Heap.SameBut a s.heap h'->HOk X.prog X.w H h':=fun {a h'} ha hs b ob e=>by
  obtain⟨_,_,hfree⟩:=ha;refine(I.hok b ob e).stay (fun c w' hc q=>(hs.2 c ?_).trans q) (fun _ q=>q) fun _ _ q=>q;rintro rfl;rcases hc with rfl|hc
  ·rw[hfree] at e;cases e
  ·rw[hfree] at hc;cases hc
 rcases hx with hk|hk
 ·refine wpAny_storeName_local hk hn (fun h' hn' hs=>?_) hcls;obtain⟨oL,_,_,hoL,_⟩:=id hn;refine h _ ⟨I.ok,I.os,I.bare,⟨fun b o e n hb hx=>?_,fun b o e n hb hx=>?_,I.base.free,fun b o e hx=>?_,I.base.tups,I.base.frzs,I.base.tbls⟩,⟨_,hn',fun j y v' e1 e2 e3=>?_⟩,fun y c e=>?_,I.free,I.freeC,fun p hp=>?_,tracked ⟨oL,hoL,I.free⟩ hs,by simpa using I.len⟩ ⟨_,hs,.inl rfl⟩
  ·exact(hs.2 b (na (nJ (mR e) I.ok.above))).trans (I.base.keep b o e n hb hx)
  ·obtain⟨sl,e1⟩:=I.base.slot b o e n hb hx;exact⟨sl,(hs.2 b (na (nJ (mR e) I.ok.above))).trans e1⟩
  ·obtain⟨o',e1⟩:=I.base.there b o e hx;exact⟨o',(hs.2 b (na (nJ (mR e) I.ok.above))).trans e1⟩
  ·by_cases hj:j=i
   ·subst hj;rw[hi] at e1;cases e1;rw[pZ hiσ] at e2;cases e2;exact⟨u,r,.inl ⟨hk,by simp⟩⟩
   ·rw[p0 (nN hj)] at e2;obtain⟨u',r',q⟩:=hl j y v' e1 e2 e3;refine⟨u',r',?_⟩;rcases q with⟨k,e⟩|⟨k,c,e,z⟩
    ·refine .inl ⟨k,?_⟩;have:y≠x:=fun e=>hj (jC hN e1 (e▸hi));simp[this,e]
    ·exact .inr ⟨k,c,e,z.sameBut hs (cne y c e)⟩
  ·obtain⟨w',z⟩:=I.cell y c e;exact⟨w',z.sameBut hs (cne y c e)⟩
  ·obtain⟨e,n,ne,nf,d⟩:=I.pin p hp;exact⟨(hs.2 p.1 ne).trans e,n,ne,nf,d⟩
 ·have hfn:X.fn x=true:=by
   rcases hf with z|z
   ·exact z
   ·rw[z] at hk;cases hk
  obtain⟨c,hc⟩:=I.ok.has x (.inl hk);obtain⟨w',z⟩:=I.cell x c hc;refine wpAny_storeName_cell I.ok.kind hk hc z (fun h' hc' hs=>?_);obtain⟨oc,hoc,hocd⟩:=id z;refine h { s with heap:=h' } ⟨I.ok,I.os,I.bare,⟨fun b o e n hb hx=>?_,fun b o e n hb hx=>?_,I.base.free,fun b o e hx=>?_,I.base.tups,I.base.frzs,I.base.tbls⟩,⟨m,hn.sameBut hs (nN (cne x c hc)),fun j y v' e1 e2 e3=>?_⟩,fun y c' e=>?_,I.free,I.freeC,fun p hp=>?_,tracked ⟨oc,hoc,I.freeC x c hc⟩ hs,by simpa using I.len⟩ ⟨c,hs,.inr hc⟩
  ·exact(hs.2 b (na (nJ (mR e) (I.ok.cab x c hfn hc)))).trans (I.base.keep b o e n hb hx)
  ·obtain⟨sl,e1⟩:=I.base.slot b o e n hb hx;exact⟨sl,(hs.2 b (na (nJ (mR e) (I.ok.cab x c hfn hc)))).trans e1⟩
  ·obtain⟨o',e1⟩:=I.base.there b o e hx;exact⟨o',(hs.2 b (na (nJ (mR e) (I.ok.cab x c hfn hc)))).trans e1⟩
  ·by_cases hj:j=i
   ·subst hj;rw[hi] at e1;cases e1;rw[pZ hiσ] at e2;cases e2;exact⟨u,r,.inr ⟨.inl hk,c,hc,hc'⟩⟩
   ·rw[p0 (nN hj)] at e2;obtain⟨u',r',q⟩:=hl j y v' e1 e2 e3;refine⟨u',r',?_⟩;rcases q with q|⟨k,c',e,z'⟩
    ·exact .inl q
    ·refine .inr ⟨k,c',e,z'.sameBut hs ?_⟩;rintro rfl;exact hj (jC hN e1 (I.ok.inj _ _ _ e hc▸hi))
  ·by_cases hcc:c'=c
   ·subst hcc;exact⟨_,hc'⟩
   ·obtain⟨w2,z2⟩:=I.cell y c' e;exact⟨w2,z2.sameBut hs hcc⟩
  ·obtain⟨e,n,ne,nf,d⟩:=I.pin p hp;refine⟨(hs.2 p.1 ?_).trans e,n,ne,nf,d⟩;intro q;rw[q,hoc] at e;have q':oc=p.2:=nv e;exact d w' (by rw[<- q'];exact hocd)
theorem yH{M:Model}{A:Around}{E:Value->Shared->Prop}{i:Nat}{x:Str}{v:V}{u:Value}{Q:Unit->Shared->Prop}(I:Inv X lC σ H s)(hN:X.N.Nodup)(hi:X.N[i]?=some x)(hx:Loc X.env.scope x)(r:Z1 v u)
  (h:∀s',Inv X lC (σ.set i (some v)) H s'->Q () s') (hf:X.fn x=true\/X.env.scope.names.lookup x=some .local:=by first|exact .inl rfl|exact .inr rfl|assumption):wpAny M A (storeName X.env x u) Q E s:=
 zd I hN hi hx r (fun s' I' _=>h s' I') hf
theorem Inv.call'{s':Shared}{ch:List Addr}(I:Inv X lC σ H s)(ho:s'.os=s.os)(u:Un (frs X.stack) ch H H' s.heap s'.heap)(hok:HOk X.prog X.w H' s'.heap)(hg:AllBare s'.gens)
  (hch:∀b∈ch,(b∈X.ex\/X.s₀.heap.objs.size<=b)/\b≠X.env.locals/\(∀x c,X.env.cells.lookup x=some c->c≠b)/\∀p∈X.pn++lC,p.1≠b):Inv X lC σ H' s':=by
 obtain⟨h',g',d',t',o'⟩:=s';have e:o'=s.os:=ho;subst e;exact I.call (g':=g') (t':=t') (d':=d') u hok hg hch
end
abbrev XK:=Value->Option Addr->Hp->Prop
abbrev St:=List (Option V)
abbrev VK:=V->Hp->Prop
abbrev TE:=St->Hp->VK->Prop
abbrev TT:=St->Hp->(Bool->Hp->Prop)->Prop
abbrev TA:=St->Hp->(List V->Hp->Prop)->Prop
structure Ends where
 nx:St->Hp->Prop
 rt:VK
 bk:St->Hp->Prop:=fun _ _=>False
 ct:St->Hp->Prop:=fun _ _=>False
abbrev TS:=Ends->St->Hp->Prop
def EP(X:Cx)(lC:List (Addr×Obj))(σ:St)(Q:VK)(u:Value)(s':Shared):Prop:=∃v H',Inv X lC σ H' s'/\Z1 v u/\Q v H'
def TP(X:Cx)(lC:List (Addr×Obj))(σ:St)(Q:Bool->Hp->Prop)(b:Bool)(s':Shared):Prop:=∃H',Inv X lC σ H' s'/\Q b H'
def AP(X:Cx)(lC:List (Addr×Obj))(σ:St)(Q:List V->Hp->Prop)(us:List Value)(s':Shared):Prop:=∃vs H',Inv X lC σ H' s'/\ZP vs us/\Q vs H'
def SP(X:Cx)(lC:List (Addr×Obj))(D:Ends)(f:Flow)(s':Shared):Prop:=
 match f with
 |.next=>∃σ' H',Inv X lC σ' H' s'/\D.nx σ' H'
 |.brk=>∃σ' H',Inv X lC σ' H' s'/\D.bk σ' H'
 |.cont=>∃σ' H',Inv X lC σ' H' s'/\D.ct σ' H'
 |.ret u=>∃v σ' H',Inv X lC σ' H' s'/\Z1 v u/\D.rt v H'
def PE(X:Cx)(e:Expr)(t:TE):Prop:=
 ∀(lC:List (Addr×Obj)) (s:Shared) (σ:St) (H:Hp) (Q:VK),Inv X lC σ H s->t σ H Q->wpAny (model X.prog X.w) X.A (eval e X.env) (EP X lC σ Q) X.xe s
def PT(X:Cx)(e:Expr)(t:TT):Prop:=
 ∀(lC:List (Addr×Obj)) (s:Shared) (σ:St) (H:Hp) (Q:Bool->Hp->Prop),Inv X lC σ H s->t σ H Q->wpAny (model X.prog X.w) X.A (isTrue e X.env (eval e X.env)) (TP X lC σ Q) X.xe s
def PW(X:Cx)(e:Expr)(t:TT):Prop:=
 ∀(whole:Sem Value) (lC:List (Addr×Obj)) (s:Shared) (σ:St) (H:Hp) (Q:Bool->Hp->Prop),Inv X lC σ H s->t σ H Q->wpAny (model X.prog X.w) X.A (isTrue e X.env whole) (TP X lC σ Q) X.xe s
theorem PW.pt{X:Cx}{e:Expr}{t:TT}(h:PW X e t):PT X e t:=h _
def PA(X:Cx)(es:List Expr)(t:TA):Prop:=
 ∀(pos:Pos) (lC:List (Addr×Obj)) (s:Shared) (σ:St) (H:Hp) (Q:List V->Hp->Prop),Inv X lC σ H s->t σ H Q->wpAny (model X.prog X.w) X.A (spliced (backTo pos (starEach es X.env))) (AP X lC σ Q) X.xe s
def PS(X:Cx)(st:Stmt)(t:TS):Prop:=
 ∀(lC:List (Addr×Obj)) (s:Shared) (σ:St) (H:Hp) (D:Ends),Inv X lC σ H s->t D σ H->wpAny (model X.prog X.w) X.A (exec st X.env) (SP X lC D) X.xe s
def PSs(X:Cx)(st:List Stmt)(t:TS):Prop:=
 ∀(lC:List (Addr×Obj)) (s:Shared) (σ:St) (H:Hp) (D:Ends),Inv X lC σ H s->t D σ H->wpAny (model X.prog X.w) X.A (execs st X.env) (SP X lC D) X.xe s
theorem thn{α:Type}{t:Sem α}{Q Q':α->Shared->Prop}{M:Model}{A:Around}{E:Value->Shared->Prop}{s:Shared}(h:wpAny M A t Q E s)(hQ:∀a s,Q a s->Q' a s):wpAny M A t Q' E s:=oj h hQ fun _ _ x=>x
section
variable{X:Cx}
theorem bin{a b:Expr}{ta tb:TE}(ha:PE X a ta)(hb:PE X b tb){lC:List (Addr×Obj)}{s:Shared}{σ:St}{H:Hp}{R:V->V->Hp->Prop}(I:Inv X lC σ H s)(h:ta σ H fun x H1=>tb σ H1 fun y H2=>R x y H2)
  {α:Type}{Q:α->Shared->Prop}{f:Value->Value->Sem α}
  (hf:∀v u s2 x y H2,Inv X lC σ H2 s2->Z1 x v->Z1 y u->R x y H2->wpAny (model X.prog X.w) X.A (f v u) Q X.xe s2) :
  wpAny (model X.prog X.w) X.A (eval a X.env) (fun v s₁=>wpAny (model X.prog X.w) X.A (eval b X.env) (fun u s₂=>wpAny (model X.prog X.w) X.A (f v u) Q X.xe s₂) X.xe s₁) X.xe s:=by
 refine thn (ha lC s σ H _ I h) fun v s1 ⟨x,H1,I1,r1,q1⟩=>?_;refine thn (hb lC s1 σ H1 _ I1 q1) fun u s2 ⟨y,H2,I2,r2,q2⟩=>?_;exact hf v u s2 x y H2 I2 r1 r2 q2
inductive VarR(i:Nat)(σ:St)(H:Hp)(Q:VK):Prop
 |mk (v:V) (h:σ[i]?=some (some v)) (k:Q v H):VarR i σ H Q
def tVar(i:Nat):TE:=fun σ H Q=>VarR i σ H Q
def tC(v:V):TE:=fun _ H Q=>Q v H
theorem pe_var{i:Nat}{x:Str}{pos:Pos}(hN:X.N[i]?=some x)(hv:Vis X.env.scope x)(hd:(x==("__debug__" : Str))=false:=by decide)(hcd:(x==("__classdict__" : Str))=false:=by decide):PE X (.Name x pos) (tVar i):=by
 intro lC s σ H Q I h;obtain⟨v,e,h⟩:=h;obtain⟨m,hn,hl⟩:=I.loc;obtain⟨u,r,l⟩:=hl i x v hN e hv;have fin:EP X lC σ Q u s:=⟨v,H,I,r,h⟩;rcases l with⟨hk,hm⟩|⟨hk,c,hc,hcell⟩
 ·exact wpAny_Name (wpAny_loadName_local I.ok.kind hk hn hm fin) hd
 ·rcases hk with hk|hk
  ·exact wpAny_Name (wpAny_loadName_cell I.ok.kind hk hc hcell fin) hd
  ·exact wpAny_Name (wpAny_loadName_free I.ok.kind hk hc hcell fin hcd) hd
theorem Zd{i j pos}:PE X (.Constant (.int i) j pos) (tC (.int i)):=fun _ _ _ H _ I h=>wpAny_Constant_int ⟨.int i,H,I.tok _,⟨_,rfl⟩,h⟩
theorem Wv{b j pos}:PE X (.Constant (.bool b) j pos) (tC (.bl b)):=fun _ _ _ H _ I h=>Constant_bool ⟨.bl b,H,I,rfl,h⟩
theorem pe_non{j pos}:PE X (.Constant .none j pos) (tC .non):=fun _ _ _ H _ I h=>Constant_none ⟨.non,H,I,rfl,h⟩
theorem Zx{x j pos}:PE X (.Constant (.str x) j pos) (tC (.str x)):=fun _ _ _ H _ I h=>Calls.Constant_str ⟨.str x,H,I.tok _,⟨_,rfl⟩,h⟩
def Gl(X:Cx)(x:Str):Prop:=X.env.kindOf x=some .globalImplicit
theorem jl{E:Value->Shared->Prop}{lC:List (Addr×Obj)}{s:Shared}{σ:St}{H:Hp}{x:Str}{u:Value}{pos:Pos}{Q:Value->Shared->Prop}(I:Inv X lC σ H s)(hg:Gl X x)(hm:X.mg x=some u)(h:Q u s)
  (hd:(x==("__debug__" : Str))=false:=by decide):wpAny (model X.prog X.w) X.A (eval (.Name x pos) X.env) Q E s:=
 Calls.Name_function_global I.ok.kind hg (Calls.loadGlobal_global (by rw[I.ok.glob];exact I.mod.glob.keeps I.bk) hm h) hd
theorem yf{E:Value->Shared->Prop}{lC:List (Addr×Obj)}{s:Shared}{σ:St}{H:Hp}{x:Str}{u:Value}{pos:Pos}{Q:Value->Shared->Prop}(I:Inv X lC σ H s)(hg:Gl X x)(hm:X.mg x=none)(hv:bootBuiltins x=some u)(h:Q u s)
  (hn:x ≠ "__name__" := by decide) (hd:(x==("__debug__" : Str))=false:=by decide):wpAny (model X.prog X.w) X.A (eval (.Name x pos) X.env) Q E s:=by
 obtain⟨mb,h1,h2⟩:=I.mod.blt;exact Calls.Name_function_global I.ok.kind hg (Calls.loadGlobal_builtin (by rw[I.ok.glob];exact I.mod.glob.keeps I.bk) hm (by rw[I.ok.blt];exact h1.keeps I.bk) ((h2 x hn).trans hv) h) hd
theorem pe_glob{x:Str}{v:V}{u:Value}{pos:Pos}(hg:Gl X x)(hm:X.mg x=some u)(r:Z1 v u)(hd:(x==("__debug__" : Str))=false:=by decide):PE X (.Name x pos) (tC v):=
 fun _ _ _ H _ I h=>jl I hg hm ⟨v,H,I,r,h⟩ hd
theorem WK{x:Str}{v:V}{u:Value}{pos:Pos}(hg:Gl X x)(hm:X.mg x=none)(hv:bootBuiltins x=some u)(r:Z1 v u)(hn:x ≠ "__name__" := by decide)(hd:(x==("__debug__" : Str))=false:=by decide):PE X (.Name x pos) (tC v):=
 fun _ _ _ H _ I h=>yf I hg hm hv ⟨v,H,I,r,h⟩ hn hd
variable{a b:Expr}{ta tb:TE}{pos:Pos}
def PC(X:Cx)(op:CmpOp)(a b:Expr)(t:TE):Prop:=
 ∀(lC:List (Addr×Obj)) (s:Shared) (σ:St) (H:Hp) (Q:VK),Inv X lC σ H s->t σ H Q ->
  wpAny (model X.prog X.w) X.A (eval a X.env) (fun v s₁=>wpAny (model X.prog X.w) X.A (eval b X.env) (fun u s₂=>wpAny (model X.prog X.w) X.A (compareOp op v u) (EP X lC σ Q) X.xe s₂) X.xe s₁) X.xe s
theorem nobehind(b:Expr){op:CmpOp}(h:op≠.In)(h2:op≠.NotIn):behindInMarks op b=false:=by
 have e1:(op==CmpOp.In)=false:=by cases op<;>first|rfl|exact absurd rfl h
 have e2:(op==CmpOp.NotIn)=false:=by cases op<;>first|rfl|exact absurd rfl h2
 cases b<;>simp[behindInMarks,e1,e2]
inductive BoolR(x:V)(H:Hp)(Q:Bool->Hp->Prop):Prop
 |mk (c:Bool) (h:x=.bl c) (k:Q c H):BoolR x H Q
def tB(t:TE):TT:=fun σ H Q=>t σ H fun x H1=>BoolR x H1 Q
theorem pt_cmp{op:CmpOp}{t:TE}(h:PC X op a b t)(h1:behindInMarks op b=false:=by first|exact nobehind _ (by decide) (by decide)|rfl):PT X (.Compare a [op] [b] pos) (tB t):=by
 intro lC s σ H Q I hw;refine wpAny_isTrue_Compare1 (thn (h lC s σ H _ I hw) fun v s1 h1=>thn h1 fun u s2 h2=>thn h2 fun c s3 ⟨x,H1,I1,r1,q1⟩=>?_) h1;obtain⟨d,rfl,q⟩:=q1;cases r1;exact ow ⟨H1,I1,q⟩
theorem XG{e:Expr}{t:TE}(h:PE X e t)(he:∀whole,isTrue e X.env whole=(do let v <- whole;standAt e.pos;holding [v] (truthy v)):=by intro _;rfl):PT X e (tB t):=by
 intro lC s σ H Q I hw;refine isTrue_plain (thn (h lC s σ H _ I hw) fun v s1 ⟨x,H1,I1,r1,q1⟩=>?_) (he _);obtain⟨d,rfl,q⟩:=q1;cases r1;exact ow ⟨H1,I1,q⟩
variable{tA tB':TT}{WG:List Expr}
def tAnd(t u:TT):TT:=fun σ H Q=>t σ H fun c H1=>if c=true then u σ H1 Q else Q false H1
def tOr(t u:TT):TT:=fun σ H Q=>t σ H fun c H1=>if c=true then Q true H1 else u σ H1 Q
def tNot(t:TT):TT:=fun σ H Q=>t σ H fun c H1=>Q (!c) H1
theorem zO(ha:PT X a tA):PW X (.BoolOp .And [a] pos) tA:=by
 intro wh lC s σ H Q I h;refine isTrue_and (thn (ha lC s σ H Q I h) fun c s1 e=>?_);cases c with
 |true=>exact isTrue_and_nil e
 |false=>exact e
theorem V0(ha:PT X a tA):PW X (.BoolOp .Or [a] pos) tA:=by
 intro wh lC s σ H Q I h;refine isTrue_or (thn (ha lC s σ H Q I h) fun c s1 e=>?_);cases c with
 |false=>exact isTrue_or_nil e
 |true=>exact e
theorem vK(ha:PT X a tA)(hb:PW X (.BoolOp .And (b::WG) pos) tB'):PW X (.BoolOp .And (a::b::WG) pos) (tAnd tA tB'):=by
 intro wh lC s σ H Q I h;refine isTrue_and (thn (ha lC s σ H _ I h) fun c s1 ⟨H1,I1,q1⟩=>?_);cases c with
 |true=>exact hb wh lC s1 σ H1 Q I1 q1
 |false=>exact⟨H1,I1,q1⟩
theorem U8(ha:PT X a tA)(hb:PW X (.BoolOp .Or (b::WG) pos) tB'):PW X (.BoolOp .Or (a::b::WG) pos) (tOr tA tB'):=by
 intro wh lC s σ H Q I h;refine isTrue_or (thn (ha lC s σ H _ I h) fun c s1 ⟨H1,I1,q1⟩=>?_);cases c with
 |true=>exact⟨H1,I1,q1⟩
 |false=>exact hb wh lC s1 σ H1 Q I1 q1
theorem Wa(ha:PT X a tA):PT X (.UnaryOp .Not a pos) (tNot tA):=by
 intro lC s σ H Q I h;exact isTrue_not (ha lC s σ H (fun c H1=>Q (!c) H1) I h)
def tAndV(ta tb:TE):TE:=fun σ H Q=>ta σ H fun x H1=>∃c,x=.bl c/\if c=true then tb σ H1 Q else Q (.bl false) H1
def tOrV(ta tb:TE):TE:=fun σ H Q=>ta σ H fun x H1=>∃c,x=.bl c/\if c=true then Q (.bl true) H1 else tb σ H1 Q
def tNotV(ta:TE):TE:=fun σ H Q=>ta σ H fun x H1=>∃c,x=.bl c/\Q (.bl (!c)) H1
theorem Yr{op}{t:TE}(h:PE X a t):PE X (.BoolOp op [a] pos) t:=fun lC s σ H Q I hw=>BoolOp_one (h lC s σ H Q I hw)
theorem YD(ha:PE X a ta)(hb:PE X (.BoolOp .And (b::WG) pos) tb):PE X (.BoolOp .And (a::b::WG) pos) (tAndV ta tb):=by
 intro lC s σ H Q I h;refine BoolOp_and (thn (ha lC s σ H _ I h) fun v s1 ⟨x,H1,I1,r1,q1⟩=>?_);obtain⟨c,rfl,q1⟩:=q1;cases r1;refine ow ?_;cases c with
 |true=>exact hb lC s1 σ H1 Q I1 q1
 |false=>exact⟨.bl false,H1,I1,rfl,q1⟩
theorem pe_or(ha:PE X a ta)(hb:PE X (.BoolOp .Or (b::WG) pos) tb):PE X (.BoolOp .Or (a::b::WG) pos) (tOrV ta tb):=by
 intro lC s σ H Q I h;refine BoolOp_or (thn (ha lC s σ H _ I h) fun v s1 ⟨x,H1,I1,r1,q1⟩=>?_);obtain⟨c,rfl,q1⟩:=q1;cases r1;refine ow ?_;cases c with
 |false=>exact hb lC s1 σ H1 Q I1 q1
 |true=>exact⟨.bl true,H1,I1,rfl,q1⟩
theorem Wr(ha:PE X a ta):PE X (.UnaryOp .Not a pos) (tNotV ta):=by
 intro lC s σ H Q I h;refine UnaryOp_ (thn (ha lC s σ H _ I h) fun v s1 ⟨x,H1,I1,r1,q1⟩=>?_);obtain⟨c,rfl,q1⟩:=q1;cases r1;exact not_of (ow ⟨.bl (!c),H1,I1,rfl,q1⟩)
def tIf(t:TT)(ta tb:TE):TE:=fun σ H Q=>t σ H fun c H1=>if c=true then ta σ H1 Q else tb σ H1 Q
theorem qb{c:Expr}(hc:PT X c tA)(ha:PE X a ta)(hb:PE X b tb):PE X (.IfExp c a b pos) (tIf tA ta tb):=by
 intro lC s σ H Q I h;refine wpAny_IfExp (thn (hc lC s σ H _ I h) fun d s1 ⟨H1,I1,q1⟩=>?_);cases d with
 |true=>exact ha lC s1 σ H1 Q I1 q1
 |false=>exact hb lC s1 σ H1 Q I1 q1
end
def SqL(K:W.Frag)(H:Hp)(a:Addr)(xs:List V):Prop:=
 Rd H a (.lst xs) \/
  ∃(o:Obj) (its:Array Value) (n:Nat),K.lookup a=some o/\o.cls=.type "list" /\ o.dict=none/\o.data=.seq its n/\its.size<=sizeLine/\ZP xs its.toList
def SqT(K:W.Frag)(H:Hp)(a:Addr)(xs:List V):Prop:=
 Rd H a (.tup xs) \/
  ∃(o:Obj) (its:Array Value) (n:Nat),K.lookup a=some o/\o.cls=.type "tuple" /\ o.data=.seq its n/\its.size<=sizeLine/\ZP xs its.toList
def absV:Value->Option V
 |.none=>some .non
 |.bool b=>some (.bl b)
 |.int i _=>some (.int i)
 |.str x _=>some (.str x)
 |.bytes b _=>some (.byt b)
 |.float b _=>some (.flt b)
 |.ref a=>some (.ref a)
 |.type n=>some (.ty n)
 |_=>none
theorem Z1.abs{x:V}{u:Value}(r:Z1 x u):absV u=some x:=by
 cases x with
 |non=>cases r;rfl
 |bl _=>cases r;rfl
 |int _=>obtain⟨t,rfl⟩:=r;rfl
 |str _=>obtain⟨t,rfl⟩:=r;rfl
 |byt _=>obtain⟨t,rfl⟩:=r;rfl
 |flt _=>obtain⟨t,rfl⟩:=r;rfl
 |ref _=>cases r;rfl
 |ty _=>cases r;rfl
theorem Z1.inj{x y:V}{u:Value}(r:Z1 x u)(q:Z1 y u):x=y:=nv (r.abs.symm.trans q.abs)
theorem ZP.inj:∀{xs ys:List V}{us:List Value},ZP xs us->ZP ys us->xs=ys
 |_,_,_,.nil,.nil=>rfl
 |_,_,_,.cons r t,.cons r' t'=>by rw[r.inj r',ZP.inj t t']
section
variable{X:Cx}{lC:List (Addr×Obj)}{σ:St}{H:Hp}{s:Shared}{a:Addr}{xs ys:List V}
theorem SqL.of{K:W.Frag}(h:H a=some (.lst xs)):SqL K H a xs:=.inl (.inl h)
def rS:=@SqL.of
theorem SqT.of{K:W.Frag}(h:H a=some (.tup xs)):SqT K H a xs:=.inl (.inl h)
def rT:=@SqT.of
theorem Inv.list(I:Inv X lC σ H s)(h:SqL X.K H a xs):∃its:List Value,ZP xs its/\PlainL s.heap a its.toArray/\xs.length<=sizeLine:=by
 rcases h with h|⟨o,its,n,hk,hc,hd,hs,hz,r⟩
 ·obtain⟨z,its,n,r,e⟩:=h.ok I.hok;exact⟨its,r,⟨_,n,e,rfl,rfl,rfl⟩,z⟩
 ·refine⟨its.toList,r,⟨o,n,I.kIn a o hk,hc,hd,by simpa using hs⟩,?_⟩;have e:=r.length;simp only[oV] at e;omega
theorem Inv.tuple(I:Inv X lC σ H s)(h:SqT X.K H a xs):∃its:List Value,ZP xs its/\IsTup s.heap a its.toArray/\xs.length<=sizeLine:=by
 rcases h with h|⟨o,its,n,hk,hc,hs,hz,r⟩
 ·obtain⟨z,its,r,p⟩:=h.ok I.hok;exact⟨its,r,p,z⟩
 ·refine⟨its.toList,r,⟨o,I.kIn a o hk,hc,n,by simpa using hs⟩,?_⟩;have e:=r.length;simp only[oV] at e;omega
theorem Inv.list_inj(I:Inv X lC σ H s)(h:SqL X.K H a xs)(h':SqL X.K H a ys):xs=ys:=by
 obtain⟨its,r,⟨o,n,e,_,_,d⟩,_⟩:=I.list h;obtain⟨its',r',⟨o',n',e',_,_,d'⟩,_⟩:=I.list h';rw[e] at e';cases e';rw[d] at d';injection d' with d1 _;have:its=its':=by simpa using ni Array.toList d1
 subst this;exact r.inj r'
theorem Inv.tuple_inj(I:Inv X lC σ H s)(h:SqT X.K H a xs)(h':SqT X.K H a ys):xs=ys:=by
 obtain⟨its,r,⟨o,e,_,n,d⟩,_⟩:=I.tuple h;obtain⟨its',r',⟨o',e',_,n',d'⟩,_⟩:=I.tuple h';rw[e] at e';cases e';rw[d] at d';injection d' with d1 _;have:its=its':=by simpa using ni Array.toList d1
 subst this;exact r.inj r'
end
abbrev Cx.wish(X:Cx)(E:Value->Shared->Prop):Cx:={ X with xe:=E }
abbrev Cx.nox(X:Cx):Cx:=X.wish fun _ _=>False
theorem Cx.Ok.wish{X:Cx}(ok:X.Ok)(E:Value->Shared->Prop):(X.wish E).Ok:=
 ⟨ok.mod,ok.kind,ok.glob,ok.blt,ok.above,ok.inj,ok.has,ok.cab,ok.hd,ok.frames,ok.stk,ok.exf,ok.bs,ok.bsz,ok.noex,ok.exfs,ok.funs,ok.frf⟩
theorem Cx.Ok.unwish{X:Cx}{E:Value->Shared->Prop}(ok:(X.wish E).Ok):X.Ok:=
 ⟨ok.mod,ok.kind,ok.glob,ok.blt,ok.above,ok.inj,ok.has,ok.cab,ok.hd,ok.frames,ok.stk,ok.exf,ok.bs,ok.bsz,ok.noex,ok.exfs,ok.funs,ok.frf⟩
section
variable{X:Cx}{lC:List (Addr×Obj)}{σ:St}{H:Hp}{s:Shared}{E:Value->Shared->Prop}
theorem Inv.wish(I:Inv X lC σ H s)(E:Value->Shared->Prop):Inv (X.wish E) lC σ H s:=⟨I.ok.wish E,I.os,I.bare,I.base,I.loc,I.cell,I.free,I.freeC,I.pin,I.hok,I.len⟩
theorem Inv.unwish(I:Inv (X.wish E) lC σ H s):Inv X lC σ H s:=⟨I.ok.unwish,I.os,I.bare,I.base,I.loc,I.cell,I.free,I.freeC,I.pin,I.hok,I.len⟩
theorem SP.unwish{D:Ends}{f:Flow}{s':Shared}(h:SP (X.wish E) lC D f s'):SP X lC D f s':=by
 cases f with
 |next=>obtain⟨σ',H',I,q⟩:=h;exact⟨σ',H',I.unwish,q⟩
 |brk=>obtain⟨σ',H',I,q⟩:=h;exact⟨σ',H',I.unwish,q⟩
 |cont=>obtain⟨σ',H',I,q⟩:=h;exact⟨σ',H',I.unwish,q⟩
 |ret u=>obtain⟨v,σ',H',I,r,q⟩:=h;exact⟨v,σ',H',I.unwish,r,q⟩
theorem PSs.nox{st:List Stmt}{t:TS}(h:PSs X.nox st t):PSs X st t:=fun lC s σ H D I hw=>
 oj (h lC s σ H D (I.wish _) hw) (fun _ _ q=>q.unwish) fun _ _ z=>False.elim z
end
section
variable{X:Cx}{st:Stmt}{WG:List Stmt}{t u:TS}{e:Expr}{te:TE}{pos:Pos}
def tNext:TS:=fun D σ H=>D.nx σ H
def tSeq(t u:TS):TS:=fun D σ H=>t { D with nx:=u D } σ H
theorem Zu:PSs X [] tNext:=fun _ _ σ H _ I h=>wpAny_execs_nil ⟨σ,H,I,h⟩
theorem Za(h1:PS X st t)(h2:PSs X WG u):PSs X (st::WG) (tSeq t u):=by
 intro lC s σ H D I h;refine wpAny_execs_cons (thn (h1 lC s σ H { D with nx:=u D } I h) fun f s1 q=>?_);cases f with
 |next=>
  obtain⟨σ',H',I',q⟩:=q;exact h2 lC s1 σ' H' D I' q
 |ret v=>exact q
 |brk=>exact q
 |cont=>exact q
theorem Zg(h1:PS X st t):PSs X [st] t:=by
 intro lC s σ H D I h;refine wpAny_execs_cons (thn (h1 lC s σ H D I h) fun f s1 q=>?_);cases f with
 |next=>exact wpAny_execs_nil q
 |ret v=>exact q
 |brk=>exact q
 |cont=>exact q
def tBreak:TS:=fun D σ H=>D.bk σ H
theorem ps_break:PS X (.Break pos) tBreak:=fun _ _ σ H _ I h=>wpAny_Break ⟨σ,H,I,h⟩
theorem Inv.quiet{lC:List (Addr×Obj)}{σ:St}{H:Hp}{s:Shared}(I:Inv X lC σ H s):interactive X.env=false:=by simp[interactive,I.ok.kind]
def tDrop(te:TE):TS:=fun D σ H=>te σ H fun _ H1=>D.nx σ H1
theorem Xc(he:PE X e te)(hs:swapsWith e none pos.line X.env=pure false:=by rfl):PS X (.Expr e pos) (tDrop te):=by
 intro lC s σ H D I h;exact wpAny_Expr_any (thn (he lC s σ H _ I h) fun v s1 ⟨x,H1,I1,r1,q1⟩=>⟨σ,H1,I1,q1⟩) I.quiet hs
def tRet(te:TE):TS:=fun D σ H=>te σ H D.rt
theorem Zq(he:PE X e te):PS X (.Return (some e) pos) (tRet te):=by
 intro lC s σ H D I h;exact wpAny_Return_some (thn (he lC s σ H _ I h) fun v s1 ⟨x,H1,I1,r1,q1⟩=>⟨x,σ,H1,I1,r1,q1⟩)
def tIfS(c:TT)(t u:TS):TS:=fun D σ H=>c σ H fun b H1=>if b=true then t D σ H1 else u D σ H1
theorem ZN{c:Expr}{a b:List Stmt}{tc:TT}(hc:PT X c tc)(ha:PSs X a t)(hb:PSs X b u):PS X (.If c a b pos) (tIfS tc t u):=by
 intro lC s σ H D I h;refine wpAny_If (thn (hc lC s σ H _ I h) fun d s1 ⟨H1,I1,q1⟩=>?_);cases d with
 |true=>exact ha lC s1 σ H1 D I1 q1
 |false=>exact hb lC s1 σ H1 D I1 q1
def tNever:TS:=fun _ _ _=>False
theorem yB:PS X st tNever:=fun _ _ _ _ _ _ h=>h.elim
end
abbrev TG:=V->St->Hp->(St->Hp->Prop)->Prop
abbrev TGs:=List V->St->Hp->(St->Hp->Prop)->Prop
def PG(X:Cx)(target:Expr)(t:TG):Prop:=
 ∀(lC:List (Addr×Obj)) (s:Shared) (σ:St) (H:Hp) (v:V) (u:Value) (Q:St->Hp->Prop),Inv X lC σ H s->Z1 v u->t v σ H Q ->
  wpAny (model X.prog X.w) X.A (assign target X.env u) (fun _ s'=>∃σ' H',Inv X lC σ' H' s'/\Q σ' H') X.xe s
def PGs(X:Cx)(ts:List Expr)(t:TGs):Prop:=
 ∀(lC:List (Addr×Obj)) (s:Shared) (σ:St) (H:Hp) (vs:List V) (us:List Value) (Q:St->Hp->Prop),Inv X lC σ H s->ZP vs us->t vs σ H Q ->
  wpAny (model X.prog X.w) X.A (assignInOrder ((assignEach ts X.env).map (·.2)) us) (fun _ s'=>∃σ' H',Inv X lC σ' H' s'/\Q σ' H') X.xe s
abbrev TIp:=V->V->Hp->VK->Prop
def PIp(X:Cx)(op:Operator)(t:TIp):Prop:=
 ∀(lC:List (Addr×Obj)) (s:Shared) (σ:St) (H:Hp) (x y:V) (v u:Value) (Q:VK),Inv X lC σ H s->Z1 x v->Z1 y u->t x y H Q ->
  wpAny (model X.prog X.w) X.A (inplaceOp op v u) (EP X lC σ Q) X.xe s
section
variable{X:Cx}{pos:Pos}
def Xt(i:Nat):TG:=fun v σ H Q=>Q (σ.set i (some v)) H
theorem Zh{i:Nat}{x:Str}(hN:X.N.Nodup)(hi:X.N[i]?=some x)(hx:Loc X.env.scope x)(hf:X.fn x=true\/X.env.scope.names.lookup x=some .local:=by first|exact .inl rfl|exact .inr rfl|assumption):PG X (.Name x pos) (Xt i):=by
 intro lC s σ H v u Q I r h;exact wpAny_assign_Name (yH I hN hi hx r (fun s' I'=>⟨_,H,I',h⟩) hf)
def gNil:TGs:=fun vs σ H Q=>vs=[]/\Q σ H
def gCons(t:TG)(u:TGs):TGs:=fun vs σ H Q=>∃v r,vs=v::r/\t v σ H fun σ' H'=>u r σ' H' Q
theorem Vc:PGs X [] gNil:=by
 intro lC s σ H vs us Q I r h;obtain⟨e,h⟩:=h;subst e;cases r;exact assignInOrder_nil ⟨σ,H,I,h⟩
theorem Z8{e:Expr}{es:List Expr}{t:TG}{u:TGs}(h1:PG X e t)(h2:PGs X es u)
  (hs:(assignEach (e::es) X.env).map (·.2)=assign e X.env::(assignEach es X.env).map (·.2):=by rfl):PGs X (e::es) (gCons t u):=by
 intro lC s σ H vs us Q I r h;obtain⟨v,vr,e1,h⟩:=h;subst e1;cases r with
 |cons r rr=>
  rw[hs];refine assignInOrder_cons (thn (h1 lC s σ H _ _ _ I r h) fun _ s1 ⟨σ1,H1,I1,q1⟩=>?_);exact h2 lC s1 σ1 H1 _ _ Q I1 rr q1
def gTup(K:W.Frag)(n:Nat)(t:TGs):TG:=fun v σ H Q=>∃a xs,v=.ref a/\SqT K H a xs/\xs.length=n/\t xs σ H Q
theorem pg_tup{es:List Expr}{k:Nat}{t:TGs}{n:Nat}(hc:X.calm=true)(h:PGs X es t)
  (hn:(assignEach es X.env).length=n:=by rfl) (hst:(assignEach es X.env).findIdx? (·.1)=none:=by rfl):PG X (.Tuple es k pos) (gTup X.K n t):=by
 intro lC s σ H v u Q I r hw;obtain⟨a,xs,e1,hq,hl,hw⟩:=hw;subst e1;cases r;obtain⟨its,rv,ht,hz⟩:=I.tuple hq;refine assign_Tuple_tuple (I.ok.hd hc) ht (by simp[hn,<- hl,rv.length]) hst fun h' hx=>?_;have I1:Inv X lC σ H { s with heap:=h' }:=I.kept (t':=s.toks) fun b o e=>hx b o (na (mR e)) e;exact h lC _ σ H xs _ Q I1 (by simpa using rv) hw
def tAsg(te:TE)(g:TG):TS:=fun D σ H=>te σ H fun x H1=>g x σ H1 D.nx
theorem yD{tg e:Expr}{te:TE}{g:TG}(he:PE X e te)(hg:PG X tg g)(hs:swapsWithSole [tg] e pos.line X.env=pure false:=by rfl)(hw:swappedStores [tg] e X.env=pure none:=by rfl)
  (h1:(assignEach [tg] X.env).map (·.2)=[assign tg X.env]:=by rfl):PS X (.Assign [tg] e pos) (tAsg te g):=by
 intro lC s σ H D I h;refine wpAny_Assign_stores (thn (he lC s σ H _ I h) fun v s1 ⟨x,H1,I1,r1,q1⟩=>?_) hs hw;rw[h1];exact thn (hg lC s1 σ H1 x v _ I1 r1 q1) fun _ s2 q=>q
theorem Zi{i:Nat}{x:Str}{e:Expr}{te:TE}{pos':Pos}(hN:X.N.Nodup)(hi:X.N[i]?=some x)(hx:Loc X.env.scope x)(he:PE X e te)(hs:swapsWith e (some (.Name x pos')) pos.line X.env=pure false:=by rfl)(hf:X.fn x=true\/X.env.scope.names.lookup x=some .local:=by first|exact .inl rfl|exact .inr rfl|assumption) :
  PS X (.Assign [.Name x pos'] e pos) (tAsg te (Xt i)):=by
 intro lC s σ H D I h;refine wpAny_Assign_Name (thn (he lC s σ H _ I h) fun v s1 ⟨y,H1,I1,r1,q1⟩=>?_) hs;exact yH I1 hN hi hx r1 (fun s2 I2=>⟨_,H1,I2,q1⟩) hf
def tAug(i:Nat)(te:TE)(ti:TIp):TS:=fun D σ H=>∃x,σ[i]?=some (some x)/\te σ H fun y H1=>ti x y H1 fun z H2=>D.nx (σ.set i (some z)) H2
theorem vA{i:Nat}{x:Str}{e:Expr}{te:TE}{op:Operator}{ti:TIp}{pos':Pos}(hN:X.N.Nodup)(hi:X.N[i]?=some x)(hx:Loc X.env.scope x)(he:PE X e te)(ho:PIp X op ti)(hf:X.fn x=true\/X.env.scope.names.lookup x=some .local:=by first|exact .inl rfl|exact .inr rfl|assumption) :
  PS X (.AugAssign (.Name x pos') op e pos) (tAug i te ti):=by
 intro lC s σ H D I h;obtain⟨v,e1,h⟩:=h;obtain⟨m,hn,hl⟩:=I.loc;have vis:Vis X.env.scope x:=by rcases hx with k|k;exact .inl k;exact .inr (.inl k)
 obtain⟨u,r,l⟩:=hl i x v hi e1 vis;refine wpAny_AugAssign_Name ?_;have go:wpAny (model X.prog X.w) X.A (eval e X.env) (fun w s₂=>wpAny (model X.prog X.w) X.A (inplaceOp op u w) (fun r s₃=>wpAny (model X.prog X.w) X.A (storeName X.env x r) (fun _=>SP X lC D .next) X.xe s₃) X.xe s₂) X.xe s:=by
  refine thn (he lC s σ H _ I h) fun w s1 ⟨y,H1,I1,r1,q1⟩=>?_;refine thn (ho lC s1 σ H1 v y u w _ I1 r r1 q1) fun z s2 ⟨zv,H2,I2,r2,q2⟩=>?_;exact yH I2 hN hi hx r2 (fun s3 I3=>⟨_,H2,I3,q2⟩) hf
 rcases l with⟨hk,hm⟩|⟨hk,c,hc,hcell⟩
 ·exact wpAny_loadName_local I.ok.kind hk hn hm go
 ·rcases hk with hk|hk
  ·exact wpAny_loadName_cell I.ok.kind hk hc hcell go
  ·rcases hx with k|k
   ·have:X.env.scope.names.lookup x=some .free:=hk;rw[k] at this;cases this
   ·have:X.env.scope.names.lookup x=some .free:=hk;rw[k] at this;cases this
def ipI(f:Int->Int->Int):TIp:=fun x y H Q=>∃i j,x=.int i/\y=.int j/\Q (.int (f i j)) H
theorem ip_add:PIp X .Add (ipI fun i j=>i+j):=by
 intro lC s σ H x y v u Q I r1 r2 h;obtain⟨i,j,e1,e2,q⟩:=h;subst e1;subst e2;obtain⟨t,rfl⟩:=r1;obtain⟨t',rfl⟩:=r2;exact iadd_int ⟨.int _,H,I.tok _,⟨_,rfl⟩,q⟩
end
section
variable{X:Cx}{pos:Pos}
def tWhile(c:TT)(tb:TS):TS:=fun D σ H=>∃W:Nat->St->Hp->Prop,(∃m,W m σ H)/\∀m σ H,W m σ H ->
 c σ H fun b H1=>if b=true then ∃N:St->Hp->Prop,(∀σ' H',N σ' H'->∃m',m'<m/\W m' σ' H')/\tb { D with nx:=N,ct:=N,bk:=D.nx } σ H1 else D.nx σ H1
theorem W7{c:Expr}{body:List Stmt}{tc:TT}{tb:TS}(hp:PassesOwn (model X.prog X.w) X.A X.env X.xe)(hc:PT X c tc)(hb:PSs X body tb):PS X (.While c body [] pos) (tWhile tc tb):=by
 intro lC s σ H D I h;obtain⟨W,⟨m0,w0⟩,turn⟩:=h;refine wpAny_While (codeAny_whileLoop (fun n s'=>∃σ' H',Inv X lC σ' H' s'/\W n σ' H') ?_ m0 ⟨σ,H,I,w0⟩);rintro n s1 ⟨σ1,H1,I1,w1⟩;refine o7 hp (thn (hc lC s1 σ1 H1 _ I1 (turn n σ1 H1 w1)) fun b s2 ⟨H2,I2,q2⟩=>?_);cases b with
 |true=>
  obtain⟨N,hN,q2⟩:=q2;rw[if_pos rfl];refine o7 hp (thn (hb lC s2 σ1 H2 _ I2 q2) fun f s3 q3=>?_);cases f with
  |next=>
   obtain⟨σ3,H3,I3,n3⟩:=q3;obtain⟨m',hm,w3⟩:=hN σ3 H3 n3;exact⟨m',hm,σ3,H3,I3,w3⟩
  |cont=>
   obtain⟨σ3,H3,I3,n3⟩:=q3;obtain⟨m',hm,w3⟩:=hN σ3 H3 n3;exact⟨m',hm,σ3,H3,I3,w3⟩
  |brk=>exact q3
  |ret v=>exact q3
 |false=>
  rw[if_neg nh];exact wpAny_execs_nil ⟨σ1,H2,I2,q2⟩
end
structure It where
 go:Nat->Hp->Prop
 yld:Nat->Hp->V->Hp->Prop
 stop:Nat->Hp->Prop
def Ve(X:Cx)(lC:List (Addr×Obj))(H:Hp)(b:Addr):Prop:=
 H b=none/\b≠X.env.locals/\b∉X.fs/\(b∈X.ex\/X.s₀.heap.objs.size<=b)/\(∀x c,X.env.cells.lookup x=some c->c≠b)/\∀p∈X.pn++lC,p.1≠b
theorem Inv.fpOk{X:Cx}{lC:List (Addr×Obj)}{σ:St}{H H':Hp}{s:Shared}{b:Addr}(I:Inv X lC σ H s)(hb:s.heap.objs.size<=b)(hn:H' b=none):Ve X lC H' b:=by
 refine⟨hn,o8 (nJ I.lt hb),I.nofs hb,.inr (nQ I.sz hb),fun x c e z=>?_,fun p hp z=>?_⟩
 ·obtain⟨v,q⟩:=I.cell x c e;exact absurd (nJ q.lt (by rw[z];exact hb)) (o6 _)
 ·exact absurd (nJ (mR (I.pin p hp).1) (by rw[z];exact hb)) (o6 _)
structure Turn(P:Program)(w:World)(K:W.Frag)(tg:Expr)(J:It)(fp:List Addr)(it:Addr)(tn:Nat->Heap->Prop):Prop where
 mem:it∈fp
 obj:∀i h,tn i h->∀b∈fp,∃o,h.get? b=some o/\∀v,o.data≠.cell v
 keep:∀i h h',tn i h->(∀b∈fp,∀o,h.get? b=some o->h'.get? b=some o)->tn i h'
 item:∀(X:Cx),X.prog=P->X.w=w->X.K=K->X.calm=true->∀(i:Nat) (lC:List (Addr×Obj)) (s:Shared) (σ:St) (H:Hp) (E:Value->Shared->Prop),Inv X lC σ H s->(∀b∈fp,Ve X lC H b)->tn i s.heap->J.go i H ->
  wpAny (model P w) X.A (pyNext (.ref it)) (fun r s1=>∃u,r=some u /\
   wpAny (model P w) X.A (letOwnedTupleGo tg (.ref it) u) (fun _ s2=>∃x H',Inv X lC σ H' s2/\Z1 x u/\J.yld i H x H'/\tn (i+1) s2.heap/\∀b∈fp,H' b=none) E s1) E s
 done:∀(X:Cx),X.prog=P->X.w=w->X.K=K->X.calm=true->∀(i:Nat) (lC:List (Addr×Obj)) (s:Shared) (σ:St) (H:Hp) (E:Value->Shared->Prop),Inv X lC σ H s->(∀b∈fp,Ve X lC H b)->tn i s.heap->J.stop i H ->
  wpAny (model P w) X.A (pyNext (.ref it)) (fun r s1=>r=none/\Inv X lC σ H s1) E s
 self:∀(A:Around) (i:Nat) (s:Shared) (Q:Value->Shared->Prop) (E:Value->Shared->Prop),tn i s.heap->Q (.ref it) s->wpAny (model P w) A (pyIter (.ref it)) Q E s
abbrev TI:=St->Hp->(It->Hp->Prop)->Prop
def PIE(X:Cx)(lC:List (Addr×Obj))(σ:St)(tg:Expr)(R:It->Hp->Prop)(itv:Value)(s2:Shared):Prop:=
 ∃(it:Addr) (fp:List Addr) (tn:Nat->Heap->Prop) (J:It) (H':Hp),itv=.ref it/\Inv X lC σ H' s2/\Turn X.prog X.w X.K tg J fp it tn/\tn 0 s2.heap/\(∀b∈fp,Ve X lC H' b)/\R J H'
def PI(X:Cx)(tg iter:Expr)(wi:TI):Prop:=
 ∀(lC:List (Addr×Obj)) (s:Shared) (σ:St) (H:Hp) (R:It->Hp->Prop),Inv X lC σ H s->wi σ H R ->
  wpAny (model X.prog X.w) X.A (eval iter X.env) (fun v s1=>wpAny (model X.prog X.w) X.A (pyIter v) (PIE X lC σ tg R) X.xe s1) X.xe s
theorem go_of{M:Model}{A:Around}{E:Value->Shared->Prop}{s:Shared}{tg:Expr}{it:Addr}{u:Value}{o:Obj}{n:String}{vs:Array Value}{Q:Unit->Shared->Prop}(ho:s.heap.get? it=some o)(hc:o.cls=.type n)(hd:o.data=.fields vs)
    (hn:["enumerate", "zip", "dict_itemiterator", "dict_reverseitemiterator", "odict_iterator", "itertools.zip_longest", "itertools.pairwise"].contains n=false) (hQ:Q () s):wpAny M A (letOwnedTupleGo tg (.ref it) u) Q E s:=by
  unfold letOwnedTupleGo;cases tg<;>first
    |exact mQ hQ
    | (cases u<;>first
        |exact mQ hQ
        | (refine mL (wpAny_load ho ?_)
           rw[hc,hd]
           show wpAny M A (if(["enumerate", "zip", "dict_itemiterator", "dict_reverseitemiterator", "odict_iterator", "itertools.zip_longest", "itertools.pairwise"].contains n&&vs[0]?==some (rawInt _))=true then _ else _) Q E s
           rw[if_neg (by intro h;rw[hn,Bool.false_and] at h;cases h)];exact mQ hQ))
def Itl(K:W.Frag)(a:Addr):It:=
 ⟨fun i H=>∃xs x,SqL K H a xs/\xs[i]?=some x,fun i H x H'=>H'=H/\∀xs,SqL K H a xs->xs[i]?=some x,fun i H=>∃xs,SqL K H a xs/\xs.length<=i⟩
def Itt(K:W.Frag)(a:Addr):It:=
 ⟨fun i H=>∃xs x,SqT K H a xs/\xs[i]?=some x,fun i H x H'=>H'=H/\∀xs,SqT K H a xs->xs[i]?=some x,fun i H=>∃xs,SqT K H a xs/\xs.length<=i⟩
def Itr(lo:Int)(n:Nat):It:=⟨fun i _=>i<n,fun i H x H'=>H'=H/\x=.int (lo+i),fun i _=>n<=i⟩
theorem turn_list{P:Program}{w:World}{K:W.Frag}{tg:Expr}(a it:Addr):Turn P w K tg (Itl K a) [it] it (fun i h=>h.IsListIter it a i) where
 mem:=by simp
 obj:=fun i h st b hb=>by
  have e:b=it:=by simpa using hb
  subst e;obtain⟨o,e,c,d⟩:=st;exact⟨o,e,fun v z=>by rw[d] at z;cases z⟩
 keep:=fun i h h' st k=>st.at fun o e=>k it (by simp) o e
 item:=by
  intro X hP hw hK hc i lC s σ H E I hf st hg;subst hP hw hK;obtain⟨xs,x,hq,hx⟩:=hg;obtain⟨its,rv,p,hz⟩:=I.list hq;obtain⟨u,hu,ru⟩:=rv.get hx;obtain⟨f0,f1,f2,f3,f4,f5⟩:=hf it (by simp);refine wpAny_pyNext_list_item st p.isList (x:=u) (by simpa using hu) fun h' st' sb=>?_;have I1:Inv X lC σ H { s with heap:=h' }:=I.turned (t':=s.toks) (fun b o hb e=>(sb.2 b hb).trans e) f0 f1 f3 f4 f5;obtain⟨o,e,c,d⟩:=id st';exact⟨u,rfl,go_of (s:={ s with heap:=h' }) e c d (by decide) ⟨x,H,I1,ru,⟨rfl,fun ys hy=>by rw[I.list_inj hy hq];exact hx⟩,st',fun b hb=>(hf b hb).1⟩⟩
 done:=by
  intro X hP hw hK hc i lC s σ H E I hf st hg;subst hP hw hK;obtain⟨xs,hq,hx⟩:=hg;obtain⟨its,rv,p,hz⟩:=I.list hq;obtain⟨f0,f1,f2,f3,f4,f5⟩:=hf it (by simp);have hl:=rv.length;exact wpAny_pyNext_list_end (I.ok.hd hc) st p.isList (by simp;omega) fun h' eb=>⟨rfl,I.turned (t':=s.toks) (fun b o hb e=>eb b o hb e) f0 f1 f3 f4 f5⟩
 self:=fun _ _ _ _ _ st h=>wpAny_pyIter_listiter st h
theorem kB{P:Program}{w:World}{K:W.Frag}{tg:Expr}(a it:Addr):Turn P w K tg (Itt K a) [it] it (fun i h=>h.IsTupleIter it a i) where
 mem:=by simp
 obj:=fun i h st b hb=>by
  have e:b=it:=by simpa using hb
  subst e;obtain⟨o,e,c,d⟩:=st;exact⟨o,e,fun v z=>by rw[d] at z;cases z⟩
 keep:=fun i h h' st k=>st.at fun o e=>k it (by simp) o e
 item:=by
  intro X hP hw hK hc i lC s σ H E I hf st hg;subst hP hw hK;obtain⟨xs,x,hq,hx⟩:=hg;obtain⟨its,rv,p,hz⟩:=I.tuple hq;obtain⟨u,hu,ru⟩:=rv.get hx;obtain⟨f0,f1,f2,f3,f4,f5⟩:=hf it (by simp);refine wpAny_pyNext_tuple_item st (show s.heap.IsTuple a its.toArray from p) (x:=u) (by simpa using hu) fun h' st' sb=>?_;have I1:Inv X lC σ H { s with heap:=h' }:=I.turned (t':=s.toks) (fun b o hb e=>(sb.2 b hb).trans e) f0 f1 f3 f4 f5;obtain⟨o,e,c,d⟩:=id st';exact⟨u,rfl,go_of (s:={ s with heap:=h' }) e c d (by decide) ⟨x,H,I1,ru,⟨rfl,fun ys hy=>by rw[I.tuple_inj hy hq];exact hx⟩,st',fun b hb=>(hf b hb).1⟩⟩
 done:=by
  intro X hP hw hK hc i lC s σ H E I hf st hg;subst hP hw hK;obtain⟨xs,hq,hx⟩:=hg;obtain⟨its,rv,p,hz⟩:=I.tuple hq;obtain⟨f0,f1,f2,f3,f4,f5⟩:=hf it (by simp);have hl:=rv.length;exact wpAny_pyNext_tuple_end (I.ok.hd hc) st (show s.heap.IsTuple a its.toArray from p) (by simp;omega) fun h' eb=>⟨rfl,I.turned (t':=s.toks) (fun b o hb e=>eb b o hb e) f0 f1 f3 f4 f5⟩
 self:=fun _ _ _ _ _ st h=>wpAny_pyIter_tupleiter st h
theorem kn{P:Program}{w:World}{K:W.Frag}{tg:Expr}(it:Addr)(lo:Int)(n:Nat):Turn P w K tg (Itr lo n) [it] it (fun i h=>IsRangeIter h it (lo+(i:Nat)*1) ((n:Int)-(i:Nat)) 1) where
 mem:=by simp
 obj:=fun i h st b hb=>by
  have e:b=it:=by simpa using hb
  subst e;exact⟨_,st,fun v z=>by
   have z':Data.fields _=Data.cell v:=z;cases z'⟩
 keep:=fun i h h' st k=>k it (by simp) _ st
 item:=by
  intro X hP hw hK hc i lC s σ H E I hf st hg;subst hP hw hK;obtain⟨f0,f1,f2,f3,f4,f5⟩:=hf it (by simp);have W:=Walks.range (prog:=X.prog) (w:=X.w) (I.ok.hd hc) it lo 1 n;refine W.item i s _ _ hg st fun v h' tk hv st' kk=>?_;obtain⟨t,rfl⟩:=hv;have I1:Inv X lC σ H { s with heap:=h',toks:=tk }:=I.turned (fun b o hb e=>kk b o (by simpa using hb) e) f0 f1 f3 f4 f5;refine⟨_,rfl,go_of (s:={ s with heap:=h',toks:=tk }) (n := "range_iterator") st' rfl rfl (by decide) ⟨.int (lo+i),H,I1,⟨t,?_⟩,⟨rfl,rfl⟩,st',fun b hb=>(hf b hb).1⟩⟩;rw[Int.mul_one]
 done:=by
  intro X hP hw hK hc i lC s σ H E I hf st hg;subst hP hw hK;obtain⟨f0,f1,f2,f3,f4,f5⟩:=hf it (by simp);exact wpAny_pyNext_range_end (I.ok.hd hc) st (by have:n<=i:=hg;omega) fun h' eb=>⟨rfl,I.turned (t':=s.toks) (fun b o hb e=>eb b o hb e) f0 f1 f3 f4 f5⟩
 self:=fun _ _ _ _ _ st h=>wpAny_pyIter_rangeiter st h
section
variable{X:Cx}{tg:Expr}
inductive ItlR(K:W.Frag)(x:V)(H:Hp)(R:It->Hp->Prop):Prop
 |mk (a:Addr) (h:x=.ref a) (h2:∃xs,SqL K H a xs) (k:R (Itl K a) H):ItlR K x H R
def iList(K:W.Frag)(tl:TE):TI:=fun σ H R=>tl σ H fun x H1=>ItlR K x H1 R
def iTup(K:W.Frag)(tl:TE):TI:=fun σ H R=>tl σ H fun x H1=>∃a,x=.ref a/\(∃xs,SqT K H1 a xs)/\R (Itt K a) H1
theorem pi_list{l:Expr}{tl:TE}(hl:PE X l tl):PI X tg l (iList X.K tl):=by
 intro lC s σ H R I h;refine thn (hl lC s σ H _ I h) fun v s1 ⟨x,H1,I1,r1,q1⟩=>?_;obtain⟨a,e,⟨xs,hq⟩,q⟩:=q1;subst e;cases r1;obtain⟨its,rv,p,hz⟩:=I1.list hq;refine pE p.isList ?_;refine⟨s1.heap.objs.size,[s1.heap.objs.size],_,_,H1,rfl,I1.kept (t':=s1.toks) fun b o e=>m4 _ e,turn_list a _,⟨_,nI _ rfl,rfl,rfl⟩,fun b hb=>?_,q⟩;have e:b=s1.heap.objs.size:=by simpa using hb
 subst e;exact I1.fpOk (mP _) (I1.hok.fresh (mP _))
theorem pi_tup{l:Expr}{tl:TE}(hl:PE X l tl):PI X tg l (iTup X.K tl):=by
 intro lC s σ H R I h;refine thn (hl lC s σ H _ I h) fun v s1 ⟨x,H1,I1,r1,q1⟩=>?_;obtain⟨a,e,⟨xs,hq⟩,q⟩:=q1;subst e;cases r1;obtain⟨its,rv,p,hz⟩:=I1.tuple hq;refine wpAny_pyIter_tuple (show s1.heap.IsTuple a its.toArray from p) ?_;refine⟨s1.heap.objs.size,[s1.heap.objs.size],_,_,H1,rfl,I1.kept (t':=s1.toks) fun b o e=>m4 _ e,kB a _,⟨_,nI _ rfl,rfl,rfl⟩,fun b hb=>?_,q⟩;have e:b=s1.heap.objs.size:=by simpa using hb
 subst e;exact I1.fpOk (mP _) (I1.hok.fresh (mP _))
theorem range_it{lC:List (Addr×Obj)}{σ:St}{H:Hp}{s:Shared}{R:It->Hp->Prop}{E:Value->Shared->Prop}{lo hi:Int}{t u v:Tok}{tk:Nat}(I:Inv X lC σ H s)(h1:-(2 ^ 62)<=lo)(h2:lo<2 ^ 62)(h3:-(2 ^ 62)<=hi)(h4:hi<2 ^ 62)
  (q:R (Itr lo (hi-lo).toNat) H):wpAny (model X.prog X.w) X.A (pyIter (.ref s.heap.objs.size)) (PIE X lC σ tg R) E { s with heap:=s.heap.push { cls:=.type "range",data:=.fields #[.int lo t,.int hi u,.int 1 v] },toks:=tk }:=by
 refine wpAny_pyIter_range (IsRange.new ..) (small_one h1 h2 h3 h4) ?_;have I1:Inv X lC σ H { s with heap:=s.heap.push { cls:=.type "range",data:=.fields #[.int lo t,.int hi u,.int 1 v] },toks:=tk }:=I.kept fun b o e=>m4 _ e;refine⟨(s.heap.push { cls:=.type "range",data:=.fields #[.int lo t,.int hi u,.int 1 v] }).objs.size,[(s.heap.push { cls:=.type "range",data:=.fields #[.int lo t,.int hi u,.int 1 v] }).objs.size],_,_,H,rfl,
  I1.kept (t':=tk) fun b o e=>m4 _ e,kn _ lo (hi-lo).toNat,?_,fun b hb=>?_,q⟩
 ·have e1:lo+((0:Nat):Int)*1=lo:=by simp
  have e2:(((hi-lo).toNat:Nat):Int)-((0:Nat):Int)=Builtin.Range.rangeSize lo hi 1:=by rw[rangeSize_one];split<;>omega
  show IsRangeIter _ _ (lo+((0:Nat):Int)*1) ((((hi-lo).toNat:Nat):Int)-((0:Nat):Int)) 1
  rw[e1,e2];exact nI _ rfl
 ·have e:b=(s.heap.push { cls:=.type "range",data:=.fields #[.int lo t,.int hi u,.int 1 v] }).objs.size:=by simpa using hb
  subst e;exact I1.fpOk (mP _) (I1.hok.fresh (mP _))
def iRng1(ta:TA):TI:=fun σ H R=>ta σ H fun vs H1=>∃j:Int,vs=[.int j]/\-(2 ^ 62)<=j/\j<2 ^ 62/\R (Itr 0 j.toNat) H1
theorem ZM{a:Expr}{ta:TA}{p pos:Pos}(hg:Gl X "range")(hm:X.mg "range" = none)(ha:PA X [a] ta)(hs:starEach [a] X.env=[(false,eval a X.env)]:=by rfl):PI X tg (.Call (.Name "range" p) [a] [] pos) (iRng1 ta):=by
 intro lC s σ H R I h;refine Call_ (yf I hg hm boot_range (rE (thn (ha pos lC s σ H _ I h) fun us s1 ⟨vs,H1,I1,r1,q1⟩=>?_) hs rfl));obtain⟨j,e,q1,q2,q⟩:=q1;subst e;cases r1 with
 |cons r rr=>
  cases rr;obtain⟨t,rfl⟩:=r;exact call_range_1 (range_it I1 (by omega) (by omega) q1 q2 (by simpa using q))
def tFor(wi:TI)(g:TG)(tb:TS):TS:=fun D σ H=>wi σ H fun J H1=>∃W:Nat->Nat->St->Hp->Prop,(∃m,W 0 m σ H1)/\∀i m σ H,W i m σ H ->
 (J.stop i H/\D.nx σ H)\/(J.go i H/\∃N:St->Hp->Prop,(∀σ' H',N σ' H'->∃m',m'<m/\W (i+1) m' σ' H')/\∀x H',J.yld i H x H'->g x σ H' fun σ2 H2=>tb { D with nx:=N,ct:=N,bk:=D.nx } σ2 H2)
def UQ(fp:List Addr)(h:Heap):List (Addr×Obj):=fp.filterMap fun b=>(h.get? b).map fun o=>(b,o)
theorem Wy{fp:List Addr}{h:Heap}{b:Addr}{o:Obj}(hb:b∈fp)(e:h.get? b=some o):(b,o)∈UQ fp h:=List.mem_filterMap.mpr ⟨b,hb,by rw[e];rfl⟩
theorem of_pinsAt{fp:List Addr}{h:Heap}{p:Addr×Obj}(hp:p∈UQ fp h):p.1∈fp/\h.get? p.1=some p.2:=by
 obtain⟨b,hb,e⟩:=List.mem_filterMap.mp hp;cases q:h.get? b with
 |none=>rw[q] at e;cases e
 |some o=>
  rw[q] at e;have e':(b,o)=p:=nv e;subst e';exact⟨hb,q⟩
theorem Inv.pinned{lC:List (Addr×Obj)}{σ:St}{H:Hp}{s:Shared}{fp:List Addr}(I:Inv X lC σ H s)(hf:∀b∈fp,Ve X lC H b)(ho:∀b∈fp,∃o,s.heap.get? b=some o/\∀v,o.data≠.cell v):Inv X (lC++UQ fp s.heap) σ H s:=
 I.pins_of fun p hp=>(nE.mp hp).elim (fun z=>I.pin p (nU _ z)) fun z=>by
  obtain⟨hb,e⟩:=of_pinsAt z;obtain⟨f0,f1,f2,_⟩:=hf p.1 hb;obtain⟨o,e',d⟩:=ho p.1 hb;rw[e] at e';cases e';exact⟨e,f0,f1,f2,d⟩
theorem Inv.unpinned{lC pl:List (Addr×Obj)}{σ:St}{H:Hp}{s:Shared}(I:Inv X (lC++pl) σ H s):Inv X lC σ H s:=I.pins_of fun p hp=>I.pin p (nU _ (oB _ hp))
theorem Xo{iter:Expr}{body:List Stmt}{wi:TI}{g:TG}{tb:TS}{pos:Pos}(hp:PassesOwn (model X.prog X.w) X.A X.env X.xe)(hc:X.calm=true)(hi:PI X tg iter wi)(hg:PG X tg g)(hb:PSs X body tb)
  (hs:∀x,foldedSetIterable iter X.env x=pure x:=by intro _;rfl):PS X (.For tg iter body [] pos) (tFor wi g tb):=by
 intro lC s σ H D I h;refine wpAny_For (thn (hi lC s σ H _ I h) fun v s1 h1=>thn h1 fun itv s2 h2=>?_) hs;obtain⟨it,fp,tn,J,H2,e,I2,T,st2,f2,W,⟨m0,w0⟩,turn⟩:=h2;subst e;have stat:∀{H':Hp},(∀b∈fp,H' b=none)->∀b∈fp,Ve X lC H' b:=fun hn b hb=>⟨hn b hb,(f2 b hb).2⟩;refine codeAny_forLoop_any (fun n s'=>∃i σ' H',Inv X lC σ' H' s'/\tn i s'.heap/\(∀b∈fp,H' b=none)/\W i n σ' H') ?_ m0 ⟨0,σ,H2,I2,st2,fun b hb=>(f2 b hb).1,w0⟩;rintro n s3 ⟨i,σ3,H3,I3,st3,fr3,w3⟩;rcases turn i n σ3 H3 w3 with⟨stop,qn⟩|⟨go,N,hN,step⟩
 ·refine o7 hp (thn (T.done X rfl rfl rfl hc i lC s3 σ3 H3 X.xe I3 (stat fr3) st3 stop) fun r s4 ⟨hr,I4⟩=>?_);subst hr;exact wpAny_execs_nil ⟨σ3,H3,I4,qn⟩
 ·refine o7 hp (thn (T.item X rfl rfl rfl hc i lC s3 σ3 H3 X.xe I3 (stat fr3) st3 go) fun r s4 ⟨u,hr,h4⟩=>?_);subst hr;refine o7 hp (thn h4 fun _ s5 ⟨x,H5,I5,r5,y5,st5,fr5⟩=>?_);have I5':=I5.pinned (stat fr5) (T.obj _ _ st5);refine o7 hp (thn (hg _ s5 σ3 H5 x u _ I5' r5 (step x H5 y5)) fun _ s6 ⟨σ6,H6,I6,q6⟩=>?_);refine o7 hp (thn (hb _ s6 σ6 H6 _ I6 q6) fun f s7 q7=>?_);have again:∀{σ7:St}{H7:Hp},Inv X (lC++UQ fp s5.heap) σ7 H7 s7->N σ7 H7->∃m,m<n/\∃i σ' H',Inv X lC σ' H' s7/\tn i s7.heap/\(∀b∈fp,H' b=none)/\W i m σ' H':=fun {σ7 H7} I7 n7=>by
   obtain⟨m',hm,w7⟩:=hN σ7 H7 n7;refine⟨m',hm,i+1,σ7,H7,I7.unpinned,T.keep _ _ _ st5 fun b hb o e=>(I7.pin (b,o) (nU _ (nU _ (Wy hb e)))).1,fun b hb=>?_,w7⟩;obtain⟨o,e,d⟩:=T.obj _ _ st5 b hb;exact(I7.pin (b,o) (nU _ (nU _ (Wy hb e)))).2.1
  cases f with
  |next=>obtain⟨σ7,H7,I7,n7⟩:=q7;exact again I7 n7
  |cont=>obtain⟨σ7,H7,I7,n7⟩:=q7;exact again I7 n7
  |brk=>obtain⟨σ7,H7,I7,q7⟩:=q7;exact⟨σ7,H7,I7.unpinned,q7⟩
  |ret v=>obtain⟨x7,σ7,H7,I7,r7,q7⟩:=q7;exact⟨x7,σ7,H7,I7.unpinned,r7,q7⟩
end
theorem XX{K:W.Frag}{a:Addr}{xs:List V}{g:TG}{tb:TS}{D:Ends}{σ:St}{H:Hp}(Pv:Nat->St->Hp->Prop)(h0:Pv 0 σ H)(hl:∀i σ H,i<=xs.length->Pv i σ H->SqL K H a xs)
  (hs:∀i x σ H,xs[i]?=some x->Pv i σ H->g x σ H fun σ2 H2=>tb { D with nx:=Pv (i+1),ct:=Pv (i+1),bk:=D.nx } σ2 H2) (hd:∀σ H,Pv xs.length σ H->D.nx σ H) :
  ∃W:Nat->Nat->St->Hp->Prop,(∃m,W 0 m σ H)/\∀i m σ H,W i m σ H ->
   ((Itl K a).stop i H/\D.nx σ H)\/((Itl K a).go i H/\∃N:St->Hp->Prop,(∀σ' H',N σ' H'->∃m',m'<m/\W (i+1) m' σ' H')/\∀x H',(Itl K a).yld i H x H'->g x σ H' fun σ2 H2=>tb { D with nx:=N,ct:=N,bk:=D.nx } σ2 H2):=by
 refine⟨fun i m σ H=>m=xs.length-i/\i<=xs.length/\Pv i σ H,⟨xs.length,by simp,og _,h0⟩,?_⟩;rintro i m σ H ⟨rfl,hi,p⟩;have q:=hl i σ H hi p
 by_cases hlt:i<xs.length
 ·refine .inr ⟨⟨xs,xs[i],q,by simp[hlt]⟩,Pv (i+1),fun σ' H' p'=>⟨xs.length-(i+1),by omega,rfl,hlt,p'⟩,fun x H' y=>?_⟩;obtain⟨e,y⟩:=y;subst e;exact hs i x σ _ (y xs q) p
 ·have e:i=xs.length:=by omega
  subst e;exact .inl ⟨⟨xs,q,mP _⟩,hd σ H p⟩
abbrev R2:=V->V->Hp->VK->Prop
def OpR(X:Cx)(f:Value->Value->Sem Value)(r:R2):Prop:=
 ∀(lC:List (Addr×Obj)) (s:Shared) (σ:St) (H:Hp) (x y:V) (v u:Value) (Q:VK),Inv X lC σ H s->Z1 x v->Z1 y u->r x y H Q ->
  wpAny (model X.prog X.w) X.A (f v u) (EP X lC σ Q) X.xe s
def UnR(X:Cx)(f:Value->Sem Value)(r:V->Hp->VK->Prop):Prop:=
 ∀(lC:List (Addr×Obj)) (s:Shared) (σ:St) (H:Hp) (x:V) (v:Value) (Q:VK),Inv X lC σ H s->Z1 x v->r x H Q ->
  wpAny (model X.prog X.w) X.A (f v) (EP X lC σ Q) X.xe s
def YB(X:Cx)(f:Value)(r:List V->Hp->VK->Prop):Prop:=
 ∀(lC:List (Addr×Obj)) (s:Shared) (σ:St) (H:Hp) (xs:List V) (us:List Value) (Q:VK),Inv X lC σ H s->ZP xs us->r xs H Q ->
  wpAny (model X.prog X.w) X.A (call f us) (EP X lC σ Q) X.xe s
def TruR(X:Cx)(r:V->Hp->(Bool->Hp->Prop)->Prop):Prop:=
 ∀(lC:List (Addr×Obj)) (s:Shared) (σ:St) (H:Hp) (x:V) (v:Value) (Q:Bool->Hp->Prop),Inv X lC σ H s->Z1 x v->r x H Q ->
  wpAny (model X.prog X.w) X.A (truthy v) (TP X lC σ Q) X.xe s
def tOp(r:R2)(ta tb:TE):TE:=fun σ H Q=>ta σ H fun x H1=>tb σ H1 fun y H2=>r x y H2 Q
def tUn(r:V->Hp->VK->Prop)(ta:TE):TE:=fun σ H Q=>ta σ H fun x H1=>r x H1 Q
inductive rI_R(C:Int->Int->Prop)(g:Int->Int->V)(x:V)(y:V)(H:Hp)(Q:VK):Prop
 |mk (i:_) (j:_) (h0:x=.int i) (h1:y=.int j) (h2:C i j) (h3:Q (g i j) H):rI_R C g x y H Q
def rI(C:Int->Int->Prop)(g:Int->Int->V):R2:=fun x y H Q=>rI_R C g x y H Q
inductive rI0_R(g:Int->Int->V)(x:V)(y:V)(H:Hp)(Q:VK):Prop
 |mk (i:_) (j:_) (h0:x=.int i) (h1:y=.int j) (h2:Q (g i j) H):rI0_R g x y H Q
def rI0(g:Int->Int->V):R2:=fun x y H Q=>rI0_R g x y H Q
inductive rU_R(g:Int->V)(x:V)(H:Hp)(Q:VK):Prop
 |mk (i:_) (h0:x=.int i) (h1:Q (g i) H):rU_R g x H Q
def rU(g:Int->V):V->Hp->VK->Prop:=fun x H Q=>rU_R g x H Q
section
variable{X:Cx}{a b c:Expr}{ta tb tc:TE}{pos:Pos}
theorem binT(ha:PE X a ta)(hb:PE X b tb){lC:List (Addr×Obj)}{s:Shared}{σ:St}{H:Hp}{R:V->V->Hp->Prop}(I:Inv X lC σ H s)
  (h:ta σ H fun x H1=>tb σ H1 fun y H2=>R x y H2) {Q:Value->Shared->Prop}{f:Value->Value->Sem Value}
  (hf:∀v u s2 x y H2,Inv X lC σ H2 s2->Z1 x v->Z1 y u->R x y H2->wpAny (model X.prog X.w) X.A (f v u) Q X.xe s2) :
  wpAny (model X.prog X.w) X.A (eval a X.env) (fun v s₁=>wpAny (model X.prog X.w) X.A (eval b X.env) (fun u s₂=>wpAny (model X.prog X.w) X.A (f v u) Q X.xe s₂) X.xe s₁) X.xe s:=by
 refine thn (ha lC s σ H _ I h) fun v s1 ⟨x,H1,I1,r1,q1⟩=>?_;refine thn (hb lC s1 σ H1 _ I1 q1) fun u s2 ⟨y,H2,I2,r2,q2⟩=>?_;exact hf v u s2 x y H2 I2 r1 r2 q2
theorem Zz{op:Operator}{r:R2}(ho:OpR X (binaryOp op) r)(ha:PE X a ta)(hb:PE X b tb):PE X (.BinOp a op b pos) (tOp r ta tb):=by
 intro lC s σ H Q I h;exact wpAny_BinOp (binT ha hb I h fun v u s2 x y H2 I2 rx ry q=>ho lC s2 σ H2 x y v u Q I2 rx ry q)
theorem VU{op:UnaryOp}{r:V->Hp->VK->Prop}(ho:UnR X (unaryOp op) r)(ha:PE X a ta):PE X (.UnaryOp op a pos) (tUn r ta):=by
 intro lC s σ H Q I h;exact UnaryOp_ (thn (ha lC s σ H _ I h) fun v s1 ⟨x,H1,I1,r1,q1⟩=>ho lC s1 σ H1 x v Q I1 r1 q1)
theorem opI{f:Value->Value->Sem Value}{C:Int->Int->Prop}{g:Int->Int->Int}
  (rule:∀(i j:Int) (t u:Tok) (s:Shared) (Q:Value->Shared->Prop) (E:Value->Shared->Prop),C i j->Q (.int (g i j) s.toks) { s with toks:=s.toks+1 }->wpAny (model X.prog X.w) X.A (f (.int i t) (.int j u)) Q E s) :
  OpR X f (rI C fun i j=>.int (g i j)):=by
 intro lC s σ H x y v u Q I rx ry h;obtain⟨i,j,rfl,rfl,hc,q⟩:=h;obtain⟨t,rfl⟩:=rx;obtain⟨t',rfl⟩:=ry;exact rule i j t t' s _ _ hc ⟨.int (g i j),H,I.tok _,⟨_,rfl⟩,q⟩
theorem opI0{f:Value->Value->Sem Value}{g:Int->Int->Int}
  (rule:∀(i j:Int) (t u:Tok) (s:Shared) (Q:Value->Shared->Prop) (E:Value->Shared->Prop),Q (.int (g i j) s.toks) { s with toks:=s.toks+1 }->wpAny (model X.prog X.w) X.A (f (.int i t) (.int j u)) Q E s) :
  OpR X f (rI0 fun i j=>.int (g i j)):=by
 intro lC s σ H x y v u Q I rx ry h;obtain⟨i,j,rfl,rfl,q⟩:=h;obtain⟨t,rfl⟩:=rx;obtain⟨t',rfl⟩:=ry;exact rule i j t t' s _ _ ⟨.int (g i j),H,I.tok _,⟨_,rfl⟩,q⟩
theorem opB0{f:Value->Value->Sem Value}{g:Int->Int->Bool}
  (rule:∀(i j:Int) (t u:Tok) (s:Shared) (Q:Value->Shared->Prop) (E:Value->Shared->Prop),Q (.bool (g i j)) s->wpAny (model X.prog X.w) X.A (f (.int i t) (.int j u)) Q E s) :
  OpR X f (rI0 fun i j=>.bl (g i j)):=by
 intro lC s σ H x y v u Q I rx ry h;obtain⟨i,j,rfl,rfl,q⟩:=h;obtain⟨t,rfl⟩:=rx;obtain⟨t',rfl⟩:=ry;exact rule i j t t' s _ _ ⟨.bl (g i j),H,I,rfl,q⟩
def CDiv(i j:Int):Prop:=0<j/\j<1073741824
def CPow(i j:Int):Prop:=0<=j/\j<=1000000/\i.natAbs<2 ^ 64
def CMul(i j:Int):Prop:=(-(2 ^ 64)<i/\i<2 ^ 64)\/(-(2 ^ 64)<j/\j<2 ^ 64)
theorem CMul.ok{i j:Int}(h:CMul i j):IntMulOk i j:=by
 rcases h with⟨h1,h2⟩|⟨h1,h2⟩
 ·exact .of_left (intBits_le_64 h1 h2)
 ·exact .of_right (intBits_le_64 h1 h2)
theorem Ja(k:Nat):(0:Int)<=2 ^ k:=by
 rw[two_pow_cast];exact Int.natCast_nonneg _
theorem X8:OpR X (binaryOp .Add) (rI0 fun i j=>.int (i+j)):=opI0 fun _ _ _ _ _ _ _ q=>add_int q
theorem W9:OpR X (binaryOp .Sub) (rI0 fun i j=>.int (i-j)):=opI0 fun _ _ _ _ _ _ _ q=>sub_int q
theorem op_mul:OpR X (binaryOp .Mult) (rI CMul fun i j=>.int (i*j)):=opI fun _ _ _ _ _ _ _ hc q=>mul_int q hc.ok
theorem Vd:OpR X (binaryOp .FloorDiv) (rI CDiv fun i j=>.int (i/j)):=opI fun i j _ _ _ _ _ hc q=>by
 have h1:(0:Int)<j:=hc.1;have h2:j<1073741824:=hc.2;exact floordiv_int (by omega) (by rw[Int.fdiv_eq_ediv_of_nonneg i (by omega)];exact q) (.inl (PyProof.noPylong_small (by omega)))
theorem Y2:OpR X (binaryOp .Mod) (rI (fun _ j=>0<j) fun i j=>.int (i%j)):=opI fun i j _ _ _ _ _ hc q=>by
 have h1:(0:Int)<j:=hc;exact mod_int' (by omega) (by rw[Int.fmod_eq_emod_of_nonneg i (by omega)];exact q)
theorem yv:OpR X (binaryOp .Pow) (rI CPow fun i j=>.int (i ^ j.toNat)):=opI fun _ _ _ _ _ _ _ hc q=>pow_int_small hc.1 hc.2.1 hc.2.2 q
theorem op_shl:OpR X (binaryOp .LShift) (rI CPow fun i j=>.int (i*2 ^ j.toNat)):=opI fun _ _ _ _ _ _ _ hc q=>lshift_int_small hc.1 hc.2.1 hc.2.2 q
theorem op_shr:OpR X (binaryOp .RShift) (rI (fun _ j=>0<=j) fun i j=>.int (i/2 ^ j.toNat)):=opI fun i j _ _ _ _ _ hc q=>
 rshift_int hc (by rw[Int.fdiv_eq_ediv_of_nonneg i (Ja _)];exact q)
theorem Wt:OpR X (binaryOp .BitAnd) (rI0 fun i j=>.int (Builtin.bitAnd i j)):=opI0 fun _ _ _ _ _ _ _ q=>and_int q
theorem op_or:OpR X (binaryOp .BitOr) (rI0 fun i j=>.int (Builtin.bitOr i j)):=opI0 fun _ _ _ _ _ _ _ q=>or_int q
theorem UO:OpR X (binaryOp .BitXor) (rI0 fun i j=>.int (Builtin.bitXor i j)):=opI0 fun _ _ _ _ _ _ _ q=>xor_int q
theorem unI{f:Value->Sem Value}{g:Int->Int}
  (rule:∀(i:Int) (t:Tok) (s:Shared) (Q:Value->Shared->Prop) (E:Value->Shared->Prop),Q (.int (g i) s.toks) { s with toks:=s.toks+1 }->wpAny (model X.prog X.w) X.A (f (.int i t)) Q E s) :
  UnR X f (rU fun i=>.int (g i)):=by
 intro lC s σ H x v Q I rx h;obtain⟨i,rfl,q⟩:=h;obtain⟨t,rfl⟩:=rx;exact rule i t s _ _ ⟨.int (g i),H,I.tok _,⟨_,rfl⟩,q⟩
theorem Ud:UnR X (unaryOp .USub) (rU fun i=>.int (-i)):=unI fun _ _ _ _ _ q=>neg_int q
theorem un_inv:UnR X (unaryOp .Invert) (rU fun i=>.int (Builtin.bitNot i)):=unI fun _ _ _ _ _ q=>invert_int q
end
def scal:V->V->Bool
 |.non,.non=>true|.non,.int _=>true|.int _,.non=>true|.non,.bl _=>true|.bl _,.non=>true|.non,.str _=>true|.str _,.non=>true
 |.int _,.int _=>true|.bl _,.bl _=>true|.str _,.str _=>true|.byt _,.byt _=>true
 |.int _,.str _=>true|.str _,.int _=>true|.bl _,.str _=>true|.str _,.bl _=>true
 |_,_=>false
inductive rEq_R(x y:V)(H:Hp)(Q:VK):Prop
 |mk (h:scal x y=true) (k:Q (.bl (decide (x=y))) H):rEq_R x y H Q
inductive rNe_R(x y:V)(H:Hp)(Q:VK):Prop
 |mk (h:scal x y=true) (k:Q (.bl (!decide (x=y))) H):rNe_R x y H Q
def rEq:R2:=fun x y H Q=>rEq_R x y H Q
def rNe:R2:=fun x y H Q=>rNe_R x y H Q
theorem dec_int{i j:Int}:decide (V.int i=V.int j)=(i==j):=by
 rw[n6];simp
theorem dec_bl{i j:Bool}:decide (V.bl i=V.bl j)=(i==j):=by
 rw[n6];simp
theorem dec_str{i j:Str}:decide (V.str i=V.str j)=(i==j):=by
 rw[n6];simp
theorem dec_byt{i j:Array UInt8}:decide (V.byt i=V.byt j)=(i.toList==j.toList):=by
 rw[n6];cases i;cases j;simp
section
variable{X:Cx}{a b c:Expr}{ta tb tc:TE}{pos:Pos}
theorem Yb{lC:List (Addr×Obj)}{σ:St}{H:Hp}{s:Shared}{Q:VK}{k k':Bool}(I:Inv X lC σ H s)(q:Q (.bl k) H)(e:k=k'):EP X lC σ Q (.bool k') s:=by
 subst e;exact⟨.bl k,H,I,rfl,q⟩
theorem ZU:OpR X (compareOp .Eq) rEq:=by
 intro lC s σ H x y v u Q I rx ry h;obtain⟨hs,q⟩:=h;cases x with
 |non=>
  cases rx;cases y with
  |non=>cases ry;exact PySem.EqNone.eq_none_none (Yb I q (by simp))
  |bl j=>cases ry;exact PySem.EqNone.eq_none_bool (Yb I q (by simp))
  |int j=>obtain⟨t',rfl⟩:=ry;exact PySem.EqNone.eq_none_int (Yb I q (by simp))
  |str j=>obtain⟨t',rfl⟩:=ry;exact PySem.EqNone.eq_none_str (Yb I q (by simp))
  |_=>exact absurd (show false=true from hs) nh
 |bl i=>
  cases rx;cases y with
  |non=>cases ry;exact PySem.EqNone.eq_bool_none (Yb I q (by simp))
  |bl j=>cases ry;exact eq_bool (Yb I q dec_bl)
  |str j=>obtain⟨t',rfl⟩:=ry;exact PySem.EqMixed.eq_bool_str (Yb I q (by simp))
  |_=>exact absurd (show false=true from hs) nh
 |int i=>
  obtain⟨t,rfl⟩:=rx;cases y with
  |non=>cases ry;exact PySem.EqNone.eq_int_none (Yb I q (by simp))
  |int j=>obtain⟨t',rfl⟩:=ry;exact eq_int (Yb I q dec_int)
  |str j=>obtain⟨t',rfl⟩:=ry;exact PySem.EqMixed.eq_int_str (Yb I q (by simp))
  |_=>exact absurd (show false=true from hs) nh
 |str i=>
  obtain⟨t,rfl⟩:=rx;cases y with
  |non=>cases ry;exact PySem.EqNone.eq_str_none (Yb I q (by simp))
  |bl j=>cases ry;exact PySem.EqMixed.eq_str_bool (Yb I q (by simp))
  |int j=>obtain⟨t',rfl⟩:=ry;exact PySem.EqMixed.eq_str_int (Yb I q (by simp))
  |str j=>obtain⟨t',rfl⟩:=ry;exact eq_str (Yb I q dec_str)
  |_=>exact absurd (show false=true from hs) nh
 |byt i=>
  obtain⟨t,rfl⟩:=rx;cases y with
  |byt j=>obtain⟨t',rfl⟩:=ry;exact W.eq_bytes (Yb I q dec_byt)
  |_=>exact absurd (show false=true from hs) nh
 |_=>cases y<;>exact absurd (show false=true from hs) nh
theorem op_ne:OpR X (compareOp .NotEq) rNe:=by
 intro lC s σ H x y v u Q I rx ry h;obtain⟨hs,q⟩:=h;cases x with
 |non=>
  cases rx;cases y with
  |non=>cases ry;exact PySem.EqNone.ne_none_none (Yb I q (by simp))
  |bl j=>cases ry;exact PySem.EqNone.ne_none_bool (Yb I q (by simp))
  |int j=>obtain⟨t',rfl⟩:=ry;exact PySem.EqNone.ne_none_int (Yb I q (by simp))
  |str j=>obtain⟨t',rfl⟩:=ry;exact PySem.EqNone.ne_none_str (Yb I q (by simp))
  |_=>exact absurd (show false=true from hs) nh
 |bl i=>
  cases rx;cases y with
  |non=>cases ry;exact PySem.EqNone.ne_bool_none (Yb I q (by simp))
  |bl j=>cases ry;exact ne_bool (Yb I q (ni not dec_bl))
  |str j=>obtain⟨t',rfl⟩:=ry;exact PySem.EqMixed.ne_bool_str (Yb I q (by simp))
  |_=>exact absurd (show false=true from hs) nh
 |int i=>
  obtain⟨t,rfl⟩:=rx;cases y with
  |non=>cases ry;exact PySem.EqNone.ne_int_none (Yb I q (by simp))
  |int j=>obtain⟨t',rfl⟩:=ry;exact ne_int (Yb I q (ni not dec_int))
  |str j=>obtain⟨t',rfl⟩:=ry;exact PySem.EqMixed.ne_int_str (Yb I q (by simp))
  |_=>exact absurd (show false=true from hs) nh
 |str i=>
  obtain⟨t,rfl⟩:=rx;cases y with
  |non=>cases ry;exact PySem.EqNone.ne_str_none (Yb I q (by simp))
  |bl j=>cases ry;exact PySem.EqMixed.ne_str_bool (Yb I q (by simp))
  |int j=>obtain⟨t',rfl⟩:=ry;exact PySem.EqMixed.ne_str_int (Yb I q (by simp))
  |str j=>obtain⟨t',rfl⟩:=ry;exact ne_str (Yb I q (ni not dec_str))
  |_=>exact absurd (show false=true from hs) nh
 |byt i=>
  obtain⟨t,rfl⟩:=rx;cases y with
  |byt j=>obtain⟨t',rfl⟩:=ry;exact W.ne_bytes (Yb I q (ni not dec_byt))
  |_=>exact absurd (show false=true from hs) nh
 |_=>cases y<;>exact absurd (show false=true from hs) nh
theorem op_lt:OpR X (compareOp .Lt) (rI0 fun i j=>.bl (decide (i<j))):=opB0 fun _ _ _ _ _ _ _ q=>lt_int q
theorem zn:OpR X (compareOp .LtE) (rI0 fun i j=>.bl (decide (i<=j))):=opB0 fun _ _ _ _ _ _ _ q=>le_int q
theorem op_gt:OpR X (compareOp .Gt) (rI0 fun i j=>.bl (decide (j<i))):=opB0 fun _ _ _ _ _ _ _ q=>gt_int q
theorem op_in_str:OpR X (compareOp .In) (fun x y H Q=>∃i j,x=.str i/\y=.str j/\Q (.bl (!(Builtin.Str.occurrences j i 0 j.length 1).isEmpty)) H):=by
 intro lC s σ H x y v u Q I rx ry h;obtain⟨i,j,rfl,rfl,q⟩:=h;obtain⟨t,rfl⟩:=rx;obtain⟨t',rfl⟩:=ry;exact in_str (Yb I q rfl)
theorem op_isN:OpR X (compareOp .Is) (fun x y H Q=>y=.non/\Q (.bl (decide (x=.non))) H):=by
 intro lC s σ H x y v u Q I rx ry h;obtain⟨rfl,q⟩:=h;cases ry;refine is_none_gen (Yb I q ?_);cases x<;>first
  | (cases rx;rfl)
  | (obtain⟨t,rfl⟩:=rx;rfl)
theorem Zw(b:Expr){op:CmpOp}(h:op≠.In:=by decide)(h2:op≠.NotIn:=by decide):behindInMarks op b=false:=by
 have e1:(op==CmpOp.In)=false:=by cases op<;>first|rfl|exact absurd rfl h
 have e2:(op==CmpOp.NotIn)=false:=by cases op<;>first|rfl|exact absurd rfl h2
 cases b<;>simp[behindInMarks,e1,e2]
theorem YQ{op:CmpOp}{r:R2}(ho:OpR X (compareOp op) r)(ha:PE X a ta)(hb:PE X b tb)(hm:behindInMarks op b=false):PE X (.Compare a [op] [b] pos) (tOp r ta tb):=by
 intro lC s σ H Q I h;exact wpAny_Compare1 (binT ha hb I h fun v u s2 x y H2 I2 rx ry q=>ho lC s2 σ H2 x y v u Q I2 rx ry q) hm
def tTest(t:TE):TT:=fun σ H Q=>t σ H fun x H'=>BoolR x H' Q
theorem Zp{op:CmpOp}{r:R2}(ho:OpR X (compareOp op) r)(ha:PE X a ta)(hb:PE X b tb)(hm:behindInMarks op b=false):PT X (.Compare a [op] [b] pos) (tTest (tOp r ta tb)):=by
 intro lC s σ H Q I h;refine wpAny_isTrue_Compare1 (thn (ha lC s σ H _ I h) fun v s1 ⟨x,H1,I1,r1,q1⟩=>thn (hb lC s1 σ H1 _ I1 q1) fun u s2 ⟨y,H2,I2,r2,q2⟩=>
  thn (ho lC s2 σ H2 x y v u _ I2 r1 r2 q2) fun c s3 ⟨z,H3,I3,r3,k,e,q3⟩=>?_) hm
 subst e;cases r3;exact ow ⟨H3,I3,q3⟩
def tChain(r r':R2)(ta tb tc:TE):TE:=fun σ H Q=>ta σ H fun x H1=>tb σ H1 fun y H2=>r x y H2 fun z H3=>∃k,z=.bl k /\
 (if k=true then tc σ H3 fun w' H4=>r' y w' H4 Q else Q (.bl false) H3)
theorem jw{op op':CmpOp}{r r':R2}(ho:OpR X (compareOp op) r)(ho':OpR X (compareOp op') r')(ha:PE X a ta)(hb:PE X b tb)(hc:PE X c tc)
  (hm:lastMarks [op,op'] [b,c]=false:=by with_unfolding_all rfl):PE X (.Compare a [op,op'] [b,c] pos) (tChain r r' ta tb tc):=by
 intro lC s σ H Q I h;refine Compare_chain (thn (ha lC s σ H _ I h) fun v s1 ⟨x,H1,I1,r1,q1⟩=>chain_link (thn (hb lC s1 σ H1 _ I1 q1) fun u s2 ⟨y,H2,I2,r2,q2⟩=>
  thn (ho lC s2 σ H2 x y v u _ I2 r1 r2 q2) fun d s3 ⟨z,H3,I3,r3,k,e,q3⟩=>?_)) hm
 subst e;cases r3;refine ow ?_;cases k with
 |false=>exact ite_ff ⟨.bl false,H3,I3,rfl,q3⟩
 |true=>exact ite_tt (chain_last (thn (hc lC s3 σ H3 _ I3 q3) fun w' s4 ⟨z',H4,I4,r4,q4⟩=>ho' lC s4 σ H4 y z' u w' Q I4 r2 r4 q4))
theorem jy{op op':CmpOp}{r r':R2}(ho:OpR X (compareOp op) r)(ho':OpR X (compareOp op') r')(ha:PE X a ta)(hb:PE X b tb)(hc:PE X c tc)
  (hm:lastMarks [op,op'] [b,c]=false:=by with_unfolding_all rfl):PT X (.Compare a [op,op'] [b,c] pos) (tTest (tChain r r' ta tb tc)):=by
 intro lC s σ H Q I h;refine isTrue_chain (thn (ha lC s σ H _ I h) fun v s1 ⟨x,H1,I1,r1,q1⟩=>test_link (thn (hb lC s1 σ H1 _ I1 q1) fun u s2 ⟨y,H2,I2,r2,q2⟩=>
  thn (ho lC s2 σ H2 x y v u _ I2 r1 r2 q2) fun d s3 ⟨z,H3,I3,r3,k,e,q3⟩=>?_)) hm
 subst e;cases r3;refine ow ?_;cases k with
 |false=>
  obtain⟨k',e',q'⟩:=q3;cases e';exact ite_ff ⟨H3,I3,q'⟩
 |true=>
  refine ite_tt (test_last (thn (hc lC s3 σ H3 _ I3 q3) fun w' s4 ⟨z',H4,I4,r4,q4⟩=>thn (ho' lC s4 σ H4 y z' u w' _ I4 r2 r4 q4) fun d' s5 ⟨z2,H5,I5,r5,k2,e2,q5⟩=>?_));subst e2;cases r5;exact ow ⟨H5,I5,q5⟩
def TruV(K:W.Frag)(x:V)(H:Hp)(k:Bool):Prop:=
 match x with
 |.non=>k=false
 |.bl b=>k=b
 |.int i=>k=(i != 0)
 |.str y=>y.length<=sizeLine/\k=((y.length:Int) != 0)
 |.byt y=>y.size<=sizeLine/\k=((y.size:Int) != 0)
 |.ref p=>(∃xs,SqL K H p xs/\k = !xs.isEmpty)\/(∃xs,SqT K H p xs/\k = !xs.isEmpty)\/∃kvs,H p=some (.dK kvs)/\k = !kvs.isEmpty
 |_=>False
theorem kA{κ:Type}{kvs:List (κ×V)}{vs:List (κ×Value)}(r:KV kvs vs):(!vs.isEmpty) = !kvs.isEmpty:=by
 cases r<;>rfl
theorem yr{xs:List V}{its:List Value}(r:ZP xs its):(!its.toArray.isEmpty) = !xs.isEmpty:=by
 cases r<;>simp
theorem qZ:(sizeLine:Nat)<2 ^ 63:=by rw[mN];decide
theorem tru_ok:TruR X (fun x H Q=>∃k,TruV X.K x H k/\Q k H):=by
 intro lC s σ H x v Q I rx h;obtain⟨k,e,q⟩:=h;have hl:=qZ;have hs:sizeLine=16777216:=mN;cases x with
 |non=>
  cases rx;have e':k=false:=e;subst e';exact truthy_none ⟨H,I,q⟩
 |bl b=>
  cases rx;have e':k=b:=e;subst e';exact ow ⟨H,I,q⟩
 |int i=>
  obtain⟨t,rfl⟩:=rx;have e':k=(i != 0):=e;subst e';exact PySem.P.truthy_int ⟨H,I,q⟩
 |str y=>
  obtain⟨t,rfl⟩:=rx;obtain⟨hy,e'⟩:y.length<=sizeLine/\k=((y.length:Int) != 0):=e;subst e';exact PySem.P.truthy_str (by omega) ⟨H,I.tok _,q⟩
 |byt y=>
  obtain⟨t,rfl⟩:=rx;obtain⟨hy,e'⟩:y.size<=sizeLine/\k=((y.size:Int) != 0):=e;subst e';exact W.truthy_bytes (by omega) ⟨H,I.tok _,q⟩
 |ref p=>
  cases rx;have e':(∃xs,SqL X.K H p xs/\k = !xs.isEmpty)\/(∃xs,SqT X.K H p xs/\k = !xs.isEmpty)\/∃kvs,H p=some (.dK kvs)/\k = !kvs.isEmpty:=e;rcases e' with⟨xs,hx,e'⟩|⟨xs,hx,e'⟩|⟨kvs,hx,e'⟩
  ·subst e';obtain⟨its,r,pl,hz⟩:=I.list hx;have hlen:=r.length;exact wpAny_truthy_list pl.isList (by simp only[m7];omega) ⟨H,I.tok _,by rw[yr r];exact q⟩
  ·subst e';obtain⟨its,r,pl,hz⟩:=I.tuple hx;have hlen:=r.length;exact truthy_tuple pl (by simp only[m7];omega) ⟨H,I.tok _,by rw[yr r];exact q⟩
  ·subst e';obtain⟨hz,hS,vs,r,m⟩:kvs.length<=sizeLine/\(p==sysModules)=false/\∃vs,KV kvs vs/\s.heap.DictOf (Z3 X.prog X.w) p vs:=I.hok p _ hx;have hlen:kvs.length=vs.length:=pD r;exact wpAny_truthy_dict hS m (by omega) ⟨H,I.tok _,by rw[kA r];exact q⟩
 |_=>exact(show False from e).elim
theorem pt_truth(ha:PE X a ta)(he:∀whole,isTrue a X.env whole=(do let v <- whole;standAt a.pos;holding [v] (truthy v))) :
  PT X a (fun σ H Q=>ta σ H fun x H'=>∃k,TruV X.K x H' k/\Q k H'):=by
 intro lC s σ H Q I h;exact isTrue_plain (thn (ha lC s σ H _ I h) fun v s1 ⟨x,H1,I1,r1,q1⟩=>tru_ok lC s1 σ H1 x v Q I1 r1 q1) (he _)
theorem WM{x:V}{us:List Value}(r:ZP [x] us):∃u,us=[u]/\Z1 x u:=by
 cases r with
 |cons r1 r2=>cases r2;exact⟨_,rfl,r1⟩
theorem vals2{x y:V}{us:List Value}(r:ZP [x,y] us):∃u w',us=[u,w']/\Z1 x u/\Z1 y w':=by
 cases r with
 |cons r1 r2=>
  cases r2 with
  |cons r3 r4=>cases r4;exact⟨_,_,rfl,r1,r3⟩
theorem call_min2(hc:X.calm=true):YB X (.builtin "min") (fun xs H Q=>∃i j,xs=[.int i,.int j]/\Q (.int (if j<i then j else i)) H):=by
 intro lC s σ H xs us Q I r h;obtain⟨i,j,rfl,q⟩:=h;obtain⟨u,w',rfl,⟨t,rfl⟩,⟨t',rfl⟩⟩:=vals2 r;refine min_two_ints (I.ok.hd hc) fun h' tk k=>⟨_,H,I.kept k,?_,q⟩
 by_cases hj:j<i
 ·rw[if_pos hj,if_pos hj];exact⟨_,rfl⟩
 ·rw[if_neg hj,if_neg hj];exact⟨_,rfl⟩
theorem call_int1:YB X (.type "int") (fun xs H Q=>(∃i,xs=[.int i]/\Q (.int i) H)\/∃k,xs=[.bl k]/\Q (.int (if k then 1 else 0)) H):=by
 intro lC s σ H xs us Q I r h;rcases h with⟨i,rfl,q⟩|⟨k,rfl,q⟩
 ·obtain⟨u,rfl,t,rfl⟩:=WM r;exact call_int_int ⟨.int i,H,I,⟨_,rfl⟩,q⟩
 ·obtain⟨u,rfl,r1⟩:=WM r;cases r1;exact call_int_bool ⟨.int (if k then 1 else 0),H,I.tok _,⟨_,rfl⟩,q⟩
end
structure ObjM(h:Heap)(x dx C:Addr)(mA:Str->Option Value):Prop where
 obj:h.get? x=some (W.instObj C dx)
 ns:h.Ns1 dx mA
 ne:dx≠x
theorem lookIn_ns{h:Heap}{dx:Addr}{mA:Str->Option Value}(n:h.Ns1 dx mA):∃od,h.get? dx=some od/\∀name,W.lookIn name od=some (mA name):=by
 obtain⟨o,es,ep,ho,hd,hk,_,hm⟩:=n;refine⟨o,ho,fun name=>?_⟩;have e:=hm name;unfold nsFind findBy at e;rw[<- Array.find?_toList] at e;unfold W.lookIn;rw[hd];dsimp only
 split
 ·rename_i y q
  rw[q] at e;exact ni some e
 ·rename_i q
  rw[q] at e;have a:es.toList.any (·.refKey)=false:=by
   rw[List.any_eq_false];intro y hy;obtain⟨z,t,hkey⟩:=hk y (Array.mem_toList_iff.mp hy);simp[DictEntry.refKey,hkey]
  have a':¬es.toList.any (·.refKey)=true:=by rw[a];exact nh
  rw[if_neg a'];exact ni some e
theorem ObjM.look{h:Heap}{x dx C:Addr}{mA:Str->Option Value}(I:ObjM h x dx C mA):∃od,W.InstAt h x (W.instObj C dx) C (some od)/\∀name,W.lookIn name od=some (mA name):=
 let ⟨od,ho,hl⟩:=lookIn_ns I.ns
 ⟨od,⟨I.obj,rfl,rfl,ho⟩,hl⟩
section
variable{prog:Program}{w:World}{A:Around}{E:Value->Shared->Prop}{s:Shared}{K:W.Frag}{x dx C f:Addr}{mA:Str->Option Value}{name:Str}{v:Value}
theorem get_map{expr:Bool}{Q:Value->Shared->Prop}(X:K.In s.heap)(I:ObjM s.heap x dx C mA)(hg:W.plainGet K C name=true)(hh:W.hasDictIn K C=true)
  (ha:W.findIn K (.ref C) name=some none) (hv:mA name=some v) (hv':W.handedIn v=true) (h:Q v { s with toks:=s.toks+1 }) :
  wpAny (model prog w) A (getAttr (.ref x) name expr) Q E s:=by
 obtain⟨od,J,hl⟩:=I.look;exact W.get_value X J (W.plainGet_of hg).1 (W.findObj_own hh ha rfl (by rw[hl,hv])) hv' h
theorem get_meth{pl:Sem Bool}{Q:Value×List Value->Shared->Prop}(X:K.In s.heap)(I:ObjM s.heap x dx C mA)(hg:W.plainGet K C name=true)
  (hf:W.findIn K (.ref C) name=some (some (.ref f))) (ht:W.isFn K (.ref f)=true) (hv:mA name=none) (h:Q (.ref f,[.ref x]) s) :
  wpAny (model prog w) A (getMethod (.ref x) name pl) Q E s:=by
 obtain⟨od,J,hl⟩:=I.look;exact W.method_fn X J (W.plainGet_of hg).1 (W.plainGet_of hg).2 hf (oW.mp ht) (by show(W.lookIn name od).map (·.isSome)=some false;rw[hl,hv];rfl) h
theorem set_map{ns:List Str}{Q:Unit->Shared->Prop}(X:K.In s.heap)(I:ObjM s.heap x dx C mA)
  (hs:W.findIn K (.ref C) "__setattr__" = some (some (.builtin "object.__setattr__"))) (hp:W.plainOver K C=true) (ht:W.takerIn K C name=some none) (hh:W.hasDictIn K C=true)
  (hw:PySem.Within mA ns) (hsz:ns.length<=sizeLine)
  (h:∀h',ObjM h' x dx C (fun y=>if y=name then some v else mA y)->Heap.SameBut dx s.heap h'->Q () { s with heap:=h',toks:=s.toks+2 }) :
  wpAny (model prog w) A (setAttr (.ref x) name v) Q E s:=by
 obtain⟨od,J,hl⟩:=I.look;refine W.set_plain X J hs (W.osa_open (s:={ s with toks:=s.toks+1 }) (r:=none) X J hp ht fun b=>?_);obtain⟨cd,hc,hd'⟩:=W.any_some hh;have hx:s.heap.get? x=some ⟨.ref C,some dx,.plain,#[]⟩:=I.obj;refine mL (mQ (mL (mL (wpAny_loadPart hx (mL (W.Looks.here (s:={ s with toks:=s.toks+1 }) (W.looks_clsIn X hc) ?_))))));rw[hd'];refine mQ (a:=some dx) (mL (mQ (mL ?_)));refine wpAny_nsSet1 (s:={ s with toks:=s.toks+1 }) I.ns fun h' hn2 hs2=>?_;obtain⟨oD,esD,epD,hoD,hdD,hcD⟩:=hn2.count (PySem.Within.cons name v hw);refine mL (wpAny_lookBehind hoD (by rw[hdD];exact pastItsLine_dict (nQ hcD (by rw[n9];omega))) ?_);exact mQ (h _ ⟨(hs2.2 _ (nN I.ne)).trans I.obj,hn2,I.ne⟩ hs2)
theorem make_map{R:Result->Shared->Prop}{vs:List Value}{kw:List (Str×Value)}(X:K.In s.heap)(hm:W.makesIn K C=true)
  (hi:W.findIn K (.ref C) "__init__" = some (some (.ref f))) (hf:W.typeIn K (.ref f)=some (.type "function"))
  (h:codeAny (model prog w) (A.under (.builtin "type.__call__" ⟨.ref C::vs,kw⟩)) (.call (.ref f) ⟨.ref (s.heap.objs.size+1)::vs,kw⟩) (W.InitBack (s.heap.objs.size+1) R)
   { s with heap:=(s.heap.push W.emptyDict).push (W.instObj C s.heap.objs.size) }) :
  codeAny (model prog w) A (.call (.ref C) ⟨vs,kw⟩) R s:=by
 obtain⟨hh,g,d,t,os⟩:=s;exact W.make_core (W.makes_of X hm) (W.looks_findIn X hi) (fun self=>W.bind_fn X self hf) (.inl rfl) h
end
def Xd(f:Str)(v:V):List (Str×V)->List (Str×V)
 |[]=>[(f,v)]
 | (g,x)::r=>if g=f then(g,v)::r else(g,x)::Xd f v r
theorem zf(f g:Str)(v:V):∀fs:List (Str×V),(Xd f v fs).lookup g=if g=f then some v else fs.lookup g
 |[]=>by
  show List.lookup g [(f,v)]=_
  by_cases h:g=f
  ·have hb:(g==f)=true:=oW.mpr h;simp only[List.lookup,hb,if_pos h]
  ·have hb:(g==f)=false:=o5.mpr h;simp only[List.lookup,hb,if_neg h]
 | (k,x)::r=>by
  have ih:=zf f g v r;rw[show Xd f v ((k,x)::r)=(if k=f then(k,v)::r else(k,x)::Xd f v r) from rfl]
  by_cases hk:k=f
  ·rw[if_pos hk]
   by_cases h:g=k
   ·have hb:(g==k)=true:=oW.mpr h;simp only[List.lookup,hb,if_pos (h.trans hk)]
   ·have hb:(g==k)=false:=o5.mpr h;simp only[List.lookup,hb,if_neg (fun e:g=f=>h (e.trans hk.symm))]
  ·rw[if_neg hk]
   by_cases h:g=k
   ·have hb:(g==k)=true:=oW.mpr h;simp only[List.lookup,hb,if_neg (fun e:g=f=>hk (h.symm.trans e))]
   ·have hb:(g==k)=false:=o5.mpr h;simp only[List.lookup,hb];exact ih
theorem qU(f:Str)(v:V):∀fs:List (Str×V),f∈(Xd f v fs).map (·.1)/\∀g,g∈fs.map (·.1)->g∈(Xd f v fs).map (·.1)
 |[]=>⟨by simp[Xd],fun g h=>by simp at h⟩
 | (k,x)::r=>by
  obtain⟨i1,i2⟩:=qU f v r;rw[show Xd f v ((k,x)::r)=(if k=f then(k,v)::r else(k,x)::Xd f v r) from rfl]
  by_cases hk:k=f
  ·rw[if_pos hk];subst hk;exact⟨by simp,fun g h=>by simpa using h⟩
  ·rw[if_neg hk];refine⟨?_,fun g h=>?_⟩
   ·rw[mV];exact oe _ i1
   ·rw[mV] at h ⊢;rcases nu.mp h with e|e
    ·exact nu.mpr (.inl e)
    ·exact oe _ (i2 g e)
theorem zq(f:Str)(v:V):∀fs:List (Str×V),(Xd f v fs).length<=fs.length+1
 |[]=>by simp[Xd]
 | (k,x)::r=>by
  have ih:=zq f v r;rw[show Xd f v ((k,x)::r)=(if k=f then(k,v)::r else(k,x)::Xd f v r) from rfl]
  by_cases hk:k=f
  ·rw[if_pos hk,n9,n9];omega
  ·rw[if_neg hk,n9,n9];omega
theorem Ur.some_of{v:V}{o:Option Value}(r:Ur (some v) o):∃u,o=some u/\Z1 v u:=by
 cases o with
 |none=>exact(show False from r).elim
 |some u=>exact⟨u,rfl,r⟩
theorem Ur.none_of{o:Option Value}(r:Ur none o):o=none:=by
 cases o with
 |none=>rfl
 |some u=>exact(show False from r).elim
theorem handed_of{v:V}{u:Value}(r:Z1 v u):W.handedIn u=true:=by
 cases v with
 |non=>cases (show u=Value.none from r);rfl
 |bl b=>cases (show u=Value.bool b from r);rfl
 |int i=>obtain⟨t,e⟩:=(show ∃t,u=Value.int i t from r);cases e;rfl
 |str x=>obtain⟨t,e⟩:=(show ∃t,u=Value.str x t from r);cases e;rfl
 |byt b=>obtain⟨t,e⟩:=(show ∃t,u=Value.bytes b t from r);cases e;rfl
 |flt b=>obtain⟨t,e⟩:=(show ∃t,u=Value.float b t from r);cases e;rfl
 |ref a=>cases (show u=Value.ref a from r);rfl
 |ty n=>cases (show u=Value.type n from r);rfl
section
variable{P:Program}{w:World}{H H':Hp}{h h':Heap}{a C dx:Addr}{fs fs':List (Str×V)}
theorem zJ(hok:HOk P w H h)(e:H a=some (.ins C dx fs)):∃mA,ObjM h a dx C mA/\(∀f,Ur (fs.lookup f) (mA f))/\PySem.Within mA (fs.map (·.1))/\fs.length<=1000/\H dx=some (.own a):=by
 obtain⟨d,z,ne,ob,mA,n,r,q⟩:=(show Xe P w H h a (.ins C dx fs) from hok a _ e);exact⟨mA,⟨ob,n,ne⟩,r,q,z,d⟩
end
structure Cls(K:W.Frag)(C:Addr):Prop where
 pg:W.plainGet K C Str.empty=true
 hd:W.hasDictIn K C=true
 po:W.plainOver K C=true
 sa:W.findIn K (.ref C) "__setattr__" = some (some (.builtin "object.__setattr__"))
theorem Cls.get{K:W.Frag}{C:Addr}(c:Cls K C)(f:Str):W.plainGet K C f=true:=c.pg
def Wf(K:W.Frag)(C:Addr)(f:Str):Prop:=W.findIn K (.ref C) f=some none
theorem Wf.taker{K:W.Frag}{C:Addr}{f:Str}(n:Wf K C f):W.takerIn K C f=some none:=by
 unfold W.takerIn;rw[show W.findIn K (.ref C) f=some none from n];rfl
structure VA(K:W.Frag)(C:Addr)(m:Str)(f:Addr):Prop where
 at_:W.findIn K (.ref C) m=some (some (.ref f))
 fn:W.isFn K (.ref f)=true
 kp:W.keepIn K (.ref f)=true
section
variable{X:Cx}{lC:List (Addr×Obj)}{σ:St}{H:Hp}{s:Shared}{a C dx:Addr}{fs:List (Str×V)}{f:Str}{v:V}{A:Around}{E:Value->Shared->Prop}
theorem ko{b:Bool}{Q:Value->Shared->Prop}(I:Inv X lC σ H s)(e:H a=some (.ins C dx fs))(c:Cls X.K C)(n:Wf X.K C f)(l:fs.lookup f=some v)
  (h:∀u s',Inv X lC σ H s'->Z1 v u->Q u s'):wpAny (model X.prog X.w) A (getAttr (.ref a) f b) Q E s:=by
 obtain⟨mA,O,r,_,_,_⟩:=zJ I.hok e;obtain⟨u,hu,ru⟩:=Ur.some_of (v:=v) (o:=mA f) (by rw[<- l];exact r f);exact get_map I.kIn O (c.get f) c.hd n hu (handed_of ru) (h u _ (I.tok _) ru)
theorem UI{m:Str}{g:Addr}{pl:Sem Bool}{Q:Value×List Value->Shared->Prop}(I:Inv X lC σ H s)(e:H a=some (.ins C dx fs))(c:Cls X.K C)(k:VA X.K C m g)(l:fs.lookup m=none)
  (h:Q (.ref g,[.ref a]) s):wpAny (model X.prog X.w) A (getMethod (.ref a) m pl) Q E s:=by
 obtain⟨mA,O,r,_,_,_⟩:=zJ I.hok e;have hn:mA m=none:=Ur.none_of (by rw[<- l];exact r m);exact get_meth I.kIn O (c.get m) k.at_ k.fn hn h
theorem kH{y:V}{u:Value}{Q:Unit->Shared->Prop}(I:Inv X lC σ H s)(e:H a=some (.ins C dx fs))(c:Cls X.K C)(n:Wf X.K C f)(hl:fs.length<1000)(ry:Z1 y u)
  (h:∀s',Inv X lC σ (upd H a (.ins C dx (Xd f y fs))) s'->Q () s'):wpAny (model X.prog X.w) A (setAttr (.ref a) f u) Q E s:=by
 obtain⟨mA,O,r,wi,_,ho⟩:=zJ I.hok e;have hz:(fs.map (·.1)).length<=sizeLine:=by rw[mM,mN];omega
 refine set_map I.kIn O c.sa c.po n.taker c.hd wi hz fun h' O' sb=>h _ ?_;have hd:∃o,h'.get? dx=some o:=let ⟨o,_,_,e',_⟩:=O'.ns; ⟨o,e'⟩
 refine I.write (x:=a) (e:=dx) (by rw[e];exact True.intro) (.inr ho) (fun b q hb z=>(sb.2 b hb).trans z) hd ?_;refine⟨by rw[Zy O.ne];exact ho,?_,O.ne,O'.obj,_,O'.ns,fun g=>?_,fun g hg=>?_⟩
 ·have:=zq f y fs;omega
 ·show Ur ((Xd f y fs).lookup g) (if g=f then some u else mA g)
  rw[zf]
  by_cases q:g=f
  ·rw[if_pos q,if_pos q];exact ry
  ·rw[if_neg q,if_neg q];exact r g
 ·by_cases q:g=f
  ·rw[q];exact(qU f y fs).1
  ·refine(qU f y fs).2 g (wi g fun z=>hg ?_)
   show(if g=f then some u else mA g)=none
   rw[if_neg q];exact z
theorem Inv.made(I:Inv X lC σ H s):Inv X lC σ (upd (upd H s.heap.objs.size (.own (s.heap.objs.size+1))) (s.heap.objs.size+1) (.ins C s.heap.objs.size []))
  { s with heap:=(s.heap.push W.emptyDict).push (W.instObj C s.heap.objs.size) }:=by
 have e1:(s.heap.push W.emptyDict).get? s.heap.objs.size=some W.emptyDict:=nI s.heap rfl;have e2:((s.heap.push W.emptyDict).push (W.instObj C s.heap.objs.size)).get? (s.heap.objs.size+1)=some (W.instObj C s.heap.objs.size):=by
  have:=nI (s.heap.push W.emptyDict) (o:=W.instObj C s.heap.objs.size) rfl
  rwa [pj] at this
 have e3:(s.heap.push W.emptyDict).Ns s.heap.objs.size (fun _=>none):=⟨W.emptyDict,#[],_,e1,rfl,(fun e he=>absurd he (by simp)),fun _=>rfl⟩;have I1:=I.laid (a:=s.heap.objs.size) (o:=.own (s.heap.objs.size+1)) (h':=s.heap.push W.emptyDict) (t':=s.toks) (fun b u q=>m4 _ q) (mP _) ⟨_,e1⟩;refine I1.laid (a:=s.heap.objs.size+1) (o:=.ins C s.heap.objs.size []) (t':=s.toks) (fun b u q=>m4 _ q) (Nat.le_of_eq (pj _ _)) ?_;have ne:s.heap.objs.size≠s.heap.objs.size+1:=na (pF _);refine⟨by rw[Zy ne,Ze],og _,ne,e2,fun _=>none,(Heap.Ns1.of_empty e3).at fun o q=>m4 _ q,fun _=>True.intro,fun y hy=>absurd rfl hy⟩
theorem attr_of{prog:Program}{w:World}{env:Env}{e:Expr}{f:Str}{pos:Pos}{s:Shared}{Q:Value->Shared->Prop}(hb:attributeBase e f env (eval e env)=eval e env)
  (h:wpAny (model prog w) A (eval e env) (fun o s₁=>wpAny (model prog w) A (getAttr o f true) Q E s₁) E s):wpAny (model prog w) A (eval (.Attribute e f pos) env) Q E s:=
 Attribute_any_ h (by rw[arm_eval_Attribute,hb])
end
inductive FldR(K:W.Frag)(f:Str)(x:V)(H:Hp)(Q:VK):Prop
 |mk (a C dx:Addr) (fs:List (Str×V)) (v:V) (h1:x=.ref a) (h2:H a=some (.ins C dx fs)) (h3:Cls K C) (h4:Wf K C f) (h5:fs.lookup f=some v) (k:Q v H):FldR K f x H Q
def tFld(K:W.Frag)(ta:TE)(f:Str):TE:=fun σ H Q=>ta σ H fun x H1=>FldR K f x H1 Q
def sFld(K:W.Frag)(ta tv:TE)(f:Str):TS:=fun D σ H=>tv σ H fun y H1=>ta σ H1 fun x H2=>∃a C dx fs,x=.ref a/\H2 a=some (.ins C dx fs)/\Cls K C/\Wf K C f/\fs.length<1000 /\
 D.nx σ (upd H2 a (.ins C dx (Xd f y fs)))
section
variable{X:Cx}{o e value:Expr}{f:Str}{pos pos' tpos:Pos}{ta tv:TE}
theorem pe_fld(he:PE X e ta)(hb:attributeBase e f X.env (eval e X.env)=eval e X.env):PE X (.Attribute e f pos) (tFld X.K ta f):=by
 intro lC s σ H Q I h;refine attr_of hb (thn (he lC s σ H _ I h) fun u s1 ⟨x,H1,I1,rx,a,C,dx,fs,v,ex,ea,c,n,l,q⟩=>?_);subst ex;obtain rfl:u=Value.ref a:=rx;exact ko I1 ea c n l fun u' s2 I2 ru=>⟨v,H1,I2,ru,q⟩
theorem Vz(ha:PE X o ta)(hv:PE X value tv)(hs:swapsWith value (some (.Attribute o f pos')) pos.line X.env=pure false):PS X (.Assign [.Attribute o f pos'] value pos) (sFld X.K ta tv f):=by
 intro lC s σ H D I h;refine plainObj_wpAny_Assign_Attribute (thn (hv lC s σ H _ I h) fun u s1 ⟨y,H1,I1,ry,q⟩=>thn (ha lC s1 σ H1 _ I1 q) fun ov s2 ⟨x,H2,I2,rx,a,C,dx,fs,ex,ea,c,n,l,q2⟩=>?_) hs;subst ex;obtain rfl:ov=Value.ref a:=rx;exact kH I2 ea c n l ry fun s3 I3=>⟨σ,_,I3,q2⟩
theorem methcall_of{pl:Sem Bool}{m:Str}{apos:Pos}{args:List Expr}{lC:List (Addr×Obj)}{s:Shared}{σ:St}{H:Hp}{Q:Value->Shared->Prop}{te:TE}(he:PE X e te)(I:Inv X lC σ H s)
  (h:te σ H fun x H1=>∃a C dx fs g,x=.ref a/\H1 a=some (.ins C dx fs)/\Cls X.K C/\VA X.K C m g/\fs.lookup m=none /\
   ∀s1,Inv X lC σ H1 s1->wpAny (model X.prog X.w) X.A (callWith pos (.ref g) [.ref a] (backTo pos (starEach args X.env)) (backToKw pos (keywordEach [] X.env))) Q X.xe s1)
  (ht:eval (.Call (.Attribute e m apos) args [] pos) X.env=(do
   let ov <- eval e X.env
   standAt apos.atName
   let (f,first) <- holding [ov] (getMethod ov m pl)
   callWith pos f first (backTo pos (starEach args X.env)) (backToKw pos (keywordEach [] X.env)))) :
  wpAny (model X.prog X.w) X.A (eval (.Call (.Attribute e m apos) args [] pos) X.env) Q X.xe s:=by
 refine rF (pl:=pl) (thn (he lC s σ H _ I h) fun u s1 ⟨x,H1,I1,rx,a,C,dx,fs,g,ex,ea,c,k,l,q⟩=>?_) ht;subst ex;obtain rfl:u=Value.ref a:=rx;exact UI I1 ea c k l (q s1 I1)
end
section
variable{X:Cx}{lC:List (Addr×Obj)}{σ:St}{H:Hp}{s:Shared}{A:Around}{E:Value->Shared->Prop}{Q:Value->Shared->Prop}{c:Value}{b:Bool}
inductive Uq(K:W.Frag)(H:Hp):V->Value->Prop where
 |non:Uq K H .non (.type "NoneType")
 |bl (x:Bool):Uq K H (.bl x) (.type "bool")
 |int (i:Int):Uq K H (.int i) (.type "int")
 |str (x:Str):Uq K H (.str x) (.type "str")
 |flt (x:UInt64):Uq K H (.flt x) (.type "float")
 |lst {a:Addr}{xs:List V} (e:H a=some (.lst xs)):Uq K H (.ref a) (.type "list")
 |frz {a:Addr}{o:Obj}{xs:List V} (e:H a=some (.frz o (.lst xs))):Uq K H (.ref a) (.type "list")
 |tup {a:Addr}{xs:List V} (e:H a=some (.tup xs)):Uq K H (.ref a) (.type "tuple")
 |dK {a:Addr}{kvs:List (Key×V)} (e:H a=some (.dK kvs)):Uq K H (.ref a) (.type "dict")
 |dT {a:Addr}{kvs:List (List Key×V)} (e:H a=some (.dT kvs)):Uq K H (.ref a) (.type "dict")
 |ins {a C dx:Addr}{fs:List (Str×V)} (e:H a=some (.ins C dx fs)) (cl:Cls K C) (ha:W.findIn K (.ref C) "__class__" = some (some (.builtin "object.__class__")))
   (hn:W.specialIn K (.builtin "object.__class__") "__get__" = some (some (.builtin "getset_descriptor.__get__"))) (htk:W.takesIn K (.builtin "object.__class__")=some true)
   (hm:W.mroIn K C (.type "object")=some true):Uq K H (.ref a) (.ref C)
theorem xC{x:V}{u t:Value}(I:Inv X lC σ H s)(rx:Z1 x u)(ty:Uq X.K H x t)(e:W.kitOne X.K t c=some b)(h:∀tk,Q (.bool b) { s with toks:=tk }) :
  wpAny (model X.prog X.w) A (call (.builtin "isinstance") [u,c]) Q E s:=by
 cases ty with
 |non=>cases (show u=Value.none from rx);exact ox W.kitx_none I.kIn True.intro e (fun z=>nomatch z) h
 |bl y=>cases (show u=Value.bool y from rx);exact ox W.kitx_bool I.kIn True.intro e (fun z=>nomatch z) h
 |int i=>obtain⟨t,q⟩:=(show ∃t,u=Value.int i t from rx);cases q;exact ox W.kitx_int I.kIn True.intro e (fun z=>nomatch z) h
 |str y=>obtain⟨t,q⟩:=(show ∃t,u=Value.str y t from rx);cases q;exact ox W.kitx_str I.kIn True.intro e (fun z=>nomatch z) h
 |flt y=>obtain⟨t,q⟩:=(show ∃t,u=Value.float y t from rx);cases q;exact ox W.kitx_float I.kIn True.intro e (fun z=>nomatch z) h
 |@lst a xs ea=>
  cases (show u=Value.ref a from rx);obtain⟨_,_,n,_,h1⟩:=(show Xe X.prog X.w H s.heap a (.lst xs) from I.hok a _ ea);exact ox W.kitx_list I.kIn ⟨_,h1,rfl⟩ e (fun z=>nomatch z) h
 |@frz a ob xs ea=>
  cases (show u=Value.ref a from rx);obtain⟨_,_,_,n,_,h1⟩:=(show Xe X.prog X.w H s.heap a (.frz ob (.lst xs)) from I.hok a _ ea);exact ox W.kitx_list I.kIn ⟨_,h1,rfl⟩ e (fun z=>nomatch z) h
 |@tup a xs ea=>
  cases (show u=Value.ref a from rx);obtain⟨_,_,_,p⟩:=(show Xe X.prog X.w H s.heap a (.tup xs) from I.hok a _ ea);obtain⟨o,h1,h2,_⟩:=p;exact ox W.kitx_tuple I.kIn ⟨o,h1,h2⟩ e (fun z=>nomatch z) h
 |@dK a kvs ea=>
  cases (show u=Value.ref a from rx);obtain⟨_,_,vs,_,p⟩:=(show Xe X.prog X.w H s.heap a (.dK kvs) from I.hok a _ ea);obtain⟨o,es,ep,h1,h2,_⟩:=p;exact ox W.kitx_dict I.kIn ⟨o,h1,h2.1⟩ e (fun z=>nomatch z) h
 |@dT a kvs ea=>
  cases (show u=Value.ref a from rx);obtain⟨_,_,xs,_,o,es,ep,h1,h2,_⟩:=(show Xe X.prog X.w H s.heap a (.dT kvs) from I.hok a _ ea);exact ox W.kitx_dict I.kIn ⟨o,h1,h2.1⟩ e (fun z=>nomatch z) h
 |@ins a C dx fs ea cl ha hn htk hm=>
  cases (show u=Value.ref a from rx);obtain⟨mA,O,_⟩:=zJ I.hok ea;obtain⟨od,J,_⟩:=O.look;exact ox (W.kitx_own (cl.get _) cl.hd ha hn htk hm) I.kIn J e (fun z=>nomatch z) h
end
structure Xx(k:Nat)(A:Around):Prop where
 hd:A.handled=none
 dp:A.depth+3*k+5<recursionLimit
 un:A.units+16*k+200<cLine
theorem Xx.mono{j k:Nat}{A:Around}(r:Xx k A)(h:j<=k):Xx j A:=⟨r.hd,by have:=r.dp;omega,by have:=r.un;omega⟩
theorem Xx.deeper{k:Nat}{A:Around}(r:Xx (k+1) A)(env:Env):Xx k (A.deeper env):=
 ⟨r.hd,by have:=r.dp;show A.depth+1+3*k+5<_;omega,by have:=r.un;show A.units+3+16*k+200<_;omega⟩
theorem kr{A:Around}{C:Addr}{us:List Value}{kw:List (Str×Value)}:(A.under (.builtin "type.__call__" ⟨.ref C::us,kw⟩)).depth=A.depth+1:=by
 first|rfl|simp[Around.under,Code.weight,Code.isCreation,Code.isGuard,Code.isCaller,Code.frames,Code.isFrame,guardIds]
theorem kU{A:Around}{C:Addr}{us:List Value}{kw:List (Str×Value)}:(A.under (.builtin "type.__call__" ⟨.ref C::us,kw⟩)).units=A.units+1:=by
 first|rfl|simp[Around.under,Code.cUnits,Code.frames,Code.isFrame]
theorem Xx.make{k:Nat}{A:Around}(r:Xx (k+1) A)(C:Addr)(us:List Value)(kw:List (Str×Value)):Xx k (A.under (.builtin "type.__call__" ⟨.ref C::us,kw⟩)):=
 ⟨r.hd,by have:=r.dp;rw[kr];omega,by have:=r.un;rw[kU];omega⟩
theorem Xx.depth{k:Nat}{A:Around}(r:Xx k A):A.depth<recursionLimit:=by have:=r.dp;omega
theorem Xx.units{k:Nat}{A:Around}(r:Xx k A):A.units+64<cLine:=by have:=r.un;omega
theorem Xx.units0{k:Nat}{A:Around}(r:Xx k A):A.units<cLine:=by have:=r.un;omega
def tNil:TA:=fun _ H Q=>Q [] H
def VI(ta:TE)(tr:TA):TA:=fun σ H Q=>ta σ H fun x H1=>tr σ H1 fun xs H2=>Q (x::xs) H2
section
variable{X:Cx}{e:Expr}{es:List Expr}{te:TE}{t:TA}{pos:Pos}
theorem XH:PA X [] tNil:=fun _ _ _ _ H Q I h=>Calls.spliced_nil ⟨[],H,I,.nil,h⟩
theorem Zr(ha:PE X e te)(hr:PA X es t)(hs:starEach (e::es) X.env=(false,eval e X.env)::starEach es X.env:=by rfl):PA X (e::es) (VI te t):=by
 intro pos lC s σ H Q I h;rw[hs]
 show wpAny _ _ (spliced ((false,eval e X.env)::backTo pos (starEach es X.env))) _ _ s
 refine Calls.spliced_cons (thn (ha lC s σ H _ I h) fun u s1 ⟨x,H1,I1,r1,q1⟩=>?_);exact thn (hr pos lC s1 σ H1 _ I1 q1) fun us s2 ⟨xs,H2,I2,r2,q2⟩=>⟨x::xs,H2,I2,.cons r1 r2,q2⟩
inductive NewR(xs:List V)(o:HO)(H:Hp)(Q:VK):Prop
 |mk (z:xs.length<=sizeLine) (k:∀p,H p=none->Q (.ref p) (upd H p o)):NewR xs o H Q
def tTup(t:TA):TE:=fun σ H Q=>t σ H fun xs H1=>NewR xs (.tup xs) H1 Q
def tLst(t:TA):TE:=fun σ H Q=>t σ H fun xs H1=>NewR xs (.lst xs) H1 Q
theorem Yv{x1}(h:PA X es t):PE X (.Tuple es x1 pos) (tTup t):=by
 intro lC s σ H Q I hq;refine wpAny_Tuple_spliced (thn (h pos lC s σ H _ I hq) fun us s1 ⟨xs,H1,I1,r,z,q⟩=>⟨by rw[<- r.length];exact z,?_⟩);have hf:H1 s1.heap.objs.size=none:=I1.hok.fresh (mP _);refine⟨.ref s1.heap.objs.size,upd H1 s1.heap.objs.size (.tup xs),I1.laid (t':=s1.toks) (fun b u e=>m4 _ e) (mP _) ?_,rfl,q _ hf⟩;exact⟨z,us,r,⟨_,nI _ rfl,rfl,_,rfl⟩⟩
theorem ZW(h:PA X es t):PE X (.List es pos) (tLst t):=by
 intro lC s σ H Q I hq;refine wpAny_List_spliced (thn (h pos lC s σ H _ I hq) fun us s1 ⟨xs,H1,I1,r,z,q⟩=>⟨by rw[<- r.length];exact z,?_⟩);have hf:H1 s1.heap.objs.size=none:=I1.hok.fresh (mP _);refine⟨.ref s1.heap.objs.size,upd H1 s1.heap.objs.size (.lst xs),I1.laid (t':=s1.toks) (fun b u e=>m4 _ e) (mP _) ?_,rfl,q _ hf⟩;exact⟨z,us,0,r,nI _ rfl⟩
end
abbrev Sp:=List V->Hp->VK->XK->Prop
abbrev CXT:=List Env->Hp->Shared->XK->Value->Shared->Prop
structure Env0(P:Program)(w:World)(K:W.Frag)(mg:Str->Option Value)(base:Heap)(A:Around)(outer:List Env)(s:Shared)(H:Hp):Prop where
 frames:A.frames=some outer
 mod:Mod K mg base
 bs:∀b o,base.get? b=some o->s.heap.get? b=some o/\H b=none
 bsz:base.objs.size<=s.heap.objs.size
 funs:s.heap.FunFrames base outer
 frf:∀b∈frs outer,H b=none
 hok:HOk P w H s.heap
 bare:AllBare s.gens
def CE(outer:List Env)(P:Program)(w:World)(H:Hp)(s:Shared)(Q:VK)(u:Value)(s':Shared):Prop:=
 ∃v H',s'.os=s.os/\AllBare s'.gens/\Un (frs outer) [] H H' s.heap s'.heap/\HOk P w H' s'.heap/\Z1 v u/\Q v H'
def CR(CX:CXT)(outer:List Env)(P:Program)(w:World)(H:Hp)(s:Shared)(Q:VK)(E:XK)(r:Result)(s':Shared):Prop:=
 match r with
 |.ok (.ret u)=>CE outer P w H s Q u s'
 |.ok _=>False
 |.error e=>CX outer H s E e s'
structure Ye(P:Program)(w:World)(K:W.Frag)(mg:Str->Option Value)(base:Heap)(CX:CXT)(k:Nat)(f:Addr)(fd:FuncData)(ps:List Str)(sp:Sp):Prop where
 len:∀vs H Q E,sp vs H Q E->vs.length=ps.length
 run:∀(A:Around) (outer:List Env) (s:Shared) (H:Hp) (args:Args) (us:List Value) (vs:List V) (Q:VK) (E:XK),Xx k A->Env0 P w K mg base A outer s H->BindsTo s fd args (ps.zip us)->ZP vs us->sp vs H Q E ->
  codeAny (model P w) A (.call (.ref f) args) (CR CX outer P w H s Q E) s
theorem Env0.make{P:Program}{w:World}{K:W.Frag}{mg:Str->Option Value}{base:Heap}{A:Around}{outer:List Env}{s:Shared}{H:Hp}(e:Env0 P w K mg base A outer s H)(C:Addr)(us:List Value)(kw:List (Str×Value)) :
  Env0 P w K mg base (A.under (.builtin "type.__call__" ⟨.ref C::us,kw⟩)) outer s H:=⟨by first|exact e.frames|(simpa[Around.under,Code.envs,Code.isFrame,pushEnvs] using e.frames),e.mod,e.bs,e.bsz,e.funs,e.frf,e.hok,e.bare⟩
section
variable{X:Cx}{lC:List (Addr×Obj)}{σ:St}{H:Hp}{s s':Shared}
theorem Inv.env0(I:Inv X lC σ H s):Env0 X.prog X.w X.K X.mg X.base X.A X.stack s H:=
 ⟨I.ok.frames,I.ok.mod,I.bs,nQ I.ok.bsz I.sz,I.stack,I.stkFree,I.hok,I.bare⟩
theorem Inv.after{Q:VK}{u:Value}(I:Inv X lC σ H s)(h:CE X.stack X.prog X.w H s Q u s'):EP X lC σ Q u s':=by
 obtain⟨v,H',os,bare,un,hok,r,q⟩:=h;obtain⟨hh,g,d,t,os'⟩:=s';obtain rfl:os'=s.os:=os;exact⟨v,H',I.call (h':=hh) (g':=g) (d':=d) (t':=t) (ch:=[]) un hok bare (fun b z=>absurd z (by simp)),r,q⟩
end
def tCall(sp:Sp)(dvs:List V)(E:XK)(t:TA):TE:=fun σ H Q=>t σ H fun vs H1=>sp (vs++dvs) H1 Q E
inductive MethR(C:Addr)(m:Str)(x:V)(H:Hp)(B:Prop):Prop
 |mk (a dx:Addr) (fs:List (Str×V)) (h1:x=.ref a) (h2:H a=some (.ins C dx fs)) (h3:fs.lookup m=none) (k:B):MethR C m x H B
def tMeth(C:Addr)(m:Str)(sp:Sp)(dvs:List V)(E:XK)(ta:TE)(t:TA):TE:=fun σ H Q=>ta σ H fun x H1=>MethR C m x H1 (t σ H1 fun vs H2=>sp (x::(vs++dvs)) H2 Q E)
def tMake(C:Addr)(sp:Sp)(dvs:List V)(E:XK)(t:TA):TE:=fun σ H Q=>t σ H fun vs H1=>∀x dx,H1 x=none->H1 dx=none->dx≠x ->
 sp (.ref x::(vs++dvs)) (upd (upd H1 dx (.own x)) x (.ins C dx [])) (fun v H2=>v=.non/\Q (.ref x) H2) E
def ZT(K:W.Frag)(fd:FuncData)(ps:List Str)(ds:List Value):Prop:=
 ∀(s:Shared) (us:List Value),K.In s.heap->(us++ds).length=ps.length->BindsTo s fd ⟨us,[]⟩ (ps.zip (us++ds))
theorem ZT.all{K:W.Frag}{fd:FuncData}{ps:List Str}(h:∀us:List Value,us.length=ps.length->bindArgs fd ⟨us,[]⟩=pure (ps.zip us)):ZT K fd ps []:=fun s us _ hl=>by
 rw[oC] at hl ⊢;exact .of_eq (h us hl)
def UC(CX:CXT)(X:Cx)(E:XK):Prop:=∀(lC:List (Addr×Obj)) (σ:St) (H:Hp) (s:Shared) (e:Value) (s':Shared),Inv X lC σ H s->CX X.stack H s E e s'->X.xe e s'
section
variable{X:Cx}{CX:CXT}{k:Nat}{f C:Addr}{fd:FuncData}{ps:List Str}{sp:Sp}{dvs:List V}{ds:List Value}{E:XK}{x m:Str}{p pos apos:Pos}{e o:Expr}{es:List Expr}{ta:TE}{t:TA}
theorem run_fn{lC:List (Addr×Obj)}{σ:St}{H:Hp}{s:Shared}{Q:VK}{us:List Value}{vs:List V}(F:Ye X.prog X.w X.K X.mg X.base CX k f fd ps sp)(hr:Xx k X.A)(hb:ZT X.K fd ps ds)(hd:ZP dvs ds)(hx:UC CX X E)
  (I:Inv X lC σ H s) (r:ZP vs us) (h:sp (vs++dvs) H Q E):wpAny (model X.prog X.w) X.A (call (.ref f) us) (EP X lC σ Q) X.xe s:=by
 have r2:ZP (vs++dvs) (us++ds):=r.append hd;have hl:(us++ds).length=ps.length:=by rw[<- r2.length];exact F.len _ _ _ _ h
 refine wpAny_call (o9 (F.run X.A X.stack s H ⟨us,[]⟩ (us++ds) (vs++dvs) Q E hr I.env0 (hb s us I.kIn hl) r2 h) fun r s' hq=>?_);cases r with
 |error e=>exact hx lC σ H s e s' I hq
 |ok fl=>
  cases fl with
  |ret u=>exact I.after hq
  |next=>exact False.elim hq
  |brk=>exact False.elim hq
  |cont=>exact False.elim hq
theorem Zl(F:Ye X.prog X.w X.K X.mg X.base CX k f fd ps sp)(hr:Xx k X.A)(hg:Gl X x)(hm:X.mg x=some (.ref f))(hk:W.keepIn X.K (.ref f)=true)(hb:ZT X.K fd ps ds)(hd:ZP dvs ds)(hx:UC CX X E)
  (ha:PA X (e::es) t) (hdb:(x==("__debug__" : Str))=false:=by decide) (he:starEach (e::es) X.env=(false,eval e X.env)::starEach es X.env:=by rfl) (hpl:(backTo pos (starEach es X.env)).any (·.1)=false:=by rfl) :
  PE X (.Call (.Name x p) (e::es) [] pos) (tCall sp dvs E t):=by
 intro lC s σ H Q I h;refine p6 (jl I hg hm ?_ hdb);refine W.callWith_K (h₀:=X.base) I.ok.mod.kin hk (thn (ha pos lC s σ H _ I h) fun us s1 ⟨vs,H1,I1,r,q⟩=>⟨I1.kIn,?_⟩) he hpl;exact run_fn F hr hb hd hx I1 r q
theorem Yi{pl:Sem Bool}(he:PE X o ta)(c:Cls X.K C)(hm:VA X.K C m f)(F:Ye X.prog X.w X.K X.mg X.base CX k f fd ps sp)(hr:Xx k X.A)(hb:ZT X.K fd ps ds)(hd:ZP dvs ds)(hx:UC CX X E)(ha:PA X (e::es) t)
  (hst:starEach (e::es) X.env=(false,eval e X.env)::starEach es X.env:=by rfl) (hpl:(backTo pos (starEach es X.env)).any (·.1)=false:=by rfl)
  (ht:eval (.Call (.Attribute o m apos) (e::es) [] pos) X.env=(do
   let ov <- eval o X.env
   standAt apos.atName
   let (f,first) <- holding [ov] (getMethod ov m pl)
   callWith pos f first (backTo pos (starEach (e::es) X.env)) (backToKw pos (keywordEach [] X.env))):=by rfl) :
  PE X (.Call (.Attribute o m apos) (e::es) [] pos) (tMeth C m sp dvs E ta t):=by
 intro lC s σ H Q I h;refine rF (pl:=pl) (thn (he lC s σ H _ I h) fun u s1 ⟨x,H1,I1,rx,a,dx,fs,ex,ea,l,q⟩=>?_) ht;subst ex;obtain rfl:u=Value.ref a:=rx;refine UI I1 ea c hm l ?_;refine W.callWith_K (first:=[.ref a]) (h₀:=X.base) I.ok.mod.kin hm.kp (thn (ha pos lC s1 σ H1 _ I1 q) fun us s2 ⟨vs,H2,I2,r,q2⟩=>⟨I2.kIn,?_⟩) hst hpl;exact run_fn (us:=.ref a::us) (vs:=.ref a::vs) F hr hb hd hx I2 (.cons rfl r) q2
theorem qv{pl:Sem Bool}(he:PE X o ta)(c:Cls X.K C)(hm:VA X.K C m f)(F:Ye X.prog X.w X.K X.mg X.base CX k f fd ps sp)(hr:Xx k X.A)(hb:ZT X.K fd ps ds)(hd:ZP dvs ds)(hx:UC CX X E)
  (ht:eval (.Call (.Attribute o m apos) [] [] pos) X.env=(do
   let ov <- eval o X.env
   standAt apos.atName
   let (f,first) <- holding [ov] (getMethod ov m pl)
   callWith pos f first (backTo pos (starEach [] X.env)) (backToKw pos (keywordEach [] X.env))):=by rfl) :
  PE X (.Call (.Attribute o m apos) [] [] pos) (tMeth C m sp dvs E ta tNil):=by
 intro lC s σ H Q I h;refine rF (pl:=pl) (thn (he lC s σ H _ I h) fun u s1 ⟨x,H1,I1,rx,a,dx,fs,ex,ea,l,q⟩=>?_) ht;subst ex;obtain rfl:u=Value.ref a:=rx;refine UI I1 ea c hm l ?_;exact W.callWith_K0 (first:=[.ref a]) I1.kIn hm.kp (run_fn (us:=[.ref a]) (vs:=[.ref a]) F hr hb hd hx I1 (.cons rfl .nil) q)
structure Mk(K:W.Frag)(C f:Addr):Prop where
 makes:W.makesIn K C=true
 init:W.findIn K (.ref C) "__init__" = some (some (.ref f))
 fn:W.isFn K (.ref f)=true
 kp:W.keepIn K (.ref C)=true
theorem run_make{lC:List (Addr×Obj)}{σ:St}{H:Hp}{s:Shared}{Q:VK}{us:List Value}{vs:List V}(M:Mk X.K C f)(F:Ye X.prog X.w X.K X.mg X.base CX k f fd ps sp)(hr:Xx (k+1) X.A)(hb:ZT X.K fd ps ds)(hd:ZP dvs ds)
  (hx:UC CX X E) (I:Inv X lC σ H s) (r:ZP vs us)
  (h:∀x dx,H x=none->H dx=none->dx≠x->sp (.ref x::(vs++dvs)) (upd (upd H dx (.own x)) x (.ins C dx [])) (fun v H2=>v=.non/\Q (.ref x) H2) E) :
  wpAny (model X.prog X.w) X.A (call (.ref C) us) (EP X lC σ Q) X.xe s:=by
 have hq:=h (s.heap.objs.size+1) s.heap.objs.size (I.hok.fresh (oO _)) (I.hok.fresh (mP _)) (na (pF _));have I2:=Inv.made (C:=C) I;have r2:ZP (V.ref (s.heap.objs.size+1)::(vs++dvs)) (Value.ref (s.heap.objs.size+1)::(us++ds)):=.cons rfl (r.append hd);have hl:(Value.ref (s.heap.objs.size+1)::us++ds).length=ps.length:=by
  have e:=r2.length;rw[F.len _ _ _ _ hq] at e;exact e.symm
 refine wpAny_call (make_map (f:=f) I.kIn M.makes M.init (oW.mp M.fn) (o9 (F.run _ X.stack _ _ ⟨Value.ref (s.heap.objs.size+1)::us,[]⟩ (Value.ref (s.heap.objs.size+1)::(us++ds)) _ _ E (hr.make C us [])
  (I2.env0.make C us []) (hb _ (Value.ref (s.heap.objs.size+1)::us) I2.kIn hl) r2 hq) fun r s' hq'=>?_))
 cases r with
 |error e=>exact hx lC σ _ _ e s' I2 hq'
 |ok fl=>
  cases fl with
  |ret u=>
   obtain⟨v,H',I3,rv,ev,q3⟩:=I2.after hq';subst ev;exact⟨rv,⟨V.ref (s.heap.objs.size+1),H',I3,rfl,q3⟩⟩
  |next=>exact False.elim hq'
  |brk=>exact False.elim hq'
  |cont=>exact False.elim hq'
theorem zM(M:Mk X.K C f)(F:Ye X.prog X.w X.K X.mg X.base CX k f fd ps sp)(hr:Xx (k+1) X.A)(hg:Gl X x)(hm:X.mg x=some (.ref C))(hb:ZT X.K fd ps ds)(hd:ZP dvs ds)(hx:UC CX X E)
  (ha:PA X (e::es) t) (hdb:(x==("__debug__" : Str))=false:=by decide) (he:starEach (e::es) X.env=(false,eval e X.env)::starEach es X.env:=by rfl) (hpl:(backTo pos (starEach es X.env)).any (·.1)=false:=by rfl) :
  PE X (.Call (.Name x p) (e::es) [] pos) (tMake C sp dvs E t):=by
 intro lC s σ H Q I h;refine p6 (jl I hg hm ?_ hdb);refine W.callWith_K (h₀:=X.base) I.ok.mod.kin M.kp (thn (ha pos lC s σ H _ I h) fun us s1 ⟨vs,H1,I1,r,q⟩=>⟨I1.kIn,?_⟩) he hpl;exact run_make M F hr hb hd hx I1 r q
end
section
variable{X:Cx}{CX:CXT}{k:Nat}{f C:Addr}{fd:FuncData}{ps ks:List Str}{sp:Sp}{E:XK}{x m:Str}{p pos apos kpos:Pos}{e o:Expr}{es:List Expr}{kws:List Keyword}{te ta:TE}{t tk:TA}{nm:Option Str}
variable{g:List Value->List Value->List Value}{gV:List V->List V->List V}
end
structure ZH(N P:List Str)(sc:Scope):Prop where
 kind:sc.kind=.function
 co:sc.isCoroutine=false
 gen:sc.isGenerator=false
 nd:N.Nodup
 pre:N.take P.length=P
 par:∀x∈P,sc.names.lookup x=some .local\/sc.names.lookup x=some .cell
 nofree:∀y∈sc.names,y.2≠.free
theorem xO{kindOf:Str->Option NameKind}{x:Str}:∀{binds:List (Str×Value)}{m:Str->Option Value},(∀v,(x,v)∉binds)->bindL kindOf binds m x=m x
 |[],_,_=>rfl
 | (n,v)::r,m,h=>by
  unfold bindL;rw[xO fun w hw=>h w (oe _ hw)]
  split
  ·have:x≠n:=by rintro rfl;exact h v pi
   simp[this]
  ·rfl
theorem xL{kindOf:Str->Option NameKind}{x:Str}:∀{binds:List (Str×Value)}{m:Str->Option Value},(∀v,(x,v)∉binds)->bindC kindOf binds m x=m x
 |[],_,_=>rfl
 | (n,v)::r,m,h=>by
  unfold bindC;rw[xL fun w hw=>h w (oe _ hw)]
  split
  ·rfl
  ·have:x≠n:=by rintro rfl;exact h v pi
   simp[this]
theorem xT{kindOf:Str->Option NameKind}{x:Str}{v:Value}:∀{P:List Str}{vs:List Value}{i:Nat}{m:Str->Option Value},P.Nodup->P[i]?=some x->vs[i]?=some v->kindOf x=some .local ->
  bindL kindOf (P.zip vs) m x=some v
 |[],_,_,_,_,h,_,_=>by simp at h
 |_::_,[],_,_,_,_,h,_=>by simp at h
 |p::P,w::vs,0,m,nd,h1,h2,hk=>by
  simp at h1 h2;subst h1;subst h2
  show bindL kindOf ((p,w)::P.zip vs) m p=_
  unfold bindL;rw[xO fun v hv=>(oX.mp nd).1 (List.of_mem_zip hv).1,if_pos hk];simp
 |p::P,w::vs,i+1,m,nd,h1,h2,hk=>by
  show bindL kindOf ((p,w)::P.zip vs) m x=_
  unfold bindL;exact xT (i:=i) (oX.mp nd).2 (by simpa using h1) (by simpa using h2) hk
theorem xi{kindOf:Str->Option NameKind}{x:Str}{v:Value}:∀{P:List Str}{vs:List Value}{i:Nat}{m:Str->Option Value},P.Nodup->P[i]?=some x->vs[i]?=some v->kindOf x≠some .local ->
  bindC kindOf (P.zip vs) m x=some v
 |[],_,_,_,_,h,_,_=>by simp at h
 |_::_,[],_,_,_,_,h,_=>by simp at h
 |p::P,w::vs,0,m,nd,h1,h2,hk=>by
  simp at h1 h2;subst h1;subst h2
  show bindC kindOf ((p,w)::P.zip vs) m p=_
  unfold bindC;rw[xL fun v hv=>(oX.mp nd).1 (List.of_mem_zip hv).1,if_neg hk];simp
 |p::P,w::vs,i+1,m,nd,h1,h2,hk=>by
  show bindC kindOf ((p,w)::P.zip vs) m x=_
  unfold bindC;exact xi (i:=i) (oX.mp nd).2 (by simpa using h1) (by simpa using h2) hk
def start(N:List Str)(vs:List V):St:=vs.map some++List.replicate (N.length-vs.length) none
def cxOf(CX:CXT)(P:Program)(w:World)(K:W.Frag)(mg:Str->Option Value)(base:Heap)(N:List Str)(qual:Str)(scope:Scope)(f:Addr)(cd:Value)(A:Around)(outer:List Env)(s:Shared)(H:Hp)(E:XK):Cx where
 prog:=P
 w:=w
 K:=K
 mg:=mg
 base:=base
 A:=A.deeper (envOfC qual scope s.heap.objs.size f cd)
 N:=N
 s₀:=s
 H₀:=H
 env:=envOfC qual scope s.heap.objs.size f cd
 outer:=outer
 stack:=envOfC qual scope s.heap.objs.size f cd::outer
 ex:=[]
 calm:=true
 fn:=fun _=>true
 pn:=[]
 xe:=fun e s'=>wpAny (model P w) (A.deeper (envOfC qual scope s.heap.objs.size f cd)) (leaving (envOfC qual scope s.heap.objs.size f cd) e) (fun _ s''=>CX outer H s E e s'') (fun e' s''=>CX outer H s E e' s'') s'
theorem jX{sc:Scope}{n:Nat}{x:Str}(h:sc.names.lookup x=some .cell):∃c,(cellsFrom n sc.names []).lookup x=some c:=by
 have q:=W.cellsFrom_some sc.names n [] (.inl h);exact rG.mp q
theorem inv_start{CX:CXT}{P:Program}{w:World}{K:W.Frag}{mg:Str->Option Value}{base:Heap}{N ps:List Str}{qual:Str}{scope:Scope}{f:Addr}{cd:Value}{A:Around}{outer:List Env}{s s1:Shared}{H:Hp}{E:XK}{us:List Value}{vs:List V}
  (S:ZH N ps scope) (hd:A.handled=none) (e0:Env0 P w K mg base A outer s H) (hl:vs.length=ps.length) (r:ZP vs us)
  (x:InCallC s s.heap.objs.size (bindL (envOfC qual scope s.heap.objs.size f cd).kindOf (ps.zip us) fun _=>none) (cellsFrom (s.heap.objs.size+1) scope.names []) (bindC (envOfC qual scope s.heap.objs.size f cd).kindOf (ps.zip us) fun _=>none) s1) :
  Inv (cxOf CX P w K mg base N qual scope f cd A outer s H E) [] (start N vs) H s1:=by
 have hpl:ps.length<=N.length:=by have:=ni List.length S.pre;rw[nW] at this;omega
 obtain⟨h1,tk,rfl,hk⟩:=x.done;have noA:∀b:Addr,b∉(cxOf CX P w K mg base N qual scope f cd A outer s H E).ex:=fun b z=>absurd (show b∈([]:List Addr) from z) (by simp);refine⟨⟨e0.mod,S.kind,rfl,rfl,mP _,fun y z c h1 h2=>?_,fun y hy=>?_,fun y c _ h=>?_,fun _=>hd,Around.frames_deeper e0.frames,.inr ⟨rfl,rfl⟩,fun b z=>absurd z (noA b),e0.bs,e0.bsz,fun b _ _=>noA b,fun b z=>absurd z (noA b),e0.funs,e0.frf⟩,
  rfl,e0.bare,Un.kept hk,⟨_,x.toInCall.ns,fun i y v h1 h2 h3=>?_⟩,fun y c h=>⟨_,x.cell y c h⟩,e0.hok.fresh (mP _),fun y c h=>?_,fun p hp=>absurd (show p∈([]:List (Addr×Obj)) from hp) (by simp),e0.hok.kept hk,?_⟩
 ·exact name_of_addr x.apart (nM h1) (nM h2)
 ·have hy:scope.names.lookup y=some .cell\/scope.names.lookup y=some .free:=hy;rcases hy with hy|hy
  ·exact jX hy
  ·exact absurd rfl (S.nofree _ (nM hy))
 ·exact Nat.le_of_lt (x.above y c (nM h))
 ·have hi:i<vs.length:=by
   unfold start at h2
   by_cases hi:i<vs.length
   ·exact hi
   ·rw[pG (by simpa using hi)] at h2;rw[List.getElem?_replicate] at h2
    split at h2<;>cases h2
  have ha:vs[i]?=some v:=by
   unfold start at h2;rw[oK (by simpa using hi),mU] at h2;cases e:vs[i]? with
   |none=>rw[e] at h2;cases h2
   |some a=>rw[e] at h2;cases h2;rfl
  obtain⟨u,hu,rv⟩:=r.get ha;have hp:ps[i]?=some y:=by
   rw[<- S.pre,List.getElem?_take_of_lt (by omega)];exact h1
  have ndP:ps.Nodup:=by rw[<- S.pre];exact S.nd.sublist (pH _ _)
  refine⟨u,rv,?_⟩;rcases S.par y (om hp) with k|k
  ·exact .inl ⟨k,xT ndP hp hu k⟩
  ·obtain⟨c,e⟩:=jX (n:=s.heap.objs.size+1) k;refine .inr ⟨.inl k,c,e,?_⟩;have q:=x.cell y c e;rw[xi ndP hp hu (by show scope.names.lookup y≠_;rw[k];decide)] at q;exact q
 ·exact e0.hok.fresh (Nat.le_of_lt (x.above y c (nM h)))
 ·unfold start
  show _=N.length
  rw[mT,mM,List.length_replicate];omega
theorem fn_of{CX:CXT}{P:Program}{w:World}{K:W.Frag}{mg:Str->Option Value}{base:Heap}{k:Nat}{f:Addr}{name qual:Str}{params:Arguments}{body:List Stmt}{scope:Scope}{dV kV doc pm lD ct oc:Value}{an od:Option Addr}
  {osl:Array (Option Value)}{N ps:List Str}{sp:Sp} (lk:K.lookup f=some ⟨oc,od,.func (W.fnOf name qual params body scope dV kV doc pm an lD ct),osl⟩) (hcd:W.codeIn K lD qual=true) (S:ZH N ps scope)
  (len:∀vs H Q E,sp vs H Q E->vs.length=ps.length)
  (hbody:∀(A:Around) (outer:List Env) (s:Shared) (H:Hp) (vs:List V) (Q:VK) (E:XK),Xx k (A.deeper (envOfC qual scope s.heap.objs.size f lD))->sp vs H Q E ->
   ∃t,PSs (cxOf CX P w K mg base N qual scope f lD A outer s H E) body t/\t { nx:=fun _ H'=>Q .non H',rt:=Q } (start N vs) H) :
  Ye P w K mg base CX (k+1) f (W.fnOf name qual params body scope dV kV doc pm an lD ct) ps sp:=by
 refine⟨len,fun A outer s H args us vs Q E hr e0 hb r hsp=>?_⟩;have hl:=len _ _ _ _ hsp;have KX:K.In s.heap:=e0.mod.kin.keeps fun b o e=>(e0.bs b o e).1;have lim:s.heap.NoLimit:=e0.mod.nolimit.keeps fun b o e=>(e0.bs b o e).1;have hkind:∀y∈ps.zip us,scope.names.lookup y.1=some .local\/(scope.names.lookup y.1=some .cell/\((cellsFrom (s.heap.objs.size+1) scope.names []).lookup y.1).isSome=true):=fun⟨n,v⟩ hy=>by
  rcases S.par n (List.of_mem_zip hy).1 with q|q
  ·exact .inl q
  ·exact .inr ⟨q,W.cellsFrom_some _ _ _ (.inl q)⟩
 refine codeAny_call_function hr.depth (KX _ _ lk) rfl S.co S.gen rfl (W.codeRec_of KX hcd) (hb _ _ _ _ ?_);refine wpAny_newFunctionEnv_cells S.kind hkind fun env he s1 x=>?_;subst he;refine⟨lim.keeps x.toInCall.keep,codeAny_func ?_⟩;obtain⟨t,ht,hq⟩:=hbody A outer s H vs Q E (hr.deeper _) hsp;have I:Inv (cxOf CX P w K mg base N qual scope f lD A outer s H E) [] (start N vs) H s1:=inv_start S hr.hd e0 hl r x;refine oj (ht [] s1 (start N vs) H _ I hq) (fun fl s' hs=>?_) fun e s' hs=>hs;have fin:∀{σ':St}{H':Hp}{v:V}{u:Value},Inv (cxOf CX P w K mg base N qual scope f lD A outer s H E) [] σ' H' s'->Z1 v u->Q v H'->CE outer P w H s Q u s':=
  fun {σ' H' v u} J rv q=>⟨v,H',J.os,J.bare,J.base,J.hok,rv,q⟩
 cases fl with
 |ret u=>
  obtain⟨v,σ',H',J,rv,q⟩:=hs;exact fin J rv q
 |next=>
  obtain⟨σ',H',J,q⟩:=hs;exact fin (v:=V.non) (u:=Value.none) J rfl q
 |brk=>
  obtain⟨_,_,_,q⟩:=hs;exact False.elim q
 |cont=>
  obtain⟨_,_,_,q⟩:=hs;exact False.elim q
section
variable{X:Cx}{x:Str}{p pos:Pos}{e:Expr}{es:List Expr}{t:TA}{id T:String}{r:List V->Hp->VK->Prop}
def tCB(r:List V->Hp->VK->Prop)(t:TA):TE:=fun σ H Q=>t σ H fun vs H1=>r vs H1 Q
theorem Zm(hc:YB X (.builtin id) r)(hg:Gl X x)(hm:X.mg x=none)(hv:bootBuiltins x=some (.builtin id))(ha:PA X (e::es) t)(hn:x ≠ "__name__" := by decide)(hdb:(x==("__debug__" : Str))=false:=by decide)
  (he:starEach (e::es) X.env=(false,eval e X.env)::starEach es X.env:=by rfl) (hpl:(backTo pos (starEach es X.env)).any (·.1)=false:=by rfl):PE X (.Call (.Name x p) (e::es) [] pos) (tCB r t):=by
 intro lC s σ H Q I h;refine p6 (yf I hg hm hv ?_ hn hdb);exact PyProof.Rows.callWith_builtin1 (thn (ha pos lC s σ H _ I h) fun us s1 ⟨vs,H1,I1,r1,q1⟩=>hc lC s1 σ H1 vs us Q I1 r1 q1) he hpl
theorem ZQ(hc:YB X (.type T) r)(hg:Gl X x)(hm:X.mg x=none)(hv:bootBuiltins x=some (.type T))(ha:PA X (e::es) t)(hn:x ≠ "__name__" := by decide)(hdb:(x==("__debug__" : Str))=false:=by decide)
  (he:starEach (e::es) X.env=(false,eval e X.env)::starEach es X.env:=by rfl) (hpl:(backTo pos (starEach es X.env)).any (·.1)=false:=by rfl):PE X (.Call (.Name x p) (e::es) [] pos) (tCB r t):=by
 intro lC s σ H Q I h;refine p6 (yf I hg hm hv ?_ hn hdb);exact rE (thn (ha pos lC s σ H _ I h) fun us s1 ⟨vs,H1,I1,r1,q1⟩=>hc lC s1 σ H1 vs us Q I1 r1 q1) he hpl
end
end L2
namespace HT
open PySem PyProof.Rows
section
open PySem.SeqAt
open PySem.AutoSeq1 (wpAny_loadPart')
open PySem.MeetsSeq PySem.MeetsSeq2 PySem.MeetsSeq3
end
section
variable{prog:Program}{w:World}{A:Around}{E:Value->Shared->Prop}{s:Shared}
theorem cat_tup{t b:Addr}{vs ws:List Value}{Q:Value->Shared->Prop}(ht:IsTup s.heap t vs.toArray)(hb:IsTup s.heap b ws.toArray)(hv:vs≠[])
  (h1:ws=[]->Q (.ref t) s) (h2:ws≠[]->Q (.ref s.heap.objs.size) { s with heap:=s.heap.push { cls:=.type "tuple",data:=.seq (vs++ws).toArray } })
  (hsz:vs.length+ws.length<=sizeLine):wpAny (model prog w) A (binaryOp .Add (.ref t) (.ref b)) Q E s:=by
 obtain⟨⟨cls,dd,data,sl⟩,ho,hc,n,hd⟩:=id ht;obtain⟨⟨cls2,dd2,data2,sl2⟩,ho2,hc2,n2,hd2⟩:=id hb;simp only at hc hd hc2 hd2;subst hc hd hc2 hd2;have e:vs.toArray++ws.toArray=(vs++ws).toArray:=by simp
 by_cases hw:ws=[]
 ·exact concat_meets ⟨_,ho,rfl⟩ ⟨_,ho2,rfl⟩ noFill_tuple_add seq_tuple_add PySem.F.slot_tuple_add PySem.F.entry_tuple_add (PySem.F.args_tuple_add_2 _ _)
   (tuple_addW1 t b vs.toArray ws.toArray n n2 dd dd2 sl sl2 (by simpa using hv) (by simp[hw])) ⟨ho,ho2,h1 hw⟩
 ·refine concat_meets ⟨_,ho,rfl⟩ ⟨_,ho2,rfl⟩ noFill_tuple_add seq_tuple_add PySem.F.slot_tuple_add PySem.F.entry_tuple_add (PySem.F.args_tuple_add_2 _ _)
   (tuple_addW2 t b vs.toArray ws.toArray n n2 dd dd2 sl sl2 (by simpa using hv) (by simpa using hw) (by rw[m7,m7];exact hsz)) ⟨ho,ho2,?_⟩
  rw[e];exact h2 hw
def sIx(n d:Nat):Option Int->Nat
 |none=>d
 |some v=>if v<0 then(v+(n:Int)).toNat else min v.toNat n
theorem sIx_none(n d:Nat):sIx n d none=d:=rfl
theorem sIx_nat(n d k:Nat):sIx n d (some (k:Int))=min k n:=by
 show(if(k:Int)<0 then((k:Int)+(n:Int)).toNat else min (k:Int).toNat n)=min k n
 rw[if_neg (by omega),mY]
theorem sIx_le(n d:Nat)(hd:d<=n)(o:Option Int):sIx n d o<=n:=by
 cases o with
 |none=>exact hd
 |some v=>
  show(if v<0 then(v+(n:Int)).toNat else min v.toNat n)<=n
  by_cases hv:v<0
  ·rw[if_pos hv];omega
  ·rw[if_neg hv];exact Nat.min_le_right _ _
theorem clip_eq(v:Int)(n d:Nat):(if v<0 then max (v+(n:Int)) 0 else min v (n:Int))=((sIx n d (some v):Nat):Int):=by
 show(if v<0 then max (v+(n:Int)) 0 else min v (n:Int))=(((if v<0 then(v+(n:Int)).toNat else min v.toNat n):Nat):Int)
 by_cases hv:v<0
 ·simp only[if_pos hv];omega
 ·simp only[if_neg hv];omega
theorem kJ(lo hi:Option Int)(n:Nat):Builtin.Slice.sliceAdjust lo hi 1 (n:Int)=(((sIx n 0 lo:Nat):Int),((sIx n n hi:Nat):Int)):=by
 have h1:¬((1:Int)<0):=by omega
 unfold Builtin.Slice.sliceAdjust;simp only[h1,oM];refine Prod.ext ?_ ?_
 ·cases lo with
  |none=>rfl
  |some v=>exact clip_eq v n 0
 ·cases hi with
  |none=>rfl
  |some v=>exact clip_eq v n n
theorem kO(i j:Nat):Builtin.Slice.slicePlaces (i:Int) (j:Int) 1=j-i:=by
 unfold Builtin.Slice.slicePlaces;have h1:(1:Int)>0:=by omega
 simp only[h1,if_true,Int.ediv_one]
 split<;>omega
theorem yo{v:Value}{o:Option Int}{Q:Option Int->Shared->Prop}(p:IsPart v o)(h:Q o s):wpAny (model prog w) A (Builtin.Slice.slicePartIndex v) Q E s:=by
 cases p with
 |none=>exact slicePart_none h
 |int i t=>exact slicePart_int h
theorem qR{sl:Addr}{vl vu:Value}{lo hi:Option Int}{n:Nat}{Q:Int×Int×Nat->Shared->Prop}(hs:s.heap.IsSliceOf sl vl vu .none)(pl:IsPart vl lo)(pu:IsPart vu hi)
  (h:Q (((sIx n 0 lo:Nat):Int),1,sIx n n hi-sIx n 0 lo) s):wpAny (model prog w) A (Builtin.Slice.sliceApplied (.ref sl) (pure (n:Int))) Q E s:=by
 obtain⟨os,hos,hcs,hds⟩:=id hs;unfold Builtin.Slice.sliceApplied Builtin.Slice.sliceFields;refine mL (mL (pq hos hds (x:=vl) rfl (mL (pq hos hds (x:=vu) rfl (mL (pq hos hds (x:=.none) rfl (mQ ?_)))))));refine mL (slicePart_none ?_)
 show wpAny _ _ (if((1:Int)==0)=true then _ else _) _ _ s
 rw[if_neg (by decide)];refine mL (yo pl (mL (yo pu (mL (mQ ?_)))))
 show wpAny _ _ (match Builtin.Slice.sliceAdjust lo hi 1 (n:Int) with|(lo,hi)=>pure (lo,(1:Int),Builtin.Slice.slicePlaces lo hi 1)) _ _ s
 rw[kJ lo hi n]
 show wpAny _ _ (pure (((sIx n 0 lo:Nat):Int),(1:Int),Builtin.Slice.slicePlaces ((sIx n 0 lo:Nat):Int) ((sIx n n hi:Nat):Int) 1)) _ _ s
 rw[kO];exact mQ h
theorem pick_gen(xs:Array Value)(i k:Nat):((List.range k).filterMap fun(m:Nat)=>xs[((i:Int)+(m:Int)*1).toNat]?).toArray=((xs.toList.drop i).take k).toArray:=by
 have e:(fun(m:Nat)=>xs[((i:Int)+(m:Int)*1).toNat]?)=fun m=>xs[i+m]?:=by
  funext m
  have:((i:Int)+(m:Int)*1).toNat=i+m:=by omega
  rw[this]
 rw[e];have:=pick_run xs i k;rw[List.filterMap_map] at this;have e2:((fun x=>xs[x]?)∘fun x=>i+x)=fun m=>xs[i+m]?:=rfl;rw[e2] at this;rw[this]
theorem getItem_tuple_cut{t sl:Addr}{items:Array Value}{vl vu:Value}{lo hi:Option Int}{Q:Value->Shared->Prop}(ht:IsTup s.heap t items)(hs:s.heap.IsSliceOf sl vl vu .none)(pl:IsPart vl lo)(pu:IsPart vu hi)
  (hw:¬(sIx items.size 0 lo=0/\sIx items.size items.size hi=items.size))
  (h:Q (.ref s.heap.objs.size) { s with heap:=s.heap.push { cls:=.type "tuple",data:=.seq ((items.toList.drop (sIx items.size 0 lo)).take (sIx items.size items.size hi-sIx items.size 0 lo)).toArray } })
  (hsz:items.size<=sizeLine):wpAny (model prog w) A (getItem (.ref t) (.ref sl)) Q E s:=by
 have htake:sizeOk (.seq ((items.toList.drop (sIx items.size 0 lo)).take (sIx items.size items.size hi-sIx items.size 0 lo)).toArray):=by
  show((items.toList.drop (sIx items.size 0 lo)).take (sIx items.size items.size hi-sIx items.size 0 lo)).toArray.size<=sizeLine
  rw[m7,nW,pw,oV];omega
 have hj:sIx items.size items.size hi<=items.size:=sIx_le _ _ (mP _) hi;obtain⟨os,hos,hcs,hds⟩:=id hs;have hTs:s.TypeIs (.ref sl) "slice" := ⟨os,hos,hcs⟩;unfold getItem
 try with_reducible refine oo ?_
 first|refine mL (mQ ?_)|skip
 refine mL (wpAny_sequenceKey ht.typeIs (by decide) ?_);refine mL (rH (name:=Str.ofString "__getitem__") ht.typeIs rJ
  (px rJ ht.typeIs entry_tuple_getitem ?_ (args_tuple_getitem _ _)))
 show wpAny _ _ (Builtin.Tuple.tupleItemsOf (.ref t) >>= _) _ _ s
 refine mL (tupleItemsOf_ ht ?_);refine mL (wpAny_typeOf hTs ?_);rw[if_pos (by decide)];refine mL (qR hs pl pu ?_);have hno:¬((((sIx items.size 0 lo:Nat):Int)==0&&(1:Int)==1&&(sIx items.size items.size hi-sIx items.size 0 lo)==items.size)=true):=by
  intro q;rw[m8,m8] at q;have q1:((sIx items.size 0 lo:Nat):Int)=0:=eq_of_beq q.1.1;have q2:sIx items.size items.size hi-sIx items.size 0 lo=items.size:=eq_of_beq q.2;exact hw ⟨by omega,by omega⟩
 show wpAny _ _ (if(((sIx items.size 0 lo:Nat):Int)==0&&(1:Int)==1&&(sIx items.size items.size hi-sIx items.size 0 lo)==items.size)=true then _ else _) _ _ s
 rw[if_neg hno,pick_gen]
 first
  |exact mL (m:=Builtin.Tuple.tupleExact _) (oE (mQ ⟨_,rfl,mQ h⟩) htake)
  |exact mL (m:=Builtin.Tuple.tupleExact _) (oE (mL (mQ (mQ ⟨_,rfl,mQ h⟩))) htake)
  |exact mL (mL (m:=Builtin.Tuple.tupleExact _) (oE (mQ (mQ ⟨_,rfl,mQ h⟩)) htake))
  |exact mL (mL (m:=Builtin.Tuple.tupleExact _) (oE (mQ ⟨_,rfl,mQ h⟩) htake))
end
end HT
namespace L2
open PySem PySem.Spec PyProof.Rows
abbrev TO:=St->Hp->(Option Int->Hp->Prop)->Prop
def PO(X:Cx)(e:Option Expr)(t:TO):Prop:=
 ∀(lC:List (Addr×Obj)) (s:Shared) (σ:St) (H:Hp) (Q:Option Int->Hp->Prop),Inv X lC σ H s->t σ H Q ->
  wpAny (model X.prog X.w) X.A (evalPart e X.env) (fun u s'=>∃o H',Inv X lC σ H' s'/\IsPart u o/\Q o H') X.xe s
def tNoPart:TO:=fun _ H Q=>Q none H
inductive PartR(x:V)(H:Hp)(Q:Option Int->Hp->Prop):Prop
 |mk (i:Int) (h:x=.int i) (k:Q (some i) H):PartR x H Q
def tPart(t:TE):TO:=fun σ H Q=>t σ H fun x H1=>PartR x H1 Q
theorem UG{ns:List Int}:∀{us:List Value},ZP (ns.map V.int) us->IntsAre us ns:=by
 induction ns with
 |nil=>intro us r;rw[nO] at r;cases r;exact .nil
 |cons n ns ih=>
  intro us r;rw[mV] at r;cases r with
  |cons r1 r2=>
   obtain⟨t,e⟩:=r1;subst e;exact .cons n t (ih r2)
section
variable{X:Cx}{e:Expr}{te:TE}{lo hi:Option Expr}{tl th:TO}{pos p2:Pos}
theorem qh:PO X none tNoPart:=by
 intro lC s σ H Q I h;rw[evalPart_none];exact mQ ⟨none,H,I,.none,h⟩
theorem Vt(h:PE X e te):PO X (some e) (tPart te):=by
 intro lC s σ H Q I hw;rw[evalPart_some];refine thn (h lC s σ H _ I hw) fun u s1 ⟨x,H1,I1,r1,q1⟩=>?_;obtain⟨i,rfl,q⟩:=q1;obtain⟨t,rfl⟩:=r1;exact⟨some i,H1,I1,.int i t,q⟩
def SlR(X:Cx)(r:V->Option Int->Option Int->Hp->VK->Prop):Prop:=
 ∀(lC:List (Addr×Obj)) (s:Shared) (σ:St) (H:Hp) (x:V) (v vl vu:Value) (lo hi:Option Int) (sl:Addr) (Q:VK),Inv X lC σ H s->Z1 x v->s.heap.IsSliceOf sl vl vu .none->IsPart vl lo->IsPart vu hi->r x lo hi H Q ->
  ∃T id,typeLookup (.type T) "__getitem__" = pure (some (.builtin id))/\s.TypeIs v T/\wpAny (model X.prog X.w) X.A (getItem v (.ref sl)) (EP X lC σ Q) X.xe s
def tSl(r:V->Option Int->Option Int->Hp->VK->Prop)(te:TE)(tl th:TO):TE:=fun σ H Q=>te σ H fun x H1=>tl σ H1 fun l H2=>th σ H2 fun u H3=>r x l u H3 Q
theorem Uc{r:V->Option Int->Option Int->Hp->VK->Prop}(hr:SlR X r)(he:PE X e te)(hl:PO X lo tl)(hu:PO X hi th):PE X (.Subscript e (.Slice lo hi none p2) pos) (tSl r te tl th):=by
 intro lC s σ H Q I h;refine Subscript_ (thn (he lC s σ H _ I h) fun v s1 ⟨x,H1,I1,r1,q1⟩=>?_);refine wpAny_Slice (thn (hl lC s1 σ H1 _ I1 q1) fun vl s2 ⟨l,H2,I2,pl,q2⟩=>thn (hu lC s2 σ H2 _ I2 q2) fun vu s3 ⟨u,H3,I3,pu,q3⟩=>?_);rw[evalPart_none];refine mQ ?_;have I4:Inv X lC σ H3 { s3 with heap:=s3.heap.push { cls:=.type "slice",data:=.fields #[vl,vu,.none] } }:=I3.kept (t':=s3.toks) fun b ob q=>m4 _ q;obtain⟨T,id,hT,ht,hg⟩:=hr lC { s3 with heap:=s3.heap.push { cls:=.type "slice",data:=.fields #[vl,vu,.none] } } σ H3 x v vl vu l u s3.heap.objs.size Q I4 r1 (Heap.IsSliceOf.new ..) pl pu q3
 show wpAny (model X.prog X.w) X.A (subscriptTail e (.Slice lo hi none p2) v (.ref s3.heap.objs.size)) (EP X lC σ Q) X.xe { s3 with heap:=s3.heap.push { cls:=.type "slice",data:=.fields #[vl,vu,.none] } }
 exact tail_any (ops:=[.ref s3.heap.objs.size,v]) ht hT hg (by with_unfolding_all rfl)
def qm(xs:List V)(lo hi:Option Int):List V:=(xs.drop (HT.sIx xs.length 0 lo)).take (HT.sIx xs.length xs.length hi-HT.sIx xs.length 0 lo)
theorem zm(xs:List V)(lo hi:Option Int):(qm xs lo hi).length<=xs.length:=by
 unfold qm;rw[nW,pw];omega
inductive rSlT_R(K:W.Frag)(x:V)(lo:Option Int)(hi:Option Int)(H:Hp)(Q:VK):Prop
 |mk (a:_) (xs:_) (h0:x=.ref a) (h1:SqT K H a xs) (h2:¬(HT.sIx xs.length 0 lo=0/\HT.sIx xs.length xs.length hi=xs.length)) (h3:∀p,H p=none->Q (.ref p) (upd H p (.tup (qm xs lo hi)))):rSlT_R K x lo hi H Q
def rSlT(K:W.Frag):V->Option Int->Option Int->Hp->VK->Prop:=fun x lo hi H Q=>rSlT_R K x lo hi H Q
theorem sl_tup:SlR X (rSlT X.K):=by
 intro lC s σ H x v vl vu lo hi sl Q I rx hs pl pu h;obtain⟨a,xs,rfl,hx,hw,q⟩:=h;cases rx;obtain⟨its,r,ht,hz⟩:=I.tuple hx;have hlen:its.toArray.size=xs.length:=by rw[m7];exact r.length.symm
 refine⟨"tuple",_,rJ.lookup,ht.typeIs,?_⟩;refine HT.getItem_tuple_cut ht hs pl pu (by rw[hlen];exact hw) ?_ (by rw[hlen];exact hz);rw[hlen];refine⟨.ref s.heap.objs.size,_,I.laid (t':=s.toks) (o:=.tup (qm xs lo hi)) (fun b ob q=>m4 _ q) (mP _) ?_,rfl,q _ (I.hok.fresh (mP _))⟩;exact⟨nQ (zm xs lo hi) hz,_,(r.drop (HT.sIx xs.length 0 lo)).take (HT.sIx xs.length xs.length hi-HT.sIx xs.length 0 lo),IsTup.new _ _⟩
inductive rCatT_R(K:W.Frag)(x:V)(y:V)(H:Hp)(Q:VK):Prop
 |mk (a:_) (b:_) (xs:_) (ys:_) (h0:x=.ref a) (h1:y=.ref b) (h2:SqT K H a xs) (h3:SqT K H b ys) (h4:xs≠[]) (h5:xs.length+ys.length<=sizeLine) (h6:(ys=[]->Q (.ref a) H)) (h7:(ys≠[]->∀p,H p=none->Q (.ref p) (upd H p (.tup (xs++ys))))):rCatT_R K x y H Q
def rCatT(K:W.Frag):R2:=fun x y H Q=>rCatT_R K x y H Q
theorem ZP.nil_iff{xs:List V}{us:List Value}(r:ZP xs us):us=[]↔xs=[]:=by
 cases r with
 |nil=>simp
 |cons _ _=>simp
theorem op_catT:OpR X (binaryOp .Add) (rCatT X.K):=by
 intro lC s σ H x y v u Q I rx ry h;obtain⟨a,b,xs,ys,rfl,rfl,ha,hb,hx,hz,q1,q2⟩:=h;cases rx;cases ry;obtain⟨its,r1,p1,_⟩:=I.tuple ha;obtain⟨its2,r2,p2,_⟩:=I.tuple hb;refine HT.cat_tup p1 p2 (fun z=>hx (r1.nil_iff.mp z)) (fun z=>⟨.ref a,H,I,rfl,q1 (r2.nil_iff.mp z)⟩) (fun z=>?_) (by rw[<- r1.length,<- r2.length];exact hz);refine⟨.ref s.heap.objs.size,_,I.laid (t':=s.toks) (o:=.tup (xs++ys)) (fun b ob q=>m4 _ q) (mP _) ?_,rfl,q2 (fun w=>z (r2.nil_iff.mpr w)) _ (I.hok.fresh (mP _))⟩;exact⟨by rw[mT];exact hz,_,r1.append r2,IsTup.new _ _⟩
end
def ixN(n:Nat)(i:Int):Option Nat:=if 0<=i then(if i<n then some i.toNat else none) else if -(n:Int)<=i then some (i+n).toNat else none
def atI{α:Type}(xs:List α)(i:Int):Option α:=(ixN xs.length i).bind fun j=>xs[j]?
theorem ixN_seq{n:Nat}{i:Int}{j:Nat}(h:ixN n i=some j):seqIndex? i n=some j/\j<n/\-(n:Int)<=i/\i<n:=by
 unfold ixN at h
 by_cases h0:0<=i
 ·rw[if_pos h0] at h
  by_cases h1:i<n
  ·rw[if_pos h1] at h;have e:i.toNat=j:=nv h;exact⟨by rw[seqIndex_of h0 h1,e],by omega,by omega,h1⟩
  ·rw[if_neg h1] at h;cases h
 ·rw[if_neg h0] at h
  by_cases h1:-(n:Int)<=i
  ·rw[if_pos h1] at h;have e:(i+n).toNat=j:=nv h;exact⟨by rw[seqIndex_neg (by omega) h1,e],by omega,h1,by omega⟩
  ·rw[if_neg h1] at h;cases h
theorem jq{α:Type}{xs:List α}{i:Int}{v:α}(h:atI xs i=some v):∃j,seqIndex? i xs.length=some j/\xs[j]?=some v/\j<xs.length/\-(xs.length:Int)<=i/\i<xs.length:=by
 unfold atI at h;cases e:ixN xs.length i with
 |none=>rw[e] at h;cases h
 |some j=>
  rw[e] at h;obtain⟨h1,h2,h3,h4⟩:=ixN_seq e;exact⟨j,h1,h,h2,h3,h4⟩
theorem Zt{α:Type}{xs:List α}{j:Nat}{v:α}(h:xs[j]?=some v):atI xs (j:Int)=some v:=by
 have hj:j<xs.length:=(nT.mp h).1;have e:ixN xs.length (j:Int)=some j:=by
  unfold ixN;rw[if_pos (by omega),if_pos (by omega)];simp
 unfold atI;rw[e];exact h
def PlainIx(b:Expr):Prop:=∀o i,subscripted b false o i=operate [o,i] (getItem o i)
def IxR(X:Cx)(r:R2):Prop:=
 ∀(value slice:Expr) (lC:List (Addr×Obj)) (s:Shared) (σ:St) (H:Hp) (x y:V) (v u:Value) (Q:VK),Inv X lC σ H s->Z1 x v->Z1 y u->r x y H Q ->
  subscripted slice false v u=operate [v,u] (getItem v u)->wpAny (model X.prog X.w) X.A (subscriptTail value slice v u) (EP X lC σ Q) X.xe s
def MtR(X:Cx)(id:String)(r:V->List V->Hp->VK->Prop):Prop:=
 ∀(lC:List (Addr×Obj)) (s:Shared) (σ:St) (H:Hp) (x:V) (xs:List V) (v:Value) (us:List Value) (Q:VK),Inv X lC σ H s->Z1 x v->ZP xs us->r x xs H Q ->
  wpAny (model X.prog X.w) X.A (call (.builtin id) (v::us)) (EP X lC σ Q) X.xe s
section
variable{X:Cx}{a b:Expr}{ta tb:TE}{pos:Pos}
theorem Zn{r:R2}(hr:IxR X r)(ha:PE X a ta)(hb:PE X b tb)(hs:PlainIx b):PE X (.Subscript a b pos) (tOp r ta tb):=by
 intro lC s σ H Q I h;exact Subscript_ (binT ha hb I h fun v u s2 x y H2 I2 rx ry q=>hr a b lC s2 σ H2 x y v u Q I2 rx ry q (hs _ _))
inductive rIxL_R(K:W.Frag)(x:V)(y:V)(H:Hp)(Q:VK):Prop
 |mk (p:_) (xs:_) (i:_) (v:_) (h0:x=.ref p) (h1:y=.int i) (h2:SqL K H p xs) (h3:atI xs i=some v) (h4:Q v H):rIxL_R K x y H Q
def rIxL(K:W.Frag):R2:=fun x y H Q=>rIxL_R K x y H Q
inductive rIxT_R(K:W.Frag)(x:V)(y:V)(H:Hp)(Q:VK):Prop
 |mk (p:_) (xs:_) (i:_) (v:_) (h0:x=.ref p) (h1:y=.int i) (h2:SqT K H p xs) (h3:atI xs i=some v) (h4:Q v H):rIxT_R K x y H Q
def rIxT(K:W.Frag):R2:=fun x y H Q=>rIxT_R K x y H Q
inductive rIxS_R(x:V)(y:V)(H:Hp)(Q:VK):Prop
 |mk (z:_) (i:_) (c:_) (h0:x=.str z) (h1:y=.int i) (h2:z.length<=sizeLine) (h3:atI z.cps.toList i=some c) (h4:Q (.str ⟨#[c]⟩) H):rIxS_R x y H Q
def rIxS:R2:=fun x y H Q=>rIxS_R x y H Q
theorem ix_list:IxR X (rIxL X.K):=by
 intro value slice lC s σ H x y v u Q I rx ry h hs;obtain⟨p,xs,i,z,rfl,rfl,hq,he,q⟩:=h;cases rx;obtain⟨t,rfl⟩:=ry;obtain⟨its,r,pl,hz⟩:=I.list hq;obtain⟨j,h1,h2,h3,h4,h5⟩:=jq he;obtain⟨w,ew,rw'⟩:=r.get h2;have hl:=r.length;have hn:=qZ;have fin:EP X lC σ Q w s:=⟨z,H,I,rw',q⟩
 by_cases h0:0<=i
 ·have hj:i.toNat=j:=by
   rw[seqIndex_of h0 h5] at h1;exact nv h1
  exact item_listR pl.isList h0 (by omega) (by rw[hj];simpa using ew) fin hs
 ·have hj:(i+(its.toArray.size:Int)).toNat=j:=by
   rw[seqIndex_neg (by omega) h4] at h1;rw[m7,<- hl];exact nv h1
  exact subscriptTail_builtinR (x:=w) pl.isList.typeIs slot_list_getitem.lookup
   (wpAny_getItem_list_neg (Q:=fun r s'=>r=w/\EP X lC σ Q r s') pl.isList (by omega) (by rw[m7]<;>omega) (by omega) (by rw[hj];simpa using ew) ⟨rfl,fin⟩) hs
theorem ix_tup:IxR X (rIxT X.K):=by
 intro value slice lC s σ H x y v u Q I rx ry h hs;obtain⟨p,xs,i,z,rfl,rfl,hq,he,q⟩:=h;cases rx;obtain⟨t,rfl⟩:=ry;obtain⟨its,r,pl,hz⟩:=I.tuple hq;obtain⟨j,h1,h2,h3,h4,h5⟩:=jq he;obtain⟨w,ew,rw'⟩:=r.get h2;have hl:=r.length;have hn:=qZ;have fin:EP X lC σ Q w s:=⟨z,H,I,rw',q⟩;exact subscriptTail_builtinR (x:=w) pl.typeIs slot_tuple_getitem.lookup
  (getItem_tuple (j:=j) (Q:=fun r s'=>r=w/\EP X lC σ Q r s') pl (by omega) (by omega) (by rw[m7,<- hl];exact h1) (by simpa using ew) ⟨rfl,fin⟩) hs
theorem ix_str:IxR X rIxS:=by
 intro value slice lC s σ H x y v u Q I rx ry h hs;obtain⟨z,i,c,rfl,rfl,hz,he,q⟩:=h;obtain⟨t,rfl⟩:=rx;obtain⟨t',rfl⟩:=ry;obtain⟨j,h1,h2,h3,h4,h5⟩:=jq he;have hl:z.cps.toList.length=z.length:=by simp[Str.length]
 rw[hl] at h1 h4 h5;have hn:=qZ;exact tail_any (typeIs_str s z t) slot_str_getitem.lookup (getItem_str (c:=c) (by
  have e1:decide (i < -(2 ^ 63:Int))=false:=nH (by omega);have e2:decide (i≥2 ^ 63)=false:=nH (by omega);rw[e1,e2,Bool.or_false]) (by rw[h1];simpa using h2) ⟨.str ⟨#[c]⟩,H,I.tok _,⟨_,rfl⟩,q⟩) hs
theorem vS(lo hi:Option Int)(n:Nat):(sliceBounds lo hi none n).1=((HT.sIx n 0 lo:Nat):Int)/\(sliceBounds lo hi none n).2.1=((HT.sIx n n hi:Nat):Int)/\(sliceBounds lo hi none n).2.2=1:=by
 refine⟨?_,?_,rfl⟩
 ·cases lo with
  |none=>simp[sliceBounds,HT.sIx]
  |some i=>
   simp only[sliceBounds,HT.sIx,Option.getD_none,show(1:Int)>0 by decide,if_true]
   by_cases h:i<0
   ·simp only[h,if_true]<;>omega
   ·simp only[h,oM]<;>omega
 ·cases hi with
  |none=>simp[sliceBounds,HT.sIx]
  |some i=>
   simp only[sliceBounds,HT.sIx,Option.getD_none,show(1:Int)>0 by decide,if_true]
   by_cases h:i<0
   ·simp only[h,if_true]<;>omega
   ·simp only[h,oM]<;>omega
theorem yX(its:List Value)(lo hi:Option Int):slicePick its.toArray lo hi none=((its.drop (HT.sIx its.length 0 lo)).take (HT.sIx its.length its.length hi-HT.sIx its.length 0 lo)).toArray:=by
 obtain⟨h1,h2,h3⟩:=vS lo hi its.toArray.size;unfold slicePick;rw[h1,h2,h3];simp only[sliceRange_one,pick_run,m7]<;>rfl
inductive rSlL_R(K:W.Frag)(x:V)(lo:Option Int)(hi:Option Int)(H:Hp)(Q:VK):Prop
 |mk (a:_) (xs:_) (h0:x=.ref a) (h1:SqL K H a xs) (h2:∀p,H p=none->Q (.ref p) (upd H p (.lst (qm xs lo hi)))):rSlL_R K x lo hi H Q
def rSlL(K:W.Frag):V->Option Int->Option Int->Hp->VK->Prop:=fun x lo hi H Q=>rSlL_R K x lo hi H Q
theorem sl_list:SlR X (rSlL X.K):=by
 intro lC s σ H x v vl vu lo hi sl Q I rx hs pl pu h;obtain⟨a,xs,rfl,hx,q⟩:=h;cases rx;obtain⟨its,r,ht,hz⟩:=I.list hx;have hlen:=r.length;refine⟨"list",_,slot_list_getitem.lookup,ht.isList.typeIs,?_⟩;refine wpAny_getItem_list_slice ht.isList hs pl pu .none (by simp) ?_ (by rw[m7]<;>omega);rw[yX,<- hlen];refine⟨.ref s.heap.objs.size,_,I.laid (t':=s.toks) (o:=.lst (qm xs lo hi)) (fun b ob q=>m4 _ q) (mP _) ?_,rfl,q _ (I.hok.fresh (mP _))⟩;exact⟨nQ (zm xs lo hi) hz,_,0,(r.drop (HT.sIx xs.length 0 lo)).take (HT.sIx xs.length xs.length hi-HT.sIx xs.length 0 lo),nI _ rfl⟩
def V2:V->Bool
 |.non=>true
 |.bl _=>true
 |.int _=>true
 |.str _=>true
 |_=>false
def eqV:V->V->Bool
 |.non,.non=>true
 |.bl a,.bl b=>a==b
 |.bl a,.int b=>(if a then 1 else 0)==b
 |.int a,.bl b=>a==(if b then 1 else 0)
 |.int a,.int b=>a==b
 |.str a,.str b=>a==b
 |_,_=>false
theorem eqAt_V{A:Around}{s:Shared}{y x:V}{u v:Value}(ry:Z1 y u)(rx:Z1 x v)(fy:V2 y=true)(fx:V2 x=true):SeqAt.EqAt A s u v (eqV y x):=by
 cases y with
 |non=>
  cases ry;cases x with
  |non=>cases rx;exact SeqAt.EqAt.same _
  |bl b=>cases rx;exact SeqAt.EqAt.none_bool b
  |int b=>obtain⟨t,rfl⟩:=rx;exact SeqAt.EqAt.none_int b t
  |str b=>obtain⟨t,rfl⟩:=rx;exact SeqAt.EqAt.none_str b t
  |_=>exact absurd (show false=true from fx) nh
 |bl a=>
  cases ry;cases x with
  |non=>cases rx;exact SeqAt.EqAt.bool_none a
  |bl b=>cases rx;exact SeqAt.EqAt.bool_bool a b
  |int b=>obtain⟨t,rfl⟩:=rx;exact SeqAt.EqAt.bool_int a b t
  |str b=>obtain⟨t,rfl⟩:=rx;exact SeqAt.EqAt.bool_str a b t
  |_=>exact absurd (show false=true from fx) nh
 |int a=>
  obtain⟨t',rfl⟩:=ry;cases x with
  |non=>cases rx;exact SeqAt.EqAt.int_none a t'
  |bl b=>cases rx;exact SeqAt.EqAt.int_bool a t' b
  |int b=>obtain⟨t,rfl⟩:=rx;exact SeqAt.EqAt.int_int a t' b t
  |str b=>obtain⟨t,rfl⟩:=rx;exact SeqAt.EqAt.int_str a t' b t
  |_=>exact absurd (show false=true from fx) nh
 |str a=>
  obtain⟨t',rfl⟩:=ry;cases x with
  |non=>cases rx;exact SeqAt.EqAt.str_none a t'
  |bl b=>cases rx;exact SeqAt.EqAt.str_bool a t' b
  |int b=>obtain⟨t,rfl⟩:=rx;exact SeqAt.EqAt.str_int a t' b t
  |str b=>obtain⟨t,rfl⟩:=rx;exact SeqAt.EqAt.str_str a t' b t
  |_=>exact absurd (show false=true from fx) nh
 |_=>exact absurd (show false=true from fy) nh
def eqU(x:V)(u:Value):Bool:=match u with
 |.none=>eqV .non x
 |.bool b=>eqV (.bl b) x
 |.int i _=>eqV (.int i) x
 |.str z _=>eqV (.str z) x
 |_=>false
theorem eqU_of{x y:V}{u:Value}(r:Z1 y u)(f:V2 y=true):eqU x u=eqV y x:=by
 cases y with
 |non=>cases r;rfl
 |bl b=>cases r;rfl
 |int i=>obtain⟨t,rfl⟩:=r;rfl
 |str z=>obtain⟨t,rfl⟩:=r;rfl
 |_=>exact absurd (show false=true from f) nh
theorem qk{x:V}:∀{xs:List V}{us:List Value},ZP xs us->xs.all V2=true->us.any (eqU x)=xs.any fun y=>eqV y x
 |_,_,.nil,_=>rfl
 |y::xs,u::us,.cons r t,f=>by
  rw[pb,m8] at f;rw[pd,pd,eqU_of r f.1,qk t f.2]
theorem VP{A:Around}{s:Shared}{x:V}{v:Value}(rx:Z1 x v)(fx:V2 x=true):∀{xs:List V}{us:List Value},ZP xs us->xs.all V2=true->∀u∈us,SeqAt.EqAt A s u v (eqU x u)
 |_,_,.nil,_=>fun u hu=>by cases hu
 |y::xs,u::us,.cons r t,f=>fun u' hu=>by
  rw[pb,m8] at f;rcases nu.mp hu with rfl|hu
  ·rw[eqU_of r f.1];exact eqAt_V r rx f.1 fx
  ·exact VP rx fx t f.2 u' hu
def inV(x:V)(xs:List V):Bool:=xs.any fun y=>eqV y x
inductive rIn_R(K:W.Frag)(neg:Bool)(x:V)(y:V)(H:Hp)(Q:VK):Prop
 |mk (p:_) (xs:_) (h0:y=.ref p) (h1:(SqL K H p xs\/SqT K H p xs)) (h2:V2 x=true) (h3:xs.all V2=true) (h4:Q (.bl (if neg then !inV x xs else inV x xs)) H):rIn_R K neg x y H Q
def rIn(K:W.Frag)(neg:Bool):R2:=fun x y H Q=>rIn_R K neg x y H Q
theorem op_in_seq:OpR X (compareOp .In) (rIn X.K false):=by
 intro lC s σ H x y v u Q I rx ry h;obtain⟨p,xs,rfl,hq,fx,fs,q⟩:=h;cases ry;rcases hq with hq|hq
 ·obtain⟨its,r,pl,hz⟩:=I.list hq;refine SeqAt.in_listAt (eqU x) pl.isList (fun w hw=>VP rx fx r fs w (by simpa using hw)) ⟨.bl _,H,I,rfl,?_⟩;rw[show its.toArray.any (eqU x)=its.any (eqU x) by simp,qk r fs];exact q
 ·obtain⟨its,r,pl,hz⟩:=I.tuple hq;refine SeqAt.in_tupleAt (eqU x) pl (fun w hw=>VP rx fx r fs w (by simpa using hw)) ⟨.bl _,H,I,rfl,?_⟩;rw[show its.toArray.any (eqU x)=its.any (eqU x) by simp,qk r fs];exact q
theorem jp:OpR X (compareOp .NotIn) (rIn X.K true):=by
 intro lC s σ H x y v u Q I rx ry h;obtain⟨p,xs,rfl,hq,fx,fs,q⟩:=h;cases ry;rcases hq with hq|hq
 ·obtain⟨its,r,pl,hz⟩:=I.list hq;refine SeqAt.notIn_listAt (eqU x) pl.isList (fun w hw=>VP rx fx r fs w (by simpa using hw)) ⟨.bl _,H,I,rfl,?_⟩;rw[show its.toArray.any (eqU x)=its.any (eqU x) by simp,qk r fs];exact q
 ·obtain⟨its,r,pl,hz⟩:=I.tuple hq;refine SeqAt.notIn_tupleAt (eqU x) pl (fun w hw=>VP rx fx r fs w (by simpa using hw)) ⟨.bl _,H,I,rfl,?_⟩;rw[show its.toArray.any (eqU x)=its.any (eqU x) by simp,qk r fs];exact q
theorem vq:YB X (.builtin "len") (fun xs H Q=>∃p ys,xs=[.ref p]/\(SqL X.K H p ys\/SqT X.K H p ys)/\Q (.int ys.length) H):=by
 intro lC s σ H xs us Q I r h;obtain⟨p,ys,rfl,hq,q⟩:=h;obtain⟨u,rfl,rx⟩:=WM r;cases rx;have hn:=qZ;rcases hq with hq|hq
 ·obtain⟨its,r',pl,hz⟩:=I.list hq;have hlen:=r'.length;exact Calls.call_len_list pl.isList (by simp only[m7]<;>omega) ⟨.int ys.length,H,I.tok _,⟨s.toks+1,by rw[m7,hlen]⟩,q⟩
 ·obtain⟨its,r',pl,hz⟩:=I.tuple hq;have hlen:=r'.length;exact len_tuple pl (by simp only[m7]<;>omega) ⟨.int ys.length,H,I.tok _,⟨s.toks+1,by rw[m7,hlen]⟩,q⟩
theorem jk:YB X (.builtin "len") (fun xs H Q=>∃z,xs=[.str z]/\z.length<=sizeLine/\Q (.int z.length) H):=by
 intro lC s σ H xs us Q I r h;obtain⟨z,rfl,hz,q⟩:=h;obtain⟨u,rfl,t,rfl⟩:=WM r;have hn:=qZ;exact len_str (by omega) ⟨.int z.length,H,I.tok _,⟨_,rfl⟩,q⟩
theorem YB.or{f:Value}{r r':List V->Hp->VK->Prop}(h:YB X f r)(h':YB X f r'):YB X f (fun xs H Q=>r xs H Q\/r' xs H Q):=by
 intro lC s σ H xs us Q I rs q;rcases q with q|q
 ·exact h lC s σ H xs us Q I rs q
 ·exact h' lC s σ H xs us Q I rs q
theorem ji:YB X (.type "list") (fun xs H Q=>∃p ys,xs=[.ref p]/\(SqL X.K H p ys\/SqT X.K H p ys)/\∀l,H l=none->Q (.ref l) (upd H l (.lst ys))):=by
 intro lC s σ H xs us Q I r h;obtain⟨p,ys,rfl,hq,q⟩:=h;obtain⟨u,rfl,rx⟩:=WM r;cases rx;have fin:∀(its:List Value),ZP ys its->ys.length<=sizeLine->∀(h':Heap) (c':Nat),(∀b o',s.heap.get? b=some o'->h'.get? b=some o') ->
   h'.get? s.heap.objs.size=some { cls:=.type "list",dict:=none,data:=.seq its.toArray c',slots:=#[] }->EP X lC σ Q (.ref s.heap.objs.size) { s with heap:=h' }:=fun its r' hz h' c' kp e=>
  ⟨.ref s.heap.objs.size,_,I.laid (t':=s.toks) kp (mP _) (show Xe X.prog X.w _ h' _ (.lst ys) from⟨hz,its,c',r',e⟩),rfl,q _ (I.hok.fresh (mP _))⟩
 rcases hq with hq|hq
 ·obtain⟨its,r',pl,hz⟩:=I.list hq;have hlen:=r'.length;obtain⟨o,ho,hc,n,hd⟩:=pl.isList;exact call_list_seq p (.inl rfl) ho hc hd (fun h' c' kp e=>fin its r' hz h' c' kp e) (by simp only[m7]<;>omega)
 ·obtain⟨its,r',pl,hz⟩:=I.tuple hq;have hlen:=r'.length;obtain⟨o,ho,hc,n,hd⟩:=pl;exact call_list_seq p (.inr rfl) ho hc hd (fun h' c' kp e=>fin its r' hz h' c' kp e) (by simp only[m7]<;>omega)
theorem yK:YB X (.type "tuple") (fun xs H Q=>∃p ys,xs=[.ref p]/\((SqL X.K H p ys/\∀l,H l=none->Q (.ref l) (upd H l (.tup ys)))\/(SqT X.K H p ys/\Q (.ref p) H))):=by
 intro lC s σ H xs us Q I r h;obtain⟨p,ys,rfl,h⟩:=h;obtain⟨u,rfl,rx⟩:=WM r;cases rx;rcases h with⟨hq,q⟩|⟨hq,q⟩
 ·obtain⟨its,r',pl,hz⟩:=I.list hq;have hlen:=r'.length;refine call_tuple_list pl.isList (fun h' kp=>?_) (by simp only[m7]<;>omega);have I1:Inv X lC σ H { s with heap:=h' }:=I.kept (t':=s.toks) kp;have I2:Inv X lC σ (upd H h'.objs.size (.tup ys)) { s with heap:=h'.push { cls:=.type "tuple",data:=.seq its.toArray } }:=
   I1.laid (t':=s.toks) (fun b o e=>m4 _ e) (mP _) (show Xe X.prog X.w _ _ _ (.tup ys) from⟨hz,its,r',IsTup.new _ _⟩)
  exact⟨.ref h'.objs.size,_,I2,rfl,q _ (I1.hok.fresh (mP _))⟩
 ·obtain⟨its,r',pl,hz⟩:=I.tuple hq;exact call_tuple_same pl ⟨.ref p,H,I,rfl,q⟩
def tyV(K:W.Frag)(T:String)(x:V)(H:Hp):Prop:=match x with
 |.str _=>T = "str"
 |.int _=>T = "int"
 |.ref p=>(T = "list" /\ ∃xs,SqL K H p xs)\/(T = "tuple" /\ ∃o,K.lookup p=some o/\o.cls=.type "tuple" /\ o.dict=none) \/
   (T = "dict" /\ ((∃kvs,H p=some (.dK kvs))\/∃kvs,H p=some (.dT kvs)))\/(T = "set" /\ ∃S n,H p=some (.set S n))
 |_=>False
theorem tyV_is{lC:List (Addr×Obj)}{σ:St}{H:Hp}{s:Shared}{T:String}{x:V}{v:Value}(I:Inv X lC σ H s)(r:Z1 x v)(ty:tyV X.K T x H) :
  s.TypeIs v T/\∀a,v=.ref a->∃ob,s.heap.get? a=some ob/\ob.dict=none:=by
 cases x with
 |str z=>
  obtain⟨t,rfl⟩:=r;cases (show T = "str" from ty);exact⟨typeIs_str s z t,fun _ e=>nomatch e⟩
 |int i=>
  obtain⟨t,rfl⟩:=r;cases (show T = "int" from ty);exact⟨typeIs_int s i t,fun _ e=>nomatch e⟩
 |ref p=>
  cases r;rcases ty with⟨rfl,xs,hq⟩|⟨rfl,o,hk,hc,hd⟩|⟨rfl,hk⟩|⟨rfl,S,n,hk⟩
  ·obtain⟨its,_,pl,_⟩:=I.list hq;refine⟨pl.isList.typeIs,fun a e=>?_⟩;cases e;obtain⟨o,n,e,c,hd,_⟩:=pl;exact⟨o,e,hd⟩
  ·refine⟨⟨o,I.kIn p o hk,hc⟩,fun a e=>?_⟩;cases e;exact⟨o,I.kIn _ o hk,hd⟩
  ·have z:∃o,s.heap.get? p=some o/\o.ExactDict:=by
    rcases hk with⟨kvs,hk⟩|⟨kvs,hk⟩
    ·obtain⟨_,_,_,_,o,_,_,e,ex,_⟩:=I.hok p _ hk;exact⟨o,e,ex⟩
    ·obtain⟨_,_,_,_,o,_,_,e,ex,_⟩:=I.hok p _ hk;exact⟨o,e,ex⟩
   obtain⟨o,e,ex⟩:=z;refine⟨⟨o,e,ex.1⟩,fun a e2=>?_⟩;cases e2;exact⟨o,e,ex.2.1⟩
  ·obtain⟨o,_,_,_,e,ex,_⟩:=I.hok p _ hk;refine⟨⟨o,e,ex.1⟩,fun a e2=>?_⟩;cases e2;exact⟨o,e,ex.2.1⟩
 |_=>exact False.elim ty
def tBM0(K:W.Frag)(T:String)(r:V->List V->Hp->VK->Prop)(to:TE):TE:=fun σ H Q=>to σ H fun x H1=>tyV K T x H1/\r x [] H1 Q
def tBM(K:W.Frag)(T:String)(r:V->List V->Hp->VK->Prop)(to:TE)(t:TA):TE:=fun σ H Q=>to σ H fun x H1=>tyV K T x H1/\t σ H1 fun xs H2=>r x xs H2 Q
variable{o e:Expr}{es:List Expr}{to:TE}{t:TA}{name:Str}{apos cpos:Pos}{T id:String}{r:V->List V->Hp->VK->Prop}
theorem qE(pa:PlainAttrs T)(slot:Slot T name id)(hty:typeOf (.builtin id)=pure (.type "method_descriptor"))(hm:MtR X id r)(ho:PE X o to)
  (hbase:attributeBase o name X.env (eval o X.env)=eval o X.env:=by rfl) (hline:(apos.endLine==cpos.line)=true:=by rfl):PE X (.Call (.Attribute o name apos) [] [] cpos) (tBM0 X.K T r to):=by
 intro lC s σ H Q I h;refine wpAny_Call_method0_late hbase hline (thn (ho lC s σ H _ I h) fun v s1 ⟨x,H1,I1,r1,ty,q1⟩=>?_);obtain⟨h1,h2⟩:=tyV_is I1 r1 ty;exact⟨T,id,pa,slot,hty,h1,h2,Calls.callWith_builtin rfl (PySem.evalArgs_none (hm lC s1 σ H1 x [] v [] Q I1 r1 .nil q1))⟩
theorem WT(pa:PlainAttrs T)(slot:Slot T name id)(hty:typeOf (.builtin id)=pure (.type "method_descriptor"))(hm:MtR X id r)(ho:PE X o to)(ha:PA X (e::es) t)
  (hbase:attributeBase o name X.env (eval o X.env)=eval o X.env:=by rfl)
  (hfew:((backTo cpos (starEach (e::es) X.env)).all (fun x=>!x.1)&&(backToKw cpos (keywordEach [] X.env)).all (fun x=>x.1.isSome)
   && decide ((e::es).length+([]:List Keyword).length+(if([]:List Keyword).isEmpty then 0 else 1)<30))=true:=by rfl)
  (hline:(apos.endLine==cpos.line)=true:=by rfl) (hs:starEach (e::es) X.env=(false,eval e X.env)::starEach es X.env:=by rfl) (hplain:(backTo cpos (starEach es X.env)).any (·.1)=false:=by rfl) :
  PE X (.Call (.Attribute o name apos) (e::es) [] cpos) (tBM X.K T r to t):=by
 intro lC s σ H Q I h;refine wpAny_Call_method_late hbase hfew hline rfl (thn (ho lC s σ H _ I h) fun v s1 ⟨x,H1,I1,r1,ty,q1⟩=>?_);obtain⟨h1,h2⟩:=tyV_is I1 r1 ty;refine⟨T,id,pa,slot,hty,h1,h2,?_⟩;have hA:=ha cpos lC s1 σ H1 _ I1 q1;rw[hs] at hA ⊢;refine Calls.callWith_builtin (by show(false||(backTo cpos (starEach es X.env)).any (·.1))=false;rw[hplain]<;>rfl) (Calls.evalArgs_plain ?_);exact thn hA fun us s2 ⟨vs,H2,I2,r2,q2⟩=>hm lC s2 σ H2 x vs v us Q I2 r1 r2 q2
end
def MtM(X:Cx)(id:String)(r:V->List V->Hp->VK->Prop):Prop:=
 ∀(lC:List (Addr×Obj)) (s:Shared) (σ:St) (H:Hp) (x:V) (xs:List V) (v:Value) (us:List Value) (Q:VK),Inv X lC σ H s->Z1 x v->ZP xs us->r x xs H Q ->
  wpAny (model X.prog X.w) X.A (call (.builtin id) (v::us)) (EP X lC σ Q) X.xe s
theorem ZP.one:∀{x:V}{us:List Value},ZP [x] us->∃u,us=[u]/\Z1 x u
 |_,_,.cons r .nil=>⟨_,rfl,r⟩
theorem ZP.zero:∀{us:List Value},ZP [] us->us=[]
 |_,.nil=>rfl
theorem ZP.dropLast{xs:List V}{us:List Value}(h:ZP xs us):ZP xs.dropLast us.dropLast:=by
 induction h with
 |nil=>exact .nil
 |cons r t ih=>
  cases t with
  |nil=>exact .nil
  |cons q t'=>exact .cons r ih
theorem ZP.reverse{xs:List V}{us:List Value}(h:ZP xs us):ZP xs.reverse us.reverse:=by
 induction h with
 |nil=>exact .nil
 |cons r t ih=>rw[List.reverse_cons,List.reverse_cons];exact ZP.append ih (.cons r .nil)
theorem ZP.rep{xs:List V}{us:List Value}(h:ZP xs us):∀k:Nat,ZP (List.replicate k xs).flatten (List.replicate k us).flatten
 |0=>.nil
 |k+1=>by
  rw[oP,oP,py,py];exact ZP.append h (ZP.rep h k)
theorem kL{α:Type}(l:List α):l.eraseIdx (l.length-1)=l.dropLast:=by
 induction l with
 |nil=>rfl
 |cons a r ih=>
  cases r with
  |nil=>rfl
  |cons b r=>
   have e:(a::b::r).length-1=((b::r).length-1)+1:=by
    have h1:(a::b::r).length=r.length+2:=rfl;have h2:(b::r).length=r.length+1:=rfl;omega
   rw[e,List.eraseIdx_cons_succ,ih]
   all_goals rfl
theorem xV(its:List Value):∀(k:Nat) (acc:List Value),
  List.foldl (fun x1 x2=>x1++x2) acc.toArray (List.replicate k its.toArray)=(acc++(List.replicate k its).flatten).toArray
 |0,acc=>by simp
 |k+1,acc=>by
  have e:acc.toArray++its.toArray=(acc++its).toArray:=by simp
  have e2:(acc++its)++(List.replicate k its).flatten=acc++(List.replicate (k+1) its).flatten:=by
   rw[oP,py,oY]
  rw[<- e2,<- xV its k (acc++its),<- e,oP,List.foldl_cons]
section
variable{X:Cx}{lC:List (Addr×Obj)}{σ:St}{H:Hp}{s:Shared}{l b:Addr}{xs ys zs:List V}
theorem Inv.lset{its its':List Value}{n:Nat}{f:Array Value->Array Value}{t':Nat}(I:Inv X lC σ H s)(hH:H l=some (.lst xs))
  (e:s.heap.get? l=some { cls:=.type "list",data:=.seq its.toArray n }) (hf:f its.toArray=its'.toArray) (hv:ZP ys its') (hz:ys.length<=sizeLine) :
  Inv X lC σ (upd H l (.lst ys)) { s with heap:=s.heap.update l (Obj.mapSeq f),toks:=t' }:=by
 have q:=PySem.IsL.update e f;rw[hf] at q;refine I.write (x:=l) (e:=l) (by rw[hH];exact trivial) (.inl rfl) (fun b' u hb hu=>(Heap.get?_update_other s.heap (Obj.mapSeq f) (nN hb)).trans hu) ⟨_,q⟩ ?_;exact⟨hz,its',_,hv,q⟩
theorem Inv.lnew{its:List Value}{t':Nat}(I:Inv X lC σ H s)(hv:ZP ys its)(hz:ys.length<=sizeLine) :
  Inv X lC σ (upd H s.heap.objs.size (.lst ys)) { s with heap:=s.heap.push { cls:=.type "list",data:=.seq its.toArray },toks:=t' }:=
 I.laid (fun _ _ q=>m4 _ q) (mP _) ⟨hz,its,0,hv,nI _ rfl⟩
theorem Inv.fresh(I:Inv X lC σ H s):H s.heap.objs.size=none:=I.hok.fresh (mP _)
theorem Inv.lstM(I:Inv X lC σ H s)(hH:H l=some (.lst xs)):xs.length<=sizeLine/\∃(its:List Value) (n:Nat),ZP xs its/\xs.length=its.length/\s.heap.get? l=some { cls:=.type "list",data:=.seq its.toArray n }:=by
 obtain⟨z,its,n,r,e⟩:=I.hok l _ hH;exact⟨z,its,n,r,r.length,e⟩
theorem yF{n:Nat}(h:n<=sizeLine):Builtin.List.listTooLong n=false:=by
 unfold Builtin.List.listTooLong;exact nH (by omega)
end
section
variable{X:Cx}
inductive xf(x:V)(vs:List V)(H:Hp)(Q:VK):Prop
 |mk (l:_) (xs:_) (y:_) (h0:x=.ref l) (h1:vs=[y]) (h2:H l=some (.lst xs)) (h3:xs.length<sizeLine) (h4:Q .non (upd H l (.lst (xs++[y])))):xf x vs H Q
def vI:V->List V->Hp->VK->Prop:=fun x vs H Q=>xf x vs H Q
theorem Yg:MtM X "list.append" vI:=by
 intro lC s σ H x vs v us Q I rx rv h;obtain⟨l,xs,y,rfl,rfl,hH,hz,q⟩:=h;cases rx;obtain⟨u,rfl,ru⟩:=rv.one;obtain⟨z,its,n,r,hl,e⟩:=I.lstM hH;refine call_meets F.slot_list_append ⟨_,e,rfl⟩ F.entry_list_append (F.args_list_append_2 _ _) (PySem.list_append l its.toArray n u (by rw[m7];omega)) ⟨e,?_⟩;refine⟨.non,_,I.lset (its':=its++[u]) hH e (by simp) (r.append (.cons ru .nil)) ?_,rfl,q⟩;rw[mT,oN];omega
inductive xr(x:V)(vs:List V)(H:Hp)(Q:VK):Prop
 |mk (l:_) (b:_) (xs:_) (zs:_) (h0:x=.ref l) (h1:vs=[.ref b]) (h2:H l=some (.lst xs)) (h3:H b=some (.lst zs)) (h4:xs.length+zs.length<=sizeLine) (h5:Q .non (upd H l (.lst (xs++zs)))):xr x vs H Q
def rExtend:V->List V->Hp->VK->Prop:=fun x vs H Q=>xr x vs H Q
theorem mt_extend:MtM X "list.extend" rExtend:=by
 intro lC s σ H x vs v us Q I rx rv h;obtain⟨l,b,xs,zs,rfl,rfl,hH,hB,hz,q⟩:=h;cases rx;obtain⟨u,rfl,ru⟩:=rv.one;cases ru;obtain⟨z,its,n,r,hl,e⟩:=I.lstM hH;obtain⟨z2,its2,n2,r2,hl2,e2⟩:=I.lstM hB;have hsz:its.toArray.size+its2.toArray.size<=sizeLine:=by rw[m7,m7];omega
 have hlong:¬(!its.toArray.isEmpty&&Builtin.List.listTooLong (its.toArray.size+its2.toArray.size))=true:=by
  rw[yF hsz,Bool.and_false];exact nh
 refine call_meets F.slot_list_extend ⟨_,e,rfl⟩ F.entry_list_extend (F.args_list_extend_2 _ _)
  (AutoSeq1.list_extend_list_list_0 l its.toArray n b its2.toArray n2 hlong (by rw[m7];omega) (by omega)) ⟨e,e2,?_⟩
 refine⟨.non,_,I.lset (its':=its++its2) hH e (by simp) (r.append r2) ?_,rfl,q⟩;rw[mT];omega
inductive rPop_R(x:V)(vs:List V)(H:Hp)(Q:VK):Prop
 |mk (l:_) (xs:_) (y:_) (h0:x=.ref l) (h1:vs=[]) (h2:H l=some (.lst xs)) (h3:xs[xs.length-1]?=some y) (h4:Q y (upd H l (.lst xs.dropLast))):rPop_R x vs H Q
def rPop:V->List V->Hp->VK->Prop:=fun x vs H Q=>rPop_R x vs H Q
theorem vm:MtM X "list.pop" rPop:=by
 intro lC s σ H x vs v us Q I rx rv h;obtain⟨l,xs,y,rfl,rfl,hH,hy,q⟩:=h;cases rx;have hus:=rv.zero;subst hus;obtain⟨z,its,n,r,hl,e⟩:=I.lstM hH;obtain⟨u,hu,ru⟩:=r.get hy;have hy':its.toArray[its.toArray.size-1]?=some u:=by
  show its.toArray[its.length-1]?=some u
  rw[<- p8,<- hl];exact hu
 refine call_meets F.slot_list_pop ⟨_,e,rfl⟩ F.entry_list_pop (F.args_list_pop_1 _) (MeetsSeq.list_pop_last l its.toArray n u hy' (by rw[m7];omega)) ⟨e,?_⟩;refine⟨y,_,I.lset (its':=its.dropLast) hH e ?_ r.dropLast ?_,ru,q⟩
 ·show its.toArray.eraseIdxIfInBounds (its.toArray.size-1)=its.dropLast.toArray
  rw[m7,List.eraseIdxIfInBounds_toArray,kL]
 ·rw[rK];omega
inductive rCat_R(x:V)(y:V)(H:Hp)(Q:VK):Prop
 |mk (l:_) (b:_) (xs:_) (zs:_) (h0:x=.ref l) (h1:y=.ref b) (h2:H l=some (.lst xs)) (h3:H b=some (.lst zs)) (h4:xs.length+zs.length<=sizeLine) (h5:∀p,H p=none->Q (.ref p) (upd H p (.lst (xs++zs)))):rCat_R x y H Q
def rCat:R2:=fun x y H Q=>rCat_R x y H Q
theorem op_cat:OpR X (binaryOp .Add) rCat:=by
 intro lC s σ H x y v u Q I rx ry h;obtain⟨l,b,xs,zs,rfl,rfl,hH,hB,hz,q⟩:=h;cases rx;cases ry;obtain⟨z,its,n,r,hl,e⟩:=I.lstM hH;obtain⟨z2,its2,n2,r2,hl2,e2⟩:=I.lstM hB;refine PySem.P.add_list e e2 ?_ (by rw[m7,m7];omega);have ea:its.toArray++its2.toArray=(its++its2).toArray:=by simp
 rw[ea];exact⟨.ref _,_,I.lnew (t':=s.toks) (r.append r2) (by rw[mT];omega),rfl,q _ I.fresh⟩
inductive rRep_R(x:V)(y:V)(H:Hp)(Q:VK):Prop
 |mk (l:_) (k:_) (xs:_) (h0:x=.ref l) (h1:y=.int k) (h2:H l=some (.lst xs)) (h3:-(2 ^ 63)<=k) (h4:k<2 ^ 63) (h5:xs.length*k.toNat<=sizeLine) (h6:∀p,H p=none->Q (.ref p) (upd H p (.lst (List.replicate k.toNat xs).flatten))):rRep_R x y H Q
def rRep:R2:=fun x y H Q=>rRep_R x y H Q
theorem len_rep{α:Type}(xs:List α)(k:Nat):(List.replicate k xs).flatten.length=k*xs.length:=by
 induction k with
 |zero=>simp
 |succ k ih=>rw[oP,py,mT,ih,Nat.succ_mul,Nat.add_comm]
theorem qY:OpR X (binaryOp .Mult) rRep:=by
 intro lC s σ H x y v u Q I rx ry h;obtain⟨l,k,xs,rfl,rfl,hH,h1,h2,hz,q⟩:=h;cases rx;obtain⟨t,rfl⟩:=ry;obtain⟨z,its,n,r,hl,e⟩:=I.lstM hH;have hlen:its.toArray.size*k.toNat<=sizeLine:=by rw[m7,<- hl];exact hz
 have hcap:¬its.toArray.size*k.toNat>(2 ^ 63-1)/8:=by
  have:(sizeLine:Nat)<=(2 ^ 63-1)/8:=by decide
  omega
 have hfit:¬(!Builtin.List.listFitsIndex k)=true:=by
  rw[fitsIndex_both h1 h2];exact nh
 have hlong:¬Builtin.List.listTooLong (its.toArray.size*k.toNat)=true:=by
  rw[yF hlen];exact nh
 have hnew:List.foldl (fun x1 x2=>x1++x2) #[] (List.replicate (if its.toArray.isEmpty=true then 0 else k.toNat) its.toArray)=(List.replicate k.toNat its).flatten.toArray:=by
  have f0:∀m:Nat,List.foldl (fun x1 x2=>x1++x2) #[] (List.replicate m its.toArray)=(List.replicate m its).flatten.toArray:=fun m=>by
   have:=xV its m [];rw[pI] at this;exact this
  rw[f0];cases its with
  |nil=>simp
  |cons a r'=>rw[if_neg (by simp)]
 refine wpAny_binaryOp_repeat_ref (T := "list") (U := "int") (by decide) ⟨_,e,rfl⟩ (fun s'=>typeIs_int s' k t) noFill_list_mul F.fills_int_mul F.slot_int_rmul repeat_list F.slot_int_index.lookup
  (call_meets F.slot_int_rmul (typeIs_int s k t) F.entry_int_rmul (F.args_int_rmul_2 _ _) (int___rmul___int_list k t l its.toArray n)
   ⟨e,rfl,⟨_,e,rfl⟩,call_meets F.slot_list_mul ⟨_,e,rfl⟩ F.entry_list_mul (F.args_list_mul_2 _ _) (AutoListH.list___mul___list_int_3 l its.toArray n k t hfit hcap hlong) ⟨e,?_⟩⟩)
 rw[hnew];exact⟨.ref _,_,I.lnew (t':=s.toks) (r.rep k.toNat) (by rw[len_rep,Nat.mul_comm];exact hz),rfl,q _ I.fresh⟩
end
section
variable{prog:Program}{w:World}{A:Around}{E:Value->Shared->Prop}{s:Shared}
set_option maxRecDepth 100000 in
end
section
variable{X:Cx}
end
end L2
namespace Att
open PySem PySem.W PySem.Calls PyProof.Rows
theorem zA{P:Params}{h:Heap}:∀(ns:List Int) (vs:List Value),WellAll P h vs (ns.map WData.int)->IntsAre vs ns:=by
 intro ns
 induction ns with
 |nil=>
  intro vs w;rw[nO] at w;cases w;exact .nil
 |cons n ns ih=>
  intro vs w;rw[mV] at w;cases w with
  |cons a b=>
   cases a;exact .cons _ _ (ih _ b)
theorem script_of{l:OpenLaw}{n:Nat}(hn:l.most=some n){P:Params}{h:Heap}{args:List WData}{vals:List Value}
  (hpre:l.row.toRowW.claim.pre args=true) (hwl:WellAll P h vals args) :
  ∃a vs ns,vals=[Value.ref a]/\args=[WData.list (ns.map WData.int)]/\h.get? a=some { cls:=.type "list",data:=.seq vs.toArray }/\IntsAre vs ns/\ns.length<=n:=by
 have hsh:WShape.hasAll [] args [.list .int]=true:=(pre_splitW hpre).1;have hc:l.pre.holds [] { args:=args }=true:=(pre_splitW hpre).2;obtain⟨d,r,rfl,h1,h2⟩:=hasAllW_cons hsh;obtain rfl:=hasAllW_nil h2;obtain⟨xs,rfl,h3⟩:=hasW_list h1;obtain⟨ns,rfl⟩:=items_int h3;have hlen:ns.length<=n:=by
  unfold OpenLaw.pre at hc;have h4:(WTm.not (.lt (.lit (.int (n:Int))) (.len (.arg 0)))).holds [] { args:=[.list (ns.map .int)] }=true:=by
   have h4:=(holds_andW hc).1;rw[hn] at h4;exact h4
  have h5:=condW_of h4 (w_not (w_lt w_lit (w_len_list (w_arg rfl))));rw[mM] at h5;refine Nat.le_of_not_lt fun q=>?_;have q':(n:Int)<((ns.length:Nat):Int):=by omega
  first
   | (rw[nG q'] at h5;exact absurd h5 (by decide))
   | (simp at h5;omega)
 cases hwl with
 |cons w1 w2=>
  cases w2;cases w1 with
  |list ho hall=>exact⟨_,_,ns,rfl,rfl,ho,zA ns _ hall,hlen⟩
theorem post_true(l:OpenLaw)(args:List WData):l.row.toRowW.claim.post args (.bool true) args=true:=
 postW_of (r:=l.row.toRowW) (X:=(true==true))
  (show WShape.has [] (.bool true) .bool=true by first|rfl|decide|simp[WShape.has,WShape.arms,WShape.armsAll])
  (show(WTm.eq .res (.lit (.bool true))).value [] { args:=args,res:=some (.bool true),after:=args }=some (.bool (true==true)) from w_eq_bool (w_res rfl) w_lit) rfl
theorem attach_call{l:OpenLaw}{n:Nat}{q:Program}{loose:List Str}{XP:(Str->Option Value)->Heap->Prop}{YP:World->Heap->Prop}{d:DefRec}
  (hn:l.most=some n) (hdf:d.params.defaults=[])
  (call:∀(w:World) (s₀ s₁:Shared) (mg mb:Str->Option Value) (fa:Addr) (o:Obj) (pm cd doc:Value) (a:Addr) (vs:List Value) (ns:List Int),
   Ground q loose [] XP w s₀ mg mb s₁.heap->YP w s₁.heap ->
   s₁.heap.get? fa=some o->o.data=.func (docDef d.name d.params d.body d.scope pm cd doc)->s₁.heap.CodeRec cd d.name->mg d.name=some (.ref fa) ->
   s₁.heap.get? a=some { cls:=.type "list",data:=.seq vs.toArray }->IntsAre vs ns->ns.length<=n->s₁.gens=#[] ->
   codeAny (model l.prog w) callerA (.call (.ref fa) ⟨[.ref a],[]⟩) (fun r s'=>r=.ok (.ret (.bool true))/\OldK s₁.heap s'.heap/\s'.os=s₁.os/\AllBare s'.gens) s₁) :
  WalkO q loose XP YP l.row.toRowW d [] (fun f vs=>PySem.call f vs):=by
 intro w s₀ s₁ mg mb G Y fa o pm cd doc dV kV ho hd hcd hD hmg hg args vals as hpre hlay hrd hwl hlo;obtain rfl:dV=.none:=Dflts.none hD hdf;obtain rfl:kV=.none:=Dflts.noKw hD;obtain⟨a,vs,ns,rfl,rfl,hobj,hints,hlen⟩:=script_of hn hpre hwl;refine enter_call (o9 (call w s₀ s₁ mg mb fa o pm cd doc a vs ns G Y ho (fd_plain hd) hcd hmg hobj hints hlen hg) fun r s' hq=>?_);obtain⟨rfl,h2,h3,h4⟩:=hq;exact⟨.inl ⟨.bool true,.bool true,[],rfl,fun _=>rfl,.bool true,post_true l _,fun _=>⟨List.Pairwise.nil,fun _ hm=>(nomatch hm)⟩⟩,h2,h3,h4⟩
section
variable{prog:Program}{w:World}{A:Around}{E:Value->Shared->Prop}{s:Shared}{K:Frag}
def ledger(h:Heap)(L d:Addr):List (Addr×Obj):=(List.range h.objs.size).filterMap fun a=>if a=L\/a=d then none else(h.get? a).map fun o=>(a,o)
end
end Att
namespace L2
open PySem PySem.Spec PyProof.Rows
theorem xH:∀{vs:List Value}{ns:List Int},IntsAre vs ns->ZP (ns.map V.int) vs
 |_,_,.nil=>.nil
 |_,_,.cons n t h=>.cons ⟨t,rfl⟩ (xH h)
def Only(H:Hp):Prop:=∀b,H b=none\/∃o xs,H b=some (.frz o (.lst xs))
theorem law_call{P:Program}{w:World}{K:W.Frag}{mg mb:Str->Option Value}{CX:CXT}{k:Nat}{fa a:Addr}{fd:FuncData}{x:Str}{sp:Sp}{s₁:Shared}{vs:List Value}{ns:List Int}
  (KX:K.In s₁.heap) (hns:s₁.heap.Ns mainGlobals mg) (hb:s₁.heap.Ns builtinsNs mb) (hbb:∀x:Str,x ≠ "__name__" -> mb x=bootBuiltins x) (hlim:s₁.heap.NoLimit) (hg:s₁.gens=#[])
  (ha:s₁.heap.get? a=some { cls:=.type "list",data:=.seq vs.toArray }) (hi:IntsAre vs ns) (hl:ns.length<=sizeLine) (hr:Xx k callerA)
  (F:∀base:Heap,K.In base->base.Ns mainGlobals mg->Ye P w K mg base CX k fa fd [x] sp) (hbind:∀(s:Shared) (u:Value),BindsTo s fd ⟨[u],[]⟩ [(x,u)])
  (hsp:∀H:Hp,Only H->SqL K H a (ns.map V.int)->sp [.ref a] H (fun v _=>v=.bl true) fun _ _ _=>False)
  (hCX:∀H e s',CX [] H s₁ (fun _ _ _=>False) e s'->False) :
  codeAny (model P w) callerA (.call (.ref fa) ⟨[.ref a],[]⟩) (fun r s'=>r=.ok (.ret (.bool true))/\OldK s₁.heap s'.heap/\s'.os=s₁.os/\AllBare s'.gens) s₁:=by
 have rv:=xH hi;have lenV:=hi.length;have core:∀H:Hp,Only H->SqL K H a (ns.map V.int)->HOk P w H s₁.heap->(∀b,H b≠none->b=a)->(H a≠none->K.lookup a=none) ->
   codeAny (model P w) callerA (.call (.ref fa) ⟨[.ref a],[]⟩) (fun r s'=>r=.ok (.ret (.bool true))/\OldK s₁.heap s'.heap/\s'.os=s₁.os/\AllBare s'.gens) s₁:=by
  intro H hO hS hok hA hK;have base_of:∀{b:Addr}{o:Obj},s₁.heap.get? b=some o->H b=none->(hidT s₁.heap H).get? b=some o:=fun e n=>hidT_get e n;have noA:∀{b:Addr}{o:Obj}{es:Array DictEntry}{ep:Nat},s₁.heap.get? b=some o->o.data=.dict es ep->H b=none:=fun {b o es ep} e d=>by
   cases q:H b with
   |none=>rfl
   |some u=>
    have e':b=a:=hA b (by rw[q];simp);subst e';rw[ha] at e;cases e;have d':Data.seq vs.toArray _=Data.dict es ep:=d;cases d'
  have nsK:∀{b:Addr}{m:Str->Option Value},s₁.heap.Ns b m->(hidT s₁.heap H).Ns b m:=fun {b m} ⟨o,es,ep,e,d,r⟩=>⟨o,es,ep,base_of e (noA e d),d,r⟩;have hKb:K.In (hidT s₁.heap H):=fun b o e=>base_of (KX b o e) (by
   cases q:H b with
   |none=>rfl
   |some u=>
    have e':b=a:=hA b (by rw[q];simp);subst e';rw[hK (by rw[q];simp)] at e;cases e)
  have hM:Mod K mg (hidT s₁.heap H):=⟨hKb,nsK hns,⟨mb,nsK hb,hbb⟩,let ⟨mc,h1,h2⟩:=hlim; ⟨mc,nsK h1,h2⟩⟩;have e0:Env0 P w K mg (hidT s₁.heap H) callerA [] s₁ H:=⟨rfl,hM,fun b o e=>of_hidT e,Nat.le_of_eq (hidT_size _ _),trivial,fun b hb=>absurd (show b∈([]:List Addr) from hb) (by simp),hok,.of_eq hg⟩;refine o9 ((F _ hKb (nsK hns)).run callerA [] s₁ H ⟨[.ref a],[]⟩ [.ref a] [.ref a] _ _ hr e0 (hbind s₁ (.ref a)) (.cons rfl .nil) (hsp H hO hS)) fun r s' h=>?_;cases r with
  |error e=>exact(hCX H e s' h).elim
  |ok fl=>
   cases fl with
   |next=>exact False.elim h
   |brk=>exact False.elim h
   |cont=>exact False.elim h
   |ret u=>
    obtain⟨v,H',os,bare,un,hok',r',q⟩:=h;have q':v=.bl true:=q;subst q';obtain rfl:u=Value.bool true:=r';refine⟨rfl,OldK.of_keep fun b o e=>?_,os,bare⟩;cases q:H b with
    |none=>exact un.keep b o e q (by intro z;exact absurd (show b∈([]:List Addr) from z) (by simp)) (by simp)
    |some u=>
     rcases hO b with z|⟨ob,xs,z⟩
     ·rw[q] at z;cases z
     ·have z2:=un.frzs b ob _ z;obtain⟨e1,_⟩:=hok b _ z;obtain⟨e2,_⟩:=hok' b _ z2;rw[e] at e1;cases e1;exact e2
 cases hk:K.lookup a with
 |some o=>
  have e:=KX a o hk;rw[ha] at e;cases e;refine core (fun _=>none) (fun _=>.inl rfl) (.inr ⟨_,vs.toArray,_,hk,rfl,rfl,rfl,by rw[m7,lenV];exact hl,by simpa using rv⟩) (fun b u z=>by have z':(none:Option HO)=some u:=z;cases z') (fun b z=>absurd rfl z) fun z=>absurd rfl z
 |none=>
  refine core (fun b=>if b=a then some (.frz { cls:=.type "list",data:=.seq vs.toArray } (.lst (ns.map V.int))) else none) (fun b=>?_) (.inl (.inr ⟨{ cls:=.type "list",data:=.seq vs.toArray },if_pos rfl⟩)) (fun b u z=>?_) (fun b z=>?_) fun _=>hk
  ·by_cases hb:b=a
   ·exact .inr ⟨_,_,if_pos hb⟩
   ·exact .inl (if_neg hb)
  ·by_cases hb:b=a
   ·have z':=(if_pos hb).symm.trans z;cases z';subst hb;exact⟨ha,by rw[mM];exact hl,vs,_,rv,ha⟩
   ·have z':=(if_neg hb).symm.trans z;cases z'
  ·by_cases hb:b=a
   ·exact hb
   ·exact absurd (if_neg hb) z
theorem walk_of{l:W.OpenLaw}{n k:Nat}{q:Program}{loose:List Str}{XP:(Str->Option Value)->Heap->Prop}{YP:World->Heap->Prop}{d:DefRec}{K:Params->W.Frag}{CX:World->CXT}{sp:World->Sp}{x:Str}
  (hn:l.most=some n) (hn2:n<=sizeLine) (hdf:d.params.defaults=[]) (hr:Xx k callerA)
  (hY:∀(w:World) (h:Heap),YP w h->(K w.params).In h)
  (F:∀(w:World) (mg:Str->Option Value) (fa:Addr) (h:Heap),(K w.params).In h->h.Ns mainGlobals mg->mg d.name=some (.ref fa) ->
   ∃fd:FuncData,(∀(s:Shared) (u:Value),BindsTo s fd ⟨[u],[]⟩ [(x,u)]) /\
    ∀base:Heap,(K w.params).In base->base.Ns mainGlobals mg->Ye l.prog w (K w.params) mg base (CX w) k fa fd [x] (sp w))
  (hsp:∀(w:World) (H:Hp) (a:Addr) (ns:List Int),ns.length<=n->Only H->SqL (K w.params) H a (ns.map V.int)->sp w [.ref a] H (fun v _=>v=.bl true) fun _ _ _=>False)
  (hCX:∀(w:World) (H:Hp) (s:Shared) (e:Value) (s':Shared),CX w [] H s (fun _ _ _=>False) e s'->False) :
  W.WalkO q loose XP YP l.row.toRowW d [] (fun f vs=>PySem.call f vs):=by
 refine Att.attach_call hn hdf fun w s₀ s₁ mg mb fa o pm cd doc a vs ns G Y ho hd hcd hmg hobj hints hlen hg=>?_;have KX:=hY w _ Y;obtain⟨fd,hb,hF⟩:=F w mg fa _ KX G.T.g hmg;exact law_call KX G.T.g G.T.b G.T.builtins G.T.nolimit hg hobj hints (nQ hlen hn2) hr hF hb (fun H hO hS=>hsp w H a ns hlen hO hS) fun H e s'=>hCX w H s₁ e s'
def XL(s:Stmt)(j:Nat):Stmt:=match s with
 |.ClassDef _ _ _ body _ _ _ _ _ _ _=>body.getD j (.Pass ⟨0,0,0,0⟩)
 |_=>.Pass ⟨0,0,0,0⟩
def ZG(s:Stmt):Arguments:=match s with
 |.FunctionDef _ a _ _ _ _ _ _ _ _=>a
 |_=>{ posonlyargs:=[],args:=[],vararg:=none,kwonlyargs:=[],kw_defaults:=[],kwarg:=none,defaults:=[] }
def ZE(s:Stmt):List Stmt:=match s with
 |.FunctionDef _ _ b _ _ _ _ _ _ _=>b
 |_=>[]
def Zb(s:Stmt):Scope:=match s with
 |.FunctionDef _ _ _ _ _ _ sc _ _ _=>sc
 |_=>{ kind:=.function,names:=[],isGenerator:=false,isCoroutine:=false }
abbrev CX0:CXT:=fun _ _ _ _ _ _=>False
abbrev E0:XK:=fun _ _ _=>False
theorem Zs{X:Cx}:UC CX0 X E0:=fun _ _ _ _ _ _ _ h=>h.elim
structure Fun(K:W.Frag)(x qual:Str)(st:Stmt)(f:Addr)(fd:FuncData):Prop where
 ex:∃(oc:Value) (od:Option Addr) (kV doc pm:Value) (an:Option Addr) (lD ct:Value) (osl:Array (Option Value)),
  fd=W.fnOf x qual (ZG st) (ZE st) (Zb st) .none kV doc pm an lD ct/\K.lookup f=some ⟨oc,od,.func fd,osl⟩/\W.codeIn K lD qual=true
 kp:W.keepIn K (.ref f)=true
section
variable{P:Program}{w:World}{K:W.Frag}{mg:Str->Option Value}{base:Heap}
theorem Fun.ok{x qual:Str}{st:Stmt}{f:Addr}{fd:FuncData}{N ps:List Str}{k:Nat}{sp:Sp}(F:Fun K x qual st f fd)(S:ZH N ps (Zb st))(len:∀vs H Q E,sp vs H Q E->vs.length=ps.length)
  (hbody:∀(lD:Value) (A:Around) (outer:List Env) (s:Shared) (H:Hp) (vs:List V) (Q:VK) (E:XK),Xx k (A.deeper (envOfC qual (Zb st) s.heap.objs.size f lD))->sp vs H Q E ->
   ∃t,PSs (cxOf CX0 P w K mg base N qual (Zb st) f lD A outer s H E).nox (ZE st) t/\t { nx:=fun _ H'=>Q .non H',rt:=Q } (start N vs) H):Ye P w K mg base CX0 (k+1) f fd ps sp:=by
 obtain⟨oc,od,kV,doc,pm,an,lD,ct,osl,rfl,lk,hcd⟩:=F.ex;refine fn_of lk hcd S len fun A outer s H vs Q E hr hsp=>?_;obtain⟨t,h,q⟩:=hbody lD A outer s H vs Q E hr hsp;exact⟨t,h.nox,q⟩
theorem Fun.binds{x qual:Str}{st:Stmt}{f:Addr}{fd:FuncData}{ps:List Str}(F:Fun K x qual st f fd)
  (h:∀(kV doc pm:Value) (an:Option Addr) (lD ct:Value) (us:List Value),us.length=ps.length->bindArgs (W.fnOf x qual (ZG st) (ZE st) (Zb st) .none kV doc pm an lD ct) ⟨us,[]⟩=pure (ps.zip us)):ZT K fd ps []:=by
 obtain⟨oc,od,kV,doc,pm,an,lD,ct,osl,rfl,lk,hcd⟩:=F.ex;exact .all (h kV doc pm an lD ct)
theorem Zo{x qual:Str}{st:Stmt}{f:Addr}{oc:Value}{od an:Option Addr}{osl:Array (Option Value)}{kV doc pm lD ct:Value}(l:K.lookup f=some ⟨oc,od,.func (W.fnOf x qual (ZG st) (ZE st) (Zb st) .none kV doc pm an lD ct),osl⟩)
  (c:W.codeIn K lD qual=true) (k:W.keepIn K (.ref f)=true):Fun K x qual st f (W.fnOf x qual (ZG st) (ZE st) (Zb st) .none kV doc pm an lD ct):=⟨⟨oc,od,kV,doc,pm,an,lD,ct,osl,rfl,l,c⟩,k⟩
end
theorem hu_of{A:Around}{k:Nat}(hr:Xx k A):A.units+1<cLine:=Nat.lt_of_le_of_lt (Nat.add_le_add_left (by decide:1<=64) _) hr.units
section
variable{X:Cx}
theorem pv(i:Nat){x:Str}{pos:Pos}(hN:X.N[i]?=some x:=by rfl)(hv:Vis X.env.scope x:=by first|exact Or.inl rfl|exact Or.inr (Or.inl rfl)|exact Or.inr (Or.inr rfl))(hd:(x==("__debug__" : Str))=false:=by decide)
  (hcd:(x==("__classdict__" : Str))=false:=by decide):PE X (.Name x pos) (tVar i):=pe_var hN hv hd hcd
end
theorem Z6{A B:Prop}(h:B):if false=true then A else B:=by
 rw[if_neg nh];exact h
theorem YM{A B:Prop}(h:A):if true=true then A else B:=by
 rw[if_pos rfl];exact h
theorem XS{c A B:Prop}[Decidable c](h1:c->A)(h2:¬c->B):if c then A else B:=by
 by_cases h:c
 ·rw[if_pos h];exact h1 h
 ·rw[if_neg h];exact h2 h
def Zf(H H':Hp):Prop:=∀b o,H b=some o->H' b=some o
theorem Zf.refl(H:Hp):Zf H H:=fun _ _ h=>h
theorem Zf.trans{H H1 H2:Hp}(a:Zf H H1)(b:Zf H1 H2):Zf H H2:=fun c o h=>b c o (a c o h)
theorem Zf.free{H H':Hp}(e:Zf H H'){l:Addr}(h:H' l=Option.none):H l=Option.none:=by
 cases q:H l with
 |none=>rfl
 |some o=>
  rw[e l o q] at h;cases h
theorem Zf.seq{K:W.Frag}{H H':Hp}{a:Addr}{xs:List V}(e:Zf H H')(h:SqL K H a xs):SqL K H' a xs:=by
 rcases h with(h|⟨o,h⟩)|h
 ·exact .inl (.inl (e _ _ h))
 ·exact .inl (.inr ⟨o,e _ _ h⟩)
 ·exact .inr h
end L2
set_option maxHeartbeats 8000000
namespace L3
open PySem PySem.Spec PyProof.Rows L2
abbrev St:=L2.St
def sub(ix:List (Option Nat))(σ:St):St:=ix.map fun o=>o.bind fun j=>(σ[j]?).join
theorem thnF{α:Type}{t:Sem α}{Q Q':α->Shared->Prop}{M:Model}{A:Around}{E:Value->Shared->Prop}{s:Shared}(h:wpAny M A t Q (fun _ _=>False) s)(hQ:∀a s,Q a s->Q' a s):wpAny M A t Q' E s:=
 oj h hQ fun _ _ z=>z.elim
def PTs(X:Cx)(ifs:List Expr)(t:TT):Prop:=
 ∀(lC:List (Addr×Obj)) (s:Shared) (σ:St) (H:Hp) (Q:Bool->Hp->Prop),Inv X lC σ H s->t σ H Q ->
  wpAny (model X.prog X.w) X.A (forIn ifs true fun c r=>if r=true then do let ok <- isTrue c X.env (eval c X.env);pure (ForInStep.yield ok) else pure (ForInStep.yield r)) (TP X lC σ Q) X.xe s
def Vh:TT:=fun _ H Q=>Q true H
theorem ZF{X:Cx}:PTs X [] Vh:=fun _ _ _ H _ I h=>wpAny_tests_nil ⟨H,I,h⟩
theorem WI{X:Cx}{c:Expr}{t:TT}(h:PT X c t):PTs X [c] t:=fun lC s σ H Q I q=>wpAny_tests_one (h lC s σ H Q I q)
def Xv(scope:Scope)(env:Env):List (Str×Addr):=(scope.names.filter fun y=>y.2==.free).reverse.map fun y=>(y.1,(env.cells.lookup y.1).getD 0)
theorem clos_loop{env:Env}:∀(ns:List (Str×NameKind)) (acc:List (Str×Addr)),(∀y∈ns,y.2=.free->(env.cells.lookup y.1).isSome=true) ->
  (forIn ns acc fun(x:Str×NameKind) (r:List (Str×Addr))=>if x.2==.free then do let a <- cellOf env x.1;pure (ForInStep.yield ((x.1,a)::r)) else pure (ForInStep.yield r):Sem (List (Str×Addr))) =
   pure ((ns.filter fun y=>y.2==.free).reverse.map (fun y=>(y.1,(env.cells.lookup y.1).getD 0))++acc):=by
 intro ns
 induction ns with
 |nil=>intro acc _;rfl
 |cons y r ih=>
  intro acc h;have hr:∀z∈r,z.2=.free->(env.cells.lookup z.1).isSome=true:=fun z hz=>h z (oe _ hz);rw[List.forIn_cons]
  by_cases hf:(y.2==NameKind.free)=true
  ·have hs:=h y pi (by simpa using hf);obtain⟨c,hc⟩:=rG.mp hs;have e1:cellOf env y.1=pure c:=by unfold cellOf;rw[hc]
   rw[if_pos hf,e1,pure_bind,pure_bind];refine(ih _ hr).trans ?_;rw[p9 (by simpa using hf),List.reverse_cons,nP];simp[hc]
  ·rw[if_neg hf,pure_bind];refine(ih _ hr).trans ?_;rw[pJ (by simpa using hf)]
theorem clos_eq{scope:Scope}{env:Env}(h:∀y∈scope.names,y.2=.free->(env.cells.lookup y.1).isSome=true):closureFor scope env=pure (Xv scope env):=by
 have e:=clos_loop (env:=env) scope.names [] h;rw[oC] at e;unfold closureFor;rw[show Xv scope env=(scope.names.filter fun y=>y.2==.free).reverse.map (fun y=>(y.1,(env.cells.lookup y.1).getD 0)) from rfl];rw[<- pure_bind (m:=Sem) ((scope.names.filter fun y=>y.2==.free).reverse.map (fun y=>(y.1,(env.cells.lookup y.1).getD 0))) pure,<- e]
theorem Vp{β:Type}(f:Str->β):∀(l:List (Str×NameKind)) (x:Str),(l.map fun y=>(y.1,f y.1)).lookup x=if x∈l.map (·.1) then some (f x) else none
 |[],x=>by simp
 |y::r,x=>by
  rw[mV,nR,Vp f r x]
  by_cases e:x=y.1
  ·subst e;simp
  ·have hb:(x==y.1)=false:=by simpa using e
   rw[hb]
   by_cases hm:x∈r.map (·.1)
   ·rw[if_pos hm,if_pos (by rw[mV];exact oe _ hm)]
   ·rw[if_neg hm,if_neg (by rw[mV];intro z;rcases nu.mp z with z|z;exact e z;exact hm z)]
theorem YG{scope:Scope}{env:Env}{x:Str}{c:Addr}(h:∀y∈scope.names,y.2=.free->(env.cells.lookup y.1).isSome=true)(e:(Xv scope env).lookup x=some c):env.cells.lookup x=some c:=by
 unfold Xv at e;rw[Vp (fun z=>(env.cells.lookup z).getD 0)] at e
 split at e
 ·rename_i hx
  obtain⟨y,hy,rfl⟩:=mW.mp hx;obtain⟨h1,h2⟩:=n5.mp (List.mem_reverse.mp hy);obtain⟨d,hd⟩:=rG.mp (h y h1 (by simpa using h2));have e':=nv e;rw[hd] at e' ⊢;exact ni some e'
 ·cases e
theorem Vm{scope:Scope}{env:Env}{x:Str}(hx:(x,NameKind.free)∈scope.names):∃c,(Xv scope env).lookup x=some c:=by
 unfold Xv;rw[Vp (fun z=>(env.cells.lookup z).getD 0),if_pos]
 ·exact⟨_,rfl⟩
 ·exact mW.mpr ⟨(x,.free),List.mem_reverse.mpr (n5.mpr ⟨hx,by simp⟩),rfl⟩
theorem Vx{env:Env}:∀{names:List (Str×NameKind)}{x:Str}{k:NameKind},
  (names.map fun(n,k)=>if(k==NameKind.free&&env.scope.kind==.function&&env.kindOf n==some .cell) then(n,NameKind.cell) else(n,k)).lookup x=some k ->
   names.lookup x=some k\/(k=.cell/\names.lookup x=some .free)
 |[],_,_,h=>by simp at h
 | (n,k0)::r,x,k,h=>by
  rw[mV] at h;dsimp only at h;cases hx:x==n with
  |true=>
   by_cases hc:(k0==NameKind.free&&env.scope.kind==.function&&env.kindOf n==some .cell)=true
   ·rw[if_pos hc] at h;simp only[nR,hx] at h ⊢;have:k0=.free:=by
     have h1:=(m8 _ _▸((m8 _ _▸hc).1)).1;simpa using h1
    exact .inr ⟨(nv h).symm,by rw[this]⟩
   ·rw[if_neg hc] at h;simp only[nR,hx] at h ⊢;exact .inl h
  |false=>
   have h':(r.map fun(n,k)=>if(k==NameKind.free&&env.scope.kind==.function&&env.kindOf n==some .cell) then(n,NameKind.cell) else(n,k)).lookup x=some k:=by
    by_cases hc:(k0==NameKind.free&&env.scope.kind==.function&&env.kindOf n==some .cell)=true
    ·rw[if_pos hc] at h;simpa only[nR,hx] using h
    ·rw[if_neg hc] at h;simpa only[nR,hx] using h
   simp only[nR,hx];exact Vx h'
theorem Vv{env:Env}:∀{names:List (Str×NameKind)}{x:Str},names.lookup x=some .free ->
  (names.map fun(n,k)=>if(k==NameKind.free&&env.scope.kind==.function&&env.kindOf n==some .cell) then(n,NameKind.cell) else(n,k)).lookup x=some .cell \/
  (names.map fun(n,k)=>if(k==NameKind.free&&env.scope.kind==.function&&env.kindOf n==some .cell) then(n,NameKind.cell) else(n,k)).lookup x=some .free
 |[],_,h=>by simp at h
 | (n,k0)::r,x,h=>by
  rw[mV];dsimp only;cases hx:x==n with
  |true=>
   simp only[nR,hx] at h;have e:k0=.free:=nv h
   by_cases hc:(k0==NameKind.free&&env.scope.kind==.function&&env.kindOf n==some .cell)=true
   ·rw[if_pos hc];exact .inl (by simp only[nR,hx])
   ·rw[if_neg hc];exact .inr (by simp only[nR,hx];rw[e])
  |false=>
   simp only[nR,hx] at h;have ih:=Vv (env:=env) h
   by_cases hc:(k0==NameKind.free&&env.scope.kind==.function&&env.kindOf n==some .cell)=true
   ·rw[if_pos hc];simpa only[nR,hx] using ih
   ·rw[if_neg hc];simpa only[nR,hx] using ih
structure ZA(sc:Scope)(N Nc:List Str)(ix:List (Option Nat))(scope:Scope):Prop where
 kind:scope.kind=.function
 nocell:∀y∈scope.names,y.2≠.cell
 names:∀y∈scope.names,y.2=.local->scope.names.lookup y.1=some .local
 free:∀y∈scope.names,y.2=.free->sc.names.lookup y.1=some .cell\/sc.names.lookup y.1=some .free
 len:ix.length=Nc.length
 chk:((ix.zip Nc).all fun p=>match p.1 with|none=>true|some j=>N[j]?==some p.2&&scope.names.lookup p.2==some .free)=true
theorem ZA.at_{sc:Scope}{N Nc:List Str}{ix:List (Option Nat)}{scope:Scope}(o:ZA sc N Nc ix scope){i j:Nat}{x:Str}(h1:ix[i]?=some (some j))(h2:Nc[i]?=some x):N[j]?=some x/\scope.names.lookup x=some .free:=by
 have hm:(some j,x)∈ix.zip Nc:=by
  refine om (i:=i) ?_;rw[List.getElem?_zip_eq_some];exact⟨h1,h2⟩
 have q:=nY.mp o.chk _ hm;have q':=m8 _ _▸q;exact⟨by simpa using q'.1,by simpa using q'.2⟩
def Xf(X:Cx)(Nc:List Str)(scope:Scope)(cl:List (Str×Addr))(C:Addr)(s:Shared)(H:Hp)(fp:List Addr):Cx where
 prog:=X.prog
 w:=X.w
 K:=X.K
 mg:=X.mg
 base:=X.base
 A:=X.A
 N:=Nc
 s₀:=s
 H₀:=H
 env:=compEnvC scope cl C X.env
 outer:=X.stack
 stack:=X.stack
 ex:=fp
 fn:=fun x=>(cl.lookup x).isNone
 calm:=X.calm
 pn:=X.pn
 xe:=fun _ _=>False
def zS(J:It)(D:Addr)(g:TG)(tt:TT)(te:TE)(σ0:St)(H1:Hp)(Q:VK):Prop:=
 ∃W:Nat->Nat->St->Hp->Prop,(∃m,W 0 m σ0 (upd H1 D (.lst [])))/\∀i m σ' H',W i m σ' H'->(J.stop i H'/\Q (.ref D) H') \/
  (J.go i H'/\∃(N:V->St->Hp->Prop) (N0:St->Hp->Prop),(∀v σ2 H5,N v σ2 H5->∃xs,H5 D=some (.lst xs)/\xs.length<sizeLine/\∃m',m'<m/\W (i+1) m' σ2 (upd H5 D (.lst (xs++[v])))) /\
   (∀σ2 H4,N0 σ2 H4->∃m',m'<m/\W (i+1) m' σ2 H4)/\∀x H2,J.yld i H' x H2->g x σ' H2 fun σ2 H3=>tt σ2 H3 fun c H4=>if c=true then te σ2 H4 fun v H5=>N v σ2 H5 else N0 σ2 H4)
def tComp(wi:TI)(ix:List (Option Nat))(g:TG)(tt:TT)(te:TE):TE:=fun σ H Q=>wi σ H fun J H1=>∀D,H1 D=none->zS J D g tt te (sub ix σ) H1 Q
theorem loop_ofX{prog:Program}{w:World}{A:Around}{R:Result->Shared->Prop}{s:Shared}{elt target iter:Expr}{ifs:List Expr}{scope:Scope}{pos:Pos}{it acc:Value}{env:Env}{F:Value->Shared->Prop}(J:Nat->Shared->Prop)
  (hF:∀e s',F e s'->notedBy (model prog w) A env (fun e s'=>R (.error e) s') e s')
  (turn:∀n s,J n s->wpAny (model prog w) A (pyNext it) (fun r s1=>match r with
   |none=>R (.ok .next) s1
   |some v=>wpAny (model prog w) A (letOwnedTupleGo target it v) (fun _ s2=>wpAny (model prog w) A (assign target env v) (fun _ s3=>
     wpAny (model prog w) A (forIn ifs true fun c r=>if r=true then do let ok <- isTrue c env (eval c env);pure (ForInStep.yield ok) else pure (ForInStep.yield r)) (fun ok s4=>
      if ok=true then wpAny (model prog w) A (eval elt env) (fun x s5=>wpAny (model prog w) A (call (.builtin "list.append") [acc,x]) (fun _ s6=>∃m,m<n/\J m s6) F s5) F s4
      else ∃m,m<n/\J m s4) F s3) F s2) F s1) F s)
  (n:Nat) (h:J n s):codeAny (model prog w) A (.compLoop (.ListComp elt [⟨target,iter,ifs,0⟩] scope pos) 0 it acc env) R s:=by
 refine codeAny_loop rfl J (fun k t hJ=>?_) n h
 show wpAny _ A ((compTurn (.ListComp elt [⟨target,iter,ifs,0⟩] scope pos) 0 it acc env).onRaise _) _ _ t
 refine wpAny_noted ?_;rw[compTurn_list];refine mL (oQ (mL (oj (turn k t hJ) (fun r s1 h1=>?_) hF)));cases r with
 |none=>exact mQ h1
 |some v=>
  refine mL (oj h1 (fun _ s2 h2=>mL (oj h2 (fun _ s3 h3=>mL (oj h3 (fun ok s4 h4=>?_) hF)) hF)) hF);cases ok with
  |false=>exact mQ ⟨rfl,h4⟩
  |true=>exact mL (mL (oj h4 (fun x s5 h5=>mL (oj h5 (fun _ s6 h6=>mQ (mQ ⟨rfl,h6⟩)) hF)) hF))
theorem loop_of{prog:Program}{w:World}{A:Around}{R:Result->Shared->Prop}{s:Shared}{elt target iter:Expr}{ifs:List Expr}{scope:Scope}{pos:Pos}{it acc:Value}{env:Env}(J:Nat->Shared->Prop)
  (turn:∀n s,J n s->wpAny (model prog w) A (pyNext it) (fun r s1=>match r with
   |none=>R (.ok .next) s1
   |some v=>wpAny (model prog w) A (letOwnedTupleGo target it v) (fun _ s2=>wpAny (model prog w) A (assign target env v) (fun _ s3=>
     wpAny (model prog w) A (forIn ifs true fun c r=>if r=true then do let ok <- isTrue c env (eval c env);pure (ForInStep.yield ok) else pure (ForInStep.yield r)) (fun ok s4=>
      if ok=true then wpAny (model prog w) A (eval elt env) (fun x s5=>wpAny (model prog w) A (call (.builtin "list.append") [acc,x]) (fun _ s6=>∃m,m<n/\J m s6) (fun _ _=>False) s5) (fun _ _=>False) s4
      else ∃m,m<n/\J m s4) (fun _ _=>False) s3) (fun _ _=>False) s2) (fun _ _=>False) s1) (fun _ _=>False) s)
  (n:Nat) (h:J n s):codeAny (model prog w) A (.compLoop (.ListComp elt [⟨target,iter,ifs,0⟩] scope pos) 0 it acc env) R s:=
 loop_ofX (F:=fun _ _=>False) J (fun _ _ z=>z.elim) turn n h
section
variable{X:Cx}{lC:List (Addr×Obj)}{σ:St}{H:Hp}{s:Shared}{Nc:List Str}{ix:List (Option Nat)}{scope:Scope}
theorem qM(I:Inv X lC σ H s)(ok:ZA X.env.scope X.N Nc ix scope):∀y∈scope.names,y.2=.free->(X.env.cells.lookup y.1).isSome=true:=fun y hy hf=>by
 obtain⟨c,hc⟩:=I.ok.has y.1 (ok.free y hy hf);rw[hc];rfl
theorem kF{fp:List Addr}{h1:Heap}{t':Nat}(I:Inv X lC σ H s)(ok:ZA X.env.scope X.N Nc ix scope)(hf:∀b∈fp,Ve X lC H b)(hob:∀b∈fp,∃o,s.heap.get? b=some o)
  {m:Str->Option Value} (hn:h1.Ns s.heap.objs.size m) (hk:∀b o,s.heap.get? b=some o->h1.get? b=some o) :
  Inv (Xf X Nc scope (Xv scope X.env) s.heap.objs.size s H fp) lC (sub ix σ) H { s with heap:=h1,toks:=t' }:=by
 have ac:=qM I ok;have old:∀{b:Addr}{o:Obj},s.heap.get? b=some o->b≠s.heap.objs.size:=fun e=>na (mR e);refine⟨⟨I.ok.mod,?_,I.ok.glob,I.ok.blt,mP _,?_,?_,?_,I.ok.hd,I.ok.frames,.inl rfl,?_,I.bs,nQ I.ok.bsz I.sz,?_,?_,I.stack,I.stkFree⟩,rfl,I.bare,Un.kept hk,⟨m,hn,?_⟩,?_,?_,?_,?_,I.hok.kept hk,?_⟩
 ·exact ok.kind
 ·intro x y c e1 e2;exact I.ok.inj x y c (YG ac e1) (YG ac e2)
 ·intro x hx;have key:∀k,(relabel scope X.env).names.lookup x=some k->(k=.cell\/k=.free)->∃c,(Xv scope X.env).lookup x=some c:=fun k e hkk=>by
   rcases Vx e with q|⟨_,q⟩
   ·rcases hkk with rfl|rfl
    ·exact absurd rfl (ok.nocell _ (nM q))
    ·exact Vm (nM q)
   ·exact Vm (nM q)
  rcases hx with e|e
  ·exact key _ e (.inl rfl)
  ·exact key _ e (.inr rfl)
 ·intro x c hfn e;have e':(Xv scope X.env).lookup x=some c:=e;have hfn':((Xv scope X.env).lookup x).isNone=true:=hfn;rw[e'] at hfn';cases hfn'
 ·intro b hb;obtain⟨o,e⟩:=hob b hb;obtain⟨f0,f1,f2,f3,f4,f5⟩:=hf b hb;exact⟨old e,fun x c q=>f4 x c (YG ac q)⟩
 ·intro b o e hb;obtain⟨f0,f1,f2,f3,f4,f5⟩:=hf b hb;rcases f3 with z|z
  ·exact I.ok.noex b o e z
  ·exact absurd (nJ (nJ (mR e) I.ok.bsz) z) (o6 _)
 ·intro b hb hz;obtain⟨f0,f1,f2,f3,f4,f5⟩:=hf b hb;rcases nu.mp (I.stkSub b hz) with z|z
  ·exact f1 z
  ·exact f2 z
 ·intro i x v e1 e2 e3;have e1:Nc[i]?=some x:=e1;unfold sub at e2;rw[mU] at e2;cases hi:ix[i]? with
  |none=>rw[hi] at e2;cases e2
  |some o=>
   cases o with
   |none=>rw[hi] at e2;cases e2
   |some j=>
    obtain⟨hN,hfree⟩:=ok.at_ hi e1;have e4:σ[j]?=some (some v):=by
     rw[hi] at e2;have e2':some ((σ[j]?).join)=some (some v):=e2;have e5:=nv e2';cases hj:σ[j]? with
     |none=>rw[hj] at e5;cases e5
     |some z=>rw[hj] at e5;exact ni some e5
    have hvis:Vis X.env.scope x:=by
     rcases ok.free (x,.free) (nM hfree) rfl with q|q
     ·exact .inr (.inl q)
     ·exact .inr (.inr q)
    obtain⟨m0,hn0,hl⟩:=I.loc;obtain⟨u,r,lk⟩:=hl j x v hN e4 hvis;refine⟨u,r,.inr ⟨Vv hfree,?_⟩⟩;rcases lk with⟨q,_⟩|⟨_,c,hc,z⟩
    ·rcases ok.free (x,.free) (nM hfree) rfl with q2|q2
     ·exact absurd (q.symm.trans q2) (by decide)
     ·exact absurd (q.symm.trans q2) (by decide)
    ·obtain⟨d,hd⟩:=Vm (env:=X.env) (nM hfree);have:=YG ac hd;rw[hc] at this;cases this;obtain⟨oc,e5,e6⟩:=z;exact⟨c,hd,oc,hk c oc e5,e6⟩
 ·intro x c e;obtain⟨v,oc,e5,e6⟩:=I.cell x c (YG ac e);exact⟨v,oc,hk c oc e5,e6⟩
 ·exact I.hok.fresh (mP _)
 ·intro x c e;exact I.freeC x c (YG ac e)
 ·intro p hp;obtain⟨e,n,ne,nf,d⟩:=I.pin p hp;refine⟨hk _ _ e,n,old e,fun z=>?_,d⟩;rcases nu.mp (I.stkSub p.1 z) with q|q
  ·exact ne q
  ·exact nf q
 ·unfold sub;rw[mM];exact ok.len
theorem comp_end{fp:List Addr}{cl:List (Str×Addr)}{C:Addr}{σ':St}{H':Hp}{s':Shared}{h':Heap}(I:Inv X lC σ H s)(hf:∀b∈fp,Ve X lC H b)(hC:s.heap.get? C=none)
  (J:Inv (Xf X Nc scope cl C s H fp) lC σ' H' s') (sb:Heap.SameBut C s'.heap h'):Inv X lC σ H' { s' with heap:=h' }:=by
 have u:Un (frs X.stack) fp H H' s.heap s'.heap:=J.base;have hCf:H' C=none:=J.free;have hCn:∀{b:Addr}{o:Obj},s.heap.get? b=some o->b≠C:=fun e z=>by rw[z,hC] at e;cases e
 refine I.call' (s':={ s' with heap:=h' }) (ch:=fp) J.os ⟨fun b o e n h1 h2=>?_,fun b o e n h1 h2=>?_,u.free,fun b o e h2=>?_,u.tups,u.frzs,u.tbls⟩ ?_ J.bare fun b hb=>?_
 ·exact(sb.2 b (hCn e)).trans (u.keep b o e n h1 h2)
 ·obtain⟨sl,q⟩:=u.slot b o e n h1 h2;exact⟨sl,(sb.2 b (hCn e)).trans q⟩
 ·obtain⟨o',q⟩:=u.there b o e h2;exact⟨o',(sb.2 b (hCn e)).trans q⟩
 ·intro b o e;refine(J.hok b o e).stay (fun c v hc q=>(sb.2 c ?_).trans q) (fun _ q=>q) fun _ _ q=>q;rintro rfl;rcases hc with z|z
  ·rw[<- z,hCf] at e;cases e
  ·rw[hCf] at z;cases z
 ·obtain⟨f0,f1,f2,f3,f4,f5⟩:=hf b hb;exact⟨f3,f1,f4,f5⟩
end
def UH(k:Key)(l:List Key):Bool:=l.any fun x=>decide (x=k)
theorem ke{k:Key}{l:List Key}:UH k l=true↔k∈l:=by
 unfold UH;rw[oR];constructor
 ·rintro⟨x,hx,e⟩;have:=ny e;subst this;exact hx
 ·intro h;exact⟨k,h,by simp⟩
theorem memK_snoc(k' k:Key)(l:List Key):(UH k' l||decide (k'=k))=UH k' (l++[k]):=by
 unfold UH;rw[List.any_append]
 by_cases e:k'=k
 ·subst e;simp
 ·have e':¬k=k':=fun z=>e z.symm;simp[e,e']
theorem memK_not{k:Key}{l:List Key}(h:¬k∈l):UH k l=false:=by
 cases e:UH k l with
 |false=>rfl
 |true=>exact absurd (ke.mp e) h
theorem Jb{k:Key}{v:Value}(h:V4 k v=true):v.scannable=true:=by
 rcases YC h with⟨i,t,rfl,rfl⟩|⟨x,t,rfl,rfl⟩<;>rfl
theorem qd{prog:Program}{w:World}{h:Heap}{a:Addr}{S S':Key->Bool}{n n':Nat}(x:h.SetOf (Z3 prog w) a S n)(e:∀k,S k=S' k)(en:n=n'):h.SetOf (Z3 prog w) a S' n':=by
 have:S=S':=funext e;subst this;subst en;exact x
theorem UM{prog:Program}{w:World}{h h':Heap}{a:Addr}{S:Key->Bool}{n:Nat}(x:h.SetOf (Z3 prog w) a S n)(k:∀o,h.get? a=some o->h'.get? a=some o):h'.SetOf (Z3 prog w) a S n:=by
 obtain⟨o,es,ep,t,ho,r⟩:=x;exact⟨o,es,ep,t,k o ho,r⟩
section
variable{prog:Program}{w:World}{A:Around}{E:Value->Shared->Prop}{R:Result->Shared->Prop}
theorem set_loop{I ax S:Addr}{items:Array Value}{ks:List Key}(hh:A.handled=none)(hne:ax≠I)(hSI:S≠I)(hSa:S≠ax)
  (hv:∀(i:Nat) v,items[i]?=some v->∃k,ks[i]?=some k/\V4 k v=true) (hl:ks.length=items.size) (hb:items.size+1<scanBound) :
  ∀(c i:Nat) (s:Shared) (n:Nat),items.size-i=c->i<=items.size->s.heap.IsListIter I ax i/\s.heap.IsList ax items ->
   s.heap.SetOf (Z3 prog w) S (fun k=>UH k (ks.take i)) n->n<=i->(n=i↔(ks.take i).Nodup) ->
   (∀(h':Heap) (tk n':Nat),h'.SetOf (Z3 prog w) S (fun k=>UH k ks) n'->n'<=ks.length->(n'=ks.length↔ks.Nodup)->(∀b o,b≠S->b≠I->s.heap.get? b=some o->h'.get? b=some o) ->
    R (.ok (.ret .none)) { s with heap:=h',toks:=tk }) ->
   codeAny (model prog w) A (.builtin "set.update.loop" ⟨[.ref S,.ref I],[]⟩) R s:=by
 have W:=Walks.list (prog:=prog) (w:=w) (A:=A.in1) (by simpa using hh) I ax hne items;intro c
 induction c with
 |zero=>
  intro i s n hc hi st hS hn hnd hR;have e:i=items.size:=by omega
  subst e;refine pK PyProof.Rows.F.entry_set_update_loop ?_;rw[rd re _]
  show wpAny _ A.in1 (pyNext (.ref I) >>= _) _ _ s
  refine mL (W.done s _ _ st fun h' tk hk=>?_)
  show wpAny _ A.in1 (ret Value.none) _ _ _
  have et:ks.take items.size=ks:=by rw[<- hl];exact oy
  rw[et] at hnd;refine mQ (hR h' tk n (qd (UM hS fun o z=>hk S o (by simpa using hSI) z) (fun k=>by rw[et]) rfl) (by omega) (by rw[hl];exact hnd) fun b o _ hbI z=>hk b o (by simpa using hbI) z)
 |succ c ih=>
  intro i s n hc hi st hS hn hnd hR;have hlt:i<items.size:=by omega
  refine pK PyProof.Rows.F.entry_set_update_loop ?_;rw[rd re _]
  show wpAny _ A.in1 (pyNext (.ref I) >>= _) _ _ s
  refine mL (W.item i s _ _ hlt st fun v h1 tk hP st1 hk=>?_);obtain⟨k,hki,kis⟩:=hv i v hP;have hS1:h1.SetOf (Z3 prog w) S (fun k=>UH k (ks.take i)) n:=UM hS fun o z=>hk S o (by simpa using hSI) z
  show wpAny _ A.in1 (holding [v] (setAdd S v) >>= _) _ _ { s with heap:=h1,toks:=tk }
  refine mL (oo ?_);unfold setAdd;refine oo (mL ((Z3 prog w).pyHash (k:=k) kis ?_));refine wpAny_setAddHashed_of (knd:=Z3 prog w) (s:={ s with heap:=h1,toks:=tk+1 }) kis (Jb kis) hS1 (by omega) fun h2 hsb hS2=>?_;have hik:i<ks.length:=by omega
  have ek:ks[i]=k:=by
   have:=mO hik;rw[hki] at this;exact(nv this).symm
  have et:ks.take (i+1)=ks.take i++[k]:=by rw[List.take_add_one,hki];rfl
  have e1:∀k',(UH k' (ks.take i)||decide (k'=k))=UH k' (ks.take (i+1)):=fun k'=>by rw[et];exact memK_snoc _ _ _
  by_cases hin:k∈ks.take i
  ·have hS3:=qd (n':=n) hS2 e1 (by rw[if_pos (ke.mpr hin)]);refine mQ ⟨plainId_quiet re _,ih (i+1) _ n (by omega) hlt (W.frame _ _ _ st1 fun b hb o z=>?_) hS3 (by omega) ?_ fun h' tk' n' a1 a2 a3 a4=>?_⟩
   ·rw[hsb.2 b (fun q=>by subst q;simp at hb;exact hb.elim hSI hSa)];exact z
   ·constructor
    ·intro q;omega
    ·intro q;rw[et] at q;exact absurd hin (fun z=>(oS.mp q).2.2 _ z _ (by simp) rfl)
   ·exact hR h' tk' n' a1 a2 a3 fun b o hbS hbI z=>a4 b o hbS hbI (by rw[hsb.2 b hbS];exact hk b o (by simpa using hbI) z)
  ·have hS3:=qd (n':=n+1) hS2 e1 (by rw[memK_not hin];rfl);refine mQ ⟨plainId_quiet re _,ih (i+1) _ (n+1) (by omega) hlt (W.frame _ _ _ st1 fun b hb o z=>?_) hS3 (by omega) ?_ fun h' tk' n' a1 a2 a3 a4=>?_⟩
   ·rw[hsb.2 b (fun q=>by subst q;simp at hb;exact hb.elim hSI hSa)];exact z
   ·rw[et];constructor
    ·intro q;exact oS.mpr ⟨hnd.mp (by omega),by simp,fun a ha b hb q2=>by rw[nj.mp hb] at q2;subst q2;exact hin ha⟩
    ·intro q;have:=hnd.mpr (oS.mp q).1;omega
   ·exact hR h' tk' n' a1 a2 a3 fun b o hbS hbI z=>a4 b o hbS hbI (by rw[hsb.2 b hbS];exact hk b o (by simpa using hbI) z)
set_option maxHeartbeats 8000000 in
theorem yS{s:Shared}{l:Addr}{items:Array Value}{ks:List Key}{Q:Value->Shared->Prop}(hh:A.handled=none)(hl:s.heap.IsList l items)
  (hv:∀(i:Nat) v,items[i]?=some v->∃k,ks[i]?=some k/\V4 k v=true) (hz:ks.length=items.size) (hb:items.size+1<scanBound)
  (h:∀(h':Heap) (tk n:Nat),h'.SetOf (Z3 prog w) s.heap.objs.size (fun k=>UH k ks) n->n<=ks.length->(n=ks.length↔ks.Nodup)->(∀b o,s.heap.get? b=some o->h'.get? b=some o)->Q (.ref s.heap.objs.size) { s with heap:=h',toks:=tk }) :
  wpAny (model prog w) A (call (.type "set") [.ref l]) Q E s:=by
 have hmade:=oZ.made;have hsub:=oZ.sub;obtain⟨c,tl,hmro⟩:=oZ.mro;refine wpAny_call (codeAny_of_tree (mQ ⟨Code.quiet_builtin _ (by decide +kernel),pK PySem.F.entry_type_call ?_⟩));rw[Around.under_plain (weight_type_call_type "set" [.ref l] []) rfl];have g1:=oZ.notType;have g2:=oZ.canCreate;have g3:=PySem.F.typeCall_set_1 (.ref l)
 repeat (any_goals (first|assumption|wp_step))
 refine o9 (code_set_new_1 (.ref l) (E:=E) (Q₁:=fun obj t=>∃led:Bool,obj=.ref s.heap.objs.size/\t={ s with heap:=s.heap.push { cls:=.type "set",dict:=none,data:=.set #[] 0 (.fresh 0 0 led) } }) fun led=>⟨led,rfl,rfl⟩) fun r t hr=>?_;cases r with
 |error e=>exact hr
 |ok fl=>
  cases fl with
  |ret obj=>
   obtain⟨led,rfl,rfl⟩:=hr;have hS:(s.heap.push { cls:=.type "set",dict:=none,data:=.set #[] 0 (.fresh 0 0 led) }).get? s.heap.objs.size=some { cls:=.type "set",dict:=none,data:=.set #[] 0 (.fresh 0 0 led) }:=nI _ rfl;have hT:Shared.TypeIs { s with heap:=s.heap.push { cls:=.type "set",dict:=none,data:=.set #[] 0 (.fresh 0 0 led) } } (.ref s.heap.objs.size) "set" := ⟨_,hS,rfl⟩;have hli:=oZ.init.lookup;have hbi:=oZ.init.bind (.ref s.heap.objs.size)
   repeat (any_goals (first|assumption|wp_step))
   refine o9 (codeAny_call_builtin (R:=wants (fun r u=>r=.none/\∃h' tk n,u={ s with heap:=h',toks:=tk }/\h'.SetOf (Z3 prog w) s.heap.objs.size (fun k=>UH k ks) n/\n<=ks.length/\(n=ks.length↔ks.Nodup) /\
     (∀b o,s.heap.get? b=some o->h'.get? b=some o)) E) oZ.init.plain PySem.F.entry_set_init (check_set_init_1 hT ?_)) fun r2 u hr2=>?_
   ·obtain⟨ol,hol,hcl,nl,hdl⟩:=hl;obtain⟨ocls,odict,odata,oslots⟩:=ol;simp only at hcl hdl;subst hcl;subst hdl;have hol':(s.heap.push { cls:=.type "set",dict:=none,data:=.set #[] 0 (.fresh 0 0 led) }).get? l=some { cls:=.type "list",dict:=odict,data:=.seq items nl,slots:=oslots }:=m4 _ hol;have hsls:=PySem.F.sub_list_set;have hslf:=PySem.F.sub_list_frozenset;have hne:(Value.type "list" == Value.type "dict")=false:=by decide
    have hl1:(s.heap.push { cls:=.type "set",dict:=none,data:=.set #[] 0 (.fresh 0 0 led) }).IsList l items:=⟨_,hol',rfl,nl,rfl⟩;unfold Builtin.«set.__init__» noKeywords Builtin.Frozenset.updateFrom;generalize hPI:pyIter=PI
    wp_walk
    subst hPI;refine pE hl1 ?_;refine mL (wpAny_runValue ?_);have hlS:l<s.heap.objs.size:=mR hol;have z1:(s.heap.push { cls:=.type "set",dict:=none,data:=.set #[] 0 (.fresh 0 0 led) }).objs.size=s.heap.objs.size+1:=pj _ _;refine set_loop (ks:=ks) (items:=items) (ax:=l) (by simpa using hh) (by rw[z1];exact na (Nat.lt_succ_of_lt hlS)) (by rw[z1];exact na (pF _)) (o8 hlS) hv hz hb (items.size-0) 0 _ 0 (by omega) (og _)
     ⟨⟨_,nI _ rfl,rfl,rfl⟩,(hl1.push _)⟩ ?hS0 (mP _) (by simp) ?hR
    case hS0=>
     refine qd (UM (h:=s.heap.push { cls:=.type "set",dict:=none,data:=.set #[] 0 (.fresh 0 0 led) }) ?_ fun o z=>m4 _ z) (S:=fun _=>false) (fun k=>rfl) rfl;exact⟨_,#[],0,_,hS,⟨rfl,rfl,rfl⟩,rfl,(fun e he=>by simp at he),(fun k=>by simp[UH]),(by unfold scanBound;decide),rfl,rfl⟩
    case hR=>
     intro h' tk n a1 a2 a3 a4
     show wpAny _ _ _ _ _ _
     refine mQ ?_
     show wpAny _ _ (ret Value.none) _ _ _
     refine mQ ⟨rfl,h',tk,n,rfl,a1,a2,a3,fun b o z=>?_⟩;have hlt:=mR z;exact a4 b o (na hlt) (by rw[z1];exact na (Nat.lt_succ_of_lt hlt)) (m4 _ (m4 _ z))
   ·cases r2 with
    |error e=>exact hr2
    |ok fl2=>
     cases fl2 with
     |ret r=>
      obtain⟨rfl,h',tk,n,rfl,a1,a2,a3,a4⟩:=hr2
      repeat (any_goals (first|assumption|wp_step))
      exact h _ _ n a1 a2 a3 a4
     |_=>exact hr2.elim
  |_=>exact hr.elim
end
def SetN(a:Addr)(n:Nat):HO:=.ext fun h=>∃o es ep t,h.get? a=some o/\o.ExactSet/\o.data=.set es ep t/\t.fits es.size=true/\es.size=n
section
variable{X:Cx}
theorem xw:∀{ks:List Key}{us:List Value},ZP (ks.map kV) us->∀(i:Nat) v,us[i]?=some v->∃k,ks[i]?=some k/\V4 k v=true
 |[],_,.nil,i,v,h=>by simp at h
 |k::r,_,.cons a b,0,v,h=>by
  simp at h;subst h;refine⟨k,rfl,?_⟩;cases k with
  |inl n=>obtain⟨t,rfl⟩:=a;exact xx n t
  |inr x=>obtain⟨t,rfl⟩:=a;exact xj x t
 |k::r,_,.cons a b,i+1,v,h=>by
  obtain⟨k',e,q⟩:=xw b i v (by simpa using h);exact⟨k',by simpa using e,q⟩
theorem call_set(hc:X.calm=true):YB X (.type "set") (fun xs H Q=>∃(p:Addr) (ks:List Key),xs=[.ref p]/\SqL X.K H p (ks.map kV)/\ks.length<4000/\∀n a,n<=ks.length->(n=ks.length↔ks.Nodup)->H a=none->Q (.ref a) (upd H a (SetN a n))):=by
 intro lC s σ H xs us Q I r h;obtain⟨p,ks,rfl,hq,hl,q⟩:=h;obtain⟨u,rfl,ru⟩:=WM r;obtain rfl:u=Value.ref p:=ru;obtain⟨its,rv,pl,hz⟩:=I.list hq;have el:=rv.length;rw[mM] at el;refine yS (I.ok.hd hc) pl.isList (fun i v e=>xw rv i v (by simpa using e)) (by simpa using el) (by unfold scanBound;simp;omega) fun h' tk n a1 a2 a3 a4=>?_;refine⟨.ref s.heap.objs.size,_,I.laid a4 (mP _) ?_,rfl,q n _ a2 a3 (I.hok.fresh (mP _))⟩;obtain⟨o,es,ep,t,ho,e1,e2,e3,e4,e5,e6,e7⟩:=a1;refine⟨⟨o,es,ep,t,ho,e1,e2,e6,e7⟩,⟨o,ho⟩,?_⟩;rintro h1 h2 ⟨o1,es1,ep1,t1,b1,b2⟩ k;exact⟨o1,es1,ep1,t1,k _ b1,b2⟩
theorem call_lenS:YB X (.builtin "len") (fun xs H Q=>∃a n,xs=[.ref a]/\H a=some (SetN a n)/\n<4000/\Q (.int n) H):=by
 intro lC s σ H xs us Q I r h;obtain⟨a,n,rfl,ha,hn,q⟩:=h;obtain⟨u,rfl,ru⟩:=WM r;obtain rfl:u=Value.ref a:=ru;obtain⟨⟨o,es,ep,t,e1,e2,e3,e4,e5⟩,_⟩:=I.hok a _ ha;refine call_len_set e1 e2 e3 e4 (by omega) ?_;exact⟨.int n,H,I.tok _,⟨_,by rw[e5]⟩,q⟩
end
def Xw(ns:List Int):List Int:=ns.mergeSort fun a b=>decide (a<=b)
theorem Wx(ns:List Int):(Xw ns).Perm ns:=List.mergeSort_perm _ _
theorem sortI_pw(ns:List Int):(Xw ns).Pairwise (·<=·):=by
 have h:=List.pairwise_mergeSort (le:=fun a b:Int=>decide (a<=b)) (fun a b c h1 h2=>by simp at *; omega) (fun a b=>by simp;omega) ns;exact h.imp fun h=>by simpa using h
theorem sortI_eq{ns ms:List Int}(hp:ms.Perm ns)(hs:ms.Pairwise (·<=·)):ms=Xw ns:=
 W.ksm_same (hp.trans (Wx ns).symm) hs (sortI_pw ns)
def leS(a b:Str):Bool:=!decide (b.cps.toList<a.cps.toList)
theorem xq(a b c:Str)(h1:leS a b=true)(h2:leS b c=true):leS a c=true:=by
 unfold leS at *;simp only[pL,rf,List.not_lt] at *;exact List.le_trans h1 h2
theorem leS_total(a b:Str):(leS a b||leS b a)=true:=by
 unfold leS;simp only[rg,pL,rf,List.not_lt];exact List.le_total _ _
theorem leS_anti{a b:Str}(h1:leS a b=true)(h2:leS b a=true):a=b:=by
 unfold leS at *;simp only[pL,rf,List.not_lt] at *;have e:=List.le_antisymm h1 h2;cases a;cases b;simp only[Str.mk.injEq];exact Array.toList_inj.mp e
def Wm(ss:List Str):List Str:=ss.mergeSort leS
theorem UJ(ss:List Str):(Wm ss).Perm ss:=List.mergeSort_perm _ _
theorem sortS_pw(ss:List Str):(Wm ss).Pairwise (fun a b=>leS a b=true):=List.pairwise_mergeSort (le:=leS) xq leS_total ss
theorem sortS_eq{ss ts:List Str}(hp:ts.Perm ss)(hs:ts.Pairwise fun a b=>leS a b=true):ts=Wm ss:=
 (hp.trans (UJ ss).symm).eq_of_pairwise (fun x y _ _ h1 h2=>leS_anti h1 h2) hs (sortS_pw ss)
theorem xo:∀(l:List Str) (p:Str),risingS p l=true->(∀y∈l,leS p y=true)/\l.Pairwise fun a b=>leS a b=true
 |[],_,_=>⟨fun _ h=>(nomatch h),.nil⟩
 |x::r,p,h=>by
  have h':(!ltCps x.cps.toList p.cps.toList&&risingS x r)=true:=h;rw[m8] at h';have hx:leS p x=true:=by
   have:=h'.1;rw[ltCps_eq] at this;exact this
  obtain⟨a,b⟩:=xo r x h'.2;refine⟨fun y hy=>?_,.cons (fun y hy=>a y hy) b⟩;rcases nu.mp hy with rfl|hy
  ·exact hx
  ·exact xq _ _ _ hx (a y hy)
theorem kQ{l:List Str}(h:sortedS l=true):l.Pairwise fun a b=>leS a b=true:=by
 cases l with
 |nil=>exact .nil
 |cons x r=>
  obtain⟨a,b⟩:=xo r x h;exact .cons a b
theorem yh:∀{ss:List Str}{us:List Value},ZP (ss.map V.str) us->StrsAre us ss
 |[],_,.nil=>.nil
 |x::r,_,.cons a b=>by
  obtain⟨t,rfl⟩:=a;exact .cons x t (yh b)
theorem xg:∀{ss:List Str}{us:List Value},StrsAre us ss->ZP (ss.map V.str) us
 |_,_,.nil=>.nil
 |_,_,.cons y t r=>.cons ⟨t,rfl⟩ (xg r)
theorem yA:∀{ns:List Int}{us:List Value},IntsAre us ns->ZP (ns.map V.int) us
 |_,_,.nil=>.nil
 |_,_,.cons n t r=>.cons ⟨t,rfl⟩ (yA r)
theorem UR:∀{bs:List Bool}{us:List Value},ZP (bs.map V.bl) us->∀(i:Nat) v,us[i]?=some v->∃b,bs[i]?=some b/\v=.bool b
 |[],_,.nil,i,v,h=>by simp at h
 |b::r,_,.cons a c,0,v,h=>by simp at h;subst h;exact⟨b,rfl,a⟩
 |b::r,_,.cons a c,i+1,v,h=>by
  obtain⟨b',e,q⟩:=UR c i v (by simpa using h);exact⟨b',by simpa using e,q⟩
section
variable{X:Cx}
theorem vP:YB X (.builtin "sorted") (fun xs H Q=>∃(p:Addr) (ns:List Int),xs=[.ref p]/\SqL X.K H p (ns.map V.int)/\ns.length<64/\∀l,H l=none->Q (.ref l) (upd H l (.lst ((Xw ns).map V.int)))):=by
 intro lC s σ H xs us Q I r h;obtain⟨p,ns,rfl,hq,hl,q⟩:=h;obtain⟨u,rfl,ru⟩:=WM r;obtain rfl:u=Value.ref p:=ru;obtain⟨its,rv,pl,hz⟩:=I.list hq;have el:=rv.length;rw[mM] at el;refine sorted_ints pl.isList (UG rv) (by omega) fun out ms a1 a2 a3=>?_;obtain rfl:=sortI_eq a2 a3;obtain⟨e,he⟩:=sortedAll_at s.heap its out;have hlen:((Xw ns).map V.int).length<=sizeLine:=by rw[mM,(Wx ns).length_eq,<- mM (f:=V.int)];exact hz
 have ne:H (s.heap.objs.size+1)=none:=I.hok.fresh (oO _);exact⟨.ref (s.heap.objs.size+1),_,I.laid (o:=.lst ((Xw ns).map V.int)) (t':=s.toks) (fun b o z=>sortedAll_old z) (oO _) ⟨hlen,out.toList,e,yA a1,by simpa using he⟩,rfl,q _ ne⟩
theorem jd:YB X (.builtin "sorted") (fun xs H Q=>∃(p:Addr) (ss:List Str),xs=[.ref p]/\SqL X.K H p (ss.map V.str)/\ss.length<64/\∀l,H l=none->Q (.ref l) (upd H l (.lst ((Wm ss).map V.str)))):=by
 intro lC s σ H xs us Q I r h;obtain⟨p,ns,rfl,hq,hl,q⟩:=h;obtain⟨u,rfl,ru⟩:=WM r;obtain rfl:u=Value.ref p:=ru;obtain⟨its,rv,pl,hz⟩:=I.list hq;have el:=rv.length;rw[mM] at el;refine sorted_strs pl.isList (yh rv) (by omega) fun out ms a1 a2 a3=>?_;obtain rfl:=sortS_eq a2 (kQ a3);obtain⟨e,he⟩:=sortedAll_at s.heap its out;have hlen:((Wm ns).map V.str).length<=sizeLine:=by rw[mM,(UJ ns).length_eq,<- mM (f:=V.str)];exact hz
 have ne:H (s.heap.objs.size+1)=none:=I.hok.fresh (oO _);exact⟨.ref (s.heap.objs.size+1),_,I.laid (o:=.lst ((Wm ns).map V.str)) (t':=s.toks) (fun b o z=>sortedAll_old z) (oO _) ⟨hlen,out.toList,e,xg a1,by simpa using he⟩,rfl,q _ ne⟩
def rSorted(K:W.Frag):List V->Hp->VK->Prop:=fun xs H Q=>(∃(p:Addr) (ss:List Str),xs=[.ref p]/\SqL K H p (ss.map V.str)/\ss.length<64/\∀l,H l=none->Q (.ref l) (upd H l (.lst ((Wm ss).map V.str))))\/(∃(p:Addr) (ns:List Int),xs=[.ref p]/\SqL K H p (ns.map V.int)/\ns.length<64/\∀l,H l=none->Q (.ref l) (upd H l (.lst ((Xw ns).map V.int))))
theorem jN:YB X (.builtin "sorted") (rSorted X.K):=jd.or vP
theorem range_all{bs:List Bool}:((List.range bs.length).all fun i=>(bs[i]?).getD true)=bs.all id:=by
 induction bs with
 |nil=>rfl
 |cons b r ih=>
  rw[n9,rL,pb,o3,pb,<- ih];rfl
theorem range_any{bs:List Bool}:((List.range bs.length).any fun i=>(bs[i]?).getD false)=bs.any id:=by
 induction bs with
 |nil=>rfl
 |cons b r ih=>
  rw[n9,rL,pd,oz,pd,<- ih];rfl
theorem call_all(hc:X.calm=true):YB X (.builtin "all") (fun xs H Q=>∃(p:Addr) (bs:List Bool),xs=[.ref p]/\SqL X.K H p (bs.map V.bl)/\Q (.bl (bs.all id)) H):=by
 intro lC s σ H xs us Q I r h;obtain⟨p,bs,rfl,hq,q⟩:=h;obtain⟨u,rfl,ru⟩:=WM r;obtain rfl:u=Value.ref p:=ru;obtain⟨its,rv,pl,hz⟩:=I.list hq;have el:=rv.length;rw[mM] at el;have hlt:p<s.heap.objs.size:=by obtain⟨_,e,_⟩:=pl.isList;exact mR e
 refine call_all_walk (pE pl.isList ?_);refine⟨s.heap.objs.size,[s.heap.objs.size,p],[s.heap.objs.size],its.toArray.size,_,_,fun i=>(bs[i]?).getD true,rfl,Walks.list (A:=X.A.in1) (by simpa using I.ok.hd hc) _ p (na hlt) its.toArray,
  ⟨⟨_,nI _ rfl,rfl,rfl⟩,pl.isList.push _⟩,fun i v s' Q' E' hP hQ=>?_,fun h' tk hk=>?_⟩
 ·obtain⟨b,e,rfl⟩:=UR rv i v (by simpa using hP);simp only[e,Option.getD_some] at hQ;exact ow hQ
 ·rw[m7,<- el,range_all];exact⟨.bl _,H,I.kept fun b o e=>hk b o (by simpa using na (mR e)) (m4 _ e),rfl,q⟩
theorem call_any(hc:X.calm=true):YB X (.builtin "any") (fun xs H Q=>∃(p:Addr) (bs:List Bool),xs=[.ref p]/\SqL X.K H p (bs.map V.bl)/\Q (.bl (bs.any id)) H):=by
 intro lC s σ H xs us Q I r h;obtain⟨p,bs,rfl,hq,q⟩:=h;obtain⟨u,rfl,ru⟩:=WM r;obtain rfl:u=Value.ref p:=ru;obtain⟨its,rv,pl,hz⟩:=I.list hq;have el:=rv.length;rw[mM] at el;have hlt:p<s.heap.objs.size:=by obtain⟨_,e,_⟩:=pl.isList;exact mR e
 refine call_any_walk (pE pl.isList ?_);refine⟨s.heap.objs.size,[s.heap.objs.size,p],[s.heap.objs.size],its.toArray.size,_,_,fun i=>(bs[i]?).getD false,rfl,Walks.list (A:=X.A.in1) (by simpa using I.ok.hd hc) _ p (na hlt) its.toArray,
  ⟨⟨_,nI _ rfl,rfl,rfl⟩,pl.isList.push _⟩,fun i v s' Q' E' hP hQ=>?_,fun h' tk hk=>?_⟩
 ·obtain⟨b,e,rfl⟩:=UR rv i v (by simpa using hP);simp only[e,Option.getD_some] at hQ;exact ow hQ
 ·rw[m7,<- el,range_any];exact⟨.bl _,H,I.kept fun b o e=>hk b o (by simpa using na (mR e)) (m4 _ e),rfl,q⟩
theorem VS:YB X (.type "range") (fun xs H Q=>∃j:Int,xs=[.int j]/\∀p,H p=none->Q (.ref p) (upd H p (.rng 0 j))):=by
 intro lC s σ H xs us Q I r h;obtain⟨j,rfl,q⟩:=h;obtain⟨u,rfl,ru⟩:=WM r;obtain⟨t,rfl⟩:=(show ∃t,u=Value.int j t from ru);refine call_range_1 ?_;exact⟨.ref s.heap.objs.size,_,I.laid (o:=.rng 0 j) (fun b o e=>m4 _ e) (mP _) ⟨_,_,_,nI _ rfl⟩,rfl,q _ (I.hok.fresh (mP _))⟩
def upTo(n:Int):List Int:=(List.range n.toNat).map fun(k:Nat)=>(k:Int)
theorem kY{its:List Value}{n:Nat}{lo:Int}(h:ItemsOf (fun i v=>∃t,v=.int (lo+i*1) t) its.toArray n):ZP ((List.range n).map fun(k:Nat)=>V.int (lo+(k:Int))) its:=by
 obtain⟨h1,h2⟩:=h;rw[m7] at h1
 induction its generalizing n lo with
 |nil=>simp at h1;subst h1;exact .nil
 |cons u r ih=>
  cases n with
  |zero=>simp at h1
  |succ n=>
   rw[rL,mV,mZ];obtain⟨t,e⟩:=h2 0 u (by simp);refine .cons ⟨t,by rw[e];simp⟩ ?_;have:=ih (n:=n) (lo:=lo+1) (by simpa using h1) (fun j v hj=>by
    obtain⟨t,e⟩:=h2 (j+1) v (by simpa using hj);exact⟨t,by rw[e];congr 1;push_cast;omega⟩)
   refine(show ZP _ r from ?_);have e2:(List.range n).map (fun(k:Nat)=>V.int (lo+1+(k:Int)))=(List.range n).map ((fun(k:Nat)=>V.int (lo+(k:Int)))∘Nat.succ):=by
    apply oT;intro k _;simp only[Function.comp]
    congr 1
    push_cast
    omega
   rw[<- e2];exact this
theorem yZ(hc:X.calm=true):YB X (.type "list") (fun xs H Q=>∃(p:Addr) (j:Int),xs=[.ref p]/\H p=some (.rng 0 j)/\0<=j/\j<=1000000/\∀l,H l=none->Q (.ref l) (upd H l (.lst ((upTo j).map V.int)))):=by
 intro lC s σ H xs us Q I r h;obtain⟨p,j,rfl,hp,h0,h1,q⟩:=h;obtain⟨u,rfl,ru⟩:=WM r;obtain rfl:u=Value.ref p:=ru;obtain⟨t,u,v,e⟩:=I.hok p _ hp;refine call_list_range (a:=0) (b:=j) (c:=1) (n:=j.toNat) (I.ok.hd hc) e (small_one (by omega) (by omega) (by omega) (by omega)) (by rw[rangeSize_one];split<;>omega) (by omega) fun h' tk acc c' hk he hi=>?_;have hv:ZP ((upTo j).map V.int) acc.toList:=by
  have:=kY (its:=acc.toList) (n:=j.toNat) (lo:=0) (by simpa using hi);unfold upTo;rw[mZ];have e2:(List.range j.toNat).map (fun(k:Nat)=>V.int (0+(k:Int)))=(List.range j.toNat).map (V.int∘fun(k:Nat)=>(k:Int)):=by
   apply oT;intro k _;simp
  rw[<- e2];exact this
 have hz:((upTo j).map V.int).length<=sizeLine:=by unfold upTo;rw[mM,mM,m9,mN];omega
 exact⟨.ref s.heap.objs.size,_,I.laid (o:=.lst ((upTo j).map V.int)) hk (mP _) ⟨hz,acc.toList,c',hv,by simpa using he⟩,rfl,q _ (I.hok.fresh (mP _))⟩
def tRev(K:W.Frag)(te:TE)(ts:TO):TE:=fun σ H Q=>te σ H fun x H1=>ts σ H1 fun k H2=>∃a xs,x=.ref a/\k=some (-1)/\SqL K H2 a xs/\∀p,H2 p=none->Q (.ref p) (upd H2 p (.lst xs.reverse))
theorem pe_rev{e st:Expr}{te:TE}{ts:TO}{pos p2:Pos}(he:PE X e te)(hs:PO X (some st) ts):PE X (.Subscript e (.Slice none none (some st) p2) pos) (tRev X.K te ts):=by
 intro lC s σ H Q I h;refine Subscript_ (thn (he lC s σ H _ I h) fun v s1 ⟨x,H1,I1,r1,q1⟩=>?_);refine wpAny_Slice ?_;rw[evalPart_none];refine mQ (mQ (thn (hs lC s1 σ H1 _ I1 q1) fun vk s3 ⟨k,H3,I3,pk,q3⟩=>?_));obtain⟨a,xs,rfl,rfl,hq,q⟩:=q3;obtain rfl:v=Value.ref a:=r1;obtain⟨its,r,ht,hz⟩:=I3.list hq;have hlen:=r.length;have I4:Inv X lC σ H3 { s3 with heap:=s3.heap.push { cls:=.type "slice",data:=.fields #[.none,.none,vk] } }:=I3.kept (t':=s3.toks) fun b ob q=>m4 _ q;obtain⟨its4,r4,ht4,hz4⟩:=I4.list hq;have hlen4:=r4.length
 show wpAny (model X.prog X.w) X.A (subscriptTail e (.Slice none none (some st) p2) (.ref a) (.ref s3.heap.objs.size)) (EP X lC σ Q) X.xe { s3 with heap:=s3.heap.push { cls:=.type "slice",data:=.fields #[.none,.none,vk] } }
 refine tail_any (ops:=[.ref a,.ref s3.heap.objs.size]) ht4.isList.typeIs slot_list_getitem.lookup ?_ (by with_unfolding_all rfl);refine wpAny_getItem_list_slice ht4.isList (Heap.IsSliceOf.new ..) .none .none pk (by simp) ?_ (by rw[m7]<;>omega);rw[W.krv_pick];refine⟨.ref _,_,I4.laid (t':=s3.toks) (o:=.lst xs.reverse) (fun b ob q=>m4 _ q) (mP _) ?_,rfl,q _ (I4.hok.fresh (mP _))⟩;exact⟨by rw[pM];exact hz,its4.reverse,0,r4.reverse,nI _ rfl⟩
end
mutual
inductive Dp(K:W.Frag)(H:Hp):V->PyData->Prop
 |non:Dp K H .non .none
 |bl (b):Dp K H (.bl b) (.bool b)
 |int (i):Dp K H (.int i) (.int i)
 |str (x):Dp K H (.str x) (.str x)
 |lst {a xs ds}:SqL K H a xs->UB K H xs ds->Dp K H (.ref a) (.list ds)
 |tup {a xs ds}:SqT K H a xs->UB K H xs ds->Dp K H (.ref a) (.tuple ds)
inductive UB(K:W.Frag)(H:Hp):List V->List PyData->Prop
 |nil:UB K H [] []
 |cons {v d vs ds}:Dp K H v d->UB K H vs ds->UB K H (v::vs) (d::ds)
end
section
variable{X:Cx}{lC:List (Addr×Obj)}{σ:St}{H:Hp}{s:Shared}
mutual
theorem Dp.reads(I:Inv X lC σ H s):∀{v:V}{d:PyData}{u:Value},Dp X.K H v d->Z1 v u->∃as,Reads s.heap u d as
 |_,_,u,.non,r=>by cases (show u=Value.none from r);exact⟨_,.none⟩
 |_,_,u,.bl b,r=>by cases (show u=Value.bool b from r);exact⟨_,.bool b⟩
 |_,_,u,.int i,r=>by obtain⟨t,e⟩:=(show ∃t,u=Value.int i t from r);cases e;exact⟨_,.int i t⟩
 |_,_,u,.str x,r=>by obtain⟨t,e⟩:=(show ∃t,u=Value.str x t from r);cases e;exact⟨_,.str x t⟩
 |_,_,u,.lst (a:=a) h hs,r=>by
  cases (show u=Value.ref a from r);obtain⟨its,rv,pl,_⟩:=I.list h;obtain⟨o,ho,hc,n,hd⟩:=pl.isList;obtain⟨as,q⟩:=UB.reads I hs rv;exact⟨_,.list ho hc hd (by simpa using q)⟩
 |_,_,u,.tup (a:=a) h hs,r=>by
  cases (show u=Value.ref a from r);obtain⟨its,rv,⟨o,ho,hc,n,hd⟩,_⟩:=I.tuple h;obtain⟨as,q⟩:=UB.reads I hs rv;exact⟨_,.tuple ho hc hd (by simpa using q)⟩
theorem UB.reads(I:Inv X lC σ H s):∀{vs:List V}{ds:List PyData}{us:List Value},UB X.K H vs ds->ZP vs us->∃as,ReadsAll s.heap us ds as
 |_,_,_,.nil,.nil=>⟨_,.nil⟩
 |_,_,_,.cons h hs,.cons r rs=>by
  obtain⟨as,a⟩:=h.reads I r;obtain⟨bs,b⟩:=hs.reads I rs;exact⟨_,.cons a b⟩
end
inductive rEqD_R(K:W.Frag)(neg:Bool)(x:V)(y:V)(H:Hp)(Q:VK):Prop
 |mk (d:_) (e:_) (h0:Dp K H x d) (h1:Dp K H y e) (h2:d.canLay0=true) (h3:e.canLay0=true) (h4:d.depth<=60) (h5:Q (.bl (if neg then !PyData.eqv d e else PyData.eqv d e)) H):rEqD_R K neg x y H Q
def rEqD(K:W.Frag)(neg:Bool):R2:=fun x y H Q=>rEqD_R K neg x y H Q
theorem op_eqD(hu:X.A.units+64<cLine):OpR X (compareOp .Eq) (rEqD X.K false):=by
 intro lC s σ H x y u v Q I rx ry h;obtain⟨d,e,hx,hy,c1,c2,dp,q⟩:=h;obtain⟨as,a⟩:=hx.reads I rx;obtain⟨bs,b⟩:=hy.reads I ry;exact SeqAt.compareEq_reads a b c1 c2 (by omega) ⟨.bl _,H,I,rfl,q⟩
theorem op_neD(hu:X.A.units+64<cLine):OpR X (compareOp .NotEq) (rEqD X.K true):=by
 intro lC s σ H x y u v Q I rx ry h;obtain⟨d,e,hx,hy,c1,c2,dp,q⟩:=h;obtain⟨as,a⟩:=hx.reads I rx;obtain⟨bs,b⟩:=hy.reads I ry;exact SeqAt.compareNe_reads a b c1 c2 (by omega) ⟨.bl _,H,I,rfl,q⟩
inductive rIsi_R(K:W.Frag)(T:String)(xs:List V)(H:Hp)(Q:VK):Prop
 |mk (x:_) (t:_) (b:_) (h0:xs=[x,.ty T]) (h1:Uq K H x t) (h2:W.kitOne K t (.type T)=some b) (h3:Q (.bl b) H):rIsi_R K T xs H Q
def rIsi(K:W.Frag)(T:String):List V->Hp->VK->Prop:=fun xs H Q=>rIsi_R K T xs H Q
theorem call_isi(T:String):YB X (.builtin "isinstance") (rIsi X.K T):=by
 intro lC s σ H xs us Q I r h;obtain⟨x,t,b,rfl,ht,hk,q⟩:=h;obtain⟨u,v,rfl,ru,rv⟩:=vals2 r;obtain rfl:v=Value.type T:=rv;exact xC I ru ht hk fun tk=>⟨.bl b,H,I.tok _,rfl,q⟩
end
example (K:W.Frag):W.kitOne K (.type "int") (.type "list")=some false:=by rfl
example (K:W.Frag):W.kitOne K (.type "bool") (.type "int")=some true:=by rfl
section
variable{X:Cx}{lC:List (Addr×Obj)}{σ:St}{H:Hp}{s:Shared}{h':Heap}
theorem Inv.turnedLaid{ch:List Addr}{p:Addr}{o:HO}{t':Nat}(I:L2.Inv X lC σ H s)(k:∀b u,b∉ch->s.heap.get? b=some u->h'.get? b=some u)(hob:∀b∈ch,∃u,h'.get? b=some u)(hf:∀b∈ch,Ve X lC H b)(hp:s.heap.objs.size<=p)
  (new:Xe X.prog X.w (upd H p o) h' p o):L2.Inv X lC σ (upd H p o) { s with heap:=h',toks:=t' }:=by
 have hn:H p=none:=I.hok.fresh hp;have old:∀{b:Addr}{u:Obj},s.heap.get? b=some u->b≠p:=fun e=>na (nJ (mR e) hp);refine I.step (g':=s.gens) (d':=s.drawn) (ch:=ch) (fun b hb=>?_) (fun b u _ _ hc e _=>k b u hc e) (fun b u _ _ hc e _=>⟨u.slots,k b u hc e⟩) (fun b u _ e n=>by rw[Zy (old e)];exact n)
  (fun b u hc e=>⟨u,k b u hc e⟩) (fun b xs e=>by rw[Zy (ZZ e hn)];exact e) (fun b u xs e=>by rw[Zy (ZZ e hn)];exact e) (fun b ps e=>⟨#[],by rw[Zy (ZZ e hn),e];simp⟩)
  (fun m hm=>?_) (fun b u e=>?_) I.bare
 ·obtain⟨f0,f1,f2,f3,f4,f5⟩:=hf b hb;exact⟨f3,f1,f4,f5⟩
 ·obtain⟨ob,es,ep,ho,r⟩:=hm;exact⟨ob,es,ep,k _ ob (fun z=>(hf _ z).2.1 rfl) ho,r⟩
 ·by_cases hb:b=p
  ·subst hb;rw[Ze] at e;cases e;exact new
  ·rw[Zy hb] at e;have nch:∀c v,H c=some v->c∉ch:=fun c v q z=>by rw[(hf c z).1] at q;cases q
   refine(I.hok b u e).stay (fun c v hc q=>k c v ?_ q) (fun c q=>by rw[Zy (ZZ q hn)];exact q) fun c xs q=>by rw[Zy (ZZ q hn)];exact q
   rcases hc with rfl|hc
   ·exact nch _ _ e
   ·exact nch _ _ hc
end
def Ite(K:W.Frag)(a:Addr):It:=
 ⟨fun i H=>∃xs x,SqL K H a xs/\xs[i]?=some x,fun i H x H'=>∃p v,x=.ref p/\H p=none/\H'=upd H p (.tup [.int i,v])/\∀xs,SqL K H a xs->xs[i]?=some v,fun i H=>∃xs,SqL K H a xs/\xs.length<=i⟩
theorem turn_enum{P:Program}{w:World}{K:W.Frag}{elts:List Expr}{k1:Nat}{pt:Pos}(a it e:Addr)(hne:e≠it) :
  Turn P w K (.Tuple elts k1 pt) (Ite K a) [e,it] e (fun i h=>∃old,IsEnum h e it (i:Nat) old/\h.IsListIter it a i) where
 mem:=by simp
 obj:=fun i h st b hb=>by
  obtain⟨old,h1,o,h2,c,d⟩:=st;rcases(by simpa using hb:b=e\/b=it) with rfl|rfl
  ·exact⟨_,h1,fun v z=>by
    have z':Data.fields _=Data.cell v:=z;cases z'⟩
  ·exact⟨o,h2,fun v z=>by rw[d] at z;cases z⟩
 keep:=fun i h h' st k=>by
  obtain⟨old,h1,h2⟩:=st;exact⟨old,k e (by simp) _ h1,h2.at fun o z=>k it (by simp) o z⟩
 item:=by
  intro X hP hw hK hc i lC s σ H E I hf st hg;subst hP hw hK;obtain⟨xs,x,hq,hx⟩:=hg;obtain⟨its,rv,p,hz⟩:=I.list hq;obtain⟨u,hu,ru⟩:=rv.get hx;obtain⟨old,he,hi⟩:=st;refine wpAny_pyNext_enum_item he hi p.isList (x:=u) (by simpa using hu) hne fun h1 b1 b2 b3 b4 b5=>?_;refine⟨_,rfl,wpAny_letOwnedTupleGo_enum b1 fun h2 c1 c2=>?_⟩;have c2':Heap.SameBut e h1 h2:=c2;have lte:e<s.heap.objs.size:=mR he;have hit2:h2.IsListIter it a (i+1):=b2.at fun o z=>(c2'.2 it (nN hne)).trans z;have ht:h2.get? s.heap.objs.size=some { cls:=.type "tuple",data:=.seq #[.int (i:Nat) s.toks,u] }:=(c2'.2 _ (o8 lte)).trans b3;have I2:L2.Inv X lC σ (upd H s.heap.objs.size (.tup [.int (i:Nat),x])) { s with heap:=h2,toks:=s.toks+1 }:=by
   refine Inv.turnedLaid (ch:=[e,it]) I (fun b o hb z=>?_) (fun b hb=>?_) hf (mP _) ?_
   ·have hb':b≠e/\b≠it:=by simpa using hb
    exact(c2'.2 b hb'.1).trans (b5 b o hb'.1 hb'.2 z)
   ·rcases(by simpa using hb:b=e\/b=it) with rfl|rfl
    ·exact⟨_,c1⟩
    ·obtain⟨o,z,_⟩:=hit2;exact⟨o,z⟩
   ·exact⟨by show 2<=sizeLine;decide,[.int (i:Nat) s.toks,u],.cons ⟨_,rfl⟩ (.cons ru .nil),⟨_,ht,rfl,_,rfl⟩⟩
  have hn:=I.hok.fresh (mP s.heap.objs.size);refine⟨.ref s.heap.objs.size,_,I2,rfl,⟨_,x,rfl,hn,rfl,fun ys hy=>by rw[I.list_inj hy hq];exact hx⟩,⟨u,by simpa using c1,hit2⟩,fun b hb=>?_⟩;have lb:b<s.heap.objs.size:=by
   rcases(by simpa using hb:b=e\/b=it) with rfl|rfl
   ·exact lte
   ·obtain⟨o,z,_⟩:=hi;exact mR z
  rw[Zy (na lb)];exact(hf b hb).1
 done:=by
  intro X hP hw hK hc i lC s σ H E I hf st hg;subst hP hw hK;obtain⟨xs,hq,hx⟩:=hg;obtain⟨its,rv,p,hz⟩:=I.list hq;obtain⟨old,he,hi⟩:=st;have hl:=rv.length;obtain⟨f0,f1,f2,f3,f4,f5⟩:=hf it (by simp);exact wpAny_pyNext_enum_end (I.ok.hd hc) he hi p.isList (by simp;omega) fun h' eb=>⟨rfl,I.turned (t':=s.toks) (fun b o hb z=>eb b o hb z) f0 f1 f3 f4 f5⟩
 self:=fun _ _ _ _ _ st h=>by
  obtain⟨old,he,_⟩:=st;exact wpAny_pyIter_enum he h
section
variable{X:Cx}
def iEnum(K:W.Frag)(ta:TA):TI:=fun σ H R=>ta σ H fun vs H1=>∃a xs,vs=[.ref a]/\Rd H1 a (.lst xs)/\R (Ite K a) H1
theorem pi_enum{elts:List Expr}{k1:Nat}{pt:Pos}{a:Expr}{ta:TA}{p pos:Pos}(hg:Gl X "enumerate")(hm:X.mg "enumerate" = none)(ha:PA X [a] ta)(hs:starEach [a] X.env=[(false,eval a X.env)]:=by rfl) :
  PI X (.Tuple elts k1 pt) (.Call (.Name "enumerate" p) [a] [] pos) (iEnum X.K ta):=by
 intro lC s σ H R I h;refine Call_ (yf I hg hm PyProof.Rows.boot_enumerate (rE (thn (ha pos lC s σ H _ I h) fun us s1 ⟨vs,H1,I1,r1,q1⟩=>?_) hs rfl));obtain⟨l,xs,rfl,hq,q⟩:=q1;obtain⟨u,rfl,ru⟩:=WM r1;obtain rfl:u=Value.ref l:=ru;obtain⟨z,its,n,rv,e⟩:=hq.ok I1.hok;refine call_enumerate_1 e fun h' a1 a2 a3 a4=>wpAny_pyIter_enum a1 ?_;have I2:L2.Inv X lC σ H1 { s1 with heap:=h' }:=I1.kept (t':=s1.toks) a4;refine⟨s1.heap.objs.size+1,[s1.heap.objs.size+1,s1.heap.objs.size],_,_,H1,rfl,I2,turn_enum l s1.heap.objs.size (s1.heap.objs.size+1) (o8 (pF _)),⟨_,a1,a2⟩,fun b hb=>?_,q⟩;have lb:s1.heap.objs.size<=b:=by
  rcases(by simpa using hb:b=s1.heap.objs.size+1\/b=s1.heap.objs.size) with rfl|rfl
  ·exact oO _
  ·exact mP _
 exact I1.fpOk lb (I1.hok.fresh lb)
end
def New(H H':Hp):Hp:=fun b=>if(H b).isSome=true then none else H' b
def hide(D:Addr)(H:Hp):Hp:=fun b=>if b=D then none else H b
theorem New.of{H H':Hp}{b:Addr}{o:HO}(h:New H H' b=some o):H b=none/\H' b=some o:=by
 unfold New at h
 split at h
 ·cases h
 ·rename_i q
  refine⟨?_,h⟩;cases e:H b with
  |none=>rfl
  |some u=>rw[e] at q;exact absurd rfl q
theorem New.mk{H H':Hp}{b:Addr}{o:HO}(h:H b=none)(h':H' b=some o):New H H' b=some o:=by
 unfold New;rw[h];exact h'
theorem New.sub{H H':Hp}:Zf (New H H') H':=fun _ _ h=>(New.of h).2
theorem Zj{H:Hp}{p:Addr}{o:HO}(h:H p=none):Zf H (upd H p o):=fun b u e=>by rw[Zy (ZZ e h)];exact e
theorem Xi{D:Addr}{H:Hp}:Zf (hide D H) H:=fun b o h=>by
 unfold hide at h
 split at h
 ·cases h
 ·exact h
theorem WY{D b:Addr}{H:Hp}{o:HO}(h:hide D H b=some o):b≠D/\H b=some o:=by
 unfold hide at h
 split at h
 ·cases h
 ·rename_i q;exact⟨q,h⟩
theorem Y9{D b:Addr}{H:Hp}{o:HO}(n:b≠D)(h:H b=some o):hide D H b=some o:=by
 unfold hide;rw[if_neg n];exact h
def ZJ(D:Addr)(H H':Hp):Prop:=∀b o,b≠D->H b=some o->H' b=some o
theorem Zf.x{D:Addr}{H H':Hp}(h:Zf H H'):ZJ D H H':=fun b o _ e=>h b o e
theorem ZJ.refl{D:Addr}(H:Hp):ZJ D H H:=fun _ _ _ e=>e
theorem ZJ.trans{D:Addr}{H H1 H2:Hp}(a:ZJ D H H1)(b:ZJ D H1 H2):ZJ D H H2:=fun c o n e=>b c o n (a c o n e)
theorem ZJ.upd{D:Addr}{H H':Hp}{o:HO}(a:ZJ D H H'):ZJ D H (upd H' D o):=fun c u n e=>by rw[Zy n];exact a c u n e
theorem ZJ.same{D:Addr}{H H':Hp}(a:ZJ D H H')(h:H D=none):Zf H H':=fun c u e=>a c u (ZZ e h) e
theorem Zf.seqT{K:W.Frag}{H H':Hp}{a:Addr}{xs:List V}(e:Zf H H')(h:SqT K H a xs):SqT K H' a xs:=by
 rcases h with(h|⟨o,h⟩)|h
 ·exact .inl (.inl (e _ _ h))
 ·exact .inl (.inr ⟨o,e _ _ h⟩)
 ·exact .inr h
theorem comp_gen{J:It}{n:Nat}{D:Addr}{g:TG}{tt:TT}{te:TE}{σ0:St}{H0:Hp}{Q:VK}(Pv:Nat->St->Hp->Prop)(h0:Pv 0 σ0 (upd H0 D (.lst [])))
  (hgo:∀i σ H,i<n->Pv i σ H->J.go i H) (hst:∀σ H,Pv n σ H->J.stop n H)
  (hs:∀i x σ H H2,i<n->Pv i σ H->J.yld i H x H2->∀(N:V->St->Hp->Prop) (N0:St->Hp->Prop),(∀v σ2 H5 ys,H5 D=some (.lst ys)->ys.length<sizeLine->Pv (i+1) σ2 (upd H5 D (.lst (ys++[v])))->N v σ2 H5)->(∀σ2 H4,Pv (i+1) σ2 H4->N0 σ2 H4) ->
   g x σ H2 fun σ2 H3=>tt σ2 H3 fun c H4=>if c=true then te σ2 H4 fun v H5=>N v σ2 H5 else N0 σ2 H4)
  (hd:∀σ H,Pv n σ H->Q (.ref D) H) :
  zS J D g tt te σ0 H0 Q:=by
 refine⟨fun i m σ H=>m=n-i/\i<=n/\Pv i σ H,⟨n,by simp,og _,h0⟩,?_⟩;rintro i m σ H ⟨rfl,hi,p⟩
 by_cases hlt:i<n
 ·refine .inr ⟨hgo i σ H hlt p,fun v σ2 H5=>∃ys,H5 D=some (.lst ys)/\ys.length<sizeLine/\Pv (i+1) σ2 (upd H5 D (.lst (ys++[v]))),fun σ2 H4=>Pv (i+1) σ2 H4,?_,?_,?_⟩
  ·rintro v σ2 H5 ⟨ys,a,b,c⟩;exact⟨ys,a,b,n-(i+1),by omega,rfl,hlt,c⟩
  ·intro σ2 H4 q;exact⟨n-(i+1),by omega,rfl,hlt,q⟩
  ·intro x H2 y;exact hs i x σ H H2 hlt p y _ _ (fun v σ2 H5 ys a b c=>⟨ys,a,b,c⟩) fun _ _ q=>q
 ·have e:i=n:=by omega
  subst e;exact .inl ⟨hst σ H p,hd σ H p⟩
section
variable{X:Cx}
def rLen(K:W.Frag):List V->Hp->VK->Prop:=fun xs H Q=>(∃p ys,xs=[.ref p]/\(SqL K H p ys\/SqT K H p ys)/\Q (.int ys.length) H)\/((∃z,xs=[.str z]/\z.length<=sizeLine/\Q (.int z.length) H)\/∃a n,xs=[.ref a]/\H a=some (SetN a n)/\n<4000/\Q (.int n) H)
theorem call_lenA:YB X (.builtin "len") (rLen X.K):=vq.or (jk.or call_lenS)
def rListA(K:W.Frag):List V->Hp->VK->Prop:=fun xs H Q=>(∃p ys,xs=[.ref p]/\(SqL K H p ys\/SqT K H p ys)/\∀l,H l=none->Q (.ref l) (upd H l (.lst ys)))\/(∃(p:Addr) (j:Int),xs=[.ref p]/\H p=some (.rng 0 j)/\0<=j/\j<=1000000/\∀l,H l=none->Q (.ref l) (upd H l (.lst ((upTo j).map V.int))))
theorem kS(hc:X.calm=true):YB X (.type "list") (rListA X.K):=ji.or (yZ hc)
theorem UZ{x:Str}{v:V}{pos:Pos}(hg:Gl X x)(h:∃u,X.mg x=some u/\Z1 v u)(hd:(x==("__debug__" : Str))=false:=by decide):PE X (.Name x pos) (tC v):=by
 obtain⟨u,hm,r⟩:=h;exact pe_glob hg hm r hd
end
def ZD(sc:Scope)(N Nc:List Str)(ix:List (Option Nat))(scope:Scope):Bool:=
 decide (scope.kind=.function)&&scope.names.all (fun y=>decide (y.2≠.cell))&&scope.names.all (fun y=>decide (y.2=.local->scope.names.lookup y.1=some .local)) &&
 scope.names.all (fun y=>decide (y.2=.free->sc.names.lookup y.1=some .cell\/sc.names.lookup y.1=some .free))&&decide (ix.length=Nc.length) &&
 (ix.zip Nc).all fun p=>match p.1 with|none=>true|some j=>N[j]?==some p.2&&scope.names.lookup p.2==some .free
theorem ZA.of{sc:Scope}{N Nc:List Str}{ix:List (Option Nat)}{scope:Scope}(h:ZD sc N Nc ix scope=true):ZA sc N Nc ix scope:=by
 unfold ZD at h;simp only[m8] at h;obtain⟨⟨⟨⟨⟨h1,h2⟩,h3⟩,h4⟩,h5⟩,h6⟩:=h;exact⟨ny h1,fun y hy=>ny (nY.mp h2 y hy),fun y hy=>ny (nY.mp h3 y hy),fun y hy=>ny (nY.mp h4 y hy),ny h5,h6⟩
def Its(x:Str):It:=⟨fun i _=>i<x.cps.size,fun i H v H'=>H'=H/\∃c,x.cps[i]?=some c/\v=.str ⟨#[c]⟩,fun i _=>x.cps.size<=i⟩
theorem turn_str{P:Program}{w:World}{K:W.Frag}{tg:Expr}{it:Addr}{x:Str}{t:Tok}{ty:String}
  (hty:["enumerate", "zip", "dict_itemiterator", "dict_reverseitemiterator", "odict_iterator", "itertools.zip_longest", "itertools.pairwise"].contains ty=false)
  (W:∀A':Around,A'.handled=none->Walks P w A' it [it] [it] x.cps.size (SignAt x) (fun i h=>h.IsStrIter it ty x t i))
  (self:∀(A:Around) (i:Nat) (s:Shared) (Q:Value->Shared->Prop) (E:Value->Shared->Prop),s.heap.IsStrIter it ty x t i->Q (.ref it) s->wpAny (model P w) A (pyIter (.ref it)) Q E s) :
  Turn P w K tg (Its x) [it] it (fun i h=>i<=x.cps.size/\h.IsStrIter it ty x t i) where
 mem:=by simp
 obj:=fun i h st b hb=>by
  have e:b=it:=by simpa using hb
  subst e;obtain⟨_,o,e,c,d⟩:=st;exact⟨o,e,fun v z=>by rw[d] at z;cases z⟩
 keep:=fun i h h' st k=>by
  obtain⟨l,o,e,c,d⟩:=st;exact⟨l,o,k it (by simp) o e,c,d⟩
 item:=by
  intro X hP hw hK hc i lC s σ H E I hf st hg;subst hP hw hK;obtain⟨f0,f1,f2,f3,f4,f5⟩:=hf it (by simp);refine(W X.A (I.ok.hd hc)).item i s _ _ hg st.2 fun v h' tk hv st' kk=>?_;obtain⟨c,u,hcx,rfl⟩:=hv;have I1:L2.Inv X lC σ H { s with heap:=h',toks:=tk }:=I.turned (fun b o hb e=>kk b o (by simpa using hb) e) f0 f1 f3 f4 f5;obtain⟨o,e,oc,od⟩:=id st';exact⟨_,rfl,go_of (s:={ s with heap:=h',toks:=tk }) e oc od hty ⟨.str ⟨#[c]⟩,H,I1,⟨u,rfl⟩,⟨rfl,c,hcx,rfl⟩,⟨hg,st'⟩,fun b hb=>(hf b hb).1⟩⟩
 done:=by
  intro X hP hw hK hc i lC s σ H E I hf st hg;subst hP hw hK;obtain⟨f0,f1,f2,f3,f4,f5⟩:=hf it (by simp);have e:i=x.cps.size:=Nat.le_antisymm st.1 hg;subst e;exact(W X.A (I.ok.hd hc)).done s _ _ st.2 fun h' tk kk=>⟨rfl,I.turned (fun b o hb e=>kk b o (by simpa using hb) e) f0 f1 f3 f4 f5⟩
 self:=fun A i s Q E st h=>self A i s Q E st.2 h
section
variable{X:Cx}{tg:Expr}
def iStr(tl:TE):TI:=fun σ H R=>tl σ H fun v H1=>∃x,v=.str x/\R (Its x) H1
theorem pi_str{l:Expr}{tl:TE}(hl:PE X l tl):PI X tg l (iStr tl):=by
 intro lC s σ H R I h;refine thn (hl lC s σ H _ I h) fun v s1 ⟨y,H1,I1,r1,x,e,q⟩=>?_;subst e;obtain⟨t,rfl⟩:=(show ∃t,v=Value.str x t from r1);have fin:∀(ty:String),["enumerate", "zip", "dict_itemiterator", "dict_reverseitemiterator", "odict_iterator", "itertools.zip_longest", "itertools.pairwise"].contains ty=false ->
   (∀A':Around,A'.handled=none->Walks X.prog X.w A' s1.heap.objs.size [s1.heap.objs.size] [s1.heap.objs.size] x.cps.size (SignAt x) (fun i h=>h.IsStrIter s1.heap.objs.size ty x t i)) ->
   (∀(A:Around) (i:Nat) (s:Shared) (Q:Value->Shared->Prop) (E:Value->Shared->Prop),s.heap.IsStrIter s1.heap.objs.size ty x t i->Q (.ref s1.heap.objs.size) s->wpAny (model X.prog X.w) A (pyIter (.ref s1.heap.objs.size)) Q E s) ->
   PIE X lC σ tg R (.ref s1.heap.objs.size) { s1 with heap:=s1.heap.push { cls:=.type ty,data:=.fields #[.str x t,.int 0 0] } }:=fun ty h1 h2 h3=>by
  refine⟨s1.heap.objs.size,[s1.heap.objs.size],_,_,H1,rfl,I1.kept (t':=s1.toks) fun b o e=>m4 _ e,turn_str h1 h2 h3,⟨og _,_,nI _ rfl,rfl,rfl⟩,fun b hb=>?_,q⟩;have e:b=s1.heap.objs.size:=by simpa using hb
  subst e;exact I1.fpOk (mP _) (I1.hok.fresh (mP _))
 cases ha:x.cps.all (·<128)
 ·exact wpAny_pyIter_wide ha (fin "str_iterator" (by decide) (fun A' hA=>Walks.strWide hA _ x t) fun _ _ _ _ _ st h=>wpAny_pyIter_striter_wide st h)
 ·exact wpAny_pyIter_ascii ha (fin "str_ascii_iterator" (by decide) (fun A' hA=>Walks.strAscii hA _ x t) fun _ _ _ _ _ st h=>wpAny_pyIter_striter_ascii st h)
end
section
variable{X:Cx}{K:W.Frag}
theorem ZI(hK:X.K=K):YB X (.builtin "len") (rLen K):=by subst hK;exact call_lenA
theorem VB(hK:X.K=K):YB X (.builtin "sorted") (rSorted K):=by subst hK;exact jN
def rAll(K:W.Frag):List V->Hp->VK->Prop:=fun xs H Q=>∃(p:Addr) (bs:List Bool),xs=[.ref p]/\SqL K H p (bs.map V.bl)/\Q (.bl (bs.all id)) H
def rAny(K:W.Frag):List V->Hp->VK->Prop:=fun xs H Q=>∃(p:Addr) (bs:List Bool),xs=[.ref p]/\SqL K H p (bs.map V.bl)/\Q (.bl (bs.any id)) H
theorem X3(hK:X.K=K)(hc:X.calm=true):YB X (.builtin "all") (rAll K):=by subst hK;exact call_all hc
theorem Wh(hK:X.K=K)(hc:X.calm=true):YB X (.builtin "any") (rAny K):=by subst hK;exact call_any hc
theorem YJ(hK:X.K=K)(hc:X.calm=true):YB X (.type "list") (rListA K):=by subst hK;exact kS hc
def rTupleA(K:W.Frag):List V->Hp->VK->Prop:=fun xs H Q=>∃p ys,xs=[.ref p]/\((SqL K H p ys/\∀l,H l=none->Q (.ref l) (upd H l (.tup ys)))\/(SqT K H p ys/\Q (.ref p) H))
theorem XE(hK:X.K=K):YB X (.type "tuple") (rTupleA K):=by subst hK;exact yK
def rSetA(K:W.Frag):List V->Hp->VK->Prop:=fun xs H Q=>∃(p:Addr) (ks:List Key),xs=[.ref p]/\SqL K H p (ks.map kV)/\ks.length<4000/\∀n a,n<=ks.length->(n=ks.length↔ks.Nodup)->H a=none->Q (.ref a) (upd H a (SetN a n))
theorem xI(hK:X.K=K)(hc:X.calm=true):YB X (.type "set") (rSetA K):=by subst hK;exact call_set hc
theorem Wk(hK:X.K=K)(T:String):YB X (.builtin "isinstance") (rIsi K T):=by subst hK;exact call_isi T
theorem Zk(hK:X.K=K):IxR X (rIxL K):=by subst hK;exact ix_list
theorem ZB(hK:X.K=K):IxR X (rIxT K):=by subst hK;exact ix_tup
theorem kf(hK:X.K=K):SlR X (rSlL K):=by subst hK;exact sl_list
theorem WC(hK:X.K=K):OpR X (compareOp .In) (rIn K false):=by subst hK;exact op_in_seq
theorem qI(hK:X.K=K):OpR X (compareOp .NotIn) (rIn K true):=by subst hK;exact jp
theorem qc(hK:X.K=K)(hu:X.A.units+64<cLine):OpR X (compareOp .Eq) (rEqD K false):=by subst hK;exact op_eqD hu
theorem qg(hK:X.K=K)(hu:X.A.units+64<cLine):OpR X (compareOp .NotEq) (rEqD K true):=by subst hK;exact op_neD hu
theorem ZC{tg l:Expr}{tl:TE}(hK:X.K=K)(hl:PE X l tl):PI X tg l (iList K tl):=by subst hK;exact pi_list hl
theorem zR{elts:List Expr}{k1:Nat}{pt:Pos}{a:Expr}{ta:TA}{p pos:Pos}(hK:X.K=K)(hg:Gl X "enumerate")(hm:X.mg "enumerate" = none)(ha:PA X [a] ta)(hs:starEach [a] X.env=[(false,eval a X.env)]:=by rfl) :
  PI X (.Tuple elts k1 pt) (.Call (.Name "enumerate" p) [a] [] pos) (iEnum K ta):=by subst hK;exact pi_enum hg hm ha hs
theorem VE{es:List Expr}{k:Nat}{t:TGs}{n:Nat}{pos:Pos}(hK:X.K=K)(hc:X.calm=true)(h:PGs X es t)
  (hn:(assignEach es X.env).length=n:=by rfl) (hst:(assignEach es X.env).findIdx? (·.1)=none:=by rfl):PG X (.Tuple es k pos) (gTup K n t):=by subst hK;exact pg_tup hc h hn hst
theorem Yp{e:Expr}{f:Str}{pos:Pos}{ta:TE}(hK:X.K=K)(he:PE X e ta)(hb:attributeBase e f X.env (eval e X.env)=eval e X.env):PE X (.Attribute e f pos) (tFld K ta f):=by subst hK;exact pe_fld he hb
theorem pe_revK{e st:Expr}{te:TE}{ts:TO}{pos p2:Pos}(hK:X.K=K)(he:PE X e te)(hs:PO X (some st) ts):PE X (.Subscript e (.Slice none none (some st) p2) pos) (tRev K te ts):=by subst hK;exact pe_rev he hs
end
end L3
namespace L3
open PySem PySem.Spec L2
inductive Kd(H:Hp):V->Prop
 |non:Kd H .non
 |bl (b:Bool):Kd H (.bl b)
 |int (i:Int):Kd H (.int i)
 |str (z:Str) (hz:z.length<=1000):Kd H (.str z)
 |lst {a:Addr}{xs:List V} (e:H a=some (.lst xs)):Kd H (.ref a)
 |tup {a:Addr}{xs:List V} (e:H a=some (.tup xs)):Kd H (.ref a)
 |dK {a:Addr}{kvs:List (Key×V)} (e:H a=some (.dK kvs)):Kd H (.ref a)
theorem Kd.mono{H H':Hp}{x:V}(s:Zf H H')(h:Kd H x):Kd H' x:=by
 cases h with
 |non=>exact .non
 |bl b=>exact .bl b
 |int i=>exact .int i
 |str z hz=>exact .str z hz
 |lst e=>exact .lst (s _ _ e)
 |tup e=>exact .tup (s _ _ e)
 |dK e=>exact .dK (s _ _ e)
def XY(H:Hp)(T:String):V->Bool
 |.bl _=>T == "bool" || T == "int"
 |.int _=>T == "int"
 |.str _=>T == "str"
 |.ref a=>match H a with
  |some (.lst _)=>T == "list"
  |some (.tup _)=>T == "tuple"
  |some (.dK _)=>T == "dict"
  |_=>false
 |_=>false
theorem isi_rd{K:W.Frag}{T:String}{x:V}{H:Hp}{Q:VK}(hT:T = "int" \/ T = "bool" \/ T = "str" \/ T = "list" \/ T = "tuple")(h:Kd H x)(q:Q (.bl (XY H T x)) H):rIsi K T [x,.ty T] H Q:=by
 rcases hT with rfl|rfl|rfl|rfl|rfl
 all_goals
  cases h with
  |non=>exact⟨_,_,_,rfl,.non,rfl,q⟩
  |bl b=>exact⟨_,_,_,rfl,.bl b,rfl,q⟩
  |int i=>exact⟨_,_,_,rfl,.int i,rfl,q⟩
  |str z hz=>exact⟨_,_,_,rfl,.str z,rfl,q⟩
  |lst e=>first|exact⟨_,_,false,rfl,.lst e,rfl,by simpa[XY,e] using q⟩|exact⟨_,_,true,rfl,.lst e,rfl,by simpa[XY,e] using q⟩
  |tup e=>first|exact⟨_,_,false,rfl,.tup e,rfl,by simpa[XY,e] using q⟩|exact⟨_,_,true,rfl,.tup e,rfl,by simpa[XY,e] using q⟩
  |dK e=>first|exact⟨_,_,false,rfl,.dK e,rfl,by simpa[XY,e] using q⟩|exact⟨_,_,true,rfl,.dK e,rfl,by simpa[XY,e] using q⟩
def zj(c:Nat):Bool:=decide (97<=c/\c<=122)
def Yh(z:Str):Bool:=decide (1<=z.length)&&decide (z.length<=8)&&z.cps.toList.all zj
def XO:V->Bool
 |.str z=>Yh z
 |_=>false
def jh:V->Bool
 |.int _=>true
 |_=>false
def Xu(n:Int):V->Bool
 |.int i=>decide (0<=i)&&decide (i<n)
 |_=>false
def Ws(H:Hp):V->Option (List V)
 |.ref a=>match H a with
  |some (.lst xs)=>some xs
  |_=>none
 |_=>none
theorem XB{H:Hp}{a:Addr}{xs:List V}(h:H a=some (.lst xs)):Ws H (.ref a)=some xs:=by simp[Ws,h]
theorem UT{H H':Hp}{x:V}(s:Zf H H')(k:Kd H x):Ws H' x=Ws H x:=by
 cases k with
 |non=>rfl
 |bl b=>rfl
 |int i=>rfl
 |str z hz=>rfl
 |lst e=>rw[XB e,XB (s _ _ e)]
 |tup e=>simp[Ws,e,s _ _ e]
 |dK e=>simp[Ws,e,s _ _ e]
def Yf(H:Hp)(x:V):Bool:=match Ws H x with
 |some xs=>xs.all XO&&decide xs.Nodup
 |none=>false
def Wp(H:Hp)(n:Int)(x:V):Bool:=match Ws H x with
 |some xs=>xs.all (Xu n)
 |none=>false
def Z7(H:Hp)(n:Int)(x:V):Bool:=match Ws H x with
 |some xs=>xs.all (Xu n)&&!xs.isEmpty&&decide xs.Nodup
 |none=>false
def KdL(H:Hp)(x:V):Prop:=Kd H x/\∀xs,Ws H x=some xs->xs.length<=1000/\∀y∈xs,Kd H y
def KdLL(H:Hp)(x:V):Prop:=Kd H x/\∀xs,Ws H x=some xs->xs.length<=1000/\∀y∈xs,KdL H y
theorem KdL.mono{H H':Hp}{x:V}(s:Zf H H')(h:KdL H x):KdL H' x:=
 ⟨h.1.mono s,fun xs e=>by
  rw[UT s h.1] at e;exact⟨(h.2 xs e).1,fun y hy=>((h.2 xs e).2 y hy).mono s⟩⟩
theorem Uw{H H':Hp}{x:V}(s:Zf H H')(k:Kd H x):Yf H' x=Yf H x:=by unfold Yf;rw[UT s k]
theorem Ua{H H':Hp}{x:V}{n:Int}(s:Zf H H')(k:Kd H x):Z7 H' n x=Z7 H n x:=by unfold Z7;rw[UT s k]
def few3:Option (List V)->Bool
 |some fs=>decide (fs.length<=3)
 |none=>false
def VF(H:Hp)(s w st f:V):Bool:=match Ws H s,Ws H w with
 |some ss,some ws=>decide (1<=ss.length)&&decide (ss.length<=20)&&decide (ws.length=ss.length)&&ss.all (Yf H)&&ws.all (Z7 H ss.length)&&(Z7 H ss.length st&&(Yf H f&&few3 (Ws H f)))
 |_,_=>false
theorem kV_ne{a b:Key}:kV a≠kV b↔a≠b:=by
 constructor
 ·intro h e;exact h (by rw[e])
 ·intro h e;apply h;cases a<;>cases b<;>simp[kV] at e<;>simp[e]
theorem nodup_kV(ks:List Key):(ks.map kV).Nodup↔ks.Nodup:=by
 unfold List.Nodup;rw[rh];exact⟨fun h=>h.imp fun q=>kV_ne.mp q,fun h=>h.imp fun q=>kV_ne.mpr q⟩
theorem yJ:∀{xs:List V},xs.all XO=true->∃ks:List Key,xs=ks.map kV
 |[],_=>⟨[],rfl⟩
 |x::r,h=>by
  rw[pb,m8] at h;obtain⟨ks,rfl⟩:=yJ h.2;cases x with
  |str z=>exact⟨.inr z::ks,rfl⟩
  |_=>exact absurd h.1 (by simp[XO])
theorem yw{n:Int}:∀{xs:List V},xs.all (Xu n)=true->∃ks:List Key,xs=ks.map kV
 |[],_=>⟨[],rfl⟩
 |x::r,h=>by
  rw[pb,m8] at h;obtain⟨ks,rfl⟩:=yw h.2;cases x with
  |int z=>exact⟨.inl z::ks,rfl⟩
  |_=>exact absurd h.1 (by simp[Xu])
theorem dec_len{n m:Nat}{ks:List Key}(hm:m=(ks.map kV).length)(h:n=ks.length↔ks.Nodup):decide (V.int (n:Nat)=V.int (m:Nat))=decide (ks.map kV).Nodup:=by
 have e:(V.int (n:Nat)=V.int (m:Nat))↔(ks.map kV).Nodup:=by
  rw[nodup_kV,<- h];constructor
  ·intro q;have q':((n:Nat):Int)=((m:Nat):Int):=V.int.inj q;rw[mM] at hm;omega
  ·intro q;rw[mM] at hm;rw[q,hm]
 exact oF.mpr e
theorem Va{α:Type}{f:α->Bool}:∀{xs:List α}{ys:List V},ys.length=xs.length->(∀(i:Nat) v x,ys[i]?=some v->xs[i]?=some x->v=.bl (f x))->ys=(xs.map f).map V.bl
 |[],ys,hl,_=>by simp at hl;subst hl;rfl
 |x::r,[],hl,_=>by simp at hl
 |x::r,y::ys,hl,h=>by
  have e:=h 0 y x rfl rfl;subst e;rw[mV,mV,Va (xs:=r) (ys:=ys) (f:=f) (by simpa using hl) fun i v z h1 h2=>h (i+1) v z (by simpa using h1) (by simpa using h2)]
theorem yG{α:Type}(f:α->Bool)(xs:List α):(xs.map f).all id=xs.all f:=by
 rw[o3];rfl
theorem jE(c:Nat):decide (c∈("abcdefghijklmnopqrstuvwxyz" : Str).cps.toList)=zj c:=by
 have e:("abcdefghijklmnopqrstuvwxyz" : Str).cps.toList=(List.range 26).map (·+97):=by decide +kernel
 rw[e];unfold zj;refine oF.mpr ?_;rw[mW];constructor
 ·rintro⟨k,hk,rfl⟩;have:=mX.mp hk;omega
 ·rintro⟨h1,h2⟩;exact⟨c-97,mX.mpr (by omega),by omega⟩
theorem WQ(K:W.Frag){T:String}{x:V}{H:Hp}{b:Bool}(hT:T = "int" \/ T = "bool" \/ T = "str" \/ T = "list" \/ T = "tuple")(h:Kd H x)(hb:XY H T x=b):∃t,Uq K H x t/\W.kitOne K t (.type T)=some b:=by
 obtain⟨y,t,c,e,h1,h2,q⟩:=isi_rd (K:=K) (Q:=fun v _=>v=.bl b) hT h (by rw[hb]);have e1:x=y:=(List.cons.inj e).1;have e2:c=b:=V.bl.inj q;subst e1;subst e2;exact⟨t,h1,h2⟩
theorem kd_str{H:Hp}{x:V}(h:Kd H x):(XY H "str" x=true/\∃z,x=.str z/\z.length<=1000)\/(XY H "str" x=false/\XO x=false):=by
 cases h with
 |str z hz=>exact .inl ⟨rfl,z,rfl,hz⟩
 |non=>exact .inr ⟨rfl,rfl⟩
 |bl b=>exact .inr ⟨rfl,rfl⟩
 |int i=>exact .inr ⟨rfl,rfl⟩
 |lst e=>exact .inr ⟨by simp[XY,e],rfl⟩
 |tup e=>exact .inr ⟨by simp[XY,e],rfl⟩
 |dK e=>exact .inr ⟨by simp[XY,e],rfl⟩
theorem Uj{H:Hp}{x:V}(h:Kd H x):(XY H "list" x=true/\∃a xs,x=.ref a/\H a=some (.lst xs)/\Ws H x=some xs)\/(XY H "list" x=false/\Ws H x=none):=by
 cases h with
 |str z hz=>exact .inr ⟨rfl,rfl⟩
 |non=>exact .inr ⟨rfl,rfl⟩
 |bl b=>exact .inr ⟨rfl,rfl⟩
 |int i=>exact .inr ⟨rfl,rfl⟩
 |lst e=>exact .inl ⟨by simp[XY,e],_,_,rfl,e,XB e⟩
 |tup e=>exact .inr ⟨by simp[XY,e],by simp[Ws,e]⟩
 |dK e=>exact .inr ⟨by simp[XY,e],by simp[Ws,e]⟩
def LS(H:Hp)(v:V)(ss:List Str):Prop:=∃a,v=.ref a/\H a=some (.lst (ss.map V.str))
def LI(H:Hp)(v:V)(ns:List Int):Prop:=∃a,v=.ref a/\H a=some (.lst (ns.map V.int))
def TS(H:Hp)(v:V)(ss:List Str):Prop:=∃a,v=.ref a/\H a=some (.tup (ss.map V.str))
def TIn(H:Hp)(v:V)(ns:List Int):Prop:=∃a,v=.ref a/\H a=some (.tup (ns.map V.int))
def LL{α:Type}(r:Hp->V->α->Prop)(H:Hp)(v:V)(xs:List α):Prop:=∃a vs,v=.ref a/\H a=some (.lst vs)/\vs.length=xs.length/\∀(i:Nat) v x,vs[i]?=some v->xs[i]?=some x->r H v x
def LT{α:Type}(r:Hp->V->α->Prop)(H:Hp)(v:V)(xs:List α):Prop:=∃a vs,v=.ref a/\H a=some (.tup vs)/\vs.length=xs.length/\∀(i:Nat) v x,vs[i]?=some v->xs[i]?=some x->r H v x
def Mon{α:Type}(r:Hp->V->α->Prop):Prop:=∀H H' v x,Zf H H'->r H v x->r H' v x
theorem LS.mono:Mon LS:=fun _ _ _ _ s ⟨a,e,h⟩=>⟨a,e,s _ _ h⟩
theorem LI.mono:Mon LI:=fun _ _ _ _ s ⟨a,e,h⟩=>⟨a,e,s _ _ h⟩
theorem TS.mono:Mon TS:=fun _ _ _ _ s ⟨a,e,h⟩=>⟨a,e,s _ _ h⟩
theorem TIn.mono:Mon TIn:=fun _ _ _ _ s ⟨a,e,h⟩=>⟨a,e,s _ _ h⟩
theorem LL.mono{α:Type}{r:Hp->V->α->Prop}(m:Mon r):Mon (LL r):=fun _ _ _ _ s ⟨a,vs,e,h,l,q⟩=>⟨a,vs,e,s _ _ h,l,fun i v x h1 h2=>m _ _ _ _ s (q i v x h1 h2)⟩
theorem LT.mono{α:Type}{r:Hp->V->α->Prop}(m:Mon r):Mon (LT r):=fun _ _ _ _ s ⟨a,vs,e,h,l,q⟩=>⟨a,vs,e,s _ _ h,l,fun i v x h1 h2=>m _ _ _ _ s (q i v x h1 h2)⟩
theorem ZJ.hide{p:Addr}{H H':Hp}(s:ZJ p H H'):Zf (hide p H) (hide p H'):=fun b o h=>
 let ⟨n,e⟩:=WY h
 Y9 n (s b o n e)
structure WD where
 signs:List (List Str)
 ways:List (List Int)
 starts:List Int
 fair:List Str
structure X6(H:Hp)(s w st f:V)(d:WD):Prop where
 s:LL LS H s d.signs
 w:LL LI H w d.ways
 st:LI H st d.starts
 f:LS H f d.fair
theorem X6.mono{H H':Hp}{s w st f:V}{d:WD}(e:Zf H H')(h:X6 H s w st f d):X6 H' s w st f d:=
 ⟨LL.mono LS.mono _ _ _ _ e h.s,LL.mono LI.mono _ _ _ _ e h.w,LI.mono _ _ _ _ e h.st,LS.mono _ _ _ _ e h.f⟩
structure XR(d:WD):Prop where
 n1:1<=d.signs.length
 n20:d.signs.length<=20
 wl:d.ways.length=d.signs.length
 sn:∀ss∈d.signs,ss.Nodup/\(∀x∈ss,Yh x=true)/\ss.length<=30
 wn:∀ns∈d.ways,ns.Nodup/\ns≠[]/\(∀x∈ns,0<=x/\x<d.signs.length)/\ns.length<=20
 stn:d.starts.Nodup/\d.starts≠[]/\(∀x∈d.starts,0<=x/\x<d.signs.length)/\d.starts.length<=20
 fn:d.fair.Nodup/\(∀x∈d.fair,Yh x=true)/\d.fair.length<=3
theorem Ul{α β:Type}{f:α->β}(hf:∀a b,f a=f b->a=b){l:List α}(h:l.Nodup):(l.map f).Nodup:=by
 unfold List.Nodup at *;rw[rh];exact h.imp fun q e=>q (hf _ _ e)
theorem str_inj(a b:Str)(h:V.str a=V.str b):a=b:=V.str.inj h
theorem int_inj(a b:Int)(h:V.int a=V.int b):a=b:=V.int.inj h
theorem yz{z:Str}(h:Yh z=true):z.length<=8:=by
 unfold Yh at h;simp only[m8,oG] at h;exact h.1.2
theorem LS.kd{H:Hp}{v:V}{ss:List Str}(h:LS H v ss)(hl:ss.length<=1000)(hn:∀x∈ss,Yh x=true):KdL H v:=by
 obtain⟨a,rfl,e⟩:=h;refine⟨.lst e,fun xs q=>?_⟩;rw[XB e] at q;cases q;refine⟨by rw[mM];exact hl,fun y hy=>?_⟩;obtain⟨z,hz,rfl⟩:=mW.mp hy;exact .str z (nQ (yz (hn z hz)) (by decide))
theorem LI.kd{H:Hp}{v:V}{ns:List Int}(h:LI H v ns)(hl:ns.length<=1000):KdL H v:=by
 obtain⟨a,rfl,e⟩:=h;refine⟨.lst e,fun xs q=>?_⟩;rw[XB e] at q;cases q;refine⟨by rw[mM];exact hl,fun y hy=>?_⟩;obtain⟨z,hz,rfl⟩:=mW.mp hy;exact .int z
theorem LS.names{H:Hp}{v:V}{ss:List Str}(h:LS H v ss)(nd:ss.Nodup)(hn:∀x∈ss,Yh x=true):Yf H v=true:=by
 obtain⟨a,rfl,e⟩:=h;unfold Yf;rw[XB e];simp only[m8,oG];refine⟨nY.mpr fun y hy=>?_,Ul str_inj nd⟩;obtain⟨z,hz,rfl⟩:=mW.mp hy;exact hn z hz
theorem LI.rooms{H:Hp}{v:V}{ns:List Int}{n:Nat}(h:LI H v ns)(nd:ns.Nodup)(ne:ns≠[])(hn:∀x∈ns,0<=x/\x<(n:Int)):Z7 H n v=true:=by
 obtain⟨a,rfl,e⟩:=h;unfold Z7;rw[XB e];simp only[m8,oG];refine⟨⟨nY.mpr fun y hy=>?_,?_⟩,Ul int_inj nd⟩
 ·obtain⟨z,hz,rfl⟩:=mW.mp hy;have:=hn z hz;simp[Xu,this.1,this.2]
 ·cases ns with
  |nil=>exact absurd rfl ne
  |cons y r=>rfl
theorem LL.kd{α:Type}{r:Hp->V->α->Prop}{H:Hp}{v:V}{xs:List α}(h:LL r H v xs)(hl:xs.length<=1000)(q:∀v x,r H v x->x∈xs->KdL H v):KdLL H v:=by
 obtain⟨a,vs,rfl,e,l,k⟩:=h;refine⟨.lst e,fun ys z=>?_⟩;rw[XB e] at z;cases z;refine⟨by omega,fun y hy=>?_⟩;obtain⟨i,hi,rfl⟩:=oH hy;have hx:i<xs.length:=by omega
 exact q _ xs[i] (k i _ _ (mO hi) (mO hx)) (nk hx)
theorem LL.all{α:Type}{r:Hp->V->α->Prop}{H:Hp}{vs:List V}{xs:List α}{p:V->Bool}(l:vs.length=xs.length)(k:∀(i:Nat) v x,vs[i]?=some v->xs[i]?=some x->r H v x)(q:∀v x,r H v x->x∈xs->p v=true):vs.all p=true:=by
 refine nY.mpr fun y hy=>?_;obtain⟨i,hi,rfl⟩:=oH hy;have hx:i<xs.length:=by omega
 exact q _ xs[i] (k i _ _ (mO hi) (mO hx)) (nk hx)
theorem X6.kd{H:Hp}{s w st f:V}{d:WD}(h:X6 H s w st f d)(g:XR d):KdLL H s/\KdLL H w/\KdL H st/\KdL H f:=by
 refine⟨h.s.kd (by have:=g.n20;omega) fun v x r m=>?_,h.w.kd (by have:=g.n20;have:=g.wl;omega) fun v x r m=>?_,h.st.kd (by have:=g.stn.2.2.2;omega),h.f.kd (by have:=g.fn.2.2;omega) g.fn.2.1⟩
 ·have:=g.sn x m;exact r.kd (by omega) this.2.1
 ·have:=g.wn x m;exact r.kd (by omega)
theorem X6.makes{H:Hp}{s w st f:V}{d:WD}(h:X6 H s w st f d)(g:XR d):VF H s w st f=true:=by
 have hst:=h.st.rooms (n:=d.signs.length) g.stn.1 g.stn.2.1 g.stn.2.2.1;have hf:=h.f.names g.fn.1 g.fn.2.1;obtain⟨a,vs,rfl,e,l,k⟩:=h.s;obtain⟨b,ws,rfl,e2,l2,k2⟩:=h.w;obtain⟨c,rfl,e3⟩:=h.f;unfold VF;rw[XB e,XB e2,XB e3];dsimp only;rw[l];have h1:vs.all (Yf H)=true:=LL.all l k fun v x r m=>r.names (g.sn x m).1 (g.sn x m).2.1;have h2:ws.all (Z7 H d.signs.length)=true:=LL.all l2 k2 fun v x r m=>r.rooms (g.wn x m).1 (g.wn x m).2.1 (g.wn x m).2.2.1;have:=g.n1;have:=g.n20;have:=g.wl;have:=g.fn.2.2;simp only[few3,m8,oG,mM];refine⟨⟨⟨⟨⟨by omega,by omega⟩,by omega⟩,h1⟩,h2⟩,hst,hf,by omega⟩
def wfs(t1 t2 t3 t4:V):List (Str×V):=[("room_signs",t1),("room_ways",t2),("start_rooms",t3),("fair_names",t4)]
theorem n12:¬(("room_signs" : Str) = "room_ways"):=by decide +kernel
theorem n13:¬(("room_signs" : Str) = "start_rooms"):=by decide +kernel
theorem n14:¬(("room_signs" : Str) = "fair_names"):=by decide +kernel
theorem n23:¬(("room_ways" : Str) = "start_rooms"):=by decide +kernel
theorem n24:¬(("room_ways" : Str) = "fair_names"):=by decide +kernel
theorem n34:¬(("start_rooms" : Str) = "fair_names"):=by decide +kernel
theorem put1(t1:V):Xd "room_signs" t1 []=([("room_signs",t1)]:List (Str×V)):=rfl
theorem put2(t1 t2:V):Xd "room_ways" t2 ([("room_signs",t1)]:List (Str×V))=([("room_signs",t1),("room_ways",t2)]:List (Str×V)):=by simp only[Xd,if_neg n12]
theorem put3(t1 t2 t3:V):Xd "start_rooms" t3 ([("room_signs",t1),("room_ways",t2)]:List (Str×V))=([("room_signs",t1),("room_ways",t2),("start_rooms",t3)]:List (Str×V)):=by simp only[Xd,if_neg n13,if_neg n23]
theorem put4(t1 t2 t3 t4:V):Xd "fair_names" t4 ([("room_signs",t1),("room_ways",t2),("start_rooms",t3)]:List (Str×V))=wfs t1 t2 t3 t4:=by simp only[Xd,if_neg n14,if_neg n24,if_neg n34,wfs]
structure Xb(C:Addr)(H:Hp)(p:Addr)(d:WD):Prop where
 ex:∃dx t1 t2 t3 t4,H p=some (.ins C dx (wfs t1 t2 t3 t4))/\LT TS H t1 (d.signs.map Wm)/\LT TIn H t2 (d.ways.map Xw)/\TIn H t3 (Xw d.starts)/\TS H t4 d.fair
theorem Xb.mono{C:Addr}{H H':Hp}{p:Addr}{d:WD}(s:Zf H H')(h:Xb C H p d):Xb C H' p d:=by
 obtain⟨dx,t1,t2,t3,t4,e,h1,h2,h3,h4⟩:=h.ex;exact⟨dx,t1,t2,t3,t4,s _ _ e,LT.mono TS.mono _ _ _ _ s h1,LT.mono TIn.mono _ _ _ _ s h2,TIn.mono _ _ _ _ s h3,TS.mono _ _ _ _ s h4⟩
theorem beqF{a b:Str}(h:¬a=b):(a==b)=false:=by simpa using h
theorem j2(t1 t2 t3 t4:V):(wfs t1 t2 t3 t4).lookup ("room_signs" : Str)=some t1:=by simp[wfs,nR]
theorem lk_ways(t1 t2 t3 t4:V):(wfs t1 t2 t3 t4).lookup ("room_ways" : Str)=some t2:=by simp[wfs,nR,beqF (fun e=>n12 e.symm)]
theorem lk_fair(t1 t2 t3 t4:V):(wfs t1 t2 t3 t4).lookup ("fair_names" : Str)=some t4:=by simp[wfs,nR,beqF (fun e=>n14 e.symm),beqF (fun e=>n24 e.symm),beqF (fun e=>n34 e.symm)]
theorem lk_no(t1 t2 t3 t4:V){m:Str}(h1:¬m = "room_signs")(h2:¬m = "room_ways")(h3:¬m = "start_rooms")(h4:¬m = "fair_names"):(wfs t1 t2 t3 t4).lookup m=none:=by simp[wfs,nR,beqF h1,beqF h2,beqF h3,beqF h4]
theorem New.hidden{H H':Hp}{p:Addr}{o:HO}(h:H p=some o):Zf (New H H') (hide p H'):=fun b u e=>
 let ⟨h1,h2⟩:=New.of e
 Y9 (fun z=>by subst z;rw[h] at h1;cases h1) h2
theorem LS.hid{H:Hp}{p C dx:Addr}{fs:List (Str×V)}{v:V}{ss:List Str}(hp:H p=some (.ins C dx fs))(h:LS H v ss):LS (hide p H) v ss:=by
 obtain⟨a,rfl,e⟩:=h;exact⟨a,rfl,Y9 (yq e hp (by intro z;cases z)) e⟩
theorem LI.hid{H:Hp}{p C dx:Addr}{fs:List (Str×V)}{v:V}{ss:List Int}(hp:H p=some (.ins C dx fs))(h:LI H v ss):LI (hide p H) v ss:=by
 obtain⟨a,rfl,e⟩:=h;exact⟨a,rfl,Y9 (yq e hp (by intro z;cases z)) e⟩
theorem LL.hid{α:Type}{r:Hp->V->α->Prop}{H:Hp}{p C dx:Addr}{fs:List (Str×V)}{v:V}{xs:List α}(hp:H p=some (.ins C dx fs))(m:∀v x,r H v x->r (hide p H) v x)(h:LL r H v xs):LL r (hide p H) v xs:=by
 obtain⟨a,vs,rfl,e,l,q⟩:=h;exact⟨a,vs,rfl,Y9 (yq e hp (by intro z;cases z)) e,l,fun i v x h1 h2=>m _ _ (q i v x h1 h2)⟩
theorem X6.hid{H:Hp}{p C dx:Addr}{fs:List (Str×V)}{s w st f:V}{d:WD}(hp:H p=some (.ins C dx fs))(h:X6 H s w st f d):X6 (hide p H) s w st f d:=
 ⟨h.s.hid hp fun _ _ r=>r.hid hp,h.w.hid hp fun _ _ r=>r.hid hp,h.st.hid hp,h.f.hid hp⟩
theorem xW{α β:Type}{r:Hp->V->β->Prop}{H:Hp}{f:α->β}{a:Addr}{ys:List V}{xs:List α}(h:H a=some (.tup ys))(l:ys.length=xs.length)(q:∀(i:Nat) v,ys[i]?=some v->∀x,xs[i]?=some x->r H v (f x)):LT r H (.ref a) (xs.map f):=by
 refine⟨a,ys,rfl,h,by rw[mM,l],fun i v x h1 h2=>?_⟩;rw[mU] at h2;cases e:xs[i]? with
 |none=>rw[e] at h2;cases h2
 |some y=>
  rw[e] at h2;cases h2;exact q i v h1 y e
def dI(ns:List Int):PyData:=.list (ns.map PyData.int)
def dS(ss:List Str):PyData:=.list (ss.map PyData.str)
def Fine(n:Nat)(d:PyData):Prop:=d.canLay0=true/\d.depth<=n
theorem fineAll{α:Type}{f:α->PyData}{n:Nat}{xs:List α}(h:∀x∈xs,Fine n (f x)):PyData.canLayAll0 (xs.map f)=true/\PyData.depthAll (xs.map f)<=n:=by
 induction xs with
 |nil=>exact⟨by simp[PyData.canLayAll0],by simp[PyData.depthAll]⟩
 |cons x r ih=>
  obtain⟨a,b⟩:=ih fun y hy=>h y (oe _ hy);obtain⟨c,d⟩:=h x pi;rw[mV];exact⟨by rw[PyData.canLayAll0,c,a];rfl,by rw[PyData.depthAll];exact Nat.max_le.mpr ⟨d,b⟩⟩
theorem fineL{α:Type}{f:α->PyData}{n:Nat}{xs:List α}(h:∀x∈xs,Fine n (f x)):Fine (n+1) (.list (xs.map f)):=by
 obtain⟨a,b⟩:=fineAll h;exact⟨by rw[PyData.canLay0];exact a,by rw[PyData.depth];omega⟩
theorem zo(ns:List Int):Fine 1 (dI ns):=fineL fun x _=>⟨by simp[PyData.canLay0],by simp[PyData.depth]⟩
theorem Jc{z:Str}(h:Yh z=true):PyData.strOk z=true:=by
 unfold Yh at h;rw[m8] at h;have h2:=nY.mp h.2;unfold PyData.strOk;rw[Array.all_eq_true_iff_forall_mem];intro x hx;have:=h2 x (Array.mem_toList_iff.mpr hx);unfold zj at this;have:=ny this;exact nG (by omega)
theorem fineS{ss:List Str}(h:∀x∈ss,Yh x=true):Fine 1 (dS ss):=fineL fun x hx=>⟨by simp[PyData.canLay0,Jc (h x hx)],by simp[PyData.depth]⟩
section
variable{K:W.Frag}{H:Hp}
theorem qW{α:Type}{g:α->V}{f:α->PyData}(h:∀x,Dp K H (g x) (f x)):∀xs:List α,UB K H (xs.map g) (xs.map f)
 |[]=>.nil
 |x::r=>.cons (h x) (qW h r)
theorem LI.dp{v:V}{ns:List Int}(h:LI H v ns):Dp K H v (dI ns):=by
 obtain⟨a,rfl,e⟩:=h;exact .lst (rS e) (qW (fun x=>.int x) ns)
end
theorem jF{n:Nat}{d:PyData}(h:Fine n d):PyData.eqv d d=true:=SeqAt.eqv_refl d h.1
theorem eqD_yes{K:W.Frag}{H:Hp}{x y:V}{d:PyData}{n:Nat}{Q:VK}(f:Fine n d)(hn:n<=60)(h1:Dp K H x d)(h2:Dp K H y d)(q:Q (.bl true) H):rEqD K false x y H Q:=
 ⟨d,d,h1,h2,f.1,f.1,nQ f.2 hn,by rw[jF f];exact q⟩
theorem neD_no{K:W.Frag}{H:Hp}{x y:V}{d:PyData}{n:Nat}{Q:VK}(f:Fine n d)(hn:n<=60)(h1:Dp K H x d)(h2:Dp K H y d)(q:Q (.bl false) H):rEqD K true x y H Q:=
 ⟨d,d,h1,h2,f.1,f.1,nQ f.2 hn,by rw[jF f];exact q⟩
theorem vZ{K:W.Frag}{H:Hp}{a b:Addr}{ns:List Int}{Q:VK}(h1:H a=some (.lst (ns.map V.int)))(h2:H b=some (.lst []))(q:∀c:Bool,(c=true↔ns=[])->Q (.bl c) H):rEqD K false (.ref a) (.ref b) H Q:=by
 refine⟨dI ns,.list [],LI.dp ⟨a,rfl,h1⟩,.lst (rS h2) .nil,(zo ns).1,by simp[PyData.canLay0,PyData.canLayAll0],nQ (zo ns).2 (by decide),?_⟩;refine q _ ?_;cases ns with
 |nil=>simp[dI,PyData.eqv,PyData.eqvAll]
 |cons x r=>simp[dI,PyData.eqv,PyData.eqvAll]
theorem ZJ.updN{p D:Addr}{H H':Hp}{o:HO}(s:ZJ p H H')(h:H D=none):ZJ p H (L2.upd H' D o):=fun b u n e=>by
 rw[Zy (ZZ e h)];exact s b u n e
theorem name_of{z:Str}(h1:1<=z.length)(h2:z.length<=8)(h:z.cps.toList.all zj=true):Yh z=true:=by
 unfold Yh;simp[h1,h2,h]
theorem vg{z:Str}{ss:List Str}:inV (.str z) (ss.map V.str)=true↔z∈ss:=by
 unfold inV;rw[oz,oR];constructor
 ·rintro⟨y,hy,e⟩;have e':(y==z)=true:=e;rw[oW] at e';exact e'▸hy
 ·intro hz;exact⟨z,hz,by show(z==z)=true;simp⟩
theorem flat_strs(ss:List Str):(ss.map V.str).all V2=true:=by
 rw[o3];exact nY.mpr fun _ _=>rfl
theorem updK{H:Hp}{p F:Addr}{o o':HO}(h:H p=some o)(n:p≠F):upd H F o' p=some o:=by rw[Zy n];exact h
theorem VW{H:Hp}{p D:Addr}{o:HO}(h:H p=some o)(n:H D=none):p≠D:=fun e=>by rw[e,n] at h;cases h
end L3
namespace L3
end L3
namespace L3
open PySem PySem.Spec L2
theorem Xb.at{C:Addr}{H:Hp}{p:Addr}{d:WD}(h:Xb C H p d){m:Str}(h1:¬m = "room_signs")(h2:¬m = "room_ways")(h3:¬m = "start_rooms")(h4:¬m = "fair_names"):∃dx fs,H p=some (.ins C dx fs)/\fs.lookup m=none:=by
 obtain⟨dx,t1,t2,t3,t4,e,_⟩:=h.ex;exact⟨dx,_,e,lk_no _ _ _ _ h1 h2 h3 h4⟩
end L3
namespace L3
open PySem PySem.Spec PyProof.Rows L2
section
variable{X:Cx}
theorem ZP.take{xs:List V}{us:List Value}(h:ZP xs us)(k:Nat):ZP (xs.take k) (us.take k):=by
 induction k generalizing xs us with
 |zero=>exact .nil
 |succ k ih=>
  cases h with
  |nil=>exact .nil
  |cons r t=>exact .cons r (ih t)
theorem ZP.drop{xs:List V}{us:List Value}(h:ZP xs us)(k:Nat):ZP (xs.drop k) (us.drop k):=by
 induction k generalizing xs us with
 |zero=>exact h
 |succ k ih=>
  cases h with
  |nil=>exact .nil
  |cons r t=>exact ih t
theorem ZP.set{xs:List V}{us:List Value}{y:V}{u:Value}(h:ZP xs us)(ry:Z1 y u)(k:Nat):ZP (xs.set k y) (us.set k u):=by
 induction k generalizing xs us with
 |zero=>
  cases h with
  |nil=>exact .nil
  |cons r t=>exact .cons ry t
 |succ k ih=>
  cases h with
  |nil=>exact .nil
  |cons r t=>exact .cons r (ih t)
theorem Inv.big{lC:List (Addr×Obj)}{σ:St}{H:Hp}{s:Shared}(I:L2.Inv X lC σ H s):sysModules<s.heap.objs.size:=by
 have h:mainGlobals<s.heap.objs.size:=(I.mod.glob.keeps I.bk).lt;exact Nat.lt_trans (by decide) h
theorem qr{P:Program}{w:World}{H:Hp}(h:Heap)(hb:sysModules<h.objs.size):Xe P w H (h.push { cls:=.type "dict",data:=.dict #[] }) h.objs.size (.dK []):=
 ⟨og _,o5.mpr (nN (na hb)),[],.nil,Heap.DictOf.new h⟩
def tDNewK:TE:=fun _ H Q=>∀p,H p=none->Q (.ref p) (upd H p (.dK []))
theorem pe_dnewK{pos:Pos}:PE X (.Dict [] [] pos) tDNewK:=fun lC s σ H Q I h=>
 wpAny_Dict_empty ⟨.ref s.heap.objs.size,_,I.laid (a:=s.heap.objs.size) (o:=.dK []) (t':=s.toks) (fun _ _ q=>m4 _ q) (mP _) (qr s.heap (Inv.big I)),rfl,h _ (I.hok.fresh (mP _))⟩
end
section
variable{prog:Program}{w:World}{A:Around}{E:Value->Shared->Prop}{s:Shared}
theorem zu{l:Addr}{items:Array Value}{n:Nat}{k:Int}{t:Tok}{v:Value}{Q:Unit->Shared->Prop}(e:s.heap.get? l=some { cls:=.type "list",data:=.seq items n })
  (h0:0<=k) (hfit:k<2 ^ 63) (hn:k<items.size) (hQ:Q () { s with heap:=s.heap.update l (Obj.mapSeq (·.setIfInBounds k.toNat v)) }) :
  wpAny (model prog w) A (setItem (.ref l) (.int k t) v) Q E s:=by
 have hl:s.heap.IsList l items:=⟨_,e,rfl,n,rfl⟩;obtain⟨o,ho,hc,ne,hd⟩:=id hl;have eo:o={ cls:=.type "list",data:=.seq items n }:=nv (ho.symm.trans e);unfold setItem
 try with_reducible refine oo ?_
 first|refine mL (mQ ?_)|skip
 refine mL (wpAny_sequenceKey hl.typeIs (by decide) ?_);refine mL (rH (name:=Str.ofString "__setitem__") hl.typeIs slot_list_setitem
  (px slot_list_setitem hl.typeIs entry_list_setitem ?_ (args_list_setitem _ _ _)))
 show wpAny _ _ (Builtin.List.listSubscript? (.int k t) >>= _) _ _ s
 refine mL (wpAny_listSubscript_int (fitsIndex_of h0 hfit) ?_);clear hfit;obtain⟨j,rfl⟩:=oA h0;have hj:j<items.size:=by omega
 have hx':items[j]?=some items[j]:=rM hj
 show wpAny _ _ ((seqItemAt l j >>= fun r=>pure (r.map (j,·))) >>= _) _ _ s
 refine mL (mL (wpAny_seqItemAt ho hd (mQ ?_)));rw[hx']
 show wpAny _ _ (setSeqItemAt l j v >>= _) _ _ s
 refine mL (wpAny_setSeqItemAt ho hd ?_)
 first
  |exact mL (mQ (mQ ⟨.none,rfl,mQ hQ⟩))
  |exact mQ ⟨.none,rfl,mQ hQ⟩
end
section
variable{X:Cx}
def tSetL(tv to ti:TE):L2.TS:=fun D σ H=>tv σ H fun y H1=>to σ H1 fun x H2=>ti σ H2 fun k H3=>∃l xs j,x=.ref l/\k=.int (j:Nat)/\H3 l=some (.lst xs)/\j<xs.length/\D.nx σ (upd H3 l (.lst (xs.set j y)))
theorem ps_setL{o i e:Expr}{to ti tv:TE}{pos pos':Pos}(hv:PE X e tv)(ho:PE X o to)(hi:PE X i ti)(hs:swapsWith e (some (.Subscript o i pos')) pos.line X.env=pure false:=by rfl):PS X (.Assign [.Subscript o i pos'] e pos) (tSetL tv to ti):=by
 intro lC s σ H D I h;refine wpAny_Assign_Subscript (thn (hv lC s σ H _ I h) fun v s1 ⟨y,H1,I1,r1,q1⟩=>thn (ho lC s1 σ H1 _ I1 q1) fun ov s2 ⟨x,H2,I2,r2,q2⟩=>thn (hi lC s2 σ H2 _ I2 q2) fun iv s3 ⟨k,H3,I3,r3,q3⟩=>?_) hs;obtain⟨l,xs,j,rfl,rfl,hH,hj,q⟩:=q3;cases r2;obtain⟨t,rfl⟩:=(show ∃t,iv=Value.int (j:Nat) t from r3);obtain⟨z,its,n,r,hl,e⟩:=I3.lstM hH;refine zu e (Int.natCast_nonneg j) (by rw[mN] at z;omega) (by rw[m7];omega) ?_;refine⟨σ,_,I3.lset (its':=its.set j v) (t':=s3.toks) hH e (by simp) (ZP.set r r1 j) (by rw[List.length_set];exact z),q⟩
end
end L3
namespace L3
open PySem PySem.Spec L2
section
variable{X:Cx}{K:W.Frag}
theorem Uh{a:Expr}{ta:TE}(hK:X.K=K)(ha:PE X a ta)(he:∀whole,isTrue a X.env whole=(do let v <- whole;standAt a.pos;holding [v] (truthy v))) :
  PT X a (fun σ H Q=>ta σ H fun x H'=>∃k,TruV K x H' k/\Q k H'):=by subst hK;exact pt_truth ha he
end
theorem Wd{J:It}{n:Nat}{g:TG}{tb:L2.TS}{D:Ends}{σ:St}{H:Hp}(Pv:Nat->St->Hp->Prop)(h0:Pv 0 σ H)(hgo:∀i σ H,i<n->Pv i σ H->J.go i H)(hst:∀σ H,Pv n σ H->J.stop n H)
  (hs:∀i x σ H H2,i<n->Pv i σ H->J.yld i H x H2->g x σ H2 fun σ2 H3=>tb { D with nx:=Pv (i+1),ct:=Pv (i+1),bk:=D.nx } σ2 H3) (hd:∀σ H,Pv n σ H->D.nx σ H) :
  ∃W:Nat->Nat->St->Hp->Prop,(∃m,W 0 m σ H)/\∀i m σ H,W i m σ H ->
   (J.stop i H/\D.nx σ H)\/(J.go i H/\∃N:St->Hp->Prop,(∀σ' H',N σ' H'->∃m',m'<m/\W (i+1) m' σ' H')/\∀x H',J.yld i H x H'->g x σ H' fun σ2 H2=>tb { D with nx:=N,ct:=N,bk:=D.nx } σ2 H2):=by
 refine⟨fun i m σ H=>m=n-i/\i<=n/\Pv i σ H,⟨n,by simp,og _,h0⟩,?_⟩;rintro i m σ H ⟨rfl,hi,p⟩
 by_cases hlt:i<n
 ·exact .inr ⟨hgo i σ H hlt p,Pv (i+1),fun σ' H' p'=>⟨n-(i+1),by omega,rfl,hlt,p'⟩,fun x H' y=>hs i x σ H H' hlt p y⟩
 ·have e:i=n:=by omega
  subst e;exact .inl ⟨hst σ H p,hd σ H p⟩
theorem inV_int{z:Int}{ss:List Int}:inV (.int z) (ss.map V.int)=decide (z∈ss):=by
 rw[n6,decide_eq_true_iff];unfold inV;rw[oz,oR];constructor
 ·rintro⟨y,hy,e⟩;have e':(y==z)=true:=e;rw[oW] at e';exact e'▸hy
 ·intro hz;exact⟨z,hz,by show(z==z)=true;simp⟩
theorem zU{z:Str}{ss:List Str}:inV (.str z) (ss.map V.str)=decide (z∈ss):=by
 rw[n6,decide_eq_true_iff];exact vg
theorem mem_sortI{z:Int}{ss:List Int}:decide (z∈Xw ss)=decide (z∈ss):=oF.mpr (Wx ss).mem_iff
theorem mem_sortS{z:Str}{ss:List Str}:decide (z∈Wm ss)=decide (z∈ss):=oF.mpr (UJ ss).mem_iff
theorem getD_of{xs:List Int}{i:Nat}{x:Int}(h:xs[i]?=some x):xs.getD i 0=x:=by simp[List.getD,h]
theorem map_at{xs:List Int}{i:Nat}{v:V}(h:(xs.map V.int)[i]?=some v):v=.int (xs.getD i 0)/\xs[i]?=some (xs.getD i 0):=by
 rw[mU] at h;cases e:xs[i]? with
 |none=>rw[e] at h;cases h
 |some y=>
  rw[e] at h;cases h;rw[getD_of e];exact⟨rfl,rfl⟩
theorem at_of{xs:List Int}{i:Nat}(h:i<xs.length):(xs.map V.int)[i]?=some (.int (xs.getD i 0)):=by
 simp[List.getD,h]
theorem qT(xs:List V)(k:Nat)(h:k<=xs.length):qm xs (some (k:Int)) none=xs.drop k:=by
 unfold qm;rw[HT.sIx_nat,HT.sIx_none,Nat.min_eq_left h];exact ri (by rw[pw];omega)
theorem cutV_to(xs:List V)(k:Nat)(h:k<=xs.length):qm xs none (some (k:Int))=xs.take k:=by
 unfold qm;rw[HT.sIx_nat,HT.sIx_none,Nat.min_eq_left h];simp
theorem isTy_same{H H':Hp}{T:String}{v:V}(s:Zf H H')(h:Kd H v):XY H' T v=XY H T v:=by
 cases h with
 |non=>rfl
 |bl b=>rfl
 |int i=>rfl
 |str z hz=>rfl
 |lst e=>simp only[XY,e,s _ _ e]
 |tup e=>simp only[XY,e,s _ _ e]
 |dK e=>simp only[XY,e,s _ _ e]
theorem Vo{X:Cx}{st:Stmt}{WG:List Stmt}{t u:L2.TS}(h1:PS X st t)(h2:PSs X WG u):PSs X (st::WG) (fun D σ H=>∃J:St->Hp->Prop,t { D with nx:=J } σ H/\∀σ' H',J σ' H'->u D σ' H'):=by
 intro lC s σ H D I h;obtain⟨J,h,hj⟩:=h;refine wpAny_execs_cons (thn (h1 lC s σ H { D with nx:=J } I h) fun f s1 q=>?_);cases f with
 |next=>
  obtain⟨σ',H',I',q⟩:=q;exact h2 lC s1 σ' H' D I' (hj _ _ q)
 |ret v=>exact q
 |brk=>exact q
 |cont=>exact q
theorem neD_nil{K:W.Frag}{H:Hp}{a b:Addr}{ns:List Int}{Q:VK}(h1:H a=some (.lst (ns.map V.int)))(h2:H b=some (.lst []))(q:∀c:Bool,(c=true↔ns≠[])->Q (.bl c) H):rEqD K true (.ref a) (.ref b) H Q:=by
 refine⟨dI ns,.list [],LI.dp ⟨a,rfl,h1⟩,.lst (rS h2) .nil,(zo ns).1,by simp[PyData.canLay0,PyData.canLayAll0],nQ (zo ns).2 (by decide),?_⟩;refine q _ ?_;cases ns with
 |nil=>simp[dI,PyData.eqv,PyData.eqvAll]
 |cons x r=>simp[dI,PyData.eqv,PyData.eqvAll]
end L3
namespace L3
open PySem PySem.Spec PySem.Calls PyProof.Rows PySem.W L2 Builtin Builtin.ObjectAttr Builtin.Getset_descriptor
section
variable{prog:Program}{w:PySem.World}{A:Around}{E:Value->Shared->Prop}{h:Heap}{g:Array GenState}{d:Drawn}{t:Nat}{os:OsState}{K:Frag}{a C:Addr}
structure ExcK(K:Frag)(C:Addr):Prop where
 ga:findIn K (.ref C) "__getattribute__" = some (some (.builtin "BaseException.__getattribute__"))
 gh:findIn K (.ref C) "__getattr__" = some none
 ob:mroIn K C (.type "object")=some true
 be:mroIn K C (.type "BaseException")=some true
 cl:findIn K (.ref C) "__class__" = some (some (.builtin "object.__class__"))
 gt:specialIn K (.builtin "object.__class__") "__get__" = some (some (.builtin "getset_descriptor.__get__"))
 tk:takesIn K (.builtin "object.__class__")=some true
 hd:hasDictIn K C=true
end
section
variable{X:Cx}
end
end L3
namespace L3
open PySem PySem.Spec PyProof.Rows L2
section
variable{X:Cx}{e:Expr}{es:List Expr}{v:V}{vs:List V}{t:TA}
end
def starB:Expr->Bool
 |.Starred _ _=>true
 |_=>false
theorem star_c{e:Expr}{es:List Expr}{env:Env}(h:starB e=false):starEach (e::es) env=(false,eval e env)::starEach es env:=by
 cases e<;>first|rfl|cases h
theorem Z0{X:Cx}{e:Expr}{es:List Expr}{te:TE}{t:TA}(ha:PE X e te)(hr:PA X es t)(h:starB e=false:=by rfl):PA X (e::es) (VI te t):=Zr ha hr (star_c h)
end L3
namespace L3
open PySem PySem.SetTable
section
variable{t:SetTable}{hashAt:Nat->Int}{h:Int}
end
theorem Yo:∀{l₁ l₂:List Nat},l₁.Nodup->(∀x∈l₁,x∈l₂)->l₁.length<=l₂.length
 |[],_,_,_=>by simp
 |x::r,l₂,nd,h=>by
  obtain⟨h1,h2⟩:=oX.mp nd;have hx:=h x (by simp);have:=Yo (l₂:=l₂.erase x) h2 fun y hy=>(List.mem_erase_of_ne (fun e=>h1 (by rw[<- e];exact hy))).mpr (h y (oe _ hy));rw[List.length_erase_of_mem hx] at this;have:=rN hx;rw[n9];omega
end L3
namespace L3
open PySem PySem.Spec PyProof.Rows L2
theorem ZV{H:Hp}{a:Addr}{o:HO}(h:H a=none):∃H1,upd H a o=H1/\Zf H H1/\H1 a=some o:=⟨_,rfl,Zj h,Ze⟩
inductive OrR(K:W.Frag)(x:V)(H:Hp)(A B:Prop):Prop
 |mk (k:Bool) (h:TruV K x H k) (q:if k=true then A else B):OrR K x H A B
def tOrU(K:W.Frag)(ta tb:TE):TE:=fun σ H Q=>ta σ H fun x H1=>OrR K x H1 (Q x H1) (tb σ H1 Q)
theorem pe_orU{X:Cx}{K:W.Frag}{a b:Expr}{WG:List Expr}{pos:Pos}{ta tb:TE}(hK:X.K=K)(ha:PE X a ta)(hb:PE X (.BoolOp .Or (b::WG) pos) tb):PE X (.BoolOp .Or (a::b::WG) pos) (tOrU K ta tb):=by
 subst hK;intro lC s σ H Q I h;refine BoolOp_or (thn (ha lC s σ H _ I h) fun v s1 ⟨x,H1,I1,r1,q1⟩=>?_);obtain⟨k,ht,q⟩:=q1;refine thn (tru_ok lC s1 σ H1 x v (fun c H2=>if c=true then Q x H2 else tb σ H2 Q) I1 r1 ⟨k,ht,q⟩) fun c s2 ⟨H2,I2,q2⟩=>?_;cases c with
 |false=>exact hb lC s2 σ H2 Q I2 q2
 |true=>exact⟨x,H2,I2,r1,q2⟩
def zG(i:Str)(n:Nat):Str:=⟨(List.replicate n i.cps).foldl (·++·) #[]⟩
inductive rRepS_R(x y:V)(H:Hp)(Q:VK):Prop
 |mk (i:_) (n:Nat) (h0:x=.str i) (h1:y=.int n) (h2:1<=n) (h3:i.length*n<=4096) (h4:n<=4096) (h5:Q (.str (zG i n)) H):rRepS_R x y H Q
def rRepS:V->V->Hp->VK->Prop:=fun x y H Q=>rRepS_R x y H Q
theorem repS_one(i:Str):zG i 1=i:=by
 cases i with|mk c=>simp[zG]
theorem repS_nil{i:Str}(h:i.length=0)(n:Nat):zG i n=i:=by
 cases i with|mk c=>
  have hc:c=#[]:=Array.eq_empty_of_size_eq_zero h;subst hc;have:∀n,(List.replicate n (#[]:Array _)).foldl (·++·) (#[]:Array Nat)=#[]:=by
   intro n
   induction n with
   |zero=>rfl
   |succ n ih=>simpa[oP] using ih
  unfold zG;exact ni Str.mk (this n)
theorem kh(i:Str)(n:Nat):(zG i n).cps.toList=(List.replicate n i.cps.toList).flatten:=by
 have:∀(n:Nat) (a:Array Nat),((List.replicate n i.cps).foldl (·++·) a).toList=a.toList++(List.replicate n i.cps.toList).flatten:=by
  intro n
  induction n with
  |zero=>intro a;simp
  |succ n ih=>intro a;rw[oP,List.foldl_cons,ih,oP,py,Array.toList_append,oY]
 exact(this n #[]).trans (by simp)
theorem jT(i:Str)(n:Nat):(zG i n).length=i.length*n:=by
 have h:=ni List.length (kh i n);rw[List.length_flatten,List.map_replicate,List.sum_replicate_nat] at h
 show(zG i n).cps.size=i.cps.size*n
 rw[<- oV,h,oV,Nat.mul_comm]
theorem op_repS:OpR X (binaryOp .Mult) rRepS:=by
 intro lC s σ H x y v u Q I rx ry h;obtain⟨i,n,rfl,rfl,h1,h3,h4,q⟩:=h;obtain⟨t,rfl⟩:=rx;obtain⟨t',rfl⟩:=ry;have hn:¬((n:Int)<1):=by omega
 have hN:(n:Int).toNat=n:=by omega
 refine P.mul_str ?_ (fun _ _=>?_) (fun _ _=>?_) ?_
 ·have a1:¬((n:Int) < -(2 ^ 63:Int)):=by omega
  have a2:¬((n:Int)≥2 ^ 63):=by omega
  rw[nH a1,nH a2];rfl
 ·intro hh;have:((2:Int) ^ 63-1)/n≥4096*4096:=by
   apply Int.le_ediv_of_mul_le (by omega);have:(n:Int)<=4096:=by omega
   omega
  have h5:i.length<=i.length*n:=Nat.le_mul_of_pos_right _ h1;omega
 ·rw[hN];unfold Builtin.Str.tooLong;have h49:(4096:Nat)<=sizeLine:=by decide
  exact nH (by omega)
 ·rw[if_neg hn,hN]
  by_cases h6:((n:Int)==1||i.length==0)=true
  ·rw[if_pos h6];have e:zG i n=i:=by
    rcases rg _ _▸h6 with h7|h7
    ·have:n=1:=by have:=eq_of_beq h7;omega
     subst this;exact repS_one i
    ·exact repS_nil (eq_of_beq h7) n
   rw[e] at q;exact⟨.str i,H,I,⟨t,rfl⟩,q⟩
  ·rw[if_neg h6];refine⟨?_,.str (zG i n),H,I.tok _,⟨_,rfl⟩,q⟩;have:=jT i n;have hz:(4096:Nat)<=sizeLine:=by decide
   show(zG i n).length<=sizeLine
   omega
theorem letter_is(n:Int):atI ("abcdefghijklmnopqrstuvwxyz" : Str).cps.toList (n%26)=some (97+(n%26).toNat):=by
 have h0:=oq n (show(26:Int)≠0 by decide);have h1:=oI n (show(0:Int)<26 by decide);obtain⟨j,e⟩:=oA h0;rw[e] at h1 ⊢;have hj:j<26:=by omega
 have ha:∀i:Fin 26,("abcdefghijklmnopqrstuvwxyz" : Str).cps.toList[i.val]?=some (97+i.val):=by decide +kernel
 exact Zt (ha ⟨j,hj⟩)
def Vy(x:Int)(k n:Nat):Str:=zG ⟨#[97+((x+7*(k:Int))%26).toNat]⟩ n
theorem yc(x:Int)(k n:Nat):(Vy x k n).cps.toList=List.replicate n (97+((x+7*(k:Int))%26).toNat):=by
 unfold Vy;rw[kh]
 show(List.replicate n [_]).flatten=_
 induction n with
 |zero=>rfl
 |succ n ih=>rw[oP,py,ih];rfl
theorem kW(x:Int)(k n:Nat):(Vy x k n).length=n:=by
 unfold Vy;rw[jT]
 show 1*n=n
 omega
theorem nameAt_ok{x:Int}{k n:Nat}(h1:1<=n)(h2:n<=8):Yh (Vy x k n)=true:=by
 have e:=kW x k n;refine name_of (by omega) (by omega) ?_;rw[yc];have h0:=oq (x+7*(k:Int)) (show(26:Int)≠0 by decide);have h3:=oI (x+7*(k:Int)) (show(0:Int)<26 by decide);refine nY.mpr fun c hc=>?_;rw[List.eq_of_mem_replicate hc];exact nG (by omega)
theorem nameAt_ne{x:Int}{k j n m:Nat}(h1:1<=n)(hk:k<j)(hj:j<3):Vy x k n≠Vy x j m:=fun e=>by
 have e2:=ni (fun z:Str=>z.cps.toList) e;simp only[yc] at e2;have hm:(97+((x+7*(k:Int))%26).toNat)∈List.replicate m (97+((x+7*(j:Int))%26).toNat):=by
  rw[<- e2];exact List.mem_replicate.mpr ⟨by omega,rfl⟩
 have:=List.eq_of_mem_replicate hm;have h0:=oq (x+7*(k:Int)) (show(26:Int)≠0 by decide);have h3:=oq (x+7*(j:Int)) (show(26:Int)≠0 by decide);omega
def Ww(h:Heap)(d:Addr)(es:Array DictEntry)(ep:Nat):Prop:=∃o,h.get? d=some o/\o.ExactDict/\o.data=.dict es ep
section
variable{prog:Program}{w:World}{A:Around}{E:Value->Shared->Prop}{s:Shared}{d it:Addr}{es:Array DictEntry}{ep i:Nat}
theorem Ww.ty(m:Ww s.heap d es ep):s.TypeIs (.ref d) "dict" := let ⟨o,h1,h2,_⟩:=m; ⟨o,h1,h2.1⟩
theorem Ww.keep{h h':Heap}(m:Ww h d es ep)(k:∀o,h.get? d=some o->h'.get? d=some o):Ww h' d es ep:=let ⟨o,h1,r⟩:=m; ⟨o,k _ h1,r⟩
theorem Ww.lt{h:Heap}(m:Ww h d es ep):d<h.objs.size:=let ⟨_,h1,_⟩:=m;mR h1
theorem iter_rows{Q:Value->Shared->Prop}(hd:(d==sysModules)=false)(m:Ww s.heap d es ep)
  (q:Q (.ref s.heap.objs.size) { s with heap:=s.heap.push { cls:=.type "dict_keyiterator",data:=.fields #[.ref d,.int 0 0,.int es.size 0,.int ep 0] } }) :
  wpAny (model prog w) A (pyIter (.ref d)) Q E s:=by
 obtain⟨o,ho,hc,hdat⟩:=id m;refine wpAny_pyIter_slot m.ty F.slot_dict_iter (px F.slot_dict_iter m.ty F.entry_dict_iter ?_ (F.args_dict_iter_1 _));unfold Builtin.«dict.__iter__» Builtin.Dict.dictSlotNone Builtin.Dict.showsAll;refine mL (mL (wpAny_notOrdered_dict m.ty (mQ ?_)));refine mL (m:=Builtin.Dict.addrOf _) (wpAny_of_eq (a:=d) rfl ?_);rw[if_neg (by rw[hd];exact nh)];refine mL (mQ (mL (wpAny_dictEntries ho hdat (mL (wpAny_dictEpoch ho hdat ?_)))));exact mL (oE (mQ ⟨_,rfl, "dict_keyiterator",_,⟨_,nI _ rfl,rfl⟩,rO.lookup,by simpa[rawInt] using q⟩))
theorem xu{Q:Option Value->Shared->Prop}(hit:s.heap.IsKeyIter it d i es.size ep)(m:Ww s.heap d es ep)
  (q1:∀hi:i<es.size,∀h',h'.IsKeyIter it d (i+1) es.size ep->Heap.SameBut it s.heap h'->Q (some es[i].key) { s with heap:=h' })
  (q2:es.size<=i->A.handled=none/\∀h',Heap.ExtBut it s.heap h'->Q none { s with heap:=h' }):wpAny (model prog w) A (pyNext (.ref it)) Q E s:=by
 have ty:=hit.typeIs;obtain⟨o,ho,hc,hd⟩:=id hit;obtain⟨od,hod,_,hdd⟩:=m;have nm:∀{A':Around}{Q':String->Shared->Prop} {E'},Q' "dict_keyiterator" s->wpAny (model prog w) A' (typeNameOfWhole (.ref it)) Q' E' s:=fun h=>wpAny_typeNameOfWhole_keyiter ty h;unfold pyNext;refine mL (wpAny_attempt (rH (name:=Str.ofString "__next__") ty rO (px rO ty F.entry_dict_keyiterator_next ?_ (F.args_dict_keyiterator_next_1 _))));refine mL (mQ (mL (mL (mL (nm (mQ (mL (wpAny_fieldsOf ho hd ?_))))))));rw[show Builtin.Dict_items.ownsTuple "dict_keyiterator" = false by decide];simp only[rk,oM]
 change wpAny _ _ (if(Value.ref d==Value.none)=true then _ else _) _ _ s
 rw[if_neg (show ¬((Value.ref d==Value.none)=true) from nofun)];refine mL (mQ (mL (wpAny_dictEntries hod hdd ?_)));rw[if_neg (by simp)];refine mL (mQ (mL (wpAny_dictEpoch hod hdd ?_)));rw[if_neg (by simp)];refine mQ ?_;have n0:¬((i:Int)<0):=by omega
 rcases Nat.lt_or_ge i es.size with hi|hi
 ·simp only[n0,oM,mY,rM hi];refine mL (mL (nm (mQ (mL (wpAny_isOneOf_keyiter ty ?_)))));refine mL (m:=setField (.ref it) 1 (rawInt ((i:Int)+1))) (wpAny_setField ho hd (by simp) ?_);have st:(s.heap.update it (Obj.mapFields (·.setIfInBounds 1 (rawInt ((i:Int)+1))))).IsKeyIter it d (i+1) es.size ep:=
   ⟨_,Heap.get?_update_self _ ho (Obj.isFreed_of_fields (Obj.data_mapFields hd _)),(Obj.cls_mapFields ..).trans hc,by rw[Obj.data_mapFields hd];simp[rawInt]⟩
  have q:=q1 hi _ st (Heap.SameBut.update ..);generalize s.heap.update it (Obj.mapFields (·.setIfInBounds 1 (rawInt ((i:Int)+1))))=h' at st q ⊢;exact mL (oo (mL (wpAny_isOneOf_keyiter (s:={ s with heap:=h' }) st.typeIs (mQ (mQ ⟨_,rfl,mQ q⟩)))))
 ·obtain⟨hh,q⟩:=q2 hi;simp only[n0,oM,mY,Array.getElem?_eq_none hi];refine mL (mL (nm (mQ ?_)));refine mL (m:=setField (.ref it) 0 .none) (wpAny_setField ho hd (by simp) ?_);refine mL (m:=newExc (.type "StopIteration") []) ?_;simp only[newExc,newTuple];refine mL (oE (mL (m:=firstArgMember _ _) (wpAny_of_eq (a:=Value.none) rfl (oE ?_ (by size_fits)))) (by size_fits));unfold raiseNew;refine mL (wpAny_handled ?_);rw[show A.in1.handled=none from hh];refine mL (mQ (wpAny_throw ?_));exact mL (wpAny_isInstance (T := "StopIteration") (b:=true) ⟨_,nI _ rfl,rfl⟩ isSubtype_stop (mQ (q _ (((Heap.SameBut.update ..).extBut.push _).push _))))
theorem next_rows{Q:Option Value->Shared->Prop}(hit:s.heap.IsKeyIter it d i es.size ep)(m:Ww s.heap d es ep)(hi:i<es.size)
  (q:∀h',h'.IsKeyIter it d (i+1) es.size ep->Heap.SameBut it s.heap h'->Q (some es[i].key) { s with heap:=h' }) :
  wpAny (model prog w) A (pyNext (.ref it)) Q E s:=xu hit m (fun _=>q) fun h=>absurd hi (by omega)
theorem last_rows{Q:Option Value->Shared->Prop}(hh:A.handled=none)(hi:es.size<=i)(hit:s.heap.IsKeyIter it d i es.size ep)(m:Ww s.heap d es ep)
  (q:∀h',Heap.ExtBut it s.heap h'->Q none { s with heap:=h' }):wpAny (model prog w) A (pyNext (.ref it)) Q E s:=xu hit m (fun h=>absurd hi (by omega)) fun _=>⟨hh,q⟩
theorem kE(hh:A.handled=none)(I d:Addr)(hne:d≠I)(es:Array DictEntry)(ep:Nat) :
  Walks prog w A I [I,d] [I] es.size (fun i v=>∃e,es[i]?=some e/\v=e.key) (fun i h=>h.IsKeyIter I d i es.size ep/\Ww h d es ep) where
 sub:=fun b hb=>by simp at hb;simp[hb]
 frame:=fun _ _ _ st hk=>⟨st.1.at fun o e=>hk I (by simp) o e,st.2.keep fun o e=>hk d (by simp) o e⟩
 item:=fun i s Q E hi st hQ=>next_rows st.1 st.2 hi fun h' hit' hs'=>
  hQ _ h' s.toks ⟨es[i],rM hi,rfl⟩ ⟨hit',st.2.keep fun o e=>hs'.extBut d o hne e⟩ fun b o hb e=>hs'.extBut b o (fun h=>hb (by simp[h])) e
 done:=fun s Q E st hQ=>last_rows hh (mP _) st.1 st.2 fun h' he'=>hQ h' s.toks fun b o hb e=>he' b o (fun h=>hb (by simp[h])) e
 self:=fun _ _ _ _ st hQ=>wpAny_pyIter_keyiter st.1 hQ
theorem src_rows(lo:(d==sysModules)=false):W.KdlSrc prog w "dict" d d es.size (fun i v=>∃e,es[i]?=some e/\v=e.key) (fun h=>Ww h d es ep) where
 type:=fun _ m=>m.ty
 there:=fun _ m=>⟨m.lt,m.lt⟩
 keep:=fun _ _ m hk=>m.keep fun o e=>hk d (.inl rfl) o e
 notList:=by decide
 notTuple:=by decide
 hint:=fun _ _ _ _ m hq=>W.kdl_hint_dict m.ty hq
 iter:=fun _ _ hh m=>⟨_,_,(fun _ _ hq=>iter_rows lo m hq),kE hh _ d (na m.lt) es ep,⟨⟨_,nI _ rfl,rfl,rfl⟩,m.keep fun _ e=>m4 _ e⟩⟩
end
theorem rows_eq{fs:Array DictEntry}{acc:Array Value}{ys:List Value}(e:fs.toList.map (·.key)=ys)(h:ItemsOf (fun i v=>∃e,fs[i]?=some e/\v=e.key) acc fs.size):acc.toList=ys:=by
 subst e;refine List.ext_getElem? fun j=>?_;rw[mU,p8,p8];cases c:acc[j]? with
 |none=>
  have:acc.size<=j:=by simpa using c
  rw[Array.getElem?_eq_none (by have:=h.1;omega)];rfl
 |some v=>
  obtain⟨e,he,rfl⟩:=h.2 j v c;rw[he];rfl
abbrev TEm:=St->Hp->(St->Hp->Prop)->Prop
def PEm(X:Cx)(em:Sem Unit)(t:TEm):Prop:=
 ∀(lC:List (Addr×Obj)) (s:Shared) (σ:St) (H:Hp) (Q:St->Hp->Prop),L2.Inv X lC σ H s->t σ H Q->wpAny (model X.prog X.w) X.A em (fun _ s'=>∃σ' H',L2.Inv X lC σ' H' s'/\Q σ' H') X.xe s
def LoopW(J:It)(g:TG)(tt:TT)(em:TEm)(σ0:St)(H1:Hp)(Q:St->Hp->Prop):Prop:=
 ∃W:Nat->Nat->St->Hp->Prop,(∃m,W 0 m σ0 H1)/\∀i m σ' H',W i m σ' H'->(J.stop i H'/\Q σ' H') \/
  (J.go i H'/\∃N:St->Hp->Prop,(∀σ2 H5,N σ2 H5->∃m',m'<m/\W (i+1) m' σ2 H5)/\∀x H2,J.yld i H' x H2->g x σ' H2 fun σ2 H3=>tt σ2 H3 fun c H4=>if c=true then em σ2 H4 N else N σ2 H4)
def turnOf(p:Pos)(tg:Expr)(ifs:List Expr)(it:Value)(env:Env)(body:Sem Unit)(c:Code):Sem Fin:=do
 standAt p
 match <- pyNext it with
 |none=>pure (.done .next)
 |some v=>
  letOwnedTupleGo tg it v
  assign tg env v
  let mut ok:=true
  for c in ifs do
   if ok then ok <- isTrue c env (eval c env)
  if ok then body
  again c
theorem den_loop{prog:Program}{w:World}{e:Expr}{d:Nat}{it acc:Value}{env:Env}(h:(Code.compLoop e d it acc env).isFrame=false) :
  (model prog w).den (.compLoop e d it acc env)=(compTurn e d it acc env).onRaise (fun x=>do noteFrame x env;theTreesLotGoes x):=by
 show(if(Code.compLoop e d it acc env).isFrame then(compTurn e d it acc env).onRaise (leaving env) else(compTurn e d it acc env).onRaise (fun x=>do noteFrame x env;theTreesLotGoes x))=_
 rw[h];rfl
theorem den_start{prog:Program}{w:World}{e:Expr}{d:Nat}{it acc:Value}{env:Env}(h:(Code.compStart e d it acc env).isFrame=false) :
  (model prog w).den (.compStart e d it acc env)=(compStart e d it acc env).onRaise (fun x=>do noteFrame x env;standAt theWindowsPlace):=by
 show(if(Code.compStart e d it acc env).isFrame then(compStart e d it acc env).onRaise (leaving env) else(compStart e d it acc env).onRaise (fun x=>do noteFrame x env;standAt theWindowsPlace))=_
 rw[h];rfl
theorem start_any{prog:Program}{w:World}{A:Around}{R:Result->Shared->Prop}{s:Shared}{e tg iter:Expr}{ifs:List Expr}{d:Nat}{it acc:Value}{env:Env}(cl:(clausesOf e)[d]?=some ⟨tg,iter,ifs,0⟩)(hf:(Code.compStart e d it acc env).isFrame=false)
  (h0:codeAny (model prog w) A (.compLoop e d it acc env) R s)
  (h:wpAny (model prog w) A (pyIter it) (fun it' s'=>codeAny (model prog w) A (.compLoop e d it' acc env) R s') (fun _ _=>False) s) (hu:A.under (.compStart e d it acc env)=A:=by rfl) (hq:∀it',(Code.compLoop e d it' acc env).quiet=true:=by intro _;rfl) :
  codeAny (model prog w) A (.compStart e d it acc env) R s:=by
 refine codeAny_of_tree ?_;rw[den_start hf,hu];refine wpAny_notedAt ?_;unfold compStart;rw[cl]
 show wpAny _ A (ask >>= _) _ _ s
 refine mL (wpAny_askSetting (wpAny_ite ?_))
 split
 ·first
   |exact mL (mQ (mQ (And.intro (hq _) h0)))
   |exact mQ (And.intro (hq _) h0)
 ·first
   |exact mL (wpAny_rule (mL (oQ (mL (thnF h fun it' s' h'=>mQ (And.intro (hq _) h'))))))
   | (refine mL (wpAny_rule ?_);show wpAny _ _ (standAt iter.pos >>= _) _ _ s;exact mL (oQ (mL (thnF h fun it' s' h'=>mQ (And.intro (hq _) h')))))
section
variable{Y:Cx}{lC:List (Addr×Obj)}{σ0:St}{H1:Hp}{s:Shared}{J:It}{fp:List Addr}{it:Addr}{tn:Nat->Heap->Prop}{tg:Expr}{ifs:List Expr}{g:TG}{tt:TT}{em:TEm}{p:Pos}{body:Sem Unit}{e:Expr}{d:Nat}{acc:Value}{Q:St->Hp->Prop}{R:Result->Shared->Prop}
theorem loop_em(hf:(Code.compLoop e d (.ref it) acc Y.env).isFrame=false)(ht:compTurn e d (.ref it) acc Y.env=turnOf p tg ifs (.ref it) Y.env body (.compLoop e d (.ref it) acc Y.env))
  (T:Turn Y.prog Y.w Y.K tg J fp it tn) (I:L2.Inv Y lC σ0 H1 s) (st:tn 0 s.heap) (hfp:∀b∈fp,Ve Y lC H1 b) (hc:Y.calm=true) (hx:Y.xe=fun _ _=>False)
  (hg:PG Y tg g) (hT:PTs Y ifs tt) (he:PEm Y body em) (h:LoopW J g tt em σ0 H1 Q) (hR:∀σ' H' s',L2.Inv Y lC σ' H' s'->Q σ' H'->R (.ok .next) s')
  (hu:Y.A.under (.compLoop e d (.ref it) acc Y.env)=Y.A:=by rfl) (hq:(Code.compLoop e d (.ref it) acc Y.env).quiet=true:=by rfl) :
  codeAny (model Y.prog Y.w) Y.A (.compLoop e d (.ref it) acc Y.env) R s:=by
 obtain⟨W,⟨m0,w0⟩,turn⟩:=h;have stat:∀{H':Hp},(∀b∈fp,H' b=none)->∀b∈fp,Ve Y lC H' b:=fun {H'} hn b hb=>by
  obtain⟨f0,fr⟩:=hfp b hb;exact⟨hn b hb,fr⟩
 unfold PG at hg;unfold PTs at hT;unfold PEm at he;rw[hx] at hg hT he;refine codeAny_loop hq (fun n s'=>∃i σ' H',L2.Inv Y lC σ' H' s'/\tn i s'.heap/\(∀b∈fp,H' b=none)/\W i n σ' H') ?_ m0 ⟨0,σ0,H1,I,st,fun b hb=>(hfp b hb).1,w0⟩;rintro n s5 ⟨i,σ5,H5,I5,st5,fr5,w5⟩;rw[den_loop hf,hu,ht];refine wpAny_noted ?_;unfold turnOf;have TI:=T.item Y rfl rfl rfl hc i lC s5 σ5 H5 (fun _ _=>False) I5 (stat fr5) st5;have TD:=T.done Y rfl rfl rfl hc i lC s5 σ5 H5 (fun _ _=>False) I5 (stat fr5) st5;rcases turn i n σ5 H5 w5 with⟨stop,qn⟩|⟨go,N,hN,step⟩
 ·refine mL (oQ (mL (thnF (TD stop) fun r s6 ⟨hr,I6⟩=>?_)));subst hr;exact mQ (hR _ _ _ I6 qn)
 ·refine mL (oQ (mL (thnF (TI go) fun r s6 ⟨u,hr,h6⟩=>?_)));subst hr;refine mL (thnF h6 fun _ s7 ⟨x,H7,I7,r7,y7,st7,fr7⟩=>?_);have I7':=I7.pinned (stat fr7) (T.obj _ _ st7);refine mL (thnF (hg _ s7 σ5 H7 x u _ I7' r7 (step x H7 y7)) fun _ s8 ⟨σ8,H8,I8,q8⟩=>?_);refine mL (thnF (hT _ s8 σ8 H8 _ I8 q8) fun c s9 ⟨H9,I9,q9⟩=>?_);have back:∀{σa:St}{Ha:Hp}{sa:Shared},L2.Inv Y (lC++UQ fp s7.heap) σa Ha sa->(∃m',m'<n/\W (i+1) m' σa Ha)->∃m,m<n/\∃i σ' H',L2.Inv Y lC σ' H' sa/\tn i sa.heap/\(∀b∈fp,H' b=none)/\W i m σ' H':=fun {σa Ha sa} Ia ⟨m',hm,wa⟩=>by
   refine⟨m',hm,i+1,σa,Ha,Ia.unpinned,T.keep _ _ _ st7 fun b hb o e=>(Ia.pin (b,o) (nU _ (nU _ (Wy hb e)))).1,fun b hb=>?_,wa⟩;obtain⟨o,e,d⟩:=T.obj _ _ st7 b hb;exact(Ia.pin (b,o) (nU _ (nU _ (Wy hb e)))).2.1
  cases c with
  |false=>exact mQ ⟨rfl,back I9 (hN _ _ (by simpa using q9))⟩
  |true=>
   rw[if_pos rfl] at q9;exact mL (thnF (he _ s9 σ8 H9 _ I9 q9) fun _ s10 ⟨σ10,H10,I10,q10⟩=>mQ ⟨rfl,back I10 (hN _ _ q10)⟩)
end
def tCompE(wi:TI)(ix:List (Option Nat))(o0:Addr->HO)(g:TG)(tt:TT)(em:Addr->TEm):TE:=fun σ H Q=>wi σ H fun J H1=>∀D,H1 D=none->LoopW J g tt (em D) (sub ix σ) (upd H1 D (o0 D)) (fun _ H'=>Q (.ref D) H')
section
variable{X:Cx}{lC:List (Addr×Obj)}{σ:St}{H:Hp}{s:Shared}{Nc:List Str}{ix:List (Option Nat)}{scope:Scope}
theorem xv{e tg iter:Expr}{ifs:List Expr}{WG:List Comprehension}{pos2:Pos}{nA:Sem Value}{ob:Obj}{o0:Addr->HO}{bd:Addr->Env->Sem Unit}{wi:TI}{g:TG}{tt:TT}{em:Addr->TEm}{use:Option (Value->Sem Unit)}{QV:Value->Shared->Prop}{Q:VK}
  (I:L2.Inv X lC σ H s) (h:tCompE wi ix o0 g tt em σ H Q)
  (fin:∀(D C:Addr) (H':Hp) (s':Shared) (m:Str->Option Value),L2.Inv X lC σ H' s'->Ve X lC H' C->s'.heap.Ns C m->Q (.ref D) H'->compPost (model X.prog X.w) X.A X.xe use QV (.ref D) C (.ok .next) s')
  (hcl:clausesOf e=⟨tg,iter,ifs,0⟩::WG) (hfr:∀it acc env,(Code.compLoop e 0 it acc env).isFrame=false/\(Code.compStart e 0 it acc env).isFrame=false)
  (htn:∀it D env,compTurn e 0 it (.ref D) env=turnOf iter.pos tg ifs it env (bd D env) (.compLoop e 0 it (.ref D) env))
  (hun:∀(A:Around) it acc env,A.under (.compLoop e 0 it acc env)=A/\A.under (.compStart e 0 it acc env)=A) (hqt:∀it acc env,(Code.compLoop e 0 it acc env).quiet=true)
  (hnA:∀(A:Around) (E:Value->Shared->Prop) (Q:Value->Shared->Prop) (s:Shared),Q (.ref s.heap.objs.size) { s with heap:=s.heap.push ob }->wpAny (model X.prog X.w) A nA Q E s)
  (hpl:∀s2:Shared,∀H1,L2.Inv X lC σ H1 s2->L2.Inv X lC σ (upd H1 s2.heap.objs.size (o0 s2.heap.objs.size)) { s2 with heap:=s2.heap.push ob })
  (ok:ZA X.env.scope X.N Nc ix scope) (hc:X.calm=true) (hi:PI X tg iter wi)
  (hg:∀cl C s H fp,PG (Xf X Nc scope cl C s H fp) tg g) (ht:∀cl C s H fp,PTs (Xf X Nc scope cl C s H fp) ifs tt) (he:∀cl C s H fp D,PEm (Xf X Nc scope cl C s H fp) (bd D (compEnvC scope cl C X.env)) (em D))
  (hs:∀x,foldedSetIterable iter X.env x=pure x:=by intro _;rfl):wpAny (model X.prog X.w) X.A (comprehension e scope X.env pos2 nA false (eval iter X.env) use) QV X.xe s:=by
 refine wpAny_comprehension_free (use:=use) (cl:=Xv scope X.env) hcl hs (clos_eq (qM I ok)) ok.kind ok.names (thn (hi lC s σ H _ I h) fun v s1 q1=>thn q1 fun itv s2 q2=>?_);obtain⟨it,fp,tn,J,H1,e1,I2,T,st2,f2,q⟩:=q2;subst e1;have hD:H1 s2.heap.objs.size=none:=I2.hok.fresh (mP _);have lw:=q _ hD;refine hnA _ _ _ _ ?_;have I3:=hpl s2 H1 I2;have hob2:=T.obj 0 _ st2;have f3:∀b∈fp,Ve X lC (upd H1 s2.heap.objs.size (o0 s2.heap.objs.size)) b:=fun b hb=>by
  obtain⟨o,e,_⟩:=hob2 b hb;obtain⟨f0,fr⟩:=f2 b hb;exact⟨by rw[Zy (na (mR e))];exact f0,fr⟩
 have st3:tn 0 (s2.heap.push ob):=T.keep 0 _ _ st2 fun b _ o e=>m4 _ e;generalize hs3:({ s2 with heap:=s2.heap.push ob }:Shared)=s3 at I3 ⊢;have st3':tn 0 s3.heap:=by rw[<- hs3];exact st3
 refine wpAny_newFunctionEnv ok.nocell (by intro y hy;simp at hy) (fun h1 hns hsb=>?_) ok.kind;have k1:∀b o,s3.heap.get? b=some o->h1.get? b=some o:=fun b o e=>(hsb.2 b (na (mR e))).trans (m4 _ e);have hob3:∀b∈fp,∃o,s3.heap.get? b=some o:=fun b hb=>let ⟨o,e,_⟩:=T.obj 0 _ st3' b hb; ⟨o,e⟩
 have I4:L2.Inv (Xf X Nc scope (Xv scope X.env) s3.heap.objs.size s3 (upd H1 s2.heap.objs.size (o0 s2.heap.objs.size)) fp) lC (sub ix σ) (upd H1 s2.heap.objs.size (o0 s2.heap.objs.size)) { s3 with heap:=h1,toks:=s3.toks+([]:List (Str×Value)).length }:=
  kF I3 ok f3 hob3 hns k1
 have st4:tn 0 h1:=T.keep 0 _ _ st3' fun b _ o e=>k1 b o e;have hC:s3.heap.get? s3.heap.objs.size=none:=Heap.get?_none_of_le (mP _);have f4:∀b∈fp,Ve (Xf X Nc scope (Xv scope X.env) s3.heap.objs.size s3 (upd H1 s2.heap.objs.size (o0 s2.heap.objs.size)) fp) lC (upd H1 s2.heap.objs.size (o0 s2.heap.objs.size)) b:=fun b hb=>by
  obtain⟨o,e⟩:=hob3 b hb;obtain⟨f0,f1,ff,f3',f4,f5⟩:=f3 b hb;have nst:b∉frs X.stack:=fun z=>by
   rcases nu.mp (I3.stkSub b z) with z|z
   ·exact f1 z
   ·exact ff z
  exact⟨f0,na (mR e),nst,.inl hb,fun x c q=>f4 x c (YG (qM I3 ok) q),f5⟩
 have loop:=loop_em (Y:=Xf X Nc scope (Xv scope X.env) s3.heap.objs.size s3 (upd H1 s2.heap.objs.size (o0 s2.heap.objs.size)) fp) (e:=e) (d:=0) (acc:=.ref s2.heap.objs.size) (p:=iter.pos) (R:=compPost (model X.prog X.w) X.A X.xe use QV (.ref s2.heap.objs.size) s3.heap.objs.size)
  (hfr _ _ _).1 (htn _ _ _) T I4 st4 f4 hc rfl (hg _ _ _ _ _) (ht _ _ _ _ _) (he _ _ _ _ _ _) lw (fun σ' H' s' J' qq=>by
   obtain⟨m',hn',_⟩:=id J'.loc;have hCn:H' s3.heap.objs.size=none:=J'.free;exact fin _ _ H' s' m' (comp_end (h':=s'.heap) I3 f3 hC J' (.refl ..)) (I3.fpOk (mP _) hCn) hn' qq) (hun _ _ _ _).1 (hqt _ _ _)
 exact start_any (by rw[hcl];rfl) (hfr _ _ _).2 loop (T.self X.A 0 _ _ _ st4 loop) (hun _ _ _ _).2 (fun _=>hqt _ _ _)
end
end L3
namespace L2
open PySem PySem.Spec PyProof.Rows
section
variable(P:Program)(w:World)
end
section
variable{P:Program}{w:World}{H H':Hp}{h h':Heap}{a:Addr}{o:HO}
end
section
variable{P:Program}{w:World}{H:Hp}{h h':Heap}{x e:Addr}{o':HO}
end
section
variable{fs fs' ex ex':List Addr}{H H1 H2:Hp}{h h1 h2 h':Heap}{a x e:Addr}{o:HO}
end
section
variable{X:Cx}{lC:List (Addr×Obj)}{σ:List (Option V)}{H H':Hp}{s:Shared}{h':Heap}
end
section
variable{X:Cx}
variable{a b:Expr}{ta tb:TE}{pos:Pos}
variable{tA tB':TT}{WG:List Expr}
end
section
variable{X:Cx}{lC:List (Addr×Obj)}{σ:St}{H:Hp}{s:Shared}{a:Addr}{xs ys:List V}
end
section
variable{X:Cx}{lC:List (Addr×Obj)}{σ:St}{H:Hp}{s:Shared}{E:Value->Shared->Prop}
end
section
variable{X:Cx}{st:Stmt}{WG:List Stmt}{t u:TS}{e:Expr}{te:TE}{pos:Pos}
end
section
variable{X:Cx}{pos:Pos}
end
section
variable{X:Cx}{pos:Pos}
end
section
variable{X:Cx}{tg:Expr}
end
section
variable{X:Cx}{a b c:Expr}{ta tb tc:TE}{pos:Pos}
end
section
variable{X:Cx}{a b c:Expr}{ta tb tc:TE}{pos:Pos}
end
section
variable{prog:Program}{w:World}{A:Around}{E:Value->Shared->Prop}{s:Shared}{K:W.Frag}{x dx C f:Addr}{mA:Str->Option Value}{name:Str}{v:Value}
end
section
variable{P:Program}{w:World}{H H':Hp}{h h':Heap}{a C dx:Addr}{fs fs':List (Str×V)}
end
section
variable{X:Cx}{lC:List (Addr×Obj)}{σ:St}{H:Hp}{s:Shared}{a C dx:Addr}{fs:List (Str×V)}{f:Str}{v:V}{A:Around}{E:Value->Shared->Prop}
end
section
variable{X:Cx}{o e value:Expr}{f:Str}{pos pos' tpos:Pos}{ta tv:TE}
end
section
variable{X:Cx}{lC:List (Addr×Obj)}{σ:St}{H:Hp}{s:Shared}{A:Around}{E:Value->Shared->Prop}{Q:Value->Shared->Prop}{c:Value}{b:Bool}
end
section
variable{X:Cx}{e:Expr}{es:List Expr}{te:TE}{t:TA}{pos:Pos}
end
section
variable{X:Cx}{lC:List (Addr×Obj)}{σ:St}{H:Hp}{s s':Shared}
end
section
variable{X:Cx}{CX:CXT}{k:Nat}{f C:Addr}{fd:FuncData}{ps:List Str}{sp:Sp}{dvs:List V}{ds:List Value}{E:XK}{x m:Str}{p pos apos:Pos}{e o:Expr}{es:List Expr}{ta:TE}{t:TA}
end
section
variable{X:Cx}{CX:CXT}{k:Nat}{f C:Addr}{fd:FuncData}{ps ks:List Str}{sp:Sp}{E:XK}{x m:Str}{p pos apos kpos:Pos}{e o:Expr}{es:List Expr}{kws:List Keyword}{te ta:TE}{t tk:TA}{nm:Option Str}
variable{g:List Value->List Value->List Value}{gV:List V->List V->List V}
end
section
variable{X:Cx}{x:Str}{p pos:Pos}{e:Expr}{es:List Expr}{t:TA}{id T:String}{r:List V->Hp->VK->Prop}
end
section
variable{κ:Type}[DecidableEq κ]
def Vs(kvs:List (κ×V))(k:κ):Option V:=(kvs.find? fun kv=>decide (kv.1=k)).map (·.2)
def Us(kvs:List (κ×V))(k:κ)(v:V):List (κ×V):=
 if(kvs.any fun kv=>decide (kv.1=k))=true then kvs.map (fun kv=>if kv.1=k then(kv.1,v) else kv) else kvs++[(k,v)]
theorem qu{p:κ×V}{r:List (κ×V)}{k:κ}(e:p.1=k):Vs (p::r) k=some p.2:=by simp[Vs,pz,e]
theorem V1{p:κ×V}{r:List (κ×V)}{k:κ}(e:¬p.1=k):Vs (p::r) k=Vs r k:=by simp[Vs,pz,e]
theorem yC(k:κ):∀kvs:List (κ×V),(kvs.any fun kv=>decide (kv.1=k))=(Vs kvs k).isSome
 |[]=>rfl
 |p::r=>by
  rw[pd]
  by_cases e:p.1=k
  ·simp only[qu e,nG e,Bool.true_or,Option.isSome_some]
  ·rw[V1 e,nH e,Bool.false_or];exact yC k r
theorem Vb(kvs:List (κ×V))(k:κ)(v:V):(Us kvs k v).length<=kvs.length+1:=by
 unfold Us
 split
 ·rw[mM];omega
 ·rw[mT,n9,List.length_nil];omega
theorem putK_new{kvs:List (κ×V)}{k:κ}(v:V)(h:Vs kvs k=none):Us kvs k v=kvs++[(k,v)]:=by
 unfold Us;rw[yC,h];exact if_neg (by decide)
theorem Ur.isSome_eq{o:Option V}{u:Option Value}(r:Ur o u):o.isSome=u.isSome:=by
 cases o with
 |none=>cases u with
  |none=>rfl
  |some _=>exact(show False from r).elim
 |some _=>cases u with
  |none=>exact(show False from r).elim
  |some _=>rfl
theorem KV.val{kvs:List (κ×V)}{vs:List (κ×Value)}(r:KV kvs vs)(k:κ):Ur (Vs kvs k) (valueAt vs k):=by
 unfold KV at r
 induction r with
 |nil=>exact True.intro
 |@cons p q ps qs h t ih=>
  obtain⟨h1,h2⟩:=h
  by_cases e:p.1=k
  ·have e':q.1=k:=h1.symm.trans e;have b:valueAt (q::qs) k=some q.2:=by simp[valueAt,pz,e']
   rw[qu e,b];exact h2
  ·have e':¬q.1=k:=fun z=>e (h1.trans z);have b:valueAt (q::qs) k=valueAt qs k:=by simp[valueAt,pz,e']
   rw[V1 e,b];exact ih
theorem KV.any{kvs:List (κ×V)}{vs:List (κ×Value)}(r:KV kvs vs)(k:κ):(kvs.any fun kv=>decide (kv.1=k))=vs.any fun kv=>decide (kv.1=k):=by
 unfold KV at r
 induction r with
 |nil=>rfl
 |cons h t ih=>rw[pd,pd,ih,h.1]
theorem KV.repl{kvs:List (κ×V)}{vs:List (κ×Value)}(r:KV kvs vs)(k:κ){y:V}{u:Value}(ry:Z1 y u) :
  KV (kvs.map fun kv=>if kv.1=k then(kv.1,y) else kv) (vs.map fun kv=>if kv.1=k then(kv.1,u) else kv):=by
 unfold KV at r ⊢
 induction r with
 |nil=>exact .nil
 |@cons p q ps qs h t ih=>
  rw[mV,mV];refine .cons ?_ ih;obtain⟨h1,h2⟩:=h
  by_cases e:p.1=k
  ·rw[if_pos e,if_pos (h1.symm.trans e)];exact⟨h1,ry⟩
  ·rw[if_neg e,if_neg (fun z=>e (h1.trans z))];exact⟨h1,h2⟩
theorem KV.put{kvs:List (κ×V)}{vs:List (κ×Value)}(r:KV kvs vs)(k:κ){y:V}{u:Value}(ry:Z1 y u):KV (Us kvs k y) (stored vs k u):=by
 unfold Us stored;rw[r.any k]
 by_cases e:(vs.any fun kv=>decide (kv.1=k))=true
 ·rw[if_pos e,if_pos e];exact r.repl k ry
 ·rw[if_neg e,if_neg e];exact Paired.snoc r ⟨rfl,ry⟩
theorem KV.length{kvs:List (κ×V)}{vs:List (κ×Value)}(r:KV kvs vs):kvs.length=vs.length:=pD r
end
theorem kV_is{P:Program}{w:World}{k:Key}{u:Value}(r:Z1 (kV k) u):(Z3 P w).is k u=true:=by
 cases k with
 |inl i=>obtain⟨t,e⟩:=(show ∃t,u=Value.int i t from r);subst e;exact jH P w i t
 |inr x=>obtain⟨t,e⟩:=(show ∃t,u=Value.str x t from r);subst e;exact j5 P w x t
theorem xS{P:Program}{w:World}:∀{ks:List Key}{us:List Value},ZP (ks.map kV) us->ItemsAre (Z3 P w) ks us
 |[],_,r=>by rw[nO] at r;cases r;exact .nil
 |k::ks,_,r=>by
  rw[mV] at r;cases r with
  |cons h t=>exact .cons (kV_is h) (xS t)
abbrev KT(H:Hp):List (List Key×V)->List (List Key×Addr×Value)->Prop:=Paired fun p q=>p.1=q.1/\H q.2.1=some (.tup (p.1.map kV))/\Z1 p.2 q.2.2
theorem KT.val{H:Hp}{kvs:List (List Key×V)}{xs:List (List Key×Addr×Value)}(r:KT H kvs xs)(k:List Key):Ur (Vs kvs k) ((atKey xs k).map (·.2)):=by
 induction r with
 |nil=>exact True.intro
 |@cons p q ps qs h t ih=>
  obtain⟨h1,_,h2⟩:=h
  by_cases e:p.1=k
  ·have e':q.1=k:=h1.symm.trans e;have b:atKey (q::qs) k=some q.2:=by simp[atKey,pz,e']
   rw[qu e,b];exact h2
  ·have e':¬q.1=k:=fun z=>e (h1.trans z);have b:atKey (q::qs) k=atKey qs k:=by simp[atKey,pz,e']
   rw[V1 e,b];exact ih
theorem KT.repl{H:Hp}{kvs:List (List Key×V)}{xs:List (List Key×Addr×Value)}(r:KT H kvs xs)(k:List Key){y:V}{u:Value}(ry:Z1 y u) :
  KT H (kvs.map fun kv=>if kv.1=k then(kv.1,y) else kv) (xs.map (putAt k u)):=by
 induction r with
 |nil=>exact .nil
 |@cons p q ps qs h t ih=>
  rw[mV,mV];refine .cons ?_ ih;obtain⟨h1,h2,h3⟩:=h;unfold putAt
  by_cases e:p.1=k
  ·rw[if_pos e,if_pos (h1.symm.trans e)];exact⟨h1,h2,ry⟩
  ·rw[if_neg e,if_neg (fun z=>e (h1.trans z))];exact⟨h1,h2,h3⟩
theorem KT.put{H:Hp}{kvs:List (List Key×V)}{xs:List (List Key×Addr×Value)}(r:KT H kvs xs)(k:List Key){b:Addr}{y:V}{u:Value}(hb:H b=some (.tup (k.map kV)))(ry:Z1 y u) :
  KT H (Us kvs k y) (storedH xs k b u):=by
 have e:(kvs.any fun kv=>decide (kv.1=k))=(atKey xs k).isSome:=by
  rw[yC,(r.val k).isSome_eq,Option.isSome_map]
 unfold Us storedH;rw[e]
 by_cases q:(atKey xs k).isSome=true
 ·rw[if_pos q,if_pos q];exact r.repl k ry
 ·rw[if_neg q,if_neg q];exact Paired.snoc r ⟨rfl,hb,ry⟩
theorem KT.keeps{H H':Hp}{kvs:List (List Key×V)}{xs:List (List Key×Addr×Value)}(r:KT H kvs xs)(ht:∀b ys,H b=some (.tup ys)->H' b=some (.tup ys)):KT H' kvs xs:=
 Paired.mapP r fun _ _ z=>⟨z.1,ht _ _ z.2.1,z.2.2⟩
section
variable{P:Program}{w:World}{H:Hp}{h:Heap}{a:Addr}
theorem rd_of{u:HO}(ok:HOk P w H h)(e:Rd H a u):Xe P w H h a u:=e.ok ok
theorem dk_rd{kvs:List (Key×V)}(ok:HOk P w H h)(e:Rd H a (.dK kvs)):kvs.length<=sizeLine/\(a==sysModules)=false/\∃vs,KV kvs vs/\h.DictOf (Z3 P w) a vs:=
 show Xe P w H h a (.dK kvs) from rd_of ok e
theorem xp{kvs:List (Key×V)}(ok:HOk P w H h)(e:H a=some (.dK kvs)):kvs.length<=sizeLine/\(a==sysModules)=false/\∃vs,KV kvs vs/\h.DictOf (Z3 P w) a vs:=dk_rd ok (.inl e)
theorem vR{ks:List Key}(ok:HOk P w H h)(e:H a=some (.tup (ks.map kV))):(tupleKind (Z3 P w)).is h ks a:=by
 obtain⟨_,its,r,o,h1,h2,n,h3⟩:=(show Xe P w H h a (.tup (ks.map kV)) from ok a _ e);exact⟨o,its.toArray,n,h1,h2,h3,by simpa using xS r⟩
theorem dt_rd{kvs:List (List Key×V)}(ok:HOk P w H h)(e:Rd H a (.dT kvs)):kvs.length<=sizeLine/\(a==sysModules)=false /\
  ∃xs,KT H kvs xs/\h.DictOfH (tupleKind (Z3 P w)) a xs:=by
 obtain⟨z,y,xs,r,o,es,ep,h1,h2,h3,h4,h5⟩:=(show Xe P w H h a (.dT kvs) from rd_of ok e);refine⟨z,y,xs,r,o,es,ep,h1,h2,h3,h4,fun x hx=>?_,h5⟩;have all:∀{l:List (List Key×V)}{m:List (List Key×Addr×Value)},KT H l m->∀x∈m,(tupleKind (Z3 P w)).is h x.1 x.2.1:=by
  intro l m q
  induction q with
  |nil=>intro x hx;exact nomatch hx
  |@cons p q ps qs hq t ih=>
   intro x hx;rcases nu.mp hx with e|hx
   ·subst e;exact vR ok (by rw[<- hq.1];exact hq.2.1)
   ·exact ih x hx
 exact all r x hx
theorem dt_of{kvs:List (List Key×V)}(ok:HOk P w H h)(e:H a=some (.dT kvs)):kvs.length<=sizeLine/\(a==sysModules)=false /\
  ∃xs,KT H kvs xs/\h.DictOfH (tupleKind (Z3 P w)) a xs:=dt_rd ok (.inl e)
end
def DGet(H:Hp)(a:Addr)(y:V)(r:Option V):Prop:=
 (∃kvs k,Rd H a (.dK kvs)/\y=kV k/\r=Vs kvs k)\/∃kvs k b,Rd H a (.dT kvs)/\y=.ref b/\H b=some (.tup (k.map kV))/\r=Vs kvs k
def DPut(H:Hp)(a:Addr)(y v:V)(H':Hp):Prop:=
 (∃kvs k,H a=some (.dK kvs)/\y=kV k/\kvs.length<sizeLine/\H'=upd H a (.dK (Us kvs k v))) \/
 ∃kvs k b,H a=some (.dT kvs)/\y=.ref b/\H b=some (.tup (k.map kV))/\kvs.length<sizeLine/\H'=upd H a (.dT (Us kvs k v))
theorem DGet.k{H:Hp}{a:Addr}{kvs:List (Key×V)}{k:Key}(e:H a=some (.dK kvs)):DGet H a (kV k) (Vs kvs k):=.inl ⟨kvs,k,.inl e,rfl,rfl⟩
theorem DPut.k{H:Hp}{a:Addr}{kvs:List (Key×V)}{k:Key}{v:V}(e:H a=some (.dK kvs))(hl:kvs.length<sizeLine):DPut H a (kV k) v (upd H a (.dK (Us kvs k v))):=.inl ⟨kvs,k,e,rfl,hl,rfl⟩
section
variable{X:Cx}{lC:List (Addr×Obj)}{σ:St}{H:Hp}{s:Shared}{a:Addr}{y v:V}{u r:Value}{o:Option V}{A:Around}{E:Value->Shared->Prop}
theorem Inv.big(I:Inv X lC σ H s):sysModules<s.heap.objs.size:=by
 have h:mainGlobals<s.heap.objs.size:=(I.mod.glob.keeps I.bk).lt;exact Nat.lt_trans (by decide) h
theorem d_getItem{Q:Value->Shared->Prop}(hu:A.units+1<cLine)(I:Inv X lC σ H s)(g:DGet H a y (some v))(ry:Z1 y u)(h:∀w' s',Inv X lC σ H s'->Z1 v w'->Q w' s') :
  wpAny (model X.prog X.w) A (getItem (.ref a) u) Q E s:=by
 rcases g with⟨kvs,k,e,ey,l⟩|⟨kvs,k,b,e,ey,eb,l⟩
 ·subst ey;obtain⟨z,hd,vs,rel,dd⟩:=dk_rd I.hok e;obtain⟨w',hw,rw'⟩:=Ur.some_of (v:=v) (o:=valueAt vs k) (by rw[l];exact rel.val k);exact wpAny_getItem_of (kV_is ry) dd.mapOf hw (h w' _ (I.tok _) rw')
 ·subst ey;cases (show u=Value.ref b from ry);obtain⟨z,hd,xs,rel,dd⟩:=dt_rd I.hok e;obtain⟨w',hw,rw'⟩:=Ur.some_of (v:=v) (o:=(atKey xs k).map (·.2)) (by rw[l];exact rel.val k);obtain⟨p,hp,hp2⟩:=oU.mp hw;refine wpAny_getItem_heap (tupleKind_room_in1 hu) (vR I.hok eb) dd hp ?_;rw[hp2];exact h w' _ (I.tok _) rw'
theorem qo{h':Heap}{t':Nat}{ob:HO}(I:Inv X lC σ H s)(mu:Mut (H a))(hs:Heap.SameBut a s.heap h')(he:∃q,h'.get? a=some q)(new:Xe X.prog X.w (upd H a ob) h' a ob) :
  Inv X lC σ (upd H a ob) { s with heap:=h',toks:=t' }:=
 I.write (x:=a) (e:=a) mu (.inl rfl) (fun b q hb z=>(hs.2 b hb).trans z) he new
theorem dk_new{P:Program}{w:World}{H':Hp}{h':Heap}{kvs:List (Key×V)}{vs:List (Key×Value)}(z:kvs.length<=sizeLine)(hd:(a==sysModules)=false)(rel:KV kvs vs)(dd:h'.DictOf (Z3 P w) a vs) :
  Xe P w H' h' a (.dK kvs):=⟨z,hd,vs,rel,dd⟩
theorem d_setItem{H':Hp}{Q:Unit->Shared->Prop}(hu:A.units+1<cLine)(I:Inv X lC σ H s)(g:DPut H a y v H')(ry:Z1 y u)(rv:Z1 v r)(h:∀s',Inv X lC σ H' s'->Q () s') :
  wpAny (model X.prog X.w) A (setItem (.ref a) u r) Q E s:=by
 rcases g with⟨kvs,k,e,ey,l,eH⟩|⟨kvs,k,b,e,ey,eb,l,eH⟩
 ·subst ey eH;obtain⟨z,hd,vs,rel,dd⟩:=xp I.hok e;have hz:vs.length<=sizeLine:=by rw[<- rel.length];exact z
  have hl:(Us kvs k v).length<=sizeLine:=by have:=Vb kvs k v;omega
  refine wpAny_setItem_pairs (hsz:=hz) (kV_is ry) dd fun h' dd' hs=>h _ ?_;have he:∃q,h'.get? a=some q:=let ⟨q,_,_,hq,_⟩:=dd'; ⟨q,hq⟩
  exact qo I (by rw[e];exact True.intro) hs he (dk_new hl hd (rel.put k rv) dd')
 ·subst ey eH;cases (show u=Value.ref b from ry);obtain⟨z,hd,xs,rel,dd⟩:=dt_of I.hok e;have hz:xs.length<=sizeLine:=by rw[<- pD rel];exact z
  have hl:(Us kvs k v).length<=sizeLine:=by have:=Vb kvs k v;omega
  refine wpAny_setItem_heap (hsz:=hz) (tupleKind_room_in1 hu) (vR I.hok eb) dd fun h' dd' hs=>h _ ?_;obtain⟨q,es,ep,hq,h2,h3,h4,_,h5⟩:=dd';refine qo I (by rw[e];exact True.intro) hs ⟨q,hq⟩ ⟨hl,hd,_,(rel.put k eb rv).keeps fun c ys ec=>?_,q,es,ep,hq,h2,h3,h4,h5⟩;rw[Zy (yq ec e (fun z=>nomatch z))];exact ec
end
section
variable{X:Cx}{lC:List (Addr×Obj)}{σ:St}{H:Hp}{s:Shared}{a:Addr}{kvs:List (Key×V)}{k:Key}{u:Value}{A:Around}{E:Value->Shared->Prop}
theorem d_clear{Q:Value->Shared->Prop}(I:Inv X lC σ H s)(e:H a=some (.dK kvs))(h:∀s',Inv X lC σ (upd H a (.dK [])) s'->Q .none s'):wpAny (model X.prog X.w) A (call (.builtin "dict.clear") [.ref a]) Q E s:=by
 obtain⟨z,hd,vs,rel,dd⟩:=xp I.hok e;refine call_meetsIn PySem.F.slot_dict_clear dd.typeIs PySem.F.entry_dict_clear (PySem.F.args_dict_clear_1 _) (meets_dict_clear (Z3 X.prog X.w) a) ⟨vs,dd,by rw[<- rel.length];exact z,fun h' dd' hs=>h _ ?_⟩;have he:∃q,h'.get? a=some q:=let ⟨q,_,_,hq,_⟩:=dd'; ⟨q,hq⟩
 exact qo (t':=s.toks) I (by rw[e];exact True.intro) hs he (dk_new (og _) hd .nil dd')
end
def NoSl(i:Expr):Prop:=∀ov iv,subscripted i false ov iv=operate [ov,iv] (getItem ov iv)
theorem subD_of{prog:Program}{w:World}{A:Around}{E:Value->Shared->Prop}{s:Shared}{env:Env}{value slice:Expr}{pos:Pos}{T id:String}{Q:Value->Shared->Prop}
  (hl:typeLookup (.type T) "__getitem__" = pure (some (.builtin id))) (hs:NoSl slice)
  (h:wpAny (model prog w) A (eval value env) (fun o s₁=>wpAny (model prog w) A (eval slice env) (fun i s₂=>s₂.TypeIs o T/\wpAny (model prog w) A (getItem o i) Q E s₂) E s₁) E s) :
  wpAny (model prog w) A (eval (.Subscript value slice pos) env) Q E s:=by
 refine Subscript_ (oj h (fun o s₁ h₁=>oj h₁ (fun i s₂ h₂=>?_) fun _ _ x=>x) fun _ _ x=>x);obtain⟨hT,h₂⟩:=h₂;unfold subscriptTail;refine mL ?_;rw[getitemInPython_of_ne hT.not_modules];refine mL (wpAny_specialOf hT hl ?_);have fin:wpAny (model prog w) A (subscripted slice false o i) (fun r s₃=>wpAny (model prog w) A (letTemporaryGo value o r >>= fun _=>pure r) Q E s₃) E s₂:=by
  rw[hs o i];exact wpAny_operating (oj h₂ (fun r s₃ h₃=>mL (wpAny_letTemporaryGo (mQ h₃))) fun _ _ x=>x)
 first
  |exact mQ (mL fin)
  |exact mL (mQ (mL fin))
  |exact mL fin
theorem kg{X:Cx}{lC:List (Addr×Obj)}{σ:St}{H:Hp}{s:Shared}{a:Addr}{y:V}{o:Option V}(I:Inv X lC σ H s)(g:DGet H a y o):s.TypeIs (.ref a) "dict" := by
 rcases g with⟨kvs,k,e,_,_⟩|⟨kvs,k,b,e,_,_,_⟩
 ·obtain⟨_,_,vs,_,dd⟩:=dk_rd I.hok e;exact dd.typeIs
 ·obtain⟨_,_,xs,_,dd⟩:=dt_rd I.hok e;exact dd.typeIs
def tDGet(td ty:TE):TE:=fun σ H Q=>td σ H fun x H1=>ty σ H1 fun y H2=>∃a v,x=.ref a/\DGet H2 a y (some v)/\Q v H2
def sDPut(td ty tv:TE):TS:=fun D σ H=>tv σ H fun v H1=>td σ H1 fun x H2=>ty σ H2 fun y H3=>∃a H4,x=.ref a/\DPut H3 a y v H4/\D.nx σ H4
section
variable{X:Cx}{o i e value:Expr}{pos pos' tpos:Pos}{td ty tv:TE}
theorem pe_dget(hu:X.A.units+1<cLine)(ho:PE X o td)(hi:PE X i ty)(hs:NoSl i):PE X (.Subscript o i pos) (tDGet td ty):=by
 intro lC s σ H Q I h;refine subD_of PySem.F.slot_dict_getitem.lookup hs (thn (ho lC s σ H _ I h) fun u s1 ⟨x,H1,I1,rx,q1⟩=>thn (hi lC s1 σ H1 _ I1 q1) fun iv s2 ⟨y,H2,I2,ry,a,v,ex,g,q2⟩=>?_);subst ex;obtain rfl:u=Value.ref a:=rx;exact⟨kg I2 g,d_getItem hu I2 g ry fun w' s3 I3 rw'=>⟨v,H2,I3,rw',q2⟩⟩
theorem vw(hu:X.A.units+1<cLine)(ho:PE X o td)(hi:PE X i ty)(hv:PE X value tv)(hs:swapsWith value (some (.Subscript o i pos')) pos.line X.env=pure false) :
  PS X (.Assign [.Subscript o i pos'] value pos) (sDPut td ty tv):=by
 intro lC s σ H D I h;refine wpAny_Assign_Subscript (thn (hv lC s σ H _ I h) fun r s1 ⟨v,H1,I1,rv,q1⟩=>thn (ho lC s1 σ H1 _ I1 q1) fun u s2 ⟨x,H2,I2,rx,q2⟩=>thn (hi lC s2 σ H2 _ I2 q2) fun iv s3 ⟨y,H3,I3,ry,a,H4,ex,g,q3⟩=>?_) hs;subst ex;obtain rfl:u=Value.ref a:=rx;exact d_setItem hu I3 g ry rv fun s4 I4=>⟨σ,H4,I4,q3⟩
end
theorem qr{P:Program}{w:World}{H:Hp}(h:Heap)(hb:sysModules<h.objs.size):Xe P w H (h.push { cls:=.type "dict",data:=.dict #[] }) h.objs.size (.dK []):=
 ⟨og _,o5.mpr (nN (na hb)),[],.nil,Heap.DictOf.new h⟩
theorem dt_empty{P:Program}{w:World}{H:Hp}(h:Heap)(hb:sysModules<h.objs.size):Xe P w H (h.push { cls:=.type "dict",data:=.dict #[] }) h.objs.size (.dT []):=
 ⟨og _,o5.mpr (nN (na hb)),[],.nil,_,#[],0,nI _ rfl,⟨rfl,rfl,rfl⟩,rfl,rfl,List.nodup_nil⟩
def tDNewK:TE:=fun _ H Q=>∀p,H p=none->Q (.ref p) (upd H p (.dK []))
section
variable{X:Cx}{pos:Pos}
theorem pe_dnewK:PE X (.Dict [] [] pos) tDNewK:=fun lC s σ H Q I h=>
 wpAny_Dict_empty ⟨.ref s.heap.objs.size,_,I.laid (a:=s.heap.objs.size) (o:=.dK []) (t':=s.toks) (fun _ _ q=>m4 _ q) (mP _) (qr s.heap I.big),rfl,h _ (I.hok.fresh (mP _))⟩
end
structure M1(X:Cx)(o:Expr)(m:Str)(apos:Pos)(e:Expr)(cpos:Pos):Prop where
 base:attributeBase o m X.env (eval o X.env)=eval o X.env
 few:((backTo cpos (starEach [e] X.env)).all (fun x=>!x.1)&&(backToKw cpos (keywordEach [] X.env)).all (fun x=>x.1.isSome)
  && decide (([e]:List Expr).length+([]:List Keyword).length+(if([]:List Keyword).isEmpty then 0 else 1)<30))=true
 line:(apos.endLine==cpos.line)=true
 trees:backTo cpos (starEach [e] X.env)=[(false,eval e X.env)]
structure M2(X:Cx)(o:Expr)(m:Str)(apos:Pos)(e f:Expr)(cpos:Pos):Prop where
 base:attributeBase o m X.env (eval o X.env)=eval o X.env
 few:((backTo cpos (starEach [e,f] X.env)).all (fun x=>!x.1)&&(backToKw cpos (keywordEach [] X.env)).all (fun x=>x.1.isSome)
  && decide (([e,f]:List Expr).length+([]:List Keyword).length+(if([]:List Keyword).isEmpty then 0 else 1)<30))=true
 line:(apos.endLine==cpos.line)=true
 trees:backTo cpos (starEach [e,f] X.env)=[(false,eval e X.env),(false,eval f X.env)]
section
variable{X:Cx}{lC:List (Addr×Obj)}{σ:St}{H:Hp}{s:Shared}{a:Addr}{y d:V}{u r:Value}{o:Option V}{A:Around}{E:Value->Shared->Prop}
end
section
variable{X:Cx}{o e f:Expr}{apos cpos:Pos}{td ty tx:TE}
end
section
variable{X:Cx}{lC:List (Addr×Obj)}{σ:St}{H:Hp}{s:Shared}{a:Addr}{kvs:List (Key×V)}{A:Around}{E:Value->Shared->Prop}
end
section
variable{X:Cx}{lC:List (Addr×Obj)}{σ:St}{H:Hp}{s:Shared}{a:Addr}{y:V}{u:Value}{A:Around}{E:Value->Shared->Prop}
end
end L2
namespace Att
open PySem PySem.W PySem.Calls PyProof.Rows
section
variable{prog:Program}{w:World}{A:Around}{E:Value->Shared->Prop}{s:Shared}{K:Frag}
end
end Att
namespace L2
open PySem PySem.Spec PyProof.Rows
section
variable{P:Program}{w:World}{K:W.Frag}{mg:Str->Option Value}{base:Heap}
end
section
variable{X:Cx}
end
section
variable{κ:Type}[DecidableEq κ]
end
end L2
namespace L3
open PySem PySem.Spec PyProof.Rows L2
theorem jD{J:It}{n:Nat}{g:TG}{tt:TT}{em:TEm}{σ0:St}{H0:Hp}{Q:St->Hp->Prop}(Pv:Nat->St->Hp->Prop)(h0:Pv 0 σ0 H0)
  (hgo:∀i σ H,i<n->Pv i σ H->J.go i H) (hst:∀σ H,Pv n σ H->J.stop n H)
  (hs:∀i x σ H H2,i<n->Pv i σ H->J.yld i H x H2->∀(N:St->Hp->Prop),(∀σ2 H4,Pv (i+1) σ2 H4->N σ2 H4) ->
   g x σ H2 fun σ2 H3=>tt σ2 H3 fun c H4=>if c=true then em σ2 H4 N else N σ2 H4)
  (hd:∀σ H,Pv n σ H->Q σ H):LoopW J g tt em σ0 H0 Q:=by
 refine⟨fun i m σ H=>m=n-i/\i<=n/\Pv i σ H,⟨n,by simp,og _,h0⟩,?_⟩;rintro i m σ H ⟨rfl,hi,p⟩
 by_cases hlt:i<n
 ·refine .inr ⟨hgo i σ H hlt p,fun σ2 H4=>Pv (i+1) σ2 H4,fun σ2 H4 q=>⟨n-(i+1),by omega,rfl,hlt,q⟩,fun x H2 y=>hs i x σ H H2 hlt p y _ fun σ2 H4 q=>q⟩
 ·have:i=n:=by omega
  subst this;exact .inl ⟨hst σ H p,hd σ H p⟩
def emL(te:TE)(D:Addr):TEm:=fun σ H Q=>te σ H fun v H5=>∃xs,H5 D=some (.lst xs)/\xs.length<sizeLine/\Q σ (upd H5 D (.lst (xs++[v])))
theorem pem_list{Y:Cx}{elt:Expr}{te:TE}{D:Addr}(h:PE Y elt te):PEm Y (do let _ <- call (.builtin "list.append") [.ref D,<- eval elt Y.env]) (emL te D):=by
 intro lC s σ H Q I q;refine mL (thn (h lC s σ H _ I q) fun z s1 ⟨v,H1,I1,r1,xs,hx,hz,q1⟩=>?_);have ap:=Yg (X:=Y) lC s1 σ H1 (.ref D) [v] (.ref D) [z] (fun _ Hb=>Q σ Hb) I1 rfl (.cons r1 .nil) ⟨_,xs,v,rfl,rfl,hx,hz,q1⟩;exact mL (thn ap fun _ s11 ⟨_,H11,I11,_,q11⟩=>mQ ⟨σ,H11,I11,q11⟩)
def emD(tk tv:TE)(D:Addr):TEm:=fun σ H Q=>tk σ H fun y H5=>tv σ H5 fun v H6=>∃H7,DPut H6 D y v H7/\Q σ H7
section
variable{X:Cx}{lC:List (Addr×Obj)}{σ:L2.St}{H:Hp}{s:Shared}{a:Addr}{y v:V}{u r:Value}{A:Around}{E:Value->Shared->Prop}
theorem d_put{H':Hp}{Q:Unit->Shared->Prop}(hu:A.units<cLine)(I:L2.Inv X lC σ H s)(g:DPut H a y v H')(ry:Z1 y u)(rv:Z1 v r)(h:∀s',L2.Inv X lC σ H' s'->Q () s') :
  wpAny (model X.prog X.w) A (dictSet a u r) Q E s:=by
 rcases g with⟨kvs,k,e,ey,l,eH⟩|⟨kvs,k,b,e,ey,eb,l,eH⟩
 ·subst ey eH;obtain⟨z,hd,vs,rel,dd⟩:=xp I.hok e;have hz:vs.length<=sizeLine:=by rw[<- rel.length];exact z
  have hl:(Us kvs k v).length<=sizeLine:=by have:=Vb kvs k v;omega
  refine wpAny_dictSet_pairs (hsz:=hz) (kV_is ry) dd fun h' dd' hs=>h _ ?_;have he:∃q,h'.get? a=some q:=let ⟨q,_,_,hq,_⟩:=dd'; ⟨q,hq⟩
  exact qo I (by rw[e];exact True.intro) hs he (dk_new hl hd (rel.put k rv) dd')
 ·subst ey eH;cases (show u=Value.ref b from ry);obtain⟨z,hd,xs,rel,dd⟩:=dt_of I.hok e;have hz:xs.length<=sizeLine:=by rw[<- pD rel];exact z
  have hl:(Us kvs k v).length<=sizeLine:=by have:=Vb kvs k v;omega
  refine wpAny_dictSet_heap (hsz:=hz) hu (vR I.hok eb) dd fun h' dd' hs=>h _ ?_;obtain⟨q,es,ep,hq,h2,h3,h4,_,h5⟩:=dd';refine qo I (by rw[e];exact True.intro) hs ⟨q,hq⟩ ⟨hl,hd,_,(rel.put k eb rv).keeps fun c ys ec=>?_,q,es,ep,hq,h2,h3,h4,h5⟩;rw[Zy (yq ec e (fun z=>nomatch z))];exact ec
end
theorem pem_dict{Y:Cx}{kx vx:Expr}{tk tv:TE}{D:Addr}(hu:Y.A.units<cLine)(hk:PE Y kx tk)(hv:PE Y vx tv):PEm Y (do
   let kv <- eval kx Y.env
   let vv <- holding [kv] (eval vx Y.env)
   standAt { kx.pos with endLine:=vx.pos.endLine,endCol:=vx.pos.endCol }
   holding [kv,vv] (dictSet D kv vv)) (emD tk tv D):=by
 intro lC s σ H Q I q;refine mL (thn (hk lC s σ H _ I q) fun z s1 ⟨y,H1,I1,r1,q1⟩=>?_);refine mL (oo (thn (hv lC s1 σ H1 _ I1 q1) fun z2 s2 ⟨v,H2,I2,r2,H3,hp,q2⟩=>?_));exact mL (oQ (oo (d_put hu I2 hp r1 r2 fun s' I'=>⟨σ,H3,I',q2⟩)))
theorem KV.keyV{P:Program}{w:World}{kvs:List (Key×V)}{vs:List (Key×Value)}{us:List Value}(r:KV kvs vs)(h:us.length=vs.length)(e:∀(i:Nat) u p,us[i]?=some u->vs[i]?=some p->(Z3 P w).is p.1 u=true):ZP (kvs.map fun p=>kV p.1) us:=by
 have r':Paired (fun(p:Key×V) (q:Key×Value)=>p.1=q.1/\Z1 p.2 q.2) kvs vs:=r;clear r
 induction r' generalizing us with
 |nil=>
  cases us with
  |nil=>exact .nil
  |cons u r=>simp at h
 |@cons p q l1 l2 hpq _ ih=>
  cases us with
  |nil=>simp at h
  |cons u r=>
   refine .cons ?_ (ih (by simpa using h) fun i u p a b=>e (i+1) u p (by simpa using a) (by simpa using b));have:=e 0 u q rfl rfl;rw[<- hpq.1] at this;have q2:V4 p.1 u=true:=this;rcases YC q2 with⟨i,t',e1,e2⟩|⟨z,t',e1,e2⟩
   ·show Z1 (kV p.1) u
    rw[e1,e2];exact⟨t',rfl⟩
   ·show Z1 (kV p.1) u
    rw[e1,e2];exact⟨t',rfl⟩
section
variable{X:Cx}{lC:List (Addr×Obj)}{σ:St}{H:Hp}{s:Shared}{Nc:List Str}{ix:List (Option Nat)}{scope:Scope}
theorem laid_list{s2:Shared}{H1:Hp}(I2:L2.Inv X lC σ H1 s2):L2.Inv X lC σ (upd H1 s2.heap.objs.size (.lst [])) { s2 with heap:=s2.heap.push { cls:=.type "list",data:=.seq ([]:List Value).toArray } }:=
 I2.laid (t':=s2.toks) (fun b u e=>m4 _ e) (mP _) ⟨og _,[],0,.nil,nI _ rfl⟩
theorem kC{i:Nat}{x:Str}{pos':Pos}{D:Ends}{L C:Addr}{H':Hp}{s':Shared}{m:Str->Option Value}(hN:X.N.Nodup)(hi:X.N[i]?=some x)(hx:X.env.kindOf x=some .local)(I':L2.Inv X lC σ H' s')(f:Ve X lC H' C)(hn:s'.heap.Ns C m)(qq:D.nx (σ.set i (some (.ref L))) H') :
  compPost (model X.prog X.w) X.A X.xe (some (assign (.Name x pos') X.env)) (fun _ s'=>SP X lC D .next s') (.ref L) C (.ok .next) s':=by
 obtain⟨f0,f1,f2,f3,f4,f5⟩:=f;refine wpAny_assign_Name (zd (v:=.ref L) I' hN hi (.inl hx) rfl (fun s2 I2 ⟨a,sb,ha⟩=>?_) (.inr hx));have hCa:C≠a:=by
  rintro rfl;rcases ha with z|z
  ·exact f1 z
  ·exact f4 _ _ z rfl
 exact⟨m,hn.sameBut sb hCa,fun h' sb'=>⟨_,H',I2.turned (t':=s2.toks) (fun b o hb e=>(sb'.2 b hb).trans e) f0 f1 f3 f4 f5,qq⟩⟩
theorem pe_dcompE{kx vx tg iter:Expr}{ifs:List Expr}{pos:Pos}{wi:TI}{g:TG}{tt:TT}{tk tv:TE}{o0:HO}(h0:o0=.dK []\/o0=.dT [])(ok:ZA X.env.scope X.N Nc ix scope)(hu:X.A.units<cLine)(hc:X.calm=true)(hi:PI X tg iter wi)
  (hg:∀cl C s H fp,PG (Xf X Nc scope cl C s H fp) tg g) (ht:∀cl C s H fp,PTs (Xf X Nc scope cl C s H fp) ifs tt)
  (hk:∀cl C s H fp,PE (Xf X Nc scope cl C s H fp) kx tk) (hv:∀cl C s H fp,PE (Xf X Nc scope cl C s H fp) vx tv)
  (hs:∀x,foldedSetIterable iter X.env x=pure x:=by intro _;rfl):PE X (.DictComp kx vx [⟨tg,iter,ifs,0⟩] scope pos) (tCompE wi ix (fun _=>o0) g tt (fun D=>emD tk tv D)):=by
 intro lC s σ H Q I h;rw[arm_eval_DictComp];refine xv (e:=.DictComp kx vx [⟨tg,iter,ifs,0⟩] scope pos) (use:=none) (QV:=EP X lC σ Q) (ob:={ cls:=.type "dict",data:=.dict #[] }) (bd:=fun D env=>do
   let kv <- eval kx env
   let vv <- holding [kv] (eval vx env)
   standAt { kx.pos with endLine:=vx.pos.endLine,endCol:=vx.pos.endCol }
   holding [kv,vv] (dictSet D kv vv)) I h (fun D C H' s' m I' f hn qq=>?_) rfl (fun _ _ _=>⟨rfl,rfl⟩) (fun _ _ _=>rfl) (fun _ _ _ _=>⟨rfl,rfl⟩) (fun _ _ _=>rfl)
  (fun _ _ _ _ q=>oE q) (fun s2 H1 I2=>?_) ok hc hi hg ht (fun cl C s H fp D=>pem_dict (Y:=Xf X Nc scope cl C s H fp) hu (hk cl C s H fp) (hv cl C s H fp)) hs
 ·obtain⟨f0,f1,f2,f3,f4,f5⟩:=f;exact⟨m,hn,fun h' sb=>⟨.ref D,H',I'.turned (t':=s'.toks) (fun b o hb e=>(sb.2 b hb).trans e) f0 f1 f3 f4 f5,rfl,qq⟩⟩
 ·rcases h0 with rfl|rfl
  ·exact I2.laid (t':=s2.toks) (fun b u e=>m4 _ e) (mP _) (qr s2.heap I2.big)
  ·exact I2.laid (t':=s2.toks) (fun b u e=>m4 _ e) (mP _) (dt_empty s2.heap I2.big)
end
def WS(J:It)(D:Addr)(g:TG)(tt:TT)(te:TE)(σ0:St)(H1:Hp)(Q:VK):Prop:=LoopW J g tt (emL te D) σ0 (upd H1 D (.lst [])) (fun _ H'=>Q (.ref D) H')
def jb(wi:TI)(ix:List (Option Nat))(g:TG)(tt:TT)(te:TE):TE:=fun σ H Q=>wi σ H fun J H1=>∀D,H1 D=none->WS J D g tt te (sub ix σ) H1 Q
section
variable{X:Cx}{lC:List (Addr×Obj)}{σ:St}{H:Hp}{s:Shared}{Nc:List Str}{ix:List (Option Nat)}{scope:Scope}
theorem xQ{elt tg iter:Expr}{ifs:List Expr}{pos pos2:Pos}{wi:TI}{g:TG}{tt:TT}{te:TE}{use:Option (Value->Sem Unit)}{QV:Value->Shared->Prop}{Q:VK}(I:L2.Inv X lC σ H s)(h:jb wi ix g tt te σ H Q)
  (fin:∀(D C:Addr) (H':Hp) (s':Shared) (m:Str->Option Value),L2.Inv X lC σ H' s'->Ve X lC H' C->s'.heap.Ns C m->Q (.ref D) H'->compPost (model X.prog X.w) X.A X.xe use QV (.ref D) C (.ok .next) s')
  (ok:ZA X.env.scope X.N Nc ix scope) (hc:X.calm=true) (hi:PI X tg iter wi)
  (hg:∀cl C s H fp,PG (Xf X Nc scope cl C s H fp) tg g) (ht:∀cl C s H fp,PTs (Xf X Nc scope cl C s H fp) ifs tt) (he:∀cl C s H fp,PE (Xf X Nc scope cl C s H fp) elt te)
  (hs:∀x,foldedSetIterable iter X.env x=pure x):wpAny (model X.prog X.w) X.A (comprehension (.ListComp elt [⟨tg,iter,ifs,0⟩] scope pos) scope X.env pos2 (newList []) false (eval iter X.env) use) QV X.xe s:=
 xv (em:=fun D=>emL te D) (o0:=fun _=>.lst []) (ob:={ cls:=.type "list",data:=.seq ([]:List Value).toArray }) (bd:=fun D env=>do let _ <- call (.builtin "list.append") [.ref D,<- eval elt env]) I h fin rfl (fun _ _ _=>⟨rfl,rfl⟩) (fun _ _ _=>rfl) (fun _ _ _ _=>⟨rfl,rfl⟩) (fun _ _ _=>rfl)
  (fun _ _ _ _ q=>oE q) (fun _ _ I2=>laid_list I2) ok hc hi hg ht (fun cl C s H fp D=>pem_list (he cl C s H fp)) hs
theorem Zv{elt tg iter:Expr}{ifs:List Expr}{pos:Pos}{wi:TI}{g:TG}{tt:TT}{te:TE}(ok:ZA X.env.scope X.N Nc ix scope)(hc:X.calm=true)(hi:PI X tg iter wi)
  (hg:∀cl C s H fp,PG (Xf X Nc scope cl C s H fp) tg g) (ht:∀cl C s H fp,PTs (Xf X Nc scope cl C s H fp) ifs tt) (he:∀cl C s H fp,PE (Xf X Nc scope cl C s H fp) elt te)
  (hs:∀x,foldedSetIterable iter X.env x=pure x:=by intro _;rfl):PE X (.ListComp elt [⟨tg,iter,ifs,0⟩] scope pos) (jb wi ix g tt te):=by
 intro lC s σ H Q I h;rw[eval_ListComp];refine xQ (use:=none) I h (fun D C H' s' m I' f hn qq=>?_) ok hc hi hg ht he hs;obtain⟨f0,f1,f2,f3,f4,f5⟩:=f;exact⟨m,hn,fun h' sb=>⟨.ref D,H',I'.turned (t':=s'.toks) (fun b o hb e=>(sb.2 b hb).trans e) f0 f1 f3 f4 f5,rfl,qq⟩⟩
theorem Wj{i:Nat}{x:Str}{elt tg iter:Expr}{ifs:List Expr}{pos spos pos':Pos}{wi:TI}{g:TG}{tt:TT}{te:TE}(hN:X.N.Nodup)(hi:X.N[i]?=some x)(hx:X.env.kindOf x=some .local)
  (ok:ZA X.env.scope X.N Nc ix scope) (hc:X.calm=true) (hit:PI X tg iter wi)
  (hg:∀cl C s H fp,PG (Xf X Nc scope cl C s H fp) tg g) (ht:∀cl C s H fp,PTs (Xf X Nc scope cl C s H fp) ifs tt) (he:∀cl C s H fp,PE (Xf X Nc scope cl C s H fp) elt te)
  (hsw:swapsWith (.ListComp elt [⟨tg,iter,ifs,0⟩] scope pos) (some (.Name x pos')) spos.line X.env=pure true:=by rfl)
  (hs:∀x,foldedSetIterable iter X.env x=pure x:=by intro _;rfl):PS X (.Assign [.Name x pos'] (.ListComp elt [⟨tg,iter,ifs,0⟩] scope pos) spos) (tAsg (jb wi ix g tt te) (Xt i)):=by
 intro lC s σ H D I h;rw[exec_Assign_Name_used _ _ _ _ hsw];refine mL (oQ (mL ?_))
 show wpAny _ X.A (do let _ <- comprehension (.ListComp elt [⟨tg,iter,ifs,0⟩] scope pos) scope X.env _ (newList []) false (eval iter X.env) (some (assign (.Name x pos') X.env))) _ _ s
 refine mL (thn (xQ (use:=some (assign (.Name x pos') X.env)) (QV:=fun _ s'=>SP X lC D .next s') I h (fun L C H' s' m I' f hn qq=>?_) ok hc hit hg ht he hs) fun _ s' q=>mQ (mQ q));exact kC hN hi hx I' f hn qq
end
theorem Xy{J:It}{n:Nat}{D:Addr}{g:TG}{tt:TT}{te:TE}{σ0:St}{H0:Hp}{Q:VK}(Pv:Nat->St->Hp->Prop)(h0:Pv 0 σ0 (upd H0 D (.lst [])))
  (hgo:∀i σ H,i<n->Pv i σ H->J.go i H) (hst:∀σ H,Pv n σ H->J.stop n H)
  (hs:∀i x σ H H2,i<n->Pv i σ H->J.yld i H x H2->∀(N:V->St->Hp->Prop) (N0:St->Hp->Prop),(∀v σ2 H5 ys,H5 D=some (.lst ys)->ys.length<sizeLine->Pv (i+1) σ2 (upd H5 D (.lst (ys++[v])))->N v σ2 H5)->(∀σ2 H4,Pv (i+1) σ2 H4->N0 σ2 H4) ->
   g x σ H2 fun σ2 H3=>tt σ2 H3 fun c H4=>if c=true then te σ2 H4 fun v H5=>N v σ2 H5 else N0 σ2 H4)
  (hd:∀σ H,Pv n σ H->Q (.ref D) H):WS J D g tt te σ0 H0 Q:=by
 refine jD (n:=n) Pv h0 hgo hst (fun i x σ H H2 hi p y N hN=>?_) hd;exact hs i x σ H H2 hi p y (fun v σ2 H5=>∃ys,H5 D=some (.lst ys)/\ys.length<sizeLine/\N σ2 (upd H5 D (.lst (ys++[v])))) N (fun v σ2 H5 ys a b c=>⟨ys,a,b,hN _ _ c⟩) hN
theorem Wz{K:W.Frag}{a D:Addr}{xs:List V}{te:TE}{τ:St}{H0:Hp}{Q:VK}(hD:H0 D=none)(hq:SqL K H0 a xs)(hz:xs.length<=sizeLine)(R:Nat->V->Hp->Prop)(mono:∀i v H H',Zf H H'->R i v H->R i v H')
  (step:∀i x H (N:V->Hp->Prop),xs[i]?=some x->Zf H0 H->(∀v H4,Zf H H4->R i v (New H H4)->N v H4)->te (some x::τ) H N)
  (fin:∀H' ys,H' D=some (.lst ys)->Zf H0 H'->ys.length=xs.length->(∀i v,ys[i]?=some v->R i v (New H0 H'))->Q (.ref D) H') :
  WS (Itl K a) D (Xt 0) Vh te (none::τ) H0 Q:=by
 refine Xy (n:=xs.length) (fun i σ H=>∃z ys,σ=z::τ/\H D=some (.lst ys)/\ys.length=i/\Zf H0 H/\∀j v,ys[j]?=some v->R j v (hide D (New H0 H))) ?_ ?_ ?_ ?_ ?_
 ·exact⟨none,[],rfl,Ze,rfl,Zj hD,fun j v e=>by simp at e⟩
 ·rintro i σ H hi ⟨z,ys,rfl,_,_,s,_⟩;exact⟨xs,xs[i],s.seq hq,by simp[hi]⟩
 ·rintro σ H ⟨z,ys,rfl,_,_,s,_⟩;exact⟨xs,s.seq hq,mP _⟩
 ·rintro i x σ H H2 hi ⟨z,ys,rfl,hy,hl,s,r⟩ ⟨rfl,hx⟩ N N0 hN hN0
  show te (some x::τ) H2 _
  refine step i x H2 _ (hx xs (s.seq hq)) s fun v H4 s4 r4=>?_;refine hN v _ H4 ys (s4 _ _ hy) (by omega) ⟨some x,ys++[v],rfl,Ze,by rw[mT,oN,hl],?_,?_⟩
  ·exact(ZJ.upd (Zf.x (s.trans s4))).same hD
  ·intro j w e
   by_cases hj:j<ys.length
   ·rw[oK hj] at e;refine mono j w _ _ ?_ (r j w e);intro b o hb;obtain⟨nb,hb⟩:=WY hb;obtain⟨h1,h2⟩:=New.of hb;exact Y9 nb (New.mk h1 (by rw[Zy nb];exact s4 _ _ h2))
   ·have ej:j=ys.length:=by
     have:=(nT.mp e).1;rw[mT,oN] at this;omega
    subst ej;simp at e;subst e;rw[hl];refine mono i v _ _ ?_ r4;intro b o hb;obtain⟨h1,h2⟩:=New.of hb;have nb:b≠D:=fun z=>by subst z;rw[hy] at h1;cases h1
    exact Y9 nb (New.mk (s.free h1) (by rw[Zy nb];exact h2))
 ·rintro σ H ⟨z,ys,rfl,hy,hl,s,r⟩;exact fin H ys hy s hl fun i v e=>mono i v _ _ Xi (r i v e)
theorem kR{n:Nat}{D:Addr}{te:TE}{τ:St}{H0:Hp}{Q:VK}(hD:H0 D=none)(hz:n<=sizeLine)(R:Nat->V->Hp->Prop)(mono:∀i v H H',Zf H H'->R i v H->R i v H')
  (step:∀i H (N:V->Hp->Prop),i<n->Zf H0 H->(∀v H4,Zf H H4->R i v (New H H4)->N v H4)->te (some (.int (i:Nat))::τ) H N)
  (fin:∀H' ys,H' D=some (.lst ys)->Zf H0 H'->ys.length=n->(∀i v,ys[i]?=some v->R i v (New H0 H'))->Q (.ref D) H') :
  WS (Itr 0 n) D (Xt 0) Vh te (none::τ) H0 Q:=by
 refine Xy (n:=n) (fun i σ H=>∃z ys,σ=z::τ/\H D=some (.lst ys)/\ys.length=i/\Zf H0 H/\∀j v,ys[j]?=some v->R j v (hide D (New H0 H))) ?_ ?_ ?_ ?_ ?_
 ·exact⟨none,[],rfl,Ze,rfl,Zj hD,fun j v e=>by simp at e⟩
 ·rintro i σ H hi _;exact hi
 ·rintro σ H _;exact mP _
 ·rintro i x σ H H2 hi ⟨z,ys,rfl,hy,hl,s,r⟩ ⟨rfl,rfl⟩ N N0 hN hN0;have ei:(0:Int)+(i:Int)=((i:Nat):Int):=ou _;rw[ei]
  show te (some (.int (i:Nat))::τ) H2 _
  refine step i H2 _ hi s fun v H4 s4 r4=>?_;refine hN v _ H4 ys (s4 _ _ hy) (by omega) ⟨some (.int (i:Nat)),ys++[v],rfl,Ze,by rw[mT,oN,hl],?_,?_⟩
  ·exact(ZJ.upd (Zf.x (s.trans s4))).same hD
  ·intro j w e
   by_cases hj:j<ys.length
   ·rw[oK hj] at e;refine mono j w _ _ ?_ (r j w e);intro b o hb;obtain⟨nb,hb⟩:=WY hb;obtain⟨h1,h2⟩:=New.of hb;exact Y9 nb (New.mk h1 (by rw[Zy nb];exact s4 _ _ h2))
   ·have ej:j=ys.length:=by
     have:=(nT.mp e).1;rw[mT,oN] at this;omega
    subst ej;simp at e;subst e;rw[hl];refine mono i v _ _ ?_ r4;intro b o hb;obtain⟨h1,h2⟩:=New.of hb;have nb:b≠D:=fun z=>by subst z;rw[hy] at h1;cases h1
    exact Y9 nb (New.mk (s.free h1) (by rw[Zy nb];exact h2))
 ·rintro σ H ⟨z,ys,rfl,hy,hl,s,r⟩;exact fin H ys hy s hl fun i v e=>mono i v _ _ Xi (r i v e)
theorem vY{X:Cx}{K:W.Frag}(hK:X.K=K):SlR X (rSlT K):=by subst hK;exact sl_tup
theorem op_catTK{X:Cx}{K:W.Frag}(hK:X.K=K):OpR X (binaryOp .Add) (rCatT K):=by subst hK;exact op_catT
theorem cf_app:∀(names:List (Str×NameKind)) (n:Nat) (a b:List (Str×Addr)),cellsFrom n names (a++b)=cellsFrom n names a++b
 |[],_,_,_=>rfl
 | (x,k)::r,n,a,b=>by
  unfold cellsFrom
  split
  ·exact cf_app r (n+1) ((x,n)::a) b
  ·exact cf_app r n a b
theorem cf_mem:∀(names:List (Str×NameKind)) (n:Nat) (acc:List (Str×Addr)) (x:Str) (c:Addr),(x,c)∈cellsFrom n names acc->(x,c)∈acc\/(x,NameKind.cell)∈names
 |[],_,_,_,_,h=>.inl h
 | (y,k)::r,n,acc,x,c,h=>by
  unfold cellsFrom at h
  split at h
  ·rename_i hk
   rcases cf_mem r _ _ _ _ h with q|q
   ·rcases nu.mp q with q|q
    ·cases q;have:k=.cell:=by simpa using hk
     subst this;exact .inr pi
    ·exact .inl q
   ·exact .inr (oe _ q)
  ·rcases cf_mem r _ _ _ _ h with q|q
   ·exact .inl q
   ·exact .inr (oe _ q)
theorem vH:∀(names:List (Str×NameKind)) (n:Nat) (acc:List (Str×Addr)) (x:Str),((x,NameKind.cell)∈names\/∃c,acc.lookup x=some c)->∃c,(cellsFrom n names acc).lookup x=some c
 |[],_,_,_,h=>by
  rcases h with h|h
  ·cases h
  ·exact h
 | (y,k)::r,n,acc,x,h=>by
  unfold cellsFrom;have up:∀c0,(∃c,acc.lookup x=some c)->∃c,List.lookup x ((y,c0)::acc)=some c:=fun c0 ⟨c,e⟩=>by
   rw[nR];cases x==y
   ·exact⟨c,e⟩
   ·exact⟨_,rfl⟩
  split
  ·rename_i hk
   refine vH r _ _ _ ?_;rcases h with h|h
   ·rcases nu.mp h with h|h
    ·cases h;exact .inr ⟨_,by rw[nR,beq_self_eq_true]⟩
    ·exact .inl h
   ·exact .inr (up _ h)
  ·rename_i hk
   refine vH r _ _ _ ?_;rcases h with h|h
   ·rcases nu.mp h with h|h
    ·cases h;exact absurd rfl hk
    ·exact .inl h
   ·exact .inr h
def U6(scope:Scope)(env:Env)(L:Addr):List (Str×Addr):=cellsFrom (L+1) scope.names []++Xv scope env
theorem WB{scope:Scope}{env:Env}{L:Addr}{x:Str}{c:Addr}(h:(U6 scope env L).lookup x=some c):(cellsFrom (L+1) scope.names []).lookup x=some c\/((cellsFrom (L+1) scope.names []).lookup x=none/\(Xv scope env).lookup x=some c):=by
 unfold U6 at h;rw[List.lookup_append] at h;cases e:(cellsFrom (L+1) scope.names []).lookup x with
 |none=>rw[e] at h;exact .inr ⟨rfl,h⟩
 |some d=>rw[e] at h;exact .inl h
theorem yu{scope:Scope}{env:Env}{L:Addr}{x:Str}{c:Addr}(h:(cellsFrom (L+1) scope.names []).lookup x=some c):(U6 scope env L).lookup x=some c:=by
 unfold U6;rw[List.lookup_append,h];rfl
theorem j6{scope:Scope}{env:Env}{L:Addr}{x:Str}{c:Addr}(h0:(cellsFrom (L+1) scope.names []).lookup x=none)(h:(Xv scope env).lookup x=some c):(U6 scope env L).lookup x=some c:=by
 unfold U6;rw[List.lookup_append,h0,h];rfl
theorem j9{scope:Scope}{env:Env}{L:Addr}{x:Str}{c:Addr}(h:(Xv scope env).lookup x=some c):∃d,(U6 scope env L).lookup x=some d:=by
 cases e:(cellsFrom (L+1) scope.names []).lookup x with
 |none=>exact⟨c,j6 e h⟩
 |some d=>exact⟨d,yu e⟩
theorem cells_new(h:Heap)(names:List (Str×NameKind)):(pushCells (h.push { cls:=.type "dict",data:=.dict #[] }) names).Ns h.objs.size (fun _=>none)/\(∀b o,h.get? b=some o->(pushCells (h.push { cls:=.type "dict",data:=.dict #[] }) names).get? b=some o) /\
  (∀x c,(cellsFrom (h.objs.size+1) names []).lookup x=some c->(pushCells (h.push { cls:=.type "dict",data:=.dict #[] }) names).IsCell c none/\h.objs.size+1<=c)/\(cellsFrom (h.objs.size+1) names []).Pairwise fun x y=>x.2≠y.2:=by
 have ok:=cellsFrom_ok names (h.push { cls:=.type "dict",data:=.dict #[] }) (h.objs.size+1) [] ⟨fun _ _ hm=>(nomatch hm),List.Pairwise.nil⟩ (by rw[pj];exact mP _);rw[pj] at ok;exact⟨(Heap.Ns.new h (.type "dict")).keeps (pushCells_keeps _ _),fun b o e=>pushCells_keeps _ _ b o (m4 _ e),fun n c hc=>ok.empty n c (nM hc),ok.apart⟩
theorem kZ{M:Model}{A:Around}{E:Value->Shared->Prop}{s:Shared}{scope:Scope}{globals:Addr}{cl:List (Str×Addr)}{qual:Str}{outer:Env}{Q:Env->Shared->Prop}
  (hQ:Q (newEnv scope s.heap.objs.size globals (cellsFrom (s.heap.objs.size+1) scope.names []++cl) qual none .none (some outer) builtinsNs) { s with heap:=pushCells (s.heap.push { cls:=.type "dict",data:=.dict #[] }) scope.names }) :
  wpAny M A (newFunctionEnv scope globals cl [] qual none .none (some outer)) Q E s:=by
 simp only[newFunctionEnv,Option.isSome_some,if_true];refine mL (wpAny_alloc ?_);refine mL (wpAny_layCells _ (fun name kind cells=>by cases hkc:kind==NameKind.cell<;>simp[hkc]) _ _ _ _ ?_);rw[show({ s with heap:=s.heap.push { cls:=.type "dict",data:=.dict #[] } }:Shared).heap.objs.size=s.heap.objs.size+1 from pj ..];rw[List.forIn_nil];refine mL (mQ (mQ ?_));have e:=cf_app scope.names (s.heap.objs.size+1) [] cl;rw[pI] at e;rw[e];exact hQ
structure X5(sc:Scope)(N Nc:List Str)(ix:List (Option Nat))(scope:Scope):Prop where
 kind:scope.kind=.function
 cells:∀y∈scope.names,y.2=.cell->scope.names.lookup y.1=some .cell
 names:∀y∈scope.names,y.2=.local->scope.names.lookup y.1=some .local
 free:∀y∈scope.names,y.2=.free->sc.names.lookup y.1=some .cell\/sc.names.lookup y.1=some .free
 len:ix.length=Nc.length
 chk:((ix.zip Nc).all fun p=>match p.1 with|none=>true|some j=>N[j]?==some p.2&&scope.names.lookup p.2==some .free)=true
theorem X5.at_{sc:Scope}{N Nc:List Str}{ix:List (Option Nat)}{scope:Scope}(o:X5 sc N Nc ix scope){i j:Nat}{x:Str}(h1:ix[i]?=some (some j))(h2:Nc[i]?=some x):N[j]?=some x/\scope.names.lookup x=some .free:=by
 have hm:(some j,x)∈ix.zip Nc:=by
  refine om (i:=i) ?_;rw[List.getElem?_zip_eq_some];exact⟨h1,h2⟩
 have q:=nY.mp o.chk _ hm;have q':=m8 _ _▸q;exact⟨by simpa using q'.1,by simpa using q'.2⟩
def V7(sc:Scope)(N Nc:List Str)(ix:List (Option Nat))(scope:Scope):Bool:=
 decide (scope.kind=.function)&&scope.names.all (fun y=>decide (y.2=.cell->scope.names.lookup y.1=some .cell))&&scope.names.all (fun y=>decide (y.2=.local->scope.names.lookup y.1=some .local)) &&
 scope.names.all (fun y=>decide (y.2=.free->sc.names.lookup y.1=some .cell\/sc.names.lookup y.1=some .free))&&decide (ix.length=Nc.length) &&
 (ix.zip Nc).all fun p=>match p.1 with|none=>true|some j=>N[j]?==some p.2&&scope.names.lookup p.2==some .free
theorem X5.of{sc:Scope}{N Nc:List Str}{ix:List (Option Nat)}{scope:Scope}(h:V7 sc N Nc ix scope=true):X5 sc N Nc ix scope:=by
 unfold V7 at h;simp only[m8] at h;obtain⟨⟨⟨⟨⟨h1,h2⟩,h3⟩,h4⟩,h5⟩,h6⟩:=h;exact⟨ny h1,fun y hy=>ny (nY.mp h2 y hy),fun y hy=>ny (nY.mp h3 y hy),fun y hy=>ny (nY.mp h4 y hy),ny h5,h6⟩
def relabelS(scope sc:Scope):Scope:={ scope with names:=scope.names.map fun(n,k)=>if(k==.free&&sc.kind==.function&&sc.names.lookup n==some .cell) then(n,.cell) else(n,k) }
theorem ZA.ofR{scO scI sc0:Scope}{env:Env}{N Nc:List Str}{ix:List (Option Nat)}(hs:env.scope=sc0)(h:ZD (relabelS scO sc0) N Nc ix scI=true):ZA (relabel scO env) N Nc ix scI:=by
 subst hs;exact ZA.of h
def X2(X:Cx)(Nc:List Str)(scope:Scope)(cl:List (Str×Addr))(C:Addr)(s:Shared)(H:Hp)(fp:List Addr):Cx where
 prog:=X.prog
 w:=X.w
 K:=X.K
 mg:=X.mg
 base:=X.base
 A:=X.A
 N:=Nc
 s₀:=s
 H₀:=H
 env:=compEnvC scope cl C X.env
 outer:=X.stack
 stack:=X.stack
 ex:=fp
 fn:=fun x=>scope.names.lookup x==some .cell
 calm:=X.calm
 pn:=X.pn
 xe:=fun _ _=>False
section
variable{X:Cx}{lC:List (Addr×Obj)}{σ:St}{H:Hp}{s:Shared}{Nc:List Str}{ix:List (Option Nat)}{scope:Scope}
theorem UU(I:Inv X lC σ H s)(ok:X5 X.env.scope X.N Nc ix scope):∀y∈scope.names,y.2=.free->(X.env.cells.lookup y.1).isSome=true:=fun y hy hf=>by
 obtain⟨c,hc⟩:=I.ok.has y.1 (ok.free y hy hf);rw[hc];rfl
theorem csOf_ne{h1:Heap}{b c:Addr}{x:Str}(I:Inv X lC σ H s)(ok:X5 X.env.scope X.N Nc ix scope)(hnew:∀x c,(cellsFrom (s.heap.objs.size+1) scope.names []).lookup x=some c->h1.IsCell c none/\s.heap.objs.size+1<=c)
  (q:(U6 scope X.env s.heap.objs.size).lookup x=some c) (hb:b<s.heap.objs.size) (f:X.env.cells.lookup x=some c->c≠b):c≠b:=by
 rcases WB q with q|⟨_,q⟩
 ·exact o8 (nJ hb (pN (hnew x c q).2))
 ·exact f (YG (UU I ok) q)
theorem jI{fp:List Addr}{h1:Heap}{t':Nat}(I:Inv X lC σ H s)(ok:X5 X.env.scope X.N Nc ix scope)(hf:∀b∈fp,Ve X lC H b)(hob:∀b∈fp,∃o,s.heap.get? b=some o)
  {m:Str->Option Value} (hn:h1.Ns s.heap.objs.size m) (hk:∀b o,s.heap.get? b=some o->h1.get? b=some o)
  (hnew:∀x c,(cellsFrom (s.heap.objs.size+1) scope.names []).lookup x=some c->h1.IsCell c none/\s.heap.objs.size+1<=c) (hap:(cellsFrom (s.heap.objs.size+1) scope.names []).Pairwise fun x y=>x.2≠y.2) :
  Inv (X2 X Nc scope (U6 scope X.env s.heap.objs.size) s.heap.objs.size s H fp) lC (sub ix σ) H { s with heap:=h1,toks:=t' }:=by
 have ac:=UU I ok;have old:∀{b:Addr}{o:Obj},s.heap.get? b=some o->b≠s.heap.objs.size:=fun e=>na (mR e);refine⟨⟨I.ok.mod,?_,I.ok.glob,I.ok.blt,mP _,?_,?_,?_,I.ok.hd,I.ok.frames,.inl rfl,?_,I.bs,nQ I.ok.bsz I.sz,?_,?_,I.stack,I.stkFree⟩,rfl,I.bare,Un.kept hk,⟨m,hn,?_⟩,?_,?_,?_,?_,I.hok.kept hk,?_⟩
 ·exact ok.kind
 ·intro x y c e1 e2;have lo:∀{z:Str},(Xv scope X.env).lookup z=some c->c<s.heap.objs.size:=fun {z} e=>by
   obtain⟨v,oc,e5,_⟩:=I.cell z c (YG ac e);exact mR e5
  rcases WB e1 with e1|⟨_,e1⟩
  ·rcases WB e2 with e2|⟨_,e2⟩
   ·exact name_of_addr hap (nM e1) (nM e2)
   ·exact absurd (lo e2) (Nat.not_lt_of_le (pN (hnew x c e1).2))
  ·rcases WB e2 with e2|⟨_,e2⟩
   ·exact absurd (lo e1) (Nat.not_lt_of_le (pN (hnew y c e2).2))
   ·exact I.ok.inj x y c (YG ac e1) (YG ac e2)
 ·intro x hx;have key:∀k,(relabel scope X.env).names.lookup x=some k->(k=.cell\/k=.free)->∃c,(U6 scope X.env s.heap.objs.size).lookup x=some c:=fun k e hkk=>by
   rcases Vx e with q|⟨_,q⟩
   ·rcases hkk with rfl|rfl
    ·obtain⟨c,hc⟩:=vH scope.names (s.heap.objs.size+1) [] x (.inl (nM q));exact⟨c,yu hc⟩
    ·obtain⟨c,hc⟩:=Vm (env:=X.env) (nM q);exact j9 hc
   ·obtain⟨c,hc⟩:=Vm (env:=X.env) (nM q);exact j9 hc
  rcases hx with e|e
  ·exact key _ e (.inl rfl)
  ·exact key _ e (.inr rfl)
 ·intro x c hfn e;have hfn':scope.names.lookup x=some .cell:=oW.mp hfn;obtain⟨d,hd⟩:=vH scope.names (s.heap.objs.size+1) [] x (.inl (nM hfn'));have e':(U6 scope X.env s.heap.objs.size).lookup x=some c:=e;rw[yu hd] at e';cases e';exact pN (hnew x _ hd).2
 ·intro b hb;obtain⟨o,e⟩:=hob b hb;obtain⟨f0,f1,f2,f3,f4,f5⟩:=hf b hb;exact⟨old e,fun x c q=>csOf_ne I ok hnew q (mR e) (f4 x c)⟩
 ·intro b o e hb;obtain⟨f0,f1,f2,f3,f4,f5⟩:=hf b hb;rcases f3 with z|z
  ·exact I.ok.noex b o e z
  ·exact absurd (nJ (nJ (mR e) I.ok.bsz) z) (o6 _)
 ·intro b hb hz;obtain⟨f0,f1,f2,f3,f4,f5⟩:=hf b hb;rcases nu.mp (I.stkSub b hz) with z|z
  ·exact f1 z
  ·exact f2 z
 ·intro i x v e1 e2 e3;have e1:Nc[i]?=some x:=e1;unfold sub at e2;rw[mU] at e2;cases hi:ix[i]? with
  |none=>rw[hi] at e2;cases e2
  |some o=>
   cases o with
   |none=>rw[hi] at e2;cases e2
   |some j=>
    obtain⟨hN,hfree⟩:=ok.at_ hi e1;have e4:σ[j]?=some (some v):=by
     rw[hi] at e2;have e2':some ((σ[j]?).join)=some (some v):=e2;have e5:=nv e2';cases hj:σ[j]? with
     |none=>rw[hj] at e5;cases e5
     |some z=>rw[hj] at e5;exact ni some e5
    have hvis:Vis X.env.scope x:=by
     rcases ok.free (x,.free) (nM hfree) rfl with q|q
     ·exact .inr (.inl q)
     ·exact .inr (.inr q)
    obtain⟨m0,hn0,hl⟩:=I.loc;obtain⟨u,r,lk⟩:=hl j x v hN e4 hvis;refine⟨u,r,.inr ⟨Vv hfree,?_⟩⟩;rcases lk with⟨q,_⟩|⟨_,c,hc,z⟩
    ·rcases ok.free (x,.free) (nM hfree) rfl with q2|q2
     ·exact absurd (q.symm.trans q2) (by decide)
     ·exact absurd (q.symm.trans q2) (by decide)
    ·obtain⟨d,hd⟩:=Vm (env:=X.env) (nM hfree);have:=YG ac hd;rw[hc] at this;cases this;obtain⟨oc,e5,e6⟩:=z;have h0:(cellsFrom (s.heap.objs.size+1) scope.names []).lookup x=none:=by
      cases hz:(cellsFrom (s.heap.objs.size+1) scope.names []).lookup x with
      |none=>rfl
      |some d2=>
       rcases cf_mem _ _ _ _ _ (nM hz) with q|q
       ·cases q
       ·have:=ok.cells _ q rfl;rw[hfree] at this;cases this
     exact⟨c,j6 h0 hd,oc,hk c oc e5,e6⟩
 ·intro x c e;rcases WB e with e|⟨_,e⟩
  ·exact⟨none,(hnew x c e).1⟩
  ·obtain⟨v,oc,e5,e6⟩:=I.cell x c (YG ac e);exact⟨v,oc,hk c oc e5,e6⟩
 ·exact I.hok.fresh (mP _)
 ·intro x c e;rcases WB e with e|⟨_,e⟩
  ·exact I.hok.fresh (pN (hnew x c e).2)
  ·exact I.freeC x c (YG ac e)
 ·intro p hp;obtain⟨e,n,ne,nf,d⟩:=I.pin p hp;refine⟨hk _ _ e,n,old e,fun z=>?_,d⟩;rcases nu.mp (I.stkSub p.1 z) with q|q
  ·exact ne q
  ·exact nf q
 ·unfold sub;rw[mM];exact ok.len
theorem comp_endC{fp:List Addr}{cl:List (Str×Addr)}{C:Addr}{σ':St}{H':Hp}{s':Shared}{h':Heap}(I:Inv X lC σ H s)(hf:∀b∈fp,Ve X lC H b)(hC:s.heap.get? C=none)
  (J:Inv (X2 X Nc scope cl C s H fp) lC σ' H' s') (sb:Heap.SameBut C s'.heap h'):Inv X lC σ H' { s' with heap:=h' }:=by
 have u:Un (frs X.stack) fp H H' s.heap s'.heap:=J.base;have hCf:H' C=none:=J.free;have hCn:∀{b:Addr}{o:Obj},s.heap.get? b=some o->b≠C:=fun e z=>by rw[z,hC] at e;cases e
 refine I.call' (s':={ s' with heap:=h' }) (ch:=fp) J.os ⟨fun b o e n h1 h2=>?_,fun b o e n h1 h2=>?_,u.free,fun b o e h2=>?_,u.tups,u.frzs,u.tbls⟩ ?_ J.bare fun b hb=>?_
 ·exact(sb.2 b (hCn e)).trans (u.keep b o e n h1 h2)
 ·obtain⟨sl,q⟩:=u.slot b o e n h1 h2;exact⟨sl,(sb.2 b (hCn e)).trans q⟩
 ·obtain⟨o',q⟩:=u.there b o e h2;exact⟨o',(sb.2 b (hCn e)).trans q⟩
 ·intro b o e;refine(J.hok b o e).stay (fun c v hc q=>(sb.2 c ?_).trans q) (fun _ q=>q) fun _ _ q=>q;rintro rfl;rcases hc with z|z
  ·rw[<- z,hCf] at e;cases e
  ·rw[hCf] at z;cases z
 ·obtain⟨f0,f1,f2,f3,f4,f5⟩:=hf b hb;exact⟨f3,f1,f4,f5⟩
theorem xk{elt tg iter:Expr}{ifs:List Expr}{pos pos2:Pos}{wi:TI}{g:TG}{tt:TT}{te:TE}{use:Option (Value->Sem Unit)}{QV:Value->Shared->Prop}{Q:VK}(I:L2.Inv X lC σ H s)(h:tComp wi ix g tt te σ H Q)
  (fin:∀(D C:Addr) (H':Hp) (s':Shared) (m:Str->Option Value),L2.Inv X lC σ H' s'->Ve X lC H' C->s'.heap.Ns C m->Q (.ref D) H'->compPost (model X.prog X.w) X.A X.xe use QV (.ref D) C (.ok .next) s')
  (ok:X5 X.env.scope X.N Nc ix scope) (hc:X.calm=true) (hi:PI X tg iter wi)
  (hg:∀cl C s H fp,PG (X2 X Nc scope cl C s H fp) tg g) (ht:∀cl C s H fp,PTs (X2 X Nc scope cl C s H fp) ifs tt) (he:∀cl C s H fp,PE (X2 X Nc scope cl C s H fp) elt te)
  (hs:∀x,foldedSetIterable iter X.env x=pure x:=by intro _;rfl):wpAny (model X.prog X.w) X.A (comprehension (.ListComp elt [⟨tg,iter,ifs,0⟩] scope pos) scope X.env pos2 (newList []) false (eval iter X.env) use) QV X.xe s:=by
 refine wpAny_comprehension_free (use:=use) (cl:=Xv scope X.env) rfl hs (clos_eq (UU I ok)) ok.kind ok.names (thn (hi lC s σ H _ I h) fun v s1 q1=>thn q1 fun itv s2 q2=>?_);obtain⟨it,fp,tn,J,H1,e,I2,T,st2,f2,q⟩:=q2;subst e;have hD:H1 s2.heap.objs.size=none:=I2.hok.fresh (mP _);obtain⟨W,⟨m0,w0⟩,turn⟩:=q _ hD;refine oE ?_;have I3:Inv X lC σ (upd H1 s2.heap.objs.size (.lst [])) { s2 with heap:=s2.heap.push { cls:=.type "list",data:=.seq ([]:List Value).toArray } }:=
  I2.laid (t':=s2.toks) (fun b u e=>m4 _ e) (mP _) ⟨og _,[],0,.nil,nI _ rfl⟩
 have hob2:=T.obj 0 _ st2;have f3:∀b∈fp,Ve X lC (upd H1 s2.heap.objs.size (.lst [])) b:=fun b hb=>by
  obtain⟨o,e,_⟩:=hob2 b hb;obtain⟨f0,fr⟩:=f2 b hb;exact⟨by rw[Zy (na (mR e))];exact f0,fr⟩
 have st3:tn 0 (s2.heap.push { cls:=.type "list",data:=.seq ([]:List Value).toArray }):=T.keep 0 _ _ st2 fun b _ o e=>m4 _ e;generalize hs3:({ s2 with heap:=s2.heap.push { cls:=.type "list",data:=.seq ([]:List Value).toArray } }:Shared)=s3 at I3 ⊢;have st3':tn 0 s3.heap:=by rw[<- hs3];exact st3
 refine kZ ?_;obtain⟨hns,k1,hnew,hap⟩:=cells_new s3.heap scope.names;generalize hh1:pushCells (s3.heap.push { cls:=.type "dict",data:=.dict #[] }) scope.names=h1 at hns k1 hnew ⊢;have hob3:∀b∈fp,∃o,s3.heap.get? b=some o:=fun b hb=>let ⟨o,e,_⟩:=T.obj 0 _ st3' b hb; ⟨o,e⟩
 have I4:Inv (X2 X Nc scope (U6 scope X.env s3.heap.objs.size) s3.heap.objs.size s3 (upd H1 s2.heap.objs.size (.lst [])) fp) lC (sub ix σ) (upd H1 s2.heap.objs.size (.lst [])) { s3 with heap:=h1 }:=
  jI (t':=s3.toks) I3 ok f3 hob3 hns k1 hnew hap
 have st4:tn 0 h1:=T.keep 0 _ _ st3' fun b _ o e=>k1 b o e;have hC:s3.heap.get? s3.heap.objs.size=none:=Heap.get?_none_of_le (mP _);generalize hX:X2 X Nc scope (U6 scope X.env s3.heap.objs.size) s3.heap.objs.size s3 (upd H1 s2.heap.objs.size (.lst [])) fp=Y at I4;have stat:∀{H':Hp},(∀b∈fp,H' b=none)->∀b∈fp,Ve Y lC H' b:=fun {H'} hn b hb=>by
  obtain⟨o,e⟩:=hob3 b hb;obtain⟨f0,f1,ff,f3',f4,f5⟩:=f3 b hb;have nst:b∉frs X.stack:=fun z=>by
   rcases nu.mp (I3.stkSub b z) with z|z
   ·exact f1 z
   ·exact ff z
  subst hX;exact⟨hn b hb,na (mR e),nst,.inl hb,fun x c q=>csOf_ne I3 ok hnew q (mR e) (fun q'=>f4 x c q'),f5⟩
 have fin':∀{σ':St}{H':Hp}{s':Shared},L2.Inv Y lC σ' H' s'->Q (.ref s2.heap.objs.size) H'->compPost (model X.prog X.w) X.A X.xe use QV (.ref s2.heap.objs.size) s3.heap.objs.size (.ok .next) s':=fun {σ' H' s'} J' qq=>by
  subst hX;obtain⟨m',hn',_⟩:=id J'.loc;have hCn:H' s3.heap.objs.size=none:=J'.free;exact fin _ _ H' s' m' (comp_endC (h':=s'.heap) I3 f3 hC J' (.refl ..)) (I3.fpOk (mP _) hCn) hn' qq
 have loop:codeAny (model X.prog X.w) X.A (.compLoop (.ListComp elt [⟨tg,iter,ifs,0⟩] scope pos) 0 (.ref it) (.ref s2.heap.objs.size) Y.env)
   (compPost (model X.prog X.w) X.A X.xe use QV (.ref s2.heap.objs.size) s3.heap.objs.size) { s3 with heap:=h1 }:=by
  have eP:Y.prog=X.prog:=by subst hX;rfl
  have eW:Y.w=X.w:=by subst hX;rfl
  have eK:Y.K=X.K:=by subst hX;rfl
  have eA:Y.A=X.A:=by subst hX;rfl
  have eE:Y.xe=fun _ _=>False:=by subst hX;rfl
  have eC:Y.calm=true:=by subst hX;exact hc
  have hgY:PG Y tg g:=by subst hX;exact hg _ _ _ _ _
  have htY:PTs Y ifs tt:=by subst hX;exact ht _ _ _ _ _
  have heY:PE Y elt te:=by subst hX;exact he _ _ _ _ _
  unfold PG at hgY;unfold PTs at htY;unfold PE at heY;rw[eP,eW,eA,eE] at hgY htY heY;refine loop_of (fun n s'=>∃i σ' H',Inv Y lC σ' H' s'/\tn i s'.heap/\(∀b∈fp,H' b=none)/\W i n σ' H') ?_ m0 ⟨0,sub ix σ,_,I4,st4,fun b hb=>(f3 b hb).1,w0⟩;rintro n s5 ⟨i,σ5,H5,I5,st5,fr5,w5⟩;have TI:=T.item Y eP eW eK eC i lC s5 σ5 H5 (fun _ _=>False) I5 (stat fr5) st5;have TD:=T.done Y eP eW eK eC i lC s5 σ5 H5 (fun _ _=>False) I5 (stat fr5) st5;rw[eA] at TI TD;rcases turn i n σ5 H5 w5 with⟨stop,qn⟩|⟨go,N,N0,hN,hN0,step⟩
  ·refine thn (TD stop) fun r s6 ⟨hr,I6⟩=>?_;subst hr;exact fin' I6 qn
  ·refine thn (TI go) fun r s6 ⟨u,hr,h6⟩=>?_;subst hr;refine thn h6 fun _ s7 ⟨x,H7,I7,r7,y7,st7,fr7⟩=>?_;have I7':=I7.pinned (stat fr7) (T.obj _ _ st7);refine thn (hgY _ s7 σ5 H7 x u _ I7' r7 (step x H7 y7)) fun _ s8 ⟨σ8,H8,I8,q8⟩=>?_;refine thn (htY _ s8 σ8 H8 _ I8 q8) fun c s9 ⟨H9,I9,q9⟩=>?_;have back:∀{σa:St}{Ha:Hp}{sa:Shared},Inv Y (lC++UQ fp s7.heap) σa Ha sa->(∃m',m'<n/\W (i+1) m' σa Ha)->∃m,m<n/\∃i σ' H',Inv Y lC σ' H' sa/\tn i sa.heap/\(∀b∈fp,H' b=none)/\W i m σ' H':=fun {σa Ha sa} Ia ⟨m',hm,wa⟩=>by
    refine⟨m',hm,i+1,σa,Ha,Ia.unpinned,T.keep _ _ _ st7 fun b hb o e=>(Ia.pin (b,o) (nU _ (nU _ (Wy hb e)))).1,fun b hb=>?_,wa⟩;obtain⟨o,e,d⟩:=T.obj _ _ st7 b hb;exact(Ia.pin (b,o) (nU _ (nU _ (Wy hb e)))).2.1
   cases c with
   |false=>exact back I9 (hN0 _ _ (by simpa using q9))
   |true=>
    rw[if_pos rfl] at q9 ⊢;refine thn (heY _ s9 σ8 H9 _ I9 q9) fun z s10 ⟨v10,H10,I10,r10,q10⟩=>?_;obtain⟨xs,hx,hz,q10⟩:=hN _ _ _ q10;have ap:=Yg (X:=Y) (lC++UQ fp s7.heap) s10 σ8 H10 (.ref s2.heap.objs.size) [v10] (.ref s2.heap.objs.size) [z] (fun _ Hb=>∃m',m'<n/\W (i+1) m' σ8 Hb) I10 rfl (.cons r10 .nil) ⟨_,xs,v10,rfl,rfl,hx,hz,q10⟩;rw[eP,eW,eA,eE] at ap;exact thn ap fun _ s11 ⟨_,H11,I11,_,q11⟩=>back I11 q11
 have eenv:Y.env=compEnvC scope (U6 scope X.env s3.heap.objs.size) s3.heap.objs.size X.env:=by subst hX;rfl
 rw[eenv] at loop;exact codeAny_compStart_list loop (T.self X.A 0 _ _ _ st4 loop)
theorem jQ{elt tg iter:Expr}{ifs:List Expr}{pos:Pos}{wi:TI}{g:TG}{tt:TT}{te:TE}(ok:X5 X.env.scope X.N Nc ix scope)(hc:X.calm=true)(hi:PI X tg iter wi)
  (hg:∀cl C s H fp,PG (X2 X Nc scope cl C s H fp) tg g) (ht:∀cl C s H fp,PTs (X2 X Nc scope cl C s H fp) ifs tt) (he:∀cl C s H fp,PE (X2 X Nc scope cl C s H fp) elt te)
  (hs:∀x,foldedSetIterable iter X.env x=pure x:=by intro _;rfl):PE X (.ListComp elt [⟨tg,iter,ifs,0⟩] scope pos) (tComp wi ix g tt te):=by
 intro lC s σ H Q I h;rw[eval_ListComp];refine xk (use:=none) I h (fun D C H' s' m I' f hn qq=>?_) ok hc hi hg ht he hs;obtain⟨f0,f1,f2,f3,f4,f5⟩:=f;exact⟨m,hn,fun h' sb=>⟨.ref D,H',I'.turned (t':=s'.toks) (fun b o hb e=>(sb.2 b hb).trans e) f0 f1 f3 f4 f5,rfl,qq⟩⟩
theorem jZ{i:Nat}{x:Str}{elt tg iter:Expr}{ifs:List Expr}{pos spos pos':Pos}{wi:TI}{g:TG}{tt:TT}{te:TE}(hN:X.N.Nodup)(hi:X.N[i]?=some x)(hx:X.env.kindOf x=some .local)
  (ok:X5 X.env.scope X.N Nc ix scope) (hc:X.calm=true) (hit:PI X tg iter wi)
  (hg:∀cl C s H fp,PG (X2 X Nc scope cl C s H fp) tg g) (ht:∀cl C s H fp,PTs (X2 X Nc scope cl C s H fp) ifs tt) (he:∀cl C s H fp,PE (X2 X Nc scope cl C s H fp) elt te)
  (hsw:swapsWith (.ListComp elt [⟨tg,iter,ifs,0⟩] scope pos) (some (.Name x pos')) spos.line X.env=pure true:=by rfl)
  (hs:∀x,foldedSetIterable iter X.env x=pure x:=by intro _;rfl):PS X (.Assign [.Name x pos'] (.ListComp elt [⟨tg,iter,ifs,0⟩] scope pos) spos) (tAsg (tComp wi ix g tt te) (Xt i)):=by
 intro lC s σ H D I h;rw[exec_Assign_Name_used _ _ _ _ hsw];refine mL (oQ (mL ?_))
 show wpAny _ X.A (do let _ <- comprehension (.ListComp elt [⟨tg,iter,ifs,0⟩] scope pos) scope X.env _ (newList []) false (eval iter X.env) (some (assign (.Name x pos') X.env))) _ _ s
 refine mL (thn (xk (use:=some (assign (.Name x pos') X.env)) (QV:=fun _ s'=>SP X lC D .next s') I h (fun L C H' s' m I' f hn qq=>?_) ok hc hit hg ht he hs) fun _ s' q=>mQ (mQ q));obtain⟨f0,f1,f2,f3,f4,f5⟩:=f;refine wpAny_assign_Name (zd (v:=.ref L) I' hN hi (.inl hx) rfl (fun s2 I2 ⟨a,sb,ha⟩=>?_) (.inr hx));have hCa:C≠a:=by
  rintro rfl;rcases ha with z|z
  ·exact f1 z
  ·exact f4 _ _ z rfl
 exact⟨m,hn.sameBut sb hCa,fun h' sb'=>⟨_,H',I2.turned (t':=s2.toks) (fun b o hb e=>(sb'.2 b hb).trans e) f0 f1 f3 f4 f5,qq⟩⟩
end
theorem VX{te:TE}{σ:St}{H:Hp}{N:V->Hp->Prop}{N0:Hp->Prop}(h:te σ H N):Vh σ H fun c H4=>if c=true then te σ H4 N else N0 H4:=by
 show(if true=true then te σ H N else N0 H)
 rw[if_pos rfl];exact h
theorem j8{α:Type}{J:It}{D:Addr}{tt:TT}{te:TE}{τ:St}{H0:Hp}{Q:VK}(l:List α)(φ:α->V)(p:α->Bool)(f:α->V)(hD:H0 D=none)(hz:l.length<=sizeLine)
  (hgo:∀i H,i<l.length->Zf H0 H->J.go i H) (hst:∀H,Zf H0 H->J.stop l.length H) (hy:∀i x H H2 (h:i<l.length),Zf H0 H->J.yld i H x H2->H2=H/\x=φ l[i])
  (step:∀x∈l,∀H (N:V->Hp->Prop) (N0:Hp->Prop),Zf H0 H->(∀H4,Zf H H4->p x=true->N (f x) H4)->(∀H4,Zf H H4->p x=false->N0 H4)->tt (some (φ x)::τ) H fun c H4=>if c=true then te (some (φ x)::τ) H4 N else N0 H4)
  (fin:∀H',H' D=some (.lst ((l.filter p).map f))->Zf H0 H'->Q (.ref D) H'):WS J D (Xt 0) tt te (none::τ) H0 Q:=by
 refine Xy (n:=l.length) (fun i σ H=>∃z,σ=z::τ/\H D=some (.lst (((l.take i).filter p).map f))/\Zf H0 H) ?_ ?_ ?_ ?_ ?_
 ·exact⟨none,rfl,Ze,Zj hD⟩
 ·rintro i σ H hi ⟨z,rfl,_,s⟩;exact hgo i H hi s
 ·rintro σ H ⟨z,rfl,_,s⟩;exact hst H s
 ·rintro i x σ H H2 hi ⟨z,rfl,hd,s⟩ hyl N N0 hN hN0;obtain⟨rfl,rfl⟩:=hy i x H H2 hi s hyl;have tk:(l.take (i+1)).filter p=(l.take i).filter p++[l[i]].filter p:=by rw[rn hi,pA]
  have le:(((l.take i).filter p).map f).length<sizeLine:=by
   rw[mM];have:=pO p (l.take i);rw[nW] at this;omega
  refine step _ (nk hi) H2 (fun v H5=>N v (some (φ l[i])::τ) H5) (fun H4=>N0 (some (φ l[i])::τ) H4) s (fun H4 s4 hp=>?_) (fun H4 s4 hp=>?_)
  ·refine hN _ _ H4 _ (s4 _ _ hd) le ⟨_,rfl,?_,(ZJ.upd (Zf.x (s.trans s4))).same hD⟩;rw[Ze,tk,p9 hp,nP];rfl
  ·refine hN0 _ H4 ⟨_,rfl,?_,s.trans s4⟩;rw[s4 _ _ hd,tk,pJ (by rw[hp];exact nh),rz,oC]
 ·rintro σ H ⟨z,rfl,hd,s⟩;rw[oy] at hd;exact fin H hd s
theorem qP{α:Type}{K:W.Frag}{a D:Addr}{tt:TT}{te:TE}{τ:St}{H0:Hp}{Q:VK}(l:List α)(φ:α->V)(p:α->Bool)(f:α->V)(hD:H0 D=none)(hq:SqL K H0 a (l.map φ))(hz:l.length<=sizeLine)
  (step:∀x∈l,∀H (N:V->Hp->Prop) (N0:Hp->Prop),Zf H0 H->(∀H4,Zf H H4->p x=true->N (f x) H4)->(∀H4,Zf H H4->p x=false->N0 H4)->tt (some (φ x)::τ) H fun c H4=>if c=true then te (some (φ x)::τ) H4 N else N0 H4)
  (fin:∀H',H' D=some (.lst ((l.filter p).map f))->Zf H0 H'->Q (.ref D) H'):WS (Itl K a) D (Xt 0) tt te (none::τ) H0 Q:=by
 refine j8 l φ p f hD hz (fun i H hi s=>⟨_,φ l[i],s.seq hq,by rw[mU,mO hi];rfl⟩) (fun H s=>⟨_,s.seq hq,by rw[mM];exact mP _⟩) (fun i x H H2 hi s hyl=>?_) step fin;obtain⟨rfl,hx⟩:=hyl;have e:=hx _ (s.seq hq);rw[mU,mO hi] at e;exact⟨rfl,(nv e).symm⟩
theorem qL{n:Nat}{D:Addr}{tt:TT}{te:TE}{τ:St}{H0:Hp}{Q:VK}(p:Nat->Bool)(f:Nat->V)(hD:H0 D=none)(hz:n<=sizeLine)
  (step:∀k,k<n->∀H (N:V->Hp->Prop) (N0:Hp->Prop),Zf H0 H->(∀H4,Zf H H4->p k=true->N (f k) H4)->(∀H4,Zf H H4->p k=false->N0 H4)->tt (some (.int (k:Nat))::τ) H fun c H4=>if c=true then te (some (.int (k:Nat))::τ) H4 N else N0 H4)
  (fin:∀H',H' D=some (.lst (((List.range n).filter p).map f))->Zf H0 H'->Q (.ref D) H'):WS (Itr 0 n) D (Xt 0) tt te (none::τ) H0 Q:=by
 refine j8 (List.range n) (fun k=>.int (k:Nat)) p f hD (by rw[m9];exact hz) (fun i H hi _=>by rw[m9] at hi;exact hi) (fun H _=>by rw[m9];exact mP _) (fun i x H H2 hi s hyl=>?_) (fun x hx=>step x (mX.mp hx)) fin;obtain⟨rfl,rfl⟩:=hyl;refine⟨rfl,?_⟩;rw[pB,ou]
theorem xM{α:Type}{J:It}{D:Addr}{tt:TT}{te:TE}{τ:St}{H0:Hp}{Q:VK}(l:List α)(φ:α->V)(p:α->Bool)(f:α->V)(hD:H0 D=none)(hz:l.length<=sizeLine)
  (hgo:∀i H,i<l.length->Zf H0 H->J.go i H) (hst:∀H,Zf H0 H->J.stop l.length H) (hy:∀i x H H2 (h:i<l.length),Zf H0 H->J.yld i H x H2->H2=H/\x=φ l[i])
  (step:∀x∈l,∀H (N:V->Hp->Prop) (N0:Hp->Prop),Zf H0 H->(∀H4,Zf H H4->p x=true->N (f x) H4)->(∀H4,Zf H H4->p x=false->N0 H4)->tt (some (φ x)::τ) H fun c H4=>if c=true then te (some (φ x)::τ) H4 N else N0 H4)
  (fin:∀H',H' D=some (.lst ((l.filter p).map f))->Zf H0 H'->Q (.ref D) H'):zS J D (Xt 0) tt te (none::τ) H0 Q:=by
 refine comp_gen (n:=l.length) (fun i σ H=>∃z,σ=z::τ/\H D=some (.lst (((l.take i).filter p).map f))/\Zf H0 H) ?_ ?_ ?_ ?_ ?_
 ·exact⟨none,rfl,Ze,Zj hD⟩
 ·rintro i σ H hi ⟨z,rfl,_,s⟩;exact hgo i H hi s
 ·rintro σ H ⟨z,rfl,_,s⟩;exact hst H s
 ·rintro i x σ H H2 hi ⟨z,rfl,hd,s⟩ hyl N N0 hN hN0;obtain⟨rfl,rfl⟩:=hy i x H H2 hi s hyl;have tk:(l.take (i+1)).filter p=(l.take i).filter p++[l[i]].filter p:=by rw[rn hi,pA]
  have le:(((l.take i).filter p).map f).length<sizeLine:=by
   rw[mM];have:=pO p (l.take i);rw[nW] at this;omega
  refine step _ (nk hi) H2 (fun v H5=>N v (some (φ l[i])::τ) H5) (fun H4=>N0 (some (φ l[i])::τ) H4) s (fun H4 s4 hp=>?_) (fun H4 s4 hp=>?_)
  ·refine hN _ _ H4 _ (s4 _ _ hd) le ⟨_,rfl,?_,(ZJ.upd (Zf.x (s.trans s4))).same hD⟩;rw[Ze,tk,p9 hp,nP];rfl
  ·refine hN0 _ H4 ⟨_,rfl,?_,s.trans s4⟩;rw[s4 _ _ hd,tk,pJ (by rw[hp];exact nh),rz,oC]
 ·rintro σ H ⟨z,rfl,hd,s⟩;rw[oy] at hd;exact fin H hd s
theorem km{α:Type}{K:W.Frag}{a D:Addr}{tt:TT}{te:TE}{τ:St}{H0:Hp}{Q:VK}(l:List α)(φ:α->V)(p:α->Bool)(f:α->V)(hD:H0 D=none)(hq:SqL K H0 a (l.map φ))(hz:l.length<=sizeLine)
  (step:∀x∈l,∀H (N:V->Hp->Prop) (N0:Hp->Prop),Zf H0 H->(∀H4,Zf H H4->p x=true->N (f x) H4)->(∀H4,Zf H H4->p x=false->N0 H4)->tt (some (φ x)::τ) H fun c H4=>if c=true then te (some (φ x)::τ) H4 N else N0 H4)
  (fin:∀H',H' D=some (.lst ((l.filter p).map f))->Zf H0 H'->Q (.ref D) H'):zS (Itl K a) D (Xt 0) tt te (none::τ) H0 Q:=by
 refine xM l φ p f hD hz (fun i H hi s=>⟨_,φ l[i],s.seq hq,by rw[mU,mO hi];rfl⟩) (fun H s=>⟨_,s.seq hq,by rw[mM];exact mP _⟩) (fun i x H H2 hi s hyl=>?_) step fin;obtain⟨rfl,hx⟩:=hyl;have e:=hx _ (s.seq hq);rw[mU,mO hi] at e;exact⟨rfl,(nv e).symm⟩
theorem Jd{n:Nat}{D:Addr}{tt:TT}{te:TE}{τ:St}{H0:Hp}{Q:VK}(p:Nat->Bool)(f:Nat->V)(hD:H0 D=none)(hz:n<=sizeLine)
  (step:∀k,k<n->∀H (N:V->Hp->Prop) (N0:Hp->Prop),Zf H0 H->(∀H4,Zf H H4->p k=true->N (f k) H4)->(∀H4,Zf H H4->p k=false->N0 H4)->tt (some (.int (k:Nat))::τ) H fun c H4=>if c=true then te (some (.int (k:Nat))::τ) H4 N else N0 H4)
  (fin:∀H',H' D=some (.lst (((List.range n).filter p).map f))->Zf H0 H'->Q (.ref D) H'):zS (Itr 0 n) D (Xt 0) tt te (none::τ) H0 Q:=by
 refine xM (List.range n) (fun k=>.int (k:Nat)) p f hD (by rw[m9];exact hz) (fun i H hi _=>by rw[m9] at hi;exact hi) (fun H _=>by rw[m9];exact mP _) (fun i x H H2 hi s hyl=>?_) (fun x hx=>step x (mX.mp hx)) fin;obtain⟨rfl,rfl⟩:=hyl;refine⟨rfl,?_⟩;rw[pB,ou]
theorem ZY{α:Type}{K:W.Frag}{a D:Addr}{te:TE}{τ:St}{H0:Hp}{Q:VK}(l:List α)(φ:α->V)(f:α->V)(hD:H0 D=none)(hq:SqL K H0 a (l.map φ))(hz:l.length<=sizeLine)
  (step:∀x∈l,∀H (N:V->Hp->Prop),Zf H0 H->(∀H4,Zf H H4->N (f x) H4)->te (some (φ x)::τ) H N)
  (fin:∀H',H' D=some (.lst (l.map f))->Zf H0 H'->Q (.ref D) H'):WS (Itl K a) D (Xt 0) Vh te (none::τ) H0 Q:=by
 refine qP l φ (fun _=>true) f hD hq hz (fun x hx H N N0 s h1 _=>?_) (fun H' h s=>fin H' (by rw[h,pP.mpr (fun _ _=>rfl)]) s);exact VX (step x hx H N s fun H4 s4=>h1 H4 s4 rfl)
theorem Xp{n:Nat}{D:Addr}{te:TE}{τ:St}{H0:Hp}{Q:VK}(f:Nat->V)(hD:H0 D=none)(hz:n<=sizeLine)
  (step:∀k,k<n->∀H (N:V->Hp->Prop),Zf H0 H->(∀H4,Zf H H4->N (f k) H4)->te (some (.int (k:Nat))::τ) H N)
  (fin:∀H',H' D=some (.lst ((List.range n).map f))->Zf H0 H'->Q (.ref D) H'):WS (Itr 0 n) D (Xt 0) Vh te (none::τ) H0 Q:=by
 refine qL (fun _=>true) f hD hz (fun x hx H N N0 s h1 _=>?_) (fun H' h s=>fin H' (by rw[h,pP.mpr (fun _ _=>rfl)]) s);exact VX (step x hx H N s fun H4 s4=>h1 H4 s4 rfl)
theorem jx{α:Type}{K:W.Frag}{a D:Addr}{te:TE}{τ:St}{H0:Hp}{Q:VK}(l:List α)(φ:α->V)(f:α->V)(hD:H0 D=none)(hq:SqL K H0 a (l.map φ))(hz:l.length<=sizeLine)
  (step:∀x∈l,∀H (N:V->Hp->Prop),Zf H0 H->(∀H4,Zf H H4->N (f x) H4)->te (some (φ x)::τ) H N)
  (fin:∀H',H' D=some (.lst (l.map f))->Zf H0 H'->Q (.ref D) H'):zS (Itl K a) D (Xt 0) Vh te (none::τ) H0 Q:=by
 refine km l φ (fun _=>true) f hD hq hz (fun x hx H N N0 s h1 _=>?_) (fun H' h s=>fin H' (by rw[h,pP.mpr (fun _ _=>rfl)]) s);exact VX (step x hx H N s fun H4 s4=>h1 H4 s4 rfl)
theorem zi{n:Nat}{D:Addr}{te:TE}{τ:St}{H0:Hp}{Q:VK}(f:Nat->V)(hD:H0 D=none)(hz:n<=sizeLine)
  (step:∀k,k<n->∀H (N:V->Hp->Prop),Zf H0 H->(∀H4,Zf H H4->N (f k) H4)->te (some (.int (k:Nat))::τ) H N)
  (fin:∀H',H' D=some (.lst ((List.range n).map f))->Zf H0 H'->Q (.ref D) H'):zS (Itr 0 n) D (Xt 0) Vh te (none::τ) H0 Q:=by
 refine Jd (fun _=>true) f hD hz (fun x hx H N N0 s h1 _=>?_) (fun H' h s=>fin H' (by rw[h,pP.mpr (fun _ _=>rfl)]) s);exact VX (step x hx H N s fun H4 s4=>h1 H4 s4 rfl)
def ZL{α:Type}(r:Hp->V->α->Prop)(H:Hp)(z:List (V×α)):Prop:=∀x∈z,r H x.1 x.2
theorem ZL.ll{α:Type}{r:Hp->V->α->Prop}{H:Hp}{a:Addr}{z:List (V×α)}(h:H a=some (.lst (z.map Prod.fst)))(q:ZL r H z):LL r H (.ref a) (z.map Prod.snd):=by
 refine⟨a,_,rfl,h,by rw[mM,mM],fun i v p h1 h2=>?_⟩;rw[mU] at h1 h2;cases e:z[i]? with
 |none=>rw[e] at h1;cases h1
 |some x=>
  rw[e] at h1 h2;cases h1;cases h2;exact q x (om e)
theorem LL.z{α:Type}{r:Hp->V->α->Prop}{H:Hp}{v:V}{xs:List α}(h:LL r H v xs):∃a z,v=.ref a/\H a=some (.lst (z.map Prod.fst))/\z.map Prod.snd=xs/\ZL r H z:=by
 obtain⟨a,vs,rfl,e,l,q⟩:=h;refine⟨a,vs.zip xs,rfl,by rw[e,List.map_fst_zip (by omega)],List.map_snd_zip (by omega),fun x hx=>?_⟩;obtain⟨i,hi,rfl⟩:=oH hx;rw[pQ] at hi;rw[List.getElem_zip];exact q i _ _ (mO (by omega)) (mO (by omega))
theorem ZL.mono{α:Type}{r:Hp->V->α->Prop}(m:Mon r){H H':Hp}{z:List (V×α)}(s:Zf H H')(q:ZL r H z):ZL r H' z:=fun x hx=>m _ _ _ _ s (q x hx)
theorem ZL.app{α:Type}{r:Hp->V->α->Prop}{H:Hp}{z y:List (V×α)}(h:ZL r H z)(g:ZL r H y):ZL r H (z++y):=fun x hx=>(nE.mp hx).elim (h x) (g x)
theorem ZL.one{α:Type}{r:Hp->V->α->Prop}{H:Hp}{v:V}{x:α}(g:r H v x):ZL r H [(v,x)]:=fun y hy=>by cases nj.mp hy;exact g
theorem ZL.nil{α:Type}{r:Hp->V->α->Prop}{H:Hp}:ZL r H ([]:List (V×α)):=fun x hx=>by cases hx
def YN(S W:Addr)(G G':Hp):Prop:=∀b o,b≠S->b≠W->G b=some o->G' b=some o
theorem YN.trans{S W:Addr}{G G1 G2:Hp}(a:YN S W G G1)(b:YN S W G1 G2):YN S W G G2:=fun c o n m e=>b c o n m (a c o n m e)
theorem Zf.two{S W:Addr}{G G':Hp}(h:Zf G G'):YN S W G G':=fun b o _ _ e=>h b o e
theorem YN.upd1{S W:Addr}{G G':Hp}{o:HO}(h:YN S W G G'):YN S W G (upd G' S o):=fun b u n m e=>by rw[Zy n];exact h b u n m e
theorem YN.upd2{S W:Addr}{G G':Hp}{o:HO}(h:YN S W G G'):YN S W G (upd G' W o):=fun b u n m e=>by rw[Zy m];exact h b u n m e
theorem YN.same{S W:Addr}{G G':Hp}(h:YN S W G G')(hS:G S=none)(hW:G W=none):Zf G G':=fun b o e=>h b o (ZZ e hS) (ZZ e hW) e
def hid2(S W:Addr)(H:Hp):Hp:=hide S (hide W H)
theorem j4{S W:Addr}{H:Hp}:Zf (hid2 S W H) H:=fun b o h=>Xi _ _ (Xi _ _ h)
theorem vc{S W b:Addr}{H:Hp}{o:HO}(n:b≠S)(m:b≠W)(h:H b=some o):hid2 S W H b=some o:=Y9 n (Y9 m h)
theorem YN.new{S W:Addr}{H G G':Hp}(h:YN S W G G'):Zf (hid2 S W (New H G)) (hid2 S W (New H G')):=fun b o e=>by
 obtain⟨n,e⟩:=WY e;obtain⟨m,e⟩:=WY e;obtain⟨h1,h2⟩:=New.of e;exact vc n m (New.mk h1 (h b o n m h2))
theorem ext_tup(l:Addr)(items:Array Value)(n:Nat)(b:Addr)(items2:Array Value)(n2:Nat)(dd:Option Addr)(sl:Array (Option Value))(hs0:¬(!items.isEmpty&&Builtin.List.listTooLong (items.size+items2.size))=true)(hs1:items.size<=sizeLine)(hs2:items.size+items2.size<=sizeLine+1) :
  Meets (Builtin.«list.extend» ⟨[.ref l,.ref b],[]⟩) (fun _ R s=>s.heap.get? l=some { cls:=.type "list",dict:=none,data:=.seq items n,slots:=#[] }/\s.heap.get? b=some { cls:=.type "tuple",dict:=dd,data:=.seq items2 n2,slots:=sl }/\R (.ok (.ret Value.none)) { s with heap:=s.heap.update l (Obj.mapSeq fun x=>x++items2),toks:=s.toks }):=
 .of_wp fun prog w A R s h=>by
  obtain⟨hp,g,d,tk,os⟩:=s;obtain⟨hl,hb,h⟩:=h;have f1:=AutoSeq1.idx_int;have f2:=AutoSeq1.sub_tuple_tuple;have f3:=AutoSeq1.sub_list_list;have f4:=AutoSeq1.sub_tuple_list;have f5:=AutoSeq1.sub_list_tuple;have hz':(items++items2).size<=sizeLine+1:=by rw[Array.size_append];exact hs2
  wp_walk using(wpAny_updateSeq hl rfl (hz:=hs1) (_hz':=hz')),wpAny_loadPart' hl,wpAny_loadPart' hb;exact⟨_,rfl,h⟩
section
variable{X:Cx}{K:W.Frag}
inductive ye(K:W.Frag)(x:V)(vs:List V)(H:Hp)(Q:VK):Prop
 |mk (l:_) (b:_) (xs:_) (zs:_) (h0:x=.ref l) (h1:vs=[.ref b]) (h2:H l=some (.lst xs)) (h3:SqT K H b zs) (h4:xs.length+zs.length<=sizeLine) (h5:Q .non (upd H l (.lst (xs++zs)))):ye K x vs H Q
def rExtendT(K:W.Frag):V->List V->Hp->VK->Prop:=fun x vs H Q=>ye K x vs H Q
theorem kN(hK:X.K=K):MtM X "list.extend" (rExtendT K):=by
 subst hK;intro lC s σ H x vs v us Q I rx rv h;obtain⟨l,b,xs,zs,rfl,rfl,hH,hB,hz,q⟩:=h;cases rx;obtain⟨u,rfl,ru⟩:=rv.one;cases ru;obtain⟨z,its,n,r,hl,e⟩:=I.lstM hH;obtain⟨its2,r2,⟨o,e2,hc,n2,hd⟩,z2⟩:=I.tuple hB;obtain⟨c,dd,da,sl⟩:=o;have hc':c=.type "tuple" := hc;have hd':da=.seq its2.toArray n2:=hd;subst hc' hd';have hl2:=r2.length;have hsz:its.toArray.size+its2.toArray.size<=sizeLine:=by rw[m7,m7];omega
 have hlong:¬(!its.toArray.isEmpty&&Builtin.List.listTooLong (its.toArray.size+its2.toArray.size))=true:=by
  rw[yF hsz,Bool.and_false];exact nh
 refine call_meets F.slot_list_extend ⟨_,e,rfl⟩ F.entry_list_extend (F.args_list_extend_2 _ _)
  (ext_tup l its.toArray n b its2.toArray n2 dd sl hlong (by rw[m7];omega) (by omega)) ⟨e,e2,?_⟩
 refine⟨.non,_,I.lset (its':=its++its2) hH e (by simp) (r.append r2) ?_,rfl,q⟩;rw[mT];omega
end
theorem jf{sel:Nat->Bool}:∀(xs:List Value) (n k:Nat),(∀i,n<=i->i<n+xs.length->sel i=decide (n+k<=i))->((xs.zipIdx n).filterMap fun(x,i)=>if sel i=true then none else some x)=xs.take k
 |[],n,k,_=>by simp
 |x::r,n,k,h=>by
  have h0:=h n (mP _) (by simp);rw[List.zipIdx_cons,pY];cases k with
  |zero=>
   have e:sel n=true:=by rw[h0];simp
   simp only[e,if_true];have:=jf (sel:=sel) r (n+1) 0 fun i h1 h2=>by rw[h i (by omega) (by simp;omega)];exact oF.mpr ⟨fun _=>by omega,fun _=>by omega⟩
   simpa using this
  |succ k=>
   have e:sel n=false:=by rw[h0];exact nH (by omega)
   simp only[e,rk,oM];rw[List.take_succ_cons,jf (sel:=sel) r (n+1) k fun i h1 h2=>by rw[h i (by omega) (by simp;omega)];exact oF.mpr ⟨fun _=>by omega,fun _=>by omega⟩]
theorem del_from{prog:Program}{w:World}{A:Around}{E:Value->Shared->Prop}{s:Shared}{l sl:Addr}{items:Array Value}{n:Nat}{vl:Value}{k:Nat}{Q:Unit->Shared->Prop}(ho:s.heap.get? l=some { cls:=.type "list",data:=.seq items n })(hs:s.heap.IsSliceOf sl vl .none .none)(pl:IsPart vl (some (k:Int)))(hk:k<=items.size)(hsz:items.size<=sizeLine)
  (h:∀f:Array Value->Array Value,f items=(items.toList.take k).toArray->Q () { s with heap:=s.heap.update l (Obj.mapSeq f) }):wpAny (model prog w) A (delItem (.ref l) (.ref sl)) Q E s:=by
 have hT:s.TypeIs (.ref l) "list" := ⟨_,ho,rfl⟩;obtain⟨os,hos,hcs,hds⟩:=id hs;have hTs:s.TypeIs (.ref sl) "slice" := ⟨os,hos,hcs⟩;refine wpAny_delItem_slot hT (by decide) F.slot_list_delitem (px F.slot_list_delitem hT F.entry_list_delitem ?_ (F.args_list_delitem_2 _ _))
 show wpAny _ _ (Builtin.List.listSubscript? (.ref sl) >>= _) _ _ s
 refine mL ?_;unfold Builtin.List.listSubscript?;refine mL (wpAny_specialOf hTs slice_no_index ?_);simp only[Option.isNone_none,if_true];refine mQ ?_
 show wpAny _ _ (typeOf (.ref sl) >>= _) _ _ s
 refine mL (wpAny_typeOf hTs ?_);rw[if_neg (by decide)];rw[listSliceParts_eq];refine mL (mL (pq hos hds (x:=.none) rfl (mL (wpAny_listPart .none ?_))));rw[if_neg (show ¬((rawPart none==rawInt 0)=true) from nh)];refine mL (pq hos hds (x:=vl) rfl (mL (wpAny_listPart pl ?_)));refine mL (pq hos hds (x:=.none) rfl (mL (wpAny_listPart .none (mQ ?_))));refine mL (m:=Builtin.List.listItems (.ref l)) ?_;unfold Builtin.List.listItems;refine mL (wpAny_seqItems ho rfl (mQ ?_));have eb:sliceIndices (rawPart (some (k:Int))) (rawPart none) (rawPart none) items.size=pure ((k:Int),(items.size:Int),(1:Int)):=by
  rw[sliceIndices_raw _ _ _ _ (by simp)];have e1:(sliceBounds (some (k:Int)) none none items.size)=((k:Int),(items.size:Int),(1:Int)):=by
   unfold sliceBounds;simp;omega
  rw[e1]
 refine mL (wpAny_of_eq eb ?_);refine mL (wpAny_rule (mL ?_))
 show wpAny _ _ (updateSeq l _) _ _ s
 have hf:=jf (sel:=fun i=>if(1:Int)>0 then decide ((k:Int)<=i)&&decide ((i:Int)<(items.size:Int))&&((i:Int)-k)%1==0 else decide ((items.size:Int)<i)&&decide ((i:Int)<=k)&&((k:Int)-i)%(-1)==0) items.toList 0 k fun i h1 h2=>by
  have h2':i<items.size:=by simpa using h2
  simp only[show(1:Int)>0 by decide,if_true];rw[Int.emod_one];simp;omega
 have hf':=ni List.toArray hf;refine wpAny_updateSeq ho rfl ?_ hsz ?_
 ·exact mL (wpAny_letGo (mQ ⟨_,rfl,h _ hf'⟩))
 ·refine nQ (Nat.le_of_eq (ni Array.size hf')) ?_;rw[m7,nW];omega
section
variable{X:Cx}
def tDelFrom(te:TE)(tl:TE):L2.TS:=fun D σ H=>te σ H fun x H1=>tl σ H1 fun y H2=>∃l xs k,x=.ref l/\y=.int ((k:Nat):Int)/\H2 l=some (.lst xs)/\k<=xs.length/\D.nx σ (upd H2 l (.lst (xs.take k)))
theorem kT{o lo:Expr}{te tl:TE}{p2 p3 pos:Pos}(ho:PE X o te)(hl:PE X lo tl):PS X (.Delete [.Subscript o (.Slice (some lo) none none p2) p3] pos) (tDelFrom te tl):=by
 intro lC s σ H D I h;refine wpAny_Delete (wpAny_deleteEach_cons (wpAny_delete_Subscript (thn (ho lC s σ H _ I h) fun u s1 ⟨x,H1,I1,rx,q1⟩=>?_)));refine wpAny_Slice ?_;rw[evalPart_some];refine thn (hl lC s1 σ H1 _ I1 q1) fun vl s2 ⟨y,H2,I2,ry,l,xs,k,ex,ey,hH,hk,q⟩=>?_;subst ex ey;obtain rfl:u=Value.ref l:=rx;obtain⟨t,rfl⟩:=(show ∃t,vl=Value.int ((k:Nat):Int) t from ry);rw[evalPart_none];refine mQ (mQ ?_);have I3:Inv X lC σ H2 { s2 with heap:=s2.heap.push { cls:=.type "slice",data:=.fields #[.int ((k:Nat):Int) t,.none,.none] } }:=I2.kept (t':=s2.toks) fun b ob q=>m4 _ q;obtain⟨z,its,n,r,hlen,e⟩:=I3.lstM hH;refine del_from e (Heap.IsSliceOf.new ..) (.int _ t) (by rw[m7];omega) (by rw[m7];omega) fun f hf=>wpAny_deleteEach_nil ?_;refine⟨σ,_,I3.lset (its':=its.take k) (t':=s2.toks) hH e ?_ (r.take k) (by rw[nW];omega),q⟩;simpa using hf
end
structure DicK(K:W.Frag)(P:Params)(D:Addr)(kvs:List (Str×Int)):Prop where
 ex:∃(es:Array DictEntry) (n:Nat),K.lookup D=some ⟨.type "dict",none,.dict es n,#[]⟩/\W.KeysLit P es.toList
 at_:∀p∈kvs,∃t,W.nsIn K D p.1=some (some (.int p.2 t))
 lo:(D==sysModules)=false
inductive rIxD_R(K:W.Frag)(P:Params)(x:V)(y:V)(H:Hp)(Q:VK):Prop
 |mk (D:_) (z:_) (kvs:_) (i:_) (h0:x=.ref D) (h1:y=.str z) (h2:DicK K P D kvs) (h3:(z,i)∈kvs) (h4:Q (.int i) H):rIxD_R K P x y H Q
def rIxD(K:W.Frag)(P:Params):R2:=fun x y H Q=>rIxD_R K P x y H Q
section
variable{X:Cx}{K:W.Frag}{P:Params}
theorem ix_dic(hK:X.K=K)(hw:X.w.params=P):IxR X (rIxD K P):=by
 subst hK hw;intro value slice lC s σ H x y v u Q I rx ry h hs;obtain⟨D,z,kvs,i,rfl,rfl,d,hm,q⟩:=h;obtain⟨t,rfl⟩:=(show ∃t,u=Value.str z t from ry);obtain rfl:v=Value.ref D:=rx;obtain⟨m,F⟩:=I.fr;obtain⟨es,n,lk,hk⟩:=d.ex;obtain⟨t2,ea⟩:=d.at_ _ hm;exact W.topItem_K F I.mod.kin lk hk ea ⟨.int i,H,I.tok _,⟨t2,rfl⟩,q⟩ hs
end
end L3
namespace L3
open PySem PySem.Spec L2
inductive Lb where
 |yes
 |sign (s:Str)
 |op (w:Str)
 |wit (m:Int)
 |many (w:Str)
inductive Tr where
 |node (c:Lb) (ks:List Tr)
def Tr.lb:Tr->Lb
 |.node c _=>c
def Tr.ks:Tr->List Tr
 |.node _ ks=>ks
def W1:List Str:=["all", "some", "not", "next", "always", "ever", "before", "once", "sofar"]
def W2:List Str:=["until", "since"]
def WX:Lb->Nat->Prop
 |.yes,n=>n=0
 |.sign s,n=>n=0/\Yh s=true
 |.op w,n=>(w∈W1/\n=1)\/(w∈W2/\n=2)
 |.wit m,n=>(0<=m/\m<=5)/\n=2
 |.many w,n=>(w = "and" \/ w = "or")/\n<=8
def WR:Lb->Str
 |.yes => "yes"
 |.sign _ => "sign"
 |.op w=>w
 |.wit _ => "within"
 |.many w=>w
def Ux(K:W.Frag)(H:Hp)(a:Addr)(vs:List V):Lb->Prop
 |.yes=>vs=[]/\SqT K H a [.str "yes"]
 |.sign s=>vs=[]/\SqT K H a [.str "sign",.str s]
 |.op w=>SqT K H a (.str w::vs)
 |.wit m=>SqT K H a (.str "within" :: .int m::vs)
 |.many w=>∃b,SqT K H a [.str w,.ref b]/\SqT K H b vs
def At(K:W.Frag):Nat->Hp->V->Tr->Prop
 |0,_,_,_=>False
 |n+1,H,v,t=>∃a vs,v=.ref a/\Ux K H a vs t.lb/\WX t.lb t.ks.length/\vs.length=t.ks.length/\∀(i:Nat) u k,vs[i]?=some u->t.ks[i]?=some k->At K n H u k
def XA(H H':Hp):Prop:=∀(K:W.Frag) b xs,SqT K H b xs->SqT K H' b xs
theorem Zf.tup{H H':Hp}(s:Zf H H'):XA H H':=fun K b xs e=>Zf.seqT s e
def rV:=@Zf.tup
theorem ZJ.tup{p:Addr}{H H':Hp}{xs:List V}(s:ZJ p H H')(hp:H p=some (.lst xs)):XA H H':=fun K b ys h=>by
 rcases h with(h|⟨o,h⟩)|h
 ·exact .inl (.inl (s _ _ (yq h hp (by intro z;cases z)) h))
 ·exact .inl (.inr ⟨o,s _ _ (yq h hp (by intro z;cases z)) h⟩)
 ·exact .inr h
theorem XA.trans{H H1 H2:Hp}(a:XA H H1)(b:XA H1 H2):XA H H2:=fun K c xs e=>b _ _ _ (a _ _ _ e)
variable{K:W.Frag}
theorem Ux.mono{H H':Hp}(s:XA H H'){a:Addr}{vs:List V}{c:Lb}(h:Ux K H a vs c):Ux K H' a vs c:=by
 cases c with
 |yes=>exact⟨h.1,s _ _ _ h.2⟩
 |sign z=>exact⟨h.1,s _ _ _ h.2⟩
 |op w=>exact s _ _ _ h
 |wit m=>exact s _ _ _ h
 |many w=>obtain⟨b,h1,h2⟩:=h;exact⟨b,s _ _ _ h1,s _ _ _ h2⟩
theorem At.mono{H H':Hp}(s:XA H H'):∀{n:Nat}{v:V}{t:Tr},At K n H v t->At K n H' v t
 |0,_,_,h=>h
 |n+1,v,t,⟨a,vs,e,sh,ok,l,q⟩=>⟨a,vs,e,sh.mono s,ok,l,fun i u k h1 h2=>At.mono s (q i u k h1 h2)⟩
theorem At.up{H:Hp}:∀{n:Nat}{v:V}{t:Tr},At K n H v t->At K (n+1) H v t
 |0,_,_,h=>h.elim
 |n+1,v,t,⟨a,vs,e,sh,ok,l,q⟩=>⟨a,vs,e,sh,ok,l,fun i u k h1 h2=>At.up (q i u k h1 h2)⟩
theorem At.le{H:Hp}{n m:Nat}{v:V}{t:Tr}(h:At K n H v t)(hm:n<=m):At K m H v t:=by
 induction hm with
 |refl=>exact h
 |step _ ih=>exact ih.up
def AtL(K:W.Frag)(n:Nat)(H:Hp)(vs:List V)(ts:List Tr):Prop:=vs.length=ts.length/\∀(i:Nat) u k,vs[i]?=some u->ts[i]?=some k->At K n H u k
theorem AtL.mono{n:Nat}{H H':Hp}{vs:List V}{ts:List Tr}(s:XA H H')(h:AtL K n H vs ts):AtL K n H' vs ts:=⟨h.1,fun i u k h1 h2=>(h.2 i u k h1 h2).mono s⟩
theorem AtL.le{n m:Nat}{H:Hp}{vs:List V}{ts:List Tr}(h:AtL K n H vs ts)(hm:n<=m):AtL K m H vs ts:=⟨h.1,fun i u k h1 h2=>(h.2 i u k h1 h2).le hm⟩
theorem AtL.nil{n:Nat}{H:Hp}:AtL K n H [] []:=⟨rfl,fun i u k h=>by simp at h⟩
theorem AtL.one{n:Nat}{H:Hp}{v:V}{t:Tr}(h:At K n H v t):AtL K n H [v] [t]:=⟨rfl,fun i u k h1 h2=>by
 cases i with
 |zero=>cases h1;cases h2;exact h
 |succ i=>simp at h1⟩
theorem AtL.app{n:Nat}{H:Hp}{vs us:List V}{ts rs:List Tr}(h:AtL K n H vs ts)(g:AtL K n H us rs):AtL K n H (vs++us) (ts++rs):=by
 refine⟨by rw[mT,mT,h.1,g.1],fun i u k h1 h2=>?_⟩
 by_cases hi:i<vs.length
 ·rw[oK hi] at h1;rw[oK (by rw[<- h.1];exact hi)] at h2;exact h.2 i u k h1 h2
 ·rw[pG (by omega)] at h1;rw[pG (by rw[<- h.1];omega),<- h.1] at h2;exact g.2 _ u k h1 h2
theorem AtL.rev{n:Nat}{H:Hp}{vs:List V}{ts:List Tr}(h:AtL K n H vs ts):AtL K n H vs.reverse ts.reverse:=by
 refine⟨by rw[pM,pM,h.1],fun i u k h1 h2=>?_⟩;have hi:=(nT.mp h1).1;rw[pM] at hi;rw[List.getElem?_reverse hi] at h1;rw[List.getElem?_reverse (by rw[<- h.1];exact hi),<- h.1] at h2;exact h.2 _ u k h1 h2
theorem AtL.last{n:Nat}{H:Hp}{vs:List V}{ts:List Tr}(h:AtL K n H vs ts)(hne:vs≠[]):∃us u rs r,vs=us++[u]/\ts=rs++[r]/\AtL K n H us rs/\At K n H u r:=by
 have hl:=List.length_pos_iff.mpr hne;have ht:ts≠[]:=fun e=>by rw[e] at h;have:=h.1;simp at this;exact hne this
 have e1:=rA hne;have e2:=rA ht;have hl1:vs.dropLast.length=ts.dropLast.length:=by rw[rK,rK,h.1]
 refine⟨vs.dropLast,vs.getLast hne,ts.dropLast,ts.getLast ht,e1.symm,e2.symm,⟨hl1,fun i u k h1 h2=>?_⟩,?_⟩
 ·have hi:=(nT.mp h1).1;refine h.2 i u k ?_ ?_
  ·rw[<- e1,oK hi];exact h1
  ·rw[<- e2,oK (by rw[<- hl1];exact hi)];exact h2
 ·refine h.2 (vs.length-1) _ _ ?_ ?_
  ·rw[List.getLast_eq_getElem];exact mO _
  ·rw[List.getLast_eq_getElem,h.1];exact mO _
mutual
def roomT:Tr->Bool
 |.node c ks=>match c with
  |.yes=>true
  |.sign _=>true
  |.op w=>if w = "all" \/ w = "some" then true else if w = "not" then xB ks else false
  |.wit _=>false
  |.many _=>xB ks
def xB:List Tr->Bool
 |[]=>true
 |t::r=>roomT t&&xB r
end
theorem roomL_all:∀ks:List Tr,xB ks=ks.all roomT
 |[]=>by rw[xB];rfl
 |t::r=>by rw[xB,roomL_all r,pb]
mutual
def post:Tr->List Tr
 |.node c ks=>Yq ks++[.node c ks]
def Yq:List Tr->List Tr
 |[]=>[]
 |t::r=>post t++Yq r
end
theorem vT(t:Tr):post t=Yq t.ks++[t]:=by cases t;rw[post];rfl
theorem WZ:∀(a b:List Tr),Yq (a++b)=Yq a++Yq b
 |[],b=>by rw[pI,Yq,pI]
 |t::r,b=>by rw[List.cons_append,Yq,WZ r b,Yq,oY]
theorem Y0(t:Tr):Yq [t]=post t:=by rw[Yq,Yq,oC]
theorem post_turn(ws:List Tr)(w:Tr):(Yq (ws++[w])).reverse=w::(Yq (ws++w.ks)).reverse:=by
 rw[WZ,WZ,Y0,vT w];simp
mutual
def WF{α:Type}(F:Lb->List α->α):Tr->α
 |.node c ks=>F c (valL F ks)
def valL{α:Type}(F:Lb->List α->α):List Tr->List α
 |[]=>[]
 |t::r=>WF F t::valL F r
end
theorem jS{α:Type}(F:Lb->List α->α):∀ks:List Tr,valL F ks=ks.map (WF F)
 |[]=>by rw[valL];rfl
 |t::r=>by rw[valL,jS F r];rfl
theorem vV{α:Type}(F:Lb->List α->α)(t:Tr):WF F t=F t.lb (t.ks.map (WF F)):=by
 cases t with
 |node c ks=>rw[WF,jS];rfl
section
variable{α:Type}{F:Lb->List α->α}
def Vj(F:Lb->List α->α)(st:List α)(t:Tr):List α:=st.take (st.length-t.ks.length)++[F t.lb (st.drop (st.length-t.ks.length))]
def U1(F:Lb->List α->α):List α->List Tr->Prop
 |_,[]=>True
 |st,t::r=>(t.ks.length<=st.length/\st.drop (st.length-t.ks.length)=t.ks.map (WF F))/\U1 F (Vj F st t) r
def zC(F:Lb->List α->α):List α->List Tr->List α
 |st,[]=>st
 |st,t::r=>zC F (Vj F st t) r
theorem stepF_app(st:List α)(t:Tr):Vj F (st++t.ks.map (WF F)) t=st++[WF F t]:=by
 unfold Vj;have e:(st++t.ks.map (WF F)).length-t.ks.length=st.length:=by rw[mT,mM];omega
 rw[e,List.take_left,List.drop_left,<- vV F t]
mutual
theorem jU:∀(t:Tr) (st:List α) (r:List Tr),(U1 F (st++[WF F t]) r->U1 F st (post t++r))/\zC F st (post t++r)=zC F (st++[WF F t]) r
 |.node c ks,st,r=>by
  obtain⟨h1,h2⟩:=xz ks st (.node c ks::r);have e':Vj F (st++ks.map (WF F)) (.node c ks)=st++[WF F (.node c ks)]:=stepF_app st (.node c ks);rw[post,oY,List.singleton_append];refine⟨fun h=>h1 ⟨⟨?_,?_⟩,?_⟩,?_⟩
  ·show ks.length<=_
   rw[mT,mM];omega
  ·show(st++ks.map (WF F)).drop ((st++ks.map (WF F)).length-ks.length)=ks.map (WF F)
   have e:(st++ks.map (WF F)).length-ks.length=st.length:=by rw[mT,mM];omega
   rw[e,List.drop_left]
  ·rw[e'];exact h
  ·rw[h2,zC,e']
theorem xz:∀(ks:List Tr) (st:List α) (r:List Tr),(U1 F (st++ks.map (WF F)) r->U1 F st (Yq ks++r))/\zC F st (Yq ks++r)=zC F (st++ks.map (WF F)) r
 |[],st,r=>by
  rw[Yq,pI,nO,oC];exact⟨id,rfl⟩
 |t::ks,st,r=>by
  obtain⟨h1,h2⟩:=jU t st (Yq ks++r);obtain⟨h3,h4⟩:=xz ks (st++[WF F t]) r;rw[Yq,oY,mV];have e:st++WF F t::ks.map (WF F)=st++[WF F t]++ks.map (WF F):=by simp
  rw[e];exact⟨fun h=>h1 (h3 h),by rw[h2,h4]⟩
end
theorem run_all(t:Tr):U1 F [] (post t)/\zC F [] (post t)=[WF F t]:=by
 obtain⟨h1,h2⟩:=jU (F:=F) t [] [];rw[oC] at h1 h2;exact⟨h1 trivial,h2⟩
end
mutual
theorem post_mem:∀(t:Tr),t∈post t
 |.node c ks=>by rw[post];simp
end
theorem YZ{p A B:Prop}[Decidable p](h:p)(a:A):if decide p=true then A else B:=by rw[if_pos (nG h)];exact a
theorem ZK{p A B:Prop}[Decidable p](h:¬p)(b:B):if decide p=true then A else B:=by rw[if_neg (by simpa using h)];exact b
theorem qD{p:Prop}[Decidable p]{Q:VK}{H:Hp}(h:p)(q:Q (.bl true) H):Q (.bl (decide p)) H:=by rw[nG h];exact q
theorem Uy{w:Str}{ss:List Str}{A B:Prop}(h:w∈ss)(a:A):if inV (.str w) (ss.map V.str)=true then A else B:=by rw[if_pos (vg.mpr h)];exact a
theorem X7{w:Str}{ss:List Str}{A B:Prop}(h:w∉ss)(b:B):if inV (.str w) (ss.map V.str)=true then A else B:=by rw[if_neg (fun e=>h (vg.mp e))];exact b
def LK:List (Str×Int):=[("all",2),("some",2),("not",2),("next",2),("always",2),("ever",2),("before",2),("once",2),("sofar",2),("until",3),("since",3)]
theorem jB:∀w∈W1++W2,w ≠ "yes" /\ w ≠ "sign" /\ w∉(["and", "or"]:List Str)/\w ≠ "within" /\ w∉(["yes", "sign"]:List Str):=by decide +kernel
theorem VC:∀w∈(["and", "or"]:List Str),w ≠ "yes" /\ w ≠ "sign" /\ w ≠ "within" /\ w∉(["yes", "sign"]:List Str)/\w∉(["yes", "sign", "all", "some"]:List Str)/\w∈(["not", "and", "or"]:List Str):=by decide +kernel
theorem lk1:∀w∈W1,(w,(2:Int))∈LK:=by decide +kernel
theorem lk2:∀w∈W2,(w,(3:Int))∈LK:=by decide +kernel
theorem W8{K:W.Frag}{H:Hp}(z:Str):∃t,Uq K H (.str z) t/\W.kitOne K t (.type "str")=some true:=⟨_,.str _,rfl⟩
theorem Ux.tup{H:Hp}{a:Addr}{vs:List V}{c:Lb}(h:Ux K H a vs c):∃xs,SqT K H a (.str (WR c)::xs):=by
 cases c with
 |yes=>exact⟨[],h.2⟩
 |sign s=>exact⟨[.str s],h.2⟩
 |op w=>exact⟨vs,h⟩
 |wit m=>exact⟨.int m::vs,h⟩
 |many w=>obtain⟨b,h1,_⟩:=h;exact⟨[.ref b],h1⟩
inductive rIsT_R(K:W.Frag)(xs:List V)(H:Hp)(Q:VK):Prop
 |mk (x:_) (h0:xs=[x,.ty "tuple"]) (h1:((∃a ys,x=.ref a/\SqT K H a ys/\Q (.bl true) H)\/∃t,Uq K H x t/\W.kitOne K t (.type "tuple")=some false/\Q (.bl false) H)):rIsT_R K xs H Q
def rIsT(K:W.Frag):List V->Hp->VK->Prop:=fun xs H Q=>rIsT_R K xs H Q
theorem j7{X:Cx}(hK:X.K=K):YB X (.builtin "isinstance") (rIsT K):=by
 subst hK;intro lC s σ H xs us Q I r h;obtain⟨x,rfl,h⟩:=h;obtain⟨u,v,rfl,ru,rv⟩:=vals2 r;obtain rfl:v=Value.type "tuple" := rv;rcases h with⟨a,ys,rfl,hq,q⟩|⟨t,ht,hk,q⟩
 ·obtain rfl:u=Value.ref a:=ru;obtain⟨its,r,⟨o,h1,h2,h3⟩,hz⟩:=I.tuple hq;exact ox (b:=true) W.kitx_tuple I.kIn ⟨o,h1,h2⟩ rfl (fun z=>nomatch z) fun tk=>⟨.bl true,H,I.tok _,rfl,q⟩
 ·exact xC I ru ht hk fun tk=>⟨.bl false,H,I.tok _,rfl,q⟩
abbrev U7:Tr:=.node .yes []
abbrev za(t:Tr):Tr:=.node (.op "not") [t]
abbrev nNext(t:Tr):Tr:=.node (.op "next") [t]
abbrev nSome(t:Tr):Tr:=.node (.op "some") [t]
abbrev nAnd(a b:Tr):Tr:=.node (.many "and") [a,b]
abbrev nUnt(a b:Tr):Tr:=.node (.op "until") [a,b]
abbrev nSin(a b:Tr):Tr:=.node (.op "since") [a,b]
def andT:List Tr->Tr
 |[]=>U7
 |[x]=>x
 |x::y::r=>nAnd x (andT (y::r))
def orT:List Tr->Tr
 |[]=>za U7
 |[x]=>x
 |x::y::r=>za (nAnd (za x) (za (orT (y::r))))
def withinT:Nat->Tr->Tr->Tr
 |0,_,s=>s
 |n+1,f,s=>za (nAnd (za s) (za (nAnd f (nNext (withinT n f s)))))
def coreF(c:Lb)(cs:List Tr):Tr:=match c with
 |.yes=>U7
 |.sign s=>.node (.sign s) []
 |.many w=>if w = "and" then andT cs else orT cs
 |.wit m=>withinT m.toNat (cs.getD 0 U7) (cs.getD 1 U7)
 |.op w=>if w = "all" then za (nSome (za (cs.getD 0 U7))) else if w = "ever" then nUnt U7 (cs.getD 0 U7) else if w = "always" then za (nUnt U7 (za (cs.getD 0 U7)))
  else if w = "once" then nSin U7 (cs.getD 0 U7) else if w = "sofar" then za (nSin U7 (za (cs.getD 0 U7))) else .node (.op w) cs
section
end
def W6:List Str:=["not", "next", "until", "before", "since", "some"]
def Bz:Nat->Nat
 |0=>1
 |n+1=>11*Bz n+35
theorem Xz(c:Lb)(ks:List Tr):(post (.node c ks)).length=(Yq ks).length+1:=by rw[post,mT];rfl
theorem at_yes{K:W.Frag}{n:Nat}{H:Hp}{t:Addr}(e:SqT K H t [.str "yes"]):At K (n+1) H (.ref t) (.node .yes []):=⟨t,[],rfl,⟨rfl,e⟩,rfl,rfl,fun i u k h=>by simp at h⟩
theorem vE{K:W.Frag}{n:Nat}{H:Hp}{t:Addr}{z:Str}(e:SqT K H t [.str "sign",.str z])(hz:Yh z=true):At K (n+1) H (.ref t) (.node (.sign z) []):=⟨t,[],rfl,⟨rfl,e⟩,⟨rfl,hz⟩,rfl,fun i u k h=>by simp at h⟩
theorem qS{K:W.Frag}{n:Nat}{H:Hp}{t:Addr}{w:Str}{u:V}{k:Tr}(e:SqT K H t [.str w,u])(hw:w∈W1)(h:At K n H u k):At K (n+1) H (.ref t) (.node (.op w) [k]):=⟨t,[u],rfl,e,.inl ⟨hw,rfl⟩,rfl,(AtL.one h).2⟩
theorem at_op2{K:W.Frag}{n:Nat}{H:Hp}{t:Addr}{w:Str}{u v:V}{k r:Tr}(e:SqT K H t [.str w,u,v])(hw:w∈W2)(h:At K n H u k)(g:At K n H v r):At K (n+1) H (.ref t) (.node (.op w) [k,r]):=⟨t,[u,v],rfl,e,.inr ⟨hw,rfl⟩,rfl,((AtL.one h).app (AtL.one g)).2⟩
theorem at_wit{K:W.Frag}{n:Nat}{H:Hp}{t:Addr}{m:Int}{u v:V}{k r:Tr}(e:SqT K H t [.str "within",.int m,u,v])(hm:0<=m/\m<=5)(h:At K n H u k)(g:At K n H v r):At K (n+1) H (.ref t) (.node (.wit m) [k,r]):=⟨t,[u,v],rfl,e,⟨hm,rfl⟩,rfl,((AtL.one h).app (AtL.one g)).2⟩
theorem at_mny{K:W.Frag}{n:Nat}{H:Hp}{t b:Addr}{w:Str}{us:List V}{ks:List Tr}(e:SqT K H t [.str w,.ref b])(eb:SqT K H b us)(h:AtL K n H us ks)(hw:w = "and" \/ w = "or")(hk:ks.length<=8):At K (n+1) H (.ref t) (.node (.many w) ks):=⟨t,us,rfl,⟨b,e,eb⟩,⟨hw,hk⟩,h.1,h.2⟩
abbrev NW:List Str:=["yes", "sign", "and", "or", "within"]
inductive Fm(K:W.Frag)(H:Hp):V->Prop
 |noT {v:V}:Kd H v->XY H "tuple" v=false->Fm K H v
 |emp {a:Addr}:SqT K H a []->Fm K H (.ref a)
 |noS {a:Addr}{x:V}{xs:List V}:SqT K H a (x::xs)->Kd H x->XY H "str" x=false->Fm K H (.ref a)
 |yes {a:Addr}{xs:List V}:SqT K H a (.str "yes" :: xs)->xs.length≠0->Fm K H (.ref a)
 |sgnL {a:Addr}{xs:List V}:SqT K H a (.str "sign" :: xs)->xs.length≠1->Fm K H (.ref a)
 |sgn {a:Addr}{x:V}:SqT K H a [.str "sign",x]->Kd H x->XO x=false->Fm K H (.ref a)
 |manyL {a:Addr}{w:Str}{xs:List V}:w∈(["and", "or"]:List Str)->SqT K H a (.str w::xs)->xs.length≠1->Fm K H (.ref a)
 |manyN {a:Addr}{w:Str}{x:V}:w∈(["and", "or"]:List Str)->SqT K H a [.str w,x]->Kd H x->XY H "tuple" x=false->Fm K H (.ref a)
 |witL {a:Addr}{xs:List V}:SqT K H a (.str "within" :: xs)->xs.length≠3->Fm K H (.ref a)
 |witN {a:Addr}{x y z:V}:SqT K H a [.str "within",x,y,z]->Kd H x->jh x=false->Fm K H (.ref a)
 |witM {a:Addr}{m:Int}{y z:V}:SqT K H a [.str "within",.int m,y,z]->¬(0<=m/\m<=5)->Fm K H (.ref a)
 |word {a:Addr}{w:Str}{xs:List V}:SqT K H a (.str w::xs)->w∈(["signs", "Next"]:List Str)->Fm K H (.ref a)
 |lens {a:Addr}{w:Str}{i:Int}{xs:List V}:SqT K H a (.str w::xs)->w∉NW->(w,i)∈LK->((xs.length+1:Nat):Int)≠i->Fm K H (.ref a)
inductive Bt where
 |lf
 |nd (c:Lb) (ks:List Bt)
mutual
def bsz:Bt->Nat
 |.lf=>1
 |.nd _ ks=>bszL ks+1
def bszL:List Bt->Nat
 |[]=>0
 |b::r=>bsz b+bszL r
end
def lbOkB:Lb->Nat->Prop
 |.yes,n=>WX .yes n
 |.sign s,n=>WX (.sign s) n
 |.op w,n=>WX (.op w) n
 |.wit m,n=>WX (.wit m) n
 |.many w,n=>(w = "and" \/ w = "or")/\n<=1000
theorem WX.b{c:Lb}{n:Nat}(h:WX c n):lbOkB c n:=by
 cases c with
 |many w=>exact⟨h.1,nQ h.2 (by decide)⟩
 |yes=>exact h
 |sign s=>exact h
 |op w=>exact h
 |wit m=>exact h
def FmT(K:W.Frag)(H:Hp)(v:V):Prop:=∃a us c,v=.ref a/\Ux K H a us c/\lbOkB c us.length
theorem At.fmT{K:W.Frag}{H:Hp}{n:Nat}{v:V}{t:Tr}(h:At K n H v t):FmT K H v:=by
 cases n with
 |zero=>exact h.elim
 |succ n=>
  obtain⟨a,vs,e,sh,ok,l,_⟩:=h;exact⟨a,vs,t.lb,e,sh,by rw[l];exact ok.b⟩
inductive rInD2_R(K:W.Frag)(P:Params)(x:V)(y:V)(H:Hp)(Q:VK):Prop
 |mk (z:_) (D:_) (kvs:_) (b:_) (h0:x=.str z) (h1:y=.ref D) (h2:DicK K P D kvs) (h3:((b=true/\∃i,(z,i)∈kvs)\/(b=false/\W.nsIn K D z=some none))) (h4:Q (.bl b) H):rInD2_R K P x y H Q
def rInD2(K:W.Frag)(P:Params):R2:=fun x y H Q=>rInD2_R K P x y H Q
theorem op_inD2{X:Cx}{K:W.Frag}{P:Params}(hK:X.K=K)(hw:X.w.params=P):OpR X (compareOp .In) (rInD2 K P):=by
 subst hK hw;intro lC s σ H x y v u Q I rx ry h;obtain⟨z,D,kvs,b,rfl,rfl,d,hb,q⟩:=h;obtain⟨t,rfl⟩:=(show ∃t,v=Value.str z t from rx);obtain rfl:u=Value.ref D:=ry;obtain⟨m,F⟩:=I.fr;obtain⟨es,n,lk,hk⟩:=d.ex;rcases hb with⟨rfl,i,hm⟩|⟨rfl,ea⟩
 ·obtain⟨t2,ea⟩:=d.at_ _ hm;exact W.topIn_K F I.mod.kin lk hk ea d.lo ⟨.bl true,H,I.tok _,rfl,q⟩
 ·exact W.topIn_K F I.mod.kin lk hk ea d.lo ⟨.bl false,H,I.tok _,rfl,q⟩
theorem qN{p:Prop}[Decidable p]{Q:VK}{H:Hp}(h:¬p)(q:Q (.bl false) H):Q (.bl (decide p)) H:=by rw[nH h];exact q
end L3
namespace L3
open PySem PySem.Spec PyProof.Rows L2
variable{K:W.Frag}{Pm:Params}
section
variable{X:Cx}
def rSumI(K:W.Frag):List V->Hp->VK->Prop:=fun vs H Q=>∃(a:Addr) (ns:List Int),vs=[.ref a]/\SqL K H a (ns.map V.int)/\Q (.int ns.sum) H
theorem call_sumI(hK:X.K=K)(hc:X.calm=true):YB X (.builtin "sum") (rSumI K):=by
 subst hK;intro lC s σ H xs us Q I r h;obtain⟨a,ns,rfl,hq,q⟩:=h;obtain⟨u,rfl,ru⟩:=WM r;obtain rfl:u=Value.ref a:=ru;obtain⟨its,rits,pl,hz⟩:=I.list hq;have ia:IntsAre its ns:=UG rits;obtain⟨ys,ey⟩:=(IntsAre.allInts ia).items;have en:ys.toList.map (·.1)=ns:=by
  rw[<- nums_intItems,<- ey];exact IntsAre.numsOf ia
 have il:=pl.isList;rw[ey] at il;refine sum_intListG (I.ok.hd hc) il fun h' tk t' hk=>?_;have e2:preSum (numAt ys) ys.size=ns.sum:=by rw[preSum_eq,ri (by simp),en]
 rw[e2];exact⟨.int ns.sum,H,I.kept (t':=tk) hk,⟨t',rfl⟩,q⟩
end
def RL{α:Type}(g:α->List V)(H:Hp)(v:V)(x:α):Prop:=∃b,v=.ref b/\H b=some (.lst (g x))
theorem RL.ls{α:Type}{f:α->List Str}{H:Hp}{z:List (V×α)}{a:Addr}{l:List α}(h:H a=some (.lst (z.map Prod.fst)))(e:z.map Prod.snd=l)(q:ZL (RL fun x=>(f x).map V.str) H z):LL LS H (.ref a) (l.map f):=by
 have h2:z.map Prod.fst=(z.map fun x=>(x.1,f x.2)).map Prod.fst:=by rw[mZ];rfl
 rw[h2] at h;have:=ZL.ll (r:=LS) h fun x hx=>by
  obtain⟨y,hy,rfl⟩:=mW.mp hx;exact q y hy
 rw[mZ] at this;rw[<- e,mZ];exact this
theorem RL.li{α:Type}{f:α->List Int}{H:Hp}{z:List (V×α)}{a:Addr}{l:List α}(h:H a=some (.lst (z.map Prod.fst)))(e:z.map Prod.snd=l)(q:ZL (RL fun x=>(f x).map V.int) H z):LL LI H (.ref a) (l.map f):=by
 have h2:z.map Prod.fst=(z.map fun x=>(x.1,f x.2)).map Prod.fst:=by rw[mZ];rfl
 rw[h2] at h;have:=ZL.ll (r:=LI) h fun x hx=>by
  obtain⟨y,hy,rfl⟩:=mW.mp hx;exact q y hy
 rw[mZ] at this;rw[<- e,mZ];exact this
theorem ki{α:Type}{J:It}{D:Addr}{te:TE}{τ:St}{H0:Hp}{Q:VK}(l:List α)(φ:α->V)(g:α->List V)(hD:H0 D=none)(hz:l.length<=sizeLine)
  (hgo:∀i H,i<l.length->Zf H0 H->J.go i H) (hst:∀H,Zf H0 H->J.stop l.length H) (hy:∀i x H H2 (h:i<l.length),Zf H0 H->J.yld i H x H2->H2=H/\x=φ l[i])
  (step:∀x∈l,∀H (N:V->Hp->Prop),Zf H0 H->(∀b H4,Zf H H4->H b=none->H4 b=some (.lst (g x))->N (.ref b) H4)->te (some (φ x)::τ) H N)
  (fin:∀H' z,H' D=some (.lst (z.map Prod.fst))->Zf H0 H'->z.map Prod.snd=l->ZL (RL g) (New H0 H') z->Q (.ref D) H'):WS J D (Xt 0) Vh te (none::τ) H0 Q:=by
 refine Xy (n:=l.length) (fun i σ H=>∃y z,σ=y::τ/\H D=some (.lst (z.map Prod.fst))/\Zf H0 H/\z.map Prod.snd=l.take i/\ZL (RL g) (hide D (New H0 H)) z) ?_ ?_ ?_ ?_ ?_
 ·exact⟨none,[],rfl,Ze,Zj hD,rfl,ZL.nil⟩
 ·rintro i σ H hi ⟨y,z,rfl,_,s,_⟩;exact hgo i H hi s
 ·rintro σ H ⟨y,z,rfl,_,s,_⟩;exact hst H s
 ·rintro i x σ H H2 hi ⟨y,z,rfl,hd,s,ez,qz⟩ hyl N N0 hN hN0;obtain⟨rfl,rfl⟩:=hy i x H H2 hi s hyl;have lz:z.length<=i:=by
   have:=ni List.length ez;rw[mM,nW] at this;omega
  refine VX (N:=fun v H5=>N v (some (φ l[i])::τ) H5) (N0:=fun H4=>N0 (some (φ l[i])::τ) H4) (step _ (nk hi) H2 _ s fun b H4 s4 hb hb4=>?_);have nb:b≠D:=fun e=>by rw[e,hd] at hb;cases hb
  refine hN _ _ H4 _ (s4 _ _ hd) (by rw[mM];omega) ⟨_,z++[(.ref b,l[i])],rfl,?_,(ZJ.upd (Zf.x (s.trans s4))).same hD,?_,ZL.app (fun x hx=>?_) (ZL.one ⟨b,rfl,Y9 nb (New.mk (s.free hb) (by rw[Zy nb];exact hb4))⟩)⟩
  ·rw[Ze,nP];rfl
  ·rw[nP,ez,rn hi];rfl
  ·obtain⟨c,ec,gc⟩:=qz x hx;obtain⟨nc,gc⟩:=WY gc;obtain⟨g1,g2⟩:=New.of gc;exact⟨c,ec,Y9 nc (New.mk g1 (by rw[Zy nc];exact s4 _ _ g2))⟩
 ·rintro σ H ⟨y,z,rfl,hd,s,ez,qz⟩;rw[oy] at ez;exact fin H z hd s ez fun x hx=>let ⟨c,ec,gc⟩:=qz x hx; ⟨c,ec,Xi _ _ gc⟩
theorem Ui{α:Type}{K:W.Frag}{a D:Addr}{te:TE}{τ:St}{H0:Hp}{Q:VK}(l:List α)(φ:α->V)(g:α->List V)(hD:H0 D=none)(hq:SqL K H0 a (l.map φ))(hz:l.length<=sizeLine)
  (step:∀x∈l,∀H (N:V->Hp->Prop),Zf H0 H->(∀b H4,Zf H H4->H b=none->H4 b=some (.lst (g x))->N (.ref b) H4)->te (some (φ x)::τ) H N)
  (fin:∀H' z,H' D=some (.lst (z.map Prod.fst))->Zf H0 H'->z.map Prod.snd=l->ZL (RL g) (New H0 H') z->Q (.ref D) H'):WS (Itl K a) D (Xt 0) Vh te (none::τ) H0 Q:=by
 refine ki l φ g hD hz (fun i H hi s=>⟨_,φ l[i],s.seq hq,by rw[mU,mO hi];rfl⟩) (fun H s=>⟨_,s.seq hq,by rw[mM];exact mP _⟩) (fun i x H H2 hi s hyl=>?_) step fin;obtain⟨rfl,hx⟩:=hyl;have e:=hx _ (s.seq hq);rw[mU,mO hi] at e;exact⟨rfl,(nv e).symm⟩
theorem comp_newR{n:Nat}{D:Addr}{te:TE}{τ:St}{H0:Hp}{Q:VK}(g:Nat->List V)(hD:H0 D=none)(hz:n<=sizeLine)
  (step:∀k,k<n->∀H (N:V->Hp->Prop),Zf H0 H->(∀b H4,Zf H H4->H b=none->H4 b=some (.lst (g k))->N (.ref b) H4)->te (some (.int (k:Nat))::τ) H N)
  (fin:∀H' z,H' D=some (.lst (z.map Prod.fst))->Zf H0 H'->z.map Prod.snd=List.range n->ZL (RL g) (New H0 H') z->Q (.ref D) H'):WS (Itr 0 n) D (Xt 0) Vh te (none::τ) H0 Q:=by
 refine ki (List.range n) (fun k=>.int (k:Nat)) g hD (by rw[m9];exact hz) (fun i H hi _=>by rw[m9] at hi;exact hi) (fun H _=>by rw[m9];exact mP _) (fun i x H H2 hi s hyl=>?_) (fun x hx=>step x (mX.mp hx)) fin;obtain⟨rfl,rfl⟩:=hyl;refine⟨rfl,?_⟩;rw[pB,ou]
theorem jP{α:Type}{l ss:List α}{i:Nat}(hi:i<l.length)(h:ss.Sublist (l.take i)):ss.Sublist (l.take (i+1))/\(ss++[l[i]]).Sublist (l.take (i+1)):=by
 rw[rn hi];exact⟨h.trans (List.sublist_append_left _ _),List.Sublist.append h (List.Sublist.refl _)⟩
theorem qG{α:Type}{n:Nat}{D:Addr}{tt:TT}{te:TE}{τ:St}{H0:Hp}{Q:VK}(l:List α)(f:α->V)(hn:l.length=n)(hD:H0 D=none)(hz:n<=1000000)
  (step:∀(k:Nat) (hk:k<l.length) H (N:V->Hp->Prop) (N0:Hp->Prop),Zf H0 H->(∀H4,Zf H H4->N (f l[k]) H4)->(∀H4,Zf H H4->N0 H4)->tt (some (.int (k:Nat))::τ) H fun c H4=>if c=true then te (some (.int (k:Nat))::τ) H4 N else N0 H4)
  (fin:∀H' (ss:List α),H' D=some (.lst (ss.map f))->Zf H0 H'->ss.Sublist l->Q (.ref D) H'):WS (Itr 0 n) D (Xt 0) tt te (none::τ) H0 Q:=by
 subst hn;refine Xy (n:=l.length) (fun i σ H=>∃(z:Option V) (ss:List α),σ=z::τ/\H D=some (.lst (ss.map f))/\Zf H0 H/\ss.Sublist (l.take i)) ?_ (fun _ _ _ h _=>h) (fun _ _ _=>mP _) ?_ ?_
 ·exact⟨none,[],rfl,Ze,Zj hD,List.nil_sublist _⟩
 ·rintro i x σ H H2 hi ⟨z,ss,rfl,hd,s,sb⟩ ⟨rfl,rfl⟩ N N0 hN hN0;obtain⟨g1,g2⟩:=jP hi sb;have le:(ss.map f).length<sizeLine:=by
   have:=sb.length_le;rw[nW] at this;rw[mM,mN];omega
  have ei:(0:Int)+(i:Nat)=((i:Nat):Int):=ou _;rw[ei];refine step i hi H2 (fun v H5=>N v (some (.int (i:Nat))::τ) H5) (fun H4=>N0 (some (.int (i:Nat))::τ) H4) s (fun H4 s4=>?_) (fun H4 s4=>?_)
  ·refine hN _ _ H4 _ (s4 _ _ hd) le ⟨_,ss++[l[i]],rfl,?_,(ZJ.upd (Zf.x (s.trans s4))).same hD,g2⟩;rw[Ze,nP];rfl
  ·exact hN0 _ H4 ⟨_,ss,rfl,s4 _ _ hd,s.trans s4,g1⟩
 ·rintro σ H ⟨z,ss,rfl,hd,s,sb⟩;rw[oy] at sb;exact fin H ss hd s sb
theorem comp_subE{α:Type}{K:W.Frag}{a D:Addr}{tt:TT}{te:TE}{τ:St}{H0:Hp}{Q:VK}(l:List α)(f:α->V)(hD:H0 D=none)(hq:H0 a=some (.lst (l.map f)))(hz:l.length<=1000000)
  (step:∀(k:Nat) (hk:k<l.length) H (N:V->Hp->Prop) (N0:Hp->Prop),Zf H0 H->(∀H4,Zf H H4->N (f l[k]) H4)->(∀H4,Zf H H4->N0 H4)->tt (some (.int (k:Nat))::some (f l[k])::τ) H fun c H4=>if c=true then te (some (.int (k:Nat))::some (f l[k])::τ) H4 N else N0 H4)
  (fin:∀H' (ss:List α),H' D=some (.lst (ss.map f))->Zf H0 H'->ss.Sublist l->Q (.ref D) H'):WS (Ite K a) D (gTup K 2 (gCons (Xt 0) (gCons (Xt 1) gNil))) tt te (none::none::τ) H0 Q:=by
 refine Xy (n:=l.length) (fun i σ H=>∃(z z':Option V) (ss:List α),σ=z::z'::τ/\H D=some (.lst (ss.map f))/\Zf H0 H/\ss.Sublist (l.take i)) ?_ ?_ ?_ ?_ ?_
 ·exact⟨none,none,[],rfl,Ze,Zj hD,List.nil_sublist _⟩
 ·rintro i σ H hi ⟨z,z',ss,rfl,hd,s,sb⟩;exact⟨_,_,rS (s _ _ hq),mO (by rw[mM];exact hi)⟩
 ·rintro σ H ⟨z,z',ss,rfl,hd,s,sb⟩;exact⟨_,rS (s _ _ hq),by rw[mM];exact mP _⟩
 ·rintro i x σ H H2 hi ⟨z,z',ss,rfl,hd,s,sb⟩ ⟨p,v,rfl,hp,rfl,hv⟩ N N0 hN hN0;obtain⟨g1,g2⟩:=jP hi sb;have le:(ss.map f).length<sizeLine:=by
   have:=sb.length_le;rw[nW] at this;rw[mM,mN];omega
  have ev:=hv _ (rS (s _ _ hq));rw[mU,mO hi] at ev;have ev':v=f l[i]:=(nv ev).symm;subst ev';have sp:=Zj (o:=.tup [.int (i:Nat),f l[i]]) hp;have s2:=s.trans sp;refine⟨p,_,rfl,rT Ze,rfl,_,_,rfl,_,_,rfl,rfl,?_⟩;refine step i hi _ (fun v H5=>N v (some (.int (i:Nat))::some (f l[i])::τ) H5) (fun H4=>N0 (some (.int (i:Nat))::some (f l[i])::τ) H4) s2 (fun H4 s4=>?_) (fun H4 s4=>?_)
  ·refine hN _ _ H4 _ (s4 _ _ (sp _ _ hd)) le ⟨_,_,ss++[l[i]],rfl,?_,(ZJ.upd (Zf.x (s2.trans s4))).same hD,g2⟩;rw[Ze,nP];rfl
  ·exact hN0 _ H4 ⟨_,_,ss,rfl,s4 _ _ (sp _ _ hd),s2.trans s4,g1⟩
 ·rintro σ H ⟨z,z',ss,rfl,hd,s,sb⟩;rw[oy] at sb;exact fin H ss hd s sb
theorem xY{l:List Int}(h:∀x∈l,0<x/\x<=1000){i:Nat}(hi:i<l.length):∃j:Int,atI (l.map V.int) (i:Int)=some (.int j)/\0<j/\j<=1000:=
 ⟨l[i],Zt (by rw[mU,mO hi];rfl),h _ (nk hi)⟩
def zE(n:Nat):List Int:=(List.range n).map fun k:Nat=>(k:Int)
theorem WO(n:Nat):(zE n).length=n:=by unfold zE;rw[mM,m9]
theorem toRm_at{n k:Nat}(h:k<(zE n).length):(zE n)[k]=(k:Int):=by
 have e:(zE n)[k]?=some (k:Int):=by
  rw[WO] at h;unfold zE;rw[mU,pe h];rfl
 rw[mO h] at e;exact nv e
theorem vQ(n:Nat):(zE n).Nodup:=Ul (fun a b h=>by omega) pR
theorem toRm_b{n:Nat}{x:Int}(h:x∈zE n):0<=x/\x<(n:Nat):=by
 obtain⟨k,hk,rfl⟩:=mW.mp h;have:=mX.mp hk;exact⟨by omega,by omega⟩
end L3
namespace L3
open PySem
def mk(S:Nat->Bool):Nat->Nat
 |0=>0
 |n+1=>mk S n+(if S n=true then 2 ^ n else 0)
theorem mk_lt(S:Nat->Bool):∀n,mk S n<2 ^ n
 |0=>Nat.one_pos
 |n+1=>by
  have:=mk_lt S n;rw[mk,pT]
  split<;>omega
theorem VQ(S:Nat->Bool):∀n r,(mk S n).testBit r=(decide (r<n)&&S r)
 |0,r=>by simp[mk]
 |n+1,r=>by
  have ih:=VQ S n r;have lt:=mk_lt S n;rw[mk]
  by_cases h:S n=true
  ·rw[if_pos h,Nat.add_comm]
   by_cases hr:r=n
   ·subst hr;rw[Nat.testBit_two_pow_add_eq,rP lt,h];simp
   ·rcases Nat.lt_or_gt_of_ne hr with hl|hg
    ·rw[Nat.testBit_two_pow_add_gt hl,ih];simp[hl,Nat.lt_succ_of_lt hl]
    ·rw[rP (nJ (show 2 ^ n+mk S n<2 ^ (n+1) by rw[pT];omega) (Nat.pow_le_pow_right (by decide) hg))];have:¬r<n+1:=by omega
     simp[this]
  ·rw[if_neg h,Nat.add_zero,ih]
   by_cases hr:r=n
   ·subst hr;simp[h]
   ·have:(r<n)↔(r<n+1):=by omega
    simp[this]
theorem V8{S T:Nat->Bool}:∀{n},(∀r<n,S r=T r)->mk S n=mk T n
 |0,_=>rfl
 |n+1,h=>by rw[mk,mk,V8 fun r hr=>h r (by omega),h n (by omega)]
theorem mk_inj{S T:Nat->Bool}{n:Nat}(h:mk S n=mk T n):∀r<n,S r=T r:=fun r hr=>by
 have:=ni (fun x=>x.testBit r) h;simpa[VQ,hr] using this
theorem eq_mk{x n:Nat}{S:Nat->Bool}(hb:∀r,x.testBit r=(decide (r<n)&&S r)):x=mk S n:=Nat.eq_of_testBit_eq fun r=>by rw[hb,VQ]
theorem and_nat(a b:Nat):Builtin.bitAnd (a:Int) (b:Int)=((a &&& b:Nat):Int):=by
 unfold Builtin.bitAnd;simp
theorem vF(a:Nat):¬(0:Int)<=Builtin.bitNot (a:Int):=by unfold Builtin.bitNot;omega
theorem UN(a:Nat):(Builtin.bitNot (Builtin.bitNot (a:Int))).toNat=a:=by unfold Builtin.bitNot;omega
theorem or_nat(a b:Nat):Builtin.bitOr (a:Int) (b:Int)=((a ||| b:Nat):Int):=by
 unfold Builtin.bitOr Builtin.bitAnd;rw[nH (vF a),nH (vF b)]
 show Builtin.bitNot (Builtin.bitNot (((Builtin.bitNot (Builtin.bitNot (a:Int))).toNat ||| (Builtin.bitNot (Builtin.bitNot (b:Int))).toNat:Nat):Int))=_
 rw[UN,UN];unfold Builtin.bitNot;omega
theorem mk_and(S T:Nat->Bool)(n:Nat):mk S n &&& mk T n=mk (fun r=>S r&&T r) n:=eq_mk fun r=>by
 rw[Nat.testBit_and,VQ,VQ];cases decide (r<n)<;>cases S r<;>cases T r<;>rfl
theorem mk_or(S T:Nat->Bool)(n:Nat):mk S n ||| mk T n=mk (fun r=>S r||T r) n:=eq_mk fun r=>by
 rw[Nat.testBit_or,VQ,VQ];cases decide (r<n)<;>cases S r<;>cases T r<;>rfl
theorem zQ(S T:Nat->Bool):∀n,mk S n=mk (fun r=>S r&&T r) n+mk (fun r=>S r&&!T r) n
 |0=>rfl
 |n+1=>by
  rw[mk,mk,mk,zQ S T n];cases S n<;>cases T n<;>simp<;>omega
def mI(S:Nat->Bool)(n:Nat):Int:=((mk S n:Nat):Int)
theorem X9(S T:Nat->Bool)(n:Nat):Builtin.bitAnd (mI S n) (mI T n)=mI (fun r=>S r&&T r) n:=by
 unfold mI;rw[and_nat,mk_and]
theorem xP(S T:Nat->Bool)(n:Nat):Builtin.bitOr (mI S n) (mI T n)=mI (fun r=>S r||T r) n:=by
 unfold mI;rw[or_nat,mk_or]
theorem Um(S T:Nat->Bool)(n:Nat):Builtin.bitAnd (mI S n) (Builtin.bitNot (mI T n))=mI (fun r=>S r&&!T r) n:=by
 unfold mI Builtin.bitAnd;rw[nG (show(0:Int)<=((mk S n:Nat):Int) by omega),nH (vF _)]
 show((mk S n:Nat):Int)-(((mk S n:Nat):Int).toNat &&& (Builtin.bitNot (Builtin.bitNot ((mk T n:Nat):Int))).toNat:Nat)=_
 rw[UN,mY,mk_and];have:=zQ S T n;omega
theorem W0(S:Nat->Bool)(n:Nat):Builtin.bitXor (mI (fun _=>true) n) (mI S n)=mI (fun r=>!S r) n:=by
 have h:=zQ (fun _=>true) S n;rw[PyProof.Rows.bitXor_and,X9];unfold mI;have e1:mk (fun r=>true&&S r) n=mk S n:=V8 fun r _=>by simp
 have e2:mk (fun r=>true&&!S r) n=mk (fun r=>!S r) n:=V8 fun r _=>by simp
 rw[e1,e2] at h;rw[e1];omega
theorem WW{S:Nat->Bool}{n:Nat}:mI S n=0↔∀r<n,S r=false:=by
 have z:mk (fun _=>false) n=0:=by
  induction n with
  |zero=>rfl
  |succ n ih=>rw[mk,ih];rfl
 constructor
 ·intro h r hr;exact mk_inj (T:=fun _=>false) (n:=n) (by unfold mI at h;omega) r hr
 ·intro h;unfold mI;rw[V8 (T:=fun _=>false) h,z];rfl
theorem V6{S T:Nat->Bool}{n:Nat}:mI S n=mI T n↔∀r<n,S r=T r:=by
 constructor
 ·intro h;exact mk_inj (by unfold mI at h;omega)
 ·intro h;unfold mI;rw[V8 h]
theorem mk_one(S:Nat->Bool){k:Nat}(hk:S k=false):∀n,k<n->mk (fun r=>S r||r==k) n=mk S n+2 ^ k
 |0,h=>absurd h (o4 _)
 |n+1,h=>by
  rw[mk,mk]
  by_cases e:k=n
  ·subst e;have:mk (fun r=>S r||r==k) k=mk S k:=V8 fun r hr=>by
    have:(r==k)=false:=by simp;omega
    simp[this]
   rw[this,hk];simp
  ·have hn:(n==k)=false:=by simp;omega
   rw[mk_one S hk n (by omega),hn,Bool.or_false];omega
theorem sum_mk{n:Nat}:∀{l:List Nat},l.Nodup->(∀r∈l,r<n)->(l.map fun r=>2 ^ r).sum=mk (fun r=>decide (r∈l)) n
 |[],_,_=>by
  have:=(WW (S:=fun _=>false) (n:=n)).mpr fun _ _=>rfl;unfold mI at this;simp;omega
 |k::l,nd,h=>by
  rw[oX] at nd;rw[mV,List.sum_cons,sum_mk nd.2 fun r hr=>h r (oe _ hr)];have:=mk_one (fun r=>decide (r∈l)) (k:=k) (nH nd.1) n (h k (by simp));rw[Nat.add_comm,<- this];exact V8 fun r _=>by
   rw[n6];simp[or_comm]
end L3
namespace L3
section
variable{E:Nat->Nat->Prop}
inductive Cm(E:Nat->Nat->Prop)(A G:Nat->Prop):Nat->Prop
 |here {r:Nat}:G r->Cm E A G r
 |on {r q:Nat}:A r->E r q->Cm E A G q->Cm E A G r
theorem Cm.mono{A A' G G':Nat->Prop}(a:∀r,A r->A' r)(g:∀r,G r->G' r){r:Nat}(h:Cm E A G r):Cm E A' G' r:=by
 induction h with
 |here h=>exact .here (g _ h)
 |on h1 h2 _ ih=>exact .on (a _ h1) h2 ih
inductive Rt(E:Nat->Nat->Prop)(I:Nat->Prop)(a:Nat):Nat->Prop
 |here:Rt E I a a
 |on {b c:Nat}:Rt E I a b->E b c->I c->Rt E I a c
theorem Rt.trans{I:Nat->Prop}{a b c:Nat}(h:Rt E I a b)(k:Rt E I b c):Rt E I a c:=by
 induction k with
 |here=>exact h
 |on _ e i ih=>exact .on ih e i
theorem Rt.inI{I:Nat->Prop}{a b:Nat}(h:Rt E I a b)(i:I a):I b:=by
 cases h with
 |here=>exact i
 |on _ _ i=>exact i
theorem Cm.rt{I G:Nat->Prop}(gi:∀r,G r->I r){q:Nat}(h:Cm E I G q):I q/\∃y,G y/\Rt E I q y:=by
 induction h with
 |here h=>exact⟨gi _ h,_,h,.here⟩
 |on h1 h2 _ ih=>
  obtain⟨i,y,hy,r⟩:=ih;exact⟨h1,y,hy,Rt.trans (.on .here h2 i) r⟩
theorem Rt.cm{I G:Nat->Prop}{a b:Nat}(h:Rt E I a b)(i:I a)(k:Cm E I G b):Cm E I G a:=by
 induction h with
 |here=>exact k
 |on h e _ ih=>exact ih (.on (h.inI i) e k)
structure Stay(E:Nat->Nat->Prop)(I:Nat->Prop)(gs:List (Nat->Prop))(Z:Nat->Prop):Prop where
 sub:∀r,Z r->I r
 go:∀g∈gs,∀r,Z r->∃q,E r q/\Cm E I (fun y=>Z y/\g y) q
structure Ring(E:Nat->Nat->Prop)(I:Nat->Prop)(gs:List (Nat->Prop))(x:Nat):Prop where
 i:I x
 goes:∃q,E x q/\I q/\Rt E I q x
 has:∀g∈gs,∃y,Rt E I x y/\Rt E I y x/\g y
theorem ring_stay{I:Nat->Prop}{gs:List (Nat->Prop)}{x:Nat}(h:Ring E I gs x):Stay E I gs fun z=>I z/\Rt E I z x:=by
 refine⟨fun r h=>h.1,fun g hg r ⟨ir,hr⟩=>?_⟩;obtain⟨y,xy,yx,gy⟩:=h.has g hg;have iy:=xy.inI h.i;have end_:Cm E I (fun y=>(I y/\Rt E I y x)/\g y) x:=xy.cm h.i (.here ⟨⟨iy,yx⟩,gy⟩);have first:∀{a b:Nat},Rt E I a b->a=b\/∃q,E a q/\I q/\Rt E I q b:=fun {a b} k=>by
  induction k with
  |here=>exact .inl rfl
  |on k e i ih=>
   rcases ih with rfl|⟨q,e1,i1,r1⟩
   ·exact .inr ⟨_,e,i,.here⟩
   ·exact .inr ⟨q,e1,i1,.on r1 e i⟩
 rcases first hr with rfl|⟨q,e,iq,k⟩
 ·obtain⟨q,e,iq,k⟩:=h.goes;exact⟨q,e,k.cm iq end_⟩
 ·exact⟨q,e,k.cm iq end_⟩
theorem stay_ring{I Z:Nat->Prop}{gs:List (Nat->Prop)}{n:Nat}(hn:∀r,I r->r<n)(ne:gs≠[])(h:Stay E I gs Z){r:Nat}(hr:Z r):∃x,Rt E I r x/\Ring E I gs x:=by
 classical
 have key:∀(m:Nat) (x:Nat),Z x->((List.range n).filter fun y=>decide (Z y/\Rt E I x y)).length<=m->∃x',Rt E I x x'/\Z x'/\∀y,Z y->Rt E I x' y->Rt E I y x':=by
  intro m
  induction m with
  |zero=>
   intro x zx hx;have:x∈(List.range n).filter fun y=>decide (Z y/\Rt E I x y):=n5.mpr ⟨mX.mpr (hn _ (h.sub _ zx)),nG ⟨zx,.here⟩⟩;have:=rN this;omega
  |succ m ih=>
   intro x zx hx
   by_cases hb:∀y,Z y->Rt E I x y->Rt E I y x
   ·exact⟨x,.here,zx,hb⟩
   ·have⟨y,hy⟩:=Classical.not_forall.mp hb;have⟨zy,hy2⟩:=Classical.not_imp.mp hy;have⟨xy,nyx⟩:=Classical.not_imp.mp hy2;have lt:((List.range n).filter fun z=>decide (Z z/\Rt E I y z)).length<((List.range n).filter fun z=>decide (Z z/\Rt E I x z)).length:=by
     have sub:∀z,decide (Z z/\Rt E I y z)=true->decide (Z z/\Rt E I x z)=true:=fun z hz=>nG ⟨(ny hz).1,xy.trans (ny hz).2⟩;have xin:x∈List.range n:=mX.mpr (hn _ (h.sub _ zx));have hx1:decide (Z x/\Rt E I x x)=true:=nG ⟨zx,.here⟩;have hx0:¬decide (Z x/\Rt E I y x)=true:=fun z=>nyx (ny z).2;generalize List.range n=l at xin
     induction l with
     |nil=>cases xin
     |cons a l il=>
      have le:∀l:List Nat,(l.filter fun z=>decide (Z z/\Rt E I y z)).length<=(l.filter fun z=>decide (Z z/\Rt E I x z)).length:=fun l=>by
       induction l with
       |nil=>exact mP _
       |cons b l ib=>
        rw[pU,pU]
        by_cases hb:decide (Z b/\Rt E I y b)=true
        ·rw[if_pos hb,if_pos (sub b hb)];simp only[n9];omega
        ·rw[if_neg hb];split<;>(try simp only[n9])<;>omega
      rw[pU,pU];rcases nu.mp xin with e|hm
      ·subst e;rw[if_neg hx0,if_pos hx1,n9];have:=le l;omega
      ·have:=il hm
       by_cases ha:decide (Z a/\Rt E I y a)=true
       ·rw[if_pos ha,if_pos (sub a ha)];simp only[n9];omega
       ·rw[if_neg ha];split<;>(try simp only[n9])<;>omega
    obtain⟨x',r1,z1,b1⟩:=ih y zy (by omega);exact⟨x',xy.trans r1,z1,b1⟩
 obtain⟨x,rx,zx,bx⟩:=key _ r hr (mP _);refine⟨x,rx,h.sub _ zx,?_,fun g hg=>?_⟩
 ·obtain⟨g,gs',rfl⟩:=List.exists_cons_of_ne_nil ne;obtain⟨q,e,c⟩:=h.go g (by simp) x zx;obtain⟨iq,y,⟨zy,_⟩,qy⟩:=Cm.rt (fun r hr=>h.sub _ hr.1) c;exact⟨q,e,iq,qy.trans (bx y zy (Rt.trans (.on .here e iq) qy))⟩
 ·obtain⟨q,e,c⟩:=h.go g hg x zx;obtain⟨iq,y,⟨zy,gy⟩,qy⟩:=Cm.rt (fun r hr=>h.sub _ hr.1) c;have xy:Rt E I x y:=Rt.trans (.on .here e iq) qy;exact⟨y,xy,bx y zy xy,gy⟩
end
end L3
namespace L3
def Vf(S:Nat->Bool)(n:Nat):Nat:=((List.range n).filter S).length
theorem Ue(S:Nat->Bool)(n:Nat):Vf S (n+1)=Vf S n+(if S n=true then 1 else 0):=by
 unfold Vf;rw[pf,pA,mT,pU]
 split<;>rfl
theorem cnt_le(S:Nat->Bool):∀n,Vf S n<=n
 |0=>mP _
 |n+1=>by rw[Ue];have:=cnt_le S n;split<;>omega
theorem U4{S T:Nat->Bool}:∀{n},(∀r<n,S r=true->T r=true)->Vf S n<=Vf T n
 |0,_=>mP _
 |n+1,h=>by
  rw[Ue,Ue];have:=U4 (n:=n) fun r hr=>h r (by omega);have hn:=h n (by omega);cases hs:S n<;>cases ht:T n<;>simp_all<;>omega
theorem vJ{S T:Nat->Bool}:∀{n},(∀r<n,S r=true->T r=true)->(∃r<n,S r=false/\T r=true)->Vf S n<Vf T n
 |0,_,h=>by obtain⟨_,h,_⟩:=h;omega
 |n+1,h,⟨r,hr,h1,h2⟩=>by
  rw[Ue,Ue];have le:=U4 (n:=n) fun r hr=>h r (by omega);have hn:=h n (by omega)
  by_cases e:r=n
  ·subst e;rw[h1,h2];simp;omega
  ·have:=vJ (n:=n) (fun r hr=>h r (by omega)) ⟨r,by omega,h1,h2⟩;cases hs:S n<;>cases ht:T n<;>simp_all<;>omega
def ldB(W:Nat->List Nat)(S:Nat->Bool):Nat->Bool:=fun r=>(W r).any S
section
variable{W:Nat->List Nat}{n:Nat}
def EW(W:Nat->List Nat):Nat->Nat->Prop:=fun r q=>q∈W r
theorem Xa{S:Nat->Bool}{r:Nat}:ldB W S r=true↔∃q,EW W r q/\S q=true:=by
 unfold ldB EW;rw[oR]
def toP(S:Nat->Bool)(n:Nat):Nat->Prop:=fun r=>r<n/\S r=true
structure CmI(W:Nat->List Nat)(n:Nat)(A G F M:Nat->Bool):Prop where
 g:∀r<n,G r=true->F r=true
 m:∀r<n,M r=true->F r=true
 f:∀r<n,F r=true->Cm (EW W) (toP A n) (toP G n) r
 c:∀r<n,A r=true->∀q<n,EW W r q->F q=true->M q=false->F r=true
theorem CmI.start{A G:Nat->Bool}:CmI W n A G G G:=⟨fun _ _ h=>h,fun _ _ h=>h,fun r hr h=>.here ⟨hr,h⟩,fun r hr _ q hq _ h1 h2=>by rw[h1] at h2;cases h2⟩
theorem CmI.step{A G F M:Nat->Bool}(h:CmI W n A G F M):CmI W n A G (fun r=>F r||((A r&&ldB W (fun q=>decide (q<n)&&M q) r)&&!F r)) (fun r=>(A r&&ldB W (fun q=>decide (q<n)&&M q) r)&&!F r):=by
 refine⟨fun r hr hg=>?_,fun r hr hm=>?_,fun r hr hf=>?_,fun r hr ha q hq e hf hm=>?_⟩
 ·rw[h.g r hr hg];rfl
 ·rw[hm,Bool.or_true]
 ·cases e:F r with
  |true=>exact h.f r hr e
  |false=>
   rw[e] at hf;simp only[Bool.false_or,Bool.not_false,Bool.and_true,m8] at hf;obtain⟨q,eq,hq⟩:=Xa.mp hf.2;simp only[m8,oG] at hq;exact .on ⟨hr,hf.1⟩ eq (h.f q hq.1 (h.m q hq.1 hq.2))
 ·have fq:F q=true:=by
   cases e:F q with
   |true=>rfl
   |false=>
    rw[e] at hf hm;simp only[Bool.false_or,Bool.not_false,Bool.and_true] at hf hm;rw[hf] at hm;cases hm
  cases er:F r with
  |true=>rfl
  |false=>
   cases em:M q with
   |false=>rw[h.c r hr ha q hq e fq em] at er;cases er
   |true=>
    have:ldB W (fun q=>decide (q<n)&&M q) r=true:=Xa.mpr ⟨q,e,by rw[nG hq,em];rfl⟩;rw[ha,this];rfl
theorem CmI.done{A G F M:Nat->Bool}(hw:∀r<n,∀q∈W r,q<n)(h:CmI W n A G F M)(z:∀r<n,M r=false):∀r<n,F r=true↔Cm (EW W) (toP A n) (toP G n) r:=fun r hr=>⟨h.f r hr,fun c=>by
 induction c with
 |here g=>exact h.g _ g.1 g.2
 |on a e _ ih=>
  have hq:=hw _ a.1 _ e;exact h.c _ a.1 a.2 _ hq e (ih hq) (z _ hq)⟩
end
end L3
namespace L3
section
variable{W:Nat->List Nat}{n:Nat}
structure StI(W:Nat->List Nat)(n:Nat)(I:Nat->Bool)(gs:List (Nat->Bool))(F:Nat->Bool):Prop where
 sub:∀r<n,F r=true->I r=true
 all:∀Z:Nat->Prop,Stay (EW W) (toP I n) (gs.map fun g=>toP g n) Z->∀r,Z r->F r=true
structure StJ(W:Nat->List Nat)(n:Nat)(I:Nat->Bool)(gs:List (Nat->Bool))(F0:Nat->Bool)(j:Nat)(F:Nat->Bool):Prop where
 i:StI W n I gs F
 le:∀r<n,F r=true->F0 r=true
 same:(∀r<n,F r=F0 r)->∀k<j,∀g,gs[k]?=some g->∀r<n,F0 r=true->∃q,EW W r q/\Cm (EW W) (toP I n) (fun y=>toP F0 n y/\toP g n y) q
theorem StI.start{I:Nat->Bool}{gs:List (Nat->Bool)}:StI W n I gs I:=⟨fun _ _ h=>h,fun Z hZ r hr=>(hZ.sub r hr).2⟩
theorem StI.j{I F:Nat->Bool}{gs:List (Nat->Bool)}(h:StI W n I gs F):StJ W n I gs F 0 F:=⟨h,fun _ _ h=>h,fun _ k hk=>absurd hk (o4 _)⟩
theorem StJ.step{I F0 F C g:Nat->Bool}{gs:List (Nat->Bool)}{j:Nat}(hw:∀r<n,∀q∈W r,q<n)(h:StJ W n I gs F0 j F)(hg:gs[j]?=some g)
  (hC:∀r<n,C r=true↔Cm (EW W) (toP I n) (toP (fun y=>F y&&g y) n) r):StJ W n I gs F0 (j+1) (fun r=>F r&&ldB W C r):=by
 have gm:toP g n∈gs.map fun g=>toP g n:=mW.mpr ⟨g,om hg,rfl⟩;have cv:∀{q:Nat},Cm (EW W) (toP I n) (toP (fun y=>F y&&g y) n) q->Cm (EW W) (toP I n) (fun y=>toP F n y/\toP g n y) q:=fun c=>c.mono (fun _ h=>h) fun r h=>by
  have:=h.2;simp only[m8] at this;exact⟨⟨h.1,this.1⟩,⟨h.1,this.2⟩⟩
 refine⟨⟨fun r hr hf=>?_,fun Z hZ r zr=>?_⟩,fun r hr hf=>?_,fun e k hk g' hg' r hr h0=>?_⟩
 ·simp only[m8] at hf;exact h.i.sub r hr hf.1
 ·obtain⟨q,eq,c⟩:=hZ.go _ gm r zr;have hr:=(hZ.sub r zr).1;have hq:=hw r hr q eq;simp only[m8];refine⟨h.i.all Z hZ r zr,Xa.mpr ⟨q,eq,(hC q hq).mpr (c.mono (fun _ h=>h) fun y hy=>⟨hy.2.1,?_⟩)⟩⟩
  show(F y&&g y)=true
  rw[h.i.all Z hZ y hy.1,hy.2.2];rfl
 ·simp only[m8] at hf;exact h.le r hr hf.1
 ·have ef:∀r<n,F r=F0 r:=fun r hr=>by
   cases e0:F0 r with
   |false=>
    cases ef:F r with
    |false=>rfl
    |true=>rw[h.le r hr ef] at e0;cases e0
   |true=>
    have:=e r hr;rw[e0] at this;simp only[m8] at this;exact this.1
  by_cases hkj:k=j
  ·subst hkj;rw[hg] at hg';cases hg';have:=e r hr;rw[h0] at this;simp only[m8] at this;obtain⟨q,eq,cq⟩:=Xa.mp this.2;refine⟨q,eq,(cv ((hC q (hw r hr q eq)).mp cq)).mono (fun _ h=>h) fun y hy=>⟨⟨hy.1.1,?_⟩,hy.2⟩⟩;rw[<- ef y hy.1.1];exact hy.1.2
  ·exact h.same ef k (by omega) g' hg' r hr h0
theorem StJ.done{I F0 F:Nat->Bool}{gs:List (Nat->Bool)}(hw:∀r<n,∀q∈W r,q<n)(ne:gs≠[])(h:StJ W n I gs F0 gs.length F)(e:∀r<n,F r=F0 r)(r:Nat)(hr:r<n) :
  F r=true↔I r=true/\∃x,Rt (EW W) (toP I n) r x/\Ring (EW W) (toP I n) (gs.map fun g=>toP g n) x:=by
 have st:Stay (EW W) (toP I n) (gs.map fun g=>toP g n) (toP F0 n):=by
  refine⟨fun r hr=>⟨hr.1,h.i.sub r hr.1 (by rw[e r hr.1];exact hr.2)⟩,fun g hg r hr=>?_⟩;obtain⟨g',hm,rfl⟩:=mW.mp hg;obtain⟨k,hk,ek⟩:=oH hm;exact h.same e k hk g' (by rw[mO hk,ek]) r hr.1 hr.2
 constructor
 ·intro hf;have hf0:toP F0 n r:=⟨hr,by rw[<- e r hr];exact hf⟩;exact⟨h.i.sub r hr hf,stay_ring (fun r h=>h.1) (by simpa using ne) st hf0⟩
 ·rintro⟨hi,x,rx,ring⟩;exact h.i.all _ (ring_stay ring) r ⟨⟨hr,hi⟩,rx⟩
end
end L3
namespace L3
open PySem PySem.Spec PyProof.Rows L2
section
variable{X:Cx}
theorem ip_orI:PIp X .BitOr (ipI Builtin.bitOr):=by
 intro lC s σ H x y v u Q I r1 r2 h;obtain⟨i,j,e1,e2,q⟩:=h;subst e1;subst e2;obtain⟨t,rfl⟩:=r1;obtain⟨t',rfl⟩:=r2;exact ior_int ⟨.int _,H,I.tok _,⟨_,rfl⟩,q⟩
theorem ip_andI:PIp X .BitAnd (ipI Builtin.bitAnd):=by
 intro lC s σ H x y v u Q I r1 r2 h;obtain⟨i,j,e1,e2,q⟩:=h;subst e1;subst e2;obtain⟨t,rfl⟩:=r1;obtain⟨t',rfl⟩:=r2;exact iand_int ⟨.int _,H,I.tok _,⟨_,rfl⟩,q⟩
def rBits:V->List V->Hp->VK->Prop:=fun x vs H Q=>∃i:Int,x=.int i/\vs=[]/\Q (.int ((Builtin.Int.intBits i:Nat):Int)) H
theorem y6:MtR X "int.bit_length" rBits:=by
 intro lC s σ H x vs v us Q I rx rv h;obtain⟨i,rfl,rfl,q⟩:=h;obtain⟨t,rfl⟩:=(show ∃t,v=Value.int i t from rx);cases rv;exact call_int_bit_length ⟨.int _,H,I.tok _,⟨_,rfl⟩,q⟩
end
theorem xl{α:Type}{K:W.Frag}{a D:Addr}{tt:TT}{te:TE}{τ:St}{H0:Hp}{Q:VK}(l:List α)(φ:α->V)(p:Nat->Bool)(f:Nat->V)(hD:H0 D=none)(hq:H0 a=some (.lst (l.map φ)))(hz:l.length<=sizeLine)
  (step:∀(k:Nat) (hk:k<l.length) H (N:V->Hp->Prop) (N0:Hp->Prop),Zf H0 H->(∀H4,Zf H H4->p k=true->N (f k) H4)->(∀H4,Zf H H4->p k=false->N0 H4)->tt (some (.int (k:Nat))::some (φ l[k])::τ) H fun c H4=>if c=true then te (some (.int (k:Nat))::some (φ l[k])::τ) H4 N else N0 H4)
  (fin:∀H',H' D=some (.lst (((List.range l.length).filter p).map f))->Zf H0 H'->Q (.ref D) H'):WS (Ite K a) D (gTup K 2 (gCons (Xt 0) (gCons (Xt 1) gNil))) tt te (none::none::τ) H0 Q:=by
 refine Xy (n:=l.length) (fun i σ H=>∃(z z':Option V),σ=z::z'::τ/\H D=some (.lst (((List.range i).filter p).map f))/\Zf H0 H) ?_ ?_ ?_ ?_ ?_
 ·exact⟨none,none,rfl,Ze,Zj hD⟩
 ·rintro i σ H hi ⟨z,z',rfl,hd,s⟩;exact⟨_,_,rS (s _ _ hq),mO (by rw[mM];exact hi)⟩
 ·rintro σ H ⟨z,z',rfl,hd,s⟩;exact⟨_,rS (s _ _ hq),by rw[mM];exact mP _⟩
 ·rintro i x σ H H2 hi ⟨z,z',rfl,hd,s⟩ ⟨q,v,rfl,hq',rfl,hv⟩ N N0 hN hN0;have le:(((List.range i).filter p).map f).length<sizeLine:=by
   have:=pO p (List.range i);rw[m9] at this;rw[mM];omega
  have ev:=hv _ (rS (s _ _ hq));rw[mU,mO hi] at ev;have ev':v=φ l[i]:=(nv ev).symm;subst ev';have sp:=Zj (o:=.tup [.int (i:Nat),φ l[i]]) hq';have s2:=s.trans sp;refine⟨q,_,rfl,rT Ze,rfl,_,_,rfl,_,_,rfl,rfl,?_⟩;refine step i hi _ (fun v H5=>N v (some (.int (i:Nat))::some (φ l[i])::τ) H5) (fun H4=>N0 (some (.int (i:Nat))::some (φ l[i])::τ) H4) s2 (fun H4 s4 hp=>?_) (fun H4 s4 hp=>?_)
  ·refine hN _ _ H4 _ (s4 _ _ (sp _ _ hd)) le ⟨_,_,rfl,?_,(ZJ.upd (Zf.x (s2.trans s4))).same hD⟩;rw[Ze,pf,pA,p9 hp,nP];rfl
  ·refine hN0 _ H4 ⟨_,_,rfl,?_,s2.trans s4⟩;rw[s4 _ _ (sp _ _ hd),pf,pA,pJ (by rw[hp];exact nh),rz,oC]
 ·rintro σ H ⟨z,z',rfl,hd,s⟩;exact fin H hd s
def Wb(w:Str):Str:=if w∈(["all", "some"]:List Str) then "way" else "room"
def bkS(w:Str)(ks:List Str):Str:=if(ks.map fun k=>decide (V.str k=V.str (Wb w))).all id=true then(if w∈(["yes", "sign", "not", "and", "or", "all", "some"]:List Str) then "room" else if w∈(["next", "until", "always", "ever", "within"]:List Str) then "way" else "neither") else "neither"
def bkF(c:Lb)(ks:List Str):Str:=bkS (WR c) ks
noncomputable def bkT(t:Tr):Str:=WF bkF t
theorem bk_eq(t:Tr):bkT t=bkF t.lb (t.ks.map bkT):=vV _ t
theorem bk_kids{t:Tr}(h:bkT t ≠ "neither"):∀k∈t.ks,bkT k=Wb (WR t.lb):=by
 rw[bk_eq] at h;unfold bkF bkS at h
 by_cases c:((t.ks.map bkT).map fun k=>decide (V.str k=V.str (Wb (WR t.lb)))).all id=true
 ·intro k hk;rw[nY] at c;have:=c _ (mW.mpr ⟨_,mW.mpr ⟨k,hk,rfl⟩,rfl⟩);exact V.str.inj (ny this)
 ·rw[if_neg c] at h;exact absurd rfl h
theorem bk_of{t:Tr}(h:∀k∈t.ks,bkT k=Wb (WR t.lb)):bkT t=(if WR t.lb∈(["yes", "sign", "not", "and", "or", "all", "some"]:List Str) then("room" : Str) else if WR t.lb∈(["next", "until", "always", "ever", "within"]:List Str) then("way" : Str) else("neither" : Str)):=by
 rw[bk_eq];unfold bkF bkS;rw[if_pos];rw[nY];intro x hx;obtain⟨s,hs,rfl⟩:=mW.mp hx;obtain⟨k,hk,rfl⟩:=mW.mp hs;rw[h k hk];simp
theorem want_ne(w:Str):Wb w ≠ "neither" := by
 unfold Wb
 split
 ·decide +kernel
 ·decide +kernel
theorem qA:("room" : Str) ≠ "neither" := by decide +kernel
theorem vp:("way" : Str) ≠ "neither" := by decide +kernel
theorem ZR:("room" : Str) ≠ "way" := by decide +kernel
mutual
theorem jK:∀(t:Tr),bkT t ≠ "neither" -> ∀r∈post t,bkT r ≠ "neither"
 |.node c ks,h=>fun r hr=>by
  rw[post] at hr;rcases nE.mp hr with h1|h1
  ·exact xh ks (fun k hk=>by rw[bk_kids h k hk];exact want_ne _) r h1
  ·rw[nj.mp h1];exact h
theorem xh:∀(ks:List Tr),(∀k∈ks,bkT k ≠ "neither")->∀r∈Yq ks,bkT r ≠ "neither"
 |[],_=>fun r hr=>by rw[Yq] at hr;cases hr
 |t::ks,h=>fun r hr=>by
  rw[Yq] at hr;rcases nE.mp hr with h1|h1
  ·exact jK t (h t (by simp)) r h1
  ·exact xh ks (fun k hk=>h k (by simp[hk])) r h1
end
def WN(d:WD)(r:Nat):List Nat:=((d.ways[r]?).getD []).map Int.toNat
def sgB(d:WD)(s:Str)(r:Nat):Bool:=decide (s∈(d.signs[r]?).getD [])
def XN(d:WD):List (Nat->Bool):=if d.fair=[] then[fun _=>true] else d.fair.map (sgB d)
theorem goals_ne(d:WD):XN d≠[]:=by
 unfold XN
 by_cases h:d.fair=[]
 ·rw[if_pos h];simp
 ·rw[if_neg h];simpa using h
open Classical in
noncomputable def cmB(d:WD)(A G:Nat->Bool):Nat->Bool:=fun r=>decide (Cm (EW (WN d)) (toP A d.signs.length) (toP G d.signs.length) r)
open Classical in
noncomputable def frB(d:WD)(I:Nat->Bool):Nat->Bool:=fun r=>decide (I r=true/\∃x,Rt (EW (WN d)) (toP I d.signs.length) r x/\Ring (EW (WN d)) (toP I d.signs.length) ((XN d).map fun g=>toP g d.signs.length) x)
noncomputable def faB(d:WD):Nat->Bool:=frB d fun _=>true
def itB(f:(Nat->Bool)->Nat->Bool):Nat->(Nat->Bool)->Nat->Bool
 |0,S=>S
 |k+1,S=>f (itB f k S)
inductive VD where
 |rm (S:Nat->Bool)
 |wy (c:Lb) (Ss:List (Nat->Bool))
def VD.set:VD->Nat->Bool
 |.rm S=>S
 |.wy _ _=>fun _=>false
def VD.lb:VD->Lb
 |.rm _=>.yes
 |.wy c _=>c
def VD.ss:VD->List (Nat->Bool)
 |.rm _=>[]
 |.wy _ ss=>ss
def s0(Ss:List (Nat->Bool)):Nat->Bool:=Ss.getD 0 fun _=>false
def s1(Ss:List (Nat->Bool)):Nat->Bool:=Ss.getD 1 fun _=>false
noncomputable def Vi(d:WD):Lb->List (Nat->Bool)->Nat->Bool
 |.op w,Ss=>if w = "always" then frB d (s0 Ss) else if w = "next" then ldB (WN d) (fun r=>s0 Ss r&&faB d r) else if w = "ever" then cmB d (fun _=>true) (fun r=>s0 Ss r&&faB d r) else cmB d (s0 Ss) (fun r=>s1 Ss r&&faB d r)
 |.wit m,Ss=>itB (fun S r=>(s1 Ss r&&faB d r)||(s0 Ss r&&ldB (WN d) S r)) m.toNat (fun r=>s1 Ss r&&faB d r)
 |_,_=>fun _=>false
noncomputable def VN(d:WD):Lb->List (Nat->Bool)->Nat->Bool
 |.op w,Ss=>if w = "next" then(fun r=>!ldB (WN d) (fun r=>!s0 Ss r&&faB d r) r) else if w = "always" then(fun r=>!cmB d (fun _=>true) (fun r=>!s0 Ss r&&faB d r) r) else if w = "ever" then(fun r=>!frB d (fun r=>!s0 Ss r) r) else
   (fun r=>!(cmB d (fun r=>!s1 Ss r) (fun r=>(!s1 Ss r&&faB d r)&&!s0 Ss r) r||frB d (fun r=>!s1 Ss r) r))
 |.wit m,Ss=>fun r=>!itB (fun S r=>((!s1 Ss r&&faB d r)&&!s0 Ss r)||(!s1 Ss r&&ldB (WN d) S r)) m.toNat (fun r=>!s1 Ss r&&faB d r) r
 |_,_=>fun _=>false
noncomputable def vdF(d:WD):Lb->List VD->VD
 |.yes,_=>.rm fun _=>true
 |.sign s,_=>.rm (sgB d s)
 |.op w,ks=>if w = "not" then .rm (fun r=>!(ks.map VD.set).getD 0 (fun _=>false) r) else if w = "some" then .rm (Vi d ((ks.map VD.lb).getD 0 .yes) ((ks.map VD.ss).getD 0 [])) else if w = "all" then .rm (VN d ((ks.map VD.lb).getD 0 .yes) ((ks.map VD.ss).getD 0 [])) else .wy (.op w) (ks.map VD.set)
 |.wit m,ks=>.wy (.wit m) (ks.map VD.set)
 |.many w,ks=>if w = "or" then .rm (fun r=>ks.any fun k=>k.set r) else .rm (fun r=>ks.all fun k=>k.set r)
noncomputable def vdT(d:WD)(t:Tr):VD:=WF (vdF d) t
theorem Uf(d:WD)(t:Tr):vdT d t=vdF d t.lb (t.ks.map (vdT d)):=vV _ t
noncomputable def soB(d:WD)(t:Tr):Nat->Bool:=(vdT d t).set
theorem WL{d:WD}(g:XR d):∀r<d.signs.length,∀q∈WN d r,q<d.signs.length:=fun r hr q hq=>by
 unfold WN at hq;have hw:r<d.ways.length:=by rw[g.wl];exact hr
 rw[mO hw] at hq;obtain⟨x,hx,rfl⟩:=mW.mp hq;have:=(g.wn _ (nk hw)).2.2.1 x hx;omega
open Classical in
theorem U9{d:WD}{I:Nat->Bool}{r:Nat}:frB d I r=true↔I r=true/\∃x,Rt (EW (WN d)) (toP I d.signs.length) r x/\Ring (EW (WN d)) (toP I d.signs.length) ((XN d).map fun g=>toP g d.signs.length) x:=by
 unfold frB;rw[oG]
open Classical in
theorem jr{d:WD}{A G:Nat->Bool}{r:Nat}:cmB d A G r=true↔Cm (EW (WN d)) (toP A d.signs.length) (toP G d.signs.length) r:=by
 unfold cmB;rw[oG]
theorem fa_pred{d:WD}{r q:Nat}(hr:r<d.signs.length)(hq:q<d.signs.length)(e:q∈WN d r)(h:faB d q=true):faB d r=true:=by
 unfold faB at h ⊢;obtain⟨_,x,rx,ring⟩:=U9.mp h;exact U9.mpr ⟨rfl,x,Rt.trans (.on .here e ⟨hq,rfl⟩) rx,ring⟩
theorem xn{d:WD}(g:XR d)(A B:Nat->Bool):∀(k r:Nat),r<d.signs.length->itB (fun S r=>((!B r&&faB d r)&&!A r)||(!B r&&ldB (WN d) S r)) k (fun r=>!B r&&faB d r) r=itB (fun S r=>(faB d r&&!B r)&&(!A r||ldB (WN d) S r)) k (fun r=>faB d r&&!B r) r
  /\ (itB (fun S r=>(faB d r&&!B r)&&(!A r||ldB (WN d) S r)) k (fun r=>faB d r&&!B r) r=true->faB d r=true)
 |0,r,hr=>by
  refine⟨?_,fun h=>?_⟩
  ·exact Bool.and_comm ..
  ·have h':(faB d r&&!B r)=true:=h;rw[m8] at h';exact h'.1
 |k+1,r,hr=>by
  have ih:=fun q hq=>xn g A B k q hq;have el:ldB (WN d) (itB (fun S r=>((!B r&&faB d r)&&!A r)||(!B r&&ldB (WN d) S r)) k (fun r=>!B r&&faB d r)) r=ldB (WN d) (itB (fun S r=>(faB d r&&!B r)&&(!A r||ldB (WN d) S r)) k (fun r=>faB d r&&!B r)) r:=by
   rw[n6,Xa,Xa];constructor
   ·rintro⟨q,hq,h⟩;exact⟨q,hq,by rw[<- (ih q (WL g r hr q hq)).1];exact h⟩
   ·rintro⟨q,hq,h⟩;exact⟨q,hq,by rw[(ih q (WL g r hr q hq)).1];exact h⟩
  have hf:ldB (WN d) (itB (fun S r=>(faB d r&&!B r)&&(!A r||ldB (WN d) S r)) k (fun r=>faB d r&&!B r)) r=true->faB d r=true:=fun h=>by
   obtain⟨q,hq,h2⟩:=Xa.mp h;have lq:=WL g r hr q hq;exact fa_pred hr lq hq ((ih q lq).2 h2)
  refine⟨?_,fun h=>?_⟩
  ·show(((!B r&&faB d r)&&!A r)||(!B r&&ldB (WN d) _ r))=((faB d r&&!B r)&&(!A r||ldB (WN d) _ r))
   rw[el];generalize ldB (WN d) (itB (fun S r=>(faB d r&&!B r)&&(!A r||ldB (WN d) S r)) k (fun r=>faB d r&&!B r)) r=x at hf ⊢;cases x with
   |false=>cases B r<;>cases faB d r<;>cases A r<;>rfl
   |true=>rw[hf rfl];cases B r<;>cases A r<;>rfl
  ·have h':((faB d r&&!B r)&&(!A r||ldB (WN d) _ r))=true:=h;rw[m8,m8] at h';exact h'.1.1
theorem ldB_ext{d:WD}(g:XR d){A A':Nat->Bool}(h:∀r<d.signs.length,A r=A' r):∀r<d.signs.length,ldB (WN d) A r=ldB (WN d) A' r:=fun r hr=>by
 rw[n6,Xa,Xa];constructor
 ·rintro⟨q,hq,e⟩;exact⟨q,hq,by rw[<- h q (WL g r hr q hq)];exact e⟩
 ·rintro⟨q,hq,e⟩;exact⟨q,hq,by rw[h q (WL g r hr q hq)];exact e⟩
theorem xR{ns:List Int}(h:∀x∈ns,0<=x)(nd:ns.Nodup):(ns.map Int.toNat).Nodup:=by
 induction ns with
 |nil=>simp
 |cons a l ih=>
  rw[oX] at nd;rw[mV,oX];refine⟨fun hm=>?_,ih (fun x hx=>h x (by simp[hx])) nd.2⟩;obtain⟨b,hb,e⟩:=mW.mp hm;have h1:=h a (by simp);have h2:=h b (by simp[hb]);have:a=b:=by omega
  subst this;exact nd.1 hb
theorem sum_cast(l:List Nat):(l.map fun k:Nat=>(k:Int)).sum=((l.sum:Nat):Int):=by
 induction l with
 |nil=>rfl
 |cons a l ih=>rw[mV,List.sum_cons,List.sum_cons,ih];omega
theorem sum_mask{ns:List Int}{n:Nat}(nd:ns.Nodup)(h:∀x∈ns,0<=x/\x<(n:Int)):(ns.map fun x:Int=>(1:Int)*2 ^ x.toNat).sum=mI (fun r=>decide ((r:Int)∈ns)) n:=by
 have e1:(ns.map fun x:Int=>(1:Int)*2 ^ x.toNat)=((ns.map Int.toNat).map fun r=>2 ^ r).map fun k:Nat=>(k:Int):=by
  rw[mZ,mZ];refine oT fun x _=>?_
  show(1:Int)*2 ^ x.toNat=((2 ^ x.toNat:Nat):Int)
  rw[Int.one_mul,Int.natCast_pow];rfl
 rw[e1,sum_cast,sum_mk (n:=n) (xR (fun x hx=>(h x hx).1) nd) (fun r hr=>by
  obtain⟨x,hx,rfl⟩:=mW.mp hr;have:=h x hx;omega)]
 unfold mI
 congr 1
 refine V8 fun r _=>?_;rw[oF];constructor
 ·intro hr;obtain⟨x,hx,e⟩:=mW.mp hr;have:=h x hx;have:(r:Int)=x:=by omega
  rw[this];exact hx
 ·intro hr;exact mW.mpr ⟨_,hr,by simp⟩
theorem bits_le{S:Nat->Bool}{n:Nat}:Builtin.Int.intBits (mI S n)<=n:=by
 unfold Builtin.Int.intBits mI
 split
 ·omega
 ·rename_i h
  have h0:mk S n≠0:=fun z=>h (by rw[z];rfl);have:=(Nat.log2_lt h0).mpr (mk_lt S n);rw[Int.natAbs_natCast];omega
theorem bits_no{S:Nat->Bool}{n r:Nat}(h:Builtin.Int.intBits (mI S n)<=r):(mk S n).testBit r=false:=by
 refine rP ?_;unfold Builtin.Int.intBits mI at h
 split at h
 ·rename_i z
  have:mk S n=0:=by
   have:=eq_of_beq z;omega
  rw[this];exact Nat.two_pow_pos r
 ·rename_i z
  have h0:mk S n≠0:=fun e=>z (by rw[e];rfl);rw[Int.natAbs_natCast] at h;exact nJ ((Nat.log2_lt h0).mp (pF _)) (Nat.pow_le_pow_right (by decide) h)
theorem bit_at(x r:Nat):decide (V.int (Builtin.bitAnd ((x:Int)/2 ^ r) 1)=V.int 1)=x.testBit r:=by
 have e1:((x:Int)/2 ^ r)=((x/2 ^ r:Nat):Int):=by
  rw[Int.natCast_ediv,Int.natCast_pow];rfl
 have e2:Builtin.bitAnd ((x/2 ^ r:Nat):Int) 1=((x/2 ^ r &&& 1:Nat):Int):=and_nat _ 1;rw[e1,e2,Nat.testBit_eq_decide_div_mod_eq,Nat.and_one_is_mod,oF];constructor
 ·intro h;have:=V.int.inj h;omega
 ·intro h;rw[h];rfl
theorem vD{S:Nat->Bool}{n:Nat}:(List.range (Builtin.Int.intBits (mI S n))).filter (fun r=>(mk S n).testBit r)=(List.range n).filter S:=by
 have hb:=bits_le (S:=S) (n:=n);have key:∀k,Builtin.Int.intBits (mI S n)<=k->(List.range k).filter (fun r=>(mk S n).testBit r)=(List.range (Builtin.Int.intBits (mI S n))).filter (fun r=>(mk S n).testBit r):=by
  intro k hk
  induction hk with
  |refl=>rfl
  |step hk ih=>rw[pf,pA,ih,pJ (by rw[bits_no hk];exact nh),rz,oC]
 rw[<- key n hb];refine List.filter_congr fun r hr=>?_;rw[VQ,nG (mX.mp hr),Bool.true_and]
def noM(fs:List (Str×V)):Prop:=∀m∈(["having", "leading_to", "coming_to", "staying", "rooms_by", "rooms_with", "on_some", "on_all"]:List Str),fs.lookup m=none
def wayM(d:WD)(q:Nat):V:=.int (mI (fun x=>decide (x∈WN d q)) d.signs.length)
structure SO(C:Addr)(H:Hp)(r:Addr)(d:WD)(dx:Addr)(fs:List (Str×V)):Prop where
 obj:H r=some (.ins C dx fs)
 no:noM fs
 ways:∃w,fs.lookup ("ways" : Str)=some (.ref w)/\H w=some (.lst ((List.range d.signs.length).map (wayM d)))
 signs:∃s z,fs.lookup ("signs" : Str)=some (.ref s)/\H s=some (.lst (z.map Prod.fst))/\z.map Prod.snd=d.signs.map Wm/\ZL LS H z
structure SO2(C:Addr)(H:Hp)(r:Addr)(d:WD)(dx:Addr)(fs:List (Str×V)):Prop where
 so:SO C H r d dx fs
 goals:∃g,fs.lookup ("goals" : Str)=some (.ref g)/\H g=some (.lst ((XN d).map fun s=>V.int (mI s d.signs.length)))
structure SO3(C:Addr)(H:Hp)(r:Addr)(d:WD)(dx:Addr)(fs:List (Str×V)):Prop where
 so:SO2 C H r d dx fs
 whole:fs.lookup ("whole" : Str)=some (.int (mI (fun _=>true) d.signs.length))
 fair:fs.lookup ("fair" : Str)=some (.int (mI (faB d) d.signs.length))
section
variable{C:Addr}{H H':Hp}{r:Addr}{d:WD}{dx:Addr}{fs:List (Str×V)}
theorem SO.mono(s:Zf H H')(h:SO C H r d dx fs):SO C H' r d dx fs:=by
 obtain⟨w,w1,w2⟩:=h.ways;obtain⟨g,z,g1,g2,g3,g4⟩:=h.signs;exact⟨s _ _ h.obj,h.no,⟨w,w1,s _ _ w2⟩,⟨g,z,g1,s _ _ g2,g3,g4.mono LS.mono s⟩⟩
theorem SO2.mono(s:Zf H H')(h:SO2 C H r d dx fs):SO2 C H' r d dx fs:=by
 obtain⟨w,w1,w2⟩:=h.goals;exact⟨h.so.mono s,⟨w,w1,s _ _ w2⟩⟩
theorem SO3.mono(s:Zf H H')(h:SO3 C H r d dx fs):SO3 C H' r d dx fs:=⟨h.so.mono s,h.whole,h.fair⟩
end
theorem XD{n:Nat}(p:Nat->Bool):((List.range n).filter p).map (fun r:Nat=>V.int (r:Int))=(((List.range n).filter p).map fun r:Nat=>(r:Int)).map V.int:=by rw[mZ];rfl
theorem xN{n:Nat}(p:Nat->Bool):(((List.range n).filter p).map fun r:Nat=>(r:Int)).Nodup:=Ul (fun a b h=>by omega) (pR.filter p)
theorem jJ{n:Nat}{p:Nat->Bool}{x:Int}(h:x∈((List.range n).filter p).map fun r:Nat=>(r:Int)):0<=x/\x<(n:Int):=by
 obtain⟨k,hk,rfl⟩:=mW.mp h;have:=mX.mp (n5.mp hk).1;omega
theorem xA{n:Nat}{p:Nat->Bool}:mI (fun r=>decide ((r:Int)∈((List.range n).filter p).map fun r:Nat=>(r:Int))) n=mI p n:=by
 refine V6.mpr fun r hr=>?_;rw[n6,oG];constructor
 ·intro h;obtain⟨k,hk,e⟩:=mW.mp h;have:k=r:=by omega
  subst this;exact(n5.mp hk).2
 ·intro h;exact mW.mpr ⟨r,n5.mpr ⟨mX.mpr hr,h⟩,rfl⟩
theorem VH{n:Nat}(p:Nat->Bool):(((List.range n).filter p).map fun r:Nat=>(r:Int)).length<=n:=by
 rw[mM];have:=pO p (List.range n);rw[m9] at this;exact this
theorem way_goal{d:WD}(g:XR d){q:Nat}(hq:q<d.signs.length)(S:Nat->Bool):((Builtin.bitAnd (mI (fun x=>decide (x∈WN d q)) d.signs.length) (mI S d.signs.length)) != 0)=ldB (WN d) S q:=by
 rw[X9,n6,Xa,bne_iff_ne];constructor
 ·intro h;apply oJ;intro z;refine h (WW.mpr fun r hr=>?_);cases e:decide (r∈WN d q) with
  |false=>rfl
  |true=>
   cases e2:S r with
   |false=>rfl
   |true=>exact absurd ⟨r,(ny e:r∈WN d q),e2⟩ z
 ·rintro⟨r,hr0,hs⟩ z;have hr:r∈WN d q:=hr0;have:=WW.mp z r (WL g q hq r hr);rw[nG hr,hs] at this;cases this
theorem Xb.hide{C C':Addr}{H:Hp}{p r dx:Addr}{fs:List (Str×V)}{d:WD}(hr:H r=some (.ins C' dx fs))(n:p≠r)(h:Xb C H p d):Xb C (hide r H) p d:=by
 obtain⟨dx,t1,t2,t3,t4,e,h1,h2,h3,h4⟩:=h.ex;have nt:∀{b:Addr}{xs:List V},H b=some (.tup xs)->L3.hide r H b=some (.tup xs):=fun {b xs} e=>Y9 (fun z=>by rw[z,hr] at e;cases e) e;have g1:∀v ss,TS H v ss->TS (L3.hide r H) v ss:=fun v ss ⟨b,e,q⟩=>⟨b,e,nt q⟩;have g2:∀v ss,TIn H v ss->TIn (L3.hide r H) v ss:=fun v ss ⟨b,e,q⟩=>⟨b,e,nt q⟩;refine⟨dx,t1,t2,t3,t4,Y9 n e,?_,?_,g2 _ _ h3,g1 _ _ h4⟩
 ·obtain⟨b,vs,q1,q2,q3,q4⟩:=h1;exact⟨b,vs,q1,nt q2,q3,fun i v x a b=>g1 _ _ (q4 i v x a b)⟩
 ·obtain⟨b,vs,q1,q2,q3,q4⟩:=h2;exact⟨b,vs,q1,nt q2,q3,fun i v x a b=>g2 _ _ (q4 i v x a b)⟩
theorem range_mI(n:Nat):mI (fun r=>decide ((r:Int)∈zE n)) n=mI (fun _=>true) n:=V6.mpr fun r hr=>nG (mW.mpr ⟨r,mX.mpr hr,rfl⟩)
theorem way_mI{d:WD}(g:XR d){q:Nat}{ss:List Int}(hq:d.ways[q]?=some ss):V.int (mI (fun r=>decide ((r:Int)∈Xw ss)) d.signs.length)=wayM d q:=by
 unfold wayM
 congr 1
 refine V6.mpr fun r hr=>?_;rw[mem_sortI,oF];unfold WN;rw[hq];constructor
 ·intro h;exact mW.mpr ⟨_,h,by simp⟩
 ·intro h;obtain⟨x,hx,e⟩:=mW.mp h;have:=(g.wn ss (om hq)).2.2.1 x hx;have e2:(r:Int)=x:=by omega
  rw[e2];exact hx
theorem Vw{k:Str}{v:V}{l:List (Str×V)}:((k,v)::l).lookup k=some v:=by rw[nR,beq_self_eq_true]
theorem Wo{k k':Str}{v:V}{l:List (Str×V)}(h:(k==k')=false):((k',v)::l).lookup k=l.lookup k:=by rw[nR,h]
def Vl:List Str:=["whole", "ways", "signs", "goals", "fair"]
theorem noM_of:∀{fs:List (Str×V)},(∀p∈fs,p.1∈Vl)->noM fs:=fun {fs} h m hm=>by
 have q:∀m∈(["having", "leading_to", "coming_to", "staying", "rooms_by", "rooms_with", "on_some", "on_all"]:List Str),∀k∈Vl,(m==k)=false:=by decide +kernel
 induction fs with
 |nil=>rfl
 |cons p l ih=>
  obtain⟨k,v⟩:=p;rw[Wo (q m hm k (h (k,v) (by simp)))];exact ih fun p hp=>h p (by simp[hp])
theorem yn{β:Type}(l:List (List Str))(f:List Str->β):(List.range l.length).map (fun k=>f (l.getD k []))=l.map f:=by
 refine List.ext_getElem (by rw[mM,mM,m9]) fun i h1 h2=>?_;rw[mM] at h2;rw[List.getElem_map,List.getElem_map,pB,List.getD_eq_getElem?_getD,mO h2];rfl
theorem sgn_put1(v1:V):Xd "whole" v1 []=([("whole",v1)]:List (Str×V)):=by simp[Xd]
theorem sgn_put2(v1 v2:V):Xd "ways" v2 ([("whole",v1)]:List (Str×V))=([("whole",v1),("ways",v2)]:List (Str×V)):=by simp only[Xd,if_neg (by decide +kernel:¬(("whole" : Str) = "ways"))]
theorem sgn_put3(v1 v2 v3:V):Xd "signs" v3 ([("whole",v1),("ways",v2)]:List (Str×V))=([("whole",v1),("ways",v2),("signs",v3)]:List (Str×V)):=by simp only[Xd,if_neg (by decide +kernel:¬(("whole" : Str) = "signs")),if_neg (by decide +kernel:¬(("ways" : Str) = "signs"))]
theorem jA(v1 v2 v3 v4:V):Xd "goals" v4 ([("whole",v1),("ways",v2),("signs",v3)]:List (Str×V))=([("whole",v1),("ways",v2),("signs",v3),("goals",v4)]:List (Str×V)):=by simp only[Xd,if_neg (by decide +kernel:¬(("whole" : Str) = "goals")),if_neg (by decide +kernel:¬(("ways" : Str) = "goals")),if_neg (by decide +kernel:¬(("signs" : Str) = "goals"))]
theorem jG(v1 v2 v3 v4 v5:V):Xd "fair" v5 ([("whole",v1),("ways",v2),("signs",v3),("goals",v4)]:List (Str×V))=([("whole",v1),("ways",v2),("signs",v3),("goals",v4),("fair",v5)]:List (Str×V)):=by simp only[Xd,if_neg (by decide +kernel:¬(("whole" : Str) = "fair")),if_neg (by decide +kernel:¬(("ways" : Str) = "fair")),if_neg (by decide +kernel:¬(("signs" : Str) = "fair")),if_neg (by decide +kernel:¬(("goals" : Str) = "fair"))]
theorem noM_lit{v1 v2 v3:V}{l:List (Str×V)}(h:∀p∈l,p.1∈Vl):noM (("whole",v1)::("ways",v2)::("signs",v3)::l):=noM_of fun p hp=>by
 rcases nu.mp hp with rfl|hp
 ·exact(by decide +kernel:("whole" : Str)∈Vl)
 rcases nu.mp hp with rfl|hp
 ·exact(by decide +kernel:("ways" : Str)∈Vl)
 rcases nu.mp hp with rfl|hp
 ·exact(by decide +kernel:("signs" : Str)∈Vl)
 exact h p hp
theorem lk_wy{v1 v2:V}{l:List (Str×V)}:((("whole",v1)::("ways",v2)::l):List (Str×V)).lookup ("ways" : Str)=some v2:=(Wo (by decide +kernel)).trans Vw
theorem lk_sg{v1 v2 v3:V}{l:List (Str×V)}:((("whole",v1)::("ways",v2)::("signs",v3)::l):List (Str×V)).lookup ("signs" : Str)=some v3:=(Wo (by decide +kernel)).trans ((Wo (by decide +kernel)).trans Vw)
theorem xU{v1 v2 v3 v4:V}{l:List (Str×V)}:((("whole",v1)::("ways",v2)::("signs",v3)::("goals",v4)::l):List (Str×V)).lookup ("goals" : Str)=some v4:=(Wo (by decide +kernel)).trans ((Wo (by decide +kernel)).trans ((Wo (by decide +kernel)).trans Vw))
theorem lk_fa{v1 v2 v3 v4 v5:V}{l:List (Str×V)}:((("whole",v1)::("ways",v2)::("signs",v3)::("goals",v4)::("fair",v5)::l):List (Str×V)).lookup ("fair" : Str)=some v5:=(Wo (by decide +kernel)).trans ((Wo (by decide +kernel)).trans ((Wo (by decide +kernel)).trans ((Wo (by decide +kernel)).trans Vw)))
theorem SO.put{C:Addr}{H H':Hp}{r:Addr}{d:WD}{dx:Addr}{v1 v2 v3:V}{l l':List (Str×V)}(s:ZJ r H H')(h:SO C H r d dx (("whole",v1)::("ways",v2)::("signs",v3)::l))(hr:H' r=some (.ins C dx (("whole",v1)::("ways",v2)::("signs",v3)::l')))(hl:∀p∈l',p.1∈Vl):SO C H' r d dx (("whole",v1)::("ways",v2)::("signs",v3)::l'):=by
 obtain⟨w,w1,w2⟩:=h.ways;obtain⟨g,z,g1,g2,g3,g4⟩:=h.signs;rw[lk_wy] at w1;rw[lk_sg] at g1;have nl:∀{b:Addr}{xs:List V},H b=some (.lst xs)->H' b=some (.lst xs):=fun {b xs} e=>s _ _ (fun z=>by rw[z,h.obj] at e;cases e) e;exact⟨hr,noM_lit hl,⟨w,lk_wy.trans w1,nl w2⟩,⟨g,z,lk_sg.trans g1,nl g2,g3,fun x hx=>let ⟨b,e,q⟩:=g4 x hx; ⟨b,e,nl q⟩⟩⟩
inductive WyC(K:W.Frag)(n:Nat)(H:Hp)(a:Addr):Lb->List (Nat->Bool)->Prop
 |one (w:Str) (A:Nat->Bool):w∈(["next", "always", "ever"]:List Str)->SqT K H a [.str w,.int (mI A n)]->WyC K n H a (.op w) [A]
 |two (A B:Nat->Bool):SqT K H a [.str "until",.int (mI A n),.int (mI B n)]->WyC K n H a (.op "until") [A,B]
 |wit (m:Nat) (A B:Nat->Bool):m<=5->SqT K H a [.str "within",.int (m:Int),.int (mI A n),.int (mI B n)]->WyC K n H a (.wit (m:Int)) [A,B]
theorem WyC.mono{K:W.Frag}{n:Nat}{H H':Hp}{a:Addr}{c:Lb}{Ss:List (Nat->Bool)}(s:XA H H')(h:WyC K n H a c Ss):WyC K n H' a c Ss:=by
 cases h with
 |one w A hw h=>exact .one w A hw (s _ _ _ h)
 |two A B h=>exact .two A B (s _ _ _ h)
 |wit m A B hm h=>exact .wit m A B hm (s _ _ _ h)
theorem qf(d:WD)(w:Str)(Ss:List (Nat->Bool)):Vi d (.op w) Ss=if w = "always" then frB d (s0 Ss) else if w = "next" then ldB (WN d) (fun r=>s0 Ss r&&faB d r) else if w = "ever" then cmB d (fun _=>true) (fun r=>s0 Ss r&&faB d r) else cmB d (s0 Ss) (fun r=>s1 Ss r&&faB d r):=rfl
theorem xE{d:WD}{A:Nat->Bool}:Vi d (.op "always") [A]=frB d A:=by rw[qf,if_pos rfl];rfl
theorem jn{d:WD}{A:Nat->Bool}:Vi d (.op "next") [A]=ldB (WN d) (fun r=>A r&&faB d r):=by rw[qf,if_neg (by decide +kernel),if_pos rfl];rfl
theorem jg{d:WD}{A:Nat->Bool}:Vi d (.op "ever") [A]=cmB d (fun _=>true) (fun r=>A r&&faB d r):=by rw[qf,if_neg (by decide +kernel),if_neg (by decide +kernel),if_pos rfl];rfl
theorem jz{d:WD}{A B:Nat->Bool}:Vi d (.op "until") [A,B]=cmB d A (fun r=>B r&&faB d r):=by rw[qf,if_neg (by decide +kernel),if_neg (by decide +kernel),if_neg (by decide +kernel)];rfl
theorem sm_wit{d:WD}{m:Nat}{A B:Nat->Bool}:Vi d (.wit (m:Int)) [A,B]=itB (fun S r=>(B r&&faB d r)||(A r&&ldB (WN d) S r)) m (fun r=>B r&&faB d r):=rfl
theorem zN(d:WD)(w:Str)(Ss:List (Nat->Bool)):VN d (.op w) Ss=if w = "next" then(fun r=>!ldB (WN d) (fun r=>!s0 Ss r&&faB d r) r) else if w = "always" then(fun r=>!cmB d (fun _=>true) (fun r=>!s0 Ss r&&faB d r) r) else if w = "ever" then(fun r=>!frB d (fun r=>!s0 Ss r) r) else
   (fun r=>!(cmB d (fun r=>!s1 Ss r) (fun r=>(!s1 Ss r&&faB d r)&&!s0 Ss r) r||frB d (fun r=>!s1 Ss r) r)):=rfl
theorem al_next{d:WD}{A:Nat->Bool}:VN d (.op "next") [A]=fun r=>!ldB (WN d) (fun r=>!A r&&faB d r) r:=by rw[zN,if_pos rfl];rfl
theorem xa{d:WD}{A:Nat->Bool}:VN d (.op "always") [A]=fun r=>!cmB d (fun _=>true) (fun r=>!A r&&faB d r) r:=by rw[zN,if_neg (by decide +kernel),if_pos rfl];rfl
theorem al_ever{d:WD}{A:Nat->Bool}:VN d (.op "ever") [A]=fun r=>!frB d (fun r=>!A r) r:=by rw[zN,if_neg (by decide +kernel),if_neg (by decide +kernel),if_pos rfl];rfl
theorem jY{d:WD}{A B:Nat->Bool}:VN d (.op "until") [A,B]=fun r=>!(cmB d (fun r=>!B r) (fun r=>(!B r&&faB d r)&&!A r) r||frB d (fun r=>!B r) r):=by rw[zN,if_neg (by decide +kernel),if_neg (by decide +kernel),if_neg (by decide +kernel)];rfl
theorem al_wit{d:WD}{m:Nat}{A B:Nat->Bool}:VN d (.wit (m:Int)) [A,B]=fun r=>!itB (fun S r=>((!B r&&faB d r)&&!A r)||(!B r&&ldB (WN d) S r)) m (fun r=>!B r&&faB d r) r:=rfl
inductive BrC(r:Tr):Prop
 |yes:r.lb=.yes->r.ks=[]->bkT r = "room" -> BrC r
 |sign (s:Str):r.lb=.sign s->r.ks=[]->bkT r = "room" -> BrC r
 |not (k:Tr):r.lb=.op "not" -> r.ks=[k]->bkT k = "room" -> bkT r = "room" -> BrC r
 |qt (w:Str) (k:Tr):(w = "some" \/ w = "all")->r.lb=.op w->r.ks=[k]->bkT k = "way" -> bkT r = "room" -> BrC r
 |many (w:Str):(w = "and" \/ w = "or")->r.lb=.many w->(∀k∈r.ks,bkT k = "room")->bkT r = "room" -> BrC r
 |one (w:Str) (k:Tr):w∈(["next", "always", "ever"]:List Str)->r.lb=.op w->r.ks=[k]->bkT k = "room" -> bkT r = "way" -> BrC r
 |two (k l:Tr):r.lb=.op "until" -> r.ks=[k,l]->bkT k = "room" -> bkT l = "room" -> bkT r = "way" -> BrC r
 |wit (m:Nat) (k l:Tr):m<=5->r.lb=.wit (m:Int)->r.ks=[k,l]->bkT k = "room" -> bkT l = "room" -> bkT r = "way" -> BrC r
theorem len1{α:Type}{l:List α}(h:l.length=1):∃a,l=[a]:=by
 match l,h with
 |[a],_=>exact⟨a,rfl⟩
theorem len2{α:Type}{l:List α}(h:l.length=2):∃a b,l=[a,b]:=by
 match l,h with
 |[a,b],_=>exact⟨a,b,rfl⟩
theorem VG{r:Tr}(ok:WX r.lb r.ks.length)(h:bkT r ≠ "neither"):BrC r:=by
 have hk:=bk_kids h;have hb:=bk_of hk;cases e:r.lb with
 |yes=>
  rw[e] at ok hb;exact .yes e (pV.mp ok) (hb.trans (if_pos (by decide +kernel)))
 |sign s=>
  rw[e] at ok hb;exact .sign s e (pV.mp ok.1) (hb.trans (if_pos (show("sign" : Str)∈_ by decide +kernel)))
 |op w=>
  rw[e] at ok hb hk;have hb':bkT r=(if w∈(["yes", "sign", "not", "and", "or", "all", "some"]:List Str) then("room" : Str) else if w∈(["next", "until", "always", "ever", "within"]:List Str) then("way" : Str) else("neither" : Str)):=hb;have hk':∀k∈r.ks,bkT k=Wb w:=hk;have q1:∀w∈W1,w = "not" \/ (w = "some" \/ w = "all")\/w∈(["next", "always", "ever"]:List Str)\/(w∉(["yes", "sign", "not", "and", "or", "all", "some"]:List Str)/\w∉(["next", "until", "always", "ever", "within"]:List Str)):=by decide +kernel
  have q2:∀w∈W2,w = "until" \/ (w∉(["yes", "sign", "not", "and", "or", "all", "some"]:List Str)/\w∉(["next", "until", "always", "ever", "within"]:List Str)):=by decide +kernel
  have q3:∀w∈(["next", "always", "ever"]:List Str),Wb w = "room" /\ w∉(["yes", "sign", "not", "and", "or", "all", "some"]:List Str)/\w∈(["next", "until", "always", "ever", "within"]:List Str):=by decide +kernel
  rcases ok with⟨hw,hl⟩|⟨hw,hl⟩
  ·obtain⟨k,ek⟩:=len1 hl;have kk:=hk' k (by rw[ek];simp);rcases q1 w hw with rfl|hq|hq|⟨n1,n2⟩
   ·exact .not k e ek (kk.trans (by decide +kernel)) (hb'.trans (by decide +kernel))
   ·refine .qt w k hq e ek ?_ ?_
    ·rcases hq with rfl|rfl
     ·exact kk.trans (by decide +kernel)
     ·exact kk.trans (by decide +kernel)
    ·rcases hq with rfl|rfl
     ·exact hb'.trans (by decide +kernel)
     ·exact hb'.trans (by decide +kernel)
   ·obtain⟨g1,g2,g3⟩:=q3 w hq;exact .one w k hq e ek (kk.trans g1) (hb'.trans ((if_neg g2).trans (if_pos g3)))
   ·exact absurd (hb'.trans ((if_neg n1).trans (if_neg n2))) h
  ·obtain⟨k,l,ek⟩:=len2 hl;rcases q2 w hw with rfl|⟨n1,n2⟩
   ·exact .two k l e ek ((hk' k (by rw[ek];simp)).trans (by decide +kernel)) ((hk' l (by rw[ek];simp)).trans (by decide +kernel)) (hb'.trans (by decide +kernel))
   ·exact absurd (hb'.trans ((if_neg n1).trans (if_neg n2))) h
 |wit m=>
  rw[e] at ok hb hk;obtain⟨⟨m0,m5⟩,hl⟩:=ok;obtain⟨k,l,ek⟩:=len2 hl;have em:m=((m.toNat:Nat):Int):=by omega
  refine .wit m.toNat k l (by omega) (by rw[e,<- em]) ek ((hk k (by rw[ek];simp)).trans (show Wb "within" = "room" by decide +kernel)) ((hk l (by rw[ek];simp)).trans (show Wb "within" = "room" by decide +kernel)) (hb.trans ((if_neg (show("within" : Str)∉_ by decide +kernel)).trans (if_pos (show("within" : Str)∈_ by decide +kernel))))
 |many w=>
  rw[e] at ok hb hk;refine .many w ok.1 e (fun k hk2=>(hk k hk2).trans ?_) (hb.trans ?_)
  ·rcases ok.1 with rfl|rfl<;>decide +kernel
  ·rcases ok.1 with rfl|rfl<;>decide +kernel
def zF(K:W.Frag)(n:Nat)(H:Hp)(v:V):VD->Prop
 |.rm S=>v=.int (mI S n)
 |.wy c Ss=>∃b,v=.ref b/\WyC K n H b c Ss
theorem zF.mono{K:W.Frag}{n:Nat}{H H':Hp}{v:V}{k:VD}(s:XA H H')(h:zF K n H v k):zF K n H' v k:=by
 cases k with
 |rm S=>exact h
 |wy c Ss=>obtain⟨b,e,q⟩:=h;exact⟨b,e,q.mono s⟩
def VdL(K:W.Frag)(n:Nat)(H:Hp)(vs:List V)(ks:List VD):Prop:=vs.length=ks.length/\∀(i:Nat) v k,vs[i]?=some v->ks[i]?=some k->zF K n H v k
section
variable{K:W.Frag}{n:Nat}{H H':Hp}{vs us:List V}{ks ls:List VD}
theorem VdL.mono(s:XA H H')(h:VdL K n H vs ks):VdL K n H' vs ks:=⟨h.1,fun i v k h1 h2=>(h.2 i v k h1 h2).mono s⟩
theorem VdL.nil:VdL K n H [] []:=⟨rfl,fun i v k h=>by simp at h⟩
theorem VdL.take(h:VdL K n H vs ks)(m:Nat):VdL K n H (vs.take m) (ks.take m):=by
 refine⟨by rw[nW,nW,h.1],fun i v k h1 h2=>?_⟩;rw[List.getElem?_take] at h1 h2
 split at h1
 ·rename_i hi
  rw[if_pos hi] at h2;exact h.2 i v k h1 h2
 ·cases h1
theorem VdL.drop(h:VdL K n H vs ks)(m:Nat):VdL K n H (vs.drop m) (ks.drop m):=by
 refine⟨by rw[pw,pw,h.1],fun i v k h1 h2=>?_⟩;rw[List.getElem?_drop] at h1 h2;exact h.2 _ v k h1 h2
theorem VdL.snoc{v:V}{k:VD}(h:VdL K n H vs ks)(g:zF K n H v k):VdL K n H (vs++[v]) (ks++[k]):=by
 refine⟨by rw[mT,mT,h.1];rfl,fun i u l h1 h2=>?_⟩
 by_cases hi:i<vs.length
 ·rw[oK hi] at h1;rw[oK (by rw[<- h.1];exact hi)] at h2;exact h.2 i u l h1 h2
 ·rw[pG (by omega)] at h1;rw[pG (by rw[<- h.1];omega),<- h.1] at h2;cases e:i-vs.length with
  |zero=>rw[e] at h1 h2;cases h1;cases h2;exact g
  |succ j=>rw[e] at h1;simp at h1
theorem VdL.rms{Ss:List (Nat->Bool)}(h:VdL K n H vs (Ss.map VD.rm)):vs=Ss.map fun S=>V.int (mI S n):=by
 have hl:=h.1;rw[mM] at hl;refine List.ext_getElem (by rw[mM];exact hl) fun i h1 h2=>?_;rw[mM] at h2;rw[List.getElem_map];exact h.2 i _ (.rm Ss[i]) (mO h1) (by rw[mU,mO h2];rfl)
end
theorem UE(d:WD)(w:Str)(ks:List VD):vdF d (.op w) ks=if w = "not" then .rm (fun r=>!(ks.map VD.set).getD 0 (fun _=>false) r) else if w = "some" then .rm (Vi d ((ks.map VD.lb).getD 0 .yes) ((ks.map VD.ss).getD 0 [])) else if w = "all" then .rm (VN d ((ks.map VD.lb).getD 0 .yes) ((ks.map VD.ss).getD 0 [])) else .wy (.op w) (ks.map VD.set):=rfl
theorem VR(d:WD)(w:Str)(ks:List VD):vdF d (.many w) ks=if w = "or" then .rm (fun r=>ks.any fun k=>k.set r) else .rm (fun r=>ks.all fun k=>k.set r):=rfl
theorem vdF_way(d:WD){w:Str}(h:w∈(["next", "always", "ever", "until"]:List Str))(ks:List VD):vdF d (.op w) ks=.wy (.op w) (ks.map VD.set):=by
 have q:∀w∈(["next", "always", "ever", "until"]:List Str),¬w = "not" /\ ¬w = "some" /\ ¬w = "all" := by decide +kernel
 obtain⟨q1,q2,q3⟩:=q w h;rw[UE,if_neg q1,if_neg q2,if_neg q3]
theorem WV{d:WD}{k:Tr}(ok:WX k.lb k.ks.length)(h:bkT k = "room"):vdT d k=.rm (soB d k):=by
 have key:∃S,vdT d k=.rm S:=by
  have q3:∀w∈(["next", "always", "ever"]:List Str),w∈(["next", "always", "ever", "until"]:List Str):=by decide +kernel
  rw[Uf];cases VG ok (by rw[h];exact qA) with
  |yes e1 e2 _=>rw[e1];exact⟨_,rfl⟩
  |sign s e1 e2 _=>rw[e1];exact⟨_,rfl⟩
  |not k e1 e2 _ _=>rw[e1,UE,if_pos rfl];exact⟨_,rfl⟩
  |qt w k hw e1 e2 _ _=>
   rw[e1,UE];rcases hw with rfl|rfl
   ·rw[if_neg (by decide +kernel),if_pos rfl];exact⟨_,rfl⟩
   ·rw[if_neg (by decide +kernel),if_neg (by decide +kernel),if_pos rfl];exact⟨_,rfl⟩
  |many w hw e1 _ _=>rw[e1,VR];split<;>exact⟨_,rfl⟩
  |one w k hw e1 e2 _ z=>rw[h] at z;exact absurd z ZR
  |two _ _ e1 _ _ _ z=>rw[h] at z;exact absurd z ZR
  |wit _ _ _ _ _ _ _ _ z=>rw[h] at z;exact absurd z ZR
 obtain⟨S,e⟩:=key;unfold soB;rw[e];rfl
theorem vG{d:WD}{k:Tr}(ok:WX k.lb k.ks.length)(h:bkT k = "way"):vdT d k=.wy k.lb (k.ks.map (soB d)):=by
 have em:(k.ks.map (vdT d)).map VD.set=k.ks.map (soB d):=by rw[mZ];rfl
 have q3:∀w∈(["next", "always", "ever"]:List Str),w∈(["next", "always", "ever", "until"]:List Str):=by decide +kernel
 rw[Uf];cases VG ok (by rw[h];exact vp) with
 |yes e1 e2 z=>rw[h] at z;exact absurd z.symm ZR
 |sign s e1 e2 z=>rw[h] at z;exact absurd z.symm ZR
 |not k e1 e2 _ z=>rw[h] at z;exact absurd z.symm ZR
 |qt w k hw e1 e2 _ z=>rw[h] at z;exact absurd z.symm ZR
 |many w hw e1 _ z=>rw[h] at z;exact absurd z.symm ZR
 |one w k hw e1 e2 _ z=>rw[e1,vdF_way d (q3 w hw),em]
 |two _ _ e1 _ _ _ z=>rw[e1,vdF_way d (by decide +kernel),em]
 |wit m _ _ _ e1 _ _ _ z=>rw[e1,<- em];rfl
inductive RwC(K:W.Frag)(n:Nat)(H:Hp):Lb->List V->List VD->Prop
 |yes:RwC K n H .yes [] []
 |sign (s:Str):RwC K n H (.sign s) [] []
 |not (A:Nat->Bool):RwC K n H (.op "not") [.int (mI A n)] [.rm A]
 |some (b:Addr) (c:Lb) (Ss:List (Nat->Bool)):WyC K n H b c Ss->RwC K n H (.op "some") [.ref b] [.wy c Ss]
 |all (b:Addr) (c:Lb) (Ss:List (Nat->Bool)):WyC K n H b c Ss->RwC K n H (.op "all") [.ref b] [.wy c Ss]
 |many (w:Str) (Ss:List (Nat->Bool)):(w = "and" \/ w = "or")->Ss.length<=8->RwC K n H (.many w) (Ss.map fun S=>.int (mI S n)) (Ss.map VD.rm)
theorem rw_not(d:WD)(A:Nat->Bool):(vdF d (.op "not") [.rm A]).set=fun r=>!A r:=by rw[UE,if_pos rfl];rfl
theorem rw_some(d:WD)(c:Lb)(Ss:List (Nat->Bool)):(vdF d (.op "some") [.wy c Ss]).set=Vi d c Ss:=by rw[UE,if_neg (by decide +kernel),if_pos rfl];rfl
theorem rw_all(d:WD)(c:Lb)(Ss:List (Nat->Bool)):(vdF d (.op "all") [.wy c Ss]).set=VN d c Ss:=by rw[UE,if_neg (by decide +kernel),if_neg (by decide +kernel),if_pos rfl];rfl
theorem rw_or(d:WD)(Ss:List (Nat->Bool)):(vdF d (.many "or") (Ss.map VD.rm)).set=fun r=>Ss.any fun S=>S r:=by
 rw[VR,if_pos rfl]
 funext r
 show(Ss.map VD.rm).any _=_
 rw[oz];rfl
theorem rw_and(d:WD)(Ss:List (Nat->Bool)):(vdF d (.many "and") (Ss.map VD.rm)).set=fun r=>Ss.all fun S=>S r:=by
 rw[VR,if_neg (by decide +kernel)]
 funext r
 show(Ss.map VD.rm).all _=_
 rw[o3];rfl
theorem VdL.one{K:W.Frag}{n:Nat}{H:Hp}{ws:List V}{k:VD}(h:VdL K n H ws [k]):∃v,ws=[v]/\zF K n H v k:=by
 obtain⟨v,rfl⟩:=len1 h.1;exact⟨v,rfl,h.2 0 v k rfl rfl⟩
theorem VdL.two{K:W.Frag}{n:Nat}{H:Hp}{ws:List V}{k l:VD}(h:VdL K n H ws [k,l]):∃v u,ws=[v,u]/\zF K n H v k/\zF K n H u l:=by
 obtain⟨v,u,rfl⟩:=len2 h.1;exact⟨v,u,rfl,h.2 0 v k rfl rfl,h.2 1 u l rfl rfl⟩
theorem rwc_of{K:W.Frag}{n:Nat}{H:Hp}{ws:List V}{d:WD}{r:Tr}(ok:WX r.lb r.ks.length)(kk:∀kt∈r.ks,WX kt.lb kt.ks.length)(wk:∀kt∈r.ks,bkT kt = "way" -> ∀v,zF K n H v (vdT d kt)->∃b c Ss,v=.ref b/\vdT d kt=.wy c Ss/\WyC K n H b c Ss)(h:bkT r = "room")(vd:VdL K n H ws (r.ks.map (vdT d))):RwC K n H r.lb ws (r.ks.map (vdT d)):=by
 cases VG ok (by rw[h];exact qA) with
 |yes e1 e2 _=>
  rw[e2] at vd;have:ws=[]:=pV.mp vd.1;rw[e1,e2,this];exact .yes
 |sign s e1 e2 _=>
  rw[e2] at vd;have:ws=[]:=pV.mp vd.1;rw[e1,e2,this];exact .sign s
 |not k e1 e2 e3 _=>
  have hk:=WV (d:=d) (kk k (by rw[e2];simp)) e3;rw[e2,mV,nO,hk] at vd ⊢;obtain⟨v,rfl,hv⟩:=vd.one;have:v=.int (mI (soB d k) n):=hv;rw[e1,this];exact .not _
 |qt w k hw e1 e2 e3 _=>
  have wk':=wk k (by rw[e2];simp) e3;rw[e2,mV,nO] at vd ⊢;obtain⟨v,rfl,hv⟩:=vd.one;obtain⟨b,c,Ss,rfl,ev,wy⟩:=wk' v hv;rw[e1,ev];rcases hw with rfl|rfl
  ·exact .some b c Ss wy
  ·exact .all b c Ss wy
 |many w hw e1 e3 _=>
  have em:r.ks.map (vdT d)=(r.ks.map (soB d)).map VD.rm:=by
   rw[mZ];exact oT fun k hk=>WV (kk k hk) (e3 k hk)
  rw[em] at vd ⊢;rw[vd.rms,e1];rw[e1] at ok;exact .many w _ hw (by rw[mM];exact ok.2)
 |one w k hw e1 e2 _ z=>rw[h] at z;exact absurd z ZR
 |two _ _ e1 _ _ _ z=>rw[h] at z;exact absurd z ZR
 |wit _ _ _ _ _ _ _ _ z=>rw[h] at z;exact absurd z ZR
theorem wk_of{K:W.Frag}{n:Nat}{H:Hp}{d:WD}{k:Tr}{v:V}(ok:WX k.lb k.ks.length)(h:bkT k = "way")(hv:zF K n H v (vdT d k)):∃b c Ss,v=.ref b/\vdT d k=.wy c Ss/\WyC K n H b c Ss:=by
 rw[vG ok h] at hv ⊢;obtain⟨b,e,q⟩:=hv;exact⟨b,_,_,e,rfl,q⟩
theorem wyc_of{K:W.Frag}{n:Nat}{H:Hp}{ad:Addr}{us ws:List V}{d:WD}{r:Tr}(ok:WX r.lb r.ks.length)(kk:∀kt∈r.ks,WX kt.lb kt.ks.length)(h:bkT r = "way")(sh:Ux K H ad us r.lb)(vd:VdL K n H ws (r.ks.map (vdT d))) :
  ∃hd:List V,SqT K H ad (hd++us)/\hd≠[]/\hd.length<=2/\1<=r.ks.length/\r.ks.length<=2/\∀(H':Hp) q,SqT K H' q (hd++ws)->zF K n H' (.ref q) (vdF d r.lb (r.ks.map (vdT d))):=by
 have ev:vdF d r.lb (r.ks.map (vdT d))=.wy r.lb (r.ks.map (soB d)):=by rw[<- Uf,vG ok h]
 rw[ev];cases VG ok (by rw[h];exact vp) with
 |yes e1 e2 z=>rw[h] at z;exact absurd z.symm ZR
 |sign s e1 e2 z=>rw[h] at z;exact absurd z.symm ZR
 |not k e1 e2 _ z=>rw[h] at z;exact absurd z.symm ZR
 |qt w k hw e1 e2 _ z=>rw[h] at z;exact absurd z.symm ZR
 |many w hw e1 _ z=>rw[h] at z;exact absurd z.symm ZR
 |one w k hw e1 e2 e3 z=>
  have hk:=WV (d:=d) (kk k (by rw[e2];simp)) e3;rw[e2,mV,nO,hk] at vd;obtain⟨v,rfl,hv⟩:=vd.one;have hv':v=.int (mI (soB d k) n):=hv;subst hv';rw[e1] at sh ⊢;rw[e2];exact⟨[.str w],sh,by simp,by simp,by simp,by simp,fun H' q hq=>⟨q,rfl,.one w _ hw hq⟩⟩
 |two k l e1 e2 e3 e4 z=>
  have hk:=WV (d:=d) (kk k (by rw[e2];simp)) e3;have hl:=WV (d:=d) (kk l (by rw[e2];simp)) e4;rw[e2,mV,mV,nO,hk,hl] at vd;obtain⟨v,u,rfl,hv,hu⟩:=vd.two;have hv':v=.int (mI (soB d k) n):=hv;have hu':u=.int (mI (soB d l) n):=hu;subst hv';subst hu';rw[e1] at sh ⊢;rw[e2];exact⟨[.str "until"],sh,by simp,by simp,by simp,by simp,fun H' q hq=>⟨q,rfl,.two _ _ hq⟩⟩
 |wit m k l hm e1 e2 e3 e4 z=>
  have hk:=WV (d:=d) (kk k (by rw[e2];simp)) e3;have hl:=WV (d:=d) (kk l (by rw[e2];simp)) e4;rw[e2,mV,mV,nO,hk,hl] at vd;obtain⟨v,u,rfl,hv,hu⟩:=vd.two;have hv':v=.int (mI (soB d k) n):=hv;have hu':u=.int (mI (soB d l) n):=hu;subst hv';subst hu';rw[e1] at sh ⊢;rw[e2];exact⟨[.str "within",.int (m:Int)],sh,by simp,by simp,by simp,by simp,fun H' q hq=>⟨q,rfl,.wit m _ _ hm hq⟩⟩
theorem sIx_neg{m p:Nat}(p1:1<=p)(hp:p<=m)(z:Nat):HT.sIx m z (some (-(p:Int)))=m-p:=by
 show(if(-(p:Int))<0 then(-(p:Int)+(m:Nat)).toNat else min (-(p:Int)).toNat m)=_
 rw[if_pos (by omega)];omega
theorem cutV_pre(hd us:List V)(p1:1<=us.length):qm (hd++us) none (some (-((us.length:Nat):Int)))=hd:=by
 unfold qm;rw[sIx_neg p1 (by rw[mT];omega),HT.sIx_none];rw[mT,List.drop_zero];rw[show hd.length+us.length-us.length-0=hd.length by omega,List.take_left]
theorem sIx_pre(hd us:List V)(p1:1<=us.length):¬(HT.sIx (hd++us).length 0 none=0/\HT.sIx (hd++us).length (hd++us).length (some (-((us.length:Nat):Int)))=(hd++us).length):=by
 rintro⟨_,h⟩;rw[sIx_neg p1 (by rw[mT];omega),mT] at h;omega
theorem way_word{r:Tr}(ok:WX r.lb r.ks.length)(h:bkT r = "way"):WR r.lb∈(["next", "until", "always", "ever", "within"]:List Str):=by
 have q:∀w∈(["next", "always", "ever"]:List Str),w∈(["next", "until", "always", "ever", "within"]:List Str):=by decide +kernel
 cases VG ok (by rw[h];exact vp) with
 |yes e1 e2 z=>rw[h] at z;exact absurd z.symm ZR
 |sign s e1 e2 z=>rw[h] at z;exact absurd z.symm ZR
 |not k e1 e2 _ z=>rw[h] at z;exact absurd z.symm ZR
 |qt w k hw e1 e2 _ z=>rw[h] at z;exact absurd z.symm ZR
 |many w hw e1 _ z=>rw[h] at z;exact absurd z.symm ZR
 |one w k hw e1 e2 e3 z=>rw[e1];exact q w hw
 |two k l e1 e2 e3 e4 z=>rw[e1];exact(by decide +kernel:("until" : Str)∈(["next", "until", "always", "ever", "within"]:List Str))
 |wit m k l hm e1 e2 e3 e4 z=>rw[e1];exact(by decide +kernel:("within" : Str)∈(["next", "until", "always", "ever", "within"]:List Str))
theorem room_word{r:Tr}(ok:WX r.lb r.ks.length)(h:bkT r = "room"):WR r.lb∉(["next", "until", "always", "ever", "within"]:List Str):=by
 cases VG ok (by rw[h];exact qA) with
 |yes e1 e2 z=>rw[e1];exact(by decide +kernel:("yes" : Str)∉(["next", "until", "always", "ever", "within"]:List Str))
 |sign s e1 e2 z=>rw[e1];exact(by decide +kernel:("sign" : Str)∉(["next", "until", "always", "ever", "within"]:List Str))
 |not k e1 e2 _ z=>rw[e1];exact(by decide +kernel:("not" : Str)∉(["next", "until", "always", "ever", "within"]:List Str))
 |qt w k hw e1 e2 _ z=>
  rw[e1];rcases hw with rfl|rfl
  ·exact(by decide +kernel:("some" : Str)∉(["next", "until", "always", "ever", "within"]:List Str))
  ·exact(by decide +kernel:("all" : Str)∉(["next", "until", "always", "ever", "within"]:List Str))
 |many w hw e1 _ z=>
  rw[e1];rcases hw with rfl|rfl
  ·exact(by decide +kernel:("and" : Str)∉(["next", "until", "always", "ever", "within"]:List Str))
  ·exact(by decide +kernel:("or" : Str)∉(["next", "until", "always", "ever", "within"]:List Str))
 |one w k hw e1 e2 _ z=>rw[h] at z;exact absurd z ZR
 |two _ _ e1 _ _ _ z=>rw[h] at z;exact absurd z ZR
 |wit _ _ _ _ _ _ _ _ z=>rw[h] at z;exact absurd z ZR
theorem jV{r:Tr}(ok:WX r.lb r.ks.length)(h:bkT r ≠ "neither"):bkT r = "room" \/ bkT r = "way" := by
 cases VG ok h with
 |yes e1 e2 z=>exact .inl z
 |sign s e1 e2 z=>exact .inl z
 |not k e1 e2 _ z=>exact .inl z
 |qt w k hw e1 e2 _ z=>exact .inl z
 |many w hw e1 _ z=>exact .inl z
 |one w k hw e1 e2 e3 z=>exact .inr z
 |two k l e1 e2 e3 e4 z=>exact .inr z
 |wit m k l hm e1 e2 e3 e4 z=>exact .inr z
section
variable{W:Nat->List Nat}{n:Nat}
structure RcI(W:Nat->List Nat)(n:Nat)(I:Nat->Bool)(a:Nat)(F L:List Nat):Prop where
 nd:F.Nodup
 lt:∀y∈F,y<n
 aF:a∈F
 sub:∀y∈L,y∈F
 rt:∀y∈F,Rt (EW W) (toP I n) a y
 cl:∀y∈F,y∉L->∀q∈W y,I q=true->q∈F
theorem RcI.start{I:Nat->Bool}{a:Nat}(h:a<n):RcI W n I a [a] [a]:=⟨by simp,by simpa using h,by simp,by simp,fun y hy=>by rw[nj] at hy;subst hy;exact .here,fun y h1 h2=>absurd h1 h2⟩
structure RcJ(W:Nat->List Nat)(n:Nat)(I:Nat->Bool)(a x j:Nat)(F L:List Nat):Prop where
 nd:F.Nodup
 lt:∀y∈F,y<n
 aF:a∈F
 xF:x∈F
 sub:∀y∈L,y∈F
 rt:∀y∈F,Rt (EW W) (toP I n) a y
 cl:∀y∈F,y∉L->y≠x->∀q∈W y,I q=true->q∈F
 cx:∀k<j,∀q,(W x)[k]?=some q->I q=true->q∈F
theorem RcI.pop{I:Nat->Bool}{a x:Nat}{F L:List Nat}(h:RcI W n I a F (L++[x])):RcJ W n I a x 0 F L:=⟨h.nd,h.lt,h.aF,h.sub x (by simp),fun y hy=>h.sub y (by simp[hy]),h.rt,fun y hy h1 h2=>h.cl y hy (by simp[h1,h2]),fun k hk=>absurd hk (o4 _)⟩
theorem RcJ.skip{I:Nat->Bool}{a x j q:Nat}{F L:List Nat}(h:RcJ W n I a x j F L)(hq:(W x)[j]?=some q)(c:I q=true->q∈F):RcJ W n I a x (j+1) F L:=⟨h.nd,h.lt,h.aF,h.xF,h.sub,h.rt,h.cl,fun k hk q' e=>by
 by_cases z:k=j
 ·subst z;rw[hq] at e;cases e;exact c
 ·exact h.cx k (by omega) q' e⟩
theorem RcJ.put{I:Nat->Bool}{a x j q:Nat}{F L:List Nat}(h:RcJ W n I a x j F L)(hq:(W x)[j]?=some q)(i:I q=true)(lq:q<n)(nq:q∉F):RcJ W n I a x (j+1) (F++[q]) (L++[q]):=by
 refine⟨?_,fun y hy=>?_,by simp[h.aF],by simp[h.xF],fun y hy=>?_,fun y hy=>?_,fun y hy h1 h2 p hp ip=>?_,fun k hk p e ip=>?_⟩
 ·rw[oS];exact⟨h.nd,by simp,fun b hb c hc e=>nq (by rw[nj] at hc;rw[<- hc,<- e];exact hb)⟩
 ·rcases nE.mp hy with hy|hy
  ·exact h.lt y hy
  ·rw[nj] at hy;rw[hy];exact lq
 ·rcases nE.mp hy with hy|hy
  ·simp[h.sub y hy]
  ·simp[hy]
 ·rcases nE.mp hy with hy|hy
  ·exact h.rt y hy
  ·rw[nj] at hy;subst hy;exact .on (h.rt x h.xF) (om hq) ⟨lq,i⟩
 ·rcases nE.mp hy with hy|hy
  ·exact oB _ (h.cl y hy (fun z=>h1 (by simp[z])) h2 p hp ip)
  ·exact absurd (nU _ hy) h1
 ·by_cases z:k=j
  ·subst z;rw[hq] at e;cases e;simp
  ·exact oB _ (h.cx k (by omega) p e ip)
theorem RcJ.done{I:Nat->Bool}{a x:Nat}{F L:List Nat}(h:RcJ W n I a x (W x).length F L):RcI W n I a F L:=⟨h.nd,h.lt,h.aF,h.sub,h.rt,fun y hy h1 q hq iq=>by
 by_cases z:y=x
 ·subst z;obtain⟨k,hk,e⟩:=oH hq;exact h.cx k hk q (by rw[mO hk,e]) iq
 ·exact h.cl y hy h1 z q hq iq⟩
theorem RcI.len{I:Nat->Bool}{a:Nat}{F L:List Nat}(h:RcI W n I a F L):F.length<=n:=by
 have:=Yo (l₂:=List.range n) h.nd fun x hx=>mX.mpr (h.lt x hx)
 rwa [m9] at this
theorem RcJ.len{I:Nat->Bool}{a x j:Nat}{F L:List Nat}(h:RcJ W n I a x j F L):F.length<=n:=by
 have:=Yo (l₂:=List.range n) h.nd fun x hx=>mX.mpr (h.lt x hx)
 rwa [m9] at this
theorem RcI.fin{I:Nat->Bool}{a:Nat}{F:List Nat}(h:RcI W n I a F [])(y:Nat):y∈F↔Rt (EW W) (toP I n) a y:=⟨h.rt y,fun r=>by
 induction r with
 |here=>exact h.aF
 |on _ e i ih=>exact h.cl _ ih (by simp) _ e i.2⟩
structure CkI(W:Nat->List Nat)(n:Nat)(A G:Nat->Bool)(a:Nat)(F L:List Nat)(h:Bool):Prop where
 nd:F.Nodup
 lt:∀y∈F,y<n
 aF:a∈F
 sub:∀y∈L,y∈F
 cm:∀y∈F,Cm (EW W) (toP A n) (toP G n) y->Cm (EW W) (toP A n) (toP G n) a
 cl:∀y∈F,y∉L->A y=true->∀q∈W y,q∈F
 g:∀y∈F,y∉L->G y=true->h=true
 h:h=true->Cm (EW W) (toP A n) (toP G n) a
structure CkJ(W:Nat->List Nat)(n:Nat)(A G:Nat->Bool)(a x j:Nat)(F L:List Nat)(h:Bool):Prop where
 nd:F.Nodup
 lt:∀y∈F,y<n
 aF:a∈F
 xF:x∈F
 sub:∀y∈L,y∈F
 cm:∀y∈F,Cm (EW W) (toP A n) (toP G n) y->Cm (EW W) (toP A n) (toP G n) a
 cl:∀y∈F,y∉L->y≠x->A y=true->∀q∈W y,q∈F
 cx:A x=true->∀k<j,∀q,(W x)[k]?=some q->q∈F
 g:∀y∈F,y∉L->G y=true->h=true
 h:h=true->Cm (EW W) (toP A n) (toP G n) a
theorem CkI.start{A G:Nat->Bool}{a:Nat}(h:a<n):CkI W n A G a [a] [a] false:=⟨by simp,by simpa using h,by simp,by simp,fun y hy c=>by rw[nj] at hy;subst hy;exact c,fun y h1 h2=>absurd h1 h2,fun y h1 h2=>absurd h1 h2,fun z=>by cases z⟩
theorem CkI.pop{A G:Nat->Bool}{a x:Nat}{F L:List Nat}{h:Bool}(i:CkI W n A G a F (L++[x]) h):CkJ W n A G a x 0 F L (h||G x):=by
 have hx:=i.sub x (by simp);refine⟨i.nd,i.lt,i.aF,hx,fun y hy=>i.sub y (by simp[hy]),i.cm,fun y hy h1 h2=>i.cl y hy (by simp[h1,h2]),fun _ k hk=>absurd hk (o4 _),fun y hy h1 gy=>?_,fun z=>?_⟩
 ·by_cases e:y=x
  ·subst e;rw[gy,Bool.or_true]
  ·rw[i.g y hy (by simp[h1,e]) gy];rfl
 ·cases e:h with
  |true=>exact i.h e
  |false=>
   rw[e,Bool.false_or] at z;exact i.cm x hx (.here ⟨i.lt x hx,z⟩)
theorem CkJ.skip{A G:Nat->Bool}{a x j q:Nat}{F L:List Nat}{h:Bool}(i:CkJ W n A G a x j F L h)(hq:(W x)[j]?=some q)(c:A x=true->q∈F):CkJ W n A G a x (j+1) F L h:=⟨i.nd,i.lt,i.aF,i.xF,i.sub,i.cm,i.cl,fun ax k hk q' e=>by
 by_cases z:k=j
 ·subst z;rw[hq] at e;cases e;exact c ax
 ·exact i.cx ax k (by omega) q' e,i.g,i.h⟩
theorem CkJ.put{A G:Nat->Bool}{a x j q:Nat}{F L:List Nat}{h:Bool}(i:CkJ W n A G a x j F L h)(hq:(W x)[j]?=some q)(ax:A x=true)(lq:q<n)(nq:q∉F):CkJ W n A G a x (j+1) (F++[q]) (L++[q]) h:=by
 refine⟨?_,fun y hy=>?_,by simp[i.aF],by simp[i.xF],fun y hy=>?_,fun y hy c=>?_,fun y hy h1 h2 ay p hp=>?_,fun _ k hk p e=>?_,fun y hy h1 gy=>?_,i.h⟩
 ·rw[oS];exact⟨i.nd,by simp,fun b hb c hc e=>nq (by rw[nj] at hc;rw[<- hc,<- e];exact hb)⟩
 ·rcases nE.mp hy with hy|hy
  ·exact i.lt y hy
  ·rw[nj] at hy;rw[hy];exact lq
 ·rcases nE.mp hy with hy|hy
  ·simp[i.sub y hy]
  ·simp[hy]
 ·rcases nE.mp hy with hy|hy
  ·exact i.cm y hy c
  ·rw[nj] at hy;subst hy;exact i.cm x i.xF (.on ⟨i.lt x i.xF,ax⟩ (om hq) c)
 ·rcases nE.mp hy with hy|hy
  ·exact oB _ (i.cl y hy (fun z=>h1 (by simp[z])) h2 ay p hp)
  ·exact absurd (nU _ hy) h1
 ·by_cases z:k=j
  ·subst z;rw[hq] at e;cases e;simp
  ·exact oB _ (i.cx ax k (by omega) p e)
 ·rcases nE.mp hy with hy|hy
  ·exact i.g y hy (fun z=>h1 (by simp[z])) gy
  ·exact absurd (nU _ hy) h1
theorem CkJ.done{A G:Nat->Bool}{a x:Nat}{F L:List Nat}{h:Bool}(i:CkJ W n A G a x (W x).length F L h):CkI W n A G a F L h:=⟨i.nd,i.lt,i.aF,i.sub,i.cm,fun y hy h1 ay q hq=>by
 by_cases z:y=x
 ·subst z;obtain⟨k,hk,e⟩:=oH hq;exact i.cx ay k hk q (by rw[mO hk,e])
 ·exact i.cl y hy h1 z ay q hq,i.g,i.h⟩
theorem CkI.len{A G:Nat->Bool}{a:Nat}{F L:List Nat}{h:Bool}(i:CkI W n A G a F L h):F.length<=n:=by
 have:=Yo (l₂:=List.range n) i.nd fun x hx=>mX.mpr (i.lt x hx)
 rwa [m9] at this
theorem CkJ.len{A G:Nat->Bool}{a x j:Nat}{F L:List Nat}{h:Bool}(i:CkJ W n A G a x j F L h):F.length<=n:=by
 have:=Yo (l₂:=List.range n) i.nd fun x hx=>mX.mpr (i.lt x hx)
 rwa [m9] at this
theorem CkI.fin{A G:Nat->Bool}{a:Nat}{F:List Nat}{h:Bool}(i:CkI W n A G a F [] h):h=true↔Cm (EW W) (toP A n) (toP G n) a:=⟨i.h,fun c=>by
 have key:∀y,Cm (EW W) (toP A n) (toP G n) y->y∈F->h=true:=fun y c=>by
  induction c with
  |here g=>exact fun hy=>i.g _ hy (by simp) g.2
  |on a e _ ih=>exact fun hy=>ih (i.cl _ hy (by simp) a.2 _ e)
 exact key a c i.aF⟩
end
def yt(d:WD)(I:Nat->Bool)(R:Nat->List Nat)(x:Nat):Bool:=(I x&&(WN d x).any fun q=>I q&&decide (x∈R q))&&d.fair.all fun s=>((R x).filter fun o=>decide (x∈R o)).any fun o=>sgB d s o
theorem kc{d:WD}(g:XR d){I:Nat->Bool}{R:Nat->List Nat}(hR:∀r<d.signs.length,∀y,y∈R r↔Rt (EW (WN d)) (toP I d.signs.length) r y){x:Nat}(hx:x<d.signs.length):yt d I R x=true↔Ring (EW (WN d)) (toP I d.signs.length) ((XN d).map fun g=>toP g d.signs.length) x:=by
 unfold yt;rw[m8,m8,oR,nY];constructor
 ·rintro⟨⟨ix,q,hq,e⟩,hh⟩;rw[m8,oG] at e;have lq:=WL g x hx q hq;refine⟨⟨hx,ix⟩,⟨q,hq,⟨lq,e.1⟩,(hR q lq x).mp e.2⟩,fun p hp=>?_⟩;obtain⟨S,hS,rfl⟩:=mW.mp hp;unfold XN at hS
  by_cases z:d.fair=[]
  ·rw[if_pos z,nj] at hS;subst hS;exact⟨x,.here,.here,hx,rfl⟩
  ·rw[if_neg z] at hS;obtain⟨s,hs,rfl⟩:=mW.mp hS;obtain⟨o,ho,so⟩:=oR.mp (hh s hs);obtain⟨o1,o2⟩:=n5.mp ho;have ro:=(hR x hx o).mp o1;have lo:o<d.signs.length:=(ro.inI ⟨hx,ix⟩).1;exact⟨o,ro,(hR o lo x).mp (ny o2),lo,so⟩
 ·intro h;obtain⟨q,hq,iq,rq⟩:=h.goes;refine⟨⟨h.i.2,q,hq,?_⟩,fun s hs=>?_⟩
  ·rw[iq.2,Bool.true_and,oG];exact(hR q iq.1 x).mpr rq
  ·have ne:d.fair≠[]:=fun z=>by rw[z] at hs;cases hs
   obtain⟨y,xy,yx,ly,sy⟩:=h.has (toP (sgB d s) d.signs.length) (mW.mpr ⟨sgB d s,by unfold XN;rw[if_neg ne];exact mW.mpr ⟨s,hs,rfl⟩,rfl⟩);exact oR.mpr ⟨y,n5.mpr ⟨(hR x hx y).mpr xy,nG ((hR y ly x).mpr yx)⟩,sy⟩
theorem fr_by{d:WD}(g:XR d){I:Nat->Bool}{R:Nat->List Nat}(hR:∀r<d.signs.length,∀y,y∈R r↔Rt (EW (WN d)) (toP I d.signs.length) r y){r:Nat}(hr:r<d.signs.length):(I r&&(R r).any (yt d I R))=frB d I r:=by
 rw[n6,U9,m8,oR];constructor
 ·rintro⟨ir,x,hx,rx⟩;have k:=(hR r hr x).mp hx;exact⟨ir,x,k,(kc g hR (k.inI ⟨hr,ir⟩).1).mp rx⟩
 ·rintro⟨ir,x,k,rx⟩;exact⟨ir,x,(hR r hr x).mpr k,(kc g hR (k.inI ⟨hr,ir⟩).1).mpr rx⟩
def BL(H:Hp)(b:Addr)(n:Nat)(S:Nat->Bool):Prop:=H b=some (.lst ((List.range n).map fun r=>V.bl (S r)))
theorem BL.ext{H:Hp}{b:Addr}{n:Nat}{S T:Nat->Bool}(e:∀r<n,S r=T r)(h:BL H b n S):BL H b n T:=by
 unfold BL at h ⊢;rw[h]
 congr 2
 exact oT fun r hr=>by rw[e r (mX.mp hr)]
theorem Ym{n:Nat}{S:Nat->Bool}{r:Nat}(hr:r<n):atI ((List.range n).map fun r=>V.bl (S r)) (r:Int)=some (.bl (S r)):=Zt (by rw[mU,pe hr];rfl)
structure zB(H:Hp)(t:Addr)(d:WD):Prop where
 ex:∃s w st f nm,H t=some (.tup [s,w,st,f,nm])/\X6 H s w st f d
def nV(l:List Nat):List V:=l.map fun y:Nat=>V.int (y:Int)
theorem nV_eq(l:List Nat):nV l=(l.map fun y:Nat=>(y:Int)).map V.int:=by unfold nV;rw[mZ];rfl
theorem VT(l:List Nat):(nV l).length=l.length:=mM ..
theorem US(l m:List Nat):nV (l++m)=nV l++nV m:=nP ..
theorem nV_at{l:List Nat}{i:Nat}(h:i<l.length):(nV l)[i]?=some (.int (l[i]:Int)):=by unfold nV;rw[mU,mO h];rfl
theorem W4(n:Nat):(List.replicate ((n:Int)).toNat [V.bl true]).flatten=(List.range n).map fun r=>V.bl ((fun _:Nat=>true) r):=by
 rw[mY]
 induction n with
 |zero=>rfl
 |succ n ih=>rw[List.replicate_succ',List.flatten_append,ih,pf,nP];rfl
theorem nV_in{q:Nat}{l:List Nat}:inV (.int (q:Int)) (nV l)=decide (q∈l):=by
 rw[nV_eq,inV_int,oF];constructor
 ·intro h;obtain⟨y,hy,e⟩:=mW.mp h;have:y=q:=by omega
  rw[<- this];exact hy
 ·intro h;exact mW.mpr ⟨q,h,rfl⟩
theorem qp(l:List Nat):(nV l).all V2=true:=by
 rw[nY];intro x hx;obtain⟨y,_,rfl⟩:=mW.mp hx;rfl
theorem or_v{h c:Bool}{P:V->Prop}{R:Prop}(q:P (.bl (h||c)))(hp:P (.bl c)->R):if h=true then P (.bl true) else R:=by
 cases h with
 |true=>exact YM q
 |false=>exact Z6 (hp q)
theorem Vk{h c:Bool}{P:V->Prop}{R:Prop}(q:P (.bl (h&&c)))(hp:P (.bl c)->R):if h=true then R else P (.bl false):=by
 cases h with
 |true=>exact YM (hp q)
 |false=>exact Z6 q
theorem V5{n:Nat}{f:Nat->V}:((List.range n).map f).length=n:=by rw[mM,m9]
theorem vX(n:Nat):(upTo (n:Int)).map V.int=nV (List.range n):=by
 rw[nV_eq];congr 1
theorem U3{d:WD}{r:Nat}(h:r<d.ways.length)(S:Nat->Bool):(d.ways[r].map fun x=>S x.toNat).any id=ldB (WN d) S r:=by
 unfold ldB WN;rw[mO h]
 show _=((d.ways[r]).map Int.toNat).any S
 rw[oz,oz];rfl
theorem sV_flat(l:List Str):(l.map V.str).all V2=true:=by
 rw[nY];intro x hx;obtain⟨y,_,rfl⟩:=mW.mp hx;rfl
def inOf:Value->Int
 |.int x _=>x
 |_=>0
def SetZ(prog:Program)(w:World)(B:Bool)(h:Heap)(a:Addr)(ss:List Int):Prop:=
 ∃o es ep t,h.get? a=some o/\o.ExactSet/\o.data=.set es ep t/\t.fits es.size=true/\ElemsOf (Z3 prog w) es.toList/\(B=false->t.led=true) /\
  (∀e∈es.toList,∃x k,e.2=.int x k)/\(es.toList.map fun e=>inOf e.2).Nodup/\(∀x,x∈(es.toList.map fun e=>inOf e.2)↔x∈ss)/\es.size<=ss.length
section
variable{prog:Program}{w:World}{A:Around}{E:Value->Shared->Prop}{s:Shared}
end
end L3
namespace L3
open PySem PySem.Spec PyProof.Rows
section
variable{prog:Program}{w:World}{A:Around}{E:Value->Shared->Prop}{s:Shared}
theorem ia_of:∀{l:List Value},(∀v∈l,∃i t,v=.int i t)->IntsAre l (l.map inOf)
 |[],_=>.nil
 |v::r,h=>by
  obtain⟨i,t,rfl⟩:=h v (by simp);exact .cons i t (ia_of fun u m=>h u (oe _ m))
theorem ia_to:∀{l:List Value}{ns:List Int},IntsAre l ns->l.map inOf=ns/\∀v∈l,∃t,v=.int (inOf v) t
 |_,_,.nil=>⟨rfl,nofun⟩
 |_,_,.cons n t h=>by
  obtain⟨h1,h2⟩:=ia_to h;refine⟨by rw[mV,h1];rfl,fun v m=>?_⟩;rcases nu.mp m with rfl|m
  ·exact⟨t,rfl⟩
  ·exact h2 v m
end
end L3
namespace L3
open PySem PySem.Spec PyProof.Rows L2
theorem xD:∀{out:List Value},(∀v∈out,∃i t,v=.int i t)->ZP ((out.map inOf).map V.int) out
 |[],_=>.nil
 |v::r,h=>by
  obtain⟨i,t,rfl⟩:=h v (by simp);exact .cons ⟨t,rfl⟩ (xD fun u m=>h u (oe _ m))
section
variable{X:Cx}{K:W.Frag}{Pm:Params}
end
theorem zB.mono{H H':Hp}{t:Addr}{d:WD}(s:Zf H H')(h:zB H t d):zB H' t d:=by
 obtain⟨a,b,c,e,f,h1,h2⟩:=h.ex;exact⟨a,b,c,e,f,s _ _ h1,h2.mono s⟩
inductive PtC(K:W.Frag)(n:Nat)(H:Hp)(b:Addr)(r:Tr):Prop
 |one (w:Str) (u:V) (k:Tr):w∈(["next", "always", "ever"]:List Str)->r.lb=.op w->r.ks=[k]->SqT K H b [.str w,u]->At K n H u k->bkT k = "room" -> PtC K n H b r
 |two (u v:V) (k l:Tr):r.lb=.op "until" -> r.ks=[k,l]->SqT K H b [.str "until",u,v]->At K n H u k->At K n H v l->bkT k = "room" -> bkT l = "room" -> PtC K n H b r
 |wit (m:Nat) (u v:V) (k l:Tr):m<=5->r.lb=.wit (m:Int)->r.ks=[k,l]->SqT K H b [.str "within",.int (m:Int),u,v]->At K n H u k->At K n H v l->bkT k = "room" -> bkT l = "room" -> PtC K n H b r
inductive RmC(K:W.Frag)(n:Nat)(H:Hp)(b:Addr)(r:Tr):Prop
 |yes:r.lb=.yes->SqT K H b [.str "yes"]->RmC K n H b r
 |sign (s:Str):r.lb=.sign s->SqT K H b [.str "sign",.str s]->RmC K n H b r
 |not (u:V) (k:Tr):r.lb=.op "not" -> r.ks=[k]->SqT K H b [.str "not",u]->At K n H u k->bkT k = "room" -> RmC K n H b r
 |qt (w:Str) (u:V) (k:Tr):(w = "some" \/ w = "all")->r.lb=.op w->r.ks=[k]->SqT K H b [.str w,u]->At K n H u k->bkT k = "way" -> RmC K n H b r
 |many (w:Str) (q:Addr) (us:List V):(w = "and" \/ w = "or")->r.lb=.many w->SqT K H b [.str w,.ref q]->SqT K H q us->AtL K n H us r.ks->(∀k∈r.ks,bkT k = "room")->us.length<=8->RmC K n H b r
theorem ptc_of{K:W.Frag}{n:Nat}{H:Hp}{v:V}{r:Tr}(h:At K (n+1) H v r)(bk:bkT r = "way"):∃b,v=.ref b/\PtC K n H b r:=by
 obtain⟨b,us,rfl,sh,ok,hl,q⟩:=h;refine⟨b,rfl,?_⟩;cases VG ok (by rw[bk];exact vp) with
 |yes e1 e2 z=>rw[bk] at z;exact absurd z.symm ZR
 |sign s e1 e2 z=>rw[bk] at z;exact absurd z.symm ZR
 |not k e1 e2 _ z=>rw[bk] at z;exact absurd z.symm ZR
 |qt w k hw e1 e2 _ z=>rw[bk] at z;exact absurd z.symm ZR
 |many w hw e1 _ z=>rw[bk] at z;exact absurd z.symm ZR
 |one w k hw e1 e2 e3 z=>
  rw[e2] at hl q;obtain⟨u,rfl⟩:=len1 hl;rw[e1] at sh;exact .one w u k hw e1 e2 sh (q 0 u k rfl rfl) e3
 |two k l e1 e2 e3 e4 z=>
  rw[e2] at hl q;obtain⟨u,v,rfl⟩:=len2 hl;rw[e1] at sh;exact .two u v k l e1 e2 sh (q 0 u k rfl rfl) (q 1 v l rfl rfl) e3 e4
 |wit m k l hm e1 e2 e3 e4 z=>
  rw[e2] at hl q;obtain⟨u,v,rfl⟩:=len2 hl;rw[e1] at sh;exact .wit m u v k l hm e1 e2 sh (q 0 u k rfl rfl) (q 1 v l rfl rfl) e3 e4
theorem rmc_of{K:W.Frag}{n:Nat}{H:Hp}{v:V}{r:Tr}(h:At K (n+1) H v r)(bk:bkT r = "room"):∃b,v=.ref b/\RmC K n H b r:=by
 obtain⟨b,us,rfl,sh,ok,hl,q⟩:=h;refine⟨b,rfl,?_⟩;cases VG ok (by rw[bk];exact qA) with
 |yes e1 e2 z=>rw[e1] at sh;exact .yes e1 sh.2
 |sign s e1 e2 z=>rw[e1] at sh;exact .sign s e1 sh.2
 |not k e1 e2 e3 z=>
  rw[e2] at hl q;obtain⟨u,rfl⟩:=len1 hl;rw[e1] at sh;exact .not u k e1 e2 sh (q 0 u k rfl rfl) e3
 |qt w k hw e1 e2 e3 z=>
  rw[e2] at hl q;obtain⟨u,rfl⟩:=len1 hl;rw[e1] at sh;exact .qt w u k hw e1 e2 sh (q 0 u k rfl rfl) e3
 |many w hw e1 e3 z=>
  rw[e1] at sh ok;obtain⟨p,s1,s2⟩:=sh;exact .many w p us hw e1 s1 s2 ⟨hl,q⟩ e3 (by rw[hl];exact ok.2)
 |one w k hw e1 e2 _ z=>rw[bk] at z;exact absurd z ZR
 |two _ _ e1 _ _ _ z=>rw[bk] at z;exact absurd z ZR
 |wit _ _ _ _ _ _ _ _ z=>rw[bk] at z;exact absurd z ZR
theorem so_yes{d:WD}{r:Tr}(e:r.lb=.yes):soB d r=fun _=>true:=by unfold soB;rw[Uf,e];rfl
theorem so_sign{d:WD}{r:Tr}{s:Str}(e:r.lb=.sign s):soB d r=sgB d s:=by unfold soB;rw[Uf,e];rfl
theorem so_not{d:WD}{r k:Tr}(e:r.lb=.op "not")(e2:r.ks=[k]):soB d r=fun x=>!soB d k x:=by
 unfold soB;rw[Uf,e,e2,UE,if_pos rfl];rfl
theorem so_some{d:WD}{r k:Tr}(e:r.lb=.op "some")(e2:r.ks=[k])(ok:WX k.lb k.ks.length)(bk:bkT k = "way"):soB d r=Vi d k.lb (k.ks.map (soB d)):=by
 unfold soB;rw[Uf,e,e2,mV,nO,vG ok bk];exact rw_some d _ _
theorem so_all{d:WD}{r k:Tr}(e:r.lb=.op "all")(e2:r.ks=[k])(ok:WX k.lb k.ks.length)(bk:bkT k = "way"):soB d r=VN d k.lb (k.ks.map (soB d)):=by
 unfold soB;rw[Uf,e,e2,mV,nO,vG ok bk];exact rw_all d _ _
theorem so_and{d:WD}{r:Tr}(e:r.lb=.many "and"):soB d r=fun x=>r.ks.all fun k=>soB d k x:=by
 unfold soB;rw[Uf,e,VR,if_neg (by decide +kernel)]
 funext x
 show(r.ks.map (vdT d)).all _=_
 rw[o3];rfl
theorem so_or{d:WD}{r:Tr}(e:r.lb=.many "or"):soB d r=fun x=>r.ks.any fun k=>soB d k x:=by
 unfold soB;rw[Uf,e,VR,if_pos rfl]
 funext x
 show(r.ks.map (vdT d)).any _=_
 rw[oz];rfl
theorem lw_wit{d:WD}{m:Nat}{A B:Nat->Bool}:Vi d (.wit (m:Int)) [A,B]=itB (fun S r=>(faB d r&&B r)||(A r&&ldB (WN d) S r)) m (fun r=>faB d r&&B r):=by
 have e:∀r,(B r&&faB d r)=(faB d r&&B r):=fun r=>Bool.and_comm ..;rw[sm_wit];simp only[e]
theorem la_wit{d:WD}(g:XR d){m:Nat}{A B:Nat->Bool}{r:Nat}(hr:r<d.signs.length):VN d (.wit (m:Int)) [A,B] r = !itB (fun S r=>(faB d r&&!B r)&&(!A r||ldB (WN d) S r)) m (fun r=>faB d r&&!B r) r:=by
 rw[al_wit,<- (xn g A B m r hr).1]
theorem la_next{d:WD}{A:Nat->Bool}{r:Nat}(h:r<d.ways.length):(d.ways[r].map fun x=>(A x.toNat||!faB d x.toNat)).all id=VN d (.op "next") [A] r:=by
 rw[al_next]
 show _ = !ldB (WN d) _ r
 unfold ldB WN;rw[mO h]
 show _ = !((d.ways[r]).map Int.toNat).any _
 rw[o3,oz,List.not_any_eq_all_not]
 congr 1
 funext x
 show(A x.toNat||!faB d x.toNat) = !(!A x.toNat&&faB d x.toNat)
 cases A x.toNat<;>cases faB d x.toNat<;>rfl
theorem la_always{d:WD}{A:Nat->Bool}:VN d (.op "always") [A]=fun r=>!cmB d (fun _=>true) (fun r=>faB d r&&!A r) r:=by
 have e:∀r,(!A r&&faB d r)=(faB d r&&!A r):=fun r=>Bool.and_comm ..;rw[xa];simp only[e]
theorem la_until{d:WD}{A B:Nat->Bool}:VN d (.op "until") [A,B]=fun r=>(!cmB d (fun r=>!B r) (fun r=>faB d r&&(!B r&&!A r)) r&&!frB d (fun r=>!B r) r):=by
 have e:∀r,((!B r&&faB d r)&&!A r)=(faB d r&&(!B r&&!A r)):=fun r=>by cases A r<;>cases B r<;>cases faB d r<;>rfl
 rw[jY];simp only[e,Bool.not_or]
theorem Vn{K:W.Frag}{a D:Addr}{τ:L2.St}{H0:Hp}{Q:VK}{n:Nat}{S:Nat->Bool}(hD:H0 D=none)(hb:BL H0 a n S)(hn:n<=20)(fin:∀H',BL H' D n (fun r=>!S r)->Zf H0 H'->Q (.ref D) H'):WS (Itl K a) D (Xt 0) Vh (tNotV (tVar 0)) (none::τ) H0 Q:=by
 refine ZY (List.range n) (fun r=>V.bl (S r)) (fun r=>V.bl (!S r)) hD (rS hb) (by rw[m9,mN];omega) ?_ fin;intro r hr G N sG hN;exact⟨_,rfl,_,rfl,hN _ (.refl _)⟩
theorem pi_tupK{X:Cx}{K:W.Frag}{tg l:Expr}{tl:TE}(hK:X.K=K)(hl:PE X l tl):PI X tg l (iTup K tl):=by subst hK;exact pi_tup hl
end L3
namespace L3
open PySem PySem.Spec PyProof.Rows
section
variable{prog:Program}{w:World}{A:Around}{E:Value->Shared->Prop}{s:Shared}
theorem xt{it t:Addr}{items:Array Value}(hne:t≠it):∀(n i:Nat) (s:Shared) (Q:List Value->Shared->Prop),s.heap.IsListIter it t i->s.heap.IsList t items->i+n<=items.size ->
  (∀h',h'.IsListIter it t (i+n)->Heap.SameBut it s.heap h'->Q ((items.toList.drop i).take n) { s with heap:=h' })->wpAny (model prog w) A (draw (.ref it) n) Q E s
 |0,i,s,Q,hit,_,_,hQ=>by
  show wpAny _ _ (pure []) Q E s
  exact mQ (by simpa using hQ s.heap hit (Heap.SameBut.refl ..))
 |n+1,i,s,Q,hit,ht,hle,hQ=>by
  have hlt:i<items.size:=by omega
  show wpAny _ _ (pyNext (.ref it) >>= _) Q E s
  refine mL (wpAny_pyNext_list_item hit ht (x:=items[i]) (by simp[hlt]) fun h₁ hit₁ hs₁=>?_);refine mL (oo (xt hne n (i+1) _ _ hit₁ (ht.extBut hs₁.extBut hne) (by omega) fun h₂ hit₂ hs₂=>mQ ?_));have hd:items.toList.drop i=items[i]::items.toList.drop (i+1):=by simp[rQ,hlt]
  have:=hQ h₂ (by rw[show i+(n+1)=i+1+n by omega];exact hit₂) (hs₁.trans hs₂);rw[hd,List.take_succ_cons] at this;exact this
theorem qB{t:Addr}{items:Array Value}{Q:List Value->Shared->Prop}(hh:A.handled=none)(ht:s.heap.IsList t items)
  (hQ:∀h',Heap.ExtBut s.heap.objs.size s.heap h'->Q items.toList { s with heap:=h' }):wpAny (model prog w) A (unpackItems (.ref t) items.size none) Q E s:=by
 have hlt:t≠s.heap.objs.size:=by obtain⟨o,ho,_⟩:=ht;exact na (mR ho)
 unfold unpackItems;refine mL ?_;unfold notIterableAtAll;refine mL (wpAny_specialOf ht.typeIs slot_list_iter.lookup ?_);refine mQ ?_;simp only[rk,oM];refine mL (oo (pE ht ?_));refine mL (oo (xt hlt items.size 0 _ _ ⟨_,nI _ rfl,rfl,rfl⟩ (ht.push _) (by omega) fun h₁ hit₁ hs₁=>?_));have hall:List.take items.size (List.drop 0 items.toList)=items.toList:=by
  rw[List.drop_zero];exact ri (by simp)
 rw[hall];rw[if_neg (by simp)];have ht₁:h₁.IsList t items:=(ht.push _).extBut hs₁.extBut hlt;refine mL (oo (wpAny_pyNext_list_end hh hit₁ ht₁ (by simp) fun h₂ he₂=>?_));simp only[Option.isSome_none,rk,oM];refine mQ (hQ h₂ fun b o hb e=>he₂ b o hb (hs₁.extBut b o hb (m4 _ e)))
end
end L3
namespace L3
open PySem PySem.Spec PyProof.Rows L2
def gLst(K:W.Frag)(n:Nat)(t:TGs):TG:=fun v σ H Q=>∃a xs,v=.ref a/\SqL K H a xs/\xs.length=n/\t xs σ H Q
theorem pg_lst{X:Cx}{K:W.Frag}{es:List Expr}{k:Nat}{pos:Pos}{t:TGs}{n:Nat}(hK:X.K=K)(hc:X.calm=true)(h:PGs X es t)
  (hn:(assignEach es X.env).length=n:=by rfl) (hst:(assignEach es X.env).findIdx? (·.1)=none:=by rfl):PG X (.Tuple es k pos) (gLst K n t):=by
 subst hK;intro lC s σ H v u Q I r hw;obtain⟨a,xs,e1,hq,hl,hw⟩:=hw;subst e1;cases r;obtain⟨its,rv,ht,hz⟩:=I.list hq;have hz2:its.toArray.size=n:=by rw[m7,<- rv.length];exact hl
 rw[assign_Tuple];refine mL (oQ ?_);unfold unpack;rw[hn,hst,<- hz2];refine mL (oo (qB (I.ok.hd hc) ht.isList fun h' hx=>?_));have I1:L2.Inv X lC σ H { s with heap:=h' }:=I.kept (t':=s.toks) fun b o e=>hx b o (na (mR e)) e;exact h lC _ σ H xs _ Q I1 (by simpa using rv) hw
end L3
namespace L3
open PySem PySem.Spec PyProof.Rows PySem.W
theorem gather{prog:Program}{w:World}{A:Around}{E:Value->Shared->Prop}{s:Shared}{T:String}{r d:Addr}{n:Nat}{P:Nat->Value->Prop}{OK:Heap->Prop}{R:List Value->Shared->Prop}(K:KdlSrc prog w T r d n P OK)(hh:A.handled=none)(hok:OK s.heap)(hn:n<=sizeLine)
  (h:∀(h':Heap) (tk:Nat) (acc:Array Value),s.heap.objs.size<h'.objs.size->(∀b o,s.heap.get? b=some o->h'.get? b=some o)->ItemsOf P acc n->R acc.toList { s with heap:=h',toks:=tk }) :
  wpAny (model prog w) A (collect (.ref r)) R E s:=by
 have lt:=K.there _ hok;unfold collect;refine mL (wpAny_runValue (pK entry_proto_collect' ?_));rw[rd PySem.F.plain_proto_collect _]
 show wpAny _ A.in1 (newList [] >>= fun l=>again (.builtin "list.__iadd__" ⟨[l,.ref r],[]⟩)) _ _ s
 refine mL (oE (mQ ⟨plainId_quiet PySem.F.plain_list_iadd _,pK entry_list_iadd' ?_⟩));rw[rd PySem.F.plain_list_iadd _];generalize hp:s.heap.push { cls:=.type "list",data:=.seq ([]:List Value).toArray }=g;have gS:g.get? s.heap.objs.size=some { cls:=.type "list",data:=.seq #[] }:=by rw[<- hp];exact nI _ rfl
 have gk:∀b o,s.heap.get? b=some o->g.get? b=some o:=fun b o e=>by rw[<- hp];exact m4 _ e
 show wpAny _ A.in1 (Builtin.List.listExtendWith (.ref s.heap.objs.size) (.ref r) (.ref s.heap.objs.size)) _ _ _
 have key:=kdl_extend (A:=A) (s:={ s with heap:=g })
  (R:=fun(q:Result) (s':Shared)=>∃(h':Heap) (tk:Nat) (c':Array Value) (k:Nat),q=.ok (.ret (.ref s.heap.objs.size))/\s'={ s with heap:=h',toks:=tk }/\(∀b o,s.heap.get? b=some o->h'.get? b=some o)/\h'.get? s.heap.objs.size=some { cls:=.type "list",dict:=none,data:=.seq c' k,slots:=#[] }/\ItemsOf P c' n)
  K hh (K.keep _ _ hok fun b _ o e=>gk b o e) s.heap.objs.size (o8 lt.1) (o8 lt.2) (.ref s.heap.objs.size) 0 gS
  (fun h' tk c' k hk hS hc=>⟨h',tk,c',k,rfl,rfl,fun b o e=>hk b o (na (mR e)) (gk b o e),hS,hc⟩) hn
 have fin:∀(q:Result) (s':Shared),(∃(h':Heap) (tk:Nat) (c':Array Value) (k:Nat),q=.ok (.ret (.ref s.heap.objs.size))/\s'={ s with heap:=h',toks:=tk }/\(∀b o,s.heap.get? b=some o->h'.get? b=some o)/\h'.get? s.heap.objs.size=some { cls:=.type "list",dict:=none,data:=.seq c' k,slots:=#[] }/\ItemsOf P c' n)->∃h' tk c' k,q=.ok (.ret (.ref s.heap.objs.size))/\s'={ s with heap:=h',toks:=tk }/\h'.get? s.heap.objs.size=some { cls:=.type "list",dict:=none,data:=.seq c' k,slots:=#[] }/\R c'.toList { s with heap:=h',toks:=tk }:=
  fun q s' ⟨h',tk,c',k,e1,e2,hk,hS,hc⟩=>⟨h',tk,c',k,e1,e2,hS,h h' tk c' (mR hS) hk hc⟩
 refine oj key (fun z s' x=>?_) fun e s' x=>?_
 ·cases z with
  |done f=>
   obtain⟨h',tk,c',k,e,rfl,hS,q⟩:=fin _ _ x;cases e
   show wpAny _ A (load s.heap.objs.size >>= _) _ _ _
   exact mL (wpAny_load hS (mQ q))
  |again c₁=>
   refine⟨x.1,o9 x.2 fun q s₂ y=>?_⟩;obtain⟨h',tk,c',k,rfl,rfl,hS,q⟩:=fin _ _ y
   show wpAny _ A (load s.heap.objs.size >>= _) _ _ _
   exact mL (wpAny_load hS (mQ q))
 ·obtain⟨_,_,_,_,e',_⟩:=x;cases e'
end L3
namespace L3
open PySem PySem.Spec PyProof.Rows L2
inductive xm(x:V)(vs:List V)(H:Hp)(Q:VK):Prop
 |mk (a:Addr) (kvs:List (Key×V)) (h0:x=.ref a) (h1:vs=[]) (h2:H a=some (.dK kvs)) (h3:Q .non (upd H a (.dK []))):xm x vs H Q
def rClearD:V->List V->Hp->VK->Prop:=fun x vs H Q=>xm x vs H Q
theorem mt_clearD{X:Cx}:MtM X "dict.clear" rClearD:=by
 intro lC s σ H x vs v us Q I rx rv h;obtain⟨a,kvs,rfl,rfl,e,q⟩:=h;cases rx;have hus:=rv.zero;subst hus;exact d_clear I e fun s' I'=>⟨.non,_,I',rfl,q⟩
inductive xK(xs:List V)(H:Hp)(Q:VK):Prop
 |mk (a:Addr) (kvs:List (Key×V)) (ns:List Int) (h0:xs=[.ref a]) (h1:H a=some (.dK kvs)) (h2:kvs.map (·.1)=ns.map Sum.inl) (h3:ns.length<64) (h4:∀(l:Addr) (us:List Int),H l=none->us.Perm ns->Q (.ref l) (upd H l (.lst (us.map V.int)))):xK xs H Q
def rSortDI:List V->Hp->VK->Prop:=fun xs H Q=>xK xs H Q
theorem jW{X:Cx}(hc:X.calm=true):YB X (.builtin "sorted") rSortDI:=by
 intro lC s σ H xs us Q I r h;obtain⟨a,kvs,ns,rfl,g,ek,hl,q⟩:=h;obtain⟨u,rfl,ru⟩:=WM r;obtain rfl:u=Value.ref a:=ru;obtain⟨z,y,vs,rel,o,es,ep,h1,h2,h3,h4,h5,h6⟩:=xp I.hok g;have e1:=h5.length;rw[oV] at e1;have e2:=rel.length;have e3:=ni List.length ek;rw[mM,mM] at e3;refine Calls.call_function_entry kind_sorted plain_sorted entry_sorted (args_sorted1 _) ?_;unfold Builtin.«sorted»;refine mL (m:=checkCount "sorted" 1 1 _) (mQ ?_);refine mL (gather (src_rows (ep:=ep) (es:=es) y) (by simpa using I.ok.hd hc) ⟨o,h1,h2,h3⟩ (by omega) fun h' tk acc hz k1 hacc=>?_);have key:ZP (ns.map V.int) acc.toList:=by
  have ka:ZP (kvs.map fun p=>kV p.1) acc.toList:=by
   rw[rows_eq rfl hacc];refine KV.keyV (P:=X.prog) (w:=X.w) rel (by rw[mM,oV];exact e1) fun i u p a b=>?_;rw[mU] at a;obtain⟨e,ea,rfl⟩:=oU.mp a;exact(h5.get? ea b).1
  have e4:(kvs.map fun p=>kV p.1)=ns.map V.int:=by
   have:=ni (List.map kV) ek;rw[mZ,mZ] at this;exact this
  rwa [e4] at ka
 have ia:=UG key;obtain⟨e5,e6⟩:=ia_to ia;have e7:=key.length;rw[mM] at e7;refine mL (wpAny_newList ?_ (by rw[mN];omega));have hoL:(h'.push (seqObj "list" acc.toList.toArray 0)).get? h'.objs.size=some (seqObj "list" acc.toList.toArray 0):=nI _ rfl;have k2:∀b o,s.heap.get? b=some o->b≠h'.objs.size/\(h'.push (seqObj "list" acc.toList.toArray 0)).get? b=some o:=fun b o z=>by
  have:=k1 b o z;exact⟨na (mR this),m4 _ this⟩
 show wpAny _ _ _ _ _ { s with heap:=h'.push (seqObj "list" acc.toList.toArray 0),toks:=tk }
 refine mL (oo (px slot_list_sort ⟨_,hoL,rfl⟩ entry_list_sort (list_sort_tree hoL (ia_of fun v m=>let ⟨t,e⟩:=e6 v m; ⟨_,t,e⟩) (by omega) fun ot ns' i2 pm _=>⟨_,rfl,?_⟩) (args_list_sort _)));obtain⟨f1,f2⟩:=ia_to i2;rw[<- f1,e5] at pm;have pl:=pm.length_eq;rw[mM] at pl;obtain⟨e,he⟩:=sortedHeap_at (out:=ot) hoL;have hz:=Nat.le_of_lt hz;refine mQ ⟨_,rfl,.ref h'.objs.size,_,I.laid (o:=.lst ((ot.toList.map inOf).map V.int)) (fun b o z=>?_) hz ⟨by rw[mM,mM,mN];omega,ot.toList,_,xD fun v m=>(let ⟨t,e⟩:=f2 v m; ⟨_,t,e⟩),he⟩,rfl,q _ _ (I.hok.fresh hz) pm⟩;obtain⟨n1,z1⟩:=k2 b o z
 show(sortedHeap _ _ _ _).get? b=some o
 rw[sortedHeap_old n1 (mR z1)];exact z1
inductive rEqK_R(neg:Bool)(x y:V)(H:Hp)(Q:VK):Prop
 |mk (a b:Addr) (ka kb:List (Key×V)) (h0:x=.ref a) (h1:y=.ref b) (h2:H a=some (.dK ka)) (h3:H b=some (.dK kb)) (h4:ka.length=kb.length) (h5:∀p∈ka,Vs kb p.1=some p.2/\∃i,p.2=.int i) (h6:Q (.bl (!neg)) H):rEqK_R neg x y H Q
def rEqK(neg:Bool):R2:=fun x y H Q=>rEqK_R neg x y H Q
theorem hits_of{A:Around}{s:Shared}{kb:List (Key×V)}{vb:List (Key×Value)}(rb:KV kb vb):∀{ka:List (Key×V)}{va:List (Key×Value)},KV ka va->(∀p∈ka,Vs kb p.1=some p.2/\∃i,p.2=.int i)->W.KeqHits A s vb va true
 |[],[],_,_=>.nil
 |p::ka,(k,v)::va,.cons r rr,h=>by
  obtain⟨e1,i,e2⟩:=h p (by simp);obtain⟨r1,r2⟩:=r;have r1':p.1=k:=r1;have r2':Z1 p.2 v:=r2;have rv:=rb.val p.1;rw[e1,e2] at rv;rw[e2] at r2';obtain⟨t,rfl⟩:=r2';cases ev:valueAt vb p.1 with
  |none=>rw[ev] at rv;exact rv.elim
  |some y=>
   rw[ev] at rv;obtain⟨t',rfl⟩:=(show ∃t',y=Value.int i t' from rv);rw[r1'] at ev;have eq:=SeqAt.EqAt.int_int (A:=A) (s:=s) i t i t';have:=W.KeqHits.hit (A:=A) (s:=s) (k:=k) (v:=.int i t) ev (by simpa using eq) (hits_of rb rr fun q hq=>h q (by simp[hq]));simpa using this
theorem op_K{X:Cx}{neg:Bool}(hu:X.A.units<cLine):OpR X (compareOp (if neg then .NotEq else .Eq)) (rEqK neg):=by
 intro lC s σ H x y v u Q I rx ry h;obtain⟨a,b,ka,kb,rfl,rfl,ha,hb,hl,hp,q⟩:=h;cases rx;cases ry;obtain⟨z1,y1,va,ra,d1⟩:=xp I.hok ha;obtain⟨z2,y2,vb,rb,d2⟩:=xp I.hok hb;have l1:va.length=vb.length:=by rw[<- ra.length,<- rb.length];exact hl
 have hits:va.length=vb.length->W.KeqHits X.A.in1 s vb va true:=fun _=>hits_of rb ra hp;cases neg with
 |false=>exact W.keq_eq y1 y2 d1 d2 hu hits ⟨.bl true,H,I,by rw[l1];simp;rfl,q⟩
 |true=>exact W.keq_ne y1 y2 d1 d2 hu hits ⟨.bl false,H,I,by rw[l1];simp;rfl,q⟩
theorem op_eqK{X:Cx}(hu:X.A.units<cLine):OpR X (compareOp .Eq) (rEqK false):=op_K (neg:=false) hu
theorem op_neK{X:Cx}(hu:X.A.units<cLine):OpR X (compareOp .NotEq) (rEqK true):=op_K (neg:=true) hu
section
variable{W:Nat->List Nat}{n:Nat}{A G:Nat->Bool}
def stB(W:Nat->List Nat)(A G:Nat->Bool):Nat->Nat->Bool
 |0=>G
 |k+1=>fun r=>A r&&ldB W (stB W A G k) r
structure Lst(W:Nat->List Nat)(A G:Nat->Bool)(k r:Nat):Prop where
 st:stB W A G k r=true
 no:∀j<k,stB W A G j r=false
theorem Lst.inj{k k' r:Nat}(h:Lst W A G k r)(g:Lst W A G k' r):k=k':=by
 rcases Nat.lt_trichotomy k k' with c|c|c
 ·have:=g.no k c;rw[h.st] at this;cases this
 ·exact c
 ·have:=h.no k' c;rw[g.st] at this;cases this
theorem lst_of:∀(k r:Nat),stB W A G k r=true->∃j≤k,Lst W A G j r
 |k,r,h=>by
  by_cases c:∃j<k,stB W A G j r=true
  ·obtain⟨j,hj,e⟩:=c;obtain⟨i,hi,l⟩:=lst_of j r e;exact⟨i,by omega,l⟩
  ·refine⟨k,mP _,h,fun j hj=>?_⟩;cases e:stB W A G j r with
   |false=>rfl
   |true=>exact absurd ⟨j,hj,e⟩ c
theorem Lst.pred{k r:Nat}(h:Lst W A G (k+1) r):A r=true/\∃q∈W r,Lst W A G k q:=by
 have h1:=h.st;rw[stB,m8] at h1;obtain⟨q,eq,hq⟩:=Xa.mp h1.2;refine⟨h1.1,q,eq,hq,fun j hj=>?_⟩;cases e:stB W A G j q with
 |false=>rfl
 |true=>
  have:(A r&&ldB W (stB W A G j) r)=false:=h.no (j+1) (by omega);rw[h1.1,Bool.true_and] at this;rw[Xa.mpr ⟨q,eq,e⟩] at this;cases this
theorem Lst.chain(hw:∀r<n,∀q∈W r,q<n):∀{k r:Nat},r<n->Lst W A G k r->∀i≤k,∃q<n,Lst W A G i q
 |0,r,hr,h,i,hi=>⟨r,hr,by rw[Nat.le_zero.mp hi];exact h⟩
 |k+1,r,hr,h,i,hi=>by
  by_cases c:i=k+1
  ·exact⟨r,hr,by rw[c];exact h⟩
  ·obtain⟨_,q,eq,hq⟩:=h.pred;exact Lst.chain hw (hw r hr q eq) hq i (by omega)
theorem Lst.lt(hw:∀r<n,∀q∈W r,q<n){k r:Nat}(hr:r<n)(h:Lst W A G k r):k<n:=by
 obtain⟨f,hf⟩:=Classical.axiomOfChoice fun i=>show ∃q,i<=k->q<n/\Lst W A G i q by
  by_cases c:i<=k
  ·obtain⟨q,h1,h2⟩:=h.chain hw hr i c;exact⟨q,fun _=>⟨h1,h2⟩⟩
  ·exact⟨0,fun z=>absurd z c⟩
 have nd:((List.range (k+1)).map f).Nodup:=by
  unfold List.Nodup;rw[rh];refine List.Pairwise.imp_of_mem (fun {a b} ha hb n e=>n ?_) pR;have ha:=mX.mp ha;have hb:=mX.mp hb;have h2:=(hf b (by omega)).2;rw[<- e] at h2;exact(hf a (by omega)).2.inj h2
 have:=Yo (l₂:=List.range n) nd fun x hx=>by
  obtain⟨i,hi,rfl⟩:=mW.mp hx;have hi:=mX.mp hi;exact mX.mpr (hf i (by omega)).1
 rw[mM,m9,m9] at this;omega
structure TI(W:Nat->List Nat)(n:Nat)(A G:Nat->Bool)(rs:List Nat)(f:Nat->Nat):Prop where
 nd:rs.Nodup
 mem:∀r,r∈rs↔r<n/\∃k,Lst W A G k r
 num:∀r∈rs,Lst W A G (f r) r
def tiK(rs:List Nat)(f:Nat->Nat):List (Key×V):=rs.map fun r:Nat=>(Sum.inl (r:Int),V.int (f r:Int))
theorem vz{f:Nat->Nat}:∀{rs:List Nat}{r:Nat},r∈rs->Vs (tiK rs f) (Sum.inl (r:Int))=some (.int (f r:Int))
 |a::rs,r,h=>by
  by_cases c:a=r
  ·subst c;exact qu rfl
  ·show Vs ((Sum.inl (a:Int),V.int (f a:Int))::tiK rs f) _=_
   rw[V1 (show ¬(Sum.inl (a:Int):Key)=Sum.inl (r:Int) from fun z=>c (by have:=Sum.inl.inj z;omega))];exact vz (by rcases nu.mp h with e|e;exact absurd e.symm c;exact e)
theorem tiK_no{f:Nat->Nat}:∀{rs:List Nat}{r:Nat},r∉rs->Vs (tiK rs f) (Sum.inl (r:Int))=none
 |[],r,h=>rfl
 |a::rs,r,h=>by
  show Vs ((Sum.inl (a:Int),V.int (f a:Int))::tiK rs f) _=_
  rw[V1 (show ¬(Sum.inl (a:Int):Key)=Sum.inl (r:Int) from fun z=>h (by have:=Sum.inl.inj z;have:r=a:=(by omega);simp[this]))];exact tiK_no fun z=>h (by simp[z])
theorem TI.len{rs:List Nat}{f:Nat->Nat}(h:TI W n A G rs f):rs.length<=n:=by
 have:=Yo (l₂:=List.range n) h.nd fun x hx=>mX.mpr ((h.mem x).mp hx).1
 rwa [m9] at this
theorem TI.same{rs rs':List Nat}{f f':Nat->Nat}(h:TI W n A G rs f)(g:TI W n A G rs' f'):(tiK rs f).length=(tiK rs' f').length/\∀p∈tiK rs f,Vs (tiK rs' f') p.1=some p.2/\∃i,p.2=.int i:=by
 refine⟨?_,fun p hp=>?_⟩
 ·unfold tiK;rw[mM,mM];exact Nat.le_antisymm (Yo h.nd fun x hx=>(g.mem x).mpr ((h.mem x).mp hx)) (Yo g.nd fun x hx=>(h.mem x).mpr ((g.mem x).mp hx))
 ·obtain⟨r,hr,rfl⟩:=mW.mp hp;have hr':r∈rs':=(g.mem r).mpr ((h.mem r).mp hr);exact⟨by rw[vz hr',(g.num r hr').inj (h.num r hr)],_,rfl⟩
theorem tiK_ext{f g:Nat->Nat}{rs:List Nat}(h:∀r∈rs,f r=g r):tiK rs f=tiK rs g:=oT fun r hr=>by rw[h r hr]
theorem qj{f:Nat->Nat}{rs:List Nat}{r:Nat}(h:r∉rs):Us (tiK rs f) (Sum.inl (r:Int)) (.int (f r:Int))=tiK (rs++[r]) f:=by
 rw[putK_new _ (tiK_no h)];unfold tiK;rw[nP];rfl
structure TJ(W:Nat->List Nat)(n:Nat)(A G:Nat->Bool)(k:Nat)(rs:List Nat)(f:Nat->Nat)(F M:Nat->Bool):Prop where
 nd:rs.Nodup
 mem:∀r,r∈rs↔r<n/\∃j<k,Lst W A G j r
 num:∀r∈rs,Lst W A G (f r) r
 far:∀r<n,F r=true↔∃j<k,Lst W A G j r
 near:∀r<n,M r=true↔Lst W A G k r
theorem TJ.start{f:Nat->Nat}:TJ W n A G 0 [] f (fun _=>false) G:=by
 refine⟨by simp,fun r=>?_,fun r hr=>(by cases hr),fun r hr=>?_,fun r hr=>⟨fun h=>⟨h,fun j hj=>absurd hj (o4 _)⟩,fun h=>h.st⟩⟩
 ·constructor
  ·intro h;cases h
  ·rintro⟨_,j,hj,_⟩;omega
 ·constructor
  ·intro h;cases h
  ·rintro⟨j,hj,_⟩;omega
theorem TJ.step{k:Nat}{rs:List Nat}{f:Nat->Nat}{F M:Nat->Bool}(hw:∀r<n,∀q∈W r,q<n)(h:TJ W n A G k rs f F M):TJ W n A G (k+1) (rs++(List.range n).filter M) (fun r=>if r∈rs then f r else k) (fun r=>F r||M r) (fun r=>(A r&&ldB W M r)&&!(F r||M r)):=by
 have up:∀r,(∃j<k+1,Lst W A G j r)↔(∃j<k,Lst W A G j r)\/Lst W A G k r:=fun r=>by
  constructor
  ·rintro⟨j,hj,l⟩
   by_cases c:j=k
   ·subst c;exact .inr l
   ·exact .inl ⟨j,by omega,l⟩
  ·rintro(⟨j,hj,l⟩|l)
   ·exact⟨j,by omega,l⟩
   ·exact⟨k,by omega,l⟩
 have far:∀r<n,(F r||M r)=true↔∃j<k+1,Lst W A G j r:=fun r hr=>by rw[rg,h.far r hr,h.near r hr,up]
 have new:∀r,r∈(List.range n).filter M->r∉rs:=fun r hr z=>by
  obtain⟨h1,h2⟩:=n5.mp hr;have hn:=mX.mp h1;obtain⟨_,j,hj,l⟩:=(h.mem r).mp z;have:=l.inj ((h.near r hn).mp h2);omega
 refine⟨?_,fun r=>?_,fun r hr=>?_,far,fun r hr=>?_⟩
 ·rw[oS];exact⟨h.nd,pR.filter _,fun a ha b hb e=>new b hb (by rw[<- e];exact ha)⟩
 ·rw[nE,h.mem,n5,mX,up];constructor
  ·rintro(⟨a,b⟩|⟨a,b⟩)
   ·exact⟨a,.inl b⟩
   ·exact⟨a,.inr ((h.near r a).mp b)⟩
  ·rintro⟨a,b|b⟩
   ·exact .inl ⟨a,b⟩
   ·exact .inr ⟨a,(h.near r a).mpr b⟩
 ·rcases nE.mp hr with c|c
  ·show Lst W A G (if r∈rs then f r else k) r
   rw[if_pos c];exact h.num r c
  ·show Lst W A G (if r∈rs then f r else k) r
   rw[if_neg (new r c)];obtain⟨h1,h2⟩:=n5.mp c;exact(h.near r (mX.mp h1)).mp h2
 ·constructor
  ·intro z;rw[m8,m8,pL] at z;obtain⟨⟨a,b⟩,c⟩:=z;obtain⟨q,eq,mq⟩:=Xa.mp b;have lq:=(h.near q (hw r hr q eq)).mp mq;have s1:stB W A G (k+1) r=true:=by
    show(A r&&ldB W (stB W A G k) r)=true
    rw[a,Xa.mpr ⟨q,eq,lq.st⟩];rfl
   obtain⟨j,hj,l⟩:=lst_of (k+1) r s1
   by_cases e:j=k+1
   ·rw[<- e];exact l
   ·have:=(far r hr).mpr ⟨j,by omega,l⟩;rw[c] at this;cases this
  ·intro l;obtain⟨a,q,eq,lq⟩:=l.pred;have b:ldB W M r=true:=Xa.mpr ⟨q,eq,(h.near q (hw r hr q eq)).mpr lq⟩;have c:(F r||M r)=false:=by
    cases e:(F r||M r) with
    |false=>rfl
    |true=>
     obtain⟨j,hj,l'⟩:=(far r hr).mp e;have:=l'.inj l;omega
   rw[a,b,c];rfl
theorem TJ.done{k:Nat}{rs:List Nat}{f:Nat->Nat}{F M:Nat->Bool}(hw:∀r<n,∀q∈W r,q<n)(h:TJ W n A G k rs f F M)(z:∀r<n,M r=false):TI W n A G rs f:=by
 refine⟨h.nd,fun r=>?_,h.num⟩;rw[h.mem];constructor
 ·rintro⟨a,j,_,l⟩;exact⟨a,j,l⟩
 ·rintro⟨a,j,l⟩;refine⟨a,j,?_,l⟩;rcases Nat.lt_or_ge j k with c|c
  ·exact c
  ·obtain⟨q,hq,lq⟩:=l.chain hw a k c;have:=(h.near q hq).mpr lq;rw[z q hq] at this;cases this
theorem TI.perm{rs rs':List Nat}{f f':Nat->Nat}(h:TI W n A G rs f)(p:rs'.Perm rs)(e:∀r∈rs,f' r=f r):TI W n A G rs' f':=⟨p.nodup_iff.mpr h.nd,fun r=>by rw[p.mem_iff];exact h.mem r,fun r hr=>by rw[e r (p.mem_iff.mp hr)];exact h.num r (p.mem_iff.mp hr)⟩
end
theorem perm_cast{us:List Int}{rs:List Nat}(h:us.Perm (rs.map fun r:Nat=>(r:Int))):∃rs':List Nat,us=rs'.map (fun r:Nat=>(r:Int))/\rs'.Perm rs:=by
 refine⟨us.map Int.toNat,?_,?_⟩
 ·rw[mZ]
  conv=>lhs;rw[<- List.map_id us]
  refine oT fun x hx=>?_;obtain⟨r,_,rfl⟩:=mW.mp (h.mem_iff.mp hx)
  show((r:Nat):Int)=(((r:Int).toNat:Nat):Int)
  rw[mY]
 ·have:=h.map Int.toNat;rw[mZ] at this;rw[show rs=rs.map (Int.toNat∘fun r:Nat=>(r:Int)) from(by
   conv=>lhs;rw[<- List.map_id rs]
   exact oT fun x _=>(mY x).symm)]
  exact this
theorem tiK_keys(rs:List Nat)(f:Nat->Nat):(tiK rs f).map (·.1)=(rs.map fun r:Nat=>(r:Int)).map Sum.inl:=by unfold tiK;rw[mZ,mZ];rfl
theorem zK(rs:List Nat)(f:Nat->Nat):(tiK rs f).length=rs.length:=mM ..
theorem zV{l:List Nat}{i:Nat}(h:l.Nodup)(hi:i<l.length):l[i]∉l.take i:=fun m=>by
 obtain⟨j,hj,e⟩:=oH m;rw[List.getElem_take] at e;rw[nW] at hj;have:=(List.getElem_inj h).mp e;omega
theorem ways_nV{d:WD}(gd:XR d){p:Nat}(h:p<d.ways.length):d.ways[p].map V.int=nV (WN d p):=by
 unfold WN nV;rw[mO h]
 show _=((d.ways[p]).map Int.toNat).map _
 rw[mZ];refine oT fun x hx=>?_;have:=((gd.wn _ (nk h)).2.2.1 x hx).1
 show V.int x=V.int ((x.toNat:Nat):Int)
 congr 1;omega
theorem WN_nd{d:WD}(gd:XR d){p:Nat}(h:p<d.ways.length):(WN d p).Nodup:=by
 unfold WN;rw[mO h];have w:=gd.wn _ (nk h);exact xR (fun x hx=>(w.2.2.1 x hx).1) w.1
structure LvI(W:Nat->List Nat)(n:Nat)(A G:Nat->Bool)(r k:Nat)(lv:List Nat):Prop where
 nd:lv.Nodup
 lt:∀q∈lv,q<n
 st:∀j,stB W A G (k+j) r=true↔∃q∈lv,stB W A G j q=true
 no:∀j<k,stB W A G j r=false
section
variable{W:Nat->List Nat}{n:Nat}{A G:Nat->Bool}
theorem LvI.start{r:Nat}(h:r<n):LvI W n A G r 0 [r]:=⟨by simp,by simpa using h,fun j=>by simp,fun j hj=>absurd hj (o4 _)⟩
theorem LvI.any{r k:Nat}{lv:List Nat}(h:LvI W n A G r k lv):lv.any G=stB W A G k r:=by
 rw[n6,oR];exact(h.st 0).symm
theorem LvI.len{r k:Nat}{lv:List Nat}(h:LvI W n A G r k lv):lv.length<=n:=by
 have:=Yo (l₂:=List.range n) h.nd fun x hx=>mX.mpr (h.lt x hx)
 rwa [m9] at this
theorem LvI.found{r k:Nat}{lv:List Nat}(h:LvI W n A G r k lv)(c:lv.any G=true):Lst W A G k r:=⟨by rw[<- h.any];exact c,h.no⟩
theorem LvI.step{r k:Nat}{lv mo:List Nat}(hw:∀r<n,∀q∈W r,q<n)(h:LvI W n A G r k lv)(c:lv.any G=false)(nd:mo.Nodup)(mem:∀q,q∈mo↔∃p∈lv,A p=true/\q∈W p):LvI W n A G r (k+1) mo:=by
 refine⟨nd,fun q hq=>?_,fun j=>?_,fun j hj=>?_⟩
 ·obtain⟨p,hp,_,hq⟩:=(mem q).mp hq;exact hw p (h.lt p hp) q hq
 ·rw[Nat.add_assoc,Nat.add_comm 1 j,h.st (j+1)];constructor
  ·rintro⟨p,hp,e⟩;have e':(A p&&ldB W (stB W A G j) p)=true:=e;rw[m8] at e';obtain⟨q,hq,hs⟩:=Xa.mp e'.2;exact⟨q,(mem q).mpr ⟨p,hp,e'.1,hq⟩,hs⟩
  ·rintro⟨q,hq,hs⟩;obtain⟨p,hp,ap,qw⟩:=(mem q).mp hq;refine⟨p,hp,?_⟩
   show(A p&&ldB W (stB W A G j) p)=true
   rw[ap,Xa.mpr ⟨q,qw,hs⟩];rfl
 ·by_cases e:j=k
  ·rw[e,<- h.any];exact c
  ·exact h.no j (by omega)
theorem LvI.none{r k:Nat}{lv:List Nat}(hw:∀r<n,∀q∈W r,q<n)(h:LvI W n A G r k lv)(hr:r<n)(hk:n<=k):¬∃j,Lst W A G j r:=fun⟨j,l⟩=>by
 have lt:=l.lt hw hr;have:=l.st;rw[h.no j (by omega)] at this;cases this
structure TP(W:Nat->List Nat)(A G:Nat->Bool)(i:Nat)(rs:List Nat)(f:Nat->Nat):Prop where
 nd:rs.Nodup
 mem:∀r,r∈rs↔r<i/\∃k,Lst W A G k r
 num:∀r∈rs,Lst W A G (f r) r
theorem TP.start{f:Nat->Nat}:TP W A G 0 [] f:=⟨by simp,fun r=>⟨fun h=>(by cases h),fun h=>absurd h.1 (o4 _)⟩,fun r h=>(by cases h)⟩
theorem TP.skip{i:Nat}{rs:List Nat}{f:Nat->Nat}(h:TP W A G i rs f)(c:¬∃k,Lst W A G k i):TP W A G (i+1) rs f:=⟨h.nd,fun r=>by
 rw[h.mem];constructor
 ·rintro⟨a,b⟩;exact⟨by omega,b⟩
 ·rintro⟨a,b⟩
  by_cases e:r=i
  ·subst e;exact absurd b c
  ·exact⟨by omega,b⟩,h.num⟩
theorem TP.new{i:Nat}{rs:List Nat}{f:Nat->Nat}(h:TP W A G i rs f):i∉rs:=fun z=>by have:=((h.mem i).mp z).1;omega
theorem TP.put{i k:Nat}{rs:List Nat}{f:Nat->Nat}(h:TP W A G i rs f)(l:Lst W A G k i):TP W A G (i+1) (rs++[i]) (fun r=>if r=i then k else f r):=by
 refine⟨?_,fun r=>?_,fun r hr=>?_⟩
 ·rw[oS];exact⟨h.nd,by simp,fun a ha b hb e=>h.new (by rw[nj] at hb;rw[<- hb,<- e];exact ha)⟩
 ·rw[nE,nj,h.mem];constructor
  ·rintro(⟨a,b⟩|rfl)
   ·exact⟨by omega,b⟩
   ·exact⟨by omega,k,l⟩
  ·rintro⟨a,b⟩
   by_cases e:r=i
   ·exact .inr e
   ·exact .inl ⟨by omega,b⟩
 ·rcases nE.mp hr with c|c
  ·have ne:r≠i:=fun z=>h.new (by rw[<- z];exact c)
   show Lst W A G (if r=i then k else f r) r
   rw[if_neg ne];exact h.num r c
  ·rw[nj] at c;subst c
   show Lst W A G (if r=r then k else f r) r
   rw[if_pos rfl];exact l
theorem TP.ti{rs:List Nat}{f:Nat->Nat}(h:TP W A G n rs f):TI W n A G rs f:=⟨h.nd,h.mem,h.num⟩
end
theorem atI_neg{α:Type}{xs:List α}{p:Nat}(p1:1<=p)(hp:p<=xs.length):atI xs (-(p:Int))=some (xs[xs.length-p]'(by omega)):=by
 unfold atI ixN;rw[if_neg (by omega),if_pos (by omega)]
 show xs[_]?=_
 have e:(-(p:Int)+(xs.length:Nat)).toNat=xs.length-p:=by omega
 rw[e];exact mO (by omega)
def psR(e:Bool)(m r:Nat):Nat:=if e=true then m-1-r else r
def nxR(e:Bool)(m r:Nat):Nat:=psR e m (min (psR e m r+1) (m-1))
def YK(e:Bool)(m:Nat):WD:=⟨(List.range m).map fun r=>if psR e m r=m-1 then["goal"] else[],(List.range m).map fun r=>[(nxR e m r:Int)],[0],["goal"]⟩
def Wc(e:Bool)(m:Nat):List Nat:=(List.range m).map (psR e m)
theorem Ub{e:Bool}{m r:Nat}(h:r<m):psR e m r<m:=by unfold psR;split<;>omega
theorem VY{e:Bool}{m r:Nat}(h:r<m):psR e m (psR e m r)=r:=by unfold psR;split<;>omega
theorem ps_inj{e:Bool}{m r q:Nat}(h:r<m)(g:q<m)(e1:psR e m r=psR e m q):r=q:=by
 have:=ni (psR e m) e1
 rwa [VY h,VY g] at this
theorem nx_lt{e:Bool}{m r:Nat}(h:r<m):nxR e m r<m:=Ub (by have:=Ub (e:=e) h;omega)
theorem ps_nx{e:Bool}{m r:Nat}(h:r<m):psR e m (nxR e m r)=min (psR e m r+1) (m-1):=VY (by omega)
theorem WJ{e:Bool}{m:Nat}:(Wc e m).length=m:=by unfold Wc;rw[mM,m9]
theorem vy{e:Bool}{m k:Nat}(h:k<m):(Wc e m)[k]?=some (psR e m k):=by unfold Wc;rw[mU,pe h];rfl
theorem zP{e:Bool}{m k:Nat}(h:k<m):(nV (Wc e m))[k]?=some (.int (psR e m k:Int)):=by unfold nV;rw[mU,vy h];rfl
theorem ord_f(m:Nat):Wc false m=List.range m:=by
 unfold Wc
 conv=>rhs;rw[<- List.map_id (List.range m)]
 rfl
theorem ord_t(m:Nat):Wc true m=(List.range m).reverse:=by
 refine List.ext_getElem (by rw[WJ,pM,m9]) fun i h1 h2=>?_;rw[WJ] at h1;have:=vy (e:=true) h1;rw[mO (by rw[WJ];exact h1)] at this;rw[nv this,List.getElem_reverse,pB,m9];rfl
theorem ord_nd{e:Bool}{m:Nat}:(Wc e m).Nodup:=by
 unfold Wc List.Nodup;rw[rh];exact List.Pairwise.imp_of_mem (fun {a b} ha hb n h=>n (ps_inj (mX.mp ha) (mX.mp hb) h)) pR
theorem zL{e:Bool}{m r:Nat}:r∈Wc e m↔r<m:=by
 unfold Wc;rw[mW];constructor
 ·rintro⟨k,hk,rfl⟩;exact Ub (mX.mp hk)
 ·intro h;exact⟨psR e m r,mX.mpr (Ub h),VY h⟩
theorem VJ{e:Bool}{m:Nat}:(YK e m).signs.length=m:=by unfold YK;rw[mM,m9]
theorem row_W{e:Bool}{m r:Nat}(h:r<m):WN (YK e m) r=[nxR e m r]:=by
 unfold WN YK;simp[mU,pe h]
theorem row_sg{e:Bool}{m r:Nat}(h:r<m):sgB (YK e m) "goal" r=decide (psR e m r=m-1):=by
 unfold sgB YK;simp only[mU,pe h,Option.map_some,Option.getD_some]
 by_cases c:psR e m r=m-1
 ·simp[c]
 ·simp[c]
theorem row_good{e:Bool}{m:Nat}(h1:12<=m)(h2:m<=20):XR (YK e m):=by
 have ng:Yh "goal" = true:=by decide +kernel
 refine⟨by rw[VJ];omega,by rw[VJ];omega,?_,?_,?_,?_,?_⟩
 ·unfold YK;rw[mM,mM]
 ·intro ss hs;obtain⟨r,hr,rfl⟩:=mW.mp (show ss∈(List.range m).map _ from hs)
  by_cases c:psR e m r=m-1
  ·rw[if_pos c];exact⟨by simp,by simpa using ng,by simp⟩
  ·rw[if_neg c];exact⟨by simp,by simp,by simp⟩
 ·intro ss hs;obtain⟨r,hr,rfl⟩:=mW.mp (show ss∈(List.range m).map _ from hs);have:=nx_lt (e:=e) (mX.mp hr);refine⟨by simp,by simp,fun x hx=>?_,by simp⟩;rw[nj] at hx;rw[hx,VJ];omega
 ·refine⟨by simp[YK],by simp[YK],fun x hx=>?_,by simp[YK]⟩;rw[nj.mp (show x∈[(0:Int)] from hx),VJ];omega
 ·exact⟨by simp[YK],fun x hx=>by rw[nj.mp (show x∈[("goal" : Str)] from hx)];exact ng,by simp[YK]⟩
theorem row_st{e:Bool}{m:Nat}:∀(k r:Nat),r<m->(stB (WN (YK e m)) (fun r=>!sgB (YK e m) "goal" r) (sgB (YK e m) "goal") k r=true↔psR e m r+k=m-1)
 |0,r,h=>by
  show sgB (YK e m) "goal" r=true↔_
  rw[row_sg h,oG];rfl
 |k+1,r,h=>by
  show((!sgB (YK e m) "goal" r)&&ldB (WN (YK e m)) (stB (WN (YK e m)) (fun r=>!sgB (YK e m) "goal" r) (sgB (YK e m) "goal") k) r)=true↔_
  have ih:=row_st (e:=e) k (nxR e m r) (nx_lt h);have lp:=Ub (e:=e) h;rw[m8,row_sg h,pL,rf,Xa];unfold EW;rw[row_W h];simp only[nj,exists_eq_left];rw[ih,ps_nx h];omega
theorem row_ti{e:Bool}{m:Nat}:TI (WN (YK e m)) m (fun r=>!sgB (YK e m) "goal" r) (sgB (YK e m) "goal") (Wc e m) (fun r=>m-1-psR e m r):=by
 have key:∀r,r<m->Lst (WN (YK e m)) (fun r=>!sgB (YK e m) "goal" r) (sgB (YK e m) "goal") (m-1-psR e m r) r:=fun r h=>by
  have lp:=Ub (e:=e) h;refine⟨(row_st _ r h).mpr (by omega),fun j hj=>?_⟩;cases c:stB (WN (YK e m)) (fun r=>!sgB (YK e m) "goal" r) (sgB (YK e m) "goal") j r with
  |false=>rfl
  |true=>have:=(row_st j r h).mp c;omega
 exact⟨ord_nd,fun r=>⟨fun h=>⟨zL.mp h,_,key r (zL.mp h)⟩,fun h=>zL.mpr h.1⟩,fun r h=>key r (zL.mp h)⟩
theorem row_fa{e:Bool}{m r:Nat}(h:r<m):faB (YK e m) r=true:=by
 have m1:m-1<m:=by omega
 have ll:=Ub (e:=e) m1;have nl:nxR e m (psR e m (m-1))=psR e m (m-1):=by unfold nxR;rw[VY m1];congr 1;omega
 have rt:∀(k r:Nat),r<m->psR e m r+k=m-1->Rt (EW (WN (YK e m))) (toP (fun _=>true) (YK e m).signs.length) r (psR e m (m-1)):=by
  intro k
  induction k with
  |zero=>
   intro r hr he;have:r=psR e m (m-1):=by rw[<- VY (e:=e) hr];congr 1
   rw[<- this];exact .here
  |succ k ih=>
   intro r hr he;refine Rt.trans (.on .here (show nxR e m r∈WN (YK e m) r by rw[row_W hr];simp) ⟨by rw[VJ];exact nx_lt hr,rfl⟩) (ih (nxR e m r) (nx_lt hr) ?_);rw[ps_nx hr];omega
 have lp:=Ub (e:=e) h;unfold faB;refine U9.mpr ⟨rfl,psR e m (m-1),rt (m-1-psR e m r) r h (by omega),⟨⟨by rw[VJ];exact ll,rfl⟩,⟨_,show psR e m (m-1)∈WN (YK e m) (psR e m (m-1)) by rw[row_W ll,nl];simp,⟨by rw[VJ];exact ll,rfl⟩,.here⟩,fun g hg=>?_⟩⟩;refine⟨psR e m (m-1),.here,.here,?_⟩;obtain⟨S,hS,rfl⟩:=mW.mp hg;have:S=sgB (YK e m) "goal" := by
  have hS':S∈([("goal" : Str)].map (sgB (YK e m)):List (Nat->Bool)):=hS;exact nj.mp hS'
 rw[this];exact⟨by rw[VJ];exact ll,by rw[row_sg ll,VY m1];exact nG rfl⟩
theorem nV_rev(l:List Nat):(nV l).reverse=nV l.reverse:=by unfold nV;rw[List.map_reverse]
theorem at_last{e:Bool}{m:Nat}(h:1<=m):atI (nV (Wc e m)) (-(1:Int))=some (.int (psR e m (m-1):Int)):=by
 have hl:(nV (Wc e m)).length=m:=by rw[VT,WJ]
 have:=atI_neg (xs:=nV (Wc e m)) (p:=1) (mP _) (by omega);rw[show(-((1:Nat):Int))=-(1:Int) from rfl] at this;rw[this];have e2:=zP (e:=e) (show m-1<m by omega);rw[mO (by omega)] at e2;have e3:(nV (Wc e m))[(nV (Wc e m)).length-1]'(by omega)=(nV (Wc e m))[m-1]'(by omega):=by congr 1;omega
 rw[e3];exact e2
theorem sz1:1<=sizeLine:=by rw[mN];decide
theorem sz2:2<=sizeLine:=by rw[mN];decide
theorem sz3:3<=sizeLine:=by rw[mN];decide
theorem sz4:4<=sizeLine:=by rw[mN];decide
theorem sz5:5<=sizeLine:=by rw[mN];decide
theorem sz6:6<=sizeLine:=by rw[mN];decide
theorem sz7:7<=sizeLine:=by rw[mN];decide
end L3
namespace L3
open PySem PySem.Spec L2
theorem Zc{X:Cx}{e:Expr}{te:TE}(ha:PE X e te)(hs:starEach [e] X.env=(false,eval e X.env)::starEach [] X.env):PA X [e] (VI te tNil):=Zr ha XH hs
theorem Xk{X:Cx}{e:Expr}{te:TE}(ha:PE X e te)(h:starB e=false):PA X [e] (VI te tNil):=Z0 ha XH h
end L3
namespace KK
open PySem PySem.Spec L2 L3
def top(i:Nat):Stmt:=PySem.Challenge.pw_timecourt_k62_turns_and_fair_rooms.main.body.getD i (.Pass ⟨0,0,0,0⟩)
def lE:List Str:=["_law_so_here"]
def lF:List Str:=["thing"]
def lG:List Str:=["_law_room", "_law_one", "_law_found", "_law_spec"]
def lH:List Str:=["_law_room", "_law_one", "_law_fair", "_law_spec"]
def lI:List Str:=["_law_room", "_law_parts"]
def lJ:List Str:=["thing", "many"]
def lK:List Str:=["room", "world"]
def lL:List Str:=["_law_room"]
def lM:List Str:=["_law_room", "_law_fair", "_law_other"]
def lN:List Str:=["_law_way", "_law_found"]
def lO:List Str:=["_law_room", "_law_first", "_law_on"]
def lP:List Str:=["_law_on", "_law_one", "_law_fair"]
def lQ:List Str:=["_law_part", "_law_room"]
def lR:List Str:=["_law_one"]
def lS:List Str:=["self", "room"]
def lT:List Str:=["self", "way"]
def lU:List Str:=["sentence"]
def lV:List Str:=["_law_cell"]
def lW:List Str:=["_law_spec", "_law_keep", "_law_goal"]
def lX:List Str:=["_law_script"]
def lY:List Str:=["_law_spec", "_law_fair", "_law_part", "_law_left"]
def lZ:List Str:=["room", "ways", "goal"]
def ma:List Str:=["room", "signs", "sign"]
def md:List Str:=["_law_k", "_law_name", "_law_xs", "_law_room"]
def me:List Str:=["_law_name", "_law_ring", "_law_signs"]
def mf:List Str:=["_law_room", "_law_inside", "_law_good", "_law_reach_here"]
def mh:List Str:=["_law_k", "_law_names_here", "_law_xs", "_law_deep"]
def mi:List Str:=["_law_k", "_law_letters", "_law_xs"]
def mj:List Str:=["_law_other", "_law_xs", "_law_room"]
def ml:List Str:=["_law_k", "_law_names_here", "_law_xs"]
def mn:List Str:=["_law_room", "_law_ways", "_law_inside"]
def mr:List Str:=["_law_other", "_law_room", "_law_reach_here"]
def mv:List Str:=["_law_other", "_law_inside", "_law_room", "_law_reach_here"]
def mw:List Str:=["_law_other", "_law_name", "_law_signs"]
def my:List Str:=["_law_other", "_law_good"]
def mz:List Str:=["_law_room", "_law_goal", "_law_fair"]
def mB:List Str:=["_law_room", "_law_fair", "_law_one"]
def mC:List Str:=["_law_room", "_law_fair", "_law_missed", "_law_one"]
def mD:List Str:=["_law_room", "_law_lost", "_law_never"]
def mE:List Str:=["_law_room", "_law_sentence", "_law_spec"]
def mF:List Str:=["self", "sentence", "inner"]
def mG:List Str:=["signs", "ways", "starts", "fair"]
def mH:List Str:=["self", "signs", "ways", "starts", "fair"]
def mJ:List Str:=["_law_ways", "_law_inside", "_law_start"]
def mK:List Str:=["_law_spec", "_law_inside"]
abbrev Wg:Stmt:=top 8
abbrev Wl:Stmt:=top 9
abbrev WA:Stmt:=top 10
abbrev XF:Stmt:=top 11
abbrev XC:Stmt:=top 12
abbrev XW:Stmt:=top 13
abbrev XV:Stmt:=top 17
abbrev We:Stmt:=top 18
abbrev Xq:Stmt:=top 19
abbrev WU:Stmt:=top 22
abbrev XJ:Stmt:=top 23
abbrev YL:Stmt:=top 24
abbrev YV:Stmt:=top 25
abbrev Wi:Stmt:=top 26
abbrev XT:Stmt:=top 27
abbrev YY:Stmt:=XL (top 28) 0
abbrev YW:Stmt:=XL (top 28) 1
abbrev Z9:Stmt:=XL (top 28) 2
abbrev Yu:Stmt:=XL (top 28) 3
abbrev Y5:Stmt:=XL (top 28) 4
abbrev YI:Stmt:=XL (top 28) 5
abbrev Yj:Stmt:=XL (top 28) 6
abbrev Y4:Stmt:=XL (top 28) 7
abbrev Xr:Stmt:=XL (top 28) 8
abbrev YS:Stmt:=XL (top 32) 0
abbrev XM:Stmt:=XL (top 32) 1
abbrev Ys:Stmt:=XL (top 32) 2
abbrev YH:Stmt:=XL (top 32) 3
abbrev Y7:Stmt:=XL (top 32) 4
abbrev Yd:Stmt:=XL (top 32) 5
abbrev Yy:Stmt:=top 33
abbrev Yt:Stmt:=top 34
abbrev Y6:Stmt:=top 36
abbrev Xs:Stmt:=top 37
abbrev Xj:Stmt:=top 38
abbrev Yl:Stmt:=top 39
abbrev Xl:Stmt:=top 40
abbrev XU:Stmt:=top 41
abbrev YX:Stmt:=top 42
abbrev XI:Stmt:=top 43
abbrev ZO:Stmt:=top 44
abbrev XQ:Stmt:=top 45
abbrev Ya:Stmt:=top 46
abbrev YA:Stmt:=top 47
abbrev YT:Stmt:=top 48
abbrev Z4:Stmt:=top 49
abbrev YF:Stmt:=top 50
abbrev YO:Stmt:=top 51
abbrev Yc:Stmt:=top 52
abbrev zh:Stmt:=top 53
theorem lB{N P:List Str}{S:Scope}(a:S.kind=.function:=by rfl)(b:S.isCoroutine=false:=by rfl)(c:S.isGenerator=false:=by rfl)(d:N.take P.length=P:=by rfl)(e:N.Nodup/\(∀x∈P,S.names.lookup x=some .local\/S.names.lookup x=some .cell)/\∀y∈S.names,y.2≠.free:=by decide +kernel):ZH N P S:=⟨a,b,c,e.1,d,e.2.1,e.2.2⟩
theorem jM:ZH ["thing"] lF (Zb Wg):=lB
theorem kX:ZH ["thing"] lF (Zb Wl):=lB
theorem kP:ZH ["thing", "many"] lJ (Zb WA):=lB
theorem vB:ZH ["thing"] lF (Zb XF):=lB
theorem ja:ZH ["thing", "many"] lJ (Zb XC):=lB
theorem Vq:ZH ["things", "many", "start", "taken"] ["things", "many"] (Zb XW):=lB
theorem U5:ZH ["thing", "word"] lF (Zb XV):=lB
theorem zt:ZH ["sentence", "word"] lU (Zb We):=lB
theorem Wq:ZH ["sentence", "found", "waiting", "one"] lU (Zb Xq):=lB
theorem Xn:ZH ["world", "one", "other", "rows", "row", "sets", "along", "goal", "numbers", "near", "far", "turn", "room"] ["world", "one", "other"] (Zb WU):=lB
theorem Uv:ZH ["world", "sets"] ["world"] (Zb XJ):=lB
theorem X4:ZH ["row", "found", "one", "inner"] ["row"] (Zb YL):=lB
theorem VV:ZH ["word", "inner", "wanted"] ["word", "inner"] (Zb YV):=lB
theorem kD:ZH ["rooms"] ["rooms"] (Zb Wi):=lB
theorem ju:ZH ["mask"] ["mask"] (Zb XT):=lB
theorem vO:ZH ["self", "world"] ["self", "world"] (Zb YY):=lB
theorem yg:ZH ["self", "sign"] ["self", "sign"] (Zb YW):=lB
theorem UD:ZH ["self", "goal"] ["self", "goal"] (Zb Z9):=lB
theorem Xm:ZH ["self", "along", "goal", "found", "more"] ["self", "along", "goal"] (Zb Yu):=lB
theorem Xh:ZH ["self", "within", "found", "fewer", "goal"] ["self", "within"] (Zb Y5):=lB
theorem XZ:ZH ["self", "row", "found", "one", "inner"] ["self", "row"] (Zb YI):=lB
theorem Y3:ZH ["self", "sentence", "inner", "word", "found", "rooms"] mF (Zb Yj):=lB
theorem Xg:ZH ["self", "way", "word", "goal", "found", "turn"] lT (Zb Y4):=lB
theorem Y8:ZH ["self", "way", "word", "against", "lost", "found", "turn"] lT (Zb Xr):=lB
theorem yM:ZH ["self", "signs", "ways", "starts", "fair"] mH (Zb YS):=lB
theorem y8:ZH ["self"] ["self"] (Zb XM):=lB
theorem qi:ZH ["self", "room"] lS (Zb Ys):=lB
theorem qC:ZH ["self", "room"] lS (Zb YH):=lB
theorem sc_World_begins:ZH ["self"] ["self"] (Zb Y7):=lB
theorem Uo:ZH ["self"] ["self"] (Zb Yd):=lB
theorem VO:ZH ["signs", "ways", "starts", "fair", "many"] mG (Zb Yy):=lB
theorem qe:ZH ["thing", "many"] lJ (Zb Yt):=lB
theorem zI:ZH ["_law_script", "_law_k"] ["_law_script", "_law_k"] (Zb Y6):=lB
theorem YE:ZH ["_law_cell", "_law_many", "_law_found", "_law_rest", "_law_number", "_law_k"] ["_law_cell", "_law_many"] (Zb Xs):=lB
theorem Vg:ZH ["_law_cell", "_law_letters", "_law_xs"] lV (Zb Xj):=lB
theorem Z5:ZH ["_law_script", "_law_names_here", "_law_xs", "_law_many", "_law_signs", "_law_ways", "_law_room", "_law_on", "_law_starts", "_law_fair"] lX (Zb Yl):=lB
theorem X1:ZH ["_law_spec", "_law_signs", "_law_ways", "_law_starts", "_law_fair", "_law_names_here"] ["_law_spec"] (Zb Xl):=lB
theorem vj:ZH ["_law_xs"] ["_law_xs"] (Zb XU):=lB
theorem Yn:ZH ["_law_names_here", "_law_xs", "_law_deep", "_law_way", "_law_many", "_law_word", "_law_one", "_law_part"] ["_law_names_here", "_law_xs", "_law_deep"] (Zb YX):=lB
theorem WH:ZH ["_law_ways", "_law_inside", "_law_start", "_law_found", "_law_left", "_law_other"] mJ (Zb XI):=lB
theorem ZS:ZH ["_law_spec", "_law_inside", "_law_signs", "_law_ways", "_law_starts", "_law_fair", "_law_names_here", "_law_reach_here", "_law_good", "_law_room", "_law_ring", "_law_goes", "_law_has"] mK (Zb ZO):=lB
theorem Yz:ZH ["_law_spec", "_law_keep", "_law_goal", "_law_found", "_law_room", "_law_seen", "_law_left", "_law_here", "_law_one", "_law_other"] lW (Zb XQ):=lB
theorem Yk:ZH ["_law_spec", "_law_fair", "_law_part", "_law_left", "_law_one", "_law_other", "_law_rooms", "_law_found", "_law_first", "_law_turn", "_law_on"] lY (Zb Ya):=lB
theorem YR:ZH ["_law_spec", "_law_fair", "_law_part", "_law_left", "_law_one", "_law_other", "_law_rooms", "_law_found", "_law_first", "_law_turn", "_law_on"] lY (Zb YA):=lB
theorem Yw:ZH ["_law_spec", "_law_part", "_law_many", "_law_fair", "_law_word", "_law_pair", "_law_one", "_law_goal", "_law_keep"] ["_law_spec", "_law_part"] (Zb YT):=lB
theorem YU:ZH ["_law_spec", "_law_part", "_law_many", "_law_fair", "_law_word", "_law_pair", "_law_one", "_law_lost", "_law_missed", "_law_never"] ["_law_spec", "_law_part"] (Zb Z4):=lB
theorem Vr:ZH ["_law_spec", "_law_sentence", "_law_many", "_law_word", "_law_parts"] ["_law_spec", "_law_sentence"] (Zb YF):=lB
theorem Yx:ZH ["_law_spec", "_law_keep", "_law_goal", "_law_found", "_law_room", "_law_level", "_law_number", "_law_more", "_law_one"] lW (Zb YO):=lB
theorem ZX:ZH ["_law_cell", "_law_many", "_law_order", "_law_ways", "_law_k", "_law_signs", "_law_world_here", "_law_due", "_law_found"] lV (Zb Yc):=lB
theorem WE:ZH ["_law_script", "_law_spec", "_law_world_here", "_law_xs", "_law_one", "_law_other", "_law_due", "_law_fair", "_law_rooms", "_law_told", "_law_found"] lX (Zb zh):=lB
set_option genInjectivity false
structure Adr where
 is_whole:Addr
 cZ:FuncData
 is_name:Addr
 eu:FuncData
 is_room:Addr
 eB:FuncData
 are_names:Addr
 cu:FuncData
 are_rooms:Addr
 cy:FuncData
 last_ones:Addr
 cA:FuncData
 is_formed:Addr
 cB:FuncData
 inner_of:Addr
 db:FuncData
 inner_ahead:Addr
 bH:FuncData
 turns:Addr
 gC:FuncData
 fair_rooms:Addr
 bX:FuncData
 refuse_others:Addr
 bi:FuncData
 branch_kind:Addr
 bI:FuncData
 mask_of:Addr
 eI:FuncData
 rooms_in:Addr
 dc:FuncData
 Sets_init:Addr
 cC:FuncData
 Sets_having:Addr
 bJ:FuncData
 Sets_leading_to:Addr
 aV:FuncData
 Sets_coming_to:Addr
 ba:FuncData
 Sets_staying:Addr
 bz:FuncData
 Sets_rooms_by:Addr
 bj:FuncData
 Sets_rooms_with:Addr
 aW:FuncData
 Sets_on_some:Addr
 bA:FuncData
 Sets_on_all:Addr
 bK:FuncData
 World_init:Addr
 bY:FuncData
 World_many:Addr
 bZ:FuncData
 World_signs_of:Addr
 bb:FuncData
 World_ways_on:Addr
 bm:FuncData
 World_begins:Addr
 cj:FuncData
 World_fair_signs:Addr
 aP:FuncData
 makes_world:Addr
 bL:FuncData
 are_some_rooms:Addr
 bc:FuncData
 _law_cell_at:Addr
 bB:FuncData
 _law_stream:Addr
 bM:FuncData
 _law_names:Addr
 b0:FuncData
 _law_world:Addr
 b6:FuncData
 _law_made:Addr
 cD:FuncData
 _law_next:Addr
 cE:FuncData
 _law_branch:Addr
 bN:FuncData
 _law_reach:Addr
 b7:FuncData
 _law_fair_from:Addr
 bf:FuncData
 _law_comes:Addr
 b8:FuncData
 _law_broken:Addr
 bO:FuncData
 _law_kept:Addr
 cF:FuncData
 _law_some:Addr
 cG:FuncData
 _law_all:Addr
 de:FuncData
 _law_so:Addr
 cg:FuncData
 _law_turns:Addr
 b9:FuncData
 _law_long_row:Addr
 bn:FuncData
 law:Addr
 iU:FuncData
 C_TimeError:Addr
 C_BadWorld:Addr
 C_BadSentence:Addr
 C_NoBranch:Addr
 C_Sets:Addr
 C_World:Addr
 D_LENGTHS:Addr
 Y_WAY_WORDS:Addr
 Pm:Params
structure Txt(K:W.Frag)(mg:Str->Option Value)(a:Adr):Prop where
 eJ:Fun K "is_whole" "is_whole" Wg a.is_whole a.cZ
 fV:ZT K a.cZ ["thing"] []
 fW:mg "is_whole" = some (.ref a.is_whole)
 fE:Fun K "is_name" "is_name" Wl a.is_name a.eu
 gE:ZT K a.eu ["thing"] []
 gF:mg "is_name" = some (.ref a.is_name)
 gG:Fun K "is_room" "is_room" WA a.is_room a.eB
 iC:ZT K a.eB ["thing", "many"] []
 iD:mg "is_room" = some (.ref a.is_room)
 df:Fun K "are_names" "are_names" XF a.are_names a.cu
 fe:ZT K a.cu ["thing"] []
 fg:mg "are_names" = some (.ref a.are_names)
 fh:Fun K "are_rooms" "are_rooms" XC a.are_rooms a.cy
 gH:ZT K a.cy ["thing", "many"] []
 gI:mg "are_rooms" = some (.ref a.are_rooms)
 dg:Fun K "last_ones" "last_ones" XW a.last_ones a.cA
 fj:ZT K a.cA ["things", "many"] []
 fk:mg "last_ones" = some (.ref a.last_ones)
 fm:Fun K "is_formed" "is_formed" XV a.is_formed a.cB
 gJ:ZT K a.cB ["thing"] []
 gK:mg "is_formed" = some (.ref a.is_formed)
 cP:Fun K "inner_of" "inner_of" We a.inner_of a.db
 eQ:ZT K a.db ["sentence"] []
 eT:mg "inner_of" = some (.ref a.inner_of)
 ca:Fun K "inner_ahead" "inner_ahead" Xq a.inner_ahead a.bH
 dh:ZT K a.bH ["sentence"] []
 di:mg "inner_ahead" = some (.ref a.inner_ahead)
 gL:Fun K "turns" "turns" WU a.turns a.gC
 ig:ZT K a.gC ["world", "one", "other"] []
 ii:mg "turns" = some (.ref a.turns)
 aY:Fun K "fair_rooms" "fair_rooms" XJ a.fair_rooms a.bX
 bt:ZT K a.bX ["world"] []
 bu:mg "fair_rooms" = some (.ref a.fair_rooms)
 ck:Fun K "refuse_others" "refuse_others" YL a.refuse_others a.bi
 dD:ZT K a.bi ["row"] []
 dE:mg "refuse_others" = some (.ref a.refuse_others)
 dj:Fun K "branch_kind" "branch_kind" YV a.branch_kind a.bI
 fF:ZT K a.bI ["word", "inner"] []
 fG:mg "branch_kind" = some (.ref a.branch_kind)
 cQ:Fun K "mask_of" "mask_of" Wi a.mask_of a.eI
 dG:ZT K a.eI ["rooms"] []
 dH:mg "mask_of" = some (.ref a.mask_of)
 eV:Fun K "rooms_in" "rooms_in" XT a.rooms_in a.dc
 fX:ZT K a.dc ["mask"] []
 fY:mg "rooms_in" = some (.ref a.rooms_in)
 gM:Fun K "__init__" "Sets.__init__" YY a.Sets_init a.cC
 fo:ZT K a.cC ["self", "world"] []
 iL:VA K a.C_Sets "__init__" a.Sets_init
 fH:Fun K "having" "Sets.having" YW a.Sets_having a.bJ
 dk:ZT K a.bJ ["self", "sign"] []
 dm:VA K a.C_Sets "having" a.Sets_having
 cR:Fun K "leading_to" "Sets.leading_to" Z9 a.Sets_leading_to a.aV
 aj:ZT K a.aV ["self", "goal"] []
 ak:VA K a.C_Sets "leading_to" a.Sets_leading_to
 dy:Fun K "coming_to" "Sets.coming_to" Yu a.Sets_coming_to a.ba
 aS:ZT K a.ba ["self", "along", "goal"] []
 aT:VA K a.C_Sets "coming_to" a.Sets_coming_to
 eX:Fun K "staying" "Sets.staying" Y5 a.Sets_staying a.bz
 bg:ZT K a.bz ["self", "within"] []
 bh:VA K a.C_Sets "staying" a.Sets_staying
 dJ:Fun K "rooms_by" "Sets.rooms_by" YI a.Sets_rooms_by a.bj
 dM:ZT K a.bj ["self", "row"] []
 dN:VA K a.C_Sets "rooms_by" a.Sets_rooms_by
 cS:Fun K "rooms_with" "Sets.rooms_with" Yj a.Sets_rooms_with a.aW
 cT:ZT K a.aW ["self", "sentence", "inner"] []
 cU:VA K a.C_Sets "rooms_with" a.Sets_rooms_with
 fb:Fun K "on_some" "Sets.on_some" Y4 a.Sets_on_some a.bA
 bP:ZT K a.bA ["self", "way"] []
 bQ:VA K a.C_Sets "on_some" a.Sets_on_some
 fI:Fun K "on_all" "Sets.on_all" Xr a.Sets_on_all a.bK
 fJ:ZT K a.bK ["self", "way"] []
 fK:VA K a.C_Sets "on_all" a.Sets_on_all
 gj:Fun K "__init__" "World.__init__" YS a.World_init a.bY
 dQ:ZT K a.bY ["self", "signs", "ways", "starts", "fair"] []
 iE:VA K a.C_World "__init__" a.World_init
 gn:Fun K "many" "World.many" XM a.World_many a.bZ
 cH:ZT K a.bZ ["self"] []
 cI:VA K a.C_World "many" a.World_many
 dz:Fun K "signs_of" "World.signs_of" Ys a.World_signs_of a.bb
 dA:ZT K a.bb ["self", "room"] []
 dB:VA K a.C_World "signs_of" a.World_signs_of
 dU:Fun K "ways_on" "World.ways_on" YH a.World_ways_on a.bm
 dX:ZT K a.bm ["self", "room"] []
 dY:VA K a.C_World "ways_on" a.World_ways_on
 hG:Fun K "begins" "World.begins" Y7 a.World_begins a.cj
 hI:ZT K a.cj ["self"] []
 hU:VA K a.C_World "begins" a.World_begins
 cJ:Fun K "fair_signs" "World.fair_signs" Yd a.World_fair_signs a.aP
 cK:ZT K a.aP ["self"] []
 cL:VA K a.C_World "fair_signs" a.World_fair_signs
 dn:Fun K "makes_world" "makes_world" Yy a.makes_world a.bL
 fL:ZT K a.bL ["signs", "ways", "starts", "fair"] []
 fM:mg "makes_world" = some (.ref a.makes_world)
 bo:Fun K "are_some_rooms" "are_some_rooms" Yt a.are_some_rooms a.bc
 bU:ZT K a.bc ["thing", "many"] []
 bV:mg "are_some_rooms" = some (.ref a.are_some_rooms)
 aB:Fun K "_law_cell_at" "_law_cell_at" Y6 a._law_cell_at a.bB
 aI:ZT K a.bB ["_law_script", "_law_k"] []
 aJ:mg "_law_cell_at" = some (.ref a._law_cell_at)
 bC:Fun K "_law_stream" "_law_stream" Xs a._law_stream a.bM
 cc:ZT K a.bM ["_law_cell", "_law_many"] []
 ce:mg "_law_stream" = some (.ref a._law_stream)
 dZ:Fun K "_law_names" "_law_names" Xj a._law_names a.b0
 gp:ZT K a.b0 ["_law_cell"] []
 gq:mg "_law_names" = some (.ref a._law_names)
 d0:Fun K "_law_world" "_law_world" Yl a._law_world a.b6
 gr:ZT K a.b6 ["_law_script"] []
 gu:mg "_law_world" = some (.ref a._law_world)
 dq:Fun K "_law_made" "_law_made" Xl a._law_made a.cD
 ft:ZT K a.cD ["_law_spec"] []
 fu:mg "_law_made" = some (.ref a._law_made)
 aZ:Fun K "_law_next" "_law_next" XU a._law_next a.cE
 bp:ZT K a.cE ["_law_xs"] []
 bq:mg "_law_next" = some (.ref a._law_next)
 aA:Fun K "_law_branch" "_law_branch" YX a._law_branch a.bN
 aD:ZT K a.bN ["_law_names_here", "_law_xs", "_law_deep"] []
 aE:mg "_law_branch" = some (.ref a._law_branch)
 d4:Fun K "_law_reach" "_law_reach" XI a._law_reach a.b7
 gv:ZT K a.b7 ["_law_ways", "_law_inside", "_law_start"] []
 gw:mg "_law_reach" = some (.ref a._law_reach)
 ah:Fun K "_law_fair_from" "_law_fair_from" ZO a._law_fair_from a.bf
 aq:ZT K a.bf ["_law_spec", "_law_inside"] []
 az:mg "_law_fair_from" = some (.ref a._law_fair_from)
 bS:Fun K "_law_comes" "_law_comes" XQ a._law_comes a.b8
 cM:ZT K a.b8 ["_law_spec", "_law_keep", "_law_goal"] []
 cN:mg "_law_comes" = some (.ref a._law_comes)
 dr:Fun K "_law_broken" "_law_broken" Ya a._law_broken a.bO
 fN:ZT K a.bO ["_law_spec", "_law_fair", "_law_part", "_law_left"] []
 fP:mg "_law_broken" = some (.ref a._law_broken)
 fz:Fun K "_law_kept" "_law_kept" YA a._law_kept a.cF
 gN:ZT K a.cF ["_law_spec", "_law_fair", "_law_part", "_law_left"] []
 gO:mg "_law_kept" = some (.ref a._law_kept)
 fA:Fun K "_law_some" "_law_some" YT a._law_some a.cG
 gP:ZT K a.cG ["_law_spec", "_law_part"] []
 gQ:mg "_law_some" = some (.ref a._law_some)
 fZ:Fun K "_law_all" "_law_all" Z4 a._law_all a.de
 ic:ZT K a.de ["_law_spec", "_law_part"] []
 ie:mg "_law_all" = some (.ref a._law_all)
 aG:Fun K "_law_so" "_law_so" YF a._law_so a.cg
 aN:ZT K a.cg ["_law_spec", "_law_sentence"] []
 aO:mg "_law_so" = some (.ref a._law_so)
 d5:Fun K "_law_turns" "_law_turns" YO a._law_turns a.b9
 gx:ZT K a.b9 ["_law_spec", "_law_keep", "_law_goal"] []
 gz:mg "_law_turns" = some (.ref a._law_turns)
 cn:Fun K "_law_long_row" "_law_long_row" Yc a._law_long_row a.bn
 d6:ZT K a.bn ["_law_cell"] []
 d7:mg "_law_long_row" = some (.ref a._law_long_row)
 la:Fun K "law" "law" zh a.law a.iU
 lu:ZT K a.iU ["_law_script"] []
 lA:mg "law" = some (.ref a.law)
 iF:mg "ValueError" = none
 hV:mg "all" = none
 lc:mg "sum" = none
 aX:mg "len" = none
 ae:mg "range" = none
 bT:mg "list" = none
 al:mg "isinstance" = none
 i7:mg "int" = none
 cr:mg "tuple" = none
 ij:mg "any" = none
 i6:mg "bool" = none
 i8:mg "str" = none
 i9:mg "set" = none
 fQ:mg "sorted" = none
 lg:mg "min" = none
 dt:mg "enumerate" = none
 iG:∃u,mg "LETTERS" = some u/\Z1 (.str "abcdefghijklmnopqrstuvwxyz") u
 fc:∃u,mg "MOST_LETTERS" = some u/\Z1 (.int 8) u
 fR:∃u,mg "MOST_WITHIN" = some u/\Z1 (.int 5) u
 gA:∃u,mg "MOST_ROOMS" = some u/\Z1 (.int 20) u
 gR:∃u,mg "MOST_FAIR" = some u/\Z1 (.int 3) u
 iM:mg "TimeError" = some (.ref a.C_TimeError)
 iN:W.excIn K a.C_TimeError [.type "ValueError",.type "Exception",.type "BaseException",.type "object"] "ValueError.__new__" = true
 iW:mg "BadWorld" = some (.ref a.C_BadWorld)
 iX:W.excIn K a.C_BadWorld [.type "ValueError",.type "Exception",.type "BaseException",.type "object"] "ValueError.__new__" = true
 ik:mg "BadSentence" = some (.ref a.C_BadSentence)
 im:W.excIn K a.C_BadSentence [.type "ValueError",.type "Exception",.type "BaseException",.type "object"] "ValueError.__new__" = true
 iY:mg "NoBranch" = some (.ref a.C_NoBranch)
 iZ:W.excIn K a.C_NoBranch [.type "ValueError",.type "Exception",.type "BaseException",.type "object"] "ValueError.__new__" = true
 k_BadWorld:ExcK K a.C_BadWorld
 k_BadSentence:ExcK K a.C_BadSentence
 k_NoBranch:ExcK K a.C_NoBranch
 nk_signs:W.nsIn K a.D_LENGTHS "signs" = some none
 nk_Next:W.nsIn K a.D_LENGTHS "Next" = some none
 fB:mg "WAY_WORDS" = some (.ref a.Y_WAY_WORDS)
 y_WAY_WORDS:∀H:Hp,SqT K H a.Y_WAY_WORDS [.str "next",.str "until",.str "always",.str "ever",.str "within"]
 gT:mg "LENGTHS" = some (.ref a.D_LENGTHS)
 cW:DicK K a.Pm a.D_LENGTHS [("all",2),("some",2),("not",2),("next",2),("always",2),("ever",2),("before",2),("once",2),("sofar",2),("until",3),("since",3)]
 aa:Cls K a.C_Sets
 i3:mg "Sets" = some (.ref a.C_Sets)
 iO:Mk K a.C_Sets a.Sets_init
 ab:Wf K a.C_Sets "whole"
 d8:Wf K a.C_Sets "ways"
 du:Wf K a.C_Sets "signs"
 cf:Wf K a.C_Sets "goals"
 am:Wf K a.C_Sets "fair"
 aQ:Cls K a.C_World
 iP:mg "World" = some (.ref a.C_World)
 io:Mk K a.C_World a.World_init
 aR:Wf K a.C_World "room_signs"
 bD:Wf K a.C_World "room_ways"
 bW:Wf K a.C_World "start_rooms"
 br:Wf K a.C_World "fair_names"
def kj(K:W.Frag)(a:Adr):Sp:=fun vs H Q _=>∃(p:Addr) (ns:List Int) (n:Nat),vs=[.ref p]/\H p=some (.lst (ns.map V.int))/\ns.Nodup/\(∀x∈ns,0<=x/\x<(n:Int))/\ns.length<=1000/\n<=1000/\∀H',Zf H H'->Q (.int (mI (fun r=>decide ((r:Int)∈ns)) n)) H'
variable{P:Program}{w:World}{K:W.Frag}{mg:Str->Option Value}{base:Heap}{a:Adr}
theorem UK(T:Txt K mg a)(hw:w.params=a.Pm):Ye P w K mg base CX0 1 a.mask_of a.eI ["rooms"] (kj K a):=by
 refine T.cQ.ok kD (fun vs H Q E h=>?_) (fun lD A outer s H vs Q E hr h=>?_)
 ·obtain⟨p,ns,n,rfl,_⟩:=h;rfl
 ·obtain⟨p,ns,n,rfl,hp,nd,hb,ln,n1,k⟩:=h;refine⟨_,(@Zg _ _ _ (@Zq _ _ _ _ (Zm (call_sumI (K:=K) rfl rfl) rfl T.lc PyProof.Rows.Boot.«sum» (@Zc _ _ _ (Zv (Nc:=["room"]) (ix:=[none]) (ZA.of (by decide +kernel:ZD (Zb Wi) ["rooms"] ["room"] [none] _=true)) rfl (ZC (K:=K) rfl (pv 0)) (fun _ _ _ _ _=>(Zh (i:=0) (show List.Nodup (["room"]:List Str) by decide +kernel) rfl (Or.inl rfl))) (fun _ _ _ _ _=>ZF) (fun _ _ _ _ _=>(@Zz _ _ _ _ _ _ _ _ op_shl Zd (pv 0)))) (by rfl))))),?_⟩;refine⟨_,rfl,p,rfl,⟨_,rS hp⟩,fun D hD=>?_⟩;refine ZY ns V.int (fun x=>.int (1*2 ^ x.toNat)) hD (rS hp) (by rw[mN];omega) ?_ ?_
  ·intro x hx G N sG hN;have:=hb x hx;exact⟨_,rfl,_,_,rfl,rfl,⟨by omega,by omega,by decide⟩,hN _ (.refl _)⟩
  intro H1 e1 s1;refine⟨D,ns.map fun x:Int=>(1:Int)*2 ^ x.toNat,rfl,rS (by rw[e1,mZ];rfl),?_⟩;rw[sum_mask nd hb];exact k _ s1
def UL(K:W.Frag)(a:Adr):Sp:=fun vs H Q _=>∃(r dx:Addr) (fs:List (Str×V)) (d:WD) (S:Nat->Bool),vs=[.ref r,.int (mI S d.signs.length)]/\XR d/\SO a.C_Sets H r d dx fs/\∀H',Zf H H'->Q (.int (mI (ldB (WN d) S) d.signs.length)) H'
theorem Y1(T:Txt K mg a)(hw:w.params=a.Pm):Ye P w K mg base CX0 2 a.Sets_leading_to a.aV ["self", "goal"] (UL K a):=by
 have cX:=UK (P:=P) (w:=w) (base:=base) T hw;refine T.cR.ok UD (fun vs H Q E h=>?_) (fun lD A outer s H vs Q E hr h=>?_)
 ·obtain⟨r,dx,fs,d,S,rfl,_⟩:=h;rfl
 ·obtain⟨r,dx,fs,d,S,rfl,gd,so,k⟩:=h;refine⟨_,(@Zg _ _ _ (@Zq _ _ _ _ (Zl cX (hr.mono (by decide)) rfl T.dH T.cQ.kp T.dG .nil Zs (@Zc _ _ _ (Zv (Nc:=lZ) (ix:=[none,none,some 1]) (ZA.of (by decide +kernel:ZD (Zb Z9) ["self", "goal"] ["room", "ways", "goal"] [none,none,some 1] _=true)) rfl (zR (K:=K) rfl rfl T.dt (@Zc _ _ _ (Yp (K:=K) rfl (pv 0) rfl) (by rfl))) (fun _ _ _ _ _=>(VE (K:=K) (n:=2) rfl rfl (Z8 (Zh (i:=0) (show List.Nodup lZ by decide +kernel) rfl (Or.inl rfl)) (Z8 (Zh (i:=1) (show List.Nodup lZ by decide +kernel) rfl (Or.inl rfl)) Vc)))) (fun _ _ _ _ _=>(WI (Uh (K:=K) rfl (@Zz _ _ _ _ _ _ _ _ Wt (pv 1) (pv 2)) (fun _=>rfl)))) (fun _ _ _ _ _=>(pv 0))) (by rfl))))),?_⟩;have n20:=gd.n20;obtain⟨w,l1,hw⟩:=so.ways;refine⟨_,rfl,r,_,dx,_,_,rfl,so.obj,T.aa,T.d8,l1,?_⟩;refine⟨w,_,rfl,.inl hw,fun D hD=>?_⟩;refine xl (K:=K) (List.range d.signs.length) (wayM d) (ldB (WN d) S) (fun r=>.int (r:Int)) hD hw (by rw[mN,m9];omega) ?_ ?_
  ·intro q hq G N N0 sG h1 h2;rw[m9] at hq;rw[pB];refine⟨_,rfl,_,rfl,_,_,rfl,rfl,_,rfl,?_⟩;rw[way_goal gd hq];exact XS (fun c=>⟨_,rfl,h1 _ (.refl _) c⟩) (fun c=>h2 _ (.refl _) (Bool.eq_false_iff.mpr c))
  intro H1 e1 s1;rw[XD,m9] at e1;refine⟨D,_,d.signs.length,rfl,e1,xN _,fun x hx=>jJ hx,by have:=VH (n:=d.signs.length) (ldB (WN d) S);omega,by omega,fun H2 s2=>?_⟩;rw[xA];exact k _ (s1.trans s2)
def qx(K:W.Frag)(a:Adr):Sp:=fun vs H Q _=>∃(r dx:Addr) (fs:List (Str×V)) (d:WD) (A G:Nat->Bool),vs=[.ref r,.int (mI A d.signs.length),.int (mI G d.signs.length)]/\XR d/\SO a.C_Sets H r d dx fs/\∀H',Zf H H'->Q (.int (mI (cmB d A G) d.signs.length)) H'
theorem Wn(T:Txt K mg a)(hw:w.params=a.Pm):Ye P w K mg base CX0 3 a.Sets_coming_to a.ba ["self", "along", "goal"] (qx K a):=by
 have ag:=Y1 (P:=P) (w:=w) (base:=base) T hw;refine T.dy.ok Xm (fun vs H Q E h=>?_) (fun lD A outer s H vs Q E hr h=>?_)
 ·obtain⟨r,dx,fs,d,A,G,rfl,_⟩:=h;rfl
 ·obtain⟨r,dx,fs,d,S1,S2,rfl,gd,so,k⟩:=h;refine⟨_,(@Za _ _ _ _ _ (@Zi _ _ (3) _ _ _ _ Xm.nd rfl (Or.inl rfl) (pv 2) (by rfl) (.inl rfl)) (@Za _ _ _ _ _ (@Zi _ _ (4) _ _ _ _ Xm.nd rfl (Or.inl rfl) (pv 2) (by rfl) (.inl rfl)) (@Za _ _ _ _ _ (W7 nB (Uh (K:=K) rfl (pv 4) (fun _=>rfl)) (@Za _ _ _ _ _ (@Zi _ _ (4) _ _ _ _ Xm.nd rfl (Or.inl rfl) (@Zz _ _ _ _ _ _ _ _ Wt (@Zz _ _ _ _ _ _ _ _ Wt (pv 1) (Yi (pv 0) T.aa T.ak ag (hr.mono (by decide)) T.aj .nil Zs (@Zc _ _ _ (pv 4) (by rfl)))) (VU un_inv (pv 3))) (by rfl) (.inl rfl)) (@Zg _ _ _ (vA (i:=3) Xm.nd rfl (Or.inl rfl) (pv 4) ip_orI)))) (@Zg _ _ _ (@Zq _ _ _ _ (pv 3)))))),?_⟩;refine⟨_,rfl,_,rfl,?_⟩;refine⟨fun m σ G=>∃(F M:Nat->Bool),σ=[some (.ref r),some (.int (mI S1 d.signs.length)),some (.int (mI S2 d.signs.length)),some (.int (mI F d.signs.length)),some (.int (mI M d.signs.length))]/\Zf H G/\CmI (WN d) d.signs.length S1 S2 F M/\m=(d.signs.length-Vf F d.signs.length)+(if mI M d.signs.length=0 then 0 else 1),⟨_,S2,S2,rfl,.refl _,.start,rfl⟩,?_⟩;rintro m σ G ⟨F,M,rfl,sG,ci,rfl⟩;refine⟨_,rfl,_,rfl,?_⟩;refine XS (fun c=>?_) (fun c=>?_)
  ·rw[bne_iff_ne] at c;refine⟨fun σ G=>∃(F' M':Nat->Bool),σ=[some (.ref r),some (.int (mI S1 d.signs.length)),some (.int (mI S2 d.signs.length)),some (.int (mI F' d.signs.length)),some (.int (mI M' d.signs.length))]/\Zf H G/\CmI (WN d) d.signs.length S1 S2 F' M'/\(∀q<d.signs.length,F' q=(F q||M' q))/\(∀q<d.signs.length,M' q=true->F q=false),?_,?_⟩
   ·rintro σ G' ⟨F',M',rfl,sG',ci',ef,em⟩;refine⟨_,?_,F',M',rfl,sG',ci',rfl⟩;rw[if_neg c];have le:=cnt_le F' d.signs.length
    by_cases z:mI M' d.signs.length=0
    ·rw[if_pos z];have:Vf F d.signs.length<=Vf F' d.signs.length:=U4 fun q hq h=>by rw[ef q hq,h];rfl
     omega
    ·rw[if_neg z];have:Vf F d.signs.length<Vf F' d.signs.length:=vJ (fun q hq h=>by rw[ef q hq,h];rfl) (by
      apply oJ;intro nz;refine z (WW.mpr fun q hq=>?_);cases e:M' q with
      |false=>rfl
      |true=>exact absurd ⟨q,hq,em q hq e,by rw[ef q hq,e,Bool.or_true]⟩ nz)
     omega
   ·refine⟨_,rfl,_,rfl,r,dx,_,rfl,sG _ _ so.obj,so.no _ (by decide +kernel),_,rfl,r,dx,fs,d,M,rfl,gd,so.mono sG,fun G1 u1=>?_⟩;refine⟨_,_,rfl,rfl,_,rfl,_,rfl,_,_,rfl,rfl,?_⟩;have em:Builtin.bitAnd (Builtin.bitAnd (mI S1 d.signs.length) (mI (ldB (WN d) M) d.signs.length)) (Builtin.bitNot (mI F d.signs.length))=mI (fun r=>(S1 r&&ldB (WN d) (fun q=>decide (q<d.signs.length)&&M q) r)&&!F r) d.signs.length:=by
     rw[X9,Um];refine V6.mpr fun q hq=>?_;rw[ldB_ext gd (A':=fun q=>decide (q<d.signs.length)&&M q) (fun x hx=>by rw[nG hx];rfl) q hq]
    rw[em];refine⟨_,rfl,_,rfl,_,_,rfl,rfl,?_⟩;rw[xP];exact⟨_,_,rfl,sG.trans u1,ci.step,fun q hq=>rfl,fun q hq h=>by
     rw[m8] at h;simpa using h.2⟩
  ·have z:mI M d.signs.length=0:=oJ fun h=>c (bne_iff_ne.mpr h);have e:=ci.done (WL gd) (WW.mp z);refine⟨_,rfl,?_⟩;have e2:mI F d.signs.length=mI (cmB d S1 S2) d.signs.length:=V6.mpr fun q hq=>by rw[n6,jr];exact e q hq
   rw[e2];exact k _ sG
theorem mI_neg(S:Nat->Bool)(n:Nat):¬(-1:Int)=mI S n:=by unfold mI;omega
def zH(K:W.Frag)(a:Adr):Sp:=fun vs H Q _=>∃(r dx:Addr) (fs:List (Str×V)) (d:WD) (I:Nat->Bool),vs=[.ref r,.int (mI I d.signs.length)]/\XR d/\SO2 a.C_Sets H r d dx fs/\∀H',Zf H H'->Q (.int (mI (frB d I) d.signs.length)) H'
theorem WP(T:Txt K mg a)(hw:w.params=a.Pm):Ye P w K mg base CX0 4 a.Sets_staying a.bz ["self", "within"] (zH K a):=by
 have ag:=Y1 (P:=P) (w:=w) (base:=base) T hw;have aC:=Wn (P:=P) (w:=w) (base:=base) T hw;refine T.eX.ok Xh (fun vs H Q E h=>?_) (fun lD A outer s H vs Q E hr h=>?_)
 ·obtain⟨r,dx,fs,d,I,rfl,_⟩:=h;rfl
 ·obtain⟨r,dx,fs,d,I,rfl,gd,so,k⟩:=h;refine⟨_,(@Za _ _ _ _ _ (@Zi _ _ (2) _ _ _ _ Xh.nd rfl (Or.inl rfl) (pv 1) (by rfl) (.inl rfl)) (@Za _ _ _ _ _ (@Zi _ _ (3) _ _ _ _ Xh.nd rfl (Or.inl rfl) (VU Ud Zd) (by rfl) (.inl rfl)) (@Za _ _ _ _ _ (W7 nB (@Zp _ _ _ _ _ _ _ _ op_ne (pv 3) (pv 2) (Zw _)) (@Za _ _ _ _ _ (@Zi _ _ (3) _ _ _ _ Xh.nd rfl (Or.inl rfl) (pv 2) (by rfl) (.inl rfl)) (@Zg _ _ _ (Xo nB rfl (ZC (K:=K) rfl (Yp (K:=K) rfl (pv 0) rfl)) (Zh (i:=4) Xh.nd rfl (Or.inl rfl)) (@Zg _ _ _ (vA (i:=2) Xh.nd rfl (Or.inl rfl) (Yi (pv 0) T.aa T.ak ag (hr.mono (by decide)) T.aj .nil Zs (@Zc _ _ _ (Yi (pv 0) T.aa T.aT aC (hr.mono (by decide)) T.aS .nil Zs (@Zr _ _ _ _ _ (pv 1) (@Zc _ _ _ (@Zz _ _ _ _ _ _ _ _ Wt (pv 2) (pv 4)) (by rfl)) (by rfl))) (by rfl))) ip_andI)))))) (@Zg _ _ _ (@Zq _ _ _ _ (pv 2)))))),?_⟩;obtain⟨g,l1,hg⟩:=so.goals;have gl:(XN d).length<=10:=by
   unfold XN;have:=gd.fn.2.2
   split
   ·simp
   ·rw[mM];omega
  refine⟨_,rfl,_,rfl,?_⟩;refine⟨fun m σ G=>∃(F:Nat->Bool) (x:Int) (zg:Option V),σ=[some (.ref r),some (.int (mI I d.signs.length)),some (.int (mI F d.signs.length)),some (.int x),zg]/\Zf H G/\StI (WN d) d.signs.length I (XN d) F/\(x=mI F d.signs.length->mI F d.signs.length=mI (frB d I) d.signs.length)/\m=2*Vf F d.signs.length+(if x=mI F d.signs.length then 0 else 1),⟨_,I,-1,none,rfl,.refl _,.start,fun h=>absurd h (mI_neg _ _),rfl⟩,?_⟩;rintro m σ G ⟨F0,x,zg,rfl,sG,st,hx,rfl⟩;refine⟨_,rfl,_,rfl,rfl,_,rfl,XS (fun c=>?_) (fun c=>?_)⟩
  ·have cx:¬x=mI F0 d.signs.length:=fun z=>by rw[z] at c;simp at c
   refine⟨fun σ G=>∃(F:Nat->Bool) (zg:Option V),σ=[some (.ref r),some (.int (mI I d.signs.length)),some (.int (mI F d.signs.length)),some (.int (mI F0 d.signs.length)),zg]/\Zf H G/\StJ (WN d) d.signs.length I (XN d) F0 (XN d).length F,?_,?_⟩
   ·rintro σ G' ⟨F,zg,rfl,sG',sj⟩;refine⟨_,?_,F,mI F0 d.signs.length,zg,rfl,sG',sj.i,fun e=>?_,rfl⟩
    ·rw[if_neg cx]
     by_cases z:mI F0 d.signs.length=mI F d.signs.length
     ·rw[if_pos z];have e:Vf F d.signs.length<=Vf F0 d.signs.length:=U4 sj.le;omega
     ·rw[if_neg z];have:Vf F d.signs.length<Vf F0 d.signs.length:=vJ sj.le (by
       apply oJ;intro nz;refine z (V6.mpr fun q hq=>?_);cases e0:F0 q with
       |false=>
        cases e1:F q with
        |false=>rfl
        |true=>rw[sj.le q hq e1] at e0;cases e0
       |true=>
        cases e1:F q with
        |false=>exact absurd ⟨q,hq,e1,e0⟩ nz
        |true=>rfl)
      omega
    ·have e':=V6.mp e;exact V6.mpr fun q hq=>by
      rw[n6,U9];exact sj.done (WL gd) (goals_ne d) (fun q hq=>(e' q hq).symm) q hq
   ·refine⟨_,rfl,_,rfl,r,_,dx,_,_,rfl,sG _ _ so.so.obj,T.aa,T.cf,l1,g,rfl,⟨_,rS (sG _ _ hg)⟩,?_⟩;refine XX (K:=K) (xs:=(XN d).map fun s=>V.int (mI s d.signs.length)) (fun j σ G=>∃(F:Nat->Bool) (zg:Option V),σ=[some (.ref r),some (.int (mI I d.signs.length)),some (.int (mI F d.signs.length)),some (.int (mI F0 d.signs.length)),zg]/\Zf H G/\StJ (WN d) d.signs.length I (XN d) F0 j F) ?_ ?_ ?_ ?_
    ·exact⟨F0,_,rfl,sG,st.j⟩
    ·rintro j σ G' _ ⟨F,zg,rfl,sG',sj⟩;exact rS (sG' _ _ hg)
    ·rintro j y σ G' hy ⟨F,zg,rfl,sG',sj⟩;rw[mU] at hy;obtain⟨gs,eg,rfl⟩:=oU.mp hy;have so':=so.so.mono sG';refine⟨_,rfl,_,rfl,r,dx,_,rfl,so'.obj,so'.no _ (by decide +kernel),_,rfl,r,dx,_,rfl,so'.obj,so'.no _ (by decide +kernel),_,rfl,_,rfl,_,rfl,_,_,rfl,rfl,r,dx,fs,d,I,fun y=>F y&&gs y,by rw[X9];rfl,gd,so',fun G1 u1=>?_⟩;refine⟨r,dx,fs,d,_,rfl,gd,so'.mono u1,fun G2 u2=>⟨_,_,rfl,rfl,?_⟩⟩;rw[X9];exact⟨_,_,rfl,sG'.trans (u1.trans u2),sj.step (WL gd) eg fun q hq=>jr⟩
    ·rintro σ G' ⟨F,zg,rfl,sG',sj⟩;rw[mM] at sj;exact⟨F,_,rfl,sG',sj⟩
  ·have cx:x=mI F0 d.signs.length:=oJ fun z=>c (by simp[z]);refine⟨_,rfl,?_⟩;rw[hx cx];exact k _ sG
def yE(K:W.Frag)(a:Adr):Sp:=fun vs H Q _=>∃(r dx:Addr) (fs:List (Str×V)) (d:WD) (s:Str),vs=[.ref r,.str s]/\XR d/\SO a.C_Sets H r d dx fs/\∀H',Zf H H'->Q (.int (mI (sgB d s) d.signs.length)) H'
theorem V3(T:Txt K mg a)(hw:w.params=a.Pm):Ye P w K mg base CX0 2 a.Sets_having a.bJ ["self", "sign"] (yE K a):=by
 have cX:=UK (P:=P) (w:=w) (base:=base) T hw;refine T.fH.ok yg (fun vs H Q E h=>?_) (fun lD A outer s H vs Q E hr h=>?_)
 ·obtain⟨r,dx,fs,d,s,rfl,_⟩:=h;rfl
 ·obtain⟨r,dx,fs,d,s,rfl,gd,so,k⟩:=h;refine⟨_,(@Zg _ _ _ (@Zq _ _ _ _ (Zl cX (hr.mono (by decide)) rfl T.dH T.cQ.kp T.dG .nil Zs (@Zc _ _ _ (Zv (Nc:=ma) (ix:=[none,none,some 1]) (ZA.of (by decide +kernel:ZD (Zb YW) ["self", "sign"] ["room", "signs", "sign"] [none,none,some 1] _=true)) rfl (zR (K:=K) rfl rfl T.dt (@Zc _ _ _ (Yp (K:=K) rfl (pv 0) rfl) (by rfl))) (fun _ _ _ _ _=>(VE (K:=K) (n:=2) rfl rfl (Z8 (Zh (i:=0) (show List.Nodup ma by decide +kernel) rfl (Or.inl rfl)) (Z8 (Zh (i:=1) (show List.Nodup ma by decide +kernel) rfl (Or.inl rfl)) Vc)))) (fun _ _ _ _ _=>(WI (@Zp _ _ _ _ _ _ _ _ (WC (K:=K) rfl) (pv 2) (pv 1) (by with_unfolding_all rfl)))) (fun _ _ _ _ _=>(pv 0))) (by rfl))))),?_⟩;have n20:=gd.n20;obtain⟨S,z,l1,hS,ez,zl⟩:=so.signs;have lz:z.length=d.signs.length:=by have:=ni List.length ez;rw[mM,mM] at this;exact this
  refine⟨_,rfl,r,_,dx,_,_,rfl,so.obj,T.aa,T.du,l1,?_⟩;refine⟨S,_,rfl,.inl hS,fun D hD=>?_⟩;refine xl (K:=K) z Prod.fst (sgB d s) (fun r=>.int (r:Int)) hD hS (by rw[mN];omega) ?_ ?_
  ·intro q hq G N N0 sG h1 h2;obtain⟨b,eb,gb⟩:=zl _ (nk hq);have hq':q<d.signs.length:=by omega
   have es:(z[q]).2=Wm d.signs[q]:=by
    have:=ni (fun l=>l[q]?) ez;simp only[mU,mO hq,mO hq',Option.map_some] at this;exact nv this
   rw[es] at gb;have eg:sgB d s q=decide (s∈d.signs[q]):=by unfold sgB;rw[mO hq'];rfl
   rw[eb];refine⟨_,rfl,_,rfl,b,_,rfl,.inl (rS (sG _ _ gb)),rfl,flat_strs _,_,rfl,?_⟩
   show if inV (.str s) ((Wm d.signs[q]).map V.str)=true then _ else _
   rw[zU,mem_sortS,<- eg];exact XS (fun c=>⟨_,rfl,h1 _ (.refl _) c⟩) (fun c=>h2 _ (.refl _) (Bool.eq_false_iff.mpr c))
  intro H1 e1 s1;rw[XD,lz] at e1;refine⟨D,_,d.signs.length,rfl,e1,xN _,fun x hx=>jJ hx,by have:=VH (n:=d.signs.length) (sgB d s);omega,by omega,fun H2 s2=>?_⟩;rw[xA];exact k _ (s1.trans s2)
def yU(K:W.Frag)(a:Adr):Sp:=fun vs H Q _=>∃p d,vs=[.ref p]/\Xb a.C_World H p d/\Q (.int d.signs.length) H
theorem yO(T:Txt K mg a)(hw:w.params=a.Pm):Ye P w K mg base CX0 1 a.World_many a.bZ ["self"] (yU K a):=by
 refine T.gn.ok y8 (fun vs H Q E h=>?_) (fun lD A outer s H vs Q E hr h=>?_)
 ·obtain⟨p,d,rfl,_⟩:=h;rfl
 ·obtain⟨p,d,rfl,hw,k⟩:=h;refine⟨_,(@Zg _ _ _ (@Zq _ _ _ _ (Zm (ZI (K:=K) rfl) rfl T.aX rW (@Zc _ _ _ (Yp (K:=K) rfl (pv 0) rfl) (by rfl))))),?_⟩;obtain⟨dx,t1,t2,t3,t4,e,⟨b,vs,rfl,g,l,q⟩,_⟩:=hw.ex;refine⟨_,rfl,p,_,dx,_,_,rfl,e,T.aQ,T.aR,j2 _ _ _ _,.inl ⟨b,vs,rfl,.inr (rT g),?_⟩⟩;rw[l,mM];exact k
def U0(K:W.Frag)(a:Adr):Sp:=fun vs H Q _=>∃p d i ss,vs=[.ref p,.int (i:Nat)]/\Xb a.C_World H p d/\d.signs[i]?=some ss/\∀l,H l=none->Q (.ref l) (upd H l (.lst ((Wm ss).map V.str)))
theorem UX(T:Txt K mg a)(hw:w.params=a.Pm):Ye P w K mg base CX0 1 a.World_signs_of a.bb lS (U0 K a):=by
 refine T.dz.ok qi (fun vs H Q E h=>?_) (fun lD A outer s H vs Q E hr h=>?_)
 ·obtain⟨p,d,i,ss,rfl,_⟩:=h;rfl
 ·obtain⟨p,d,i,ss,rfl,hw,hs,k⟩:=h;refine⟨_,(@Zg _ _ _ (@Zq _ _ _ _ (ZQ (YJ (K:=K) rfl rfl) rfl T.bT rX (@Zc _ _ _ (@Zn _ _ _ _ _ _ _ (ZB (K:=K) rfl) (Yp (K:=K) rfl (pv 0) rfl) (pv 1) (fun _ _=>rfl)) (by rfl))))),?_⟩;obtain⟨dx,t1,t2,t3,t4,e,⟨b,vs,rfl,g,l,q⟩,_⟩:=hw.ex;have hi:i<vs.length:=by
   rw[l,mM];exact(nT.mp hs).1
  obtain⟨c,ec,gc⟩:=q i _ (Wm ss) (mO hi) (by rw[mU,hs];rfl);refine⟨_,rfl,p,_,dx,_,_,rfl,e,T.aQ,T.aR,j2 _ _ _ _,_,rfl,b,vs,_,_,rfl,rfl,rT g,Zt (mO hi),?_⟩;rw[ec];exact .inl ⟨c,_,rfl,.inr (rT gc),k⟩
def qH(K:W.Frag)(a:Adr):Sp:=fun vs H Q _=>∃p d i ss,vs=[.ref p,.int (i:Nat)]/\Xb a.C_World H p d/\d.ways[i]?=some ss/\∀l,H l=none->Q (.ref l) (upd H l (.lst ((Xw ss).map V.int)))
theorem qJ(T:Txt K mg a)(hw:w.params=a.Pm):Ye P w K mg base CX0 1 a.World_ways_on a.bm lS (qH K a):=by
 refine T.dU.ok qC (fun vs H Q E h=>?_) (fun lD A outer s H vs Q E hr h=>?_)
 ·obtain⟨p,d,i,ss,rfl,_⟩:=h;rfl
 ·obtain⟨p,d,i,ss,rfl,hw,hs,k⟩:=h;refine⟨_,(@Zg _ _ _ (@Zq _ _ _ _ (ZQ (YJ (K:=K) rfl rfl) rfl T.bT rX (@Zc _ _ _ (@Zn _ _ _ _ _ _ _ (ZB (K:=K) rfl) (Yp (K:=K) rfl (pv 0) rfl) (pv 1) (fun _ _=>rfl)) (by rfl))))),?_⟩;obtain⟨dx,t1,t2,t3,t4,e,_,⟨b,vs,rfl,g,l,q⟩,_⟩:=hw.ex;have hi:i<vs.length:=by
   rw[l,mM];exact(nT.mp hs).1
  obtain⟨c,ec,gc⟩:=q i _ (Xw ss) (mO hi) (by rw[mU,hs];rfl);refine⟨_,rfl,p,_,dx,_,_,rfl,e,T.aQ,T.bD,lk_ways _ _ _ _,_,rfl,b,vs,_,_,rfl,rfl,rT g,Zt (mO hi),?_⟩;rw[ec];exact .inl ⟨c,_,rfl,.inr (rT gc),k⟩
def Up(K:W.Frag)(a:Adr):Sp:=fun vs H Q _=>∃p d,vs=[.ref p]/\Xb a.C_World H p d/\∀l,H l=none->Q (.ref l) (upd H l (.lst (d.fair.map V.str)))
theorem Ut(T:Txt K mg a)(hw:w.params=a.Pm):Ye P w K mg base CX0 1 a.World_fair_signs a.aP ["self"] (Up K a):=by
 refine T.cJ.ok Uo (fun vs H Q E h=>?_) (fun lD A outer s H vs Q E hr h=>?_)
 ·obtain⟨p,d,rfl,_⟩:=h;rfl
 ·obtain⟨p,d,rfl,hw,k⟩:=h;refine⟨_,(@Zg _ _ _ (@Zq _ _ _ _ (ZQ (YJ (K:=K) rfl rfl) rfl T.bT rX (@Zc _ _ _ (Yp (K:=K) rfl (pv 0) rfl) (by rfl))))),?_⟩;obtain⟨dx,t1,t2,t3,t4,e,_,_,_,⟨b,rfl,g⟩⟩:=hw.ex;exact⟨_,rfl,p,_,dx,_,_,rfl,e,T.aQ,T.br,lk_fair _ _ _ _,.inl ⟨b,_,rfl,.inr (rT g),k⟩⟩
def jc(K:W.Frag)(a:Adr):Sp:=fun vs H Q _=>∃(r dx p:Addr) (d:WD),vs=[.ref r,.ref p]/\H r=some (.ins a.C_Sets dx [])/\Xb a.C_World H p d/\XR d/\∀H' fs,ZJ r H H'->SO3 a.C_Sets H' r d dx fs->Q .non H'
theorem U2(T:Txt K mg a)(hw:w.params=a.Pm):Ye P w K mg base CX0 5 a.Sets_init a.cC ["self", "world"] (jc K a):=by
 have cX:=UK (P:=P) (w:=w) (base:=base) T hw;have dv:=V3 (P:=P) (w:=w) (base:=base) T hw;have aU:=WP (P:=P) (w:=w) (base:=base) T hw;have d9:=yO (P:=P) (w:=w) (base:=base) T hw;have gB:=UX (P:=P) (w:=w) (base:=base) T hw;have gU:=qJ (P:=P) (w:=w) (base:=base) T hw;have fS:=Ut (P:=P) (w:=w) (base:=base) T hw;refine T.gM.ok vO (fun vs H Q E h=>?_) (fun lD A outer s H vs Q E hr h=>?_)
 ·obtain⟨r,dx,p,d,rfl,_⟩:=h;rfl
 ·obtain⟨r,dx,p,d,rfl,hr0,wa,gd,k⟩:=h;refine⟨_,(@Za _ _ _ _ _ (Vz (pv 0) (Zl cX (hr.mono (by decide)) rfl T.dH T.cQ.kp T.dG .nil Zs (@Zc _ _ _ (ZQ (YJ (K:=K) rfl rfl) rfl T.bT rX (@Zc _ _ _ (ZQ (VS) rfl T.ae rY (@Zc _ _ _ (qv (pv 1) T.aQ T.cI d9 (hr.mono (by first|decide|omega)) T.cH .nil Zs) (by rfl))) (by rfl))) (by rfl))) rfl) (@Za _ _ _ _ _ (Vz (pv 0) (Zv (Nc:=lK) (ix:=[none,some 1]) (ZA.of (by decide +kernel:ZD (Zb YY) ["self", "world"] ["room", "world"] [none,some 1] _=true)) rfl (ZM rfl T.ae (@Zc _ _ _ (qv (pv 1) T.aQ T.cI d9 (hr.mono (by first|decide|omega)) T.cH .nil Zs) (by rfl))) (fun _ _ _ _ _=>(Zh (i:=0) (show List.Nodup lK by decide +kernel) rfl (Or.inl rfl))) (fun _ _ _ _ _=>ZF) (fun _ _ _ _ _=>(Zl cX (hr.mono (by decide)) rfl T.dH T.cQ.kp T.dG .nil Zs (@Zc _ _ _ (Yi (pv 1) T.aQ T.dY gU (hr.mono (by decide)) T.dX .nil Zs (@Zc _ _ _ (pv 0) (by rfl))) (by rfl))))) rfl) (@Za _ _ _ _ _ (Vz (pv 0) (Zv (Nc:=lK) (ix:=[none,some 1]) (ZA.of (by decide +kernel:ZD (Zb YY) ["self", "world"] ["room", "world"] [none,some 1] _=true)) rfl (ZM rfl T.ae (@Zc _ _ _ (qv (pv 1) T.aQ T.cI d9 (hr.mono (by first|decide|omega)) T.cH .nil Zs) (by rfl))) (fun _ _ _ _ _=>(Zh (i:=0) (show List.Nodup lK by decide +kernel) rfl (Or.inl rfl))) (fun _ _ _ _ _=>ZF) (fun _ _ _ _ _=>(Yi (pv 1) T.aQ T.dB gB (hr.mono (by decide)) T.dA .nil Zs (@Zc _ _ _ (pv 0) (by rfl))))) rfl) (@Za _ _ _ _ _ (Vz (pv 0) (pe_orU (K:=K) rfl (Zv (Nc:=["sign", "self"]) (ix:=[none,some 0]) (ZA.of (by decide +kernel:ZD (Zb YY) ["self", "world"] ["sign", "self"] [none,some 0] _=true)) rfl (ZC (K:=K) rfl (qv (pv 1) T.aQ T.cL fS (hr.mono (by first|decide|omega)) T.cK .nil Zs)) (fun _ _ _ _ _=>(Zh (i:=0) (show List.Nodup (["sign", "self"]:List Str) by decide +kernel) rfl (Or.inl rfl))) (fun _ _ _ _ _=>ZF) (fun _ _ _ _ _=>(Yi (pv 1) T.aa T.dm dv (hr.mono (by decide)) T.dk .nil Zs (@Zc _ _ _ (pv 0) (by rfl))))) (Yr (@ZW _ _ _ _ (@Zc _ _ _ (Yp (K:=K) rfl (pv 0) rfl) (by rfl))))) rfl) (@Zg _ _ _ (Vz (pv 0) (Yi (pv 0) T.aa T.bh aU (hr.mono (by decide)) T.bg .nil Zs (@Zc _ _ _ (Yp (K:=K) rfl (pv 0) rfl) (by rfl))) rfl)))))),?_⟩;have n20:=gd.n20;have mno:∀{G:Hp}{m:Str},m∈(["many", "ways_on", "signs_of", "fair_signs"]:List Str)->Xb a.C_World G p d->∃dw fw,G p=some (.ins a.C_World dw fw)/\fw.lookup m=none:=fun {G m} hm h=>by
   have q:∀m∈(["many", "ways_on", "signs_of", "fair_signs"]:List Str),¬m = "room_signs" /\ ¬m = "room_ways" /\ ¬m = "start_rooms" /\ ¬m = "fair_names" := by decide +kernel
   obtain⟨q1,q2,q3,q4⟩:=q m hm;exact h.at q1 q2 q3 q4
  have npr:p≠r:=fun z=>by
   obtain⟨dw,t1,t2,t3,t4,e,_⟩:=wa.ex;rw[z,hr0] at e;have e3:=(HO.ins.inj (nv e)).2.2;unfold wfs at e3;cases e3
  have wh:=wa.hide hr0 npr;obtain⟨dw,fw,hpo,hno⟩:=mno (m := "many") (by decide +kernel) wa;refine⟨_,rfl,p,dw,fw,rfl,hpo,hno,p,d,rfl,wa,?_⟩;refine⟨_,rfl,fun R hR=>?_⟩;obtain⟨H1,qN,s1,e1⟩:=ZV (o:=.rng 0 (d.signs.length:Int)) hR;rw[qN];refine .inr ⟨R,_,rfl,e1,by omega,by omega,fun L hL=>?_⟩;obtain⟨H2,qN,s2,e2⟩:=ZV (o:=.lst ((L3.upTo (d.signs.length:Int)).map V.int)) hL;rw[qN];refine⟨L,zE d.signs.length,d.signs.length,rfl,e2,vQ _,fun x hx=>toRm_b hx,by rw[WO];omega,by omega,fun H3 s3=>?_⟩;rw[range_mI];have s13:=s1.trans (s2.trans s3);refine⟨_,rfl,r,_,dx,[],rfl,s13 _ _ hr0,T.aa,T.ab,by decide,?_⟩;rw[sgn_put1];have x4:=(Zf.x (D:=r) s13).upd (o:=.ins a.C_Sets dx [("whole",.int (mI (fun _=>true) d.signs.length))]);have hr4:(upd H3 r (.ins a.C_Sets dx [("whole",.int (mI (fun _=>true) d.signs.length))])) r=_:=Ze;generalize upd H3 r (.ins a.C_Sets dx [("whole",.int (mI (fun _=>true) d.signs.length))])=H4 at x4 hr4 ⊢;clear s1 s2 s3 e1 e2 s13 hpo hno;have wa4:=(wh.mono x4.hide).mono Xi;obtain⟨dw,fw,hpo,hno⟩:=mno (m := "many") (by decide +kernel) wa4;refine⟨_,rfl,p,dw,fw,rfl,hpo,hno,p,d,rfl,wa4,_,rfl,by omega,by omega,fun D1 hD1=>?_⟩;rw[mY];refine Xp (wayM d) hD1 (by rw[mN];omega) ?_ ?_
  ·intro q hq G N sG hN;obtain⟨dw,fw,hpo,hno⟩:=mno (m := "ways_on") (by decide +kernel) (wa4.mono sG);have hq':q<d.ways.length:=by rw[gd.wl];exact hq
   have wq:=gd.wn _ (nk hq');refine⟨_,rfl,p,dw,fw,rfl,hpo,hno,_,rfl,p,d,q,_,rfl,wa4.mono sG,mO hq',fun l hl=>?_⟩;refine⟨l,Xw d.ways[q],d.signs.length,rfl,Ze,(Wx _).nodup_iff.mpr wq.1,fun x hx=>wq.2.2.1 x ((Wx _).mem_iff.mp hx),by rw[(Wx _).length_eq];omega,by omega,fun G2 s2=>?_⟩;rw[way_mI gd (mO hq')];exact hN _ ((Zj hl).trans s2)
  intro H5 e5 s5;refine⟨_,rfl,r,_,dx,_,rfl,s5 _ _ hr4,T.aa,T.d8,by simp,?_⟩;rw[sgn_put2];have nD1:D1≠r:=fun z=>by rw[z,hr4] at hD1;cases hD1
  have x6:=(x4.trans (Zf.x s5)).upd (o:=.ins a.C_Sets dx [("whole",.int (mI (fun _=>true) d.signs.length)),("ways",.ref D1)]);have hr6:(upd H5 r (.ins a.C_Sets dx [("whole",.int (mI (fun _=>true) d.signs.length)),("ways",.ref D1)])) r=_:=Ze;have e6:(upd H5 r (.ins a.C_Sets dx [("whole",.int (mI (fun _=>true) d.signs.length)),("ways",.ref D1)])) D1=_:=(Zy nD1).trans e5;generalize upd H5 r (.ins a.C_Sets dx [("whole",.int (mI (fun _=>true) d.signs.length)),("ways",.ref D1)])=H6 at x6 hr6 e6 ⊢;clear hpo hno s5 e5 hr4 wa4 x4;have wa6:=(wh.mono x6.hide).mono Xi;obtain⟨dw,fw,hpo,hno⟩:=mno (m := "many") (by decide +kernel) wa6;refine⟨_,rfl,p,dw,fw,rfl,hpo,hno,p,d,rfl,wa6,_,rfl,by omega,by omega,fun D2 hD2=>?_⟩;rw[mY];refine comp_newR (fun q=>(Wm (d.signs.getD q [])).map V.str) hD2 (by rw[mN];omega) ?_ ?_
  ·intro q hq G N sG hN;obtain⟨dw,fw,hpo,hno⟩:=mno (m := "signs_of") (by decide +kernel) (wa6.mono sG);refine⟨_,rfl,p,dw,fw,rfl,hpo,hno,_,rfl,p,d,q,_,rfl,wa6.mono sG,mO hq,fun l hl=>hN l _ (Zj hl) hl ?_⟩;rw[Ze,List.getD_eq_getElem?_getD,mO hq];rfl
  intro H7 z e7 s7 ez zl;refine⟨_,rfl,r,_,dx,_,rfl,s7 _ _ hr6,T.aa,T.du,by simp,?_⟩;rw[sgn_put3];have nD2:D2≠r:=fun z=>by rw[z,hr6] at hD2;cases hD2
  have x8:=(x6.trans (Zf.x s7)).upd (o:=.ins a.C_Sets dx [("whole",.int (mI (fun _=>true) d.signs.length)),("ways",.ref D1),("signs",.ref D2)]);have so8:SO a.C_Sets (upd H7 r (.ins a.C_Sets dx [("whole",.int (mI (fun _=>true) d.signs.length)),("ways",.ref D1),("signs",.ref D2)])) r d dx [("whole",.int (mI (fun _=>true) d.signs.length)),("ways",.ref D1),("signs",.ref D2)]:=by
   refine⟨Ze,noM_lit (fun p hp=>by cases hp),⟨D1,lk_wy,(Zy nD1).trans (s7 _ _ e6)⟩,⟨D2,z.map fun x=>(x.1,Wm (d.signs.getD x.2 [])),lk_sg,by rw[Zy nD2,e7,mZ];rfl,?_,?_⟩⟩
   ·have:=yn d.signs Wm;rw[<- ez,mZ] at this;rw[mZ];exact this
   ·intro x hx;obtain⟨y,hy,rfl⟩:=mW.mp hx;obtain⟨b,eb,gb⟩:=zl y hy;have gb':=(New.of gb).2;exact⟨b,eb,(Zy (fun z=>by rw[z,s7 _ _ hr6] at gb';cases gb')).trans gb'⟩
  generalize upd H7 r (.ins a.C_Sets dx [("whole",.int (mI (fun _=>true) d.signs.length)),("ways",.ref D1),("signs",.ref D2)])=H8 at x8 so8 ⊢;clear hpo hno s7 e7 hr6 wa6 x6 e6 zl ez hD1 hD2 z;have wa8:=(wh.mono x8.hide).mono Xi;obtain⟨dw,fw,hpo,hno⟩:=mno (m := "fair_signs") (by decide +kernel) wa8;refine⟨_,rfl,p,dw,fw,rfl,hpo,hno,p,d,rfl,wa8,fun l hl=>?_⟩;obtain⟨H9,qN,s9,e9⟩:=ZV (o:=.lst (d.fair.map V.str)) hl;rw[qN];refine⟨l,rfl,⟨_,rS e9⟩,fun D3 hD3=>?_⟩;refine ZY d.fair V.str (fun s=>.int (mI (sgB d s) d.signs.length)) hD3 (rS e9) (by have:=gd.fn.2.2;rw[mN];omega) ?_ ?_
  ·intro x hx G N sG hN;have so':=so8.mono (s9.trans sG);exact⟨_,rfl,r,dx,_,rfl,so'.obj,so'.no _ (by decide +kernel),_,rfl,r,dx,_,d,x,rfl,gd,so',fun G2 s2=>hN _ s2⟩
  intro H10 e10 s10;have so10:=so8.mono (s9.trans s10);have x10:=x8.trans (Zf.x (s9.trans s10));refine⟨_,.inl ⟨_,rS e10,rfl⟩,XS (fun c=>?_) (fun c=>?_)⟩
  ·have fne:d.fair≠[]:=fun z=>by rw[z] at c;cases c
   have eg:H10 D3=some (.lst ((XN d).map fun s=>V.int (mI s d.signs.length))):=by
    rw[e10];unfold XN;rw[if_neg fne,mZ];rfl
   refine⟨_,rfl,r,_,dx,_,rfl,so10.obj,T.aa,T.cf,by simp,?_⟩;rw[jA];have nD3:D3≠r:=fun z=>by rw[z,so10.obj] at eg;cases eg
   have x11:=x10.upd (o:=.ins a.C_Sets dx [("whole",.int (mI (fun _=>true) d.signs.length)),("ways",.ref D1),("signs",.ref D2),("goals",.ref D3)]);have so11:SO2 a.C_Sets (upd H10 r (.ins a.C_Sets dx [("whole",.int (mI (fun _=>true) d.signs.length)),("ways",.ref D1),("signs",.ref D2),("goals",.ref D3)])) r d dx [("whole",.int (mI (fun _=>true) d.signs.length)),("ways",.ref D1),("signs",.ref D2),("goals",.ref D3)]:=⟨so10.put (ZJ.refl _).upd Ze (fun p hp=>by cases nj.mp hp;exact(by decide +kernel:("goals" : Str)∈Vl)),⟨D3,xU,(Zy nD3).trans eg⟩⟩;generalize upd H10 r (.ins a.C_Sets dx [("whole",.int (mI (fun _=>true) d.signs.length)),("ways",.ref D1),("signs",.ref D2),("goals",.ref D3)])=H11 at x11 so11 ⊢;refine⟨_,rfl,r,dx,_,rfl,so11.so.obj,so11.so.no _ (by decide +kernel),_,rfl,r,_,dx,_,_,rfl,so11.so.obj,T.aa,T.ab,Vw,r,dx,_,d,_,rfl,gd,so11,fun H12 s12=>?_⟩;have so12:=so11.mono s12;refine⟨_,rfl,r,_,dx,_,rfl,so12.so.obj,T.aa,T.am,by simp,?_⟩;rw[jG];obtain⟨g,hg1,hg2⟩:=so12.goals;rw[xU] at hg1;have ng:g≠r:=fun z=>by rw[z,so12.so.obj] at hg2;cases hg2
   refine k _ _ ((x11.trans (Zf.x s12)).upd) ⟨⟨so12.so.put (ZJ.refl _).upd Ze (fun p hp=>?_),⟨g,xU.trans hg1,(Zy ng).trans hg2⟩⟩,Vw,lk_fa⟩;rcases nu.mp hp with rfl|hp
   ·exact(by decide +kernel:("goals" : Str)∈Vl)
   ·cases nj.mp hp;exact(by decide +kernel:("fair" : Str)∈Vl)
  ·have fne:d.fair=[]:=by
    cases e:d.fair with
    |nil=>rfl
    |cons x l=>rw[e] at c;exact absurd rfl c
   refine⟨_,rfl,r,_,dx,_,_,rfl,so10.obj,T.aa,T.ab,Vw,sz1,fun D4 hD4=>?_⟩;obtain⟨H13,qN,s13,e13⟩:=ZV (o:=.lst [.int (mI (fun _=>true) d.signs.length)]) hD4;rw[qN]
   replace so10:=so10.mono s13
   replace x10:=x10.trans (Zf.x s13)
   have eg:H13 D4=some (.lst ((XN d).map fun s=>V.int (mI s d.signs.length))):=by
    rw[e13];unfold XN;rw[if_pos fne];rfl
   refine⟨_,rfl,r,_,dx,_,rfl,so10.obj,T.aa,T.cf,by simp,?_⟩;rw[jA];have nD3:D4≠r:=fun z=>by rw[z,so10.obj] at eg;cases eg
   have x11:=x10.upd (o:=.ins a.C_Sets dx [("whole",.int (mI (fun _=>true) d.signs.length)),("ways",.ref D1),("signs",.ref D2),("goals",.ref D4)]);have so11:SO2 a.C_Sets (upd H13 r (.ins a.C_Sets dx [("whole",.int (mI (fun _=>true) d.signs.length)),("ways",.ref D1),("signs",.ref D2),("goals",.ref D4)])) r d dx [("whole",.int (mI (fun _=>true) d.signs.length)),("ways",.ref D1),("signs",.ref D2),("goals",.ref D4)]:=⟨so10.put (ZJ.refl _).upd Ze (fun p hp=>by cases nj.mp hp;exact(by decide +kernel:("goals" : Str)∈Vl)),⟨D4,xU,(Zy nD3).trans eg⟩⟩;generalize upd H13 r (.ins a.C_Sets dx [("whole",.int (mI (fun _=>true) d.signs.length)),("ways",.ref D1),("signs",.ref D2),("goals",.ref D4)])=H11 at x11 so11 ⊢;refine⟨_,rfl,r,dx,_,rfl,so11.so.obj,so11.so.no _ (by decide +kernel),_,rfl,r,_,dx,_,_,rfl,so11.so.obj,T.aa,T.ab,Vw,r,dx,_,d,_,rfl,gd,so11,fun H12 s12=>?_⟩;have so12:=so11.mono s12;refine⟨_,rfl,r,_,dx,_,rfl,so12.so.obj,T.aa,T.am,by simp,?_⟩;rw[jG];obtain⟨g,hg1,hg2⟩:=so12.goals;rw[xU] at hg1;have ng:g≠r:=fun z=>by rw[z,so12.so.obj] at hg2;cases hg2
   refine k _ _ ((x11.trans (Zf.x s12)).upd) ⟨⟨so12.so.put (ZJ.refl _).upd Ze (fun p hp=>?_),⟨g,xU.trans hg1,(Zy ng).trans hg2⟩⟩,Vw,lk_fa⟩;rcases nu.mp hp with rfl|hp
   ·exact(by decide +kernel:("goals" : Str)∈Vl)
   ·cases nj.mp hp;exact(by decide +kernel:("fair" : Str)∈Vl)
def jL(K:W.Frag)(a:Adr):Sp:=fun vs H Q _=>∃(S:Nat->Bool) (n:Nat),vs=[.int (mI S n)]/\n<=1000/\∀H' L,Zf H H'->H L=none->H' L=some (.lst (((List.range n).filter S).map fun r:Nat=>V.int (r:Int)))->Q (.ref L) H'
theorem zk(T:Txt K mg a)(hw:w.params=a.Pm):Ye P w K mg base CX0 1 a.rooms_in a.dc ["mask"] (jL K a):=by
 refine T.eV.ok ju (fun vs H Q E h=>?_) (fun lD A outer s H vs Q E hr h=>?_)
 ·obtain⟨S,n,rfl,_⟩:=h;rfl
 ·obtain⟨S,n,rfl,n1,k⟩:=h;refine⟨_,(@Zg _ _ _ (@Zq _ _ _ _ (Zv (Nc:=["room", "mask"]) (ix:=[none,some 0]) (ZA.of (by decide +kernel:ZD (Zb XT) ["mask"] ["room", "mask"] [none,some 0] _=true)) rfl (ZM rfl T.ae (@Zc _ _ _ (qE PySem.F.plainAttrs_int PySem.F.slot_int_bit_length PySem.F.type_int_bit_length y6 (pv 0)) (by rfl))) (fun _ _ _ _ _=>(Zh (i:=0) (show List.Nodup (["room", "mask"]:List Str) by decide +kernel) rfl (Or.inl rfl))) (fun _ _ _ _ _=>(WI (@Zp _ _ _ _ _ _ _ _ ZU (@Zz _ _ _ _ _ _ _ _ Wt (@Zz _ _ _ _ _ _ _ _ op_shr (pv 1) (pv 0)) Zd) Zd (Zw _)))) (fun _ _ _ _ _=>(pv 0))))),?_⟩;have bl:=bits_le (S:=S) (n:=n);refine⟨_,rfl,rfl,_,rfl,rfl,_,rfl,by omega,by omega,fun D hD=>?_⟩;rw[mY];refine qL (fun r=>(mk S n).testBit r) (fun r=>.int (r:Int)) hD (by rw[mN];omega) ?_ ?_
  ·intro r hr G N N0 sG h1 h2;refine⟨_,rfl,_,rfl,_,_,rfl,rfl,by omega,_,_,rfl,rfl,rfl,_,rfl,?_⟩;have eb:=bit_at (mk S n) r;exact XS (fun c=>⟨_,rfl,h1 _ (.refl _) (eb.symm.trans c)⟩) (fun c=>h2 _ (.refl _) (eb.symm.trans (Bool.eq_false_iff.mpr c)))
  intro H1 e1 s1;rw[vD] at e1;exact k _ D s1 hD e1
def y4(K:W.Frag)(a:Adr):Sp:=fun vs H Q _=>∃(p:Addr) (d:WD),vs=[.ref p]/\Xb a.C_World H p d/\XR d/\∀H' L,Zf H H'->H L=none->H' L=some (.lst (((List.range d.signs.length).filter (faB d)).map fun r:Nat=>V.int (r:Int)))->Q (.ref L) H'
theorem UA(T:Txt K mg a)(hw:w.params=a.Pm):Ye P w K mg base CX0 7 a.fair_rooms a.bX ["world"] (y4 K a):=by
 have ge:=zk (P:=P) (w:=w) (base:=base) T hw;have fC:=U2 (P:=P) (w:=w) (base:=base) T hw;refine T.aY.ok Uv (fun vs H Q E h=>?_) (fun lD A outer s H vs Q E hr h=>?_)
 ·obtain⟨p,d,rfl,_⟩:=h;rfl
 ·obtain⟨p,d,rfl,wa,gd,k⟩:=h;refine⟨_,(@Za _ _ _ _ _ (@Zi _ _ (1) _ _ _ _ Uv.nd rfl (Or.inl rfl) (zM T.iO fC (hr.mono (by decide)) rfl T.i3 T.fo .nil Zs (@Zc _ _ _ (pv 0) (by rfl))) (by rfl) (.inl rfl)) (@Zg _ _ _ (@Zq _ _ _ _ (Zl ge (hr.mono (by decide)) rfl T.fY T.eV.kp T.fX .nil Zs (@Zc _ _ _ (Yp (K:=K) rfl (pv 1) rfl) (by rfl)))))),?_⟩;have n20:=gd.n20;refine⟨_,rfl,fun o dw no ndw new=>?_⟩;have sm:Zf H (upd (upd H dw (.own o)) o (.ins a.C_Sets dw [])):=(Zj ndw).trans (Zj (by rw[Zy (nN new)];exact no));refine⟨o,dw,p,d,rfl,Ze,wa.mono sm,gd,fun H3 fs x3 so=>⟨rfl,?_⟩⟩;have s3:Zf H H3:=fun b u e=>x3 _ _ (ZZ e no) (sm _ _ e);exact⟨_,rfl,o,_,dw,fs,_,rfl,so.so.so.obj,T.aa,T.am,so.fair,_,_,rfl,by omega,fun H5 M s5 hM eM=>k H5 M (s3.trans s5) (s3.free hM) eM⟩
def zD(K:W.Frag)(a:Adr):Sp:=fun vs H Q _=>∃(r dx:Addr) (fs:List (Str×V)) (d:WD) (b:Addr) (c:Lb) (Ss:List (Nat->Bool)),vs=[.ref r,.ref b]/\XR d/\SO3 a.C_Sets H r d dx fs/\WyC K d.signs.length H b c Ss/\∀H',Zf H H'->Q (.int (mI (Vi d c Ss) d.signs.length)) H'
theorem VM(T:Txt K mg a)(hw:w.params=a.Pm):Ye P w K mg base CX0 5 a.Sets_on_some a.bA lT (zD K a):=by
 have ag:=Y1 (P:=P) (w:=w) (base:=base) T hw;have aC:=Wn (P:=P) (w:=w) (base:=base) T hw;have aU:=WP (P:=P) (w:=w) (base:=base) T hw;refine T.fb.ok Xg (fun vs H Q E h=>?_) (fun lD A outer s H vs Q E hr h=>?_)
 ·obtain⟨r,dx,fs,d,b,c,Ss,rfl,_⟩:=h;rfl
 ·obtain⟨r,dx,fs,d,b,c,Ss,rfl,gd,so,wy,k⟩:=h;refine⟨_,(@Za _ _ _ _ _ (@Zi _ _ (2) _ _ _ _ Xg.nd rfl (Or.inl rfl) (@Zn _ _ _ _ _ _ _ (ZB (K:=K) rfl) (pv 1) Zd (fun _ _=>rfl)) (by rfl) (.inl rfl)) (@Za _ _ _ _ _ (@ZN _ _ _ _ _ _ _ _ (@Zp _ _ _ _ _ _ _ _ ZU (pv 2) Zx (Zw _)) (@Zg _ _ _ (@Zq _ _ _ _ (Yi (pv 0) T.aa T.bh aU (hr.mono (by decide)) T.bg .nil Zs (@Zc _ _ _ (@Zn _ _ _ _ _ _ _ (ZB (K:=K) rfl) (pv 1) Zd (fun _ _=>rfl)) (by rfl))))) Zu) (@Za _ _ _ _ _ (@Zi _ _ (3) _ _ _ _ Xg.nd rfl (Or.inl rfl) (@Zz _ _ _ _ _ _ _ _ Wt (@Zn _ _ _ _ _ _ _ (ZB (K:=K) rfl) (pv 1) (VU Ud Zd) (fun _ _=>rfl)) (Yp (K:=K) rfl (pv 0) rfl)) (by rfl) (.inl rfl)) (@Za _ _ _ _ _ (@ZN _ _ _ _ _ _ _ _ (@Zp _ _ _ _ _ _ _ _ ZU (pv 2) Zx (Zw _)) (@Zg _ _ _ (@Zq _ _ _ _ (Yi (pv 0) T.aa T.ak ag (hr.mono (by decide)) T.aj .nil Zs (@Zc _ _ _ (pv 3) (by rfl))))) Zu) (@Za _ _ _ _ _ (@ZN _ _ _ _ _ _ _ _ (@Zp _ _ _ _ _ _ _ _ ZU (pv 2) Zx (Zw _)) (@Zg _ _ _ (@Zq _ _ _ _ (Yi (pv 0) T.aa T.aT aC (hr.mono (by decide)) T.aS .nil Zs (@Zr _ _ _ _ _ (Yp (K:=K) rfl (pv 0) rfl) (@Zc _ _ _ (pv 3) (by rfl)) (by rfl))))) Zu) (@Za _ _ _ _ _ (@ZN _ _ _ _ _ _ _ _ (@Zp _ _ _ _ _ _ _ _ ZU (pv 2) Zx (Zw _)) (@Zg _ _ _ (@Zq _ _ _ _ (Yi (pv 0) T.aa T.aT aC (hr.mono (by decide)) T.aS .nil Zs (@Zr _ _ _ _ _ (@Zn _ _ _ _ _ _ _ (ZB (K:=K) rfl) (pv 1) Zd (fun _ _=>rfl)) (@Zc _ _ _ (pv 3) (by rfl)) (by rfl))))) Zu) (@Za _ _ _ _ _ (@Zi _ _ (4) _ _ _ _ Xg.nd rfl (Or.inl rfl) (pv 3) (by rfl) (.inl rfl)) (@Za _ _ _ _ _ (Xo nB rfl (ZM rfl T.ae (@Zc _ _ _ (@Zn _ _ _ _ _ _ _ (ZB (K:=K) rfl) (pv 1) Zd (fun _ _=>rfl)) (by rfl))) (Zh (i:=5) Xg.nd rfl (Or.inl rfl)) (@Zg _ _ _ (@Zi _ _ (4) _ _ _ _ Xg.nd rfl (Or.inl rfl) (@Zz _ _ _ _ _ _ _ _ op_or (pv 3) (@Zz _ _ _ _ _ _ _ _ Wt (@Zn _ _ _ _ _ _ _ (ZB (K:=K) rfl) (pv 1) Zd (fun _ _=>rfl)) (Yi (pv 0) T.aa T.ak ag (hr.mono (by decide)) T.aj .nil Zs (@Zc _ _ _ (pv 4) (by rfl))))) (by rfl) (.inl rfl)))) (@Zg _ _ _ (@Zq _ _ _ _ (pv 4))))))))))),?_⟩;have so1:=so.so.so;cases wy with
  |one w A hw hb=>
   simp only[nu,pX,or_false] at hw;rcases hw with rfl|rfl|rfl
   ·refine⟨_,rfl,b,_,_,_,rfl,rfl,hb,rfl,_,rfl,rfl,_,rfl,ZK (fun z=>absurd (V.str.inj z) (by decide +kernel)) ?_⟩;refine⟨_,rfl,_,rfl,b,_,_,_,rfl,rfl,hb,rfl,_,rfl,r,_,dx,_,_,rfl,so1.obj,T.aa,T.am,so.fair,_,_,rfl,rfl,?_⟩;rw[X9];refine⟨_,rfl,rfl,_,rfl,YZ rfl ?_⟩;refine⟨_,rfl,r,dx,_,rfl,so1.obj,so1.no _ (by decide +kernel),_,rfl,r,dx,fs,d,_,rfl,gd,so1,fun H1 s1=>?_⟩;rw[<- jn];exact k _ s1
   ·refine⟨_,rfl,b,_,_,_,rfl,rfl,hb,rfl,_,rfl,rfl,_,rfl,YZ rfl ?_⟩;refine⟨_,rfl,r,dx,_,rfl,so1.obj,so1.no _ (by decide +kernel),_,rfl,b,_,_,_,rfl,rfl,hb,rfl,r,dx,fs,d,_,rfl,gd,so.so,fun H1 s1=>?_⟩;rw[<- xE];exact k _ s1
   ·refine⟨_,rfl,b,_,_,_,rfl,rfl,hb,rfl,_,rfl,rfl,_,rfl,ZK (fun z=>absurd (V.str.inj z) (by decide +kernel)) ?_⟩;refine⟨_,rfl,_,rfl,b,_,_,_,rfl,rfl,hb,rfl,_,rfl,r,_,dx,_,_,rfl,so1.obj,T.aa,T.am,so.fair,_,_,rfl,rfl,?_⟩;rw[X9];refine⟨_,rfl,rfl,_,rfl,ZK (fun z=>absurd (V.str.inj z) (by decide +kernel)) ?_⟩;refine⟨_,rfl,rfl,_,rfl,YZ rfl ?_⟩;refine⟨_,rfl,r,dx,_,rfl,so1.obj,so1.no _ (by decide +kernel),_,rfl,r,_,dx,_,_,rfl,so1.obj,T.aa,T.ab,so.whole,_,rfl,r,dx,fs,d,_,_,rfl,gd,so1,fun H1 s1=>?_⟩;rw[<- jg];exact k _ s1
  |two A B hb=>
   refine⟨_,rfl,b,_,_,_,rfl,rfl,hb,rfl,_,rfl,rfl,_,rfl,ZK (fun z=>absurd (V.str.inj z) (by decide +kernel)) ?_⟩;refine⟨_,rfl,_,rfl,b,_,_,_,rfl,rfl,hb,rfl,_,rfl,r,_,dx,_,_,rfl,so1.obj,T.aa,T.am,so.fair,_,_,rfl,rfl,?_⟩;rw[X9];refine⟨_,rfl,rfl,_,rfl,ZK (fun z=>absurd (V.str.inj z) (by decide +kernel)) ?_⟩;refine⟨_,rfl,rfl,_,rfl,ZK (fun z=>absurd (V.str.inj z) (by decide +kernel)) ?_⟩;refine⟨_,rfl,rfl,_,rfl,YZ rfl ?_⟩;refine⟨_,rfl,r,dx,_,rfl,so1.obj,so1.no _ (by decide +kernel),_,rfl,b,_,_,_,rfl,rfl,hb,rfl,_,rfl,r,dx,fs,d,_,_,rfl,gd,so1,fun H1 s1=>?_⟩;rw[<- jz];exact k _ s1
  |wit m A B hm hb=>
   refine⟨_,rfl,b,_,_,_,rfl,rfl,hb,rfl,_,rfl,rfl,_,rfl,ZK (fun z=>absurd (V.str.inj z) (by decide +kernel)) ?_⟩;refine⟨_,rfl,_,rfl,b,_,_,_,rfl,rfl,hb,rfl,_,rfl,r,_,dx,_,_,rfl,so1.obj,T.aa,T.am,so.fair,_,_,rfl,rfl,?_⟩;rw[X9];refine⟨_,rfl,rfl,_,rfl,ZK (fun z=>absurd (V.str.inj z) (by decide +kernel)) ?_⟩;refine⟨_,rfl,rfl,_,rfl,ZK (fun z=>absurd (V.str.inj z) (by decide +kernel)) ?_⟩;refine⟨_,rfl,rfl,_,rfl,ZK (fun z=>absurd (V.str.inj z) (by decide +kernel)) ?_⟩;refine⟨_,rfl,_,rfl,b,_,_,_,rfl,rfl,hb,rfl,_,rfl,by omega,by omega,?_⟩;rw[mY];refine Wd (J:=Itr 0 m) (n:=m) (fun i σ G=>∃(z6:Option V),σ=[some (.ref r),some (.ref b),some (.str "within"),some (.int (mI (fun r=>B r&&faB d r) d.signs.length)),some (.int (mI (itB (fun S r=>(B r&&faB d r)||(A r&&ldB (WN d) S r)) i (fun r=>B r&&faB d r)) d.signs.length)),z6]/\Zf H G) ?_ (fun i σ H' hi _=>hi) (fun σ H' _=>mP _) ?_ ?_
   ·exact⟨_,rfl,.refl _⟩
   ·rintro i x σ G0 G hi ⟨z6,rfl,sG⟩ ⟨rfl,rfl⟩;have so':=so1.mono sG;refine⟨_,rfl,_,rfl,b,_,_,_,rfl,rfl,Zf.seqT sG hb,rfl,_,rfl,r,dx,_,rfl,so'.obj,so'.no _ (by decide +kernel),_,rfl,r,dx,fs,d,_,rfl,gd,so',fun H1 s1=>?_⟩;refine⟨_,_,rfl,rfl,_,_,rfl,rfl,?_⟩;rw[X9,xP];exact⟨_,rfl,sG.trans s1⟩
   ·rintro σ G ⟨z6,rfl,sG⟩;refine⟨_,rfl,?_⟩;rw[<- sm_wit];exact k _ sG
def zX(K:W.Frag)(a:Adr):Sp:=fun vs H Q _=>∃(r dx:Addr) (fs:List (Str×V)) (d:WD) (b:Addr) (c:Lb) (Ss:List (Nat->Bool)),vs=[.ref r,.ref b]/\XR d/\SO3 a.C_Sets H r d dx fs/\WyC K d.signs.length H b c Ss/\∀H',Zf H H'->Q (.int (mI (VN d c Ss) d.signs.length)) H'
theorem yk(T:Txt K mg a)(hw:w.params=a.Pm):Ye P w K mg base CX0 6 a.Sets_on_all a.bK lT (zX K a):=by
 have ag:=Y1 (P:=P) (w:=w) (base:=base) T hw;have aC:=Wn (P:=P) (w:=w) (base:=base) T hw;have aU:=WP (P:=P) (w:=w) (base:=base) T hw;have bR:=VM (P:=P) (w:=w) (base:=base) T hw;refine T.fI.ok Y8 (fun vs H Q E h=>?_) (fun lD A outer s H vs Q E hr h=>?_)
 ·obtain⟨r,dx,fs,d,b,c,Ss,rfl,_⟩:=h;rfl
 ·obtain⟨r,dx,fs,d,b,c,Ss,rfl,gd,so,wy,k⟩:=h;refine⟨_,(@Za _ _ _ _ _ (@Zi _ _ (2) _ _ _ _ Y8.nd rfl (Or.inl rfl) (@Zn _ _ _ _ _ _ _ (ZB (K:=K) rfl) (pv 1) Zd (fun _ _=>rfl)) (by rfl) (.inl rfl)) (@Za _ _ _ _ _ (@Zi _ _ (3) _ _ _ _ Y8.nd rfl (Or.inl rfl) (@Zz _ _ _ _ _ _ _ _ UO (Yp (K:=K) rfl (pv 0) rfl) (@Zn _ _ _ _ _ _ _ (ZB (K:=K) rfl) (pv 1) (VU Ud Zd) (fun _ _=>rfl))) (by rfl) (.inl rfl)) (@Za _ _ _ _ _ (@ZN _ _ _ _ _ _ _ _ (@Zp _ _ _ _ _ _ _ _ ZU (pv 2) Zx (Zw _)) (@Zg _ _ _ (@Zq _ _ _ _ (@Zz _ _ _ _ _ _ _ _ UO (Yp (K:=K) rfl (pv 0) rfl) (Yi (pv 0) T.aa T.bQ bR (hr.mono (by decide)) T.bP .nil Zs (@Zc _ _ _ (@Yv _ _ _ _ _ (@Zr _ _ _ _ _ Zx (@Zc _ _ _ (pv 3) (by rfl)) (by rfl))) (by rfl)))))) Zu) (@Za _ _ _ _ _ (@ZN _ _ _ _ _ _ _ _ (@Zp _ _ _ _ _ _ _ _ ZU (pv 2) Zx (Zw _)) (@Zg _ _ _ (@Zq _ _ _ _ (@Zz _ _ _ _ _ _ _ _ UO (Yp (K:=K) rfl (pv 0) rfl) (Yi (pv 0) T.aa T.bQ bR (hr.mono (by decide)) T.bP .nil Zs (@Zc _ _ _ (@Yv _ _ _ _ _ (@Zr _ _ _ _ _ Zx (@Zc _ _ _ (pv 3) (by rfl)) (by rfl))) (by rfl)))))) Zu) (@Za _ _ _ _ _ (@ZN _ _ _ _ _ _ _ _ (@Zp _ _ _ _ _ _ _ _ ZU (pv 2) Zx (Zw _)) (@Zg _ _ _ (@Zq _ _ _ _ (@Zz _ _ _ _ _ _ _ _ UO (Yp (K:=K) rfl (pv 0) rfl) (Yi (pv 0) T.aa T.bh aU (hr.mono (by decide)) T.bg .nil Zs (@Zc _ _ _ (pv 3) (by rfl)))))) Zu) (@Za _ _ _ _ _ (@Zi _ _ (4) _ _ _ _ Y8.nd rfl (Or.inl rfl) (@Zz _ _ _ _ _ _ _ _ Wt (@Zz _ _ _ _ _ _ _ _ Wt (pv 3) (Yp (K:=K) rfl (pv 0) rfl)) (VU un_inv (@Zn _ _ _ _ _ _ _ (ZB (K:=K) rfl) (pv 1) (VU Ud Zd) (fun _ _=>rfl)))) (by rfl) (.inl rfl)) (@Za _ _ _ _ _ (@ZN _ _ _ _ _ _ _ _ (@Zp _ _ _ _ _ _ _ _ ZU (pv 2) Zx (Zw _)) (@Zg _ _ _ (@Zq _ _ _ _ (@Zz _ _ _ _ _ _ _ _ UO (Yp (K:=K) rfl (pv 0) rfl) (@Zz _ _ _ _ _ _ _ _ op_or (Yi (pv 0) T.aa T.aT aC (hr.mono (by decide)) T.aS .nil Zs (@Zr _ _ _ _ _ (pv 3) (@Zc _ _ _ (pv 4) (by rfl)) (by rfl))) (Yi (pv 0) T.aa T.bh aU (hr.mono (by decide)) T.bg .nil Zs (@Zc _ _ _ (pv 3) (by rfl))))))) Zu) (@Za _ _ _ _ _ (@Zi _ _ (5) _ _ _ _ Y8.nd rfl (Or.inl rfl) (@Zz _ _ _ _ _ _ _ _ Wt (pv 3) (Yp (K:=K) rfl (pv 0) rfl)) (by rfl) (.inl rfl)) (@Za _ _ _ _ _ (Xo nB rfl (ZM rfl T.ae (@Zc _ _ _ (@Zn _ _ _ _ _ _ _ (ZB (K:=K) rfl) (pv 1) Zd (fun _ _=>rfl)) (by rfl))) (Zh (i:=6) Y8.nd rfl (Or.inl rfl)) (@Zg _ _ _ (@Zi _ _ (5) _ _ _ _ Y8.nd rfl (Or.inl rfl) (@Zz _ _ _ _ _ _ _ _ op_or (pv 4) (@Zz _ _ _ _ _ _ _ _ Wt (pv 3) (Yi (pv 0) T.aa T.ak ag (hr.mono (by decide)) T.aj .nil Zs (@Zc _ _ _ (pv 5) (by rfl))))) (by rfl) (.inl rfl)))) (@Zg _ _ _ (@Zq _ _ _ _ (@Zz _ _ _ _ _ _ _ _ UO (Yp (K:=K) rfl (pv 0) rfl) (pv 5))))))))))))),?_⟩;have so1:=so.so.so;cases wy with
  |one w A hw hb=>
   simp only[nu,pX,or_false] at hw;rcases hw with rfl|rfl|rfl
   ·refine⟨_,rfl,b,_,_,_,rfl,rfl,hb,rfl,_,rfl,r,_,dx,_,_,rfl,so1.obj,T.aa,T.ab,so.whole,_,rfl,_,rfl,b,_,_,_,rfl,rfl,hb,rfl,_,_,rfl,rfl,?_⟩;rw[W0];refine⟨_,rfl,rfl,_,rfl,YZ rfl ?_⟩;refine⟨_,rfl,r,_,dx,_,_,rfl,so1.obj,T.aa,T.ab,so.whole,_,rfl,r,dx,_,rfl,so1.obj,so1.no _ (by decide +kernel),_,rfl,sz2,fun q hq=>?_⟩;obtain⟨H1,qN,s1,e1⟩:=ZV (o:=.tup [.str "next",.int (mI (fun r=>!A r) d.signs.length)]) hq;rw[qN];refine⟨r,dx,fs,d,q,.op "next",[fun r=>!A r],rfl,gd,so.mono s1,.one _ _ (by decide +kernel) (rT e1),fun H2 s2=>⟨_,_,rfl,rfl,?_⟩⟩;rw[W0,jn];have e:=al_next (d:=d) (A:=A);rw[<- e];exact k _ (s1.trans s2)
   ·refine⟨_,rfl,b,_,_,_,rfl,rfl,hb,rfl,_,rfl,r,_,dx,_,_,rfl,so1.obj,T.aa,T.ab,so.whole,_,rfl,_,rfl,b,_,_,_,rfl,rfl,hb,rfl,_,_,rfl,rfl,?_⟩;rw[W0];refine⟨_,rfl,rfl,_,rfl,ZK (fun z=>absurd (V.str.inj z) (by decide +kernel)) ⟨_,rfl,rfl,_,rfl,YZ rfl ?_⟩⟩;refine⟨_,rfl,r,_,dx,_,_,rfl,so1.obj,T.aa,T.ab,so.whole,_,rfl,r,dx,_,rfl,so1.obj,so1.no _ (by decide +kernel),_,rfl,sz2,fun q hq=>?_⟩;obtain⟨H1,qN,s1,e1⟩:=ZV (o:=.tup [.str "ever",.int (mI (fun r=>!A r) d.signs.length)]) hq;rw[qN];refine⟨r,dx,fs,d,q,.op "ever",[fun r=>!A r],rfl,gd,so.mono s1,.one _ _ (by decide +kernel) (rT e1),fun H2 s2=>⟨_,_,rfl,rfl,?_⟩⟩;rw[W0,jg];have e:=xa (d:=d) (A:=A);rw[<- e];exact k _ (s1.trans s2)
   ·refine⟨_,rfl,b,_,_,_,rfl,rfl,hb,rfl,_,rfl,r,_,dx,_,_,rfl,so1.obj,T.aa,T.ab,so.whole,_,rfl,_,rfl,b,_,_,_,rfl,rfl,hb,rfl,_,_,rfl,rfl,?_⟩;rw[W0];refine⟨_,rfl,rfl,_,rfl,ZK (fun z=>absurd (V.str.inj z) (by decide +kernel)) ⟨_,rfl,rfl,_,rfl,ZK (fun z=>absurd (V.str.inj z) (by decide +kernel)) ⟨_,rfl,rfl,_,rfl,YZ rfl ?_⟩⟩⟩;refine⟨_,rfl,r,_,dx,_,_,rfl,so1.obj,T.aa,T.ab,so.whole,_,rfl,r,dx,_,rfl,so1.obj,so1.no _ (by decide +kernel),_,rfl,r,dx,fs,d,_,rfl,gd,so.so,fun H2 s2=>⟨_,_,rfl,rfl,?_⟩⟩;rw[W0];have e:=al_ever (d:=d) (A:=A);rw[<- e];exact k _ s2
  |two A B hb=>
   refine⟨_,rfl,b,_,_,_,rfl,rfl,hb,rfl,_,rfl,r,_,dx,_,_,rfl,so1.obj,T.aa,T.ab,so.whole,_,rfl,_,rfl,b,_,_,_,rfl,rfl,hb,rfl,_,_,rfl,rfl,?_⟩;rw[W0];refine⟨_,rfl,rfl,_,rfl,ZK (fun z=>absurd (V.str.inj z) (by decide +kernel)) ⟨_,rfl,rfl,_,rfl,ZK (fun z=>absurd (V.str.inj z) (by decide +kernel)) ⟨_,rfl,rfl,_,rfl,ZK (fun z=>absurd (V.str.inj z) (by decide +kernel)) ?_⟩⟩⟩;refine⟨_,rfl,_,rfl,r,_,dx,_,_,rfl,so1.obj,T.aa,T.am,so.fair,_,_,rfl,rfl,_,rfl,_,rfl,b,_,_,_,rfl,rfl,hb,rfl,_,rfl,_,_,rfl,rfl,?_⟩;rw[X9,Um];refine⟨_,rfl,rfl,_,rfl,YZ rfl ?_⟩;refine⟨_,rfl,r,_,dx,_,_,rfl,so1.obj,T.aa,T.ab,so.whole,_,rfl,r,dx,_,rfl,so1.obj,so1.no _ (by decide +kernel),_,rfl,_,rfl,r,dx,fs,d,_,_,rfl,gd,so1,fun H2 s2=>?_⟩;have so2:=so.mono s2;refine⟨_,rfl,r,dx,_,rfl,so2.so.so.obj,so1.no _ (by decide +kernel),_,rfl,r,dx,fs,d,_,rfl,gd,so2.so,fun H3 s3=>⟨_,_,rfl,rfl,_,_,rfl,rfl,?_⟩⟩;rw[xP,W0];have e:=jY (d:=d) (A:=A) (B:=B);rw[<- e];exact k _ (s2.trans s3)
  |wit m A B hm hb=>
   refine⟨_,rfl,b,_,_,_,rfl,rfl,hb,rfl,_,rfl,r,_,dx,_,_,rfl,so1.obj,T.aa,T.ab,so.whole,_,rfl,_,rfl,b,_,_,_,rfl,rfl,hb,rfl,_,_,rfl,rfl,?_⟩;rw[W0];refine⟨_,rfl,rfl,_,rfl,ZK (fun z=>absurd (V.str.inj z) (by decide +kernel)) ⟨_,rfl,rfl,_,rfl,ZK (fun z=>absurd (V.str.inj z) (by decide +kernel)) ⟨_,rfl,rfl,_,rfl,ZK (fun z=>absurd (V.str.inj z) (by decide +kernel)) ?_⟩⟩⟩;refine⟨_,rfl,_,rfl,r,_,dx,_,_,rfl,so1.obj,T.aa,T.am,so.fair,_,_,rfl,rfl,_,rfl,_,rfl,b,_,_,_,rfl,rfl,hb,rfl,_,rfl,_,_,rfl,rfl,?_⟩;rw[X9,Um];refine⟨_,rfl,rfl,_,rfl,ZK (fun z=>absurd (V.str.inj z) (by decide +kernel)) ?_⟩;refine⟨_,rfl,_,rfl,r,_,dx,_,_,rfl,so1.obj,T.aa,T.am,so.fair,_,_,rfl,rfl,?_⟩;rw[X9];refine⟨_,rfl,b,_,_,_,rfl,rfl,hb,rfl,_,rfl,by omega,by omega,?_⟩;rw[mY];refine Wd (J:=Itr 0 m) (n:=m) (fun i σ G=>∃(z7:Option V),σ=[some (.ref r),some (.ref b),some (.str "within"),some (.int (mI (fun r=>!B r) d.signs.length)),some (.int (mI (fun r=>(!B r&&faB d r)&&!A r) d.signs.length)),some (.int (mI (itB (fun S r=>((!B r&&faB d r)&&!A r)||(!B r&&ldB (WN d) S r)) i (fun r=>!B r&&faB d r)) d.signs.length)),z7]/\Zf H G) ?_ (fun i σ H' hi _=>hi) (fun σ H' _=>mP _) ?_ ?_
   ·exact⟨_,rfl,.refl _⟩
   ·rintro i x σ G0 G hi ⟨z7,rfl,sG⟩ ⟨rfl,rfl⟩;have so':=so1.mono sG;refine⟨_,rfl,_,rfl,_,rfl,r,dx,_,rfl,so'.obj,so'.no _ (by decide +kernel),_,rfl,r,dx,fs,d,_,rfl,gd,so',fun H1 s1=>?_⟩;refine⟨_,_,rfl,rfl,_,_,rfl,rfl,?_⟩;rw[X9,xP];exact⟨_,rfl,sG.trans s1⟩
   ·rintro σ G ⟨z7,rfl,sG⟩;refine⟨_,rfl,r,_,dx,_,_,rfl,sG _ _ so1.obj,T.aa,T.ab,so.whole,_,rfl,_,_,rfl,rfl,?_⟩;rw[W0];have e:=al_wit (d:=d) (m:=m) (A:=A) (B:=B);rw[<- e];exact k _ sG
def UP(K:W.Frag)(a:Adr):Sp:=fun vs H Q _=>∃(r dx:Addr) (fs:List (Str×V)) (d:WD) (ad p:Addr) (us ws:List V) (c:Lb) (ks:List VD),vs=[.ref r,.ref ad,.ref p]/\XR d/\SO3 a.C_Sets H r d dx fs/\Ux K H ad us c/\H p=some (.lst ws)/\RwC K d.signs.length H c ws ks/\∀H',Zf H H'->Q (.int (mI (vdF d c ks).set d.signs.length)) H'
theorem UF(T:Txt K mg a)(hw:w.params=a.Pm):Ye P w K mg base CX0 7 a.Sets_rooms_with a.aW mF (UP K a):=by
 have dv:=V3 (P:=P) (w:=w) (base:=base) T hw;have bR:=VM (P:=P) (w:=w) (base:=base) T hw;have iu:=yk (P:=P) (w:=w) (base:=base) T hw;refine T.cS.ok Y3 (fun vs H Q E h=>?_) (fun lD A outer s H vs Q E hr h=>?_)
 ·obtain⟨r,dx,fs,d,ad,p,us,ws,c,ks,rfl,_⟩:=h;rfl
 ·obtain⟨r,dx,fs,d,ad,p,us,ws,c,ks,rfl,gd,so,sh,hp,rc,k⟩:=h;refine⟨_,(@Za _ _ _ _ _ (@Zi _ _ (3) _ _ _ _ Y3.nd rfl (Or.inl rfl) (@Zn _ _ _ _ _ _ _ (ZB (K:=K) rfl) (pv 1) Zd (fun _ _=>rfl)) (by rfl) (.inl rfl)) (@Za _ _ _ _ _ (@ZN _ _ _ _ _ _ _ _ (@Zp _ _ _ _ _ _ _ _ ZU (pv 3) Zx (Zw _)) (@Zg _ _ _ (@Zq _ _ _ _ (Yi (pv 0) T.aa T.dm dv (hr.mono (by decide)) T.dk .nil Zs (@Zc _ _ _ (@Zn _ _ _ _ _ _ _ (ZB (K:=K) rfl) (pv 1) Zd (fun _ _=>rfl)) (by rfl))))) Zu) (@Za _ _ _ _ _ (@ZN _ _ _ _ _ _ _ _ (@Zp _ _ _ _ _ _ _ _ ZU (pv 3) Zx (Zw _)) (@Zg _ _ _ (@Zq _ _ _ _ (@Zz _ _ _ _ _ _ _ _ UO (Yp (K:=K) rfl (pv 0) rfl) (@Zn _ _ _ _ _ _ _ (Zk (K:=K) rfl) (pv 2) Zd (fun _ _=>rfl))))) Zu) (@Za _ _ _ _ _ (@ZN _ _ _ _ _ _ _ _ (@Zp _ _ _ _ _ _ _ _ ZU (pv 3) Zx (Zw _)) (@Zg _ _ _ (@Zq _ _ _ _ (Yi (pv 0) T.aa T.bQ bR (hr.mono (by decide)) T.bP .nil Zs (@Zc _ _ _ (@Zn _ _ _ _ _ _ _ (Zk (K:=K) rfl) (pv 2) Zd (fun _ _=>rfl)) (by rfl))))) Zu) (@Za _ _ _ _ _ (@ZN _ _ _ _ _ _ _ _ (@Zp _ _ _ _ _ _ _ _ ZU (pv 3) Zx (Zw _)) (@Zg _ _ _ (@Zq _ _ _ _ (Yi (pv 0) T.aa T.fK iu (hr.mono (by decide)) T.fJ .nil Zs (@Zc _ _ _ (@Zn _ _ _ _ _ _ _ (Zk (K:=K) rfl) (pv 2) Zd (fun _ _=>rfl)) (by rfl))))) Zu) (@Za _ _ _ _ _ (@Zi _ _ (4) _ _ _ _ Y3.nd rfl (Or.inl rfl) (qb (@Zp _ _ _ _ _ _ _ _ ZU (pv 3) Zx (Zw _)) Zd (Yp (K:=K) rfl (pv 0) rfl)) (by rfl) (.inl rfl)) (@Za _ _ _ _ _ (Xo nB rfl (ZC (K:=K) rfl (pv 2)) (Zh (i:=5) Y3.nd rfl (Or.inl rfl)) (@Zg _ _ _ (@Zi _ _ (4) _ _ _ _ Y3.nd rfl (Or.inl rfl) (qb (@Zp _ _ _ _ _ _ _ _ ZU (pv 3) Zx (Zw _)) (@Zz _ _ _ _ _ _ _ _ op_or (pv 4) (pv 5)) (@Zz _ _ _ _ _ _ _ _ Wt (pv 4) (pv 5))) (by rfl) (.inl rfl)))) (@Zg _ _ _ (@Zq _ _ _ _ (pv 4)))))))))),?_⟩;have so1:=so.so.so;cases rc with
  |yes=>
   refine⟨_,rfl,ad,_,_,_,rfl,rfl,sh.2,rfl,_,rfl,rfl,_,rfl,ZK (fun z=>absurd (V.str.inj z) (by decide +kernel)) ⟨_,rfl,rfl,_,rfl,ZK (fun z=>absurd (V.str.inj z) (by decide +kernel)) ⟨_,rfl,rfl,_,rfl,ZK (fun z=>absurd (V.str.inj z) (by decide +kernel)) ⟨_,rfl,rfl,_,rfl,ZK (fun z=>absurd (V.str.inj z) (by decide +kernel)) ?_⟩⟩⟩⟩;refine⟨_,rfl,rfl,_,rfl,ZK (fun z=>absurd (V.str.inj z) (by decide +kernel)) ⟨_,rfl,r,_,dx,_,_,rfl,so1.obj,T.aa,T.ab,so.whole,?_⟩⟩;refine⟨_,rfl,p,rfl,⟨_,rS hp⟩,?_⟩;refine XX (K:=K) (xs:=[]) (fun i σ G=>∃z5,σ=[some (.ref r),some (.ref ad),some (.ref p),some (.str "yes"),some (.int (mI (fun _=>true) d.signs.length)),z5]/\G=H) ⟨_,rfl,rfl⟩ ?_ ?_ ?_
   ·rintro i σ G _ ⟨z5,rfl,rfl⟩;exact rS hp
   ·rintro i x σ G hx;simp at hx
   ·rintro σ G ⟨z5,rfl,rfl⟩;exact⟨_,rfl,k _ (.refl _)⟩
  |sign s=>
   refine⟨_,rfl,ad,_,_,_,rfl,rfl,sh.2,rfl,_,rfl,rfl,_,rfl,YZ rfl ?_⟩;exact⟨_,rfl,r,dx,_,rfl,so1.obj,so1.no _ (by decide +kernel),_,rfl,ad,_,_,_,rfl,rfl,sh.2,rfl,r,dx,fs,d,s,rfl,gd,so1,fun H1 s1=>k _ s1⟩
  |not A=>
   have sh':SqT K H ad (.str "not" :: us):=sh;refine⟨_,rfl,ad,_,_,_,rfl,rfl,sh',Zt (j:=0) rfl,_,rfl,rfl,_,rfl,ZK (fun z=>absurd (V.str.inj z) (by decide +kernel)) ⟨_,rfl,rfl,_,rfl,YZ rfl ?_⟩⟩;refine⟨_,rfl,r,_,dx,_,_,rfl,so1.obj,T.aa,T.ab,so.whole,_,rfl,p,_,_,_,rfl,rfl,rS hp,rfl,_,_,rfl,rfl,?_⟩;rw[W0];have e:=rw_not d A;rw[<- e];exact k _ (.refl _)
  |some b c Ss wy=>
   have sh':SqT K H ad (.str "some" :: us):=sh;refine⟨_,rfl,ad,_,_,_,rfl,rfl,sh',Zt (j:=0) rfl,_,rfl,rfl,_,rfl,ZK (fun z=>absurd (V.str.inj z) (by decide +kernel)) ⟨_,rfl,rfl,_,rfl,ZK (fun z=>absurd (V.str.inj z) (by decide +kernel)) ⟨_,rfl,rfl,_,rfl,YZ rfl ?_⟩⟩⟩;refine⟨_,rfl,r,dx,_,rfl,so1.obj,so1.no _ (by decide +kernel),_,rfl,p,_,_,_,rfl,rfl,rS hp,rfl,r,dx,fs,d,b,c,Ss,rfl,gd,so,wy,fun H1 s1=>?_⟩;rw[<- rw_some d c Ss];exact k _ s1
  |all b c Ss wy=>
   have sh':SqT K H ad (.str "all" :: us):=sh;refine⟨_,rfl,ad,_,_,_,rfl,rfl,sh',Zt (j:=0) rfl,_,rfl,rfl,_,rfl,ZK (fun z=>absurd (V.str.inj z) (by decide +kernel)) ⟨_,rfl,rfl,_,rfl,ZK (fun z=>absurd (V.str.inj z) (by decide +kernel)) ⟨_,rfl,rfl,_,rfl,ZK (fun z=>absurd (V.str.inj z) (by decide +kernel)) ⟨_,rfl,rfl,_,rfl,YZ rfl ?_⟩⟩⟩⟩;refine⟨_,rfl,r,dx,_,rfl,so1.obj,so1.no _ (by decide +kernel),_,rfl,p,_,_,_,rfl,rfl,rS hp,rfl,r,dx,fs,d,b,c,Ss,rfl,gd,so,wy,fun H1 s1=>?_⟩;rw[<- rw_all d c Ss];exact k _ s1
  |many w Ss hw hl=>
   obtain⟨b,sh',_⟩:=sh;rcases hw with rfl|rfl
   ·refine⟨_,rfl,ad,_,_,_,rfl,rfl,sh',Zt (j:=0) rfl,_,rfl,rfl,_,rfl,ZK (fun z=>absurd (V.str.inj z) (by decide +kernel)) ⟨_,rfl,rfl,_,rfl,ZK (fun z=>absurd (V.str.inj z) (by decide +kernel)) ⟨_,rfl,rfl,_,rfl,ZK (fun z=>absurd (V.str.inj z) (by decide +kernel)) ⟨_,rfl,rfl,_,rfl,ZK (fun z=>absurd (V.str.inj z) (by decide +kernel)) ?_⟩⟩⟩⟩;refine⟨_,rfl,rfl,_,rfl,ZK (fun z=>absurd (V.str.inj z) (by decide +kernel)) ⟨_,rfl,r,_,dx,_,_,rfl,so1.obj,T.aa,T.ab,so.whole,?_⟩⟩;refine⟨_,rfl,p,rfl,⟨_,rS hp⟩,?_⟩;refine XX (K:=K) (xs:=Ss.map fun S=>.int (mI S d.signs.length)) (fun i σ G=>∃z5,σ=[some (.ref r),some (.ref ad),some (.ref p),some (.str "and"),some (.int (mI (fun r=>(Ss.take i).all fun S=>S r) d.signs.length)),z5]/\G=H) ⟨_,rfl,rfl⟩ ?_ ?_ ?_
    ·rintro i σ G _ ⟨z5,rfl,rfl⟩;exact rS hp
    ·rintro i x σ G hx ⟨z5,rfl,rfl⟩;rw[mU] at hx;obtain⟨S,es,rfl⟩:=oU.mp hx;refine⟨_,rfl,rfl,_,rfl,ZK (fun z=>absurd (V.str.inj z) (by decide +kernel)) ⟨_,rfl,_,rfl,_,_,rfl,rfl,?_⟩⟩;rw[X9];have e:(fun r=>((Ss.take i).all fun S=>S r)&&S r)=fun r=>(Ss.take (i+1)).all fun S=>S r:=by
      funext r
      rw[pC,es,List.all_append];simp
     rw[e];exact⟨_,rfl,rfl⟩
    ·rintro σ G ⟨z5,rfl,rfl⟩;rw[mM,oy,<- rw_and d Ss];exact⟨_,rfl,k _ (.refl _)⟩
   ·refine⟨_,rfl,ad,_,_,_,rfl,rfl,sh',Zt (j:=0) rfl,_,rfl,rfl,_,rfl,ZK (fun z=>absurd (V.str.inj z) (by decide +kernel)) ⟨_,rfl,rfl,_,rfl,ZK (fun z=>absurd (V.str.inj z) (by decide +kernel)) ⟨_,rfl,rfl,_,rfl,ZK (fun z=>absurd (V.str.inj z) (by decide +kernel)) ⟨_,rfl,rfl,_,rfl,ZK (fun z=>absurd (V.str.inj z) (by decide +kernel)) ?_⟩⟩⟩⟩;refine⟨_,rfl,rfl,_,rfl,YZ rfl ?_⟩;refine⟨_,rfl,p,rfl,⟨_,rS hp⟩,?_⟩;have z0:(0:Int)=mI (fun r=>(Ss.take 0).any fun S=>S r) d.signs.length:=(WW.mpr fun _ _=>rfl).symm;refine XX (K:=K) (xs:=Ss.map fun S=>.int (mI S d.signs.length)) (fun i σ G=>∃z5,σ=[some (.ref r),some (.ref ad),some (.ref p),some (.str "or"),some (.int (mI (fun r=>(Ss.take i).any fun S=>S r) d.signs.length)),z5]/\G=H) ⟨_,by rw[<- z0];rfl,rfl⟩ ?_ ?_ ?_
    ·rintro i σ G _ ⟨z5,rfl,rfl⟩;exact rS hp
    ·rintro i x σ G hx ⟨z5,rfl,rfl⟩;rw[mU] at hx;obtain⟨S,es,rfl⟩:=oU.mp hx;refine⟨_,rfl,rfl,_,rfl,YZ rfl ⟨_,rfl,_,rfl,_,_,rfl,rfl,?_⟩⟩;rw[xP];have e:(fun r=>((Ss.take i).any fun S=>S r)||S r)=fun r=>(Ss.take (i+1)).any fun S=>S r:=by
      funext r
      rw[pC,es,List.any_append];simp
     rw[e];exact⟨_,rfl,rfl⟩
    ·rintro σ G ⟨z5,rfl,rfl⟩;rw[mM,oy,<- rw_or d Ss];exact⟨_,rfl,k _ (.refl _)⟩
def jO(K:W.Frag)(a:Adr):Sp:=fun vs H Q _=>∃(v:V) (ad:Addr) (us:List V) (c:Lb),vs=[v]/\v=.ref ad/\Ux K H ad us c/\lbOkB c us.length/\∀H' b,Zf H H'->SqT K H' b us->Q (.ref b) H'
theorem cutV_two(x y:V)(vs:List V):qm (x::y::vs) (some 2) none=vs:=by
 have:=qT (x::y::vs) 2 (by simp);exact this
theorem cutV_one(x:V)(vs:List V):qm (x::vs) (some 1) none=vs:=by
 have:=qT (x::vs) 1 (by simp);exact this
theorem cut_not{n:Nat}{k:Int}(h:0<k)(hn:(k:Int)<=n):¬(HT.sIx n 0 (some k)=0/\HT.sIx n n none=n):=by
 rintro⟨h1,_⟩;have h2:¬(k<0):=by omega
 unfold HT.sIx at h1;simp only[h2,oM] at h1;omega
theorem V9(T:Txt K mg a)(hw:w.params=a.Pm):Ye P w K mg base CX0 1 a.inner_of a.db lU (jO K a):=by
 refine T.cP.ok zt (fun vs H Q E h=>?_) (fun lD A outer s H vs Q E hr h=>?_)
 ·obtain⟨v,ad,us,c,rfl,_⟩:=h;rfl
 ·obtain⟨v,ad,us,c,rfl,rfl,sh,ok,k⟩:=h;refine⟨_,(@Za _ _ _ _ _ (@Zi _ _ (1) _ _ _ _ zt.nd rfl (Or.inl rfl) (@Zn _ _ _ _ _ _ _ (ZB (K:=K) rfl) (pv 0) Zd (fun _ _=>rfl)) (by rfl) (.inl rfl)) (@Za _ _ _ _ _ (@ZN _ _ _ _ _ _ _ _ (@Zp _ _ _ _ _ _ _ _ (WC (K:=K) rfl) (pv 1) (@Yv _ _ _ _ _ (@Zr _ _ _ _ _ Zx (@Zc _ _ _ Zx (by rfl)) (by rfl))) (by with_unfolding_all rfl)) (@Zg _ _ _ (@Zq _ _ _ _ (@Yv _ _ _ _ _ XH))) Zu) (@Za _ _ _ _ _ (@ZN _ _ _ _ _ _ _ _ (@Zp _ _ _ _ _ _ _ _ (WC (K:=K) rfl) (pv 1) (@Yv _ _ _ _ _ (@Zr _ _ _ _ _ Zx (@Zc _ _ _ Zx (by rfl)) (by rfl))) (by with_unfolding_all rfl)) (@Zg _ _ _ (@Zq _ _ _ _ (@Zn _ _ _ _ _ _ _ (ZB (K:=K) rfl) (pv 0) Zd (fun _ _=>rfl)))) Zu) (@Za _ _ _ _ _ (@ZN _ _ _ _ _ _ _ _ (@Zp _ _ _ _ _ _ _ _ ZU (pv 1) Zx (Zw _)) (@Zg _ _ _ (@Zq _ _ _ _ (Uc (vY (K:=K) rfl) (pv 0) (Vt Zd) qh))) Zu) (@Zg _ _ _ (@Zq _ _ _ _ (Uc (vY (K:=K) rfl) (pv 0) (Vt Zd) qh))))))),?_⟩;obtain⟨xs,e⟩:=sh.tup;refine⟨_,rfl,ad,_,_,_,rfl,rfl,e,Zt (j:=0) rfl,?_⟩;refine⟨_,rfl,by rw[mN];simp,fun q hq2=>⟨q,_,rfl,.inr (rT Ze),rfl,rfl,_,rfl,?_⟩⟩;have s1:=Zj (o:=.tup [.str "yes",.str "sign"]) hq2;generalize upd H q (.tup [.str "yes",.str "sign"])=H1 at s1 ⊢;have sh1:=sh.mono (rV s1);clear e xs sh
  revert sh1 ok
  cases c with
  |yes=>
   intro ok sh;refine Uy (ss:=["yes", "sign"]) (by decide +kernel) ⟨by rw[mN];simp,fun r hr=>?_⟩;have h0:=sh.1;subst h0;exact k _ r (s1.trans (Zj hr)) (rT Ze)
  |sign z=>
   intro ok sh;refine Uy (ss:=["yes", "sign"]) (show("sign" : Str)∈(["yes", "sign"]:List Str) by decide +kernel) ⟨by rw[mN];simp,fun r hr=>?_⟩;have h0:=sh.1;subst h0;exact k _ r (s1.trans (Zj hr)) (rT Ze)
  |op w=>
   intro ok sh;obtain⟨h1,h2,h3,h4,h5⟩:=jB w (by rcases ok with ok|ok;exact oB _ ok.1;exact nU _ ok.1);refine X7 (ss:=["yes", "sign"]) h5 ?_;refine⟨_,rfl,by rw[mN];simp,fun q3 hq3=>⟨q3,_,rfl,.inr (rT Ze),rfl,rfl,_,rfl,X7 (ss:=["and", "or"]) h3 ?_⟩⟩;have s2:=Zj (o:=.tup [.str "and",.str "or"]) hq3;generalize upd H1 q3 (.tup [.str "and",.str "or"])=H2 at s2 ⊢;refine⟨_,rfl,rfl,_,rfl,ZK (fun z=>h4 (V.str.inj z)) ?_⟩;refine⟨_,rfl,_,rfl,ad,_,rfl,(rV s2 K _ _ sh),cut_not (by decide) (by simp;omega),fun r hr=>?_⟩;rw[cutV_one];exact k _ r ((s1.trans s2).trans (Zj hr)) (rT Ze)
  |wit m=>
   intro ok sh;refine X7 (ss:=["yes", "sign"]) (show("within" : Str)∉(["yes", "sign"]:List Str) by decide +kernel) ?_;refine⟨_,rfl,by rw[mN];simp,fun q3 hq3=>⟨q3,_,rfl,.inr (rT Ze),rfl,rfl,_,rfl,X7 (ss:=["and", "or"]) (show("within" : Str)∉(["and", "or"]:List Str) by decide +kernel) ?_⟩⟩;have s2:=Zj (o:=.tup [.str "and",.str "or"]) hq3;generalize upd H1 q3 (.tup [.str "and",.str "or"])=H2 at s2 ⊢;refine⟨_,rfl,rfl,_,rfl,YZ rfl ?_⟩;refine⟨_,rfl,_,rfl,ad,_,rfl,(rV s2 K _ _ sh),cut_not (by decide) (by simp;omega),fun r hr=>?_⟩;rw[cutV_two];exact k _ r ((s1.trans s2).trans (Zj hr)) (rT Ze)
  |many w=>
   intro ok sh;have hw0:w∈(["and", "or"]:List Str):=by rcases ok.1 with rfl|rfl<;>simp
   obtain⟨h1,h2,h3,h4,_⟩:=VC w hw0;obtain⟨b,sh1,sh2⟩:=sh;refine X7 (ss:=["yes", "sign"]) h4 ?_;refine⟨_,rfl,by rw[mN];simp,fun q3 hq3=>⟨q3,_,rfl,.inr (rT Ze),rfl,rfl,_,rfl,Uy (ss:=["and", "or"]) hw0 ?_⟩⟩;have s2:=Zj (o:=.tup [.str "and",.str "or"]) hq3;generalize upd H1 q3 (.tup [.str "and",.str "or"])=H2 at s2 ⊢;exact⟨_,rfl,ad,_,_,_,rfl,rfl,(rV s2 K _ _ sh1),Zt (j:=1) rfl,k _ b (s1.trans s2) (rV s2 K _ _ sh2)⟩
def je(K:W.Frag)(a:Adr):Sp:=fun vs H Q _=>∃(p:Addr) (xs:List V) (m:Nat),vs=[.ref p,.int (m:Nat)]/\H p=some (.lst xs)/\m<=xs.length/\∀H' l,ZJ p H H'->H' p=some (.lst (xs.take (xs.length-m)))->H l=none->H' l=some (.lst (xs.drop (xs.length-m)))->Q (.ref l) H'
theorem UV(T:Txt K mg a)(hw:w.params=a.Pm):Ye P w K mg base CX0 1 a.last_ones a.cA ["things", "many"] (je K a):=by
 refine T.dg.ok Vq (fun vs H Q E h=>?_) (fun lD A outer s H vs Q E hr h=>?_)
 ·obtain⟨p,xs,m,rfl,_⟩:=h;rfl
 ·obtain⟨p,xs,m,rfl,hp,hm,k⟩:=h;refine⟨_,(@Za _ _ _ _ _ (@Zi _ _ (2) _ _ _ _ Vq.nd rfl (Or.inl rfl) (@Zz _ _ _ _ _ _ _ _ W9 (Zm (ZI (K:=K) rfl) rfl T.aX rW (@Zc _ _ _ (pv 0) (by rfl))) (pv 1)) (by rfl) (.inl rfl)) (@Za _ _ _ _ _ (@Zi _ _ (3) _ _ _ _ Vq.nd rfl (Or.inl rfl) (Uc (kf (K:=K) rfl) (pv 0) (Vt (pv 2)) qh) (by rfl) (.inl rfl)) (@Za _ _ _ _ _ (kT (pv 0) (pv 2)) (@Zg _ _ _ (@Zq _ _ _ _ (pv 3)))))),?_⟩;have e:(xs.length:Int)-(m:Int)=((xs.length-m:Nat):Int):=by omega
  refine⟨_,rfl,.inl ⟨p,_,rfl,.inl (rS hp),_,rfl,_,_,rfl,rfl,?_⟩⟩;refine⟨_,rfl,_,rfl,((xs.length-m:Nat):Int),ni V.int e,p,xs,rfl,rS hp,fun l hl=>?_⟩;rw[qT _ _ (by omega)];have np:=VW hp hl;refine⟨_,rfl,_,rfl,p,xs,xs.length-m,rfl,ni V.int e,updK hp np,by omega,?_⟩;refine⟨_,rfl,k _ l (Zf.x (Zj hl)).upd Ze hl ?_⟩;rw[Zy (nN np),Ze]
def qK(K:W.Frag)(a:Adr):Sp:=fun vs H Q _=>∃(r dx:Addr) (fs:List (Str×V)) (d:WD) (L:Addr) (us:List V) (m:Nat) (t:Tr),vs=[.ref r,.ref L]/\XR d/\SO3 a.C_Sets H r d dx fs/\H L=some (.lst us)/\AtL K m H us (post t)/\(post t).length<=100000/\bkT t = "room" /\ ∀H',Zf H H'->Q (.int (mI (soB d t) d.signs.length)) H'
theorem at_ok{K:W.Frag}{n:Nat}{H:Hp}{v:V}{t:Tr}(h:At K n H v t):WX t.lb t.ks.length:=by
 cases n with
 |zero=>exact h.elim
 |succ n=>obtain⟨_,_,_,_,ok,_⟩:=h;exact ok
theorem ze(T:Txt K mg a)(hw:w.params=a.Pm):Ye P w K mg base CX0 8 a.Sets_rooms_by a.bj ["self", "row"] (qK K a):=by
 have fD:=UV (P:=P) (w:=w) (base:=base) T hw;have cY:=V9 (P:=P) (w:=w) (base:=base) T hw;have gf:=UF (P:=P) (w:=w) (base:=base) T hw;refine T.dJ.ok XZ (fun vs H Q E h=>?_) (fun lD A outer s H vs Q E hr h=>?_)
 ·obtain⟨r,dx,fs,d,L,us,m,t,rfl,_⟩:=h;rfl
 ·obtain⟨r0,dx,fs,d,L,us,n,t,rfl,gd,so,eL,aL,hz,hbk,k⟩:=h;refine⟨_,(@Za _ _ _ _ _ (@Zi _ _ (2) _ _ _ _ XZ.nd rfl (Or.inl rfl) (@ZW _ _ _ _ XH) (by rfl) (.inl rfl)) (@Za _ _ _ _ _ (Xo nB rfl (ZC (K:=K) rfl (pv 1)) (Zh (i:=3) XZ.nd rfl (Or.inl rfl)) (@Za _ _ _ _ _ (@Zi _ _ (4) _ _ _ _ XZ.nd rfl (Or.inl rfl) (Zl fD (hr.mono (by decide)) rfl T.fk T.dg.kp T.fj .nil Zs (@Zr _ _ _ _ _ (pv 2) (@Zc _ _ _ (Zm (ZI (K:=K) rfl) rfl T.aX rW (@Zc _ _ _ (Zl cY (hr.mono (by decide)) rfl T.eT T.cP.kp T.eQ .nil Zs (@Zc _ _ _ (pv 3) (by rfl))) (by rfl))) (by rfl)) (by rfl))) (by rfl) (.inl rfl)) (@Zg _ _ _ (@ZN _ _ _ _ _ _ _ _ (@Zp _ _ _ _ _ _ _ _ (WC (K:=K) rfl) (@Zn _ _ _ _ _ _ _ (ZB (K:=K) rfl) (pv 3) Zd (fun _ _=>rfl)) (UZ (v:=.ref a.Y_WAY_WORDS) rfl ⟨_,T.fB,rfl⟩) (by with_unfolding_all rfl)) (@Zg _ _ _ (@Xc _ _ _ _ (WT nS oh oi Yg (pv 2) (@Zc _ _ _ (@Zz _ _ _ _ _ _ _ _ (op_catTK (K:=K) rfl) (Uc (vY (K:=K) rfl) (pv 3) qh (Vt (VU Ud (Zm (ZI (K:=K) rfl) rfl T.aX rW (@Zc _ _ _ (pv 4) (by rfl)))))) (ZQ (XE (K:=K) rfl) rfl T.cr rZ (@Zc _ _ _ (pv 4) (by rfl)))) (by rfl))) (by rfl))) (@Zg _ _ _ (@Xc _ _ _ _ (WT nS oh oi Yg (pv 2) (@Zc _ _ _ (Yi (pv 0) T.aa T.cU gf (hr.mono (by decide)) T.cT .nil Zs (@Zr _ _ _ _ _ (pv 3) (@Zc _ _ _ (pv 4) (by rfl)) (by rfl))) (by rfl))) (by rfl))))))) (@Zg _ _ _ (@Zq _ _ _ _ (@Zn _ _ _ _ _ _ _ (Zk (K:=K) rfl) (pv 2) Zd (fun _ _=>rfl)))))),?_⟩;refine⟨by decide,fun F hF=>?_⟩;obtain⟨H1,qN,s1,e1⟩:=ZV (o:=.lst []) hF;rw[qN];have nLF:L≠F:=fun e=>by rw[e,hF] at eL;cases eL
  have eL:=s1 _ _ eL;have aL:=aL.mono (rV s1);obtain⟨ok0,run0⟩:=run_all (F:=vdF d) t;have hul:=aL.1;have parts:=jK t (by rw[hbk];exact qA);refine⟨_,rfl,L,rfl,⟨_,rS eL⟩,?_⟩;refine XX (K:=K) (xs:=us) (fun i σ H'=>∃(z1 z2:Option V) (vs:List V) (st:List VD),σ=[some (.ref r0),some (.ref L),some (.ref F),z1,z2]/\ZJ F H1 H'/\H' F=some (.lst vs)/\VdL K d.signs.length H' vs st/\U1 (vdF d) st ((post t).drop i)/\zC (vdF d) st ((post t).drop i)=[vdT d t]/\st.length<=i) ?_ ?_ ?_ ?_
  ·exact⟨_,_,[],[],rfl,.refl _,e1,VdL.nil,ok0,run0,mP _⟩
  ·rintro i σ H' hi ⟨z1,z2,vs,st,rfl,x',_⟩;exact rS (x' _ _ nLF eL)
  ·rintro i x σ H3 hx ⟨z1,z2,vs,st,rfl,x3,hF3,vl,ok3,run3,hst⟩;have hi:i<us.length:=(nT.mp hx).1;have hi2:i<(post t).length:=by omega
   have t23:XA H1 H3:=ZJ.tup x3 e1;have at3:=(aL.2 i x _ hx (mO hi2)).mono t23;have pr:=parts _ (nk hi2);rw[rQ hi2] at ok3 run3;obtain⟨⟨okl,okd⟩,okr⟩:=ok3;have runr:zC (vdF d) (Vj (vdF d) st (post t)[i]) ((post t).drop (i+1))=[vdT d t]:=run3;generalize (post t)[i]=r at at3 okl okd okr runr pr;cases n with
   |zero=>exact at3.elim
   |succ n=>
   obtain⟨ad7,ks,eu7,sh7,ok7,hl7,hq7⟩:=id at3;refine⟨_,rfl,_,rfl,x,ad7,ks,r.lb,rfl,eu7,sh7,by rw[hl7];exact ok7.b,fun H4 b s4 eb=>.inl ⟨b,_,rfl,.inr (eb),?_⟩⟩;have kk:∀kt∈r.ks,WX kt.lb kt.ks.length:=fun kt hk=>by
    obtain⟨j,hj,ej⟩:=oH hk;exact at_ok (hq7 j (ks[j]'(by omega)) kt (mO (by omega)) (by rw[mO hj,ej]))
   have hF4:=s4 _ _ hF3;have vll:=vl.1;refine⟨F,vs,ks.length,rfl,hF4,by rw[hl7,vll];exact okl,fun H5 l x5 hF5 l0 hl5=>?_⟩;have nlF:l≠F:=fun e=>by rw[e,hF4] at l0;cases l0
   have t45:XA H4 H5:=ZJ.tup x5 hF4;have t35:=(rV s4).trans t45;have x15:=(x3.trans (Zf.x s4)).trans x5;have so5:=so.mono (((Zf.x s1).trans x15).same hF);rw[hl7,vll] at hF5 hl5;have vt:=(vl.mono t35).take (st.length-r.ks.length);have vd:=(vl.mono t35).drop (st.length-r.ks.length);rw[okd] at vd;obtain⟨xs2,ex2⟩:=(sh7.mono t35).tup;have sh5:=sh7.mono t35;generalize vs.drop (st.length-r.ks.length)=ws at hl5 vd;have fin:∀(H6:Hp) (v:V),Zf H5 H6->zF K d.signs.length H6 v (vdF d r.lb (r.ks.map (vdT d)))->∃(z1 z2:Option V) (vs':List V) (st':List VD),([some (.ref r0),some (.ref L),some (.ref F),some x,some (.ref l)]:L2.St)=[some (.ref r0),some (.ref L),some (.ref F),z1,z2]/\ZJ F H1 (upd H6 F (.lst (vs.take (st.length-r.ks.length)++[v])))/\(upd H6 F (.lst (vs.take (st.length-r.ks.length)++[v]))) F=some (.lst vs')/\VdL K d.signs.length (upd H6 F (.lst (vs.take (st.length-r.ks.length)++[v]))) vs' st'/\U1 (vdF d) st' ((post t).drop (i+1))/\zC (vdF d) st' ((post t).drop (i+1))=[vdT d t]/\st'.length<=i+1:=by
    intro H6 v s6 hv;have hF6:=s6 _ _ hF5;have tu:=ZJ.tup (p:=F) ((ZJ.refl H6).upd (o:=.lst (vs.take (st.length-r.ks.length)++[v]))) hF6;refine⟨_,_,vs.take (st.length-r.ks.length)++[v],Vj (vdF d) st r,rfl,(x15.trans (Zf.x s6)).upd,Ze,?_,okr,runr,?_⟩
    ·unfold Vj;rw[okd];exact((vt.mono (rV s6)).snoc hv).mono tu
    ·unfold Vj;rw[mT,nW];simp;omega
   subst eu7;refine⟨_,rfl,ad7,_,_,_,rfl,rfl,ex2,Zt (j:=0) rfl,a.Y_WAY_WORDS,_,rfl,.inr (T.y_WAY_WORDS _),rfl,rfl,_,rfl,?_⟩;have hF5l:(vs.take (st.length-r.ks.length)).length<sizeLine:=by rw[nW,mN];omega
   rcases jV ok7 pr with hb|hb
   ·refine X7 (ss:=["next", "until", "always", "ever", "within"]) (room_word ok7 hb) ?_;have rc:=rwc_of ok7 kk (fun kt hk hw v hv=>wk_of (kk kt hk) hw hv) hb vd;refine⟨_,rfl,.inl ⟨rfl,_,rS hF5⟩,_,rfl,r0,dx,_,rfl,so5.so.so.obj,so5.so.so.no _ (by decide +kernel),_,rfl,_,rfl,r0,dx,fs,d,ad7,l,ks,ws,r.lb,r.ks.map (vdT d),rfl,gd,so5,sh5,hl5,rc,fun H6 s6=>?_⟩;refine⟨F,_,_,rfl,rfl,s6 _ _ hF5,hF5l,fin H6 _ s6 ?_⟩;have ev:vdF d r.lb (r.ks.map (vdT d))=.rm (soB d r):=by rw[<- Uf,WV ok7 hb]
    rw[ev];rfl
   ·refine Uy (ss:=["next", "until", "always", "ever", "within"]) (way_word ok7 hb) ?_;obtain⟨hd,hs,hne,hd2,k1,k2,wy⟩:=wyc_of ok7 kk hb sh5 vd;have wl:ws.length=r.ks.length:=by rw[vd.1,mM]
    have ewl:((ws.length:Nat):Int)=((ks.length:Nat):Int):=by rw[wl,hl7]
    refine⟨_,rfl,.inl ⟨rfl,_,rS hF5⟩,_,rfl,_,rfl,.inl ⟨l,_,rfl,.inl (rS hl5),_,rfl,_,rfl,ad7,_,rfl,hs,by rw[ewl];exact sIx_pre hd ks (by omega),fun q hq=>?_⟩⟩;rw[ewl,cutV_pre hd ks (by omega)];obtain⟨H6,qN,s6,e6⟩:=ZV (o:=.tup hd) hq;rw[qN];refine⟨_,rfl,l,_,rfl,.inl ⟨rS (s6 _ _ hl5),fun q2 hq2=>?_⟩⟩;obtain⟨H7,qN,s7,e7⟩:=ZV (o:=.tup ws) hq2;rw[qN];refine⟨q,q2,_,_,rfl,rfl,rT (s7 _ _ e6),rT e7,hne,by rw[mN];omega,fun z=>?_,fun _ q3 hq3=>?_⟩
    ·rw[z] at wl;simp at wl;omega
    obtain⟨H8,qN,s8,e8⟩:=ZV (o:=.tup (hd++ws)) hq3;rw[qN];have s68:=s6.trans (s7.trans s8);exact⟨F,_,_,rfl,rfl,s68 _ _ hF5,hF5l,fin H8 _ s68 (wy H8 q3 (rT e8))⟩
  rintro σ H3 ⟨z1,z2,vs,st,rfl,x3,hF3,vl,ok3,run3,hst⟩;rw[List.drop_eq_nil_of_le (by omega)] at run3;have est:st=[vdT d t]:=run3;subst est;have okt:WX t.lb t.ks.length:=at_ok (aL.2 ((post t).length-1) (us[(post t).length-1]'(by have:=post_mem t;have:=rN this;omega)) t (mO _) (by rw[vT t];simp));obtain⟨v,rfl,hv⟩:=vl.one;rw[WV okt hbk] at hv;have hv':v=.int (mI (soB d t) d.signs.length):=hv;subst hv';exact⟨_,rfl,F,_,_,_,rfl,rfl,rS hF3,rfl,k _ (((Zf.x s1).trans x3).same hF)⟩
theorem map_at{α:Type}{f:α->V}{ks:List α}{ys:List V}(hl:ys.length=ks.length)(h:∀(i:Nat) v,ys[i]?=some v->∀k,ks[i]?=some k->v=f k):ys=ks.map f:=by
 refine List.ext_getElem? fun i=>?_;rw[mU];cases e:ks[i]? with
 |none=>
  rw[List.getElem?_eq_none_iff] at e;exact List.getElem?_eq_none_iff.mpr (by omega)
 |some x=>
  have hi:=(nT.mp e).1;have hy:ys[i]?=some (ys[i]'(by omega)):=mO (by omega);rw[hy,h i _ hy x e];rfl
def yp(K:W.Frag)(a:Adr):Sp:=fun vs H Q _=>∃(w:Str) (p:Addr) (ks:List Str),vs=[.str w,.ref p]/\H p=some (.lst (ks.map V.str))/\ks.length<=100000/\∀H',Zf H H'->Q (.str (bkS w ks)) H'
theorem zW(T:Txt K mg a)(hw:w.params=a.Pm):Ye P w K mg base CX0 1 a.branch_kind a.bI ["word", "inner"] (yp K a):=by
 refine T.dj.ok VV (fun vs H Q E h=>?_) (fun lD A outer s H vs Q E hr h=>?_)
 ·obtain⟨w,p,ks,rfl,_⟩:=h;rfl
 ·obtain⟨w,p,ks,rfl,hp,hl,k⟩:=h;refine⟨_,(@Za _ _ _ _ _ (@Zi _ _ (2) _ _ _ _ VV.nd rfl (Or.inr rfl) (qb (@Zp _ _ _ _ _ _ _ _ (WC (K:=K) rfl) (pv 0) (@Yv _ _ _ _ _ (@Zr _ _ _ _ _ Zx (@Zc _ _ _ Zx (by rfl)) (by rfl))) (by with_unfolding_all rfl)) Zx Zx) (by rfl) (.inl rfl)) (@Za _ _ _ _ _ (@ZN _ _ _ _ _ _ _ _ (@Wa _ _ _ _ (XG (Zm (X3 (K:=K) rfl rfl) rfl T.hV r6 (@Zc _ _ _ (Zv (Nc:=["kind", "wanted"]) (ix:=[none,some 2]) (ZA.of (by decide +kernel:ZD (Zb YV) ["word", "inner", "wanted"] ["kind", "wanted"] [none,some 2] _=true)) rfl (ZC (K:=K) rfl (pv 1)) (fun _ _ _ _ _=>(Zh (i:=0) (show List.Nodup (["kind", "wanted"]:List Str) by decide +kernel) rfl (Or.inl rfl))) (fun _ _ _ _ _=>ZF) (fun _ _ _ _ _=>(@YQ _ _ _ _ _ _ _ _ ZU (pv 0) (pv 1) (Zw _)))) (by rfl))))) (@Zg _ _ _ (@Zq _ _ _ _ Zx)) Zu) (@Za _ _ _ _ _ (@ZN _ _ _ _ _ _ _ _ (@Zp _ _ _ _ _ _ _ _ (WC (K:=K) rfl) (pv 0) (@Yv _ _ _ _ _ (@Z0 _ _ _ _ _ Zx (@Z0 _ _ _ _ _ Zx (@Z0 _ _ _ _ _ Zx (@Z0 _ _ _ _ _ Zx (@Z0 _ _ _ _ _ Zx (@Z0 _ _ _ _ _ Zx (@Xk _ _ _ Zx (by rfl)) (by rfl)) (by rfl)) (by rfl)) (by rfl)) (by rfl)) (by rfl))) (by with_unfolding_all rfl)) (@Zg _ _ _ (@Zq _ _ _ _ Zx)) Zu) (@Zg _ _ _ (@Zq _ _ _ _ (qb (@Zp _ _ _ _ _ _ _ _ (WC (K:=K) rfl) (pv 0) (UZ (v:=.ref a.Y_WAY_WORDS) rfl ⟨_,T.fB,rfl⟩) (by with_unfolding_all rfl)) Zx Zx)))))),?_⟩;have WG:∀(c0:Str) (H1:Hp),Zf H H1->Wb w=c0->tSeq (tIfS (tNot (tB (tCB (rAll K) (VI (jb (iList K (tVar 1)) [none,some 2] (Xt 0) Vh (tOp rEq (tVar 0) (tVar 1))) tNil)))) (tRet (tC (V.str "neither"))) tNext) (tSeq (tIfS (tTest (tOp (rIn K false) (tVar 0) (tTup (VI (tC (V.str "yes")) (VI (tC (V.str "sign")) (VI (tC (V.str "not")) (VI (tC (V.str "and")) (VI (tC (V.str "or")) (VI (tC (V.str "all")) (VI (tC (V.str "some")) tNil)))))))))) (tRet (tC (V.str "room"))) tNext) (tRet (tIf (tTest (tOp (rIn K false) (tVar 0) (tC (V.ref a.Y_WAY_WORDS)))) (tC (V.str "way")) (tC (V.str "neither"))))) { nx:=fun x H'=>Q V.non H',rt:=Q } [some (.str w),some (.ref p),some (.str c0)] H1:=by
   intro c0 H1 s1 ew;refine⟨_,rfl,p,rfl,⟨_,rS (s1 _ _ hp)⟩,fun D hD=>?_⟩;refine Wz (K:=K) hD (rS (s1 _ _ hp)) (by rw[mM,mN];omega) (fun i v _=>∀kk,ks[i]?=some kk->v=.bl (decide (V.str kk=V.str (Wb w)))) (fun _ _ _ _ _ q=>q) ?_ ?_
   ·intro i x G N hx sG hN;rw[mU] at hx;obtain⟨kk,e1,rfl⟩:=oU.mp hx;exact⟨_,rfl,_,rfl,rfl,hN _ _ (.refl _) (fun k2 e2=>by rw[e1] at e2;cases e2;rw[ew])⟩
   intro H2 ys hys s2 hyl hyv;rw[mM] at hyl;have ey:=map_at (f:=fun kk=>V.bl (decide (V.str kk=V.str (Wb w)))) hyl hyv;have ey2:ys=(ks.map fun kk=>decide (V.str kk=V.str (Wb w))).map V.bl:=by rw[ey,mZ];rfl
   rw[ey2] at hys;have s12:=s1.trans s2;refine⟨D,_,rfl,rS hys,?_⟩;have q0:=fun H' s'=>k H' s';unfold bkS at q0;cases hb:(ks.map fun kk=>decide (V.str kk=V.str (Wb w))).all id with
   |false=>
    rw[hb,if_neg nh] at q0;exact⟨_,rfl,YM (q0 _ s12)⟩
   |true=>
    rw[hb,if_pos rfl] at q0;refine⟨_,rfl,Z6 ?_⟩;refine⟨_,rfl,sz7,fun q2 hq2=>⟨q2,_,rfl,.inr (rT Ze),rfl,rfl,_,rfl,?_⟩⟩;have s3:=Zj (o:=.tup [.str "yes",.str "sign",.str "not",.str "and",.str "or",.str "all",.str "some"]) hq2;generalize upd H2 q2 (.tup [.str "yes",.str "sign",.str "not",.str "and",.str "or",.str "all",.str "some"])=H3 at s3 ⊢;have s13:=s12.trans s3
    by_cases h1:w∈(["yes", "sign", "not", "and", "or", "all", "some"]:List Str)
    ·rw[if_pos h1] at q0;exact Uy (ss:=["yes", "sign", "not", "and", "or", "all", "some"]) h1 (q0 _ s13)
    ·rw[if_neg h1] at q0;refine X7 (ss:=["yes", "sign", "not", "and", "or", "all", "some"]) h1 ?_;refine⟨_,rfl,a.Y_WAY_WORDS,_,rfl,.inr (T.y_WAY_WORDS _),rfl,rfl,_,rfl,?_⟩
     by_cases h2:w∈(["next", "until", "always", "ever", "within"]:List Str)
     ·rw[if_pos h2] at q0;exact Uy (ss:=["next", "until", "always", "ever", "within"]) h2 (q0 _ s13)
     ·rw[if_neg h2] at q0;exact X7 (ss:=["next", "until", "always", "ever", "within"]) h2 (q0 _ s13)
  refine⟨_,rfl,sz2,fun q hq=>⟨q,_,rfl,.inr (rT Ze),rfl,rfl,_,rfl,?_⟩⟩;have s1:=Zj (o:=.tup [.str "all",.str "some"]) hq;generalize upd H q (.tup [.str "all",.str "some"])=H1 at s1 ⊢
  by_cases h0:w∈(["all", "some"]:List Str)
  case pos=>refine Uy (ss:=["all", "some"]) h0 ?_;have ew:Wb w = "way" := if_pos h0;exact WG "way" H1 s1 ew
  case neg=>refine X7 (ss:=["all", "some"]) h0 ?_;have ew:Wb w = "room" := if_neg h0;exact WG "room" H1 s1 ew
theorem dpS{K:W.Frag}{H:Hp}{b:Addr}{bs:List Str}(h:H b=some (.lst (bs.map V.str))):Dp K H (.ref b) (dS bs):=.lst (rS h) (qW (fun x=>.str x) bs)
def zb(K:W.Frag)(a:Adr):Sp:=fun vs H Q _=>∃(L:Addr) (us:List V) (n:Nat) (t:Tr),vs=[.ref L]/\H L=some (.lst us)/\AtL K n H us (post t)/\(post t).length<=100000/\bkT t = "room" /\ ∀H',Zf H H'->Q .non H'
theorem qV(T:Txt K mg a)(hw:w.params=a.Pm):Ye P w K mg base CX0 2 a.refuse_others a.bi ["row"] (zb K a):=by
 have fD:=UV (P:=P) (w:=w) (base:=base) T hw;have cY:=V9 (P:=P) (w:=w) (base:=base) T hw;have iw:=zW (P:=P) (w:=w) (base:=base) T hw;refine T.ck.ok X4 (fun vs H Q E h=>?_) (fun lD A outer s H vs Q E hr h=>?_)
 ·obtain⟨L,us,n,t,rfl,_⟩:=h;rfl
 ·obtain⟨L,us,n,t,rfl,eL,aL,hz,c,kq⟩:=h;refine⟨_,(@Za _ _ _ _ _ (@Zi _ _ (1) _ _ _ _ X4.nd rfl (Or.inl rfl) (@ZW _ _ _ _ XH) (by rfl) (.inl rfl)) (@Za _ _ _ _ _ (Xo nB rfl (ZC (K:=K) rfl (pv 0)) (Zh (i:=2) X4.nd rfl (Or.inl rfl)) (@Za _ _ _ _ _ (@Zi _ _ (3) _ _ _ _ X4.nd rfl (Or.inl rfl) (Zl fD (hr.mono (by decide)) rfl T.fk T.dg.kp T.fj .nil Zs (@Zr _ _ _ _ _ (pv 1) (@Zc _ _ _ (Zm (ZI (K:=K) rfl) rfl T.aX rW (@Zc _ _ _ (Zl cY (hr.mono (by decide)) rfl T.eT T.cP.kp T.eQ .nil Zs (@Zc _ _ _ (pv 2) (by rfl))) (by rfl))) (by rfl)) (by rfl))) (by rfl) (.inl rfl)) (@Zg _ _ _ (@Xc _ _ _ _ (WT nS oh oi Yg (pv 1) (@Zc _ _ _ (Zl iw (hr.mono (by decide)) rfl T.fG T.dj.kp T.fF .nil Zs (@Zr _ _ _ _ _ (@Zn _ _ _ _ _ _ _ (ZB (K:=K) rfl) (pv 2) Zd (fun _ _=>rfl)) (@Zc _ _ _ (pv 3) (by rfl)) (by rfl))) (by rfl))) (by rfl))))) (@Zg _ _ _ (@ZN _ _ _ _ _ _ _ _ (@Zp _ _ _ _ _ _ _ _ (qg (K:=K) rfl (Xx.units hr)) (pv 1) (@ZW _ _ _ _ (@Zc _ _ _ Zx (by rfl))) (Zw _)) (@Zg _ _ _ yB) Zu)))),?_⟩;refine⟨by decide,fun F hF=>?_⟩;obtain⟨H1,qN,s1,e1⟩:=ZV (o:=.lst []) hF;rw[qN];have nLF:L≠F:=fun e=>by rw[e,hF] at eL;cases eL
  have eL:=s1 _ _ eL;have aL:=aL.mono (rV s1);obtain⟨ok0,run0⟩:=run_all (F:=bkF) t;have hul:=aL.1;refine⟨_,rfl,L,rfl,⟨_,rS eL⟩,?_⟩;refine XX (K:=K) (xs:=us) (fun i σ H'=>∃(z1 z2:Option V) (st:List Str),σ=[some (.ref L),some (.ref F),z1,z2]/\ZJ F H1 H'/\H' F=some (.lst (st.map V.str))/\U1 bkF st ((post t).drop i)/\zC bkF st ((post t).drop i)=[bkT t]/\st.length<=i) ?_ ?_ ?_ ?_
  ·exact⟨_,_,[],rfl,.refl _,e1,ok0,run0,mP _⟩
  ·rintro i σ H' hi ⟨z1,z2,st,rfl,x',_⟩;exact rS (x' _ _ nLF eL)
  ·rintro i x σ H3 hx ⟨z1,z2,st,rfl,x3,hF3,ok3,run3,hst⟩;have hi:i<us.length:=(nT.mp hx).1;have hi2:i<(post t).length:=by omega
   have t23:XA H1 H3:=ZJ.tup x3 e1;have at3:=(aL.2 i x _ hx (mO hi2)).mono t23;rw[rQ hi2] at ok3 run3;obtain⟨⟨okl,_⟩,okr⟩:=ok3;have runr:zC bkF (Vj bkF st (post t)[i]) ((post t).drop (i+1))=[bkT t]:=run3;generalize (post t)[i]=r at at3 okl okr runr;cases n with
   |zero=>exact at3.elim
   |succ n=>
   obtain⟨ad7,ks,eu7,sh7,ok7,hl7,hq7⟩:=id at3;refine⟨_,rfl,_,rfl,x,ad7,ks,r.lb,rfl,eu7,sh7,by rw[hl7];exact ok7.b,fun H4 b s4 eb=>.inl ⟨b,_,rfl,.inr (eb),?_⟩⟩;have aK:AtL K n H4 ks r.ks:=AtL.mono (rV s4) ⟨hl7,hq7⟩;have hkl:=aK.1;have hF4:=s4 _ _ hF3;refine⟨F,st.map V.str,ks.length,rfl,hF4,by rw[mM,hkl];exact okl,fun H5 l x5 hF5 l0 hl5=>?_⟩;have nlF:l≠F:=fun e=>by rw[e,hF4] at l0;cases l0
   have t45:XA H4 H5:=ZJ.tup x5 hF4;rw[mM,<- List.map_take] at hF5;rw[mM,<- List.map_drop] at hl5;obtain⟨ad,us2,rfl,sh,okc,_,_⟩:=at3.mono ((rV s4).trans t45);obtain⟨xs2,ex2⟩:=sh.tup;refine⟨_,rfl,.inl ⟨rfl,_,rS hF5⟩,_,rfl,ad,_,_,_,rfl,rfl,ex2,Zt (j:=0) rfl,_,rfl,WR r.lb,l,_,rfl,hl5,by rw[pw];omega,fun H6 s6=>?_⟩;have hF6:=s6 _ _ hF5;refine⟨F,_,_,rfl,rfl,hF6,by rw[mM,nW,mN];omega,?_⟩;refine⟨_,_,Vj bkF st r,rfl,((x3.trans (Zf.x s4)).trans (x5.trans (Zf.x s6))).upd,?_,okr,runr,?_⟩
   ·rw[Ze,hkl];unfold Vj;rw[nP];rfl
   ·unfold Vj;rw[mT,nW];simp;omega
  rintro σ H3 ⟨z1,z2,st,rfl,x3,hF3,ok3,run3,hst⟩;rw[List.drop_eq_nil_of_le (by omega)] at run3;have est:st=[bkT t]:=run3;subst est;refine⟨_,rfl,sz1,fun R hR=>?_⟩;obtain⟨H4,qN,s4,e4⟩:=ZV (o:=.lst ((["room"]:List Str).map V.str)) hR;have qN':upd H3 R (.lst [.str "room"])=H4:=qN;rw[qN'];clear qN qN';have sF:Zf H H4:=(((Zf.x s1).trans x3).same hF).trans s4;rw[c] at hF3;exact neD_no (fineS (ss:=["room"]) (by decide +kernel)) (by decide) (dpS (s4 _ _ hF3)) (dpS e4) ⟨_,rfl,Z6 (kq _ sF)⟩
def js(K:W.Frag)(a:Adr):Sp:=fun vs H Q _=>∃x,vs=[x]/\Kd H x/\Q (.bl (jh x)) H
theorem zp(T:Txt K mg a)(hw:w.params=a.Pm):Ye P w K mg base CX0 1 a.is_whole a.cZ lF (js K a):=by
 refine T.eJ.ok jM (fun vs H Q E h=>?_) (fun lD A outer s H vs Q E hr h=>?_)
 ·obtain⟨x,rfl,_⟩:=h;rfl
 ·obtain⟨x,rfl,hk,k⟩:=h;refine⟨_,(@Zg _ _ _ (@Zq _ _ _ _ (YD (Zm (Wk (K:=K) rfl "int") rfl T.al r8 (@Zr _ _ _ _ _ (pv 0) (@Zc _ _ _ (WK (v:=.ty "int") rfl T.i7 PyProof.Rows.Boot.«int» rfl) (by rfl)) (by rfl))) (Yr (Wr (Zm (Wk (K:=K) rfl "bool") rfl T.al r8 (@Zr _ _ _ _ _ (pv 0) (@Zc _ _ _ (WK (v:=.ty "bool") rfl T.i6 PyProof.Rows.Boot.«bool» rfl) (by rfl)) (by rfl)))))))),?_⟩;cases hb:XY H "int" x with
  |false=>
   obtain⟨t,h1,h2⟩:=WQ K (by simp) hk hb;have e:jh x=false:=by cases hk<;>first|rfl|(simp[XY] at hb)
   rw[e] at k;exact⟨_,rfl,_,t,_,rfl,h1,h2,_,rfl,Z6 k⟩
  |true=>
   obtain⟨t,h1,h2⟩:=WQ K (by simp) hk hb;obtain⟨u,h3,h4⟩:=WQ K (T := "bool") (by simp) hk rfl;have e:jh x = !XY H "bool" x:=by
    cases hk with
    |lst e=>simp[XY,e] at hb
    |tup e=>simp[XY,e] at hb
    |dK e=>simp[XY,e] at hb
    |non=>simp[XY] at hb
    |str z hz=>simp[XY] at hb
    |bl b=>rfl
    |int i=>rfl
   rw[e] at k;exact⟨_,rfl,_,t,_,rfl,h1,h2,_,rfl,YM ⟨_,rfl,_,u,_,rfl,h3,h4,_,rfl,k⟩⟩
def kM(K:W.Frag)(a:Adr):Sp:=fun vs H Q _=>∃x,vs=[x]/\Kd H x/\∀H',Zf H H'->Q (.bl (XO x)) H'
theorem ym(T:Txt K mg a)(hw:w.params=a.Pm):Ye P w K mg base CX0 1 a.is_name a.eu lF (kM K a):=by
 refine T.fE.ok kX (fun vs H Q E h=>?_) (fun lD A outer s H vs Q E hr h=>?_)
 ·obtain⟨x,rfl,_⟩:=h;rfl
 ·obtain⟨x,rfl,hk,k⟩:=h;refine⟨_,(@Za _ _ _ _ _ (@ZN _ _ _ _ _ _ _ _ (PW.pt (U8 (@Wa _ _ _ _ (XG (Zm (Wk (K:=K) rfl "str") rfl T.al r8 (@Zr _ _ _ _ _ (pv 0) (@Zc _ _ _ (WK (v:=.ty "str") rfl T.i8 PyProof.Rows.Boot.«str» rfl) (by rfl)) (by rfl))))) (V0 (@Wa _ _ _ _ (jy zn zn Zd (Zm (ZI (K:=K) rfl) rfl T.aX rW (@Zc _ _ _ (pv 0) (by rfl))) (UZ rfl T.fc)))))) (@Zg _ _ _ (@Zq _ _ _ _ Wv)) Zu) (@Zg _ _ _ (@Zq _ _ _ _ (Zm (X3 (K:=K) rfl rfl) rfl T.hV r6 (@Zc _ _ _ (Zv (Nc:=["letter"]) (ix:=[none]) (ZA.of (by decide +kernel:ZD (Zb Wl) ["thing"] ["letter"] [none] _=true)) rfl (pi_str (pv 0)) (fun _ _ _ _ _=>(Zh (i:=0) (show List.Nodup (["letter"]:List Str) by decide +kernel) rfl (Or.inl rfl))) (fun _ _ _ _ _=>ZF) (fun _ _ _ _ _=>(@YQ _ _ _ _ _ _ _ _ op_in_str (pv 0) (UZ rfl T.iG) (by with_unfolding_all rfl)))) (by rfl)))))),?_⟩;rcases kd_str hk with⟨hb,z,rfl,hz⟩|⟨hb,e⟩
  ·obtain⟨t,h1,h2⟩:=WQ K (by simp) hk hb;refine⟨_,rfl,_,t,_,rfl,h1,h2,_,rfl,Z6 ?_⟩;refine⟨_,rfl,.inr (.inl ⟨z,rfl,by rw[mN];omega,_,_,rfl,rfl,_,rfl,?_⟩)⟩;have fin:decide (1<=(z.length:Int))=true->decide ((z.length:Int)<=8)=true->XO (.str z)=z.cps.toList.all zj:=fun a b=>by
    have a':=ny a;have b':=ny b;have a2:1<=z.length:=by omega
    have b2:z.length<=8:=by omega
    simp[XO,Yh,a2,b2]
   have nof:¬((1:Int)<=z.length/\(z.length:Int)<=8)->XO (.str z)=false:=fun q=>by
    have:¬(1<=z.length/\z.length<=8):=by omega
    simp only[XO,Yh]
    by_cases h1:1<=z.length
    ·have h2:¬z.length<=8:=fun h2=>this ⟨h1,h2⟩;simp[h1,h2]
    ·simp[h1]
   refine XS (fun c1=>?_) (fun c1=>?_)
   ·refine⟨_,_,rfl,rfl,_,rfl,?_⟩;cases c2:decide ((z.length:Int)<=8) with
    |false=>
     refine YM ?_;have q:=k H (.refl H);rw[nof (fun q=>by have:=rB c2;omega)] at q;exact q
    |true=>
     refine Z6 ⟨_,rfl,z,rfl,fun D hD=>?_⟩;refine Xy (J:=Its z) (n:=z.cps.size) (fun i σ H'=>Zf H H'/\H' D=some (.lst ((z.cps.toList.take i).map fun c=>V.bl (zj c)))/\∃y,σ=[y]) ?_ (fun i σ H' hi _=>hi) (fun σ H' _=>mP _) ?_ ?_
     ·exact⟨Zj hD,Ze,_,rfl⟩
     ·rintro i x σ H' H2 hi ⟨sm,hl,y,rfl⟩ ⟨rfl,c,hc,rfl⟩ N N0 hN hN0;refine⟨_,rfl,_,_,rfl,rfl,?_⟩;have el:=PySem.StrLaws.found_one ("abcdefghijklmnopqrstuvwxyz" : Str) c;refine hN _ _ _ _ hl (by rw[mM,nW,mN];have:z.cps.size=z.length:=rfl;omega) ⟨(ZJ.upd (Zf.x sm)).same hD,?_,_,rfl⟩;have hc':z.cps.toList[i]?=some c:=by rw[p8];exact hc
      rw[Ze,List.take_add_one,hc',nP];refine ni (fun b=>some (HO.lst (_++[V.bl b]))) ?_;rw[<- jE];exact el
     ·rintro σ H' ⟨sm,hl,y,rfl⟩;have et:z.cps.toList.take z.cps.size=z.cps.toList:=by rw[<- oV];exact oy
      rw[et] at hl;have q:=k H' sm;rw[fin c1 c2,<- yG] at q;exact⟨D,z.cps.toList.map zj,rfl,rS (by rw[hl,mZ];rfl),q⟩
   ·refine⟨_,rfl,YM ?_⟩;have q:=k H (.refl H);rw[nof (fun q=>c1 (nG q.1))] at q;exact q
  ·obtain⟨t,h1,h2⟩:=WQ K (by simp) hk hb;have q:=k H (.refl H);rw[e] at q;exact⟨_,rfl,_,t,_,rfl,h1,h2,_,rfl,YM (YM q)⟩
def kI(K:W.Frag)(a:Adr):Sp:=fun vs H Q _=>∃x n,vs=[x,.int n]/\Kd H x/\Q (.bl (Xu n x)) H
theorem kK(T:Txt K mg a)(hw:w.params=a.Pm):Ye P w K mg base CX0 2 a.is_room a.eB lJ (kI K a):=by
 have gg:=zp (P:=P) (w:=w) (base:=base) T hw;refine T.gG.ok kP (fun vs H Q E h=>?_) (fun lD A outer s H vs Q E hr h=>?_)
 ·obtain⟨x,n,rfl,_⟩:=h;rfl
 ·obtain⟨x,n,rfl,hk,k⟩:=h;refine⟨_,(@Zg _ _ _ (@Zq _ _ _ _ (YD (Zl gg (hr.mono (by decide)) rfl T.fW T.eJ.kp T.fV .nil Zs (@Zc _ _ _ (pv 0) (by rfl))) (Yr (jw zn op_lt Zd (pv 0) (pv 1)))))),?_⟩;refine⟨_,rfl,x,rfl,hk,_,rfl,?_⟩;cases x with
  |int i=>
   refine YM ⟨_,rfl,_,_,rfl,rfl,_,rfl,?_⟩;cases c1:decide (0<=i) with
   |true=>
    refine YM ⟨_,rfl,_,_,rfl,rfl,?_⟩;have e:Xu n (.int i)=decide (i<n):=by simp only[Xu,c1,Bool.true_and]
    rw[e] at k;exact k
   |false=>
    have e:Xu n (.int i)=false:=by simp only[Xu,c1,Bool.false_and]
    rw[e] at k;exact Z6 k
  |_=>exact Z6 k
def jo(K:W.Frag)(a:Adr):Sp:=fun vs H Q _=>∃(v:V) (b:Bool),vs=[v]/\((b=true/\FmT K H v)\/(b=false/\Fm K H v))/\∀H',Zf H H'->Q (.bl b) H'
theorem nw_of:∀w∈(["signs", "Next"]:List Str),w ≠ "yes" /\ w ≠ "sign" /\ w∉(["and", "or"]:List Str)/\w ≠ "within" := by decide +kernel
theorem nwx{w:Str}(h:w∉NW):w ≠ "yes" /\ w ≠ "sign" /\ w∉(["and", "or"]:List Str)/\w ≠ "within" := by
 refine⟨fun e=>h (by rw[e];simp),fun e=>h (by rw[e];simp),fun e=>h ?_,fun e=>h (by rw[e];simp)⟩;simp at e;rcases e with rfl|rfl<;>simp
theorem vi(T:Txt K mg a)(hw:w.params=a.Pm):Ye P w K mg base CX0 2 a.is_formed a.cB lF (jo K a):=by
 have gg:=zp (P:=P) (w:=w) (base:=base) T hw;have gX:=ym (P:=P) (w:=w) (base:=base) T hw;refine T.fm.ok U5 (fun vs H Q E h=>?_) (fun lD A outer s H vs Q E hr h=>?_)
 ·obtain⟨v,b,rfl,_⟩:=h;rfl
 ·obtain⟨v,b,rfl,hb,k⟩:=h;refine⟨_,(@Za _ _ _ _ _ (@ZN _ _ _ _ _ _ _ _ (PW.pt (U8 (@Wa _ _ _ _ (XG (Zm (j7 (K:=K) rfl) rfl T.al r8 (@Zr _ _ _ _ _ (pv 0) (@Zc _ _ _ (WK (v:=.ty "tuple") rfl T.cr rZ rfl) (by rfl)) (by rfl))))) (U8 (@Zp _ _ _ _ _ _ _ _ ZU (Zm (ZI (K:=K) rfl) rfl T.aX rW (@Zc _ _ _ (pv 0) (by rfl))) Zd (Zw _)) (V0 (@Wa _ _ _ _ (XG (Zm (Wk (K:=K) rfl "str") rfl T.al r8 (@Zr _ _ _ _ _ (@Zn _ _ _ _ _ _ _ (ZB (K:=K) rfl) (pv 0) Zd (fun _ _=>rfl)) (@Zc _ _ _ (WK (v:=.ty "str") rfl T.i8 PyProof.Rows.Boot.«str» rfl) (by rfl)) (by rfl))))))))) (@Zg _ _ _ (@Zq _ _ _ _ Wv)) Zu) (@Za _ _ _ _ _ (@Zi _ _ (1) _ _ _ _ U5.nd rfl (Or.inl rfl) (@Zn _ _ _ _ _ _ _ (ZB (K:=K) rfl) (pv 0) Zd (fun _ _=>rfl)) (by rfl) (.inl rfl)) (@Za _ _ _ _ _ (@ZN _ _ _ _ _ _ _ _ (@Zp _ _ _ _ _ _ _ _ ZU (pv 1) Zx (Zw _)) (@Zg _ _ _ (@Zq _ _ _ _ (@YQ _ _ _ _ _ _ _ _ ZU (Zm (ZI (K:=K) rfl) rfl T.aX rW (@Zc _ _ _ (pv 0) (by rfl))) Zd (Zw _)))) Zu) (@Za _ _ _ _ _ (@ZN _ _ _ _ _ _ _ _ (@Zp _ _ _ _ _ _ _ _ ZU (pv 1) Zx (Zw _)) (@Zg _ _ _ (@Zq _ _ _ _ (YD (@YQ _ _ _ _ _ _ _ _ ZU (Zm (ZI (K:=K) rfl) rfl T.aX rW (@Zc _ _ _ (pv 0) (by rfl))) Zd (Zw _)) (Yr (Zl gX (hr.mono (by decide)) rfl T.gF T.fE.kp T.gE .nil Zs (@Zc _ _ _ (@Zn _ _ _ _ _ _ _ (ZB (K:=K) rfl) (pv 0) Zd (fun _ _=>rfl)) (by rfl))))))) Zu) (@Za _ _ _ _ _ (@ZN _ _ _ _ _ _ _ _ (@Zp _ _ _ _ _ _ _ _ (WC (K:=K) rfl) (pv 1) (@Yv _ _ _ _ _ (@Zr _ _ _ _ _ Zx (@Zc _ _ _ Zx (by rfl)) (by rfl))) (by with_unfolding_all rfl)) (@Zg _ _ _ (@Zq _ _ _ _ (YD (@YQ _ _ _ _ _ _ _ _ ZU (Zm (ZI (K:=K) rfl) rfl T.aX rW (@Zc _ _ _ (pv 0) (by rfl))) Zd (Zw _)) (Yr (Zm (j7 (K:=K) rfl) rfl T.al r8 (@Zr _ _ _ _ _ (@Zn _ _ _ _ _ _ _ (ZB (K:=K) rfl) (pv 0) Zd (fun _ _=>rfl)) (@Zc _ _ _ (WK (v:=.ty "tuple") rfl T.cr rZ rfl) (by rfl)) (by rfl))))))) Zu) (@Za _ _ _ _ _ (@ZN _ _ _ _ _ _ _ _ (@Zp _ _ _ _ _ _ _ _ ZU (pv 1) Zx (Zw _)) (@Zg _ _ _ (@Zq _ _ _ _ (YD (@YQ _ _ _ _ _ _ _ _ ZU (Zm (ZI (K:=K) rfl) rfl T.aX rW (@Zc _ _ _ (pv 0) (by rfl))) Zd (Zw _)) (YD (Zl gg (hr.mono (by decide)) rfl T.fW T.eJ.kp T.fV .nil Zs (@Zc _ _ _ (@Zn _ _ _ _ _ _ _ (ZB (K:=K) rfl) (pv 0) Zd (fun _ _=>rfl)) (by rfl))) (Yr (jw zn zn Zd (@Zn _ _ _ _ _ _ _ (ZB (K:=K) rfl) (pv 0) Zd (fun _ _=>rfl)) (UZ rfl T.fR))))))) Zu) (@Zg _ _ _ (@Zq _ _ _ _ (YD (@YQ _ _ _ _ _ _ _ _ (op_inD2 (K:=K) (P:=a.Pm) rfl hw) (pv 1) (UZ (v:=.ref a.D_LENGTHS) rfl ⟨_,T.gT,rfl⟩) (by with_unfolding_all rfl)) (Yr (@YQ _ _ _ _ _ _ _ _ ZU (Zm (ZI (K:=K) rfl) rfl T.aX rW (@Zc _ _ _ (pv 0) (by rfl))) (@Zn _ _ _ _ _ _ _ (ix_dic (K:=K) (P:=a.Pm) rfl hw) (UZ (v:=.ref a.D_LENGTHS) rfl ⟨_,T.gT,rfl⟩) (pv 1) (fun _ _=>rfl)) (Zw _)))))))))))),?_⟩;rcases hb with⟨rfl,hT⟩|⟨rfl,hF⟩
  ·obtain⟨ad,us,c,rfl,sh,ok⟩:=hT;obtain⟨xs,e⟩:=sh.tup;obtain⟨ty2,c3,c4⟩:=W8 (K:=K) (H:=H) (WR c);refine⟨_,rfl,_,rfl,.inl ⟨ad,_,rfl,e,_,rfl,Z6 ?_⟩⟩;refine⟨_,rfl,.inl ⟨ad,_,rfl,.inr e,rfl,_,rfl,ZK (fun z=>by have:=V.int.inj z;simp at this<;>omega) ?_⟩⟩;refine⟨_,rfl,ad,_,_,_,rfl,rfl,e,Zt (j:=0) rfl,_,ty2,_,rfl,c3,c4,_,rfl,Z6 ?_⟩;refine⟨_,rfl,ad,_,_,_,rfl,rfl,e,Zt (j:=0) rfl,?_⟩;clear e c3 c4 ty2 xs
   revert sh ok
   cases c with
   |yes=>
    intro sh ok;refine⟨_,rfl,rfl,_,rfl,YZ rfl ?_⟩;exact⟨_,rfl,.inl ⟨ad,_,rfl,.inr (sh.2),rfl,qD (by rfl) (k _ (.refl _))⟩⟩
   |sign z=>
    intro sh ok;refine⟨_,rfl,rfl,_,rfl,ZK (fun z=>(by decide +kernel:¬(("sign" : Str) = "yes")) (V.str.inj z)) ?_⟩;refine⟨_,rfl,rfl,_,rfl,YZ rfl ?_⟩;refine⟨_,rfl,.inl ⟨ad,_,rfl,.inr (sh.2),rfl,_,rfl,YZ (by rfl) ?_⟩⟩;refine⟨_,rfl,ad,_,_,_,rfl,rfl,sh.2,Zt (j:=1) rfl,.str z,rfl,.str z (nQ (yz ok.2) (by decide)),fun H' s'=>?_⟩;have e:XO (.str z)=true:=ok.2;rw[e];exact k H' s'
   |op w=>
    intro sh ok;obtain⟨h1,h2,h3,h4,_⟩:=jB w (by rcases ok with ok|ok;exact oB _ ok.1;exact nU _ ok.1);refine⟨_,rfl,rfl,_,rfl,ZK (fun z=>h1 (V.str.inj z)) ?_⟩;refine⟨_,rfl,rfl,_,rfl,ZK (fun z=>h2 (V.str.inj z)) ?_⟩;refine⟨_,rfl,by rw[mN];simp,fun q hq2=>⟨q,_,rfl,.inr (rT Ze),rfl,rfl,_,rfl,X7 (ss:=["and", "or"]) h3 ?_⟩⟩;have s1:=Zj (o:=.tup [.str "and",.str "or"]) hq2;have e1:=rV s1 K _ _ sh;generalize upd H q (.tup [.str "and",.str "or"])=H1 at s1 e1 ⊢;refine⟨_,rfl,rfl,_,rfl,ZK (fun z=>h4 (V.str.inj z)) ?_⟩;obtain⟨i,hm,hi⟩:∃i:Int,(w,i)∈LK/\((us.length+1:Nat):Int)=i:=by
     rcases ok with⟨ok,o2⟩|⟨ok,o2⟩
     ·exact⟨2,lk1 w ok,by omega⟩
     ·exact⟨3,lk2 w ok,by omega⟩
    refine⟨_,rfl,w,_,_,true,rfl,rfl,T.cW,.inl ⟨rfl,i,hm⟩,_,rfl,YM ⟨_,rfl,.inl ⟨ad,_,rfl,.inr (e1),_,rfl,_,w,_,i,rfl,rfl,T.cW,hm,rfl,qD (ni V.int hi) (k _ s1)⟩⟩⟩
   |wit m=>
    intro sh ok;refine⟨_,rfl,rfl,_,rfl,ZK (fun z=>(by decide +kernel:¬(("within" : Str) = "yes")) (V.str.inj z)) ?_⟩;refine⟨_,rfl,rfl,_,rfl,ZK (fun z=>(by decide +kernel:¬(("within" : Str) = "sign")) (V.str.inj z)) ?_⟩;refine⟨_,rfl,by rw[mN];simp,fun q hq2=>⟨q,_,rfl,.inr (rT Ze),rfl,rfl,_,rfl,X7 (ss:=["and", "or"]) (show("within" : Str)∉(["and", "or"]:List Str) by decide +kernel) ?_⟩⟩;have s1:=Zj (o:=.tup [.str "and",.str "or"]) hq2;have e1:=rV s1 K _ _ sh;generalize upd H q (.tup [.str "and",.str "or"])=H1 at s1 e1 ⊢;refine⟨_,rfl,rfl,_,rfl,YZ rfl ?_⟩;have hu:us.length=2:=ok.2;refine⟨_,rfl,.inl ⟨ad,_,rfl,.inr (e1),rfl,_,rfl,YZ (ni V.int (by simp[hu])) ?_⟩⟩;refine⟨_,rfl,ad,_,_,_,rfl,rfl,e1,Zt (j:=1) rfl,.int m,rfl,.int m,_,rfl,YM ?_⟩;exact⟨_,rfl,ad,_,_,_,rfl,rfl,e1,Zt (j:=1) rfl,_,_,rfl,rfl,_,rfl,YZ ok.1.1 ⟨_,_,rfl,rfl,qD ok.1.2 (k _ s1)⟩⟩
   |many w=>
    intro sh ok;obtain⟨b,sh1,sh2⟩:=sh;have hw0:w∈(["and", "or"]:List Str):=by rcases ok.1 with rfl|rfl<;>simp
    obtain⟨h1,h2,h3,_⟩:=VC w hw0;refine⟨_,rfl,rfl,_,rfl,ZK (fun z=>h1 (V.str.inj z)) ?_⟩;refine⟨_,rfl,rfl,_,rfl,ZK (fun z=>h2 (V.str.inj z)) ?_⟩;refine⟨_,rfl,by rw[mN];simp,fun q hq2=>⟨q,_,rfl,.inr (rT Ze),rfl,rfl,_,rfl,Uy (ss:=["and", "or"]) hw0 ?_⟩⟩;have s1:=Zj (o:=.tup [.str "and",.str "or"]) hq2;have e1:=rV s1 K _ _ sh1;have e2:=rV s1 K _ _ sh2;generalize upd H q (.tup [.str "and",.str "or"])=H1 at s1 e1 e2 ⊢;exact⟨_,rfl,.inl ⟨ad,_,rfl,.inr (e1),rfl,_,rfl,YZ (by rfl) ⟨_,rfl,ad,_,_,_,rfl,rfl,e1,Zt (j:=1) rfl,_,rfl,.inl ⟨b,_,rfl,e2,k _ s1⟩⟩⟩⟩
  cases hF with
  |noT hk ht=>
   obtain⟨t,h1,h2⟩:=WQ K (by simp) hk ht;exact⟨_,rfl,_,rfl,.inr ⟨t,h1,h2,_,rfl,YM (k _ (.refl _))⟩⟩
  |@emp ad e=>
   refine⟨_,rfl,_,rfl,.inl ⟨ad,_,rfl,e,_,rfl,Z6 ?_⟩⟩;exact⟨_,rfl,.inl ⟨ad,_,rfl,.inr e,rfl,_,rfl,YZ rfl (k _ (.refl _))⟩⟩
  |@noS ad x xs e hk ht=>
   obtain⟨t,h1,h2⟩:=WQ K (by simp) hk ht;refine⟨_,rfl,_,rfl,.inl ⟨ad,_,rfl,e,_,rfl,Z6 ?_⟩⟩;refine⟨_,rfl,.inl ⟨ad,_,rfl,.inr e,rfl,_,rfl,ZK (fun z=>by have:=V.int.inj z;simp at this<;>omega) ?_⟩⟩;exact⟨_,rfl,ad,_,_,_,rfl,rfl,e,Zt (j:=0) rfl,_,t,_,rfl,h1,h2,_,rfl,YM (k _ (.refl _))⟩
  |@yes ad xs e hl=>
   obtain⟨ty2,c3,c4⟩:=W8 (K:=K) (H:=H) "yes";refine⟨_,rfl,_,rfl,.inl ⟨ad,_,rfl,e,_,rfl,Z6 ?_⟩⟩;refine⟨_,rfl,.inl ⟨ad,_,rfl,.inr e,rfl,_,rfl,ZK (fun z=>by have:=V.int.inj z;simp at this<;>omega) ?_⟩⟩;refine⟨_,rfl,ad,_,_,_,rfl,rfl,e,Zt (j:=0) rfl,_,ty2,_,rfl,c3,c4,_,rfl,Z6 ?_⟩;refine⟨_,rfl,ad,_,_,_,rfl,rfl,e,Zt (j:=0) rfl,?_⟩;refine⟨_,rfl,rfl,_,rfl,YZ rfl ?_⟩;exact⟨_,rfl,.inl ⟨ad,_,rfl,.inr e,rfl,qN (fun z=>by have:=V.int.inj z;simp at this<;>omega) (k _ (.refl _))⟩⟩
  |@sgnL ad xs e hl=>
   obtain⟨ty2,c3,c4⟩:=W8 (K:=K) (H:=H) "sign";refine⟨_,rfl,_,rfl,.inl ⟨ad,_,rfl,e,_,rfl,Z6 ?_⟩⟩;refine⟨_,rfl,.inl ⟨ad,_,rfl,.inr e,rfl,_,rfl,ZK (fun z=>by have:=V.int.inj z;simp at this<;>omega) ?_⟩⟩;refine⟨_,rfl,ad,_,_,_,rfl,rfl,e,Zt (j:=0) rfl,_,ty2,_,rfl,c3,c4,_,rfl,Z6 ?_⟩;refine⟨_,rfl,ad,_,_,_,rfl,rfl,e,Zt (j:=0) rfl,?_⟩;refine⟨_,rfl,rfl,_,rfl,ZK (fun z=>(by decide +kernel:¬(("sign" : Str) = "yes")) (V.str.inj z)) ?_⟩;refine⟨_,rfl,rfl,_,rfl,YZ rfl ?_⟩;exact⟨_,rfl,.inl ⟨ad,_,rfl,.inr e,rfl,_,rfl,ZK (fun z=>by have:=V.int.inj z;simp at this<;>omega) (k _ (.refl _))⟩⟩
  |@sgn ad x e hk hx=>
   obtain⟨ty2,c3,c4⟩:=W8 (K:=K) (H:=H) "sign";refine⟨_,rfl,_,rfl,.inl ⟨ad,_,rfl,e,_,rfl,Z6 ?_⟩⟩;refine⟨_,rfl,.inl ⟨ad,_,rfl,.inr e,rfl,_,rfl,ZK (fun z=>by have:=V.int.inj z;simp at this<;>omega) ?_⟩⟩;refine⟨_,rfl,ad,_,_,_,rfl,rfl,e,Zt (j:=0) rfl,_,ty2,_,rfl,c3,c4,_,rfl,Z6 ?_⟩;refine⟨_,rfl,ad,_,_,_,rfl,rfl,e,Zt (j:=0) rfl,?_⟩;refine⟨_,rfl,rfl,_,rfl,ZK (fun z=>(by decide +kernel:¬(("sign" : Str) = "yes")) (V.str.inj z)) ?_⟩;refine⟨_,rfl,rfl,_,rfl,YZ rfl ?_⟩;refine⟨_,rfl,.inl ⟨ad,_,rfl,.inr e,rfl,_,rfl,YZ (by rfl) ?_⟩⟩;refine⟨_,rfl,ad,_,_,_,rfl,rfl,e,Zt (j:=1) rfl,x,rfl,hk,fun H' s'=>?_⟩;rw[hx];exact k H' s'
  |@manyL ad w xs hw0 e hl=>
   obtain⟨h1,h2,h3,_⟩:=VC w hw0;obtain⟨ty2,c3,c4⟩:=W8 (K:=K) (H:=H) w;refine⟨_,rfl,_,rfl,.inl ⟨ad,_,rfl,e,_,rfl,Z6 ?_⟩⟩;refine⟨_,rfl,.inl ⟨ad,_,rfl,.inr e,rfl,_,rfl,ZK (fun z=>by have:=V.int.inj z;simp at this<;>omega) ?_⟩⟩;refine⟨_,rfl,ad,_,_,_,rfl,rfl,e,Zt (j:=0) rfl,_,ty2,_,rfl,c3,c4,_,rfl,Z6 ?_⟩;refine⟨_,rfl,ad,_,_,_,rfl,rfl,e,Zt (j:=0) rfl,?_⟩;refine⟨_,rfl,rfl,_,rfl,ZK (fun z=>h1 (V.str.inj z)) ?_⟩;refine⟨_,rfl,rfl,_,rfl,ZK (fun z=>h2 (V.str.inj z)) ?_⟩;refine⟨_,rfl,by rw[mN];simp,fun q hq2=>⟨q,_,rfl,.inr (rT Ze),rfl,rfl,_,rfl,Uy (ss:=["and", "or"]) hw0 ?_⟩⟩;have s1:=Zj (o:=.tup [.str "and",.str "or"]) hq2;have e1:=rV s1 K _ _ e;generalize upd H q (.tup [.str "and",.str "or"])=H1 at s1 e1 ⊢;exact⟨_,rfl,.inl ⟨ad,_,rfl,.inr (e1),rfl,_,rfl,ZK (fun z=>by have:=V.int.inj z;simp at this<;>omega) (k _ s1)⟩⟩
  |@manyN ad w x hw0 e hk ht=>
   obtain⟨h1,h2,h3,_⟩:=VC w hw0;obtain⟨ty2,c3,c4⟩:=W8 (K:=K) (H:=H) w;refine⟨_,rfl,_,rfl,.inl ⟨ad,_,rfl,e,_,rfl,Z6 ?_⟩⟩;refine⟨_,rfl,.inl ⟨ad,_,rfl,.inr e,rfl,_,rfl,ZK (fun z=>by have:=V.int.inj z;simp at this<;>omega) ?_⟩⟩;refine⟨_,rfl,ad,_,_,_,rfl,rfl,e,Zt (j:=0) rfl,_,ty2,_,rfl,c3,c4,_,rfl,Z6 ?_⟩;refine⟨_,rfl,ad,_,_,_,rfl,rfl,e,Zt (j:=0) rfl,?_⟩;refine⟨_,rfl,rfl,_,rfl,ZK (fun z=>h1 (V.str.inj z)) ?_⟩;refine⟨_,rfl,rfl,_,rfl,ZK (fun z=>h2 (V.str.inj z)) ?_⟩;refine⟨_,rfl,by rw[mN];simp,fun q hq2=>⟨q,_,rfl,.inr (rT Ze),rfl,rfl,_,rfl,Uy (ss:=["and", "or"]) hw0 ?_⟩⟩;have s1:=Zj (o:=.tup [.str "and",.str "or"]) hq2;have e1:=rV s1 K _ _ e;generalize upd H q (.tup [.str "and",.str "or"])=H1 at s1 e1 ⊢;obtain⟨t,h5,h6⟩:=WQ K (by simp) (hk.mono s1) ((isTy_same s1 hk).trans ht);exact⟨_,rfl,.inl ⟨ad,_,rfl,.inr (e1),rfl,_,rfl,YZ (by rfl) ⟨_,rfl,ad,_,_,_,rfl,rfl,e1,Zt (j:=1) rfl,_,rfl,.inr ⟨t,h5,h6,k _ s1⟩⟩⟩⟩
  |@witL ad xs e hl=>
   obtain⟨ty2,c3,c4⟩:=W8 (K:=K) (H:=H) "within";refine⟨_,rfl,_,rfl,.inl ⟨ad,_,rfl,e,_,rfl,Z6 ?_⟩⟩;refine⟨_,rfl,.inl ⟨ad,_,rfl,.inr e,rfl,_,rfl,ZK (fun z=>by have:=V.int.inj z;simp at this<;>omega) ?_⟩⟩;refine⟨_,rfl,ad,_,_,_,rfl,rfl,e,Zt (j:=0) rfl,_,ty2,_,rfl,c3,c4,_,rfl,Z6 ?_⟩;refine⟨_,rfl,ad,_,_,_,rfl,rfl,e,Zt (j:=0) rfl,?_⟩;refine⟨_,rfl,rfl,_,rfl,ZK (fun z=>(by decide +kernel:¬(("within" : Str) = "yes")) (V.str.inj z)) ?_⟩;refine⟨_,rfl,rfl,_,rfl,ZK (fun z=>(by decide +kernel:¬(("within" : Str) = "sign")) (V.str.inj z)) ?_⟩;refine⟨_,rfl,by rw[mN];simp,fun q hq2=>⟨q,_,rfl,.inr (rT Ze),rfl,rfl,_,rfl,X7 (ss:=["and", "or"]) (show("within" : Str)∉(["and", "or"]:List Str) by decide +kernel) ?_⟩⟩;have s1:=Zj (o:=.tup [.str "and",.str "or"]) hq2;have e1:=rV s1 K _ _ e;generalize upd H q (.tup [.str "and",.str "or"])=H1 at s1 e1 ⊢;refine⟨_,rfl,rfl,_,rfl,YZ rfl ?_⟩;exact⟨_,rfl,.inl ⟨ad,_,rfl,.inr (e1),rfl,_,rfl,ZK (fun z=>by have:=V.int.inj z;simp at this<;>omega) (k _ s1)⟩⟩
  |@witN ad x y z e hk hx=>
   obtain⟨ty2,c3,c4⟩:=W8 (K:=K) (H:=H) "within";refine⟨_,rfl,_,rfl,.inl ⟨ad,_,rfl,e,_,rfl,Z6 ?_⟩⟩;refine⟨_,rfl,.inl ⟨ad,_,rfl,.inr e,rfl,_,rfl,ZK (fun z=>by have:=V.int.inj z;simp at this<;>omega) ?_⟩⟩;refine⟨_,rfl,ad,_,_,_,rfl,rfl,e,Zt (j:=0) rfl,_,ty2,_,rfl,c3,c4,_,rfl,Z6 ?_⟩;refine⟨_,rfl,ad,_,_,_,rfl,rfl,e,Zt (j:=0) rfl,?_⟩;refine⟨_,rfl,rfl,_,rfl,ZK (fun z=>(by decide +kernel:¬(("within" : Str) = "yes")) (V.str.inj z)) ?_⟩;refine⟨_,rfl,rfl,_,rfl,ZK (fun z=>(by decide +kernel:¬(("within" : Str) = "sign")) (V.str.inj z)) ?_⟩;refine⟨_,rfl,by rw[mN];simp,fun q hq2=>⟨q,_,rfl,.inr (rT Ze),rfl,rfl,_,rfl,X7 (ss:=["and", "or"]) (show("within" : Str)∉(["and", "or"]:List Str) by decide +kernel) ?_⟩⟩;have s1:=Zj (o:=.tup [.str "and",.str "or"]) hq2;have e1:=rV s1 K _ _ e;generalize upd H q (.tup [.str "and",.str "or"])=H1 at s1 e1 ⊢;refine⟨_,rfl,rfl,_,rfl,YZ rfl ?_⟩;refine⟨_,rfl,.inl ⟨ad,_,rfl,.inr (e1),rfl,_,rfl,YZ (by rfl) ?_⟩⟩;refine⟨_,rfl,ad,_,_,_,rfl,rfl,e1,Zt (j:=1) rfl,x,rfl,hk.mono s1,?_⟩;rw[hx];exact⟨_,rfl,Z6 (k _ s1)⟩
  |@witM ad m y z e hm=>
   obtain⟨ty2,c3,c4⟩:=W8 (K:=K) (H:=H) "within";refine⟨_,rfl,_,rfl,.inl ⟨ad,_,rfl,e,_,rfl,Z6 ?_⟩⟩;refine⟨_,rfl,.inl ⟨ad,_,rfl,.inr e,rfl,_,rfl,ZK (fun z=>by have:=V.int.inj z;simp at this<;>omega) ?_⟩⟩;refine⟨_,rfl,ad,_,_,_,rfl,rfl,e,Zt (j:=0) rfl,_,ty2,_,rfl,c3,c4,_,rfl,Z6 ?_⟩;refine⟨_,rfl,ad,_,_,_,rfl,rfl,e,Zt (j:=0) rfl,?_⟩;refine⟨_,rfl,rfl,_,rfl,ZK (fun z=>(by decide +kernel:¬(("within" : Str) = "yes")) (V.str.inj z)) ?_⟩;refine⟨_,rfl,rfl,_,rfl,ZK (fun z=>(by decide +kernel:¬(("within" : Str) = "sign")) (V.str.inj z)) ?_⟩;refine⟨_,rfl,by rw[mN];simp,fun q hq2=>⟨q,_,rfl,.inr (rT Ze),rfl,rfl,_,rfl,X7 (ss:=["and", "or"]) (show("within" : Str)∉(["and", "or"]:List Str) by decide +kernel) ?_⟩⟩;have s1:=Zj (o:=.tup [.str "and",.str "or"]) hq2;have e1:=rV s1 K _ _ e;generalize upd H q (.tup [.str "and",.str "or"])=H1 at s1 e1 ⊢;refine⟨_,rfl,rfl,_,rfl,YZ rfl ?_⟩;refine⟨_,rfl,.inl ⟨ad,_,rfl,.inr (e1),rfl,_,rfl,YZ (by rfl) ?_⟩⟩;refine⟨_,rfl,ad,_,_,_,rfl,rfl,e1,Zt (j:=1) rfl,.int m,rfl,.int m,_,rfl,YM ?_⟩;refine⟨_,rfl,ad,_,_,_,rfl,rfl,e1,Zt (j:=1) rfl,_,_,rfl,rfl,_,rfl,?_⟩
   by_cases h0:0<=m
   ·exact YZ h0 ⟨_,_,rfl,rfl,qN (fun h5=>hm ⟨h0,h5⟩) (k _ s1)⟩
   ·exact ZK h0 (k _ s1)
  |@word ad w xs e hw1=>
   obtain⟨h1,h2,h3,h4⟩:=nw_of w hw1;obtain⟨ty2,c3,c4⟩:=W8 (K:=K) (H:=H) w;refine⟨_,rfl,_,rfl,.inl ⟨ad,_,rfl,e,_,rfl,Z6 ?_⟩⟩;refine⟨_,rfl,.inl ⟨ad,_,rfl,.inr e,rfl,_,rfl,ZK (fun z=>by have:=V.int.inj z;simp at this<;>omega) ?_⟩⟩;refine⟨_,rfl,ad,_,_,_,rfl,rfl,e,Zt (j:=0) rfl,_,ty2,_,rfl,c3,c4,_,rfl,Z6 ?_⟩;refine⟨_,rfl,ad,_,_,_,rfl,rfl,e,Zt (j:=0) rfl,?_⟩;refine⟨_,rfl,rfl,_,rfl,ZK (fun z=>h1 (V.str.inj z)) ?_⟩;refine⟨_,rfl,rfl,_,rfl,ZK (fun z=>h2 (V.str.inj z)) ?_⟩;refine⟨_,rfl,by rw[mN];simp,fun q hq2=>⟨q,_,rfl,.inr (rT Ze),rfl,rfl,_,rfl,X7 (ss:=["and", "or"]) h3 ?_⟩⟩;have s1:=Zj (o:=.tup [.str "and",.str "or"]) hq2;have e1:=rV s1 K _ _ e;generalize upd H q (.tup [.str "and",.str "or"])=H1 at s1 e1 ⊢;refine⟨_,rfl,rfl,_,rfl,ZK (fun z=>h4 (V.str.inj z)) ?_⟩;have hn:W.nsIn K a.D_LENGTHS w=some none:=by
    simp at hw1;rcases hw1 with rfl|rfl
    ·exact T.nk_signs
    ·exact T.nk_Next
   exact⟨_,rfl,w,_,_,false,rfl,rfl,T.cW,.inr ⟨rfl,hn⟩,_,rfl,Z6 (k _ s1)⟩
  |@lens ad w i xs e hw1 hm hi=>
   obtain⟨h1,h2,h3,h4⟩:=nwx hw1;obtain⟨ty2,c3,c4⟩:=W8 (K:=K) (H:=H) w;refine⟨_,rfl,_,rfl,.inl ⟨ad,_,rfl,e,_,rfl,Z6 ?_⟩⟩;refine⟨_,rfl,.inl ⟨ad,_,rfl,.inr e,rfl,_,rfl,ZK (fun z=>by have:=V.int.inj z;simp at this<;>omega) ?_⟩⟩;refine⟨_,rfl,ad,_,_,_,rfl,rfl,e,Zt (j:=0) rfl,_,ty2,_,rfl,c3,c4,_,rfl,Z6 ?_⟩;refine⟨_,rfl,ad,_,_,_,rfl,rfl,e,Zt (j:=0) rfl,?_⟩;refine⟨_,rfl,rfl,_,rfl,ZK (fun z=>h1 (V.str.inj z)) ?_⟩;refine⟨_,rfl,rfl,_,rfl,ZK (fun z=>h2 (V.str.inj z)) ?_⟩;refine⟨_,rfl,by rw[mN];simp,fun q hq2=>⟨q,_,rfl,.inr (rT Ze),rfl,rfl,_,rfl,X7 (ss:=["and", "or"]) h3 ?_⟩⟩;have s1:=Zj (o:=.tup [.str "and",.str "or"]) hq2;have e1:=rV s1 K _ _ e;generalize upd H q (.tup [.str "and",.str "or"])=H1 at s1 e1 ⊢;refine⟨_,rfl,rfl,_,rfl,ZK (fun z=>h4 (V.str.inj z)) ?_⟩;exact⟨_,rfl,w,_,_,true,rfl,rfl,T.cW,.inl ⟨rfl,i,hm⟩,_,rfl,YM ⟨_,rfl,.inl ⟨ad,_,rfl,.inr (e1),_,rfl,_,w,_,i,rfl,rfl,T.cW,hm,rfl,qN (fun z=>hi (V.int.inj z)) (k _ s1)⟩⟩⟩
theorem qX:∀ts:List Tr,ts.length<=(Yq ts).length
 |[]=>by simp[Yq]
 |t::r=>by
  have:=qX r;rw[Yq,mT,n9,vT t,mT];simp;omega
def yy(K:W.Frag)(a:Adr):Sp:=fun vs H Q _=>∃(v:V) (t:Tr) (n:Nat),vs=[v]/\At K n H v t/\(post t).length<=2000000/\∀H' l us,Zf H H'->H l=none->H' l=some (.lst us)->AtL K n H' us (post t)->Q (.ref l) H'
theorem zY(T:Txt K mg a)(hw:w.params=a.Pm):Ye P w K mg base CX0 3 a.inner_ahead a.bH lU (yy K a):=by
 have iQ:=vi (P:=P) (w:=w) (base:=base) T hw;have cY:=V9 (P:=P) (w:=w) (base:=base) T hw;refine T.ca.ok Wq (fun vs H Q E h=>?_) (fun lD A outer s H vs Q E hr h=>?_)
 ·obtain⟨v,t,n,rfl,_⟩:=h;rfl
 ·obtain⟨v,t,n,rfl,hat,hz,k⟩:=h;refine⟨_,(@Za _ _ _ _ _ (@Zi _ _ (1) _ _ _ _ Wq.nd rfl (Or.inl rfl) (@ZW _ _ _ _ XH) (by rfl) (.inl rfl)) (@Za _ _ _ _ _ (@Zi _ _ (2) _ _ _ _ Wq.nd rfl (Or.inl rfl) (@ZW _ _ _ _ (@Zc _ _ _ (pv 0) (by rfl))) (by rfl) (.inl rfl)) (@Za _ _ _ _ _ (W7 nB (Uh (K:=K) rfl (pv 2) (fun _=>rfl)) (@Za _ _ _ _ _ (@Zi _ _ (3) _ _ _ _ Wq.nd rfl (Or.inl rfl) (qE nS rC rD vm (pv 2)) (by rfl) (.inl rfl)) (@Za _ _ _ _ _ (@ZN _ _ _ _ _ _ _ _ (@Wa _ _ _ _ (XG (Zl iQ (hr.mono (by decide)) rfl T.gK T.fm.kp T.gJ .nil Zs (@Zc _ _ _ (pv 3) (by rfl))))) (@Zg _ _ _ yB) Zu) (@Za _ _ _ _ _ (@Xc _ _ _ _ (WT nS oh oi Yg (pv 1) (@Zc _ _ _ (pv 3) (by rfl))) (by rfl)) (@Zg _ _ _ (@Xc _ _ _ _ (WT nS PySem.F.slot_list_extend PySem.F.type_list_extend (kN (K:=K) rfl) (pv 2) (@Zc _ _ _ (Zl cY (hr.mono (by decide)) rfl T.eT T.cP.kp T.eQ .nil Zs (@Zc _ _ _ (pv 3) (by rfl))) (by rfl))) (by rfl))))))) (@Zg _ _ _ (@Zq _ _ _ _ (pe_revK (K:=K) rfl (pv 1) (Vt (VU Ud Zd)))))))),?_⟩;cases n with
  |zero=>exact hat.elim
  |succ n=>
   refine⟨by decide,fun F hF=>?_⟩;have s1:=Zj (o:=.lst []) hF;have e1:(upd H F (.lst [])) F=some (.lst []):=Ze;generalize upd H F (.lst [])=H1 at s1 e1 ⊢;refine⟨_,rfl,by rw[mN];simp,fun W hW=>?_⟩;have s2:=Zj (o:=.lst [v]) hW;have e2:(upd H1 W (.lst [v])) W=some (.lst [v]):=Ze;have nFW:F≠W:=VW e1 hW;have e1':=s2 _ _ e1;generalize upd H1 W (.lst [v])=H2 at s2 e2 e1' ⊢;have hW0:H W=none:=s1.free hW;have at2:=hat.mono (rV (s1.trans s2));refine⟨fun m σ H'=>∃(z:Option V) (ws fs:List V) (tw tf:List Tr),σ=[some v,some (.ref F),some (.ref W),z]/\Zf H H'/\H' F=some (.lst fs)/\H' W=some (.lst ws)/\AtL K (n+1) H' ws tw/\AtL K (n+1) H' fs tf/\tf++(Yq tw).reverse=(post t).reverse/\m=(Yq tw).length,⟨_,_,[v],[],[t],[],rfl,s1.trans s2,e1',e2,AtL.one at2,AtL.nil,by rw[Y0];rfl,rfl⟩,?_⟩;rintro m σ H3 ⟨z,ws,fs,tw,tf,rfl,s3,hF3,hW3,aw,af,he,rfl⟩;have hlen:tf.length+(Yq tw).length=(post t).length:=by have:=ni List.length he;simpa using this
   have hwl:=qX tw;have hwl2:=aw.1;have hfl2:=af.1;refine⟨_,rfl,!ws.isEmpty,?tru,?_⟩
   case tru=>exact .inl ⟨_,rS hW3,rfl⟩
   cases hws:ws.isEmpty with
   |true=>
    have e0:ws=[]:=List.isEmpty_iff.mp hws;subst e0;have et:tw=[]:=pV.mp hwl2.symm;subst et;refine Z6 ?_;rw[Yq,List.reverse_nil,oC] at he;refine⟨_,rfl,_,rfl,_,rfl,F,_,rfl,rfl,rS hF3,fun p hp=>?_⟩;have ar:=af.rev;rw[he,List.reverse_reverse] at ar;exact k _ p _ (s3.trans (Zj hp)) (s3.free hp) Ze (ar.mono (rV (Zj hp)))
   |false=>
    have hne:ws≠[]:=fun e=>by rw[e] at hws;cases hws
    obtain⟨us,u,rs,r,ew,etw,aus,au⟩:=aw.last hne;subst ew etw;refine YM ?_;refine⟨fun σ H'=>∃(z:Option V) (ws fs:List V) (tw tf:List Tr),σ=[some v,some (.ref F),some (.ref W),z]/\Zf H H'/\H' F=some (.lst fs)/\H' W=some (.lst ws)/\AtL K (n+1) H' ws tw/\AtL K (n+1) H' fs tf/\tf++(Yq tw).reverse=(post t).reverse/\(Yq tw).length<(Yq (rs++[r])).length,?_,?_⟩
    ·rintro σ' H' ⟨z',ws',fs',tw',tf',rfl,a1,a2,a3,a4,a5,a6,a7⟩;exact⟨_,a7,z',ws',fs',tw',tf',rfl,a1,a2,a3,a4,a5,a6,rfl⟩
    refine⟨_,rfl,.inl ⟨rfl,_,rS hW3⟩,W,_,u,rfl,rfl,hW3,by simp,?_⟩;rw[rR];have x4:ZJ W H3 (upd H3 W (.lst us)):=(ZJ.refl H3).upd;have t4:XA H3 (upd H3 W (.lst us)):=ZJ.tup x4 hW3;have hF4:(upd H3 W (.lst us)) F=some (.lst fs):=updK hF3 nFW;have hW4:(upd H3 W (.lst us)) W=some (.lst us):=Ze;have s4:Zf H (upd H3 W (.lst us)):=((Zf.x s3).upd).same hW0;generalize upd H3 W (.lst us)=H4 at x4 t4 hF4 hW4 s4 ⊢;have au4:=au.mono t4;refine⟨_,rfl,u,true,rfl,.inl ⟨rfl,au4.fmT⟩,fun H5 s5=>⟨_,rfl,Z6 ?_⟩⟩;have hF5:=s5 _ _ hF4;have hW5:=s5 _ _ hW4;have tur:=post_turn rs r;have tl:=ni List.length tur;simp at tl;refine⟨_,rfl,.inl ⟨rfl,_,rS hF5⟩,_,rfl,F,_,_,rfl,rfl,hF5,by rw[mN];omega,?_⟩;have x6:ZJ F H5 (upd H5 F (.lst (fs++[u]))):=(ZJ.refl H5).upd;have t6:XA H5 (upd H5 F (.lst (fs++[u]))):=ZJ.tup x6 hF5;have hF6:(upd H5 F (.lst (fs++[u]))) F=some (.lst (fs++[u])):=Ze;have hW6:(upd H5 F (.lst (fs++[u]))) W=some (.lst us):=updK hW5 (nN nFW);have s6:Zf H (upd H5 F (.lst (fs++[u]))):=((Zf.x (s4.trans s5)).upd).same hF;generalize upd H5 F (.lst (fs++[u]))=H6 at x6 t6 hF6 hW6 s6 ⊢;have t46:XA H3 H6:=t4.trans ((rV s5).trans t6);obtain⟨ad7,ks7,eu7,sh7,ok7,hl7,hq7⟩:=au.mono t46;refine⟨_,rfl,.inl ⟨rfl,_,rS hW6⟩,_,rfl,u,ad7,ks7,r.lb,rfl,eu7,sh7,by rw[hl7];exact ok7.b,fun H7 b s7 eb=>?_⟩;have aL:AtL K n H7 ks7 r.ks:=AtL.mono (rV s7) ⟨hl7,hq7⟩;have hW7:=s7 _ _ hW6;have hkl:=aL.1;have hll:=qX (rs++r.ks);simp at hll;have hul:=aus.1;refine⟨W,b,_,_,rfl,rfl,hW7,eb,by rw[mN];omega,?_⟩;have x8:ZJ W H7 (upd H7 W (.lst (us++ks7))):=(ZJ.refl H7).upd;have t8:XA H7 (upd H7 W (.lst (us++ks7))):=ZJ.tup x8 hW7;have t38:XA H3 (upd H7 W (.lst (us++ks7))):=t46.trans ((rV s7).trans t8);refine⟨_,us++ks7,fs++[u],rs++r.ks,tf++[r],rfl,((Zf.x (s6.trans s7)).upd).same hW0,updK (s7 _ _ hF6) nFW,Ze,(aus.mono t38).app ((aL.le (oO n)).mono t8),(af.mono t38).app (AtL.one (au.mono t38)),?_,?_⟩
    ·rw[tur] at he;rw[oY];exact he
    ·omega
def i5(K:W.Frag)(a:Adr):Sp:=fun vs H Q _=>∃(p:Addr) (d:WD) (v1 v2:V) (m:Nat) (t1 t2:Tr),vs=[.ref p,v1,v2]/\Xb a.C_World H p d/\XR d/\At K m H v1 t1/\At K m H v2 t2/\(post t1).length<=100000/\(post t2).length<=100000/\bkT t1 = "room" /\ bkT t2 = "room" /\ ∀H' L rs f,Zf H H'->H L=none->H' L=some (.dK (tiK rs f))->TI (WN d) d.signs.length (soB d t1) (soB d t2) rs f->Q (.ref L) H'
theorem jR(T:Txt K mg a)(hw:w.params=a.Pm):Ye P w K mg base CX0 9 a.turns a.gC ["world", "one", "other"] (i5 K a):=by
 have fT:=zY (P:=P) (w:=w) (base:=base) T hw;have gY:=qV (P:=P) (w:=w) (base:=base) T hw;have ge:=zk (P:=P) (w:=w) (base:=base) T hw;have fC:=U2 (P:=P) (w:=w) (base:=base) T hw;have ag:=Y1 (P:=P) (w:=w) (base:=base) T hw;have g5:=ze (P:=P) (w:=w) (base:=base) T hw;refine T.gL.ok Xn (fun vs H Q E h=>?_) (fun lD A outer s H vs Q E hr h=>?_)
 ·obtain⟨p,d,v1,v2,m,t1,t2,rfl,_⟩:=h;rfl
 ·obtain⟨p,d,v1,v2,m,t1,t2,rfl,wa,gd,at1,at2,hz1,hz2,bk1,bk2,k⟩:=h;refine⟨_,(@Za _ _ _ _ _ (@Zi _ _ (3) _ _ _ _ Xn.nd rfl (Or.inl rfl) (@ZW _ _ _ _ (@Zr _ _ _ _ _ (Zl fT (hr.mono (by decide)) rfl T.di T.ca.kp T.dh .nil Zs (@Zc _ _ _ (pv 1) (by rfl))) (@Zc _ _ _ (Zl fT (hr.mono (by decide)) rfl T.di T.ca.kp T.dh .nil Zs (@Zc _ _ _ (pv 2) (by rfl))) (by rfl)) (by rfl))) (by rfl) (.inl rfl)) (@Za _ _ _ _ _ (Xo nB rfl (ZC (K:=K) rfl (pv 3)) (Zh (i:=4) Xn.nd rfl (Or.inl rfl)) (@Zg _ _ _ (@Xc _ _ _ _ (Zl gY (hr.mono (by decide)) rfl T.dE T.ck.kp T.dD .nil Zs (@Zc _ _ _ (pv 4) (by rfl))) (by rfl)))) (@Za _ _ _ _ _ (@Zi _ _ (5) _ _ _ _ Xn.nd rfl (Or.inr rfl) (zM T.iO fC (hr.mono (by decide)) rfl T.i3 T.fo .nil Zs (@Zc _ _ _ (pv 0) (by rfl))) (by rfl) (.inl rfl)) (@Za _ _ _ _ _ (yD (Zv (Nc:=["row", "sets"]) (ix:=[none,some 5]) (ZA.of (by decide +kernel:ZD (Zb WU) ["world", "one", "other", "rows", "row", "sets", "along", "goal", "numbers", "near", "far", "turn", "room"] ["row", "sets"] [none,some 5] _=true)) rfl (ZC (K:=K) rfl (pv 3)) (fun _ _ _ _ _=>(Zh (i:=0) (show List.Nodup (["row", "sets"]:List Str) by decide +kernel) rfl (Or.inl rfl))) (fun _ _ _ _ _=>ZF) (fun _ _ _ _ _=>(Yi (pv 1) T.aa T.dN g5 (hr.mono (by decide)) T.dM .nil Zs (@Zc _ _ _ (pv 0) (by rfl))))) (pg_lst (K:=K) (n:=2) rfl rfl (Z8 (Zh (i:=6) Xn.nd rfl (Or.inl rfl)) (Z8 (Zh (i:=7) Xn.nd rfl (Or.inl rfl)) Vc)))) (@Za _ _ _ _ _ (@Zi _ _ (8) _ _ _ _ Xn.nd rfl (Or.inr rfl) L2.pe_dnewK (by rfl) (.inl rfl)) (@Za _ _ _ _ _ (@Zi _ _ (9) _ _ _ _ Xn.nd rfl (Or.inl rfl) (pv 7) (by rfl) (.inl rfl)) (@Za _ _ _ _ _ (@Zi _ _ (10) _ _ _ _ Xn.nd rfl (Or.inl rfl) Zd (by rfl) (.inl rfl)) (@Za _ _ _ _ _ (@Zi _ _ (11) _ _ _ _ Xn.nd rfl (Or.inl rfl) Zd (by rfl) (.inl rfl)) (@Za _ _ _ _ _ (W7 nB (Uh (K:=K) rfl (pv 9) (fun _=>rfl)) (@Za _ _ _ _ _ (Xo nB rfl (ZC (K:=K) rfl (Zl ge (hr.mono (by decide)) rfl T.fY T.eV.kp T.fX .nil Zs (@Zc _ _ _ (pv 9) (by rfl)))) (Zh (i:=12) Xn.nd rfl (Or.inl rfl)) (@Zg _ _ _ (vw (hu_of hr) (pv 8) (pv 12) (pv 11) rfl))) (@Za _ _ _ _ _ (vA (i:=10) Xn.nd rfl (Or.inl rfl) (pv 9) ip_orI) (@Za _ _ _ _ _ (@Zi _ _ (9) _ _ _ _ Xn.nd rfl (Or.inl rfl) (@Zz _ _ _ _ _ _ _ _ Wt (@Zz _ _ _ _ _ _ _ _ Wt (pv 6) (Yi (pv 5) T.aa T.ak ag (hr.mono (by decide)) T.aj .nil Zs (@Zc _ _ _ (pv 9) (by rfl)))) (VU un_inv (pv 10))) (by rfl) (.inl rfl)) (@Zg _ _ _ (vA (i:=11) Xn.nd rfl (Or.inl rfl) Zd ip_add)))))) (@Zg _ _ _ (@Zq _ _ _ _ (pe_dcompE (o0:=.dK []) (.inl rfl) (Nc:=["room", "numbers"]) (ix:=[none,some 8]) (ZA.of (by decide +kernel:ZD (Zb WU) ["world", "one", "other", "rows", "row", "sets", "along", "goal", "numbers", "near", "far", "turn", "room"] ["room", "numbers"] [none,some 8] _=true)) (Xx.units0 hr) rfl (ZC (K:=K) rfl (Zm (jW rfl) rfl T.fQ r9 (@Zc _ _ _ (pv 8) (by rfl)))) (fun _ _ _ _ _=>(Zh (i:=0) (show List.Nodup (["room", "numbers"]:List Str) by decide +kernel) rfl (Or.inl rfl))) (fun _ _ _ _ _=>ZF) (fun _ _ _ _ _=>(pv 0)) (fun _ _ _ _ _=>(pe_dget (hu_of hr) (pv 1) (pv 0) (fun _ _=>rfl))))))))))))))),?_⟩;have n20:=gd.n20;refine⟨_,rfl,v1,t1,m,rfl,at1,by omega,fun H1 L1 us1 s1 hL1 eL1 aL1=>?_⟩;refine⟨_,rfl,v2,t2,m,rfl,at2.mono (rV s1),by omega,fun H2 L2 us2 s2 hL2 eL2 aL2=>?_⟩;refine⟨sz2,fun R hR=>?_⟩;obtain⟨H3,qN,s3,eR⟩:=ZV (o:=.lst [.ref L1,.ref L2]) hR;rw[qN];have eL1:=(s2.trans s3) _ _ eL1;have aL1:=aL1.mono (rV (s2.trans s3));have eL2:=s3 _ _ eL2;have aL2:=aL2.mono (rV s3);have s03:=s1.trans (s2.trans s3);clear s1 s2 s3 hL1 hL2 hR;refine⟨_,rfl,R,rfl,⟨_,rS eR⟩,?_⟩;refine XX (K:=K) (xs:=[V.ref L1,.ref L2]) (fun i σ G=>∃(z4:Option V),σ=[some (.ref p),some v1,some v2,some (.ref R),z4,none,none,none,none,none,none,none,none]/\Zf H3 G) ⟨_,rfl,.refl _⟩ ?_ ?_ ?_
  ·rintro i σ G _ ⟨z4,rfl,sG⟩;exact rS (sG _ _ eR)
  ·rintro i x σ G hx ⟨z4,rfl,sG⟩
   match i,hx with
   |0,hx=>cases hx;exact⟨_,rfl,L1,us1,m,t1,rfl,sG _ _ eL1,aL1.mono (rV sG),hz1,bk1,fun H4 s4=>⟨_,rfl,sG.trans s4⟩⟩
   |1,hx=>cases hx;exact⟨_,rfl,L2,us2,m,t2,rfl,sG _ _ eL2,aL2.mono (rV sG),hz2,bk2,fun H4 s4=>⟨_,rfl,sG.trans s4⟩⟩
   |i+2,hx=>simp at hx
  rintro σ G ⟨z4,rfl,sG⟩;refine⟨_,rfl,fun o dw no ndw new=>?_⟩;have sm:Zf G (upd (upd G dw (.own o)) o (.ins a.C_Sets dw [])):=(Zj ndw).trans (Zj (by rw[Zy (nN new)];exact no));refine⟨o,dw,p,d,rfl,Ze,wa.mono (s03.trans (sG.trans sm)),gd,fun H4 fs x4 so=>⟨rfl,?_⟩⟩;have s34:Zf H3 H4:=fun b u e=>x4 _ _ (ZZ (sG _ _ e) no) (sm _ _ (sG _ _ e));have s04:=s03.trans s34;have eR4:=s34 _ _ eR;have eL14:=s34 _ _ eL1;have aL14:=aL1.mono (rV s34);have eL24:=s34 _ _ eL2;have aL24:=aL2.mono (rV s34);clear eL1 aL1 eL2 aL2 sm no ndw new x4 sG;refine⟨_,rfl,R,rfl,⟨_,rS eR4⟩,fun D hD=>?_⟩;refine ZY [true,false] (fun b:Bool=>V.ref (if b=true then L1 else L2)) (fun b=>V.int (mI (soB d (if b=true then t1 else t2)) d.signs.length)) hD (rS eR4) sz2 ?_ ?_
  ·intro b hb F N sF hN;have soF:=so.mono sF;cases b with
   |true=>exact⟨_,rfl,o,dw,_,rfl,soF.so.so.obj,soF.so.so.no _ (by decide +kernel),_,rfl,o,dw,fs,d,L1,us1,m,t1,rfl,gd,soF,sF _ _ eL14,aL14.mono (rV sF),hz1,bk1,fun H5 s5=>hN _ s5⟩
   |false=>exact⟨_,rfl,o,dw,_,rfl,soF.so.so.obj,soF.so.so.no _ (by decide +kernel),_,rfl,o,dw,fs,d,L2,us2,m,t2,rfl,gd,soF,sF _ _ eL24,aL24.mono (rV sF),hz2,bk2,fun H5 s5=>hN _ s5⟩
  intro H5 eD s5;have eD':H5 D=some (.lst [.int (mI (soB d t1) d.signs.length),.int (mI (soB d t2) d.signs.length)]):=eD;have so5:=so.mono s5;have s05:=s04.trans s5;clear eD eL14 aL14 eL24 aL24 eR4 eR so s34 s04 s5 hD;refine⟨D,_,rfl,rS eD',rfl,_,_,rfl,_,_,rfl,rfl,?_⟩;intro N hN;obtain⟨H6,qN,s6,eN⟩:=ZV (o:=.dK []) hN;rw[qN];refine⟨_,rfl,?_⟩;have z0:(0:Int)=mI (fun _=>false) d.signs.length:=(WW.mpr fun _ _=>rfl).symm;refine⟨fun μ σ G=>∃(k:Nat) (rs:List Nat) (f:Nat->Nat) (F M:Nat->Bool) (z12:Option V),σ=[some (.ref p),some v1,some v2,some (.ref R),z4,some (.ref o),some (.int (mI (soB d t1) d.signs.length)),some (.int (mI (soB d t2) d.signs.length)),some (.ref N),some (.int (mI M d.signs.length)),some (.int (mI F d.signs.length)),some (.int (k:Int)),z12]/\Zf H5 G/\G N=some (.dK (tiK rs f))/\TJ (WN d) d.signs.length (soB d t1) (soB d t2) k rs f F M/\μ=(d.signs.length-Vf F d.signs.length)+(if mI M d.signs.length=0 then 0 else 1),⟨_,0,[],fun _=>0,fun _=>false,soB d t2,none,by rw[<- z0];rfl,s6,eN,.start,rfl⟩,?_⟩;rintro μ σ G ⟨k0,rs,f,F,M,z12,rfl,sG,eN,tj,rfl⟩;refine⟨_,rfl,_,rfl,?_⟩;refine XS (fun c=>?_) (fun c=>?_)
  ·rw[bne_iff_ne] at c;refine⟨fun σ G=>∃(k:Nat) (rs:List Nat) (f:Nat->Nat) (F' M':Nat->Bool) (z12:Option V),σ=[some (.ref p),some v1,some v2,some (.ref R),z4,some (.ref o),some (.int (mI (soB d t1) d.signs.length)),some (.int (mI (soB d t2) d.signs.length)),some (.ref N),some (.int (mI M' d.signs.length)),some (.int (mI F' d.signs.length)),some (.int (k:Int)),z12]/\Zf H5 G/\G N=some (.dK (tiK rs f))/\TJ (WN d) d.signs.length (soB d t1) (soB d t2) k rs f F' M'/\∀q<d.signs.length,F' q=(F q||M q),?_,?_⟩
   ·rintro σ G' ⟨k1,rs1,f1,F',M',z12',rfl,sG',eN',tj',ef⟩;refine⟨_,?_,k1,rs1,f1,F',M',z12',rfl,sG',eN',tj',rfl⟩;rw[if_neg c];have le:=cnt_le F' d.signs.length;have lt:Vf F d.signs.length<Vf F' d.signs.length:=vJ (fun q hq h=>by rw[ef q hq,h];rfl) (by
     apply oJ;intro nz;refine c (WW.mpr fun q hq=>?_);cases e:M q with
     |false=>rfl
     |true=>
      refine absurd ⟨q,hq,?_,by rw[ef q hq,e,Bool.or_true]⟩ nz;cases e2:F q with
      |false=>rfl
      |true=>
       obtain⟨j,hj,l⟩:=(tj.far q hq).mp e2;have:=l.inj ((tj.near q hq).mp e);omega)
    split<;>omega
   have lm:=VH (n:=d.signs.length) M;rw[mM] at lm;refine⟨_,rfl,M,_,rfl,by omega,fun H7 LM s7 hLM eLM=>?_⟩;have nLN:LM≠N:=fun z=>by rw[z,eN] at hLM;cases hLM
   refine⟨LM,rfl,⟨_,rS eLM⟩,?_⟩;have tjs:=tj.step (WL gd);refine XX (K:=K) (xs:=((List.range d.signs.length).filter M).map fun r:Nat=>V.int (r:Int)) (fun i σ G=>∃(z12:Option V),σ=[some (.ref p),some v1,some v2,some (.ref R),z4,some (.ref o),some (.int (mI (soB d t1) d.signs.length)),some (.int (mI (soB d t2) d.signs.length)),some (.ref N),some (.int (mI M d.signs.length)),some (.int (mI F d.signs.length)),some (.int (k0:Int)),z12]/\Zf H5 G/\G LM=some (.lst (((List.range d.signs.length).filter M).map fun r:Nat=>V.int (r:Int)))/\G N=some (.dK (tiK (rs++((List.range d.signs.length).filter M).take i) (fun r=>if r∈rs then f r else k0)))) ⟨z12,rfl,sG.trans s7,eLM,?_⟩ ?_ ?_ ?_
   ·rw[List.take_zero,oC,tiK_ext (g:=f) fun r hr=>if_pos hr];exact s7 _ _ eN
   ·rintro i σ G _ ⟨z12,rfl,sG,eLM,_⟩;exact rS eLM
   ·rintro i x σ G hx ⟨z12,rfl,sG,eLM,eN⟩;rw[mU] at hx;obtain⟨r,er,rfl⟩:=oU.mp hx;have ndl:=tjs.nd;have tk:((List.range d.signs.length).filter M).take (i+1)=((List.range d.signs.length).filter M).take i++[r]:=by rw[pC,er];rfl
    have nd2:(rs++((List.range d.signs.length).filter M).take (i+1)).Nodup:=ndl.sublist ((List.Sublist.refl rs).append (pH _ _));rw[tk,<- oY] at nd2;have nr:r∉rs++((List.range d.signs.length).filter M).take i:=fun h=>(oS.mp nd2).2.2 r h r (by simp) rfl;have fr:(if r∈rs then f r else k0)=k0:=if_neg fun h=>nr (oB _ h);have ll:(tiK (rs++((List.range d.signs.length).filter M).take i) (fun r=>if r∈rs then f r else k0)).length<sizeLine:=by
     have l1:=(pH i ((List.range d.signs.length).filter M)).length_le;have l2:=Yo (l₂:=List.range d.signs.length) tj.nd fun x hx=>mX.mpr ((tj.mem x).mp hx).1;rw[m9] at l2;rw[zK,mT,mN];omega
    refine⟨_,rfl,_,rfl,_,rfl,N,_,rfl,DPut.k (k:=Sum.inl (r:Int)) (v:=.int (k0:Int)) eN ll,?_⟩;refine⟨_,rfl,((Zf.x sG).upd).same hN,(Zy nLN).trans eLM,?_⟩;have:=qj (f:=fun r=>if r∈rs then f r else k0) nr;rw[fr,oY,<- tk] at this;rw[Ze,this]
   rintro σ G ⟨z12,rfl,sG,_,eN⟩;rw[mM,oy] at eN;have soG:=so5.mono sG;refine⟨_,rfl,_,rfl,_,_,rfl,rfl,?_⟩;rw[xP];refine⟨_,rfl,_,rfl,o,dw,_,rfl,soG.so.so.obj,soG.so.so.no _ (by decide +kernel),_,rfl,o,dw,fs,d,M,rfl,gd,soG.so.so,fun G1 u1=>?_⟩;refine⟨_,_,rfl,rfl,_,rfl,_,rfl,_,_,rfl,rfl,?_⟩;rw[X9,Um];refine⟨_,rfl,_,_,rfl,rfl,?_⟩;exact⟨k0+1,_,_,_,_,_,rfl,sG.trans u1,u1 _ _ eN,tjs,fun q hq=>rfl⟩
  ·have z:mI M d.signs.length=0:=oJ fun h=>c (bne_iff_ne.mpr h);have ti:=tj.done (WL gd) (WW.mp z);have tl:=ti.len;refine⟨_,rfl,N,_,_,rfl,eN,tiK_keys rs f,by rw[mM];omega,fun l us hl pm=>?_⟩;obtain⟨rs',rfl,pm2⟩:=perm_cast pm;obtain⟨H7,qN,s7,el⟩:=ZV (o:=.lst ((rs'.map fun r:Nat=>(r:Int)).map V.int)) hl;rw[qN];have pl:=pm2.length_eq;refine⟨l,rfl,⟨_,rS el⟩,fun D2 hD2=>?_⟩;have eN7:=s7 _ _ eN;have nDN:D2≠N:=fun z=>by rw[z,eN7] at hD2;cases hD2
   have nDl:D2≠l:=fun z=>by rw[z,el] at hD2;cases hD2
   refine jD (J:=Itl K l) (n:=rs'.length) (fun i σ G=>∃z1:Option V,σ=[z1,some (.ref N)]/\Zf H7 G/\G D2=some (.dK (tiK (rs'.take i) f))) ?_ ?_ ?_ ?_ ?_
   ·exact⟨_,rfl,Zj hD2,Ze⟩
   ·rintro i σ G hi ⟨z1,rfl,sm,hd⟩;exact⟨_,_,rS (sm _ _ el),mO (by rw[mM,mM];exact hi)⟩
   ·rintro σ G ⟨z1,rfl,sm,hd⟩;exact⟨_,rS (sm _ _ el),by rw[mM,mM];exact mP _⟩
   ·rintro i x σ G G2 hi ⟨z1,rfl,sm,hd⟩ ⟨rfl,hx⟩ NN hNN;have ex:=hx _ (rS (sm _ _ el));rw[mU,mU,mO hi] at ex;have ex':x=.int (rs'[i]:Int):=(nv ex).symm;subst ex';have hm:rs'[i]∈rs:=pm2.mem_iff.mp (nk hi);have gt:=DGet.k (k:=Sum.inl (rs'[i]:Int)) (sm _ _ eN7);rw[vz hm] at gt;have nd':=pm2.nodup_iff.mpr ti.nd;have tk:rs'.take (i+1)=rs'.take i++[rs'[i]]:=by rw[pC,mO hi];rfl
    have nr:rs'[i]∉rs'.take i:=zV nd' hi;have tll:=(pH i rs').length_le;refine⟨_,rfl,_,rfl,_,rfl,N,.int (f rs'[i]:Int),rfl,gt,_,DPut.k (k:=Sum.inl (rs'[i]:Int)) hd (by rw[zK,mN];omega),hNN _ _ ⟨_,rfl,((Zf.x sm).upd).same hD2,?_⟩⟩;rw[Ze,qj nr,<- tk]
   rintro σ G ⟨z1,rfl,sm,hd⟩;rw[oy] at hd;have s5G:=sG.trans (s7.trans sm);refine k G D2 rs' f (s05.trans s5G) (s05.free ((sG.trans s7).free hD2)) hd (ti.perm pm2 fun r hr=>rfl)
def vN(K:W.Frag)(a:Adr):Sp:=fun vs H Q _=>∃(p:Addr) (ns:List Int),vs=[.ref p]/\H p=some (.lst (ns.map V.int))/\∀H' (n:Int) (ns':List Int),ZJ p H H'->H' p=some (.lst (ns'.map V.int))->Q (.int n) H'
theorem ve(T:Txt K mg a)(hw:w.params=a.Pm):Ye P w K mg base CX0 1 a._law_next a.cE ["_law_xs"] (vN K a):=by
 refine T.aZ.ok vj (fun vs H Q E h=>?_) (fun lD A outer s H vs Q E hr h=>?_)
 ·obtain⟨p,ns,rfl,_⟩:=h;rfl
 ·obtain⟨p,ns,rfl,hp,k⟩:=h;refine⟨_,(@Za _ _ _ _ _ (@ZN _ _ _ _ _ _ _ _ (@Zp _ _ _ _ _ _ _ _ (qc (K:=K) rfl (Xx.units hr)) (pv 0) (@ZW _ _ _ _ XH) (Zw _)) (@Zg _ _ _ (@Zq _ _ _ _ Zd)) Zu) (@Zg _ _ _ (@Zq _ _ _ _ (qE nS rC rD vm (pv 0))))),?_⟩;refine⟨_,rfl,by decide,fun l hl=>?_⟩;have s1:=Zj (o:=.lst []) hl;refine vZ (s1 _ _ hp) Ze fun c hc=>⟨_,rfl,?_⟩;cases c with
  |true=>exact YM (k _ 0 ns (Zf.x s1) (s1 _ _ hp))
  |false=>
   refine Z6 ⟨_,rfl,.inl ⟨rfl,_,rS (s1 _ _ hp)⟩,?_⟩;have hne:ns≠[]:=fun e=>by have:=hc.mpr e;cases this
   have hl:ns.length-1<ns.length:=by have:=List.length_pos_iff.mpr hne;omega
   refine⟨p,_,.int ns[ns.length-1],rfl,rfl,s1 _ _ hp,by simp[hl],?_⟩;exact k _ _ ns.dropLast (Zf.x s1).upd (by rw[Ze,List.map_dropLast])
theorem upd_tupL{H:Hp}{S:Addr}{xs:List V}{o:HO}(h1:H S=some (.lst xs)):XA H (upd H S o):=fun K b ys h=>by
 rcases h with(h|⟨o',h⟩)|h
 ·exact .inl (.inl (by rw[Zy (fun z=>by rw[z,h1] at h;cases h)];exact h))
 ·exact .inl (.inr ⟨o',by rw[Zy (fun z=>by rw[z,h1] at h;cases h)];exact h⟩)
 ·exact .inr h
theorem qF{l:List Str}{i:Nat}(hi:i<l.length):atI (l.map V.str) (i:Int)=some (.str l[i]):=Zt (by rw[mU,mO hi];rfl)
theorem Uk(n:Int){m:Nat}(h:0<m):∃r:Nat,n%(m:Int)=(r:Int)/\r<m:=by
 have h0:=oq n (show(m:Int)≠0 by omega);have h1:=oI n (show(0:Int)<(m:Int) by omega);exact⟨(n%(m:Int)).toNat,by omega,by omega⟩
theorem pure_or{t u:TT}{σ:L2.St}{H:Hp}{b c:Bool}(ht:∀Q:Bool->Hp->Prop,Q b H->t σ H Q)(hu:∀Q:Bool->Hp->Prop,Q c H->u σ H Q)(Q:Bool->Hp->Prop)(q:Q (b||c) H):tOr t u σ H Q:=by
 refine ht _ ?_;cases b with
 |true=>exact YM q
 |false=>exact Z6 (hu _ q)
theorem seq_or{t u:TT}{A B C:L2.TS}{D}{σ:L2.St}{H:Hp}{b c:Bool}(ht:∀Q:Bool->Hp->Prop,Q b H->t σ H Q)(hu:∀Q:Bool->Hp->Prop,Q c H->u σ H Q)(q:if(b||c)=true then A { D with nx:=C D } σ H else B { D with nx:=C D } σ H):tSeq (tIfS (tOr t u) A B) C D σ H:=pure_or ht hu _ q
def qQ:List Str:=["next", "until", "always", "ever", "within"]
theorem fiveW:∀w∈qQ,w ≠ "until" -> w ≠ "within" -> w∈W1:=by decide +kernel
def zy:List Str:=["zyx"]
def sa2:List Str:=["some", "all"]
def ao2:List Str:=["and", "or"]
theorem ao2W:∀w∈ao2,w = "and" \/ w = "or" := by decide +kernel
def Ug(n:Nat)(K:W.Frag)(a:Adr):Sp:=fun vs H Q _=>∃(nm p:Addr) (nn:List Str) (ns:List Int) (d:Nat),vs=[.ref nm,.ref p,.int (d:Nat)]/\d<n/\d<=3/\H nm=some (.lst (nn.map V.str))/\nn.length=3/\(∀x∈nn,Yh x=true)/\nm≠p/\H p=some (.lst (ns.map V.int))/\∀H' v t (ns':List Int),ZJ p H H'->H' p=some (.lst (ns'.map V.int))->At K (2*d+1) H' v t->(post t).length<=5 ^ (d+1)->bkT t = "room" -> Q v H'
theorem vM{c:Lb}{ks:List Tr}(h:∀k∈ks,bkT k=Wb (WR c)):bkT (.node c ks)=(if WR c∈(["yes", "sign", "not", "and", "or", "all", "some"]:List Str) then("room" : Str) else if WR c∈(["next", "until", "always", "ever", "within"]:List Str) then("way" : Str) else("neither" : Str)):=bk_of (t:=.node c ks) h
theorem xc{c:Lb}{ks:List Tr}(hc:WR c∈(["yes", "sign", "not", "and", "or"]:List Str))(h:∀k∈ks,bkT k = "room"):bkT (.node c ks) = "room" := by
 have q:∀w∈(["yes", "sign", "not", "and", "or"]:List Str),Wb w = "room" /\ w∈(["yes", "sign", "not", "and", "or", "all", "some"]:List Str):=by decide +kernel
 obtain⟨q1,q2⟩:=q _ hc;rw[vM (fun k hk=>(h k hk).trans q1.symm),if_pos q2]
theorem bk_qt{w:Str}{k:Tr}(hw:w∈sa2)(h:bkT k = "way"):bkT (.node (.op w) [k]) = "room" := by
 have q:∀w∈sa2,Wb w = "way" /\ w∈(["yes", "sign", "not", "and", "or", "all", "some"]:List Str):=by decide +kernel
 obtain⟨q1,q2⟩:=q _ hw;rw[vM (fun k' hk=>by rw[nj.mp hk,h];exact q1.symm)];exact if_pos q2
theorem bk_wy{c:Lb}{ks:List Tr}(hc:WR c∈qQ)(h:∀k∈ks,bkT k = "room"):bkT (.node c ks) = "way" := by
 have q:∀w∈qQ,Wb w = "room" /\ w∉(["yes", "sign", "not", "and", "or", "all", "some"]:List Str)/\w∈(["next", "until", "always", "ever", "within"]:List Str):=by decide +kernel
 obtain⟨q1,q2,q3⟩:=q _ hc;rw[vM (fun k hk=>(h k hk).trans q1.symm),if_neg q2,if_pos q3]
theorem all1{p:Tr->Prop}{a:Tr}(h:p a):∀k∈[a],p k:=fun k hk=>by rw[nj.mp hk];exact h
theorem all2{p:Tr->Prop}{a b:Tr}(h:p a)(g:p b):∀k∈[a,b],p k:=fun k hk=>by
 rcases nu.mp hk with rfl|hk
 ·exact h
 ·rw[nj.mp hk];exact g
theorem vL{r:Nat}(h:r<2):sa2[r]'h∈sa2:=nk h
theorem VZ{K:W.Frag}{a:Adr}{vs:List V}{H:Hp}{Q:VK}{E:XK}(h:Ug 0 K a vs H Q E):False:=by
 obtain⟨_,_,_,_,d,_,hm,_⟩:=h;omega
theorem yj(T:Txt K mg a)(hw:w.params=a.Pm):∀n:Nat,Ye P w K mg base CX0 (2+n) a._law_branch a.bN ["_law_names_here", "_law_xs", "_law_deep"] (Ug n K a):=by
 have bG:=ve (P:=P) (w:=w) (base:=base) T hw;intro n
 induction n with
 |zero=>exact⟨fun _ _ _ _ h=>(VZ h).elim,fun _ _ _ _ _ _ _ _ _ _ _ _ _ h=>(VZ h).elim⟩
 |succ n aH=>
  refine T.aA.ok Yn (fun vs H Q E h=>?_) (fun lD A outer s H vs Q E hr h=>?_)
  ·obtain⟨nm,p,nn,ns,d,rfl,_⟩:=h;rfl
  ·obtain⟨nm,p,nn,ns,d,rfl,hd,d2,hnm,ln,nnm,nnp,hp,k⟩:=h;refine⟨_,(@Za _ _ _ _ _ (@Zi _ _ (3) _ _ _ _ Yn.nd rfl (Or.inl rfl) (@Zz _ _ _ _ _ _ _ _ Y2 (Zl bG (hr.mono (show _<=2+n by omega)) rfl T.bq T.aZ.kp T.bp .nil Zs (@Zc _ _ _ (pv 1) (by rfl))) Zd) (by rfl) (.inl rfl)) (@Za _ _ _ _ _ (@ZN _ _ _ _ _ _ _ _ (PW.pt (U8 (@Zp _ _ _ _ _ _ _ _ ZU (pv 2) Zd (Zw _)) (V0 (@Zp _ _ _ _ _ _ _ _ ZU (pv 3) Zd (Zw _))))) (@Za _ _ _ _ _ (@ZN _ _ _ _ _ _ _ _ (@Zp _ _ _ _ _ _ _ _ ZU (@Zz _ _ _ _ _ _ _ _ Y2 (Zl bG (hr.mono (show _<=2+n by omega)) rfl T.bq T.aZ.kp T.bp .nil Zs (@Zc _ _ _ (pv 1) (by rfl))) Zd) Zd (Zw _)) (@Zg _ _ _ (@Zq _ _ _ _ (@Yv _ _ _ _ _ (@Zc _ _ _ Zx (by rfl))))) Zu) (@Zg _ _ _ (@Zq _ _ _ _ (@Yv _ _ _ _ _ (@Zr _ _ _ _ _ Zx (@Zc _ _ _ (@Zn _ _ _ _ _ _ _ (Zk (K:=K) rfl) (@Zz _ _ _ _ _ _ _ _ op_cat (pv 0) (@ZW _ _ _ _ (@Zc _ _ _ Zx (by rfl)))) (@Zz _ _ _ _ _ _ _ _ Y2 (Zl bG (hr.mono (show _<=2+n by omega)) rfl T.bq T.aZ.kp T.bp .nil Zs (@Zc _ _ _ (pv 1) (by rfl))) Zd) (fun _ _=>rfl)) (by rfl)) (by rfl)))))) Zu) (@Za _ _ _ _ _ (@ZN _ _ _ _ _ _ _ _ (@Zp _ _ _ _ _ _ _ _ ZU (pv 3) Zd (Zw _)) (@Zg _ _ _ (@Zq _ _ _ _ (@Yv _ _ _ _ _ (@Zr _ _ _ _ _ Zx (@Zc _ _ _ (Zl aH hr rfl T.aE T.aA.kp T.aD .nil Zs (@Z0 _ _ _ _ _ (pv 0) (@Z0 _ _ _ _ _ (pv 1) (@Xk _ _ _ (@Zz _ _ _ _ _ _ _ _ W9 (pv 2) Zd) (by rfl)) (by rfl)) (by rfl))) (by rfl)) (by rfl))))) Zu) (@Za _ _ _ _ _ (@ZN _ _ _ _ _ _ _ _ (@Zp _ _ _ _ _ _ _ _ (WC (K:=K) rfl) (pv 3) (@Yv _ _ _ _ _ (@Zr _ _ _ _ _ Zd (@Zc _ _ _ Zd (by rfl)) (by rfl))) (by with_unfolding_all rfl)) (@Za _ _ _ _ _ (@Zi _ _ (4) _ _ _ _ Yn.nd rfl (Or.inl rfl) (@Zz _ _ _ _ _ _ _ _ Y2 (Zl bG (hr.mono (show _<=2+n by omega)) rfl T.bq T.aZ.kp T.bp .nil Zs (@Zc _ _ _ (pv 1) (by rfl))) Zd) (by rfl) (.inl rfl)) (@Zg _ _ _ (@Zq _ _ _ _ (@Yv _ _ _ _ _ (@Zr _ _ _ _ _ (@Zn _ _ _ _ _ _ _ (Zk (K:=K) rfl) (@ZW _ _ _ _ (@Zr _ _ _ _ _ Zx (@Zc _ _ _ Zx (by rfl)) (by rfl))) (@Zz _ _ _ _ _ _ _ _ W9 (pv 3) Zd) (fun _ _=>rfl)) (@Zc _ _ _ (ZQ (XE (K:=K) rfl) rfl T.cr rZ (@Zc _ _ _ (Zv (Nc:=mh) (ix:=[none,some 0,some 1,some 2]) (ZA.of (by decide +kernel:ZD (Zb YX) ["_law_names_here", "_law_xs", "_law_deep", "_law_way", "_law_many", "_law_word", "_law_one", "_law_part"] ["_law_k", "_law_names_here", "_law_xs", "_law_deep"] [none,some 0,some 1,some 2] _=true)) rfl (ZM rfl T.ae (@Zc _ _ _ (pv 4) (by rfl))) (fun _ _ _ _ _=>(Zh (i:=0) (show List.Nodup mh by decide +kernel) rfl (Or.inl rfl))) (fun _ _ _ _ _=>ZF) (fun _ _ _ _ _=>(Zl aH hr rfl T.aE T.aA.kp T.aD .nil Zs (@Z0 _ _ _ _ _ (pv 1) (@Z0 _ _ _ _ _ (pv 2) (@Xk _ _ _ (@Zz _ _ _ _ _ _ _ _ W9 (pv 3) Zd) (by rfl)) (by rfl)) (by rfl))))) (by rfl))) (by rfl)) (by rfl)))))) Zu) (@Za _ _ _ _ _ (@Zi _ _ (5) _ _ _ _ Yn.nd rfl (Or.inl rfl) (@Zn _ _ _ _ _ _ _ (Zk (K:=K) rfl) (@ZW _ _ _ _ (@Z0 _ _ _ _ _ Zx (@Z0 _ _ _ _ _ Zx (@Z0 _ _ _ _ _ Zx (@Z0 _ _ _ _ _ Zx (@Xk _ _ _ Zx (by rfl)) (by rfl)) (by rfl)) (by rfl)) (by rfl))) (@Zz _ _ _ _ _ _ _ _ W9 (pv 3) Zd) (fun _ _=>rfl)) (by rfl) (.inl rfl)) (@Za _ _ _ _ _ (@Zi _ _ (6) _ _ _ _ Yn.nd rfl (Or.inl rfl) (Zl aH hr rfl T.aE T.aA.kp T.aD .nil Zs (@Z0 _ _ _ _ _ (pv 0) (@Z0 _ _ _ _ _ (pv 1) (@Xk _ _ _ (@Zz _ _ _ _ _ _ _ _ W9 (pv 2) Zd) (by rfl)) (by rfl)) (by rfl))) (by rfl) (.inl rfl)) (@Za _ _ _ _ _ (@Zi _ _ (7) _ _ _ _ Yn.nd rfl (Or.inl rfl) (@Yv _ _ _ _ _ (@Zr _ _ _ _ _ (pv 5) (@Zc _ _ _ (pv 6) (by rfl)) (by rfl))) (by rfl) (.inl rfl)) (@Za _ _ _ _ _ (@ZN _ _ _ _ _ _ _ _ (@Zp _ _ _ _ _ _ _ _ ZU (pv 5) Zx (Zw _)) (@Zg _ _ _ (@Zi _ _ (7) _ _ _ _ Yn.nd rfl (Or.inl rfl) (@Yv _ _ _ _ _ (@Z0 _ _ _ _ _ (pv 5) (@Z0 _ _ _ _ _ (pv 6) (@Xk _ _ _ (Zl aH hr rfl T.aE T.aA.kp T.aD .nil Zs (@Z0 _ _ _ _ _ (pv 0) (@Z0 _ _ _ _ _ (pv 1) (@Xk _ _ _ (@Zz _ _ _ _ _ _ _ _ W9 (pv 2) Zd) (by rfl)) (by rfl)) (by rfl))) (by rfl)) (by rfl)) (by rfl))) (by rfl) (.inl rfl))) Zu) (@Za _ _ _ _ _ (@ZN _ _ _ _ _ _ _ _ (@Zp _ _ _ _ _ _ _ _ ZU (pv 5) Zx (Zw _)) (@Za _ _ _ _ _ (@Zi _ _ (4) _ _ _ _ Yn.nd rfl (Or.inl rfl) (@Zz _ _ _ _ _ _ _ _ Y2 (Zl bG (hr.mono (show _<=2+n by omega)) rfl T.bq T.aZ.kp T.bp .nil Zs (@Zc _ _ _ (pv 1) (by rfl))) (@Zn _ _ _ _ _ _ _ (Zk (K:=K) rfl) (@ZW _ _ _ _ (@Zr _ _ _ _ _ Zd (@Zc _ _ _ Zd (by rfl)) (by rfl))) (ZQ (call_int1) rfl T.i7 PyProof.Rows.Boot.«int» (@Zc _ _ _ (@YQ _ _ _ _ _ _ _ _ ZU (pv 2) Zd (Zw _)) (by rfl))) (fun _ _=>rfl))) (by rfl) (.inl rfl)) (@Zg _ _ _ (@Zi _ _ (7) _ _ _ _ Yn.nd rfl (Or.inl rfl) (@Yv _ _ _ _ _ (@Z0 _ _ _ _ _ (pv 5) (@Z0 _ _ _ _ _ (pv 4) (@Z0 _ _ _ _ _ (pv 6) (@Xk _ _ _ (Zl aH hr rfl T.aE T.aA.kp T.aD .nil Zs (@Z0 _ _ _ _ _ (pv 0) (@Z0 _ _ _ _ _ (pv 1) (@Xk _ _ _ (@Zz _ _ _ _ _ _ _ _ W9 (pv 2) Zd) (by rfl)) (by rfl)) (by rfl))) (by rfl)) (by rfl)) (by rfl)) (by rfl))) (by rfl) (.inl rfl)))) Zu) (@Zg _ _ _ (@Zq _ _ _ _ (@Yv _ _ _ _ _ (@Zr _ _ _ _ _ (@Zn _ _ _ _ _ _ _ (Zk (K:=K) rfl) (@ZW _ _ _ _ (@Zr _ _ _ _ _ Zx (@Zc _ _ _ Zx (by rfl)) (by rfl))) (@Zz _ _ _ _ _ _ _ _ Y2 (Zl bG (hr.mono (show _<=2+n by omega)) rfl T.bq T.aZ.kp T.bp .nil Zs (@Zc _ _ _ (pv 1) (by rfl))) Zd) (fun _ _=>rfl)) (@Zc _ _ _ (pv 7) (by rfl)) (by rfl)))))))))))))),?_⟩;obtain⟨os,hos⟩:∃o,H p=some o:=⟨_,hp⟩;refine⟨_,rfl,p,ns,rfl,hp,fun H1 m1 ns1 x1 hp1=>⟨_,_,rfl,rfl,by decide,?_⟩⟩;obtain⟨y,ey,y9⟩:=Uk m1 (m:=9) (by decide);have ey':m1%9=(y:Int):=ey;rw[ey'];have hnm1:=x1 _ _ nnp hnm;have p5:5<=5 ^ (d+1):=by rw[pT];have:=Nat.one_le_pow d 5 (by decide);omega
   dsimp only[Xt,tNext]
   show tSeq (tIfS (tOr _ _) _ _) _ _ [some (.ref nm),some (.ref p),some (.int (d:Nat)),some (.int (y:Nat)),none,none,none,none] H1
   refine seq_or (b:=decide (V.int (d:Nat)=V.int 0)) (c:=decide (V.int (y:Nat)=V.int 0)) ?_ ?_ ?_
   ·exact fun Q q=>⟨_,rfl,rfl,_,rfl,q⟩
   ·exact fun Q q=>⟨_,rfl,rfl,_,rfl,q⟩
   refine XS (fun c=>?_) (fun c=>?_)
   ·refine⟨_,rfl,p,ns1,rfl,hp1,fun H2 m2 ns2 x2 hp2=>⟨_,_,rfl,rfl,by decide,rfl,_,rfl,XS (fun c=>?_) (fun c=>?_)⟩⟩
    ·refine⟨sz1,fun t ht=>?_⟩;obtain⟨H3,qN,u3,e3⟩:=ZV (o:=.tup [.str "yes"]) ht;rw[qN];exact k H3 _ (.node .yes []) ns2 ((x1.trans x2).trans (Zf.x u3)) (u3 _ _ hp2) (at_yes (rT e3)) (by rw[Xz];show 0+1<=_;omega) (xc (by decide +kernel) (fun k hk=>by cases hk))
    ·have hnm2:=x2 _ _ nnp hnm1;refine⟨_,rfl,sz1,fun B hB=>?_⟩;obtain⟨H3,qN,u3,e3⟩:=ZV (o:=.lst (zy.map V.str)) hB;have qN':upd H2 B (.lst [.str "zyx"])=H3:=qN;rw[qN'];clear qN qN';refine⟨nm,B,_,_,rfl,rfl,u3 _ _ hnm2,e3,by rw[mM,mM,ln,mN];decide,fun C hC=>?_⟩;rw[<- nP];obtain⟨H4,qN,u4,e4⟩:=ZV (o:=.lst ((nn++zy).map V.str)) hC;rw[qN];have l4:(nn++zy).length=4:=by rw[mT,ln];rfl
     have nC:C≠p:=fun e=>by rw[e,u3 _ _ hp2] at hC;cases hC
     refine⟨_,rfl,p,ns2,rfl,(u3.trans u4) _ _ hp2,fun H5 m5 ns5 x5 hp5=>?_⟩;obtain⟨r,er,hr4⟩:=Uk m5 (m:=4) (by decide);have hz:Yh ((nn++zy)[r]'(by omega))=true:=by
      have hm:=nk (show r<(nn++zy).length by omega);rcases nE.mp hm with h|h
      ·exact nnm _ h
      ·rw[nj.mp h];decide +kernel
     refine⟨_,_,rfl,rfl,by decide,C,_,_,.str ((nn++zy)[r]'(by omega)),rfl,rfl,rS (x5 _ _ nC e4),by rw[show(4:Int)=((4:Nat):Int) from rfl,er];exact qF (by omega),sz2,fun t ht=>?_⟩;generalize ((nn++zy)[r]'(by omega))=z at hz;obtain⟨H6,qN,u6,e6⟩:=ZV (o:=.tup [.str "sign",.str z]) ht;rw[qN];exact k H6 _ (.node (.sign z) []) ns5 ((x1.trans x2).trans ((Zf.x (u3.trans u4)).trans (x5.trans (Zf.x u6)))) (u6 _ _ hp5) (vE (rT e6) hz) (by rw[Xz];show 0+1<=_;omega) (xc (show("sign" : Str)∈_ by decide +kernel) (fun k hk=>by cases hk))
   have hc:¬(d=0)/\¬(y=0):=by
    refine⟨fun z=>c ?_,fun z=>c ?_⟩
    ·subst z;rfl
    ·subst z;rw[rg];exact .inr rfl
   obtain⟨hd0,hy0⟩:=hc;obtain⟨e,rfl⟩:∃e,d=e+1:=⟨d-1,by omega⟩;have q1:5 ^ (e+1+1)=5 ^ (e+1)*5:=pT ..;have q4:5<=5 ^ (e+1):=by rw[pT];have:=Nat.one_le_pow e 5 (by decide);omega
   have ed:((e+1:Nat):Int)-1=((e:Nat):Int):=by omega
   clear c p5;refine⟨_,rfl,rfl,_,rfl,XS (fun c=>?_) (fun c=>?_)⟩
   ·refine⟨_,rfl,_,rfl,_,rfl,_,_,rfl,rfl,nm,p,nn,ns1,e,by rw[ed];rfl,by omega,by omega,hnm1,ln,nnm,nnp,hp1,fun H2 v1 t1 ns2 x2 hp2 at1 gz1 bk1=>⟨sz2,fun t ht=>?_⟩⟩;obtain⟨H3,qN,u3,e3⟩:=ZV (o:=.tup [.str "not",v1]) ht;rw[qN];exact k H3 _ (.node (.op "not") [t1]) ns2 ((x1.trans x2).trans (Zf.x u3)) (u3 _ _ hp2) ((qS (rT e3) (by decide +kernel) (at1.mono (rV u3))).le (by omega)) (by rw[Xz,Y0];omega) (xc (show("not" : Str)∈_ by decide +kernel) (all1 bk1))
   have hy1:¬y=1:=fun z=>c (by subst z;rfl);clear c;refine⟨_,rfl,sz2,fun B hB=>?_⟩;obtain⟨H2,qN,u2,e2⟩:=ZV (o:=.tup [.int 2,.int 3]) hB;rw[qN];have hp2:=u2 _ _ hp1;have hnm2:=u2 _ _ hnm1;have x2:=x1.trans (Zf.x u2);refine⟨B,_,rfl,.inr (rT e2),rfl,rfl,_,rfl,XS (fun c=>?_) (fun c=>?_)⟩
   ·refine⟨_,rfl,p,ns1,rfl,hp2,fun H3 m3 ns3 x3 hp3=>⟨_,_,rfl,rfl,by decide,?_⟩⟩;have hy23:y=2\/y=3:=by
     apply oJ;intro z;have c':inV (V.int (y:Nat)) (([2,3]:List Int).map V.int)=true:=c;rw[inV_int] at c';have:=ny c';simp at this;omega
    obtain⟨mm,em,hm4⟩:=Uk m3 (m:=4) (by decide);have em':m3%4=(mm:Int):=em;rw[em'];have hnm3:=x3 _ _ nnp hnm2;refine⟨sz2,fun L hL=>?_⟩;obtain⟨H4,qN,u4,e4⟩:=ZV (o:=.lst (ao2.map V.str)) hL;have qN':upd H3 L (.lst [.str "and",.str "or"])=H4:=qN;rw[qN'];clear qN qN';have nL:L≠p:=fun e=>by rw[e,hp3] at hL;cases hL
    have ey2:((y:Nat):Int)-2=((y-2:Nat):Int):=by omega
    have ha2:=ao2W _ (nk (show y-2<ao2.length from(by show y-2<2;omega)));refine⟨_,rfl,_,_,rfl,rfl,L,_,_,.str (ao2[y-2]'(by show y-2<2;omega)),rfl,rfl,rS e4,by rw[ey2];exact qF (l:=ao2) (show y-2<2 by omega),?_⟩;generalize (ao2[y-2]'(by show y-2<2;omega))=wd at ha2;have hp4:=u4 _ _ hp3;refine⟨_,rfl,_,rfl,by omega,by omega,fun D hD=>?_⟩;rw[mY];have nD:D≠p:=fun e=>by rw[e,hp4] at hD;cases hD
    have x4:ZJ p H H4:=x2.trans (x3.trans (Zf.x u4));refine Xy (J:=Itr 0 mm) (n:=mm) (fun i σ G=>∃(z:Option V) (us:List V) (ks:List Tr) (ns':List Int),σ=[z,some (.ref nm),some (.ref p),some (.int ((e+1:Nat):Int))]/\ZJ p H4 G/\G p=some (.lst (ns'.map V.int))/\G D=some (.lst us)/\AtL K (2*e+1) G us ks/\ks.length=i/\(Yq ks).length<=i*5 ^ (e+1)/\∀k∈ks,bkT k = "room") ?_ (fun _ _ _ h _=>h) (fun _ _ _=>mP _) ?_ ?_
    ·exact⟨_,[],[],ns3,rfl,Zf.x (Zj hD),Zj hD _ _ hp4,Ze,AtL.nil,rfl,by simp[Yq],fun k hk=>by cases hk⟩
    ·rintro i x σ G0 G hi ⟨z,us,ks,ns',rfl,xG,hpG,gD,aL,kl,sz,bks⟩ ⟨rfl,rfl⟩ N N0 hN hN0;have hnmG:=xG _ _ nnp (u4 _ _ hnm3);refine⟨_,rfl,_,rfl,_,rfl,_,_,rfl,rfl,nm,p,nn,ns',e,by rw[ed];rfl,by omega,by omega,hnmG,ln,nnm,nnp,hpG,fun G2 v1 t1 ns2 y2 hp2 at1 gz1 bk1=>?_⟩;have ul:=aL.1;have gD2:=y2 _ _ nD gD;have tU:=upd_tupL (o:=.lst (us++[v1])) gD2;refine hN _ _ G2 _ gD2 (by rw[mN];omega) ⟨_,us++[v1],ks++[t1],ns2,rfl,(xG.trans y2).updN hD,by rw[Zy (nN nD)];exact hp2,Ze,(aL.mono ((ZJ.tup y2 hpG).trans tU)).app (AtL.one (at1.mono tU)),by rw[mT,kl];rfl,?_,fun k hk=>?_⟩
     ·rw[WZ,Y0,mT,Nat.succ_mul];omega
     ·rcases nE.mp hk with hk|hk
      ·exact bks k hk
      ·rw[nj.mp hk];exact bk1
    rintro σ G ⟨z,us,ks,ns',rfl,xG,hpG,gD,aL,kl,sz,bks⟩;refine⟨D,_,rfl,.inl ⟨rS gD,fun b hb=>?_⟩⟩;obtain⟨G2,qN,g2,e5⟩:=ZV (o:=.tup us) hb;rw[qN];refine⟨sz2,fun t ht=>?_⟩;obtain⟨G3,qN,g3,e6⟩:=ZV (o:=.tup [.str wd,.ref b]) ht;rw[qN];have gz3:mm*5 ^ (e+1)<=3*5 ^ (e+1):=Nat.mul_le_mul_right _ (by omega);exact k G3 _ (.node (.many wd) ks) ns' (x4.trans (xG.trans (Zf.x (g2.trans g3)))) ((g2.trans g3) _ _ hpG) ((at_mny (rT e6) (rT (g3 _ _ e5)) (aL.mono (rV (g2.trans g3))) ha2 (by omega)).le (by omega)) (by rw[Xz];omega) (xc (by rcases ha2 with rfl|rfl<;>(show _∈(_:List Str))<;>decide +kernel) bks)
   have hy4:4<=y:=by
    apply oJ;intro z;apply c;rcases(show y=2\/y=3 by omega) with rfl|rfl<;>decide
   clear c;refine⟨sz5,fun L5 hL5=>?_⟩;obtain⟨H3,qN,u3,e3⟩:=ZV (o:=.lst (qQ.map V.str)) hL5;have qN':upd H2 L5 (.lst [.str "next",.str "until",.str "always",.str "ever",.str "within"])=H3:=qN;rw[qN'];clear qN qN';have ey4:((y:Nat):Int)-4=((y-4:Nat):Int):=by omega
   have hw5:=fiveW _ (nk (show y-4<qQ.length from(by show y-4<5;omega)));have hwf:qQ[y-4]'(by show y-4<5;omega)∈qQ:=nk _;refine⟨_,rfl,_,_,rfl,rfl,L5,_,_,.str (qQ[y-4]'(by show y-4<5;omega)),rfl,rfl,rS e3,by rw[ey4];exact qF (l:=qQ) (show y-4<5 by omega),?_⟩;generalize (qQ[y-4]'(by show y-4<5;omega))=wd at hw5 hwf;refine⟨_,rfl,_,rfl,_,rfl,_,_,rfl,rfl,nm,p,nn,ns1,e,by rw[ed];rfl,by omega,by omega,u3 _ _ hnm2,ln,nnm,nnp,u3 _ _ hp2,fun H4 v1 t1 ns4 x4 hp4 at1 gz1 bk1=>?_⟩;have hnm4:=x4 _ _ nnp (u3 _ _ hnm2);refine⟨_,rfl,_,rfl,sz2,fun T0 hT0=>?_⟩;obtain⟨H5,qN,u5,e5⟩:=ZV (o:=.tup [.str wd,v1]) hT0;rw[qN];have hp5:=u5 _ _ hp4;have hnm5:=u5 _ _ hnm4;have at5:=at1.mono (rV u5);have x5:ZJ p H H5:=x2.trans ((Zf.x u3).trans (x4.trans (Zf.x u5)));refine⟨_,rfl,rfl,_,rfl,XS (fun c=>?_) (fun c=>?_)⟩
   ·have cw:wd = "until" := V.str.inj (ny c);subst cw;refine⟨_,rfl,_,rfl,_,rfl,_,rfl,_,rfl,_,_,rfl,rfl,nm,p,nn,ns4,e,by rw[ed];rfl,by omega,by omega,hnm5,ln,nnm,nnp,hp5,fun H6 v2 t2 ns6 x6 hp6 at2 gz2 bk2=>⟨sz3,fun T hT=>?_⟩⟩;obtain⟨J0,qN,u6,e6⟩:=ZV (o:=.tup [.str "until",v1,v2]) hT;rw[qN];have hJ:=u6 _ _ hp6;have xJ:ZJ p H J0:=x5.trans (x6.trans (Zf.x u6));have t56:XA H5 J0:=(ZJ.tup x6 hp5).trans (rV u6);have atP:At K (2*e+2) J0 (.ref T) (.node (.op "until") [t1,t2]):=at_op2 (rT e6) (by decide +kernel) (at5.mono t56) (at2.mono (rV u6));have szP:(post (.node (.op "until") [t1,t2])).length<=2*5 ^ (e+1)+1:=by rw[Xz,show[t1,t2]=[t1]++[t2] from rfl,WZ,Y0,Y0,mT];omega
    have bkP:bkT (.node (.op "until") [t1,t2]) = "way" := bk_wy (show("until" : Str)∈qQ by decide +kernel) (all2 bk1 bk2);generalize Tr.node (.op "until") [t1,t2]=tp at atP szP bkP;refine⟨_,rfl,rfl,_,rfl,XS (fun c=>absurd (V.str.inj (ny c)) (by decide +kernel)) (fun _=>?_)⟩;refine⟨sz2,fun L hL=>?_⟩;obtain⟨J1,qN,j1,eL⟩:=ZV (o:=.lst (sa2.map V.str)) hL;have qN':upd J0 L (.lst [.str "some",.str "all"])=J1:=qN;rw[qN'];clear qN qN';have nL:L≠p:=fun e=>by rw[e,hJ] at hL;cases hL
    refine⟨_,rfl,p,_,rfl,j1 _ _ hJ,fun J2 m2 ns2 y2 hp2=>?_⟩;obtain⟨r2,er2,hr2⟩:=Uk m2 (m:=2) (by decide);refine⟨_,_,rfl,rfl,by decide,L,_,_,.str (sa2[r2]'hr2),rfl,rfl,rS (y2 _ _ nL eL),by rw[show(2:Int)=((2:Nat):Int) from rfl,er2];exact qF hr2,_,rfl,sz2,fun T2 hT2=>?_⟩;obtain⟨J3,qN,j3,e3⟩:=ZV (o:=.tup [.str (sa2[r2]'hr2),.ref T]) hT2;rw[qN];have tj:XA J0 J3:=(rV j1).trans ((ZJ.tup y2 (j1 _ _ hJ)).trans (rV j3));have w1:(sa2[r2]'hr2)∈W1:=by
     have h:∀x∈sa2,x∈W1:=by decide +kernel
     exact h _ (nk hr2)
    exact k J3 _ (.node (.op (sa2[r2]'hr2)) [tp]) ns2 (xJ.trans ((Zf.x j1).trans (y2.trans (Zf.x j3)))) (j3 _ _ hp2) ((qS (rT e3) w1 (atP.mono tj)).le (by omega)) (by rw[Xz,Y0];omega) (bk_qt (vL hr2) bkP)
   have cw1:wd ≠ "until" := fun z=>c (by rw[z];rfl);clear c;refine⟨_,rfl,rfl,_,rfl,XS (fun c=>?_) (fun c=>?_)⟩
   ·have cw:wd = "within" := V.str.inj (ny c);subst cw;refine⟨_,rfl,p,ns4,rfl,hp5,fun H6 m6 ns6 x6 hp6=>⟨sz2,fun L6 hL6=>?_⟩⟩;obtain⟨H7,qN,u7,e7⟩:=ZV (o:=.lst [.int 2,.int 6]) hL6;rw[qN];refine⟨_,rfl,rfl,.inr ⟨_,rfl,?_⟩⟩;obtain⟨b2,eb2,b20,b26⟩:∃b2:Int,atI [V.int 2,.int 6] (if decide (V.int ((e+1:Nat):Int)=V.int 1)=true then 1 else 0)=some (.int b2)/\0<b2/\b2<=6:=by
     by_cases z:decide (V.int ((e+1:Nat):Int)=V.int 1)=true
     ·rw[if_pos z];exact⟨6,rfl,by decide,by decide⟩
     ·rw[if_neg z];exact⟨2,rfl,by decide,by decide⟩
    refine⟨L6,_,_,.int b2,rfl,rfl,rS e7,eb2,_,_,rfl,rfl,b20,?_⟩;have g0:=oq m6 (show b2≠0 by omega);have g1:=oI m6 b20;generalize m6%b2=mm at g0 g1 ⊢;have hp7:=u7 _ _ hp6;refine⟨_,rfl,_,rfl,_,rfl,_,rfl,_,rfl,_,rfl,_,_,rfl,rfl,nm,p,nn,ns6,e,by rw[ed];rfl,by omega,by omega,u7 _ _ (x6 _ _ nnp hnm5),ln,nnm,nnp,hp7,fun H8 v2 t2 ns8 x8 hp8 at2 gz2 bk2=>⟨sz4,fun T hT=>?_⟩⟩;obtain⟨J0,qN,u9,e9⟩:=ZV (o:=.tup [.str "within",.int mm,v1,v2]) hT;rw[qN];have hJ:=u9 _ _ hp8;have xJ:ZJ p H J0:=x5.trans (x6.trans ((Zf.x u7).trans (x8.trans (Zf.x u9))));have t56:XA H5 J0:=(ZJ.tup x6 hp5).trans ((rV u7).trans ((ZJ.tup x8 hp7).trans (rV u9)));have atP:At K (2*e+2) J0 (.ref T) (.node (.wit mm) [t1,t2]):=at_wit (rT e9) ⟨by omega,by omega⟩ (at5.mono t56) (at2.mono (rV u9));have szP:(post (.node (.wit mm) [t1,t2])).length<=2*5 ^ (e+1)+1:=by rw[Xz,show[t1,t2]=[t1]++[t2] from rfl,WZ,Y0,Y0,mT];omega
    have bkP:bkT (.node (.wit mm) [t1,t2]) = "way" := bk_wy (show("within" : Str)∈qQ by decide +kernel) (all2 bk1 bk2);generalize Tr.node (.wit mm) [t1,t2]=tp at atP szP bkP;refine⟨sz2,fun L hL=>?_⟩;obtain⟨J1,qN,j1,eL⟩:=ZV (o:=.lst (sa2.map V.str)) hL;have qN':upd J0 L (.lst [.str "some",.str "all"])=J1:=qN;rw[qN'];clear qN qN';have nL:L≠p:=fun e=>by rw[e,hJ] at hL;cases hL
    refine⟨_,rfl,p,_,rfl,j1 _ _ hJ,fun J2 m2 ns2 y2 hp2=>?_⟩;obtain⟨r2,er2,hr2⟩:=Uk m2 (m:=2) (by decide);refine⟨_,_,rfl,rfl,by decide,L,_,_,.str (sa2[r2]'hr2),rfl,rfl,rS (y2 _ _ nL eL),by rw[show(2:Int)=((2:Nat):Int) from rfl,er2];exact qF hr2,_,rfl,sz2,fun T2 hT2=>?_⟩;obtain⟨J3,qN,j3,e3⟩:=ZV (o:=.tup [.str (sa2[r2]'hr2),.ref T]) hT2;rw[qN];have tj:XA J0 J3:=(rV j1).trans ((ZJ.tup y2 (j1 _ _ hJ)).trans (rV j3));have w1:(sa2[r2]'hr2)∈W1:=by
     have h:∀x∈sa2,x∈W1:=by decide +kernel
     exact h _ (nk hr2)
    exact k J3 _ (.node (.op (sa2[r2]'hr2)) [tp]) ns2 (xJ.trans ((Zf.x j1).trans (y2.trans (Zf.x j3)))) (j3 _ _ hp2) ((qS (rT e3) w1 (atP.mono tj)).le (by omega)) (by rw[Xz,Y0];omega) (bk_qt (vL hr2) bkP)
   have cw2:wd ≠ "within" := fun z=>c (by rw[z];rfl);have w1m:=hw5 cw1 cw2;have atP:At K (2*e+2) H5 (.ref T0) (.node (.op wd) [t1]):=qS (rT e5) w1m at5;have szP:(post (.node (.op wd) [t1])).length<=2*5 ^ (e+1)+1:=by rw[Xz,Y0];omega
   have bkP:bkT (.node (.op wd) [t1]) = "way" := bk_wy (show wd∈qQ from hwf) (all1 bk1);generalize Tr.node (.op wd) [t1]=tp at atP szP bkP;have hJ:=hp5;have xJ:=x5;clear e5 at5 hnm5;generalize H5=J0 at atP hJ xJ ⊢;refine⟨sz2,fun L hL=>?_⟩;obtain⟨J1,qN,j1,eL⟩:=ZV (o:=.lst (sa2.map V.str)) hL;have qN':upd J0 L (.lst [.str "some",.str "all"])=J1:=qN;rw[qN'];clear qN qN';have nL:L≠p:=fun e=>by rw[e,hJ] at hL;cases hL
   refine⟨_,rfl,p,_,rfl,j1 _ _ hJ,fun J2 m2 ns2 y2 hp2=>?_⟩;obtain⟨r2,er2,hr2⟩:=Uk m2 (m:=2) (by decide);refine⟨_,_,rfl,rfl,by decide,L,_,_,.str (sa2[r2]'hr2),rfl,rfl,rS (y2 _ _ nL eL),by rw[show(2:Int)=((2:Nat):Int) from rfl,er2];exact qF hr2,_,rfl,sz2,fun T2 hT2=>?_⟩;obtain⟨J3,qN,j3,e3⟩:=ZV (o:=.tup [.str (sa2[r2]'hr2),.ref T0]) hT2;rw[qN];have tj:XA J0 J3:=(rV j1).trans ((ZJ.tup y2 (j1 _ _ hJ)).trans (rV j3));have w1:(sa2[r2]'hr2)∈W1:=by
    have h:∀x∈sa2,x∈W1:=by decide +kernel
    exact h _ (nk hr2)
   exact k J3 _ (.node (.op (sa2[r2]'hr2)) [tp]) ns2 (xJ.trans ((Zf.x j1).trans (y2.trans (Zf.x j3)))) (j3 _ _ hp2) ((qS (rT e3) w1 (atP.mono tj)).le (by omega)) (by rw[Xz,Y0];omega) (bk_qt (vL hr2) bkP)
def vh(K:W.Frag)(a:Adr):Sp:=fun vs H Q _=>∃x,vs=[x]/\KdL H x/\∀H',Zf H H'->Q (.bl (Yf H x)) H'
theorem vU(T:Txt K mg a)(hw:w.params=a.Pm):Ye P w K mg base CX0 2 a.are_names a.cu lF (vh K a):=by
 have gX:=ym (P:=P) (w:=w) (base:=base) T hw;refine T.df.ok vB (fun vs H Q E h=>?_) (fun lD A outer s H vs Q E hr h=>?_)
 ·obtain⟨x,rfl,_⟩:=h;rfl
 ·obtain⟨x,rfl,hk,k⟩:=h;refine⟨_,(@Za _ _ _ _ _ (@ZN _ _ _ _ _ _ _ _ (PW.pt (U8 (@Wa _ _ _ _ (XG (Zm (Wk (K:=K) rfl "list") rfl T.al r8 (@Zr _ _ _ _ _ (pv 0) (@Zc _ _ _ (WK (v:=.ty "list") rfl T.bT rX rfl) (by rfl)) (by rfl))))) (V0 (@Wa _ _ _ _ (XG (Zm (X3 (K:=K) rfl rfl) rfl T.hV r6 (@Zc _ _ _ (Zv (Nc:=["name"]) (ix:=[none]) (ZA.of (by decide +kernel:ZD (Zb XF) ["thing"] ["name"] [none] _=true)) rfl (ZC (K:=K) rfl (pv 0)) (fun _ _ _ _ _=>(Zh (i:=0) (show List.Nodup (["name"]:List Str) by decide +kernel) rfl (Or.inl rfl))) (fun _ _ _ _ _=>ZF) (fun _ _ _ _ _=>(Zl gX (hr.mono (by decide)) rfl T.gF T.fE.kp T.gE .nil Zs (@Zc _ _ _ (pv 0) (by rfl))))) (by rfl)))))))) (@Zg _ _ _ (@Zq _ _ _ _ Wv)) Zu) (@Zg _ _ _ (@Zq _ _ _ _ (@YQ _ _ _ _ _ _ _ _ ZU (Zm (ZI (K:=K) rfl) rfl T.aX rW (@Zc _ _ _ (ZQ (xI (K:=K) rfl rfl) rfl T.i9 PyProof.Rows.Boot.«set» (@Zc _ _ _ (pv 0) (by rfl))) (by rfl))) (Zm (ZI (K:=K) rfl) rfl T.aX rW (@Zc _ _ _ (pv 0) (by rfl))) (Zw _))))),?_⟩;rcases Uj hk.1 with⟨hb,p,xs,rfl,hp,hl⟩|⟨hb,e⟩
  ·obtain⟨t,h1,h2⟩:=WQ K (by simp) hk.1 hb;obtain⟨hz,hy⟩:=hk.2 xs hl;have hS:xs.length<=sizeLine:=by rw[mN];omega
   have ev:Yf H (.ref p)=(xs.all XO&&decide xs.Nodup):=by unfold Yf;rw[hl]
   rw[ev] at k;refine⟨_,rfl,_,t,_,rfl,h1,h2,_,rfl,Z6 ?_⟩;refine⟨_,rfl,p,rfl,⟨xs,rS hp⟩,fun D hD=>?_⟩;refine Wz (K:=K) hD (rS hp) hS (fun i v _=>∀x,xs[i]?=some x->v=.bl (XO x)) (fun _ _ _ _ _ q=>q) ?_ ?_
   ·intro i x H2 N hx sm hN;refine⟨_,rfl,x,rfl,(hy x (om hx)).mono sm,fun H3 s3=>hN _ _ s3 fun x' hx'=>?_⟩;rw[hx] at hx';cases hx';rfl
   ·intro H2 ys hD2 sm hlen hr;have ey:=Va (f:=XO) hlen fun i v x h1 h2=>hr i v h1 x h2;refine⟨D,_,rfl,rS (by rw[hD2,ey]),_,rfl,?_⟩;rw[yG];cases hall:xs.all XO with
    |false=>
     rw[hall] at k;exact YM (k H2 sm)
    |true=>
     rw[hall] at k;obtain⟨ks,rfl⟩:=yJ hall;rw[mM] at hz;refine Z6 ⟨_,rfl,p,ks,rfl,rS (sm _ _ hp),by omega,fun n c a1 a2 hc=>?_⟩;have s3:Zf H (upd H2 c (SetN c n)):=sm.trans (Zj hc);refine .inr (.inr ⟨c,n,rfl,Ze,by omega,_,rfl,.inl ⟨p,_,rfl,.inl (rS (s3 _ _ hp)),rfl,?_⟩⟩);rw[dec_len rfl a2];exact k _ s3
  ·obtain⟨t,h1,h2⟩:=WQ K (by simp) hk.1 hb;have q:=k H (.refl H);have e2:Yf H x=false:=by unfold Yf;rw[e]
   rw[e2] at q;exact⟨_,rfl,_,t,_,rfl,h1,h2,_,rfl,YM (YM q)⟩
def vn(K:W.Frag)(a:Adr):Sp:=fun vs H Q _=>∃x n,vs=[x,.int n]/\KdL H x/\∀H',Zf H H'->Q (.bl (Wp H n x)) H'
theorem vC(T:Txt K mg a)(hw:w.params=a.Pm):Ye P w K mg base CX0 3 a.are_rooms a.cy lJ (vn K a):=by
 have i4:=kK (P:=P) (w:=w) (base:=base) T hw;refine T.fh.ok ja (fun vs H Q E h=>?_) (fun lD A outer s H vs Q E hr h=>?_)
 ·obtain⟨x,n,rfl,_⟩:=h;rfl
 ·obtain⟨x,n,rfl,hk,k⟩:=h;refine⟨_,(@Zg _ _ _ (@Zq _ _ _ _ (YD (Zm (Wk (K:=K) rfl "list") rfl T.al r8 (@Zr _ _ _ _ _ (pv 0) (@Zc _ _ _ (WK (v:=.ty "list") rfl T.bT rX rfl) (by rfl)) (by rfl))) (Yr (Zm (X3 (K:=K) rfl rfl) rfl T.hV r6 (@Zc _ _ _ (Zv (Nc:=["room", "many"]) (ix:=[none,some 1]) (ZA.of (by decide +kernel:ZD (Zb XC) ["thing", "many"] ["room", "many"] [none,some 1] _=true)) rfl (ZC (K:=K) rfl (pv 0)) (fun _ _ _ _ _=>(Zh (i:=0) (show List.Nodup (["room", "many"]:List Str) by decide +kernel) rfl (Or.inl rfl))) (fun _ _ _ _ _=>ZF) (fun _ _ _ _ _=>(Zl i4 (hr.mono (by decide)) rfl T.iD T.gG.kp T.iC .nil Zs (@Zr _ _ _ _ _ (pv 0) (@Zc _ _ _ (pv 1) (by rfl)) (by rfl))))) (by rfl))))))),?_⟩;rcases Uj hk.1 with⟨hb,p,xs,rfl,hp,hl⟩|⟨hb,e⟩
  ·obtain⟨t,h1,h2⟩:=WQ K (by simp) hk.1 hb;obtain⟨hz,hy⟩:=hk.2 xs hl;have hS:xs.length<=sizeLine:=by rw[mN];omega
   have ev:Wp H n (.ref p)=xs.all (Xu n):=by unfold Wp;rw[hl]
   rw[ev] at k;refine⟨_,rfl,_,t,_,rfl,h1,h2,_,rfl,YM ?_⟩;refine⟨_,rfl,p,rfl,⟨xs,rS hp⟩,fun D hD=>?_⟩;refine Wz (K:=K) hD (rS hp) hS (fun i v _=>∀x,xs[i]?=some x->v=.bl (Xu n x)) (fun _ _ _ _ _ q=>q) ?_ ?_
   ·intro i x H2 N hx sm hN;refine⟨_,rfl,_,rfl,x,n,rfl,(hy x (om hx)).mono sm,hN _ _ (.refl _) fun x' hx'=>?_⟩;rw[hx] at hx';cases hx';rfl
   ·intro H2 ys hD2 sm hlen hr;have ey:=Va (f:=Xu n) hlen fun i v x h1 h2=>hr i v h1 x h2;refine⟨D,_,rfl,rS (by rw[hD2,ey]),?_⟩;rw[yG];exact k H2 sm
  ·obtain⟨t,h1,h2⟩:=WQ K (by simp) hk.1 hb;have q:=k H (.refl H);have e2:Wp H n x=false:=by unfold Wp;rw[e]
   rw[e2] at q;exact⟨_,rfl,_,t,_,rfl,h1,h2,_,rfl,Z6 q⟩
def ql(K:W.Frag)(a:Adr):Sp:=fun vs H Q _=>∃x n,vs=[x,.int n]/\KdL H x/\∀H',Zf H H'->Q (.bl (Z7 H n x)) H'
theorem UY(T:Txt K mg a)(hw:w.params=a.Pm):Ye P w K mg base CX0 4 a.are_some_rooms a.bc lJ (ql K a):=by
 have iR:=vC (P:=P) (w:=w) (base:=base) T hw;refine T.bo.ok qe (fun vs H Q E h=>?_) (fun lD A outer s H vs Q E hr h=>?_)
 ·obtain⟨x,n,rfl,_⟩:=h;rfl
 ·obtain⟨x,n,rfl,hk,k⟩:=h;refine⟨_,(@Za _ _ _ _ _ (@ZN _ _ _ _ _ _ _ _ (PW.pt (U8 (@Wa _ _ _ _ (XG (Zl iR (hr.mono (by decide)) rfl T.gI T.fh.kp T.gH .nil Zs (@Zr _ _ _ _ _ (pv 0) (@Zc _ _ _ (pv 1) (by rfl)) (by rfl))))) (V0 (@Zp _ _ _ _ _ _ _ _ ZU (Zm (ZI (K:=K) rfl) rfl T.aX rW (@Zc _ _ _ (pv 0) (by rfl))) Zd (Zw _))))) (@Zg _ _ _ (@Zq _ _ _ _ Wv)) Zu) (@Zg _ _ _ (@Zq _ _ _ _ (@YQ _ _ _ _ _ _ _ _ ZU (Zm (ZI (K:=K) rfl) rfl T.aX rW (@Zc _ _ _ (ZQ (xI (K:=K) rfl rfl) rfl T.i9 PyProof.Rows.Boot.«set» (@Zc _ _ _ (pv 0) (by rfl))) (by rfl))) (Zm (ZI (K:=K) rfl) rfl T.aX rW (@Zc _ _ _ (pv 0) (by rfl))) (Zw _))))),?_⟩;refine⟨_,rfl,_,rfl,x,n,rfl,hk,fun H1 s1=>⟨_,rfl,?_⟩⟩;rcases Uj hk.1 with⟨hb,p,xs,rfl,hp,hl⟩|⟨hb,e⟩
  ·obtain⟨hz,hy⟩:=hk.2 xs hl;have ev:Wp H n (.ref p)=xs.all (Xu n):=by unfold Wp;rw[hl]
   have ew:Z7 H n (.ref p)=(xs.all (Xu n)&&!xs.isEmpty&&decide xs.Nodup):=by unfold Z7;rw[hl]
   rw[ew] at k;rw[ev];cases hall:xs.all (Xu n) with
   |false=>
    rw[hall] at k;exact YM (YM (k H1 s1))
   |true=>
    rw[hall] at k;refine Z6 ⟨_,rfl,.inl ⟨p,xs,rfl,.inl (rS (s1 _ _ hp)),rfl,_,rfl,?_⟩⟩;cases xs with
    |nil=>
     exact YM (k H1 s1)
    |cons y r=>
     have e0:decide (V.int (((y::r).length:Nat):Int)=V.int 0)=false:=by
      refine nH fun q=>?_;have q':=V.int.inj q;rw[n9] at q';omega
     rw[e0];obtain⟨ks,eks⟩:=yw hall;rw[eks] at hp k hz;rw[mM] at hz;refine Z6 ⟨_,rfl,p,ks,rfl,rS (s1 _ _ hp),by omega,fun m c a1 a2 hc=>?_⟩;have s3:Zf H (upd H1 c (SetN c m)):=s1.trans (Zj hc);refine .inr (.inr ⟨c,m,rfl,Ze,by omega,_,rfl,.inl ⟨p,_,rfl,.inl (rS (s3 _ _ hp)),rfl,?_⟩⟩);rw[dec_len rfl a2];have q:=k _ s3;have ne:(!(ks.map kV).isEmpty)=true:=by rw[<- eks];rfl
     rw[ne] at q;exact q
  ·have ev:Wp H n x=false:=by unfold Wp;rw[e]
   have ew:Z7 H n x=false:=by unfold Z7;rw[e]
   rw[ew] at k;rw[ev];exact YM (YM (k H1 s1))
def yI(K:W.Frag)(a:Adr):Sp:=fun vs H Q _=>∃x y z u,vs=[x,y,z,u]/\KdLL H x/\KdLL H y/\KdL H z/\KdL H u/\∀H',Zf H H'->Q (.bl (VF H x y z u)) H'
theorem z3(T:Txt K mg a)(hw:w.params=a.Pm):Ye P w K mg base CX0 5 a.makes_world a.bL mG (yI K a):=by
 have g6:=vU (P:=P) (w:=w) (base:=base) T hw;have dC:=UY (P:=P) (w:=w) (base:=base) T hw;refine T.dn.ok VO (fun vs H Q E h=>?_) (fun lD A outer s H vs Q E hr h=>?_)
 ·obtain⟨x,y,z,u,rfl,_⟩:=h;rfl
 ·obtain⟨x,y,z,u,rfl,kx,ky,kz,ku,k⟩:=h;refine⟨_,(@Za _ _ _ _ _ (@ZN _ _ _ _ _ _ _ _ (PW.pt (U8 (@Wa _ _ _ _ (XG (Zm (Wk (K:=K) rfl "list") rfl T.al r8 (@Zr _ _ _ _ _ (pv 0) (@Zc _ _ _ (WK (v:=.ty "list") rfl T.bT rX rfl) (by rfl)) (by rfl))))) (V0 (@Wa _ _ _ _ (XG (Zm (Wk (K:=K) rfl "list") rfl T.al r8 (@Zr _ _ _ _ _ (pv 1) (@Zc _ _ _ (WK (v:=.ty "list") rfl T.bT rX rfl) (by rfl)) (by rfl)))))))) (@Zg _ _ _ (@Zq _ _ _ _ Wv)) Zu) (@Za _ _ _ _ _ (@Zi _ _ (4) _ _ _ _ VO.nd rfl (Or.inr rfl) (Zm (ZI (K:=K) rfl) rfl T.aX rW (@Zc _ _ _ (pv 0) (by rfl))) (by rfl) (.inl rfl)) (@Za _ _ _ _ _ (@ZN _ _ _ _ _ _ _ _ (PW.pt (U8 (@Wa _ _ _ _ (jy zn zn Zd (pv 4) (UZ rfl T.gA))) (V0 (@Zp _ _ _ _ _ _ _ _ op_ne (Zm (ZI (K:=K) rfl) rfl T.aX rW (@Zc _ _ _ (pv 1) (by rfl))) (pv 4) (Zw _))))) (@Zg _ _ _ (@Zq _ _ _ _ Wv)) Zu) (@Za _ _ _ _ _ (@ZN _ _ _ _ _ _ _ _ (@Wa _ _ _ _ (XG (Zm (X3 (K:=K) rfl rfl) rfl T.hV r6 (@Zc _ _ _ (Zv (Nc:=["names"]) (ix:=[none]) (ZA.of (by decide +kernel:ZD (Zb Yy) ["signs", "ways", "starts", "fair", "many"] ["names"] [none] _=true)) rfl (ZC (K:=K) rfl (pv 0)) (fun _ _ _ _ _=>(Zh (i:=0) (show List.Nodup (["names"]:List Str) by decide +kernel) rfl (Or.inl rfl))) (fun _ _ _ _ _=>ZF) (fun _ _ _ _ _=>(Zl g6 (hr.mono (by decide)) rfl T.fg T.df.kp T.fe .nil Zs (@Zc _ _ _ (pv 0) (by rfl))))) (by rfl))))) (@Zg _ _ _ (@Zq _ _ _ _ Wv)) Zu) (@Za _ _ _ _ _ (@ZN _ _ _ _ _ _ _ _ (@Wa _ _ _ _ (XG (Zm (X3 (K:=K) rfl rfl) rfl T.hV r6 (@Zc _ _ _ (Zv (Nc:=["rooms", "many"]) (ix:=[none,some 4]) (ZA.of (by decide +kernel:ZD (Zb Yy) ["signs", "ways", "starts", "fair", "many"] ["rooms", "many"] [none,some 4] _=true)) rfl (ZC (K:=K) rfl (pv 1)) (fun _ _ _ _ _=>(Zh (i:=0) (show List.Nodup (["rooms", "many"]:List Str) by decide +kernel) rfl (Or.inl rfl))) (fun _ _ _ _ _=>ZF) (fun _ _ _ _ _=>(Zl dC (hr.mono (by decide)) rfl T.bV T.bo.kp T.bU .nil Zs (@Zr _ _ _ _ _ (pv 0) (@Zc _ _ _ (pv 1) (by rfl)) (by rfl))))) (by rfl))))) (@Zg _ _ _ (@Zq _ _ _ _ Wv)) Zu) (@Zg _ _ _ (@Zq _ _ _ _ (YD (Zl dC (hr.mono (by decide)) rfl T.bV T.bo.kp T.bU .nil Zs (@Zr _ _ _ _ _ (pv 2) (@Zc _ _ _ (pv 4) (by rfl)) (by rfl))) (YD (Zl g6 (hr.mono (by decide)) rfl T.fg T.df.kp T.fe .nil Zs (@Zc _ _ _ (pv 3) (by rfl))) (Yr (@YQ _ _ _ _ _ _ _ _ zn (Zm (ZI (K:=K) rfl) rfl T.aX rW (@Zc _ _ _ (pv 3) (by rfl))) (UZ rfl T.gR) (Zw _)))))))))))),?_⟩;rcases Uj kx.1 with⟨hb,p,xs,rfl,hp,hl⟩|⟨hb,e⟩
  case inr=>
   obtain⟨t,h1,h2⟩:=WQ K (by simp) kx.1 hb;have q:=k H (.refl H);have e2:VF H x y z u=false:=by unfold VF;rw[e]
   rw[e2] at q;exact⟨_,rfl,_,t,_,rfl,h1,h2,_,rfl,YM (YM q)⟩
  obtain⟨t,h1,h2⟩:=WQ K (by simp) kx.1 hb;refine⟨_,rfl,_,t,_,rfl,h1,h2,_,rfl,Z6 ?_⟩;rcases Uj ky.1 with⟨hb2,p2,ys,rfl,hp2,hl2⟩|⟨hb2,e⟩
  case inr=>
   obtain⟨t,h1,h2⟩:=WQ K (by simp) ky.1 hb2;have q:=k H (.refl H);have e2:VF H (.ref p) y z u=false:=by unfold VF;rw[hl,e]
   rw[e2] at q;exact⟨_,rfl,_,t,_,rfl,h1,h2,_,rfl,YM q⟩
  obtain⟨t2,h3,h4⟩:=WQ K (by simp) ky.1 hb2;refine⟨_,rfl,_,t2,_,rfl,h3,h4,_,rfl,Z6 ?_⟩;obtain⟨hz,hy⟩:=kx.2 xs hl;obtain⟨hz2,hy2⟩:=ky.2 ys hl2;have hS:xs.length<=sizeLine:=by rw[mN];omega
  have hS2:ys.length<=sizeLine:=by rw[mN];omega
  have ev:VF H (.ref p) (.ref p2) z u=(decide (1<=xs.length)&&decide (xs.length<=20)&&decide (ys.length=xs.length)&&xs.all (Yf H)&&ys.all (Z7 H xs.length)&&(Z7 H xs.length z&&(Yf H u&&few3 (Ws H u)))):=by unfold VF;rw[hl,hl2]
  rw[ev] at k;refine⟨_,rfl,.inl ⟨p,xs,rfl,.inl (rS hp),?_⟩⟩;refine⟨_,rfl,_,_,rfl,rfl,_,rfl,?_⟩;cases c1:decide ((1:Int)<=xs.length) with
  |false=>
   have e1:decide (1<=xs.length)=false:=nH fun q=>absurd (rB c1) (by omega);rw[e1] at k;exact Z6 ⟨_,rfl,YM (YM (k H (.refl H)))⟩
  |true=>
  have e1:decide (1<=xs.length)=true:=nG (by have:=ny c1;omega);rw[e1] at k;refine YM ⟨_,_,rfl,rfl,_,rfl,?_⟩;cases c2:decide ((xs.length:Int)<=20) with
  |false=>
   have e2:decide (xs.length<=20)=false:=nH fun q=>absurd (rB c2) (by omega);rw[e2] at k;exact YM (YM (k H (.refl H)))
  |true=>
  have e2:decide (xs.length<=20)=true:=nG (by have:=ny c2;omega);rw[e2] at k;refine Z6 ⟨_,rfl,.inl ⟨p2,ys,rfl,.inl (rS hp2),_,rfl,rfl,_,rfl,?_⟩⟩;cases c3:decide (V.int (ys.length:Int)=V.int (xs.length:Int)) with
  |false=>
   have e3:decide (ys.length=xs.length)=false:=nH fun q=>absurd (rB c3) (by rw[q];simp);rw[e3] at k;exact YM (k H (.refl H))
  |true=>
  have e3:decide (ys.length=xs.length)=true:=nG (by have:=V.int.inj (ny c3);omega);rw[e3] at k;refine Z6 ⟨_,rfl,p,rfl,⟨xs,rS hp⟩,fun D hD=>?_⟩;refine Wz (K:=K) hD (rS hp) hS (fun i v _=>∀x,xs[i]?=some x->v=.bl (Yf H x)) (fun _ _ _ _ _ q=>q) ?_ ?_
  ·intro i x H2 N hx sm hN;have hk:=hy x (om hx);refine⟨_,rfl,x,rfl,hk.mono sm,fun H3 s3=>hN _ _ s3 fun x' hx'=>?_⟩;rw[hx] at hx';cases hx';rw[Uw sm hk.1]
  intro H2 zs hD2 sm hlen hr;have ey:=Va (f:=Yf H) hlen fun i v x h1 h2=>hr i v h1 x h2;refine⟨D,_,rfl,rS (by rw[hD2,ey]),_,rfl,?_⟩;rw[yG];cases c4:xs.all (Yf H) with
  |false=>
   rw[c4] at k;exact YM (k H2 sm)
  |true=>
  rw[c4] at k;refine Z6 ⟨_,rfl,p2,rfl,⟨ys,rS (sm _ _ hp2)⟩,fun D' hD'=>?_⟩;refine Wz (K:=K) hD' (rS (sm _ _ hp2)) hS2 (fun i v _=>∀x,ys[i]?=some x->v=.bl (Z7 H xs.length x)) (fun _ _ _ _ _ q=>q) ?_ ?_
  ·intro i x H3 N hx sm3 hN;have hk:=hy2 x (om hx);have s3:=sm.trans sm3;refine⟨_,rfl,_,rfl,x,_,rfl,hk.mono s3,fun H4 s4=>hN _ _ s4 fun x' hx'=>?_⟩;rw[hx] at hx';cases hx';rw[Ua s3 hk.1]
  intro H3 zs3 hD3 sm3 hlen3 hr3;have s3:=sm.trans sm3;have ey3:=Va (f:=Z7 H xs.length) hlen3 fun i v x h1 h2=>hr3 i v h1 x h2;refine⟨D',_,rfl,rS (by rw[hD3,ey3]),_,rfl,?_⟩;rw[yG];cases c5:ys.all (Z7 H xs.length) with
  |false=>
   rw[c5] at k;exact YM (k H3 s3)
  |true=>
  rw[c5] at k;refine Z6 ⟨_,rfl,_,rfl,z,_,rfl,kz.mono s3,fun H4 s4=>⟨_,rfl,?_⟩⟩;rw[Ua s3 kz.1];have s5:=s3.trans s4;cases c6:Z7 H xs.length z with
  |false=>
   rw[c6] at k;exact Z6 (k H4 s5)
  |true=>
  rw[c6] at k;refine YM ⟨_,rfl,u,rfl,ku.mono s5,fun H5 s6=>⟨_,rfl,?_⟩⟩;rw[Uw s5 ku.1];have s7:=s5.trans s6;cases c7:Yf H u with
  |false=>
   rw[c7] at k;exact Z6 (k H5 s7)
  |true=>
  rw[c7] at k;rcases Uj ku.1 with⟨_,p4,fs,rfl,hp4,hl4⟩|⟨_,e⟩
  ·rw[hl4] at k;refine YM ⟨_,rfl,.inl ⟨p4,fs,rfl,.inl (rS (s7 _ _ hp4)),_,_,rfl,rfl,?_⟩⟩;have q:=k H5 s7;have e8:decide (fs.length<=3)=decide ((fs.length:Int)<=3):=oF.mpr (by omega);simp only[few3] at q;rw[e8] at q;exact q
  ·unfold Yf at c7;rw[e] at c7;cases c7
def y0(K:W.Frag)(a:Adr):Sp:=fun vs H Q _=>∃p dx x y z u d,vs=[.ref p,x,y,z,u]/\H p=some (.ins a.C_World dx [])/\X6 H x y z u d/\XR d/\∀H',ZJ p H H'->Xb a.C_World H' p d->Q .non H'
theorem Uz(T:Txt K mg a)(hw:w.params=a.Pm):Ye P w K mg base CX0 6 a.World_init a.bY mH (y0 K a):=by
 have iz:=z3 (P:=P) (w:=w) (base:=base) T hw;refine T.gj.ok yM (fun vs H Q E h=>?_) (fun lD A outer s H vs Q E hr h=>?_)
 ·obtain⟨p,dx,x,y,z,u,d,rfl,_⟩:=h;rfl
 ·obtain⟨p,dx,x,y,z,u,d,rfl,hp,pp,gd,k⟩:=h;refine⟨_,(@Za _ _ _ _ _ (@ZN _ _ _ _ _ _ _ _ (@Wa _ _ _ _ (XG (Zl iz (hr.mono (by decide)) rfl T.fM T.dn.kp T.fL .nil Zs (@Z0 _ _ _ _ _ (pv 1) (@Z0 _ _ _ _ _ (pv 2) (@Z0 _ _ _ _ _ (pv 3) (@Xk _ _ _ (pv 4) (by rfl)) (by rfl)) (by rfl)) (by rfl))))) (@Zg _ _ _ yB) Zu) (@Za _ _ _ _ _ (Vz (pv 0) (ZQ (XE (K:=K) rfl) rfl T.cr rZ (@Zc _ _ _ (Zv (Nc:=["names"]) (ix:=[none]) (ZA.of (by decide +kernel:ZD (Zb YS) ["self", "signs", "ways", "starts", "fair"] ["names"] [none] _=true)) rfl (ZC (K:=K) rfl (pv 1)) (fun _ _ _ _ _=>(Zh (i:=0) (show List.Nodup (["names"]:List Str) by decide +kernel) rfl (Or.inl rfl))) (fun _ _ _ _ _=>ZF) (fun _ _ _ _ _=>(ZQ (XE (K:=K) rfl) rfl T.cr rZ (@Zc _ _ _ (Zm (VB (K:=K) rfl) rfl T.fQ r9 (@Zc _ _ _ (pv 0) (by rfl))) (by rfl))))) (by rfl))) rfl) (@Za _ _ _ _ _ (Vz (pv 0) (ZQ (XE (K:=K) rfl) rfl T.cr rZ (@Zc _ _ _ (Zv (Nc:=["rooms"]) (ix:=[none]) (ZA.of (by decide +kernel:ZD (Zb YS) ["self", "signs", "ways", "starts", "fair"] ["rooms"] [none] _=true)) rfl (ZC (K:=K) rfl (pv 2)) (fun _ _ _ _ _=>(Zh (i:=0) (show List.Nodup (["rooms"]:List Str) by decide +kernel) rfl (Or.inl rfl))) (fun _ _ _ _ _=>ZF) (fun _ _ _ _ _=>(ZQ (XE (K:=K) rfl) rfl T.cr rZ (@Zc _ _ _ (Zm (VB (K:=K) rfl) rfl T.fQ r9 (@Zc _ _ _ (pv 0) (by rfl))) (by rfl))))) (by rfl))) rfl) (@Za _ _ _ _ _ (Vz (pv 0) (ZQ (XE (K:=K) rfl) rfl T.cr rZ (@Zc _ _ _ (Zm (VB (K:=K) rfl) rfl T.fQ r9 (@Zc _ _ _ (pv 3) (by rfl))) (by rfl))) rfl) (@Zg _ _ _ (Vz (pv 0) (ZQ (XE (K:=K) rfl) rfl T.cr rZ (@Zc _ _ _ (pv 4) (by rfl))) rfl)))))),?_⟩;obtain⟨kx,ky,kz,ku⟩:=pp.kd gd;have hm:=pp.makes gd;refine⟨_,rfl,_,rfl,_,rfl,_,rfl,x,y,z,u,rfl,kx,ky,kz,ku,fun H1 s1=>⟨_,rfl,?_⟩⟩;rw[hm];refine Z6 ?_;have p1:=pp.mono s1;have hp1:=s1 _ _ hp;have ph:=p1.hid hp1;have:=gd.n20;have:=gd.wl;obtain⟨b1,v1,e1,g1,l1,q1⟩:=p1.s;subst e1;refine⟨_,rfl,b1,rfl,⟨v1,rS g1⟩,fun D hD=>?_⟩;refine Wz (K:=K) hD (rS g1) (by rw[mN];omega) (fun i v G=>∀ss,d.signs[i]?=some ss->TS G v (Wm ss)) (fun i v _ _ sm q ss e=>TS.mono _ _ _ _ sm (q ss e)) ?_ ?_
  ·intro i w H2 N hx sm hN;have hi:i<d.signs.length:=by rw[<- l1];exact(nT.mp hx).1
   obtain⟨c,rfl,ec⟩:=q1 i w _ hx (mO hi);have hg:=gd.sn _ (nk hi);refine⟨_,rfl,.inl ⟨c,_,rfl,rS (sm _ _ ec),by omega,fun l hl=>⟨l,_,rfl,.inl ⟨rS Ze,fun t ht=>?_⟩⟩⟩⟩;refine hN _ _ ((Zj hl).trans (Zj ht)) fun ss hss=>⟨t,rfl,New.mk ((Zj hl).free ht) ?_⟩;rw[mO hi] at hss;cases hss;rw[Ze]
  intro H2 w1 hD2 s2 lw1 r1;refine⟨D,w1,rfl,.inl ⟨rS hD2,fun t1 ht1=>?_⟩⟩;have st1:=Zj (o:=.tup w1) ht1;have hp2:=st1 _ _ (s2 _ _ hp1);refine⟨_,rfl,p,_,dx,[],rfl,hp2,T.aQ,T.aR,by decide,?_⟩;have x2:ZJ p H1 (upd (upd H2 t1 (.tup w1)) p (.ins a.C_World dx (Xd "room_signs" (.ref t1) []))):=(Zf.x (s2.trans st1)).upd;have np1:t1≠p:=fun z=>by subst z;rw[s2 _ _ hp1] at ht1;cases ht1
  have W1:LT TS (hide p (upd (upd H2 t1 (.tup w1)) p (.ins a.C_World dx (Xd "room_signs" (.ref t1) [])))) (.ref t1) (d.signs.map Wm):=by
   refine xW (xs:=d.signs) (Y9 np1 (by rw[Zy np1,Ze])) (lw1.trans l1) fun i v hv ss hss=>?_;refine TS.mono _ _ _ _ ?_ (r1 i v hv ss hss);exact(New.hidden hp1).trans (ZJ.hide ((Zf.x st1).upd))
  have hp3:(upd (upd H2 t1 (.tup w1)) p (.ins a.C_World dx (Xd "room_signs" (.ref t1) []))) p=some (.ins a.C_World dx (Xd "room_signs" (.ref t1) [])):=Ze;rw[put1] at x2 W1 hp3 ⊢;generalize upd (upd H2 t1 (.tup w1)) p (.ins a.C_World dx ([("room_signs",V.ref t1)]:List (Str×V)))=H3 at x2 W1 hp3 ⊢;have p3:=(ph.mono x2.hide).mono Xi;obtain⟨b2,v2,e2,g2,l2,q2⟩:=p3.w;subst e2;refine⟨_,rfl,b2,rfl,⟨v2,rS g2⟩,fun D2 hDD=>?_⟩;refine Wz (K:=K) hDD (rS g2) (by rw[mN];omega) (fun i v G=>∀ss,d.ways[i]?=some ss->TIn G v (Xw ss)) (fun i v _ _ sm q ss e=>TIn.mono _ _ _ _ sm (q ss e)) ?_ ?_
  ·intro i w H4 N hx sm hN;have hi:i<d.ways.length:=by rw[<- l2];exact(nT.mp hx).1
   obtain⟨c,rfl,ec⟩:=q2 i w _ hx (mO hi);have hg:=gd.wn _ (nk hi);refine⟨_,rfl,.inr ⟨c,_,rfl,rS (sm _ _ ec),by omega,fun l hl=>⟨l,_,rfl,.inl ⟨rS Ze,fun t ht=>?_⟩⟩⟩⟩;refine hN _ _ ((Zj hl).trans (Zj ht)) fun ss hss=>⟨t,rfl,New.mk ((Zj hl).free ht) ?_⟩;rw[mO hi] at hss;cases hss;rw[Ze]
  intro H4 w2 hD4 s4 lw2 r2;refine⟨D2,w2,rfl,.inl ⟨rS hD4,fun t2 ht2=>?_⟩⟩;have st2:=Zj (o:=.tup w2) ht2;have hp4:=st2 _ _ (s4 _ _ hp3);refine⟨_,rfl,p,_,dx,_,rfl,hp4,T.aQ,T.bD,by simp,?_⟩;have x4:ZJ p H3 (upd (upd H4 t2 (.tup w2)) p (.ins a.C_World dx (Xd "room_ways" (.ref t2) ([("room_signs",V.ref t1)]:List (Str×V))))):=(Zf.x (s4.trans st2)).upd;have np2:t2≠p:=fun z=>by subst z;rw[s4 _ _ hp3] at ht2;cases ht2
  have W2:LT TIn (hide p (upd (upd H4 t2 (.tup w2)) p (.ins a.C_World dx (Xd "room_ways" (.ref t2) ([("room_signs",V.ref t1)]:List (Str×V)))))) (.ref t2) (d.ways.map Xw):=by
   refine xW (xs:=d.ways) (Y9 np2 (by rw[Zy np2,Ze])) (lw2.trans l2) fun i v hv ss hss=>?_;refine TIn.mono _ _ _ _ ?_ (r2 i v hv ss hss);exact(New.hidden hp3).trans (ZJ.hide ((Zf.x st2).upd))
  have hp5:(upd (upd H4 t2 (.tup w2)) p (.ins a.C_World dx (Xd "room_ways" (.ref t2) ([("room_signs",V.ref t1)]:List (Str×V))))) p=some (.ins a.C_World dx (Xd "room_ways" (.ref t2) ([("room_signs",V.ref t1)]:List (Str×V)))):=Ze;have W1:=LT.mono TS.mono _ _ _ _ x4.hide W1;rw[put2] at x4 W1 W2 hp5 ⊢;generalize upd (upd H4 t2 (.tup w2)) p (.ins a.C_World dx ([("room_signs",V.ref t1),("room_ways",V.ref t2)]:List (Str×V)))=H5 at x4 W1 W2 hp5 ⊢;have x5:=x2.trans x4;have p5:=(ph.mono x5.hide).mono Xi;obtain⟨b3,e3,g3⟩:=p5.st;subst e3;have hst:=gd.stn.2.2.2;refine⟨_,rfl,.inr ⟨b3,_,rfl,rS g3,by omega,fun l hl=>⟨l,_,rfl,.inl ⟨rS Ze,fun t3 ht3=>?_⟩⟩⟩⟩;have st3:=(Zj (o:=.lst ((Xw d.starts).map V.int)) hl).trans (Zj (o:=.tup ((Xw d.starts).map V.int)) ht3);have hp6:=st3 _ _ hp5;refine⟨_,rfl,p,_,dx,_,rfl,hp6,T.aQ,T.bW,by simp,?_⟩;have np3:t3≠p:=fun z=>by subst z;rw[Zj hl _ _ hp5] at ht3;cases ht3
  have x6:ZJ p H5 (upd (upd (upd H5 l (.lst ((Xw d.starts).map V.int))) t3 (.tup ((Xw d.starts).map V.int))) p (.ins a.C_World dx (Xd "start_rooms" (.ref t3) ([("room_signs",V.ref t1),("room_ways",V.ref t2)]:List (Str×V))))):=(Zf.x st3).upd;have hp7:(upd (upd (upd H5 l (.lst ((Xw d.starts).map V.int))) t3 (.tup ((Xw d.starts).map V.int))) p (.ins a.C_World dx (Xd "start_rooms" (.ref t3) ([("room_signs",V.ref t1),("room_ways",V.ref t2)]:List (Str×V))))) p=some (.ins a.C_World dx (Xd "start_rooms" (.ref t3) ([("room_signs",V.ref t1),("room_ways",V.ref t2)]:List (Str×V)))):=Ze;have W3:TIn (hide p (upd (upd (upd H5 l (.lst ((Xw d.starts).map V.int))) t3 (.tup ((Xw d.starts).map V.int))) p (.ins a.C_World dx (Xd "start_rooms" (.ref t3) ([("room_signs",V.ref t1),("room_ways",V.ref t2)]:List (Str×V)))))) (.ref t3) (Xw d.starts):=⟨t3,rfl,Y9 np3 (by rw[Zy np3,Ze])⟩;have W1:=LT.mono TS.mono _ _ _ _ x6.hide W1;have W2:=LT.mono TIn.mono _ _ _ _ x6.hide W2;rw[put3] at x6 W1 W2 W3 hp7 ⊢;generalize upd (upd (upd H5 l (.lst ((Xw d.starts).map V.int))) t3 (.tup ((Xw d.starts).map V.int))) p (.ins a.C_World dx ([("room_signs",V.ref t1),("room_ways",V.ref t2),("start_rooms",V.ref t3)]:List (Str×V)))=H7 at x6 W1 W2 W3 hp7 ⊢;have x7:=x5.trans x6;have p7:=(ph.mono x7.hide).mono Xi;obtain⟨b4,e4,g4⟩:=p7.f;subst e4;refine⟨_,rfl,b4,_,rfl,.inl ⟨rS g4,fun t4 ht4=>?_⟩⟩;have st4:=Zj (o:=.tup (d.fair.map V.str)) ht4;have hp8:=st4 _ _ hp7;refine⟨_,rfl,p,_,dx,_,rfl,hp8,T.aQ,T.br,by simp,?_⟩;have np4:t4≠p:=fun z=>by subst z;rw[hp7] at ht4;cases ht4
  have x8:ZJ p H7 (upd (upd H7 t4 (.tup (d.fair.map V.str))) p (.ins a.C_World dx (Xd "fair_names" (.ref t4) ([("room_signs",V.ref t1),("room_ways",V.ref t2),("start_rooms",V.ref t3)]:List (Str×V))))):=(Zf.x st4).upd;refine k _ ((Zf.x s1).trans (x7.trans x8)) ⟨dx,.ref t1,.ref t2,.ref t3,.ref t4,by rw[Ze,put4],?_,?_,?_,?_⟩
  ·exact LT.mono TS.mono _ _ _ _ (x8.hide.trans Xi) W1
  ·exact LT.mono TIn.mono _ _ _ _ (x8.hide.trans Xi) W2
  ·exact TIn.mono _ _ _ _ (x8.hide.trans Xi) W3
  ·exact⟨t4,rfl,by rw[Zy np4,Ze]⟩
def zc(K:W.Frag)(a:Adr):Sp:=fun vs H Q _=>∃(c:Int),vs=[.int c]/\∀H',Zf H H'->Q (.bl true) H'
theorem qO(T:Txt K mg a)(hw:w.params=a.Pm):Ye P w K mg base CX0 10 a._law_long_row a.bn lV (zc K a):=by
 have iA:=jR (P:=P) (w:=w) (base:=base) T hw;have bv:=UA (P:=P) (w:=w) (base:=base) T hw;have ee:=Uz (P:=P) (w:=w) (base:=base) T hw;refine T.cn.ok ZX (fun vs H Q E h=>?_) (fun lD A outer s H vs Q E hr h=>?_)
 ·obtain⟨c,rfl,_⟩:=h;rfl
 ·obtain⟨c,rfl,k⟩:=h;refine⟨_,(@Za _ _ _ _ _ (@Zi _ _ (1) _ _ _ _ ZX.nd rfl (Or.inl rfl) (@Zz _ _ _ _ _ _ _ _ X8 Zd (@Zz _ _ _ _ _ _ _ _ Y2 (@Zz _ _ _ _ _ _ _ _ Vd (pv 0) Zd) Zd)) (by rfl) (.inl rfl)) (@Za _ _ _ _ _ (@Zi _ _ (2) _ _ _ _ ZX.nd rfl (Or.inl rfl) (ZQ (YJ (K:=K) rfl rfl) rfl T.bT rX (@Zc _ _ _ (ZQ (VS) rfl T.ae rY (@Zc _ _ _ (pv 1) (by rfl))) (by rfl))) (by rfl) (.inl rfl)) (Vo (@ZN _ _ _ _ _ _ _ _ (@Zp _ _ _ _ _ _ _ _ ZU (@Zz _ _ _ _ _ _ _ _ Y2 (pv 0) Zd) Zd (Zw _)) (@Zg _ _ _ (@Zi _ _ (2) _ _ _ _ ZX.nd rfl (Or.inl rfl) (pe_revK (K:=K) rfl (pv 2) (Vt (VU Ud Zd))) (by rfl) (.inl rfl))) Zu) (@Za _ _ _ _ _ (Wj (i:=3) ZX.nd rfl rfl (Nc:=lL) (ix:=[none]) (ZA.of (by decide +kernel:ZD (Zb Yc) ["_law_cell", "_law_many", "_law_order", "_law_ways", "_law_k", "_law_signs", "_law_world_here", "_law_due", "_law_found"] ["_law_room"] [none] _=true)) rfl (ZC (K:=K) rfl (pv 2)) (fun _ _ _ _ _=>(Zh (i:=0) (show List.Nodup lL by decide +kernel) rfl (Or.inl rfl))) (fun _ _ _ _ _=>ZF) (fun _ _ _ _ _=>(@ZW _ _ _ _ XH))) (@Za _ _ _ _ _ (Xo nB rfl (ZM rfl T.ae (@Zc _ _ _ (pv 1) (by rfl))) (Zh (i:=4) ZX.nd rfl (Or.inl rfl)) (@Zg _ _ _ (ps_setL (@ZW _ _ _ _ (@Zc _ _ _ (@Zn _ _ _ _ _ _ _ (Zk (K:=K) rfl) (pv 2) (Zm (call_min2 rfl) rfl T.lg PyProof.Rows.Boot.«min» (@Zr _ _ _ _ _ (@Zz _ _ _ _ _ _ _ _ X8 (pv 4) Zd) (@Zc _ _ _ (@Zz _ _ _ _ _ _ _ _ W9 (pv 1) Zd) (by rfl)) (by rfl))) (fun _ _=>rfl)) (by rfl))) (pv 3) (@Zn _ _ _ _ _ _ _ (Zk (K:=K) rfl) (pv 2) (pv 4) (fun _ _=>rfl))))) (@Za _ _ _ _ _ (Wj (i:=5) ZX.nd rfl rfl (Nc:=lL) (ix:=[none]) (ZA.of (by decide +kernel:ZD (Zb Yc) ["_law_cell", "_law_many", "_law_order", "_law_ways", "_law_k", "_law_signs", "_law_world_here", "_law_due", "_law_found"] ["_law_room"] [none] _=true)) rfl (ZC (K:=K) rfl (pv 2)) (fun _ _ _ _ _=>(Zh (i:=0) (show List.Nodup lL by decide +kernel) rfl (Or.inl rfl))) (fun _ _ _ _ _=>ZF) (fun _ _ _ _ _=>(@ZW _ _ _ _ XH))) (@Za _ _ _ _ _ (ps_setL (@ZW _ _ _ _ (@Zc _ _ _ Zx (by rfl))) (pv 5) (@Zn _ _ _ _ _ _ _ (Zk (K:=K) rfl) (pv 2) (VU Ud Zd) (fun _ _=>rfl))) (@Za _ _ _ _ _ (@Zi _ _ (6) _ _ _ _ ZX.nd rfl (Or.inl rfl) (zM T.io ee (hr.mono (by decide)) rfl T.iP T.dQ .nil Zs (@Z0 _ _ _ _ _ (pv 5) (@Z0 _ _ _ _ _ (pv 3) (@Z0 _ _ _ _ _ (@ZW _ _ _ _ (@Zc _ _ _ Zd (by rfl))) (@Xk _ _ _ (@ZW _ _ _ _ (@Zc _ _ _ Zx (by rfl))) (by rfl)) (by rfl)) (by rfl)) (by rfl))) (by rfl) (.inl rfl)) (@Za _ _ _ _ _ (@Zi _ _ (7) _ _ _ _ ZX.nd rfl (Or.inl rfl) L2.pe_dnewK (by rfl) (.inl rfl)) (@Za _ _ _ _ _ (Xo nB rfl (ZM rfl T.ae (@Zc _ _ _ (pv 1) (by rfl))) (Zh (i:=4) ZX.nd rfl (Or.inl rfl)) (@Zg _ _ _ (vw (hu_of hr) (pv 7) (@Zn _ _ _ _ _ _ _ (Zk (K:=K) rfl) (pv 2) (pv 4) (fun _ _=>rfl)) (@Zz _ _ _ _ _ _ _ _ W9 (@Zz _ _ _ _ _ _ _ _ W9 (pv 1) Zd) (pv 4)) rfl))) (@Za _ _ _ _ _ (@Zi _ _ (8) _ _ _ _ ZX.nd rfl (Or.inl rfl) (Zl iA (hr.mono (by decide)) rfl T.ii T.gL.kp T.ig .nil Zs (@Z0 _ _ _ _ _ (pv 6) (@Z0 _ _ _ _ _ (@Yv _ _ _ _ _ (@Zr _ _ _ _ _ Zx (@Zc _ _ _ (@Yv _ _ _ _ _ (@Zr _ _ _ _ _ Zx (@Zc _ _ _ Zx (by rfl)) (by rfl))) (by rfl)) (by rfl))) (@Xk _ _ _ (@Yv _ _ _ _ _ (@Zr _ _ _ _ _ Zx (@Zc _ _ _ Zx (by rfl)) (by rfl))) (by rfl)) (by rfl)) (by rfl))) (by rfl) (.inl rfl)) (@Zg _ _ _ (@Zq _ _ _ _ (YD (@YQ _ _ _ _ _ _ _ _ (op_eqK (Xx.units0 hr)) (pv 8) (pv 7) (Zw _)) (Yr (@YQ _ _ _ _ _ _ _ _ (qc (K:=K) rfl (Xx.units hr)) (Zl bv (hr.mono (by decide)) rfl T.bu T.aY.kp T.bt .nil Zs (@Zc _ _ _ (pv 6) (by rfl))) (ZQ (YJ (K:=K) rfl rfl) rfl T.bT rX (@Zc _ _ _ (ZQ (VS) rfl T.ae rY (@Zc _ _ _ (pv 1) (by rfl))) (by rfl))) (Zw _))))))))))))))))),?_⟩;have d2:=oq (c/2) (show(9:Int)≠0 by decide);have d3:=oI (c/2) (show(0:Int)<9 by decide);refine⟨_,rfl,_,_,rfl,rfl,⟨by decide,by decide⟩,_,_,rfl,rfl,by decide,_,_,rfl,rfl,?_⟩;generalize c/2%(9:Int)=r0 at d2 d3 ⊢;obtain⟨m,em⟩:=oA (show 0<=12+r0 by omega);rw[em];have m1:12<=m:=by omega
  have m2:m<=20:=by omega
  clear d2 d3 em;refine⟨_,rfl,_,rfl,fun R hR=>?_⟩;obtain⟨H1,qN,s1,e1⟩:=ZV (o:=.rng 0 (m:Int)) hR;rw[qN];refine .inr ⟨R,_,rfl,e1,by omega,by omega,fun O0 hO0=>?_⟩;rw[vX];obtain⟨H2,qN,s2,eO0⟩:=ZV (o:=.lst (nV (List.range m))) hO0;rw[qN];have s02:=s1.trans s2;refine⟨fun σ G=>∃(e:Bool) (O:Addr),σ=[some (.int c),some (.int (m:Int)),some (.ref O),none,none,none,none,none,none]/\Zf H G/\G O=some (.lst (nV (Wc e m))),?_,?_⟩
  ·refine⟨_,rfl,_,_,rfl,rfl,by decide,rfl,_,rfl,XS (fun c=>?_) (fun c=>?_)⟩
   ·refine⟨_,rfl,_,rfl,_,rfl,O0,_,rfl,rfl,rS eO0,fun Z hZ=>?_⟩;refine⟨true,Z,rfl,s02.trans (Zj hZ),?_⟩;rw[Ze,nV_rev,ord_t]
   ·exact⟨false,O0,rfl,s02,by rw[ord_f];exact eO0⟩
  rintro σ G ⟨e,O,rfl,sG,eO⟩;clear s1 s2 s02 e1 eO0 hR hO0;have ol:(Wc e m).length<=sizeLine:=by rw[WJ,mN];omega
  refine⟨_,rfl,O,rfl,⟨_,rS eO⟩,fun W hW=>?_⟩;refine Ui (Wc e m) (fun y:Nat=>V.int (y:Int)) (fun _=>[]) hW (rS eO) ol ?_ ?_
  ·intro r hr F N sF hN;exact⟨by rw[mN];decide,fun l hl=>hN l _ (Zj hl) hl Ze⟩
  intro H3 z eW s3 ez zl;have zlen:z.length=m:=by have:=ni List.length ez;rw[mM,WJ] at this;exact this
  clear zl;refine⟨_,rfl,_,rfl,by omega,by omega,?_⟩;rw[mY];refine Wd (J:=Itr 0 m) (n:=m) (fun i σ F=>∃(z4:Option V) (ws:List V),σ=[some (.int c),some (.int (m:Int)),some (.ref O),some (.ref W),z4,none,none,none,none]/\Zf G F/\F W=some (.lst ws)/\ws.length=m/\∀j<i,∃q,ws[psR e m j]?=some (.ref q)/\q≠W/\F q=some (.lst [.int (psR e m (min (j+1) (m-1)):Int)])) ?_ (fun _ _ _ h _=>h) (fun _ _ _=>mP _) ?_ ?_
  ·exact⟨_,_,rfl,s3,eW,by rw[mM];exact zlen,fun j hj=>absurd hj (o4 _)⟩
  ·rintro i x σ G0 F hi ⟨z4,ws,rfl,sF,eWF,wl,q⟩ ⟨rfl,rfl⟩;have ei:(0:Int)+(i:Int)=((i:Nat):Int):=ou _;rw[ei];have eOF:=sF _ _ eO;have emn:(if((m:Int)-1)<((i:Int)+1) then((m:Int)-1) else((i:Int)+1))=((min (i+1) (m-1):Nat):Int):=by split<;>omega
   refine⟨_,rfl,_,rfl,_,_,rfl,rfl,_,rfl,_,_,rfl,rfl,_,_,rfl,O,_,_,_,rfl,rfl,rS eOF,by rw[emn];exact Zt (zP (by omega)),sz1,fun q0 hq0=>?_⟩;obtain⟨F1,qN,u1,eq0⟩:=ZV (o:=.lst [.int (psR e m (min (i+1) (m-1)):Int)]) hq0;rw[qN];have nq0:q0≠W:=fun z=>by rw[z,eWF] at hq0;cases hq0
   have lp:=Ub (e:=e) hi;refine⟨_,rfl,_,rfl,_,rfl,O,_,_,_,rfl,rfl,rS (u1 _ _ eOF),Zt (zP hi),W,ws,psR e m i,rfl,rfl,u1 _ _ eWF,by omega,?_⟩;refine⟨_,ws.set (psR e m i) (.ref q0),rfl,((Zf.x (sF.trans u1)).upd).same hW,Ze,by rw[List.length_set];exact wl,fun j hj=>?_⟩
   by_cases c:j=i
   ·subst c;exact⟨q0,pZ (by omega),nq0,(Zy nq0).trans eq0⟩
   ·obtain⟨q',h1,h2,h3⟩:=q j (by omega);refine⟨q',?_,h2,(Zy h2).trans (u1 _ _ h3)⟩;rw[p0 fun z=>c (ps_inj (e:=e) hi (by omega) z).symm];exact h1
  rintro σ F ⟨z4,ws,rfl,sF,eWF,wl,qw⟩;clear eW s3 ez zlen;have eOF:=sF _ _ eO;refine⟨_,rfl,O,rfl,⟨_,rS eOF⟩,fun SG hSG=>?_⟩;refine Ui (Wc e m) (fun y:Nat=>V.int (y:Int)) (fun _=>[]) hSG (rS eOF) ol ?_ ?_
  ·intro r hr F N sF hN;exact⟨by rw[mN];decide,fun l hl=>hN l _ (Zj hl) hl Ze⟩
  intro H4 y eS s4 ey yl;have ylen:y.length=m:=by have:=ni List.length ey;rw[mM,WJ] at this;exact this
  refine⟨sz1,fun q0 hq0=>?_⟩;obtain⟨H5,qN,s5,eq0⟩:=ZV (o:=.lst [.str "goal"]) hq0;rw[qN];have nq0:q0≠SG:=fun z=>by rw[z,eS] at hq0;cases hq0
  have lp:=Ub (e:=e) (show m-1<m by omega);have s45:=s4.trans s5;refine⟨_,rfl,_,rfl,_,rfl,O,_,_,_,rfl,rfl,rS (s45 _ _ eOF),at_last (by omega),SG,_,psR e m (m-1),rfl,rfl,s5 _ _ eS,by rw[mM];omega,?_⟩;have nWS:W≠SG:=fun z=>by rw[<- z,eWF] at hSG;cases hSG
  have s46:Zf F (upd H5 SG (.lst ((y.map Prod.fst).set (psR e m (m-1)) (.ref q0)))):=((Zf.x s45).upd).same hSG;have pS:LL LS (upd H5 SG (.lst ((y.map Prod.fst).set (psR e m (m-1)) (.ref q0)))) (.ref SG) (YK e m).signs:=by
   refine⟨SG,_,rfl,Ze,by rw[List.length_set,mM,VJ];exact ylen,fun i v ss h1 h2=>?_⟩;have hi:i<m:=by have:=(nT.mp h2).1;rwa [VJ] at this
   have h2':((List.range m).map fun r=>if psR e m r=m-1 then[("goal" : Str)] else[])[i]?=some ss:=h2;rw[mU,pe hi] at h2';have h2'':(if psR e m i=m-1 then[("goal" : Str)] else[])=ss:=nv h2'
   by_cases c:i=psR e m (m-1)
   ·subst c;rw[pZ (by rw[mM];omega)] at h1;cases h1;rw[if_pos (VY (by omega))] at h2'';subst h2'';exact⟨q0,rfl,(Zy nq0).trans eq0⟩
   ·rw[p0 (nN c),mU,mO (by omega)] at h1;have h1':(y[i]'(by omega)).1=v:=nv h1;obtain⟨b,e1,e2⟩:=yl _ (nk (show i<y.length by omega));have e2':=(New.of e2).2;have nb:b≠SG:=fun z=>by
     rw[z,eS] at e2';have h9:(y.map Prod.fst).length=0:=ni List.length (HO.lst.inj (nv e2'));rw[mM] at h9;omega
    rw[if_neg fun z=>c (by rw[<- VY (e:=e) hi,z])] at h2'';subst h2'';exact⟨b,h1'.symm.trans e1,(Zy nb).trans (s5 _ _ e2')⟩
  generalize upd H5 SG (.lst ((y.map Prod.fst).set (psR e m (m-1)) (.ref q0)))=H6 at s46 pS ⊢;have pW:LL LI H6 (.ref W) (YK e m).ways:=by
   refine⟨W,ws,rfl,s46 _ _ eWF,by unfold YK;rw[mM,m9];exact wl,fun i v ss h1 h2=>?_⟩;have hi:i<m:=by have:=(nT.mp h1).1;omega
   have h2':((List.range m).map fun r=>[(nxR e m r:Int)])[i]?=some ss:=h2;rw[mU,pe hi] at h2';have h2'':[(nxR e m i:Int)]=ss:=nv h2';obtain⟨q,e1,_,e3⟩:=qw (psR e m i) (Ub hi);rw[VY hi,h1] at e1;cases e1;subst h2'';exact⟨q,rfl,s46 _ _ e3⟩
  have s06:=sG.trans (sF.trans s46);have eO6:=s46 _ _ eOF;clear eS s4 ey yl ylen s5 eq0 nq0 hq0 s45 hSG hW eWF qw wl nWS sF s46 eOF eO;refine⟨_,rfl,_,rfl,sz1,fun A3 hL3=>?_⟩;obtain⟨H7,qN,s7,e3⟩:=ZV (o:=.lst (([0]:List Int).map V.int)) hL3;have qN':upd H6 A3 (.lst [.int 0])=H7:=qN;rw[qN'];clear qN qN';refine⟨sz1,fun A4 hL4=>?_⟩;obtain⟨H8,qN,s8,e4⟩:=ZV (o:=.lst (([("goal" : Str)]:List Str).map V.str)) hL4;have qN':upd H7 A4 (.lst [.str "goal"])=H8:=qN;rw[qN'];clear qN qN';have s68:=s7.trans s8;have gd:XR (YK e m):=row_good m1 m2;intro o dw no ndw new;have sm:Zf H8 (upd (upd H8 dw (.own o)) o (.ins a.C_World dw [])):=(Zj ndw).trans (Zj (by rw[Zy (nN new)];exact no));have pp:X6 H8 (.ref SG) (.ref W) (.ref A3) (.ref A4) (YK e m):=⟨LL.mono LS.mono _ _ _ _ s68 pS,LL.mono LI.mono _ _ _ _ s68 pW,⟨A3,rfl,s8 _ _ e3⟩,⟨A4,rfl,e4⟩⟩;refine⟨o,dw,_,_,_,_,YK e m,rfl,Ze,pp.mono sm,gd,fun H9 x9 wa=>⟨rfl,?_⟩⟩;have s09:Zf H H9:=fun b u h=>x9 b u (ZZ ((s06.trans s68) _ _ h) no) (sm b u ((s06.trans s68) _ _ h));have eO9:H9 O=some (.lst (nV (Wc e m))):=x9 _ _ (ZZ (s68 _ _ eO6) no) (sm _ _ (s68 _ _ eO6));clear x9 sm no ndw new pp pS pW s7 e3 s8 e4 s68 hL3 hL4 eO6 s06;intro DU hDU;obtain⟨H10,qN,s10,eU⟩:=ZV (o:=.dK []) hDU;rw[qN];refine⟨_,rfl,_,rfl,by omega,by omega,?_⟩;rw[mY];refine Wd (J:=Itr 0 m) (n:=m) (fun i σ F=>∃(z4:Option V),σ=[some (.int c),some (.int (m:Int)),some (.ref O),some (.ref W),z4,some (.ref SG),some (.ref o),some (.ref DU),none]/\Zf H9 F/\F DU=some (.dK (tiK ((Wc e m).take i) (fun r=>m-1-psR e m r)))) ?_ (fun _ _ _ h _=>h) (fun _ _ _=>mP _) ?_ ?_
  ·exact⟨_,rfl,s10,eU⟩
  ·rintro i x σ G0 F hi ⟨z4,rfl,sF,eU⟩ ⟨rfl,rfl⟩;have ei:(0:Int)+(i:Int)=((i:Nat):Int):=ou _;rw[ei];have eOF:=sF _ _ eO9;have hio:i<(Wc e m).length:=by rw[WJ];exact hi
   have ev:(m:Int)-1-(i:Int)=((m-1-psR e m (psR e m i):Nat):Int):=by rw[VY hi];omega
   have tk:(Wc e m).take (i+1)=(Wc e m).take i++[psR e m i]:=by rw[pC,vy hi];rfl
   have nr:psR e m i∉(Wc e m).take i:=by
    have:=zV (ord_nd (e:=e) (m:=m)) hio;have e2:=vy (e:=e) hi;rw[mO hio] at e2
    rwa [nv e2] at this
   have tl:=(pH i (Wc e m)).length_le;rw[WJ] at tl;refine⟨_,rfl,_,_,rfl,rfl,_,rfl,_,_,rfl,rfl,_,rfl,_,rfl,_,rfl,O,_,_,_,rfl,rfl,rS eOF,Zt (zP hi),DU,_,rfl,DPut.k (k:=Sum.inl (psR e m i:Int)) eU (by rw[zK,mN];omega),?_⟩;refine⟨_,rfl,((Zf.x sF).upd).same hDU,?_⟩;rw[Ze,ev,tk,<- qj (f:=fun r=>m-1-psR e m r) nr]
  rintro σ F ⟨z4,rfl,sF,eU⟩;rw[show(Wc e m).take m=Wc e m from ri (by rw[WJ];exact mP _)] at eU;have s0F:=s09.trans sF;have wF:=wa.mono sF;clear eO9 s09 wa hDU sF;refine⟨_,rfl,sz2,fun T1 hT1=>?_⟩;obtain⟨F1,qN,u1,eT1⟩:=ZV (o:=.tup [.str "sign",.str "goal"]) hT1;rw[qN];refine⟨sz2,fun T2 hT2=>?_⟩;obtain⟨F2,qN,u2,eT2⟩:=ZV (o:=.tup [.str "not",.ref T1]) hT2;rw[qN];refine⟨sz2,fun T3 hT3=>?_⟩;obtain⟨F3,qN,u3,eT3⟩:=ZV (o:=.tup [.str "sign",.str "goal"]) hT3;rw[qN];have ng:Yh "goal" = true:=by decide +kernel
  have u13:=u1.trans (u2.trans u3);have at1:At K 1 F3 (.ref T1) (.node (.sign "goal") []):=vE (rT ((u2.trans u3) _ _ eT1)) ng;have at2:At K 2 F3 (.ref T2) (.node (.op "not") [.node (.sign "goal") []]):=qS (rT (u3 _ _ eT2)) (by decide +kernel) at1;have at3:At K 2 F3 (.ref T3) (.node (.sign "goal") []):=vE (rT eT3) ng;have bk1:bkT (.node (.sign "goal") []) = "room" := xc (show("sign" : Str)∈_ by decide +kernel) (fun k hk=>by cases hk);have bk2:bkT (.node (.op "not") [.node (.sign "goal") []]) = "room" := xc (show("not" : Str)∈_ by decide +kernel) (all1 bk1);have so1:soB (YK e m) (.node (.sign "goal") [])=sgB (YK e m) "goal" := so_sign rfl;have so2:soB (YK e m) (.node (.op "not") [.node (.sign "goal") []])=fun r=>!sgB (YK e m) "goal" r:=by rw[so_not (k:=.node (.sign "goal") []) rfl rfl,so1]
  refine⟨o,YK e m,_,_,2,_,_,rfl,wF.mono u13,gd,at2,at3,by rw[Xz,Y0,Xz];show _<=100000;simp[Yq],by rw[Xz];show _<=100000;simp[Yq],bk2,bk1,fun F4 L rs f s4 hL eL ti=>?_⟩;rw[so1,so2,VJ] at ti;have hsame:=ti.same (row_ti (e:=e) (m:=m));refine⟨_,rfl,_,rfl,L,DU,_,_,rfl,rfl,eL,(u13.trans s4) _ _ eU,hsame.1,hsame.2,_,rfl,YM ?_⟩;have s0:=s0F.trans (u13.trans s4);refine⟨_,rfl,o,YK e m,rfl,wF.mono (u13.trans s4),gd,fun F5 L5 s5 hL5 eL5=>?_⟩;refine⟨_,rfl,_,rfl,fun R2 hR2=>?_⟩;obtain⟨F6,qN,u6,e6⟩:=ZV (o:=.rng 0 (m:Int)) hR2;rw[qN];refine .inr ⟨R2,_,rfl,e6,by omega,by omega,fun L6 hL6=>?_⟩;obtain⟨F7,qN,u7,e7⟩:=ZV (o:=.lst ((L3.upTo (m:Int)).map V.int)) hL6;rw[qN];rw[XD,VJ] at eL5;have e8:(((List.range m).filter (faB (YK e m))).map fun r:Nat=>(r:Int))=L3.upTo (m:Int):=by
   rw[pP.mpr fun r hr=>row_fa (mX.mp hr)];rfl
  rw[e8] at eL5;exact eqD_yes (zo _) (by decide) (LI.dp ⟨L5,rfl,(u6.trans u7) _ _ eL5⟩) (LI.dp ⟨L6,rfl,e7⟩) (k _ (s0.trans (s5.trans (u6.trans u7))))
def yY(K:W.Frag)(a:Adr):Sp:=fun vs H Q _=>∃(t b g:Addr) (d:WD) (A G:Nat->Bool),vs=[.ref t,.ref b,.ref g]/\XR d/\zB H t d/\BL H b d.signs.length A/\BL H g d.signs.length G/\∀H' L rs f,Zf H H'->H L=none->H' L=some (.dK (tiK rs f))->TI (WN d) d.signs.length A G rs f->Q (.ref L) H'
theorem yQ(T:Txt K mg a)(hw:w.params=a.Pm):Ye P w K mg base CX0 1 a._law_turns a.b9 lW (yY K a):=by
 refine T.d5.ok Yx (fun vs H Q E h=>?_) (fun lD A outer s H vs Q E hr h=>?_)
 ·obtain⟨t,b,g,d,A,G,rfl,_⟩:=h;rfl
 ·obtain⟨t,b,g,d,S1,S2,rfl,gd,sp,hb,hg,k⟩:=h;refine⟨_,(@Za _ _ _ _ _ (@Zi _ _ (3) _ _ _ _ Yx.nd rfl (Or.inl rfl) L2.pe_dnewK (by rfl) (.inl rfl)) (@Za _ _ _ _ _ (Xo nB rfl (ZM rfl T.ae (@Zc _ _ _ (Zm (ZI (K:=K) rfl) rfl T.aX rW (@Zc _ _ _ (pv 2) (by rfl))) (by rfl))) (Zh (i:=4) Yx.nd rfl (Or.inl rfl)) (@Za _ _ _ _ _ (@Zi _ _ (5) _ _ _ _ Yx.nd rfl (Or.inl rfl) (@ZW _ _ _ _ (@Zc _ _ _ (pv 4) (by rfl))) (by rfl) (.inl rfl)) (@Zg _ _ _ (Xo nB rfl (ZM rfl T.ae (@Zc _ _ _ (@Zz _ _ _ _ _ _ _ _ X8 (Zm (ZI (K:=K) rfl) rfl T.aX rW (@Zc _ _ _ (pv 2) (by rfl))) Zd) (by rfl))) (Zh (i:=6) Yx.nd rfl (Or.inl rfl)) (@Za _ _ _ _ _ (@ZN _ _ _ _ _ _ _ _ (XG (Zm (Wh (K:=K) rfl rfl) rfl T.ij sd (@Zc _ _ _ (Zv (Nc:=["_law_one", "_law_goal"]) (ix:=[none,some 2]) (ZA.of (by decide +kernel:ZD (Zb YO) ["_law_spec", "_law_keep", "_law_goal", "_law_found", "_law_room", "_law_level", "_law_number", "_law_more", "_law_one"] ["_law_one", "_law_goal"] [none,some 2] _=true)) rfl (ZC (K:=K) rfl (pv 5)) (fun _ _ _ _ _=>(Zh (i:=0) (show List.Nodup (["_law_one", "_law_goal"]:List Str) by decide +kernel) rfl (Or.inl rfl))) (fun _ _ _ _ _=>ZF) (fun _ _ _ _ _=>(@Zn _ _ _ _ _ _ _ (Zk (K:=K) rfl) (pv 1) (pv 0) (fun _ _=>rfl)))) (by rfl)))) (@Za _ _ _ _ _ (vw (hu_of hr) (pv 3) (pv 4) (pv 6) rfl) (@Zg _ _ _ ps_break)) Zu) (@Za _ _ _ _ _ (@Zi _ _ (7) _ _ _ _ Yx.nd rfl (Or.inr rfl) (@ZW _ _ _ _ XH) (by rfl) (.inl rfl)) (@Za _ _ _ _ _ (Xo nB rfl (ZC (K:=K) rfl (pv 5)) (Zh (i:=8) Yx.nd rfl (Or.inl rfl)) (@Zg _ _ _ (@ZN _ _ _ _ _ _ _ _ (XG (@Zn _ _ _ _ _ _ _ (Zk (K:=K) rfl) (pv 1) (pv 8) (fun _ _=>rfl))) (@Zg _ _ _ (@Zi _ _ (7) _ _ _ _ Yx.nd rfl (Or.inr rfl) (@Zz _ _ _ _ _ _ _ _ op_cat (pv 7) (Zv (Nc:=["_law_on", "_law_more"]) (ix:=[none,some 7]) (ZA.of (by decide +kernel:ZD (Zb YO) ["_law_spec", "_law_keep", "_law_goal", "_law_found", "_law_room", "_law_level", "_law_number", "_law_more", "_law_one"] ["_law_on", "_law_more"] [none,some 7] _=true)) rfl (ZC (K:=K) rfl (@Zn _ _ _ _ _ _ _ (Zk (K:=K) rfl) (@Zn _ _ _ _ _ _ _ (ZB (K:=K) rfl) (pv 0) Zd (fun _ _=>rfl)) (pv 8) (fun _ _=>rfl))) (fun _ _ _ _ _=>(Zh (i:=0) (show List.Nodup (["_law_on", "_law_more"]:List Str) by decide +kernel) rfl (Or.inl rfl))) (fun _ _ _ _ _=>(WI (@Zp _ _ _ _ _ _ _ _ (qI (K:=K) rfl) (pv 0) (pv 1) (by with_unfolding_all rfl)))) (fun _ _ _ _ _=>(pv 0)))) (by rfl) (.inl rfl))) Zu))) (@Zg _ _ _ (@Zi _ _ (5) _ _ _ _ Yx.nd rfl (Or.inl rfl) (pv 7) (by rfl) (.inl rfl)))))))))) (@Zg _ _ _ (@Zq _ _ _ _ (pv 3))))),?_⟩;have n20:=gd.n20;have wl:=gd.wl;obtain⟨sv,wv0,stv,fv,nmv,ht,pts⟩:=sp.ex;obtain⟨wa,wv,rfl,hwa,lw,qw⟩:=pts.w;intro N hN;obtain⟨H1,qN,s1,eN⟩:=ZV (o:=.dK []) hN;rw[qN];refine⟨_,rfl,.inl ⟨g,_,rfl,.inl (rS (s1 _ _ hg)),?_⟩⟩;rw[V5];refine⟨_,rfl,by omega,by omega,?_⟩;rw[mY];refine Wd (J:=Itr 0 d.signs.length) (n:=d.signs.length) (fun i σ F=>∃(z4 z5 z6 z7 z8:Option V) (rs:List Nat) (f:Nat->Nat),σ=[some (.ref t),some (.ref b),some (.ref g),some (.ref N),z4,z5,z6,z7,z8]/\Zf H F/\F N=some (.dK (tiK rs f))/\TP (WN d) S1 S2 i rs f) ?_ (fun _ _ _ h _=>h) (fun _ _ _=>mP _) ?_ ?_
  ·exact⟨_,_,_,_,_,[],fun _=>0,rfl,s1,eN,.start⟩
  ·rintro r x σ G0 F hr ⟨z4,z5,z6,z7,z8,rs,f,rfl,sF,eN,tp⟩ ⟨rfl,rfl⟩;have ei:(0:Int)+(r:Int)=((r:Nat):Int):=ou _;rw[ei];refine⟨_,rfl,sz1,fun L0 hL0=>?_⟩;obtain⟨F1,qN,u1,eL0⟩:=ZV (o:=.lst (nV [r])) hL0;have qN':upd F L0 (.lst [.int (r:Int)])=F1:=qN;rw[qN'];clear qN qN';have sF1:=sF.trans u1;have eN1:=u1 _ _ eN;refine⟨_,rfl,.inl ⟨g,_,rfl,.inl (rS (sF1 _ _ hg)),?_⟩⟩;rw[V5];refine⟨_,_,rfl,rfl,_,rfl,by omega,by omega,?_⟩;rw[show((d.signs.length:Int)+1).toNat=d.signs.length+1 by omega];refine Wd (J:=Itr 0 (d.signs.length+1)) (n:=d.signs.length+1) (fun k σ F2=>∃(L:Addr) (z6 z7 z8:Option V) (lv:List Nat),σ=[some (.ref t),some (.ref b),some (.ref g),some (.ref N),some (.int (r:Int)),some (.ref L),z6,z7,z8]/\Zf F F2/\F2 L=some (.lst (nV lv))/\LvI (WN d) d.signs.length S1 S2 r k lv) ?_ (fun _ _ _ h _=>h) (fun _ _ _=>mP _) ?_ ?_
   ·exact⟨L0,_,_,_,[r],rfl,u1,eL0,.start hr⟩
   ·rintro k0 x σ G0 F2 hk ⟨L,z6,z7,z8,lv,rfl,v2,eL,lvi⟩ ⟨rfl,rfl⟩;have ek:(0:Int)+(k0:Int)=((k0:Nat):Int):=ou _;rw[ek];have ll:=lvi.len;refine⟨_,rfl,L,rfl,⟨_,rS eL⟩,fun AN hAN=>?_⟩;refine ZY lv (fun y:Nat=>V.int (y:Int)) (fun q=>V.bl (S2 q)) hAN (rS eL) (by rw[mN];omega) ?_ ?_
    ·intro q hq G1 N1 sG1 hN1;exact⟨_,rfl,_,rfl,g,_,_,_,rfl,rfl,rS ((sF.trans (v2.trans sG1)) _ _ hg),Ym (lvi.lt q hq),hN1 _ (.refl _)⟩
    intro F3 eAN u3;refine⟨AN,lv.map S2,rfl,rS (by rw[eAN,mZ];rfl),_,rfl,?_⟩;rw[show(lv.map S2).any id=lv.any S2 by rw[oz];rfl];have v3:=v2.trans u3;have eN3:=v3 _ _ eN;have rl:rs.length<=d.signs.length:=by
     have:=Yo (l₂:=List.range d.signs.length) tp.nd fun x hx=>mX.mpr (by have:=((tp.mem x).mp hx).1;omega)
     rwa [m9] at this
    cases c:lv.any S2 with
    |true=>
     refine YM ⟨_,rfl,_,rfl,_,rfl,N,_,rfl,DPut.k (k:=Sum.inl (r:Int)) (v:=.int (k0:Int)) eN3 (by rw[zK,mN];omega),?_⟩;refine⟨_,_,_,_,_,rs++[r],fun q=>if q=r then k0 else f q,rfl,((Zf.x (sF.trans v3)).upd).same hN,?_,tp.put (lvi.found c)⟩;have ts:=qj (f:=fun q=>if q=r then k0 else f q) tp.new;rw[if_pos rfl,tiK_ext (g:=f) fun q hq=>if_neg fun z=>tp.new (by rw[<- z];exact hq)] at ts;rw[Ze,ts]
    |false=>
     refine Z6 ⟨by decide,fun M0 hM0=>?_⟩;obtain⟨F4,qN,u4,eM0⟩:=ZV (o:=.lst (nV [])) hM0;have qN':upd F3 M0 (.lst [])=F4:=qN;rw[qN'];clear qN qN';have v4:=v3.trans u4;have s4:=sF.trans v4;have eL4:=(u3.trans u4) _ _ eL;refine⟨_,rfl,L,rfl,⟨_,rS eL4⟩,?_⟩;refine XX (K:=K) (xs:=nV lv) (fun j σ F5=>∃(M:Addr) (z8:Option V) (mo:List Nat),σ=[some (.ref t),some (.ref b),some (.ref g),some (.ref N),some (.int (r:Int)),some (.ref L),some (.int (k0:Int)),some (.ref M),z8]/\Zf F4 F5/\F5 M=some (.lst (nV mo))/\mo.Nodup/\(∀q,q∈mo↔∃p∈lv.take j,S1 p=true/\q∈WN d p)) ⟨M0,_,[],rfl,.refl _,eM0,by simp,by simp⟩ ?_ ?_ ?_
     ·rintro j σ F5 _ ⟨M,z8,mo,rfl,sF5,_⟩;exact rS (sF5 _ _ eL4)
     ·rintro j x σ F5 hx ⟨M,z8,mo,rfl,sF5,eM,nd,mem⟩;have hj:j<lv.length:=by have:=(nT.mp hx).1;rwa [VT] at this
      rw[nV_at hj] at hx;cases hx;have lp:=lvi.lt _ (nk hj);have tk:lv.take (j+1)=lv.take j++[lv[j]]:=by rw[pC,mO hj];rfl
      generalize lv[j]=p at lp tk ⊢;have s5:=s4.trans sF5;refine⟨_,rfl,_,rfl,b,_,_,_,rfl,rfl,rS (s5 _ _ hb),Ym lp,_,rfl,?_⟩;cases cp:S1 p with
      |false=>
       refine Z6 ⟨M,_,mo,rfl,sF5,eM,nd,fun q=>?_⟩;rw[mem,tk];constructor
       ·rintro⟨p',h1,h2⟩;exact⟨p',oB _ h1,h2⟩
       ·rintro⟨p',h1,h2⟩;rcases nE.mp h1 with h|h
        ·exact⟨p',h,h2⟩
        ·rw[nj.mp h,cp] at h2;cases h2.1
      |true=>
       have lw3:p<d.ways.length:=by omega
       obtain⟨wx,ewx,hwx⟩:=qw p wv[p] d.ways[p] (mO (by omega)) (mO lw3);rw[ways_nV gd lw3] at hwx;have wnd:=WN_nd gd lw3;have mlt:∀q∈mo,q<d.signs.length:=fun q hq=>by
        obtain⟨p',h1,_,h3⟩:=(mem q).mp hq;exact WL gd p' (lvi.lt p' (List.mem_of_mem_take h1)) q h3
       have nd2:(mo++(WN d p).filter fun q=>!decide (q∈mo)).Nodup:=by
        rw[oS];exact⟨nd,wnd.filter _,fun a ha b hb e=>by
         have:=(n5.mp hb).2;rw[<- e,nG ha] at this;cases this⟩
       have l2:(mo++(WN d p).filter fun q=>!decide (q∈mo)).length<=d.signs.length:=by
        have:=Yo (l₂:=List.range d.signs.length) nd2 fun x hx=>mX.mpr (by
         rcases nE.mp hx with h|h
         ·exact mlt x h
         ·exact WL gd p lp x (n5.mp h).1)
        rwa [m9] at this
       have lwn:(WN d p).length<=d.signs.length:=by
        have:=Yo (l₂:=List.range d.signs.length) wnd fun x hx=>mX.mpr (WL gd p lp x hx)
        rwa [m9] at this
       refine YM ⟨_,rfl,_,rfl,t,_,_,.ref wa,rfl,rfl,rT (s5 _ _ ht),rfl,_,rfl,wa,_,_,.ref wx,rfl,rfl,rS (s5 _ _ hwa),Zt (by rw[mO (by omega),ewx]),wx,rfl,⟨_,rS (s5 _ _ hwx)⟩,fun CN hCN=>?_⟩;refine qP (WN d p) (fun y:Nat=>V.int (y:Int)) (fun q=>!decide (q∈mo)) (fun y:Nat=>V.int (y:Int)) hCN (rS (s5 _ _ hwx)) (by rw[mN];omega) ?_ ?_
       ·intro q hq G1 N1 N0 sG1 h1 h2;refine⟨_,rfl,_,rfl,M,_,rfl,.inl (rS (sG1 _ _ eM)),rfl,qp mo,_,rfl,?_⟩;rw[if_pos rfl,nV_in];exact XS (fun c=>⟨_,rfl,h1 _ (.refl _) c⟩) (fun c=>h2 _ (.refl _) (by simpa using c))
       intro F6 eCN u6;have eM6:=u6 _ _ eM;rw[mT] at l2;refine⟨M,CN,_,_,rfl,rfl,eM6,eCN,by rw[VT,mM,mN];omega,fun Z hZ=>?_⟩;refine⟨Z,_,mo++(WN d p).filter (fun q=>!decide (q∈mo)),rfl,sF5.trans (u6.trans (Zj hZ)),by rw[Ze,US];rfl,nd2,fun q=>?_⟩;rw[nE,mem,tk];constructor
       ·rintro(⟨p',h1,h2⟩|h)
        ·exact⟨p',oB _ h1,h2⟩
        ·exact⟨p,by simp,cp,(n5.mp h).1⟩
       ·rintro⟨p',h1,h2,h3⟩
        by_cases hm:q∈mo
        ·exact .inl ((mem q).mp hm)
        ·rcases nE.mp h1 with h|h
         ·exact .inl ⟨p',h,h2,h3⟩
         ·rw[nj.mp h] at h3;exact .inr (n5.mpr ⟨h3,by rw[nH hm];rfl⟩)
     rintro σ F5 ⟨M,z8,mo,rfl,sF5,eM,nd,mem⟩;rw[VT,oy] at mem;exact⟨_,rfl,M,_,_,_,mo,rfl,v4.trans sF5,eM,lvi.step (WL gd) c nd mem⟩
   rintro σ F2 ⟨L,z6,z7,z8,lv,rfl,v2,eL,lvi⟩;exact⟨_,_,_,_,_,rs,f,rfl,sF.trans v2,v2 _ _ eN,tp.skip (lvi.none (WL gd) hr (by omega))⟩
  rintro σ F ⟨z4,z5,z6,z7,z8,rs,f,rfl,sF,eN,tp⟩;exact⟨_,rfl,k F N rs f sF hN eN tp.ti⟩
def zZ(K:W.Frag)(a:Adr):Sp:=fun vs H Q _=>∃(c:Int) (m:Nat),vs=[.int c,.int (m:Int)]/\m<=1000/\∀H' p (ns:List Int),Zf H H'->H p=none->H' p=some (.lst (ns.map V.int))->ns.length=m->Q (.ref p) H'
theorem W5(T:Txt K mg a)(hw:w.params=a.Pm):Ye P w K mg base CX0 1 a._law_stream a.bM ["_law_cell", "_law_many"] (zZ K a):=by
 refine T.bC.ok YE (fun vs H Q E h=>?_) (fun lD A outer s H vs Q E hr h=>?_)
 ·obtain⟨c,m,rfl,_⟩:=h;rfl
 ·obtain⟨c,m,rfl,hm,k⟩:=h;refine⟨_,(@Za _ _ _ _ _ (@Zi _ _ (2) _ _ _ _ YE.nd rfl (Or.inl rfl) (@ZW _ _ _ _ XH) (by rfl) (.inl rfl)) (@Za _ _ _ _ _ (@Zi _ _ (3) _ _ _ _ YE.nd rfl (Or.inl rfl) (pv 0) (by rfl) (.inl rfl)) (Vo (@ZN _ _ _ _ _ _ _ _ (@Zp _ _ _ _ _ _ _ _ ZU (@Zz _ _ _ _ _ _ _ _ Y2 (pv 0) Zd) Zd (Zw _)) (@Za _ _ _ _ _ (@Zi _ _ (3) _ _ _ _ YE.nd rfl (Or.inl rfl) (@Zz _ _ _ _ _ _ _ _ Vd (pv 0) Zd) (by rfl) (.inl rfl)) (@Zg _ _ _ (W7 nB (PW.pt (vK (@Zp _ _ _ _ _ _ _ _ op_gt (pv 3) (@Zz _ _ _ _ _ _ _ _ yv Zd Zd) (Zw _)) (zO (@Zp _ _ _ _ _ _ _ _ op_lt (Zm (ZI (K:=K) rfl) rfl T.aX rW (@Zc _ _ _ (pv 2) (by rfl))) (pv 1) (Zw _))))) (@Za _ _ _ _ _ (@Xc _ _ _ _ (WT nS oh oi Yg (pv 2) (@Zc _ _ _ (@Zz _ _ _ _ _ _ _ _ Y2 (pv 3) (@Zz _ _ _ _ _ _ _ _ yv Zd Zd)) (by rfl))) (by rfl)) (@Zg _ _ _ (@Zi _ _ (3) _ _ _ _ YE.nd rfl (Or.inl rfl) (@Zz _ _ _ _ _ _ _ _ Vd (pv 3) (@Zz _ _ _ _ _ _ _ _ yv Zd Zd)) (by rfl) (.inl rfl))))))) Zu) (@Za _ _ _ _ _ (@Zi _ _ (4) _ _ _ _ YE.nd rfl (Or.inl rfl) (@Zz _ _ _ _ _ _ _ _ X8 (@Zz _ _ _ _ _ _ _ _ Y2 (pv 3) (@Zz _ _ _ _ _ _ _ _ X8 (@Zz _ _ _ _ _ _ _ _ yv Zd Zd) Zd)) Zd) (by rfl) (.inl rfl)) (@Za _ _ _ _ _ (Xo nB rfl (ZM rfl T.ae (@Zc _ _ _ (@Zz _ _ _ _ _ _ _ _ X8 (pv 1) Zd) (by rfl))) (Zh (i:=5) YE.nd rfl (Or.inl rfl)) (@Za _ _ _ _ _ (@Zi _ _ (4) _ _ _ _ YE.nd rfl (Or.inl rfl) (@Zz _ _ _ _ _ _ _ _ Y2 (@Zz _ _ _ _ _ _ _ _ X8 (@Zz _ _ _ _ _ _ _ _ X8 (@Zz _ _ _ _ _ _ _ _ op_mul (pv 4) (pv 4)) (@Zz _ _ _ _ _ _ _ _ op_mul Zd (pv 4))) (pv 5)) (@Zz _ _ _ _ _ _ _ _ X8 (@Zz _ _ _ _ _ _ _ _ yv Zd Zd) Zd)) (by rfl) (.inl rfl)) (@Zg _ _ _ (@ZN _ _ _ _ _ _ _ _ (@Zp _ _ _ _ _ _ _ _ op_gt (pv 5) Zd (Zw _)) (@Zg _ _ _ (@Xc _ _ _ _ (WT nS oh oi Yg (pv 2) (@Zc _ _ _ (pv 4) (by rfl))) (by rfl))) Zu)))) (@Zg _ _ _ (@Zq _ _ _ _ (Uc (kf (K:=K) rfl) (pv 2) qh (Vt (pv 1)))))))))),?_⟩;refine⟨by decide,fun D hD=>?_⟩;refine⟨_,rfl,?_⟩;refine⟨fun σ H'=>∃(ns:List Int) (r:Int),σ=[some (.int c),some (.int m),some (.ref D),some (.int r),none,none]/\H' D=some (.lst (ns.map V.int))/\Zf H H'/\ns.length<=m,?_,?_⟩
  ·refine⟨_,rfl,_,_,rfl,rfl,by decide,rfl,_,rfl,XS (fun c1=>?_) (fun c1=>?_)⟩
   ·refine⟨_,rfl,_,_,rfl,rfl,⟨by decide,by decide⟩,?_⟩;refine⟨fun n σ H'=>∃(ns:List Int) (r:Int),σ=[some (.int c),some (.int m),some (.ref D),some (.int r),none,none]/\H' D=some (.lst (ns.map V.int))/\Zf H H'/\ns.length<=m/\n=m-ns.length,⟨m,[],_,rfl,Ze,Zj hD,og _,rfl⟩,?_⟩;rintro n σ H1 ⟨ns,r,rfl,h1,s1,hl,rfl⟩;refine⟨_,rfl,_,_,rfl,rfl,⟨by decide,by decide,by decide⟩,_,_,rfl,rfl,_,rfl,XS (fun c2=>⟨_,rfl,.inl ⟨D,_,rfl,.inl (rS h1),_,rfl,_,_,rfl,rfl,_,rfl,XS (fun c3=>?body) (fun c3=>?WG)⟩⟩) (fun c2=>Z6 ?rest2)⟩
    case WG=>exact⟨ns,r,rfl,h1,s1,hl⟩
    case rest2=>exact⟨ns,r,rfl,h1,s1,hl⟩
    case body=>
     have c4:ns.length<m:=by have:=ny c3;rw[mM] at this;omega
     refine⟨fun σ H'=>∃(ns':List Int) (r:Int),σ=[some (.int c),some (.int m),some (.ref D),some (.int r),none,none]/\H' D=some (.lst (ns'.map V.int))/\Zf H H'/\ns'.length=ns.length+1,?_,?_⟩
     ·rintro σ' H' ⟨ns',r',rfl,a1,a2,a3⟩;exact⟨m-ns'.length,by omega,ns',r',rfl,a1,a2,by omega,rfl⟩
     ·refine⟨_,rfl,.inl ⟨rfl,_,rS h1⟩,_,rfl,_,_,rfl,rfl,⟨by decide,by decide,by decide⟩,_,_,rfl,rfl,by decide,D,_,_,rfl,rfl,h1,by rw[mM,mN];omega,?_⟩;refine⟨_,rfl,_,_,rfl,rfl,⟨by decide,by decide,by decide⟩,_,_,rfl,rfl,⟨by decide,by decide⟩,?_⟩;exact⟨ns++[_],_,rfl,by rw[Ze,nP];rfl,(ZJ.upd (Zf.x s1)).same hD,by simp⟩
   ·exact⟨[],c,rfl,Ze,Zj hD,og _⟩
  rintro σ H1 ⟨ns,r,rfl,h1,s1,hl⟩;have e18:((10:Int) ^ (18:Int).toNat+9)=1000000000000000009:=by decide
  refine⟨_,rfl,_,_,rfl,rfl,⟨by decide,by decide,by decide⟩,_,_,rfl,rfl,_,_,rfl,rfl,by decide,_,_,rfl,rfl,?_⟩;refine⟨_,rfl,_,_,rfl,rfl,_,rfl,by omega,by omega,?_⟩;have e0:((m:Int)+2).toNat=m+2:=by omega
  rw[e0];have r0:=oq r (show(1000000000000000009:Int)≠0 by decide);have r1:=oI r (show(0:Int)<1000000000000000009 by decide);refine Wd (J:=Itr 0 (m+2)) (n:=m+2) (fun i σ H'=>∃(ns':List Int) (num:Int) (z:Option V),σ=[some (.int c),some (.int m),some (.ref D),some (.int r),some (.int num),z]/\(0<=num/\num<1000000000000100000)/\H' D=some (.lst (ns'.map V.int))/\Zf H H'/\ns'.length=ns.length+(i-2)) ?_ (fun i σ H' hi _=>hi) (fun σ H' _=>mP _) ?_ ?_
  ·exact⟨ns,r%1000000000000000009+48271,none,rfl,⟨by omega,by omega⟩,h1,s1,by simp⟩
  ·rintro i x σ H2 H3 hi ⟨ns',num,z,rfl,⟨n0,n1⟩,g1,g2,g3⟩ ⟨rfl,rfl⟩;refine⟨_,rfl,_,rfl,_,_,rfl,rfl,.inl ⟨by omega,by omega⟩,_,rfl,_,_,rfl,rfl,.inl ⟨by decide,by decide⟩,_,_,rfl,rfl,_,rfl,_,_,rfl,rfl,_,_,rfl,rfl,⟨by decide,by decide,by decide⟩,_,_,rfl,rfl,_,_,rfl,rfl,by decide,?_⟩;have m0:=oq (num*num+48271*num+(0+(i:Int))) (show((10:Int) ^ (18:Int).toNat+9)≠0 by decide);have m1:=oI (num*num+48271*num+(0+(i:Int))) (show(0:Int)<((10:Int) ^ (18:Int).toNat+9) by decide);have m2:((10:Int) ^ (18:Int).toNat+9)<1000000000000100000:=by decide
   refine⟨_,rfl,_,_,rfl,rfl,_,rfl,XS (fun c1=>?_) (fun c1=>?_)⟩
   ·have c2:1<i:=by have:=ny c1;omega
    refine⟨_,rfl,.inl ⟨rfl,_,rS g1⟩,_,rfl,D,_,_,rfl,rfl,g1,by rw[mM,mN];omega,?_⟩;exact⟨ns'++[_],_,_,rfl,⟨m0,Int.lt_trans m1 m2⟩,by rw[Ze,nP];rfl,(ZJ.upd (Zf.x g2)).same hD,by rw[mT,g3];show _+1=_;omega⟩
   ·have c2:¬1<i:=fun q=>c1 (nG (by omega));exact⟨ns',_,_,rfl,⟨m0,Int.lt_trans m1 m2⟩,g1,g2,by rw[g3];omega⟩
  ·rintro σ H2 ⟨ns',num,z,rfl,_,g1,g2,g3⟩;refine⟨_,rfl,?_⟩;refine⟨_,rfl,m,rfl,D,_,rfl,rS g1,fun p hp=>?_⟩;refine k _ p (ns'.take m) (g2.trans (Zj hp)) (g2.free hp) ?_ (by rw[nW];omega);rw[Ze,cutV_to _ m (by rw[mM];omega),List.map_take]
def yT(K:W.Frag)(a:Adr):Sp:=fun vs H Q _=>∃(c:Int),vs=[.int c]/\∀H' p (ss:List Str),Zf H H'->H p=none->H' p=some (.lst (ss.map V.str))->ss.length=3->(∀x∈ss,Yh x=true)->ss.Nodup->Q (.ref p) H'
theorem yV(T:Txt K mg a)(hw:w.params=a.Pm):Ye P w K mg base CX0 2 a._law_names a.b0 lV (yT K a):=by
 have bE:=W5 (P:=P) (w:=w) (base:=base) T hw;refine T.dZ.ok Vg (fun vs H Q E h=>?_) (fun lD A outer s H vs Q E hr h=>?_)
 ·obtain⟨c,rfl,_⟩:=h;rfl
 ·obtain⟨c,rfl,k⟩:=h;refine⟨_,(@Za _ _ _ _ _ (@Zi _ _ (1) _ _ _ _ Vg.nd rfl (Or.inr rfl) Zx (by rfl) (.inl rfl)) (@Za _ _ _ _ _ (@Zi _ _ (2) _ _ _ _ Vg.nd rfl (Or.inr rfl) (Zl bE (hr.mono (by decide)) rfl T.ce T.bC.kp T.cc .nil Zs (@Zr _ _ _ _ _ (pv 0) (@Zc _ _ _ Zd (by rfl)) (by rfl))) (by rfl) (.inl rfl)) (@Zg _ _ _ (@Zq _ _ _ _ (Zv (Nc:=mi) (ix:=[none,some 1,some 2]) (ZA.of (by decide +kernel:ZD (Zb Xj) ["_law_cell", "_law_letters", "_law_xs"] ["_law_k", "_law_letters", "_law_xs"] [none,some 1,some 2] _=true)) rfl (ZM rfl T.ae (@Zc _ _ _ Zd (by rfl))) (fun _ _ _ _ _=>(Zh (i:=0) (show List.Nodup mi by decide +kernel) rfl (Or.inl rfl))) (fun _ _ _ _ _=>ZF) (fun _ _ _ _ _=>(@Zz _ _ _ _ _ _ _ _ op_repS (@Zn _ _ _ _ _ _ _ ix_str (pv 1) (@Zz _ _ _ _ _ _ _ _ Y2 (@Zz _ _ _ _ _ _ _ _ X8 (@Zn _ _ _ _ _ _ _ (Zk (K:=K) rfl) (pv 2) Zd (fun _ _=>rfl)) (@Zz _ _ _ _ _ _ _ _ op_mul Zd (pv 0))) Zd) (fun _ _=>rfl)) (@Zz _ _ _ _ _ _ _ _ X8 Zd (@Zz _ _ _ _ _ _ _ _ Y2 (@Zn _ _ _ _ _ _ _ (Zk (K:=K) rfl) (pv 2) (@Zz _ _ _ _ _ _ _ _ X8 Zd (pv 0)) (fun _ _=>rfl)) Zd))))))))),?_⟩;refine⟨_,rfl,c,4,rfl,by decide,fun H1 X ns s1 hX1 hX hl=>?_⟩;refine⟨_,rfl,by decide,by decide,fun D hD=>?_⟩;have hx:∀j:Nat,(hj:j<4)->atI (ns.map V.int) (j:Int)=some (.int (ns[j]'(by omega))):=fun j hj=>Zt (by rw[mU,mO (by omega)];rfl);refine Xy (J:=Itr 0 3) (n:=3) (fun i σ H'=>∃(z:Option V) (ss:List Str),σ=[z,some (.str "abcdefghijklmnopqrstuvwxyz"),some (.ref X)]/\Zf H1 H'/\H' D=some (.lst (ss.map V.str))/\ss.length=i/\∀(j:Nat) y,ss[j]?=some y->∃n:Nat,1<=n/\n<=8/\y=Vy (ns[0]'(by omega)) j n) ?_ (fun i σ H' hi _=>hi) (fun σ H' _=>mP _) ?_ ?_
  ·exact⟨_,[],rfl,Zj hD,Ze,rfl,fun j y e=>by simp at e⟩
  ·rintro i x σ H' H2 hi ⟨z,ss,rfl,sm,hD2,hlen,hy⟩ ⟨rfl,rfl⟩ N N0 hN hN0;have hXm:=rS (K:=K) (sm _ _ hX);have h8:=oq (ns[1+i]'(by omega)) (show(8:Int)≠0 by decide);have h9:=oI (ns[1+i]'(by omega)) (show(0:Int)<8 by decide);obtain⟨n8,e8⟩:=oA h8;refine⟨_,rfl,_,rfl,X,_,_,_,rfl,rfl,hXm,hx 0 (by omega),_,rfl,_,_,rfl,rfl,.inl ⟨by decide,by decide⟩,_,_,rfl,rfl,_,_,rfl,rfl,by decide,?_⟩;refine⟨_,_,_,rfl,rfl,by rw[mN];decide,letter_is _,?_⟩;have ei:(1:Int)+(0+(i:Int))=((1+i:Nat):Int):=by omega
   refine⟨_,rfl,_,rfl,_,_,rfl,rfl,X,_,_,_,rfl,rfl,hXm,by rw[ei];exact hx (1+i) (by omega),_,_,rfl,rfl,by decide,_,_,rfl,rfl,?_⟩;have en:(1:Int)+ns[1+i]'(by omega)%8=((1+n8:Nat):Int):=by omega
   have ek:(97+((ns[0]'(by omega)+7*(0+(i:Int)))%26).toNat)=(97+((ns[0]'(by omega)+7*(i:Int))%26).toNat):=by rw[ou]
   refine⟨_,1+n8,rfl,ni V.int en,by omega,(by show 1*(1+n8)<=4096;omega),by omega,?_⟩;rw[ek];refine hN _ _ _ _ hD2 (by rw[mM,mN];omega) ⟨_,ss++[Vy (ns[0]'(by omega)) i (1+n8)],rfl,(ZJ.upd (Zf.x sm)).same hD,by rw[Ze,nP];rfl,by rw[mT,hlen];rfl,fun j y e=>?_⟩;rw[List.getElem?_append] at e
   split at e
   ·exact hy j y e
   ·have hj:j=i:=by
     cases hq:j-ss.length with
     |zero=>omega
     |succ q=>rw[hq] at e;cases e
    subst hj;rw[hlen,Nat.sub_self] at e;cases e;exact⟨1+n8,by omega,by omega,rfl⟩
  ·rintro σ H' ⟨z,ss,rfl,sm,hD2,hlen,hy⟩;have ok:∀(j:Nat) y,ss[j]?=some y->Yh y=true:=fun j y e=>by
    obtain⟨n,a1,a2,rfl⟩:=hy j y e;exact nameAt_ok a1 a2
   refine k H' D ss (s1.trans sm) (s1.free hD) hD2 hlen (fun x m=>?_) ?_
   ·obtain⟨j,hj,rfl⟩:=oH m;exact ok j _ (mO hj)
   ·refine List.pairwise_iff_getElem.mpr fun i j hi hj hij=>?_;obtain⟨n,a1,a2,e1⟩:=hy i _ (mO hi);obtain⟨m,b1,b2,e2⟩:=hy j _ (mO hj);rw[e1,e2];exact nameAt_ne a1 hij (by omega)
def zz(K:W.Frag)(a:Adr):Sp:=fun vs H Q _=>∃(p:Addr) (ns:List Int) (j:Nat),vs=[.ref p,.int (j:Nat)]/\SqL K H p (ns.map V.int)/\∀n:Int,Q (.int n) H
theorem VL(T:Txt K mg a)(hw:w.params=a.Pm):Ye P w K mg base CX0 1 a._law_cell_at a.bB ["_law_script", "_law_k"] (zz K a):=by
 refine T.aB.ok zI (fun vs H Q E h=>?_) (fun lD A outer s H vs Q E hr h=>?_)
 ·obtain⟨p,ns,j,rfl,_⟩:=h;rfl
 ·obtain⟨p,ns,j,rfl,hq,k⟩:=h;refine⟨_,(@Za _ _ _ _ _ (@ZN _ _ _ _ _ _ _ _ (@Zp _ _ _ _ _ _ _ _ op_lt (pv 1) (Zm (ZI (K:=K) rfl) rfl T.aX rW (@Zc _ _ _ (pv 0) (by rfl))) (Zw _)) (@Zg _ _ _ (@Zq _ _ _ _ (@Zn _ _ _ _ _ _ _ (Zk (K:=K) rfl) (pv 0) (pv 1) (fun _ _=>rfl)))) Zu) (@Zg _ _ _ (@Zq _ _ _ _ Zd))),?_⟩;refine⟨_,rfl,_,rfl,.inl ⟨p,_,rfl,.inl hq,_,_,rfl,rfl,_,rfl,?_⟩⟩;refine XS (fun c=>?_) (fun _=>k 0);have hj:j<ns.length:=by have:=ny c;rw[mM] at this;omega
  exact⟨_,rfl,_,rfl,p,_,_,_,rfl,rfl,hq,Zt (at_of hj),k _⟩
theorem tab3:∀x∈([1,2,4]:List Int),0<x/\x<=1000:=by decide
theorem tab3b:∀x∈([1,3,9]:List Int),0<x/\x<=1000:=by decide
theorem tab6:∀x∈([1,3,9,27,81,243]:List Int),0<x/\x<=1000:=by decide
theorem tab6b:∀x∈([1,2,4,8,16,32]:List Int),0<x/\x<=1000:=by decide
def yW(K:W.Frag)(a:Adr):Sp:=fun vs H Q _=>∃(p:Addr) (zs:List Int),vs=[.ref p]/\SqL K H p (zs.map V.int)/\∀H' t s w st f nm d (nn:List Str),Zf H H'->H' t=some (.tup [s,w,st,f,.ref nm])->X6 H' s w st f d->XR d->H' nm=some (.lst (nn.map V.str))->nn.length=3->(∀x∈nn,Yh x=true)->Q (.ref t) H'
theorem yL(T:Txt K mg a)(hw:w.params=a.Pm):Ye P w K mg base CX0 3 a._law_world a.b6 lX (yW K a):=by
 have aM:=VL (P:=P) (w:=w) (base:=base) T hw;have bE:=W5 (P:=P) (w:=w) (base:=base) T hw;have iH:=yV (P:=P) (w:=w) (base:=base) T hw;refine T.d0.ok Z5 (fun vs H Q E h=>?_) (fun lD A outer s H vs Q E hr h=>?_)
 ·obtain⟨p,zs,rfl,_⟩:=h;rfl
 ·obtain⟨p,cs,rfl,hp,k⟩:=h;refine⟨_,(@Za _ _ _ _ _ (@Zi _ _ (1) _ _ _ _ Z5.nd rfl (Or.inr rfl) (Zl iH (hr.mono (by decide)) rfl T.gq T.dZ.kp T.gp .nil Zs (@Zc _ _ _ (Zl aM (hr.mono (by decide)) rfl T.aJ T.aB.kp T.aI .nil Zs (@Zr _ _ _ _ _ (pv 0) (@Zc _ _ _ Zd (by rfl)) (by rfl))) (by rfl))) (by rfl) (.inl rfl)) (@Za _ _ _ _ _ (@Zi _ _ (2) _ _ _ _ Z5.nd rfl (Or.inr rfl) (Zl bE (hr.mono (by decide)) rfl T.ce T.bC.kp T.cc .nil Zs (@Zr _ _ _ _ _ (Zl aM (hr.mono (by decide)) rfl T.aJ T.aB.kp T.aI .nil Zs (@Zr _ _ _ _ _ (pv 0) (@Zc _ _ _ Zd (by rfl)) (by rfl))) (@Zc _ _ _ Zd (by rfl)) (by rfl))) (by rfl) (.inl rfl)) (@Za _ _ _ _ _ (@Zi _ _ (3) _ _ _ _ Z5.nd rfl (Or.inl rfl) (@Zz _ _ _ _ _ _ _ _ X8 Zd (@Zz _ _ _ _ _ _ _ _ Y2 (@Zn _ _ _ _ _ _ _ (Zk (K:=K) rfl) (pv 2) Zd (fun _ _=>rfl)) Zd)) (by rfl) (.inl rfl)) (@Za _ _ _ _ _ (@Zi _ _ (4) _ _ _ _ Z5.nd rfl (Or.inl rfl) (@ZW _ _ _ _ XH) (by rfl) (.inl rfl)) (@Za _ _ _ _ _ (@Zi _ _ (5) _ _ _ _ Z5.nd rfl (Or.inl rfl) (@ZW _ _ _ _ XH) (by rfl) (.inl rfl)) (@Za _ _ _ _ _ (Xo nB rfl (ZM rfl T.ae (@Zc _ _ _ (pv 3) (by rfl))) (Zh (i:=6) Z5.nd rfl (Or.inr rfl)) (@Za _ _ _ _ _ (@Xc _ _ _ _ (WT nS oh oi Yg (pv 4) (@Zc _ _ _ (Zv (Nc:=md) (ix:=[none,none,some 2,some 6]) (ZA.of (by decide +kernel:ZD (Zb Yl) ["_law_script", "_law_names_here", "_law_xs", "_law_many", "_law_signs", "_law_ways", "_law_room", "_law_on", "_law_starts", "_law_fair"] ["_law_k", "_law_name", "_law_xs", "_law_room"] [none,none,some 2,some 6] _=true)) rfl (zR (K:=K) rfl rfl T.dt (@Zc _ _ _ (pv 1) (by rfl))) (fun _ _ _ _ _=>(VE (K:=K) (n:=2) rfl rfl (Z8 (Zh (i:=0) (show List.Nodup md by decide +kernel) rfl (Or.inl rfl)) (Z8 (Zh (i:=1) (show List.Nodup md by decide +kernel) rfl (Or.inl rfl)) Vc)))) (fun _ _ _ _ _=>(WI (@Zp _ _ _ _ _ _ _ _ ZU (@Zz _ _ _ _ _ _ _ _ Y2 (@Zz _ _ _ _ _ _ _ _ Vd (@Zn _ _ _ _ _ _ _ (Zk (K:=K) rfl) (pv 2) (@Zz _ _ _ _ _ _ _ _ X8 Zd (pv 3)) (fun _ _=>rfl)) (@Zn _ _ _ _ _ _ _ (ZB (K:=K) rfl) (@Yv _ _ _ _ _ (@Z0 _ _ _ _ _ Zd (@Z0 _ _ _ _ _ Zd (@Xk _ _ _ Zd (by rfl)) (by rfl)) (by rfl))) (pv 0) (fun _ _=>rfl))) Zd) Zd (Zw _)))) (fun _ _ _ _ _=>(pv 1))) (by rfl))) (by rfl)) (@Za _ _ _ _ _ (Wj (i:=7) Z5.nd rfl rfl (Nc:=mj) (ix:=[none,some 2,some 6]) (ZA.of (by decide +kernel:ZD (Zb Yl) ["_law_script", "_law_names_here", "_law_xs", "_law_many", "_law_signs", "_law_ways", "_law_room", "_law_on", "_law_starts", "_law_fair"] ["_law_other", "_law_xs", "_law_room"] [none,some 2,some 6] _=true)) rfl (ZM rfl T.ae (@Zc _ _ _ (pv 3) (by rfl))) (fun _ _ _ _ _=>(Zh (i:=0) (show List.Nodup mj by decide +kernel) rfl (Or.inl rfl))) (fun _ _ _ _ _=>(WI (@Zp _ _ _ _ _ _ _ _ ZU (@Zz _ _ _ _ _ _ _ _ Y2 (@Zz _ _ _ _ _ _ _ _ Vd (@Zn _ _ _ _ _ _ _ (Zk (K:=K) rfl) (pv 1) (@Zz _ _ _ _ _ _ _ _ X8 Zd (pv 2)) (fun _ _=>rfl)) (@Zn _ _ _ _ _ _ _ (ZB (K:=K) rfl) (@Yv _ _ _ _ _ (@Z0 _ _ _ _ _ Zd (@Z0 _ _ _ _ _ Zd (@Z0 _ _ _ _ _ Zd (@Z0 _ _ _ _ _ Zd (@Z0 _ _ _ _ _ Zd (@Xk _ _ _ Zd (by rfl)) (by rfl)) (by rfl)) (by rfl)) (by rfl)) (by rfl))) (pv 0) (fun _ _=>rfl))) Zd) Zd (Zw _)))) (fun _ _ _ _ _=>(pv 0))) (@Za _ _ _ _ _ (@ZN _ _ _ _ _ _ _ _ (@Zp _ _ _ _ _ _ _ _ (qc (K:=K) rfl (Xx.units hr)) (pv 7) (@ZW _ _ _ _ XH) (Zw _)) (@Zg _ _ _ (@Zi _ _ (7) _ _ _ _ Z5.nd rfl (Or.inl rfl) (@ZW _ _ _ _ (@Zc _ _ _ (@Zz _ _ _ _ _ _ _ _ Y2 (@Zn _ _ _ _ _ _ _ (Zk (K:=K) rfl) (pv 2) (@Zz _ _ _ _ _ _ _ _ X8 Zd (pv 6)) (fun _ _=>rfl)) (pv 3)) (by rfl))) (by rfl) (.inl rfl))) Zu) (@Zg _ _ _ (@Xc _ _ _ _ (WT nS oh oi Yg (pv 5) (@Zc _ _ _ (pv 7) (by rfl))) (by rfl))))))) (@Za _ _ _ _ _ (Wj (i:=8) Z5.nd rfl rfl (Nc:=["_law_room", "_law_xs"]) (ix:=[none,some 2]) (ZA.of (by decide +kernel:ZD (Zb Yl) ["_law_script", "_law_names_here", "_law_xs", "_law_many", "_law_signs", "_law_ways", "_law_room", "_law_on", "_law_starts", "_law_fair"] ["_law_room", "_law_xs"] [none,some 2] _=true)) rfl (ZM rfl T.ae (@Zc _ _ _ (pv 3) (by rfl))) (fun _ _ _ _ _=>(Zh (i:=0) (show List.Nodup (["_law_room", "_law_xs"]:List Str) by decide +kernel) rfl (Or.inl rfl))) (fun _ _ _ _ _=>(WI (@Zp _ _ _ _ _ _ _ _ ZU (@Zz _ _ _ _ _ _ _ _ Y2 (@Zz _ _ _ _ _ _ _ _ Vd (@Zn _ _ _ _ _ _ _ (Zk (K:=K) rfl) (pv 1) Zd (fun _ _=>rfl)) (@Zn _ _ _ _ _ _ _ (ZB (K:=K) rfl) (@Yv _ _ _ _ _ (@Z0 _ _ _ _ _ Zd (@Z0 _ _ _ _ _ Zd (@Z0 _ _ _ _ _ Zd (@Z0 _ _ _ _ _ Zd (@Z0 _ _ _ _ _ Zd (@Xk _ _ _ Zd (by rfl)) (by rfl)) (by rfl)) (by rfl)) (by rfl)) (by rfl))) (pv 0) (fun _ _=>rfl))) Zd) Zd (Zw _)))) (fun _ _ _ _ _=>(pv 0))) (Vo (@ZN _ _ _ _ _ _ _ _ (@Zp _ _ _ _ _ _ _ _ (qc (K:=K) rfl (Xx.units hr)) (pv 8) (@ZW _ _ _ _ XH) (Zw _)) (@Zg _ _ _ (@Zi _ _ (8) _ _ _ _ Z5.nd rfl (Or.inl rfl) (@ZW _ _ _ _ (@Zc _ _ _ (@Zz _ _ _ _ _ _ _ _ Y2 (@Zn _ _ _ _ _ _ _ (Zk (K:=K) rfl) (pv 2) Zd (fun _ _=>rfl)) (pv 3)) (by rfl))) (by rfl) (.inl rfl))) Zu) (@Za _ _ _ _ _ (Wj (i:=9) Z5.nd rfl rfl (Nc:=ml) (ix:=[none,some 1,some 2]) (ZA.of (by decide +kernel:ZD (Zb Yl) ["_law_script", "_law_names_here", "_law_xs", "_law_many", "_law_signs", "_law_ways", "_law_room", "_law_on", "_law_starts", "_law_fair"] ["_law_k", "_law_names_here", "_law_xs"] [none,some 1,some 2] _=true)) rfl (ZM rfl T.ae (@Zc _ _ _ Zd (by rfl))) (fun _ _ _ _ _=>(Zh (i:=0) (show List.Nodup ml by decide +kernel) rfl (Or.inl rfl))) (fun _ _ _ _ _=>(WI (@Zp _ _ _ _ _ _ _ _ ZU (@Zz _ _ _ _ _ _ _ _ Y2 (@Zz _ _ _ _ _ _ _ _ Vd (@Zn _ _ _ _ _ _ _ (Zk (K:=K) rfl) (pv 2) Zd (fun _ _=>rfl)) (@Zn _ _ _ _ _ _ _ (ZB (K:=K) rfl) (@Yv _ _ _ _ _ (@Z0 _ _ _ _ _ Zd (@Z0 _ _ _ _ _ Zd (@Xk _ _ _ Zd (by rfl)) (by rfl)) (by rfl))) (pv 0) (fun _ _=>rfl))) Zd) Zd (Zw _)))) (fun _ _ _ _ _=>(@Zn _ _ _ _ _ _ _ (Zk (K:=K) rfl) (pv 1) (pv 0) (fun _ _=>rfl)))) (@Zg _ _ _ (@Zq _ _ _ _ (@Yv _ _ _ _ _ (@Z0 _ _ _ _ _ (pv 4) (@Z0 _ _ _ _ _ (pv 5) (@Z0 _ _ _ _ _ (pv 8) (@Z0 _ _ _ _ _ (pv 9) (@Xk _ _ _ (pv 1) (by rfl)) (by rfl)) (by rfl)) (by rfl)) (by rfl)))))))))))))),?_⟩;refine⟨_,rfl,p,cs,0,rfl,hp,fun n0=>⟨n0,rfl,fun H1 NM nn s1 NM0 hNM ln nnm nnd=>?_⟩⟩;refine⟨_,rfl,p,cs,1,rfl,s1.seq hp,fun n1=>⟨n1,30,rfl,by decide,fun H2 X ns s2 X0 hX lx=>?_⟩⟩;have hx:∀j:Nat,(hj:j<30)->atI (ns.map V.int) (j:Int)=some (.int (ns[j]'(by omega))):=fun j hj=>Zt (by rw[mU,mO (by omega)];rfl);refine⟨_,rfl,X,_,_,_,rfl,rfl,rS hX,hx 0 (by omega),_,_,rfl,rfl,by decide,_,_,rfl,rfl,?_⟩;have m0:=oq (ns[0]'(by omega)) (show(6:Int)≠0 by decide);have m1:=oI (ns[0]'(by omega)) (show(0:Int)<6 by decide);generalize ns[0]'(by omega)%(6:Int)=r0 at m0 m1 ⊢;obtain⟨M,eM⟩:=oA (show 0<=1+r0 by omega);rw[eM];have M1:1<=M:=by omega
  have M6:M<=6:=by omega
  clear m0 m1 eM;have hNM2:=s2 _ _ hNM;have s02:=s1.trans s2;refine⟨by rw[mN];decide,fun S hS0=>?_⟩;obtain⟨H3,qN,s3,hS3⟩:=ZV (o:=.lst []) hS0;rw[qN];refine⟨by rw[mN];decide,fun W hW0=>?_⟩;obtain⟨H4,qN,s4,hW4⟩:=ZV (o:=.lst []) hW0;rw[qN];have nSW:S≠W:=fun e=>by rw[<- e,hS3] at hW0;cases hW0
  refine⟨_,rfl,_,rfl,by omega,by omega,?_⟩;rw[mY];have hW2:H2 W=none:=s3.free hW0;refine Wd (J:=Itr 0 M) (n:=M) (fun i σ G=>∃(z6 z7:Option V) (zs:List (V×List Str)) (zw:List (V×List Int)),σ=[some (.ref p),some (.ref NM),some (.ref X),some (.int M),some (.ref S),some (.ref W),z6,z7,none,none]/\Zf H2 G/\G S=some (.lst (zs.map Prod.fst))/\G W=some (.lst (zw.map Prod.fst))/\zs.length=i/\zw.length=i/\ZL LS (hid2 S W (New H2 G)) zs/\ZL LI (hid2 S W (New H2 G)) zw/\(∀x∈zs,x.2.Sublist nn)/\(∀x∈zw,x.2.Nodup/\x.2≠[]/\(∀y∈x.2,0<=y/\y<(M:Nat))/\x.2.length<=20)) ?_ (fun _ _ _ h _=>h) (fun _ _ _=>mP _) ?_ ?_
  ·exact⟨_,_,[],[],rfl,s3.trans s4,s4 _ _ hS3,hW4,rfl,rfl,ZL.nil,ZL.nil,(fun x hx=>by cases hx),(fun x hx=>by cases hx)⟩
  ·rintro i x σ G0 G hi ⟨z6,z7,zs,zw,rfl,sG,gS,gW,lzs,lzw,qs,qw,bs,bw⟩ ⟨rfl,rfl⟩;have ei:(0:Int)+(i:Int)=((i:Nat):Int):=ou _;rw[ei];have e1:(1:Int)+(i:Int)=((1+i:Nat):Int):=by omega
   have e8:(8:Int)+(i:Int)=((8+i:Nat):Int):=by omega
   have e15:(15:Int)+(i:Int)=((15+i:Nat):Int):=by omega
   have hXG:=sG _ _ hX;refine⟨_,rfl,.inl ⟨rfl,_,rS gS⟩,_,rfl,NM,_,rfl,.inl (sG _ _ hNM2),fun D1 hD1=>?_⟩;refine comp_subE (K:=K) nn V.str hD1 (sG _ _ hNM2) (by omega) ?_ ?_
   ·intro j hj F N N0 sF h1 h2;obtain⟨jj,ej,j0,j1⟩:=xY (l:=[1,2,4]) tab3 (i:=j) (show j<3 by omega);refine⟨_,rfl,_,rfl,_,_,rfl,rfl,X,_,_,_,rfl,rfl,rS (sF _ _ hXG),by rw[e1];exact hx (1+i) (by omega),sz3,fun q hq=>?_⟩;have su:=Zj (o:=.tup [.int 1,.int 2,.int 4]) hq;refine⟨_,rfl,q,_,_,.int jj,rfl,rfl,rT Ze,ej,_,_,rfl,rfl,⟨by omega,by omega⟩,_,_,rfl,rfl,by decide,rfl,_,rfl,XS (fun c=>?_) (fun c=>?_)⟩
    ·exact⟨_,rfl,h1 _ su⟩
    ·exact h2 _ su
   intro G1 ss eD1 t1 sub;have nD1:D1≠S/\D1≠W:=⟨(VW gS hD1).symm,(VW gW hD1).symm⟩;have sl3:=sub.length_le;refine⟨S,_,_,rfl,rfl,t1 _ _ gS,by rw[mM,mN];omega,?_⟩;obtain⟨G2,eG2⟩:∃G2,upd G1 S (.lst (zs.map Prod.fst++[.ref D1]))=G2:=⟨_,rfl⟩;rw[eG2];have gS2:G2 S=some (.lst ((zs++[(V.ref D1,ss)]).map Prod.fst)):=by rw[<- eG2,Ze,nP];rfl
   have t2:YN S W G G2:=by rw[<- eG2];exact(Zf.two t1).upd1
   have gW2:G2 W=some (.lst (zw.map Prod.fst)):=by rw[<- eG2,Zy (nN nSW)];exact t1 _ _ gW
   have eD2:G2 D1=some (.lst (ss.map V.str)):=by rw[<- eG2,Zy nD1.1];exact eD1
   have sG2:Zf H2 G2:=((Zf.two sG).trans t2).same hS0 hW2;clear eG2 t1 eD1;have hXG2:=sG2 _ _ hX;have done:∀(G7:Hp) (Z:Addr) (on:List Int),Zf G2 G7->G2 Z=none->G7 Z=some (.lst (on.map V.int))->on.Nodup->on≠[]->(∀y∈on,0<=y/\y<(M:Nat))->on.length<=20 ->
     ∃(z6 z7:Option V) (zs':List (V×List Str)) (zw':List (V×List Int)),[some (.ref p),some (.ref NM),some (.ref X),some (.int M),some (.ref S),some (.ref W),some (.int (i:Nat)),some (.ref Z),none,none]=[some (.ref p),some (.ref NM),some (.ref X),some (.int M),some (.ref S),some (.ref W),z6,z7,none,none]/\Zf H2 (upd G7 W (.lst (zw.map Prod.fst++[.ref Z])))/\(upd G7 W (.lst (zw.map Prod.fst++[.ref Z]))) S=some (.lst (zs'.map Prod.fst))/\(upd G7 W (.lst (zw.map Prod.fst++[.ref Z]))) W=some (.lst (zw'.map Prod.fst))/\zs'.length=i+1/\zw'.length=i+1/\ZL LS (hid2 S W (New H2 (upd G7 W (.lst (zw.map Prod.fst++[.ref Z]))))) zs'/\ZL LI (hid2 S W (New H2 (upd G7 W (.lst (zw.map Prod.fst++[.ref Z]))))) zw'/\(∀x∈zs',x.2.Sublist nn)/\(∀x∈zw',x.2.Nodup/\x.2≠[]/\(∀y∈x.2,0<=y/\y<(M:Nat))/\x.2.length<=20):=by
    intro G7 Z on t27 Z2 gZ ond one obd ol;have nZ:Z≠S/\Z≠W:=⟨(VW gS2 Z2).symm,(VW gW2 Z2).symm⟩;have tt:YN S W G2 (upd G7 W (.lst (zw.map Prod.fst++[.ref Z]))):=(Zf.two t27).upd2;refine⟨_,_,zs++[(V.ref D1,ss)],zw++[(V.ref Z,on)],rfl,((Zf.two sG2).trans tt).same hS0 hW2,by rw[Zy nSW];exact t27 _ _ gS2,by rw[Ze,nP];rfl,by rw[mT,lzs];rfl,by rw[mT,lzw];rfl,?_,?_,?_,?_⟩
    ·refine ZL.app (qs.mono LS.mono (t2.trans tt).new) (ZL.one ⟨D1,rfl,vc nD1.1 nD1.2 (New.mk (sG.free hD1) (tt _ _ nD1.1 nD1.2 eD2))⟩)
    ·refine ZL.app (qw.mono LI.mono (t2.trans tt).new) (ZL.one ⟨Z,rfl,vc nZ.1 nZ.2 (New.mk (sG2.free Z2) (by rw[Zy nZ.2];exact gZ))⟩)
    ·intro x hx;rcases nE.mp hx with h|h
     ·exact bs x h
     ·cases nj.mp h;exact sub
    ·intro x hx;rcases nE.mp hx with h|h
     ·exact bw x h
     ·cases nj.mp h;exact⟨ond,one,obd,ol⟩
   refine⟨_,rfl,_,rfl,by omega,by omega,fun D2 hD2=>?_⟩;rw[mY];refine qG (zE M) V.int (WO M) hD2 (by omega) ?_ ?_
   ·intro j hj F N N0 sF h1 h2;rw[toRm_at hj] at h1;rw[WO] at hj;obtain⟨jj,ej,j0,j1⟩:=xY (l:=[1,3,9,27,81,243]) tab6 (i:=j) (show j<6 by omega);refine⟨_,rfl,_,rfl,_,_,rfl,rfl,X,_,_,_,rfl,rfl,rS (sF _ _ hXG2),by rw[e8];exact hx (8+i) (by omega),sz6,fun q hq=>?_⟩;have su:=Zj (o:=.tup [.int 1,.int 3,.int 9,.int 27,.int 81,.int 243]) hq;refine⟨_,rfl,q,_,_,.int jj,rfl,rfl,rT Ze,ej,_,_,rfl,rfl,⟨by omega,by omega⟩,_,_,rfl,rfl,by decide,rfl,_,rfl,XS (fun c=>?_) (fun c=>?_)⟩
    ·exact⟨_,rfl,h1 _ su⟩
    ·exact h2 _ su
   intro G3 on eD t3 sbo;have ond:=(vQ M).sublist sbo;have obd:∀y∈on,0<=y/\y<(M:Nat):=fun y hy=>toRm_b (sbo.subset hy);have ol:=sbo.length_le;rw[WO] at ol;refine⟨_,rfl,by decide,fun E hE=>?_⟩;obtain⟨G4,qN,t4,eE⟩:=ZV (o:=.lst []) hE;rw[qN];have t24:=t3.trans t4;refine vZ (t4 _ _ eD) eE fun b hb=>⟨_,rfl,XS (fun cb=>?_) (fun cb=>?_)⟩
   ·refine⟨_,rfl,_,rfl,_,_,rfl,rfl,X,_,_,_,rfl,rfl,rS (t24 _ _ hXG2),by rw[e15];exact hx (15+i) (by omega),_,rfl,_,_,rfl,rfl,by omega,sz1,fun Z hZ=>?_⟩;have f0:=oq (ns[15+i]'(by omega)) (show(M:Int)≠0 by omega);have f1:=oI (ns[15+i]'(by omega)) (show(0:Int)<M by omega);generalize ns[15+i]'(by omega)%(M:Int)=fi at f0 f1 ⊢;obtain⟨G5,qN,t5,eZ⟩:=ZV (o:=.lst (([fi]:List Int).map V.int)) hZ;have qN':upd G4 Z (.lst [.int fi])=G5:=qN;rw[qN'];clear qN qN';exact⟨_,rfl,.inl ⟨rfl,_,rS ((t24.trans t5) _ _ gW2)⟩,_,rfl,W,_,_,rfl,rfl,(t24.trans t5) _ _ gW2,by rw[mM,mN];omega,done G5 Z [fi] (t24.trans t5) (t24.free hZ) eZ (by simp) (by simp) (fun y hy=>by rw[nj] at hy;subst hy;exact⟨f0,f1⟩) (by simp)⟩
   ·exact⟨_,rfl,.inl ⟨rfl,_,rS (t24 _ _ gW2)⟩,_,rfl,W,_,_,rfl,rfl,t24 _ _ gW2,by rw[mM,mN];omega,done G4 D2 on t24 hD2 (t4 _ _ eD) ond (fun z=>cb (hb.mpr z)) obd (by omega)⟩
  rintro σ H5 ⟨z6,z7,zs,zw,rfl,sG,gS,gW,lzs,lzw,qs,qw,bs,bw⟩;have hX5:=sG _ _ hX;have hNM5:=sG _ _ hNM2;refine⟨_,rfl,_,rfl,by omega,by omega,fun D hD=>?_⟩;rw[mY];refine qG (zE M) V.int (WO M) hD (by omega) ?_ ?_
  ·intro j hj F N N0 sF h1 h2;rw[toRm_at hj] at h1;rw[WO] at hj;obtain⟨jj,ej,j0,j1⟩:=xY (l:=[1,2,4,8,16,32]) tab6b (i:=j) (show j<6 by omega);refine⟨_,rfl,X,_,_,_,rfl,rfl,rS (sF _ _ hX5),hx 22 (by omega),sz6,fun q hq=>?_⟩;have su:=Zj (o:=.tup [.int 1,.int 2,.int 4,.int 8,.int 16,.int 32]) hq;refine⟨_,rfl,q,_,_,.int jj,rfl,rfl,rT Ze,ej,_,_,rfl,rfl,⟨by omega,by omega⟩,_,_,rfl,rfl,by decide,rfl,_,rfl,XS (fun c=>?_) (fun c=>?_)⟩
   ·exact⟨_,rfl,h1 _ su⟩
   ·exact h2 _ su
  intro H6 on eD s6 sbo;have ond:=(vQ M).sublist sbo;have obd:∀y∈on,0<=y/\y<(M:Nat):=fun y hy=>toRm_b (sbo.subset hy);have ol:=sbo.length_le;rw[WO] at ol;refine⟨fun σ G=>∃(ST:Addr) (sts:List Int),σ=[some (.ref p),some (.ref NM),some (.ref X),some (.int M),some (.ref S),some (.ref W),z6,z7,some (.ref ST),none]/\Zf H5 G/\G ST=some (.lst (sts.map V.int))/\sts.Nodup/\sts≠[]/\(∀y∈sts,0<=y/\y<(M:Nat))/\sts.length<=20,?_,?_⟩
  ·refine⟨_,rfl,by decide,fun E hE=>?_⟩;obtain⟨G4,qN,t4,eE⟩:=ZV (o:=.lst []) hE;rw[qN];have t24:=s6.trans t4;refine vZ (t4 _ _ eD) eE fun b hb=>⟨_,rfl,XS (fun cb=>?_) (fun cb=>?_)⟩
   ·refine⟨_,rfl,X,_,_,_,rfl,rfl,rS (t24 _ _ hX5),hx 23 (by omega),_,rfl,_,_,rfl,rfl,by omega,sz1,fun Z hZ=>?_⟩;have f0:=oq (ns[23]'(by omega)) (show(M:Int)≠0 by omega);have f1:=oI (ns[23]'(by omega)) (show(0:Int)<M by omega);generalize ns[23]'(by omega)%(M:Int)=fi at f0 f1 ⊢;obtain⟨G5,qN,t5,eZ⟩:=ZV (o:=.lst (([fi]:List Int).map V.int)) hZ;have qN':upd G4 Z (.lst [.int fi])=G5:=qN;rw[qN'];clear qN qN';exact⟨Z,[fi],rfl,t24.trans t5,eZ,by simp,by simp,fun y hy=>by rw[nj] at hy;subst hy;exact⟨f0,f1⟩,by simp⟩
   ·exact⟨D,on,rfl,t24,t4 _ _ eD,ond,fun z=>cb (hb.mpr z),obd,by omega⟩
  rintro σ H7 ⟨ST,sts,rfl,s7,eST,tnd,tne,tbd,tlen⟩;refine⟨3,rfl,by decide,by decide,fun D3 hD3=>?_⟩;refine qG (n:=3) nn V.str ln hD3 (by omega) ?_ ?_
  ·intro j hj F N N0 sF h1 h2;obtain⟨jj,ej,j0,j1⟩:=xY (l:=[1,3,9]) tab3b (i:=j) (show j<3 by omega);refine⟨_,rfl,X,_,_,_,rfl,rfl,rS (sF _ _ (s7 _ _ hX5)),hx 24 (by omega),sz3,fun q hq=>?_⟩;have su:=Zj (o:=.tup [.int 1,.int 3,.int 9]) hq;refine⟨_,rfl,q,_,_,.int jj,rfl,rfl,rT Ze,ej,_,_,rfl,rfl,⟨by omega,by omega⟩,_,_,rfl,rfl,by decide,rfl,_,rfl,XS (fun c=>?_) (fun c=>?_)⟩
   ·exact⟨_,rfl,_,rfl,NM,_,_,_,rfl,rfl,rS (su _ _ (sF _ _ (s7 _ _ hNM5))),Zt (by rw[mU,mO hj];rfl),h1 _ su⟩
   ·exact h2 _ su
  intro H8 fs eF s8 sbf;have fl:=sbf.length_le;refine⟨_,rfl,_,rfl,_,rfl,_,rfl,_,rfl,sz5,fun t ht=>?_⟩;obtain⟨H9,qN,s9,e9⟩:=ZV (o:=.tup [.ref S,.ref W,.ref ST,.ref D3,.ref NM]) ht;rw[qN];have s59:=s7.trans (s8.trans s9);have sH5:=s02.trans sG;refine k H9 t _ _ _ _ NM ⟨zs.map Prod.snd,zw.map Prod.snd,sts,fs⟩ nn (sH5.trans s59) e9 ⟨?_,?_,?_,?_⟩ ⟨?_,?_,?_,?_,?_,?_,?_⟩ (s59 _ _ hNM5) ln nnm
  ·exact ZL.ll (s59 _ _ gS) (qs.mono LS.mono (j4.trans (New.sub.trans s59)))
  ·exact ZL.ll (s59 _ _ gW) (qw.mono LI.mono (j4.trans (New.sub.trans s59)))
  ·exact⟨ST,rfl,(s8.trans s9) _ _ eST⟩
  ·exact⟨D3,rfl,s9 _ _ eF⟩
  ·show 1<=(zs.map Prod.snd).length;rw[mM];omega
  ·show(zs.map Prod.snd).length<=20;rw[mM];omega
  ·show(zw.map Prod.snd).length=(zs.map Prod.snd).length;rw[mM,mM];omega
  ·intro ss hss;obtain⟨x,hx,rfl⟩:=mW.mp hss;have sb:=bs x hx;have:=sb.length_le;exact⟨nnd.sublist sb,fun y hy=>nnm y (sb.subset hy),by omega⟩
  ·intro ss hss;obtain⟨x,hx,rfl⟩:=mW.mp hss
   show _/\_/\(∀y∈x.2,0<=y/\y<(((zs.map Prod.snd).length:Nat):Int))/\_
   rw[mM,lzs];exact bw x hx
  ·refine⟨tnd,tne,?_,tlen⟩
   show ∀y∈sts,0<=y/\y<(((zs.map Prod.snd).length:Nat):Int)
   rw[mM,lzs];exact tbd
  ·exact⟨nnd.sublist sbf,fun x hx=>nnm x (sbf.subset hx),by show fs.length<=3;omega⟩
def jm(K:W.Frag)(a:Adr):Sp:=fun vs H Q _=>∃(t b p o1 o2:Addr) (d:WD) (A B F:Nat->Bool) (m:Nat),vs=[.ref t,.ref b,.ref p,.int (m:Int)]/\XR d/\zB H t d/\BL H b d.signs.length F/\H p=some (.tup [.ref o1,.ref o2])/\BL H o1 d.signs.length A/\BL H o2 d.signs.length B/\m<=60/\∀H' D,Zf H H'->H D=none->BL H' D d.signs.length (itB (fun S r=>(F r&&B r)||(A r&&ldB (WN d) S r)) m (fun r=>F r&&B r))->Q (.ref D) H'
theorem vo(T:Txt K mg a)(hw:w.params=a.Pm):Ye P w K mg base CX0 1 a._law_kept a.cF lY (jm K a):=by
 refine T.fz.ok YR (fun vs H Q E h=>?_) (fun lD A outer s H vs Q E hr h=>?_)
 ·obtain⟨t,b,p,o1,o2,d,A,B,F,m,rfl,_⟩:=h;rfl
 ·obtain⟨t,b,p,o1,o2,d,S1,S2,F,m,rfl,gd,sp,hb,hp,ho1,ho2,hm,k⟩:=h;refine⟨_,(@Za _ _ _ _ _ (yD (pv 2) (VE (K:=K) (n:=2) rfl rfl (Z8 (Zh (i:=4) YR.nd rfl (Or.inr rfl)) (Z8 (Zh (i:=5) YR.nd rfl (Or.inr rfl)) Vc)))) (@Za _ _ _ _ _ (@Zi _ _ (6) _ _ _ _ YR.nd rfl (Or.inl rfl) (ZQ (YJ (K:=K) rfl rfl) rfl T.bT rX (@Zc _ _ _ (ZQ (VS) rfl T.ae rY (@Zc _ _ _ (Zm (ZI (K:=K) rfl) rfl T.aX rW (@Zc _ _ _ (pv 1) (by rfl))) (by rfl))) (by rfl))) (by rfl) (.inl rfl)) (@Za _ _ _ _ _ (@Zi _ _ (7) _ _ _ _ YR.nd rfl (Or.inr rfl) (Zv (Nc:=lM) (ix:=[none,some 1,some 5]) (ZA.of (by decide +kernel:ZD (Zb YA) ["_law_spec", "_law_fair", "_law_part", "_law_left", "_law_one", "_law_other", "_law_rooms", "_law_found", "_law_first", "_law_turn", "_law_on"] ["_law_room", "_law_fair", "_law_other"] [none,some 1,some 5] _=true)) rfl (ZC (K:=K) rfl (pv 6)) (fun _ _ _ _ _=>(Zh (i:=0) (show List.Nodup lM by decide +kernel) rfl (Or.inl rfl))) (fun _ _ _ _ _=>ZF) (fun _ _ _ _ _=>(YD (@Zn _ _ _ _ _ _ _ (Zk (K:=K) rfl) (pv 1) (pv 0) (fun _ _=>rfl)) (Yr (@Zn _ _ _ _ _ _ _ (Zk (K:=K) rfl) (pv 2) (pv 0) (fun _ _=>rfl)))))) (by rfl) (.inl rfl)) (@Za _ _ _ _ _ (@Zi _ _ (8) _ _ _ _ YR.nd rfl (Or.inr rfl) (pv 7) (by rfl) (.inl rfl)) (@Za _ _ _ _ _ (Xo nB rfl (ZM rfl T.ae (@Zc _ _ _ (pv 3) (by rfl))) (Zh (i:=9) YR.nd rfl (Or.inl rfl)) (@Za _ _ _ _ _ (@Zi _ _ (10) _ _ _ _ YR.nd rfl (Or.inr rfl) (Zv (Nc:=lG) (ix:=[none,some 4,some 7,some 0]) (ZA.of (by decide +kernel:ZD (Zb YA) ["_law_spec", "_law_fair", "_law_part", "_law_left", "_law_one", "_law_other", "_law_rooms", "_law_found", "_law_first", "_law_turn", "_law_on"] ["_law_room", "_law_one", "_law_found", "_law_spec"] [none,some 4,some 7,some 0] _=true)) rfl (ZC (K:=K) rfl (pv 6)) (fun _ _ _ _ _=>(Zh (i:=0) (show List.Nodup lG by decide +kernel) rfl (Or.inl rfl))) (fun _ _ _ _ _=>ZF) (fun _ _ _ _ _=>(YD (@Zn _ _ _ _ _ _ _ (Zk (K:=K) rfl) (pv 1) (pv 0) (fun _ _=>rfl)) (Yr (Zm (Wh (K:=K) rfl rfl) rfl T.ij sd (@Zc _ _ _ (Zv (Nc:=lN) (ix:=[none,some 2]) (ZA.ofR (N:=lG) (sc0:=Zb YA) rfl (by decide +kernel)) rfl (ZC (K:=K) rfl (@Zn _ _ _ _ _ _ _ (Zk (K:=K) rfl) (@Zn _ _ _ _ _ _ _ (ZB (K:=K) rfl) (pv 3) Zd (fun _ _=>rfl)) (pv 0) (fun _ _=>rfl))) (fun _ _ _ _ _=>(Zh (i:=0) (show List.Nodup lN by decide +kernel) rfl (Or.inl rfl))) (fun _ _ _ _ _=>ZF) (fun _ _ _ _ _=>(@Zn _ _ _ _ _ _ _ (Zk (K:=K) rfl) (pv 1) (pv 0) (fun _ _=>rfl)))) (by rfl))))))) (by rfl) (.inl rfl)) (@Zg _ _ _ (@Zi _ _ (7) _ _ _ _ YR.nd rfl (Or.inr rfl) (Zv (Nc:=lO) (ix:=[none,some 8,some 10]) (ZA.of (by decide +kernel:ZD (Zb YA) ["_law_spec", "_law_fair", "_law_part", "_law_left", "_law_one", "_law_other", "_law_rooms", "_law_found", "_law_first", "_law_turn", "_law_on"] ["_law_room", "_law_first", "_law_on"] [none,some 8,some 10] _=true)) rfl (ZC (K:=K) rfl (pv 6)) (fun _ _ _ _ _=>(Zh (i:=0) (show List.Nodup lO by decide +kernel) rfl (Or.inl rfl))) (fun _ _ _ _ _=>ZF) (fun _ _ _ _ _=>(pe_or (@Zn _ _ _ _ _ _ _ (Zk (K:=K) rfl) (pv 1) (pv 0) (fun _ _=>rfl)) (Yr (@Zn _ _ _ _ _ _ _ (Zk (K:=K) rfl) (pv 2) (pv 0) (fun _ _=>rfl)))))) (by rfl) (.inl rfl))))) (@Zg _ _ _ (@Zq _ _ _ _ (pv 7)))))))),?_⟩;have n20:=gd.n20;have wl:=gd.wl;obtain⟨sv,wv0,stv,fv,nmv,ht,pts⟩:=sp.ex;obtain⟨wa,wv,rfl,hwa,lw,qw⟩:=pts.w;refine⟨_,rfl,p,_,rfl,rT hp,rfl,_,_,rfl,_,_,rfl,rfl,?_⟩;refine⟨_,rfl,.inl ⟨b,_,rfl,.inl (rS hb),?_⟩⟩;rw[V5];refine⟨_,rfl,fun R hR=>?_⟩;obtain⟨H1,qN,s1,e1⟩:=ZV (o:=.rng 0 (d.signs.length:Int)) hR;rw[qN];refine .inr ⟨R,_,rfl,e1,by omega,by omega,fun M hM=>?_⟩;rw[vX];obtain⟨H2,qN,s2,e2⟩:=ZV (o:=.lst (nV (List.range d.signs.length))) hM;rw[qN];have s02:=s1.trans s2;have rl:(List.range d.signs.length).length<=sizeLine:=by rw[m9,mN];omega
  refine⟨_,rfl,M,rfl,⟨_,rS e2⟩,fun D hD=>?_⟩;refine ZY (List.range d.signs.length) (fun y:Nat=>V.int (y:Int)) (fun r=>V.bl (F r&&S2 r)) hD (rS e2) rl ?_ ?_
  ·intro r hr G N sG hN;have lr:=mX.mp hr;have sH:=s02.trans sG;refine⟨_,rfl,_,rfl,b,_,_,_,rfl,rfl,rS (sH _ _ hb),Ym lr,F r,rfl,Vk (c:=S2 r) (P:=fun v=>N v _) (hN _ (.refl _)) (fun q=>⟨_,rfl,_,rfl,o2,_,_,_,rfl,rfl,rS (sH _ _ ho2),Ym lr,q⟩)⟩
  intro H3 e3 s3;have s03:=s02.trans s3;refine⟨_,rfl,_,rfl,_,rfl,by omega,by omega,?_⟩;rw[mY];refine Wd (J:=Itr 0 m) (n:=m) (fun i σ G=>∃(Y:Addr) (z9 z10:Option V),σ=[some (.ref t),some (.ref b),some (.ref p),some (.int (m:Int)),some (.ref o1),some (.ref o2),some (.ref M),some (.ref Y),some (.ref D),z9,z10]/\Zf H3 G/\H Y=none/\BL G Y d.signs.length (itB (fun S r=>(F r&&S2 r)||(S1 r&&ldB (WN d) S r)) i (fun r=>F r&&S2 r))) ?_ (fun _ _ _ h _=>h) (fun _ _ _=>mP _) ?_ ?_
  ·exact⟨D,_,_,rfl,.refl _,s02.free hD,e3⟩
  ·rintro i x σ G0 G hi ⟨Y,z9,z10,rfl,sG,hY,eY⟩ ⟨rfl,rfl⟩;have sH:=s03.trans sG;have eM:=sG _ _ (s3 _ _ e2);refine⟨_,rfl,M,rfl,⟨_,rS eM⟩,fun D2 hD2=>?_⟩;refine ZY (List.range d.signs.length) (fun y:Nat=>V.int (y:Int)) (fun r=>V.bl (S1 r&&ldB (WN d) (itB (fun S r=>(F r&&S2 r)||(S1 r&&ldB (WN d) S r)) i (fun r=>F r&&S2 r)) r)) hD2 (rS eM) rl ?_ ?_
   ·intro r hr G1 N sG1 hN;have lr:=mX.mp hr;have sH1:=sH.trans sG1;have lw2:r<wv.length:=by omega
    have lw3:r<d.ways.length:=by omega
    obtain⟨wx,ewx,hwx⟩:=qw r wv[r] d.ways[r] (mO lw2) (mO lw3);have wb:=gd.wn _ (nk lw3);have hN':∀(H4:Hp) (c:Bool),Zf G1 H4->c=(S1 r&&ldB (WN d) (itB (fun S r=>(F r&&S2 r)||(S1 r&&ldB (WN d) S r)) i (fun r=>F r&&S2 r)) r)->N (.bl c) H4:=fun H4 c s e=>by rw[e];exact hN H4 s
    refine⟨_,rfl,_,rfl,o1,_,_,_,rfl,rfl,rS (sH1 _ _ ho1),Ym lr,_,rfl,XS (fun c=>?_) (fun c=>hN' _ _ (.refl _) (by rw[Bool.not_eq_true] at c;rw[c];rfl))⟩;refine⟨_,rfl,t,_,_,.ref wa,rfl,rfl,rT (sH1 _ _ ht),rfl,_,rfl,wa,_,_,.ref wx,rfl,rfl,rS (sH1 _ _ hwa),Zt (by rw[mO lw2,ewx]),wx,rfl,⟨_,rS (sH1 _ _ hwx)⟩,fun D3 hD3=>?_⟩;refine ZY d.ways[r] V.int (fun x=>V.bl (itB (fun S r=>(F r&&S2 r)||(S1 r&&ldB (WN d) S r)) i (fun r=>F r&&S2 r) x.toNat)) hD3 (rS (sH1 _ _ hwx)) (by rw[mN];omega) ?_ ?_
    ·intro x hx G2 N2 sG2 hN2;have xb:=wb.2.2.1 x hx;obtain⟨y,rfl⟩:=oA xb.1;exact⟨_,rfl,_,rfl,Y,_,_,_,rfl,rfl,rS (sG2 _ _ (sG1 _ _ eY)),Ym (by omega),hN2 _ (.refl _)⟩
    intro G2 eG2 s2;refine⟨D3,d.ways[r].map fun x=>itB (fun S r=>(F r&&S2 r)||(S1 r&&ldB (WN d) S r)) i (fun r=>F r&&S2 r) x.toNat,rfl,rS (by rw[eG2,mZ];rfl),?_⟩;rw[U3 lw3];exact hN' G2 _ s2 (by rw[c];rfl)
   intro G2 eG2 u2;have eM2:=u2 _ _ eM;refine⟨_,rfl,M,rfl,⟨_,rS eM2⟩,fun D4 hD4=>?_⟩;refine ZY (List.range d.signs.length) (fun y:Nat=>V.int (y:Int)) (fun r=>V.bl (itB (fun S r=>(F r&&S2 r)||(S1 r&&ldB (WN d) S r)) (i+1) (fun r=>F r&&S2 r) r)) hD4 (rS eM2) rl ?_ ?_
   ·intro r hr G3 N sG3 hN;have lr:=mX.mp hr;have sG:=sG.trans (u2.trans sG3);exact⟨_,rfl,_,rfl,D,_,_,_,rfl,rfl,rS (sG _ _ e3),Ym lr,F r&&S2 r,rfl,or_v (c:=S1 r&&ldB (WN d) (itB (fun S r=>(F r&&S2 r)||(S1 r&&ldB (WN d) S r)) i (fun r=>F r&&S2 r)) r) (P:=fun v=>N v _) (hN _ (.refl _)) (fun q=>⟨_,rfl,_,rfl,D2,_,_,_,rfl,rfl,rS (sG3 _ _ eG2),Ym lr,q⟩)⟩
   intro G3 eG3 u3;exact⟨D4,_,_,rfl,sG.trans (u2.trans u3),(sH.trans u2).free hD4,eG3⟩
  rintro σ G ⟨Y,z9,z10,rfl,sG,hY,eY⟩;exact⟨_,rfl,k G Y (s03.trans sG) hY eY⟩
def yN(K:W.Frag)(a:Adr):Sp:=fun vs H Q _=>∃(t b g:Addr) (d:WD) (A B:Nat->Bool),vs=[.ref t,.ref b,.ref g]/\XR d/\zB H t d/\BL H b d.signs.length A/\BL H g d.signs.length B/\∀H' F,Zf H H'->H F=none->BL H' F d.signs.length (cmB d A B)->Q (.ref F) H'
theorem Uu(T:Txt K mg a)(hw:w.params=a.Pm):Ye P w K mg base CX0 1 a._law_comes a.b8 lW (yN K a):=by
 refine T.bS.ok Yz (fun vs H Q E h=>?_) (fun lD A outer s H vs Q E hr h=>?_)
 ·obtain⟨t,b,g,d,A,B,rfl,_⟩:=h;rfl
 ·obtain⟨t,b,g,d,S1,S2,rfl,gd,sp,hb,hg,k⟩:=h;refine⟨_,(@Za _ _ _ _ _ (@Zi _ _ (3) _ _ _ _ Yz.nd rfl (Or.inl rfl) (@ZW _ _ _ _ XH) (by rfl) (.inl rfl)) (@Za _ _ _ _ _ (Xo nB rfl (ZM rfl T.ae (@Zc _ _ _ (Zm (ZI (K:=K) rfl) rfl T.aX rW (@Zc _ _ _ (pv 1) (by rfl))) (by rfl))) (Zh (i:=4) Yz.nd rfl (Or.inl rfl)) (@Za _ _ _ _ _ (@Zi _ _ (5) _ _ _ _ Yz.nd rfl (Or.inl rfl) (@ZW _ _ _ _ (@Zc _ _ _ (pv 4) (by rfl))) (by rfl) (.inl rfl)) (@Za _ _ _ _ _ (@Zi _ _ (6) _ _ _ _ Yz.nd rfl (Or.inl rfl) (@ZW _ _ _ _ (@Zc _ _ _ (pv 4) (by rfl))) (by rfl) (.inl rfl)) (@Za _ _ _ _ _ (@Zi _ _ (7) _ _ _ _ Yz.nd rfl (Or.inl rfl) Wv (by rfl) (.inl rfl)) (@Za _ _ _ _ _ (W7 nB (@Zp _ _ _ _ _ _ _ _ (qg (K:=K) rfl (Xx.units hr)) (pv 6) (@ZW _ _ _ _ XH) (Zw _)) (@Za _ _ _ _ _ (@Zi _ _ (8) _ _ _ _ Yz.nd rfl (Or.inl rfl) (qE nS rC rD vm (pv 6)) (by rfl) (.inl rfl)) (@Za _ _ _ _ _ (@Zi _ _ (7) _ _ _ _ Yz.nd rfl (Or.inl rfl) (pe_or (pv 7) (Yr (@Zn _ _ _ _ _ _ _ (Zk (K:=K) rfl) (pv 2) (pv 8) (fun _ _=>rfl)))) (by rfl) (.inl rfl)) (@Zg _ _ _ (Xo nB rfl (ZC (K:=K) rfl (@Zn _ _ _ _ _ _ _ (Zk (K:=K) rfl) (@Zn _ _ _ _ _ _ _ (ZB (K:=K) rfl) (pv 0) Zd (fun _ _=>rfl)) (pv 8) (fun _ _=>rfl))) (Zh (i:=9) Yz.nd rfl (Or.inl rfl)) (@Zg _ _ _ (@ZN _ _ _ _ _ _ _ _ (PW.pt (vK (XG (@Zn _ _ _ _ _ _ _ (Zk (K:=K) rfl) (pv 1) (pv 8) (fun _ _=>rfl))) (zO (@Zp _ _ _ _ _ _ _ _ (qI (K:=K) rfl) (pv 9) (pv 5) (by with_unfolding_all rfl))))) (@Za _ _ _ _ _ (@Xc _ _ _ _ (WT nS oh oi Yg (pv 5) (@Zc _ _ _ (pv 9) (by rfl))) (by rfl)) (@Zg _ _ _ (@Xc _ _ _ _ (WT nS oh oi Yg (pv 6) (@Zc _ _ _ (pv 9) (by rfl))) (by rfl)))) Zu))))))) (@Zg _ _ _ (@Xc _ _ _ _ (WT nS oh oi Yg (pv 3) (@Zc _ _ _ (pv 7) (by rfl))) (by rfl)))))))) (@Zg _ _ _ (@Zq _ _ _ _ (pv 3))))),?_⟩;have n20:=gd.n20;have wl:=gd.wl;obtain⟨sv,wv0,stv,fv,nmv,ht,pts⟩:=sp.ex;obtain⟨wa,wv,rfl,hwa,lw,qw⟩:=pts.w;refine⟨by decide,fun D hD=>?_⟩;obtain⟨H1,qN,s1,eD⟩:=ZV (o:=.lst []) hD;rw[qN];refine⟨_,rfl,.inl ⟨b,_,rfl,.inl (rS (s1 _ _ hb)),?_⟩⟩;rw[V5];refine⟨_,rfl,by omega,by omega,?_⟩;rw[mY];refine Wd (J:=Itr 0 d.signs.length) (n:=d.signs.length) (fun i σ G=>∃(z4 z5 z6 z7 z8 z9:Option V),σ=[some (.ref t),some (.ref b),some (.ref g),some (.ref D),z4,z5,z6,z7,z8,z9]/\Zf H G/\G D=some (.lst ((List.range i).map fun r=>V.bl (cmB d S1 S2 r)))) ?_ (fun _ _ _ h _=>h) (fun _ _ _=>mP _) ?_ ?_
  ·exact⟨_,_,_,_,_,_,rfl,s1,eD⟩
  ·rintro i x σ G0 G hi ⟨z4,z5,z6,z7,z8,z9,rfl,sG,eD⟩ ⟨rfl,rfl⟩;have ei:(0:Int)+(i:Int)=((i:Nat):Int):=ou _;rw[ei];refine⟨_,rfl,sz1,fun S hS=>?_⟩;obtain⟨G1,qN,t1,eS⟩:=ZV (o:=.lst (nV [i])) hS;have qN':upd G S (.lst [.int (i:Int)])=G1:=qN;rw[qN'];clear qN qN';refine⟨_,rfl,sz1,fun L hL=>?_⟩;obtain⟨G2,qN,t2,eL⟩:=ZV (o:=.lst (nV [i])) hL;have qN':upd G1 L (.lst [.int (i:Int)])=G2:=qN;rw[qN'];clear qN qN';have nSL:S≠L:=VW eS hL;have hL0:G L=none:=t1.free hL;have t12:=t1.trans t2;have x0:∀{F:Hp}{b:Addr}{o:HO},YN S L G F->H b=some o->F b=some o:=fun {F b o} x e=>x.same hS hL0 _ _ (sG _ _ e);refine⟨fun m σ F=>∃(z8 z9:Option V) (h:Bool) (fs ls:List Nat),σ=[some (.ref t),some (.ref b),some (.ref g),some (.ref D),some (.int (i:Int)),some (.ref S),some (.ref L),some (.bl h),z8,z9]/\YN S L G F/\F S=some (.lst (nV fs))/\F L=some (.lst (nV ls))/\CkI (WN d) d.signs.length S1 S2 i fs ls h/\m<=41/\m=2*(d.signs.length-fs.length)+ls.length,⟨_,_,_,false,[i],[i],rfl,Zf.two t12,t2 _ _ eS,eL,.start hi,by simp only[oN];omega,rfl⟩,?_⟩;rintro m σ F ⟨z8,z9,h,fs,ls,rfl,xF,eS,eL,rc,m41,rfl⟩;refine⟨_,rfl,by decide,fun E hE=>?_⟩;obtain⟨F1,qN,u1,eE⟩:=ZV (o:=.lst []) hE;rw[qN];have eL1:=u1 _ _ eL;rw[nV_eq] at eL1;refine neD_nil eL1 eE fun c hc=>⟨_,rfl,?_⟩;cases c with
   |false=>
    have e0:ls=[]:=oJ fun z=>by have:=hc.mpr (by simpa using z);cases this
    subst e0;refine Z6 ?_;have sF1:Zf G F1:=(xF.trans (Zf.two u1)).same hS hL0;have eD1:=sF1 _ _ eD;refine⟨_,rfl,.inl ⟨rfl,_,rS eD1⟩,_,rfl,D,_,_,rfl,rfl,eD1,by rw[V5,mN];omega,?_⟩;refine⟨_,_,_,_,_,_,rfl,((Zf.x (sG.trans sF1)).upd).same hD,?_⟩;have eh:h=cmB d S1 S2 i:=by rw[n6,jr];exact rc.fin
    rw[Ze,pf,nP,eh];rfl
   |true=>
    refine YM ?_;have ne:ls≠[]:=by simpa using hc.mp rfl
    obtain⟨l,x,rfl⟩:∃l x,ls=l++[x]:=⟨_,_,(rA ne).symm⟩;have lx:=rc.lt x (rc.sub x (by simp));have eS1:=u1 _ _ eS;have eL1:=u1 _ _ eL;have fl:=rc.len;refine⟨fun σ F=>∃(z8 z9:Option V) (h:Bool) (fs' ls':List Nat),σ=[some (.ref t),some (.ref b),some (.ref g),some (.ref D),some (.int (i:Int)),some (.ref S),some (.ref L),some (.bl h),z8,z9]/\YN S L G F/\F S=some (.lst (nV fs'))/\F L=some (.lst (nV ls'))/\CkI (WN d) d.signs.length S1 S2 i fs' ls' h/\2*(d.signs.length-fs'.length)+ls'.length<2*(d.signs.length-fs.length)+(l++[x]).length,?_,?_⟩
    ·rintro σ F ⟨z8,z9,h,fs',ls',rfl,a1,a2,a3,a4,a5⟩;exact⟨_,a5,z8,z9,h,fs',ls',rfl,a1,a2,a3,a4,by omega,rfl⟩
    refine⟨_,rfl,.inl ⟨rfl,_,rS eL1⟩,L,_,.int (x:Int),rfl,rfl,eL1,by simp[nV],?_⟩;obtain⟨F2,qN⟩:∃F2,upd F1 L (.lst (nV (l++[x])).dropLast)=F2:=⟨_,rfl⟩;have y2:YN S L F1 F2:=by rw[<- qN];exact(YN.upd2 (Zf.two (.refl _)))
    have eL2:F2 L=some (.lst (nV l)):=by rw[<- qN,Ze,US];congr 2;exact rR
    have eS2:F2 S=some (.lst (nV fs)):=by rw[<- qN,Zy nSL];exact eS1
    rw[qN];have xF2:YN S L G F2:=(xF.trans (Zf.two u1)).trans y2;refine⟨_,rfl,h,rfl,or_v (c:=S2 x) (P:=fun v=>Xt 7 v _ _ _) ?_ (fun q=>⟨_,rfl,_,rfl,g,_,_,_,rfl,rfl,rS (x0 xF2 hg),Ym lx,q⟩)⟩;have lw2:x<wv.length:=by omega
    obtain⟨wx,ewx,hwx⟩:=qw x wv[x] d.ways[x] (mO lw2) (mO (by omega));have ww:WN d x=(d.ways[x]'(by omega)).map Int.toNat:=by unfold WN;rw[mO (by omega)];rfl
    have wb:=(gd.wn _ (nk (show x<d.ways.length by omega))).2.2.1;refine⟨_,rfl,t,_,_,.ref wa,rfl,rfl,rT (x0 xF2 ht),rfl,_,rfl,wa,_,_,.ref wx,rfl,rfl,rS (x0 xF2 hwa),Zt (by rw[mO lw2,ewx]),wx,rfl,⟨_,rS (x0 xF2 hwx)⟩,?_⟩;refine XX (K:=K) (xs:=d.ways[x].map V.int) (fun j σ F=>∃(z9:Option V) (fs' ls':List Nat),σ=[some (.ref t),some (.ref b),some (.ref g),some (.ref D),some (.int (i:Int)),some (.ref S),some (.ref L),some (.bl (h||S2 x)),some (.int (x:Int)),z9]/\YN S L G F/\F S=some (.lst (nV fs'))/\F L=some (.lst (nV ls'))/\CkJ (WN d) d.signs.length S1 S2 i x j fs' ls' (h||S2 x)/\2*(d.signs.length-fs'.length)+ls'.length<2*(d.signs.length-fs.length)+(l++[x]).length) ⟨_,fs,l,rfl,xF2,eS2,eL2,rc.pop,by simp⟩ ?_ ?_ ?_
    ·rintro j σ F _ ⟨z,fs',ls',rfl,xF,_⟩;exact rS (x0 xF hwx)
    ·rintro j y σ F hy ⟨z,fs',ls',rfl,xF,eS,eL,rj,mm⟩;rw[mU] at hy;obtain⟨yi,hyi,rfl⟩:=oU.mp hy;have yb:=wb yi (om hyi);obtain⟨q,rfl⟩:=oA yb.1;have lq:q<d.signs.length:=by omega
     have hq:(WN d x)[j]?=some q:=by rw[ww,mU,hyi];rfl
     have fl':=rj.len;have skip:(S1 x=true->q∈fs')->∃(z9:Option V) (fs' ls':List Nat),([some (.ref t),some (.ref b),some (.ref g),some (.ref D),some (.int (i:Int)),some (.ref S),some (.ref L),some (.bl (h||S2 x)),some (.int (x:Int)),some (.int (q:Int))]:L2.St)=[some (.ref t),some (.ref b),some (.ref g),some (.ref D),some (.int (i:Int)),some (.ref S),some (.ref L),some (.bl (h||S2 x)),some (.int (x:Int)),z9]/\YN S L G F/\F S=some (.lst (nV fs'))/\F L=some (.lst (nV ls'))/\CkJ (WN d) d.signs.length S1 S2 i x (j+1) fs' ls' (h||S2 x)/\2*(d.signs.length-fs'.length)+ls'.length<2*(d.signs.length-fs.length)+(l++[x]).length:=fun c=>⟨_,fs',ls',rfl,xF,eS,eL,rj.skip hq c,mm⟩;refine⟨_,rfl,_,rfl,b,_,_,_,rfl,rfl,rS (x0 xF hb),Ym lx,_,rfl,?_⟩;cases iq:S1 x with
     |false=>exact Z6 (Z6 (skip fun z=>by rw[iq] at z;cases z))
     |true=>
      refine YM ⟨_,rfl,_,rfl,S,_,rfl,.inl (rS eS),rfl,qp fs',_,rfl,?_⟩;rw[if_pos rfl,nV_in]
      by_cases hm:q∈fs'
      ·rw[nG hm];exact Z6 (skip fun _=>hm)
      ·rw[nH hm];refine YM ?_;have rp:=rj.put hq iq lq hm;have fl2:=rp.len;rw[mT] at fl2;have ll:ls'.length<=1000:=by omega
       refine⟨_,rfl,.inl ⟨rfl,_,rS eS⟩,_,rfl,S,_,_,rfl,rfl,eS,by rw[VT,mN];omega,?_⟩;have eL3:(upd F S (.lst (nV fs'++[.int (q:Int)]))) L=some (.lst (nV ls')):=(Zy (nN nSL)).trans eL;refine⟨_,rfl,.inl ⟨rfl,_,rS eL3⟩,_,rfl,L,_,_,rfl,rfl,eL3,by rw[VT,mN];omega,?_⟩;refine⟨_,fs'++[q],ls'++[q],rfl,xF.upd1.upd2,?_,?_,rp,?_⟩
       ·rw[Zy nSL,Ze,US];rfl
       ·rw[Ze,US];rfl
       ·rw[mT,mT];simp only[oN] at fl2 ⊢;omega
    rintro σ F ⟨z,fs',ls',rfl,xF,eS,eL,rj,mm⟩;rw[mM,show d.ways[x].length=(WN d x).length by rw[ww,mM]] at rj;exact⟨_,z,_,fs',ls',rfl,xF,eS,eL,rj.done,mm⟩
  rintro σ G ⟨z4,z5,z6,z7,z8,z9,rfl,sG,eD⟩;exact⟨_,rfl,k G D sG hD eD⟩
def yP(K:W.Frag)(a:Adr):Sp:=fun vs H Q _=>∃(w:V) (b:Addr) (d:WD) (I:Nat->Bool) (r:Nat),vs=[w,.ref b,.int (r:Int)]/\XR d/\LL LI H w d.ways/\BL H b d.signs.length I/\r<d.signs.length/\∀H' F fs,Zf H H'->H F=none->H' F=some (.lst (nV fs))->fs.Nodup->fs.length<=d.signs.length->(∀y,y∈fs↔Rt (EW (WN d)) (toP I d.signs.length) r y)->Q (.ref F) H'
theorem y3(T:Txt K mg a)(hw:w.params=a.Pm):Ye P w K mg base CX0 1 a._law_reach a.b7 mJ (yP K a):=by
 refine T.d4.ok WH (fun vs H Q E h=>?_) (fun lD A outer s H vs Q E hr h=>?_)
 ·obtain⟨w,b,d,I,r,rfl,_⟩:=h;rfl
 ·obtain⟨w,b,d,I,r,rfl,gd,hw,hb,hr0,k⟩:=h;refine⟨_,(@Za _ _ _ _ _ (@Zi _ _ (3) _ _ _ _ WH.nd rfl (Or.inl rfl) (@ZW _ _ _ _ (@Zc _ _ _ (pv 2) (by rfl))) (by rfl) (.inl rfl)) (@Za _ _ _ _ _ (@Zi _ _ (4) _ _ _ _ WH.nd rfl (Or.inl rfl) (@ZW _ _ _ _ (@Zc _ _ _ (pv 2) (by rfl))) (by rfl) (.inl rfl)) (@Za _ _ _ _ _ (W7 nB (@Zp _ _ _ _ _ _ _ _ (qg (K:=K) rfl (Xx.units hr)) (pv 4) (@ZW _ _ _ _ XH) (Zw _)) (@Zg _ _ _ (Xo nB rfl (ZC (K:=K) rfl (@Zn _ _ _ _ _ _ _ (Zk (K:=K) rfl) (pv 0) (qE nS rC rD vm (pv 4)) (fun _ _=>rfl))) (Zh (i:=5) WH.nd rfl (Or.inl rfl)) (@Zg _ _ _ (@ZN _ _ _ _ _ _ _ _ (PW.pt (vK (XG (@Zn _ _ _ _ _ _ _ (Zk (K:=K) rfl) (pv 1) (pv 5) (fun _ _=>rfl))) (zO (@Zp _ _ _ _ _ _ _ _ (qI (K:=K) rfl) (pv 5) (pv 3) (by with_unfolding_all rfl))))) (@Za _ _ _ _ _ (@Xc _ _ _ _ (WT nS oh oi Yg (pv 3) (@Zc _ _ _ (pv 5) (by rfl))) (by rfl)) (@Zg _ _ _ (@Xc _ _ _ _ (WT nS oh oi Yg (pv 4) (@Zc _ _ _ (pv 5) (by rfl))) (by rfl)))) Zu))))) (@Zg _ _ _ (@Zq _ _ _ _ (pv 3)))))),?_⟩;refine⟨_,rfl,sz1,fun F hF=>?_⟩;obtain⟨H1,qN,s1,eF⟩:=ZV (o:=.lst (nV [r])) hF;have qN':upd H F (.lst [.int (r:Int)])=H1:=qN;rw[qN'];clear qN qN';refine⟨_,rfl,sz1,fun L hL=>?_⟩;obtain⟨H2,qN,s2,eL⟩:=ZV (o:=.lst (nV [r])) hL;have qN':upd H1 L (.lst [.int (r:Int)])=H2:=qN;rw[qN'];clear qN qN';have eF2:=s2 _ _ eF;have nFL:F≠L:=VW eF hL;have hL0:H L=none:=s1.free hL;have s02:=s1.trans s2;obtain⟨wa,wv,rfl,hwa,lw,qw⟩:=hw;have wl:=gd.wl;have n20:=gd.n20;have x0:∀{G:Hp}{b:Addr}{xs:List V},YN F L H G->H b=some (.lst xs)->G b=some (.lst xs):=fun {G b xs} x e=>x _ _ (fun z=>by rw[z,hF] at e;cases e) (fun z=>by rw[z,hL0] at e;cases e) e;refine⟨fun m σ G=>∃(z:Option V) (fs ls:List Nat),σ=[some (.ref wa),some (.ref b),some (.int (r:Int)),some (.ref F),some (.ref L),z]/\YN F L H G/\G F=some (.lst (nV fs))/\G L=some (.lst (nV ls))/\RcI (WN d) d.signs.length I r fs ls/\m<=41/\m=2*(d.signs.length-fs.length)+ls.length,⟨_,_,[r],[r],rfl,fun b o _ _ e=>s02 _ _ e,eF2,eL,.start hr0,by simp only[oN];omega,rfl⟩,?_⟩;rintro m σ G ⟨z,fs,ls,rfl,xG,eF,eL,rc,m41,rfl⟩;refine⟨_,rfl,by decide,fun E hE=>?_⟩;obtain⟨G1,qN,t1,eE⟩:=ZV (o:=.lst []) hE;rw[qN];have eL1:=t1 _ _ eL;rw[nV_eq] at eL1;refine neD_nil eL1 eE fun c hc=>⟨_,rfl,?_⟩;cases c with
  |false=>
   have e0:ls=[]:=oJ fun z=>by have:=hc.mpr (by simpa using z);cases this
   subst e0;refine Z6 ⟨_,rfl,?_⟩;exact k G1 F fs ((xG.trans (Zf.two t1)).same hF hL0) hF (t1 _ _ eF) rc.nd rc.len (fun y=>rc.fin y)
  |true=>
   refine YM ?_;have ne:ls≠[]:=by simpa using hc.mp rfl
   obtain⟨l,x,rfl⟩:∃l x,ls=l++[x]:=⟨_,_,(rA ne).symm⟩;have lx:=rc.lt x (rc.sub x (by simp));have eF1:=t1 _ _ eF;have eL1:=t1 _ _ eL;have fl:=rc.len;refine⟨fun σ G=>∃(z:Option V) (fs' ls':List Nat),σ=[some (.ref wa),some (.ref b),some (.int (r:Int)),some (.ref F),some (.ref L),z]/\YN F L H G/\G F=some (.lst (nV fs'))/\G L=some (.lst (nV ls'))/\RcI (WN d) d.signs.length I r fs' ls'/\2*(d.signs.length-fs'.length)+ls'.length<2*(d.signs.length-fs.length)+(l++[x]).length,?_,?_⟩
   ·rintro σ G ⟨z,fs',ls',rfl,a1,a2,a3,a4,a5⟩;exact⟨_,a5,z,fs',ls',rfl,a1,a2,a3,a4,by omega,rfl⟩
   refine⟨_,rfl,_,rfl,.inl ⟨rfl,_,rS eL1⟩,L,_,.int (x:Int),rfl,rfl,eL1,by simp[nV],?_⟩;obtain⟨G2,qN⟩:∃G2,upd G1 L (.lst (nV (l++[x])).dropLast)=G2:=⟨_,rfl⟩;have y2:YN F L G1 G2:=by rw[<- qN];exact(YN.upd2 (Zf.two (.refl _)))
   have eL2:G2 L=some (.lst (nV l)):=by rw[<- qN,Ze,US];congr 2;exact rR
   have eF2:G2 F=some (.lst (nV fs)):=by rw[<- qN,Zy nFL];exact eF1
   rw[qN];have xG2:YN F L H G2:=(xG.trans (Zf.two t1)).trans y2;have lw2:x<wv.length:=by omega
   obtain⟨wx,ewx,hwx⟩:=qw x wv[x] d.ways[x] (mO lw2) (mO (by omega));have ww:WN d x=(d.ways[x]'(by omega)).map Int.toNat:=by unfold WN;rw[mO (by omega)];rfl
   have wb:=(gd.wn _ (nk (show x<d.ways.length by omega))).2.2.1;refine⟨wa,_,_,.ref wx,rfl,rfl,rS (x0 xG2 hwa),Zt (by rw[mO lw2,ewx]),wx,rfl,⟨_,rS (x0 xG2 hwx)⟩,?_⟩;refine XX (K:=K) (xs:=d.ways[x].map V.int) (fun i σ G=>∃(z:Option V) (fs' ls':List Nat),σ=[some (.ref wa),some (.ref b),some (.int (r:Int)),some (.ref F),some (.ref L),z]/\YN F L H G/\G F=some (.lst (nV fs'))/\G L=some (.lst (nV ls'))/\RcJ (WN d) d.signs.length I r x i fs' ls'/\2*(d.signs.length-fs'.length)+ls'.length<2*(d.signs.length-fs.length)+(l++[x]).length) ⟨_,fs,l,rfl,xG2,eF2,eL2,rc.pop,by simp⟩ ?_ ?_ ?_
   ·rintro i σ G _ ⟨z,fs',ls',rfl,xG,_⟩;exact rS (x0 xG hwx)
   ·rintro i y σ G hy ⟨z,fs',ls',rfl,xG,eF,eL,rj,mm⟩;rw[mU] at hy;obtain⟨yi,hyi,rfl⟩:=oU.mp hy;have yb:=wb yi (om hyi);obtain⟨q,rfl⟩:=oA yb.1;have lq:q<d.signs.length:=by omega
    have hq:(WN d x)[i]?=some q:=by rw[ww,mU,hyi];rfl
    have fl':=rj.len;have skip:(I q=true->q∈fs')->∃(z:Option V) (fs' ls':List Nat),([some (.ref wa),some (.ref b),some (.int (r:Int)),some (.ref F),some (.ref L),some (.int (q:Int))]:L2.St)=[some (.ref wa),some (.ref b),some (.int (r:Int)),some (.ref F),some (.ref L),z]/\YN F L H G/\G F=some (.lst (nV fs'))/\G L=some (.lst (nV ls'))/\RcJ (WN d) d.signs.length I r x (i+1) fs' ls'/\2*(d.signs.length-fs'.length)+ls'.length<2*(d.signs.length-fs.length)+(l++[x]).length:=fun c=>⟨_,fs',ls',rfl,xG,eF,eL,rj.skip hq c,mm⟩;refine⟨_,rfl,_,rfl,b,_,_,_,rfl,rfl,rS (x0 xG hb),Ym lq,_,rfl,?_⟩;cases iq:I q with
    |false=>exact Z6 (Z6 (skip fun z=>by rw[iq] at z;cases z))
    |true=>
     refine YM ⟨_,rfl,_,rfl,F,_,rfl,.inl (rS eF),rfl,qp fs',_,rfl,?_⟩;rw[if_pos rfl,nV_in]
     by_cases hm:q∈fs'
     ·rw[nG hm];exact Z6 (skip fun _=>hm)
     ·rw[nH hm];refine YM ?_;have rp:=rj.put hq iq lq hm;have fl2:=rp.len;rw[mT] at fl2;have ll:ls'.length<=1000:=by omega
      refine⟨_,rfl,.inl ⟨rfl,_,rS eF⟩,_,rfl,F,_,_,rfl,rfl,eF,by rw[VT,mN];omega,?_⟩;have eL3:(upd G F (.lst (nV fs'++[.int (q:Int)]))) L=some (.lst (nV ls')):=(Zy (nN nFL)).trans eL;refine⟨_,rfl,.inl ⟨rfl,_,rS eL3⟩,_,rfl,L,_,_,rfl,rfl,eL3,by rw[VT,mN];omega,?_⟩;refine⟨_,fs'++[q],ls'++[q],rfl,xG.upd1.upd2,?_,?_,rp,?_⟩
      ·rw[Zy nFL,Ze,US];rfl
      ·rw[Ze,US];rfl
      ·rw[mT,mT];simp only[oN] at fl2 ⊢;omega
   rintro σ G ⟨z,fs',ls',rfl,xG,eF,eL,rj,mm⟩;rw[mM,show d.ways[x].length=(WN d x).length by rw[ww,mM]] at rj;exact⟨z,fs',ls',rfl,xG,eF,eL,rj.done,mm⟩
def UW(K:W.Frag)(a:Adr):Sp:=fun vs H Q _=>∃(t b:Addr) (d:WD) (I:Nat->Bool),vs=[.ref t,.ref b]/\XR d/\zB H t d/\BL H b d.signs.length I/\∀H' D,Zf H H'->H D=none->BL H' D d.signs.length (frB d I)->Q (.ref D) H'
theorem Wu(T:Txt K mg a)(hw:w.params=a.Pm):Ye P w K mg base CX0 2 a._law_fair_from a.bf mK (UW K a):=by
 have iI:=y3 (P:=P) (w:=w) (base:=base) T hw;refine T.ah.ok ZS (fun vs H Q E h=>?_) (fun lD A outer s H vs Q E hr h=>?_)
 ·obtain⟨t,b,d,I,rfl,_⟩:=h;rfl
 ·obtain⟨t,b,d,I,rfl,gd,sp,hb,k⟩:=h;refine⟨_,(@Za _ _ _ _ _ (yD (pv 0) (VE (K:=K) (n:=5) rfl rfl (Z8 (Zh (i:=2) ZS.nd rfl (Or.inr rfl)) (Z8 (Zh (i:=3) ZS.nd rfl (Or.inr rfl)) (Z8 (Zh (i:=4) ZS.nd rfl (Or.inl rfl)) (Z8 (Zh (i:=5) ZS.nd rfl (Or.inl rfl)) (Z8 (Zh (i:=6) ZS.nd rfl (Or.inl rfl)) Vc))))))) (@Za _ _ _ _ _ (@Zi _ _ (7) _ _ _ _ ZS.nd rfl (Or.inr rfl) (Zv (Nc:=mn) (ix:=[none,some 3,some 1]) (ZA.of (by decide +kernel:ZD (Zb ZO) ["_law_spec", "_law_inside", "_law_signs", "_law_ways", "_law_starts", "_law_fair", "_law_names_here", "_law_reach_here", "_law_good", "_law_room", "_law_ring", "_law_goes", "_law_has"] ["_law_room", "_law_ways", "_law_inside"] [none,some 3,some 1] _=true)) rfl (ZM rfl T.ae (@Zc _ _ _ (Zm (ZI (K:=K) rfl) rfl T.aX rW (@Zc _ _ _ (pv 3) (by rfl))) (by rfl))) (fun _ _ _ _ _=>(Zh (i:=0) (show List.Nodup mn by decide +kernel) rfl (Or.inl rfl))) (fun _ _ _ _ _=>ZF) (fun _ _ _ _ _=>(Zl iI (hr.mono (by decide)) rfl T.gw T.d4.kp T.gv .nil Zs (@Z0 _ _ _ _ _ (pv 1) (@Z0 _ _ _ _ _ (pv 2) (@Xk _ _ _ (pv 0) (by rfl)) (by rfl)) (by rfl))))) (by rfl) (.inl rfl)) (@Za _ _ _ _ _ (@Zi _ _ (8) _ _ _ _ ZS.nd rfl (Or.inr rfl) (@ZW _ _ _ _ XH) (by rfl) (.inl rfl)) (@Za _ _ _ _ _ (Xo nB rfl (ZM rfl T.ae (@Zc _ _ _ (Zm (ZI (K:=K) rfl) rfl T.aX rW (@Zc _ _ _ (pv 3) (by rfl))) (by rfl))) (Zh (i:=9) ZS.nd rfl (Or.inr rfl)) (@Za _ _ _ _ _ (@Zi _ _ (10) _ _ _ _ ZS.nd rfl (Or.inr rfl) (Zv (Nc:=mr) (ix:=[none,some 9,some 7]) (ZA.of (by decide +kernel:ZD (Zb ZO) ["_law_spec", "_law_inside", "_law_signs", "_law_ways", "_law_starts", "_law_fair", "_law_names_here", "_law_reach_here", "_law_good", "_law_room", "_law_ring", "_law_goes", "_law_has"] ["_law_other", "_law_room", "_law_reach_here"] [none,some 9,some 7] _=true)) rfl (ZC (K:=K) rfl (@Zn _ _ _ _ _ _ _ (Zk (K:=K) rfl) (pv 7) (pv 9) (fun _ _=>rfl))) (fun _ _ _ _ _=>(Zh (i:=0) (show List.Nodup mr by decide +kernel) rfl (Or.inl rfl))) (fun _ _ _ _ _=>(WI (@Zp _ _ _ _ _ _ _ _ (WC (K:=K) rfl) (pv 1) (@Zn _ _ _ _ _ _ _ (Zk (K:=K) rfl) (pv 2) (pv 0) (fun _ _=>rfl)) (by with_unfolding_all rfl)))) (fun _ _ _ _ _=>(pv 0))) (by rfl) (.inl rfl)) (@Za _ _ _ _ _ (@Zi _ _ (11) _ _ _ _ ZS.nd rfl (Or.inl rfl) (Zm (Wh (K:=K) rfl rfl) rfl T.ij sd (@Zc _ _ _ (Zv (Nc:=mv) (ix:=[none,some 1,some 9,some 7]) (ZA.of (by decide +kernel:ZD (Zb ZO) ["_law_spec", "_law_inside", "_law_signs", "_law_ways", "_law_starts", "_law_fair", "_law_names_here", "_law_reach_here", "_law_good", "_law_room", "_law_ring", "_law_goes", "_law_has"] ["_law_other", "_law_inside", "_law_room", "_law_reach_here"] [none,some 1,some 9,some 7] _=true)) rfl (ZC (K:=K) rfl (@Zn _ _ _ _ _ _ _ (Zk (K:=K) rfl) (pv 3) (pv 9) (fun _ _=>rfl))) (fun _ _ _ _ _=>(Zh (i:=0) (show List.Nodup mv by decide +kernel) rfl (Or.inl rfl))) (fun _ _ _ _ _=>ZF) (fun _ _ _ _ _=>(YD (@Zn _ _ _ _ _ _ _ (Zk (K:=K) rfl) (pv 1) (pv 0) (fun _ _=>rfl)) (Yr (@YQ _ _ _ _ _ _ _ _ (WC (K:=K) rfl) (pv 2) (@Zn _ _ _ _ _ _ _ (Zk (K:=K) rfl) (pv 3) (pv 0) (fun _ _=>rfl)) (by with_unfolding_all rfl)))))) (by rfl))) (by rfl) (.inl rfl)) (@Za _ _ _ _ _ (jZ (i:=12) ZS.nd rfl rfl (Nc:=me) (ix:=[none,some 10,some 2]) (X5.of (by decide +kernel:V7 (Zb ZO) ["_law_spec", "_law_inside", "_law_signs", "_law_ways", "_law_starts", "_law_fair", "_law_names_here", "_law_reach_here", "_law_good", "_law_room", "_law_ring", "_law_goes", "_law_has"] ["_law_name", "_law_ring", "_law_signs"] [none,some 10,some 2] _=true)) rfl (ZC (K:=K) rfl (pv 5)) (fun _ _ _ _ _=>(Zh (i:=0) (show List.Nodup me by decide +kernel) rfl (by first|exact Or.inl rfl|exact Or.inr rfl))) (fun _ _ _ _ _=>ZF) (fun _ _ _ _ _=>(Zm (Wh (K:=K) rfl rfl) rfl T.ij sd (@Zc _ _ _ (Zv (Nc:=mw) (ix:=[none,some 0,some 2]) (ZA.ofR (N:=me) (sc0:=Zb ZO) rfl (by decide +kernel)) rfl (ZC (K:=K) rfl (pv 1)) (fun _ _ _ _ _=>(Zh (i:=0) (show List.Nodup mw by decide +kernel) rfl (Or.inl rfl))) (fun _ _ _ _ _=>ZF) (fun _ _ _ _ _=>(@YQ _ _ _ _ _ _ _ _ (WC (K:=K) rfl) (pv 1) (@Zn _ _ _ _ _ _ _ (Zk (K:=K) rfl) (pv 2) (pv 0) (fun _ _=>rfl)) (by with_unfolding_all rfl)))) (by rfl))))) (@Zg _ _ _ (@Xc _ _ _ _ (WT nS oh oi Yg (pv 8) (@Zc _ _ _ (YD (@Zn _ _ _ _ _ _ _ (Zk (K:=K) rfl) (pv 1) (pv 9) (fun _ _=>rfl)) (YD (pv 11) (Yr (Zm (X3 (K:=K) rfl rfl) rfl T.hV r6 (@Zc _ _ _ (pv 12) (by rfl)))))) (by rfl))) (by rfl))))))) (@Zg _ _ _ (@Zq _ _ _ _ (Zv (Nc:=mf) (ix:=[none,some 1,some 8,some 7]) (ZA.of (by decide +kernel:ZD (Zb ZO) ["_law_spec", "_law_inside", "_law_signs", "_law_ways", "_law_starts", "_law_fair", "_law_names_here", "_law_reach_here", "_law_good", "_law_room", "_law_ring", "_law_goes", "_law_has"] ["_law_room", "_law_inside", "_law_good", "_law_reach_here"] [none,some 1,some 8,some 7] _=true)) rfl (ZM rfl T.ae (@Zc _ _ _ (Zm (ZI (K:=K) rfl) rfl T.aX rW (@Zc _ _ _ (pv 3) (by rfl))) (by rfl))) (fun _ _ _ _ _=>(Zh (i:=0) (show List.Nodup mf by decide +kernel) rfl (Or.inl rfl))) (fun _ _ _ _ _=>ZF) (fun _ _ _ _ _=>(YD (@Zn _ _ _ _ _ _ _ (Zk (K:=K) rfl) (pv 1) (pv 0) (fun _ _=>rfl)) (Yr (Zm (Wh (K:=K) rfl rfl) rfl T.ij sd (@Zc _ _ _ (Zv (Nc:=my) (ix:=[none,some 2]) (ZA.ofR (N:=mf) (sc0:=Zb ZO) rfl (by decide +kernel)) rfl (ZC (K:=K) rfl (@Zn _ _ _ _ _ _ _ (Zk (K:=K) rfl) (pv 3) (pv 0) (fun _ _=>rfl))) (fun _ _ _ _ _=>(Zh (i:=0) (show List.Nodup my by decide +kernel) rfl (Or.inl rfl))) (fun _ _ _ _ _=>ZF) (fun _ _ _ _ _=>(@Zn _ _ _ _ _ _ _ (Zk (K:=K) rfl) (pv 1) (pv 0) (fun _ _=>rfl)))) (by rfl))))))))))))),?_⟩;have n20:=gd.n20;have wl:=gd.wl;obtain⟨sv0,wv0,stv,fv,nmv,ht,pts⟩:=sp.ex;obtain⟨wa,wv,rfl,hwa,lw,qw⟩:=id pts.w;obtain⟨sa,sv,rfl,hsa,ls,qs⟩:=id pts.s;obtain⟨fa,rfl,hfa⟩:=id pts.f;have wvl:wv.length=d.signs.length:=by omega
  refine⟨_,rfl,t,_,rfl,rT ht,rfl,_,_,rfl,_,_,rfl,_,_,rfl,_,_,rfl,_,_,rfl,rfl,?_⟩;refine⟨_,rfl,.inl ⟨wa,_,rfl,.inl (rS hwa),?_⟩⟩;rw[wvl];refine⟨_,rfl,by omega,by omega,fun D hD=>?_⟩;rw[mY];refine kR hD (by rw[mN];omega) (fun r v H=>∃F fs,v=.ref F/\H F=some (.lst (nV fs))/\fs.Nodup/\fs.length<=d.signs.length/\∀y,y∈fs↔Rt (EW (WN d)) (toP I d.signs.length) r y) (fun i v G G' s ⟨F,fs,e,h,q⟩=>⟨F,fs,e,s _ _ h,q⟩) ?_ ?_
  ·intro r G N hr sG hN;refine⟨_,rfl,_,rfl,_,rfl,.ref wa,b,d,I,r,rfl,gd,LL.mono LI.mono _ _ _ _ sG pts.w,sG _ _ hb,hr,fun G2 F fs s2 hF eF nd fl iff=>hN _ _ s2 ⟨F,fs,rfl,New.mk hF eF,nd,fl,iff⟩⟩
  intro H1 ys e1 s1 yl yR;have key:∀r,∃fs:List Nat,r<d.signs.length->∃F,ys[r]?=some (.ref F)/\H1 F=some (.lst (nV fs))/\fs.Nodup/\fs.length<=d.signs.length/\∀y,y∈fs↔Rt (EW (WN d)) (toP I d.signs.length) r y:=fun r=>by
   by_cases h:r<d.signs.length
   ·obtain⟨F,fs,e,h2,q⟩:=yR r ys[r] (mO (by omega));exact⟨fs,fun _=>⟨F,by rw[mO (by omega),e],(New.of h2).2,q⟩⟩
   ·exact⟨[],fun z=>absurd z h⟩
  obtain⟨R,hR⟩:=Classical.axiomOfChoice key;clear key yR;have hR2:∀r<d.signs.length,∀y,y∈R r↔Rt (EW (WN d)) (toP I d.signs.length) r y:=fun r hr=>let ⟨_,_,_,_,_,q⟩:=hR r hr;q
  have lt_of:∀r<d.signs.length,∀y∈R r,y<d.signs.length:=fun r hr y hy=>by
   have:=(hR2 r hr y).mp hy;cases this with
   |here=>exact hr
   |on _ _ i=>exact i.1
  refine⟨by decide,fun M hM=>?_⟩;obtain⟨H2,qN,s2,e2⟩:=ZV (o:=.lst []) hM;rw[qN];have s02:=s1.trans s2;refine⟨_,rfl,.inl ⟨wa,_,rfl,.inl (rS (s02 _ _ hwa)),?_⟩⟩;rw[wvl];refine⟨_,rfl,by omega,by omega,?_⟩;rw[mY];have sl:=gd.fn.2.2;refine Wd (J:=Itr 0 d.signs.length) (n:=d.signs.length) (fun i σ G=>∃(z9 z10 z11 z12:Option V),σ=[some (.ref t),some (.ref b),some (.ref sa),some (.ref wa),some stv,some (.ref fa),some nmv,some (.ref D),some (.ref M),z9,z10,z11,z12]/\Zf H1 G/\G M=some (.lst ((List.range i).map fun r=>V.bl (yt d I R r)))) ?_ (fun _ _ _ h _=>h) (fun _ _ _=>mP _) ?_ ?_
  ·exact⟨_,_,_,_,rfl,s2,e2⟩
  ·rintro i x σ G0 G hi ⟨z9,z10,z11,z12,rfl,sG,eM⟩ ⟨rfl,rfl⟩;have ei:(0:Int)+(i:Int)=((i:Nat):Int):=ou _;rw[ei];have sH:=s1.trans sG;obtain⟨Ri,eRi,hRi,ndi,li,_⟩:=hR i hi;refine⟨_,rfl,_,rfl,D,_,_,.ref Ri,rfl,rfl,rS (sG _ _ e1),Zt eRi,Ri,rfl,⟨_,rS (sG _ _ hRi)⟩,fun RG hRG=>?_⟩;refine qP (R i) (fun y:Nat=>V.int (y:Int)) (fun o=>decide (i∈R o)) (fun y:Nat=>V.int (y:Int)) hRG (rS (sG _ _ hRi)) (by rw[mN];omega) ?_ ?_
   ·intro o ho G1 N N0 sG1 h1 h2;obtain⟨Ro,eRo,hRo,_⟩:=hR o (lt_of i hi o ho);have s11:=sG.trans sG1;refine⟨_,rfl,_,rfl,_,rfl,D,_,_,.ref Ro,rfl,rfl,rS (s11 _ _ e1),Zt eRo,Ro,_,rfl,.inl (rS (s11 _ _ hRo)),rfl,qp _,_,rfl,?_⟩;rw[if_neg nh,nV_in];exact XS (fun c=>⟨_,rfl,h1 _ (.refl _) c⟩) (fun c=>h2 _ (.refl _) (by simpa using c))
   intro G1 eRG t1;have s11:=sG.trans t1;have sH1:=sH.trans t1;have lw2:i<wv.length:=by omega
   have lw3:i<d.ways.length:=by omega
   obtain⟨wx,ewx,hwx⟩:=qw i wv[i] d.ways[i] (mO lw2) (mO lw3);have wb:=gd.wn _ (nk lw3);refine⟨_,rfl,_,rfl,wa,_,_,.ref wx,rfl,rfl,rS (sH1 _ _ hwa),Zt (by rw[mO lw2,ewx]),wx,rfl,⟨_,rS (sH1 _ _ hwx)⟩,fun GO hGO=>?_⟩;refine ZY d.ways[i] V.int (fun x=>V.bl ((fun y=>I y&&decide (i∈R y)) x.toNat)) hGO (rS (sH1 _ _ hwx)) (by rw[mN];omega) ?_ ?_
   ·intro x hx G2 N sG2 hN;have xb:=wb.2.2.1 x hx;obtain⟨y,rfl⟩:=oA xb.1;have ly:y<d.signs.length:=by omega
    obtain⟨Ry,eRy,hRy,_⟩:=hR y ly;refine⟨_,rfl,_,rfl,b,_,_,_,rfl,rfl,rS (sG2 _ _ (sH1 _ _ hb)),Ym ly,_,rfl,Vk (c:=decide (i∈R y)) (P:=fun v=>N v _) (hN _ (.refl _)) (fun q=>⟨_,rfl,_,rfl,_,rfl,D,_,_,.ref Ry,rfl,rfl,rS (sG2 _ _ (s11 _ _ e1)),Zt eRy,Ry,_,rfl,.inl (rS (sG2 _ _ (s11 _ _ hRy))),rfl,qp _,?_⟩)⟩;rw[if_neg nh,nV_in];exact q
   intro G2 eGO t2;refine⟨GO,d.ways[i].map fun x=>(fun y=>I y&&decide (i∈R y)) x.toNat,rfl,rS (by rw[eGO,mZ];rfl),?_⟩;rw[U3 lw3 (fun y=>I y&&decide (i∈R y))];have s12:=s11.trans t2;have sH2:=sH1.trans t2;have eRG2:=t2 _ _ eRG;refine⟨_,rfl,fa,rfl,⟨_,rS (sH2 _ _ hfa)⟩,fun HS hHS=>?_⟩;refine jx d.fair V.str (fun s=>V.bl (((R i).filter fun o=>decide (i∈R o)).any fun o=>sgB d s o)) hHS (rS (sH2 _ _ hfa)) (by rw[mN];omega) ?_ ?_
   ·intro s hs G3 N sG3 hN;have fl:((R i).filter fun o=>decide (i∈R o)).length<=20:=by
     have:=pO (fun o=>decide (i∈R o)) (R i);omega
    refine⟨_,rfl,RG,rfl,⟨_,rS (sG3 _ _ eRG2)⟩,fun AN hAN=>?_⟩;refine ZY ((R i).filter fun o=>decide (i∈R o)) (fun y:Nat=>V.int (y:Int)) (fun o=>V.bl (sgB d s o)) hAN (rS (sG3 _ _ eRG2)) (by rw[mN];omega) ?_ ?_
    ·intro o ho G4 N2 sG4 hN2;have lo:=lt_of i hi o (n5.mp ho).1;obtain⟨so,eso,hso⟩:=qs o sv[o] d.signs[o] (mO (by omega)) (mO lo);have sH4:=sH2.trans (sG3.trans sG4);refine⟨_,rfl,_,rfl,_,rfl,sa,_,_,.ref so,rfl,rfl,rS (sH4 _ _ hsa),Zt (by rw[mO (by omega),eso]),so,_,rfl,.inl (rS (sH4 _ _ hso)),rfl,sV_flat _,?_⟩;rw[if_neg nh,zU];have:=hN2 _ (.refl G4);unfold sgB at this;rw[mO lo] at this;exact this
    intro G4 eAN t4;refine⟨AN,((R i).filter fun o=>decide (i∈R o)).map fun o=>sgB d s o,rfl,rS (by rw[eAN,mZ];rfl),?_⟩;rw[oz];exact hN _ t4
   intro G3 eHS t3;have s13:=s12.trans t3;have sH3:=sH2.trans t3;have eM3:=(t1.trans (t2.trans t3)) _ _ eM;refine⟨_,rfl,.inl ⟨rfl,_,rS eM3⟩,_,rfl,_,rfl,b,_,_,_,rfl,rfl,rS (sH3 _ _ hb),Ym hi,I i,rfl,?_⟩;refine Vk (c:=ldB (WN d) (fun y=>I y&&decide (i∈R y)) i&&d.fair.all fun s=>((R i).filter fun o=>decide (i∈R o)).any fun o=>sgB d s o) (P:=fun v=>vI _ [v] _ _) ?_ (fun q=>⟨_,rfl,_,rfl,Vk (c:=d.fair.all fun s=>((R i).filter fun o=>decide (i∈R o)).any fun o=>sgB d s o) (P:=fun v=>vI _ [v] _ _) q (fun q=>⟨_,rfl,HS,d.fair.map fun s=>((R i).filter fun o=>decide (i∈R o)).any fun o=>sgB d s o,rfl,rS (by rw[eHS,mZ];rfl),?_⟩)⟩)
   ·rw[<- Bool.and_assoc];refine⟨M,_,_,rfl,rfl,eM3,by rw[V5,mN];omega,?_⟩;refine⟨_,_,_,_,rfl,((Zf.x s13).upd).same hM,?_⟩;rw[Ze,pf,nP];rfl
   ·rw[o3];exact q
  rintro σ G ⟨z9,z10,z11,z12,rfl,sG,eM⟩;have sH:=s1.trans sG;refine⟨_,rfl,.inl ⟨wa,_,rfl,.inl (rS (sH _ _ hwa)),?_⟩⟩;rw[wvl];refine⟨_,rfl,by omega,by omega,fun Z hZ=>?_⟩;rw[mY];refine Xp (fun r=>V.bl (frB d I r)) hZ (by rw[mN];omega) ?_ ?_
  ·intro r hr G1 N sG1 hN;obtain⟨Rr,eRr,hRr,ndr,lr,_⟩:=hR r hr;have hN':∀(H4:Hp) (c:Bool),Zf G1 H4->c=(I r&&(R r).any (yt d I R))->N (.bl c) H4:=fun H4 c s e=>by rw[e,fr_by gd hR2 hr];exact hN H4 s
   refine⟨_,rfl,_,rfl,b,_,_,_,rfl,rfl,rS (sG1 _ _ (sH _ _ hb)),Ym hr,_,rfl,XS (fun c=>?_) (fun c=>hN' _ _ (.refl _) (by rw[Bool.not_eq_true] at c;rw[c];rfl))⟩;refine⟨_,rfl,_,rfl,D,_,_,.ref Rr,rfl,rfl,rS (sG1 _ _ (sG _ _ e1)),Zt eRr,Rr,rfl,⟨_,rS (sG1 _ _ (sG _ _ hRr))⟩,fun AN hAN=>?_⟩;refine ZY (R r) (fun y:Nat=>V.int (y:Int)) (fun o=>V.bl (yt d I R o)) hAN (rS (sG1 _ _ (sG _ _ hRr))) (by rw[mN];omega) ?_ ?_
   ·intro o ho G4 N2 sG4 hN2;exact⟨_,rfl,_,rfl,M,_,_,_,rfl,rfl,rS (sG4 _ _ (sG1 _ _ eM)),Ym (lt_of r hr o ho),hN2 _ (.refl _)⟩
   intro G4 eAN t4;refine⟨AN,(R r).map (yt d I R),rfl,rS (by rw[eAN,mZ];rfl),?_⟩;rw[oz];exact hN' _ _ t4 (by rw[c];rfl)
  intro G1 eZ t1;exact k G1 Z (sH.trans t1) (sH.free hZ) eZ
def Vu(n:Nat)(K:W.Frag)(a:Adr):Sp:=fun vs H Q _=>∃(t:Addr) (v:V) (d:WD) (r:Tr),vs=[.ref t,v]/\XR d/\zB H t d/\At K n H v r/\bkT r = "room" /\ ∀H' D,Zf H H'->H D=none->BL H' D d.signs.length (soB d r)->Q (.ref D) H'
def vf(n:Nat)(K:W.Frag)(a:Adr):Sp:=fun vs H Q _=>∃(t:Addr) (v:V) (d:WD) (r:Tr),vs=[.ref t,v]/\XR d/\zB H t d/\At K (n+1) H v r/\bkT r = "way" /\ ∀H' D,Zf H H'->H D=none->BL H' D d.signs.length (Vi d r.lb (r.ks.map (soB d)))->Q (.ref D) H'
theorem xX(T:Txt K mg a)(hw:w.params=a.Pm)(n:Nat)(ao:Ye P w K mg base CX0 (2*n+10) a._law_so a.cg ["_law_spec", "_law_sentence"] (Vu n K a)):Ye P w K mg base CX0 (2*n+11) a._law_some a.cG ["_law_spec", "_law_part"] (vf n K a):=by
 have ai:=Wu (P:=P) (w:=w) (base:=base) T hw;have cO:=Uu (P:=P) (w:=w) (base:=base) T hw;have iS:=vo (P:=P) (w:=w) (base:=base) T hw;refine T.fA.ok Yw (fun vs H Q E h=>?_) (fun lD A outer s H vs Q E hr h=>?_)
 ·obtain⟨t,v,d,r,rfl,_⟩:=h;rfl
 ·obtain⟨t,v,d,r,rfl,gd,sp,hat,bk,k⟩:=h;refine⟨_,(@Za _ _ _ _ _ (@Zi _ _ (2) _ _ _ _ Yw.nd rfl (Or.inl rfl) (Zm (ZI (K:=K) rfl) rfl T.aX rW (@Zc _ _ _ (@Zn _ _ _ _ _ _ _ (ZB (K:=K) rfl) (pv 0) Zd (fun _ _=>rfl)) (by rfl))) (by rfl) (.inl rfl)) (@Za _ _ _ _ _ (@Zi _ _ (3) _ _ _ _ Yw.nd rfl (Or.inr rfl) (Zl ai (hr.mono (show _<=2*n+10 by omega)) rfl T.az T.ah.kp T.aq .nil Zs (@Zr _ _ _ _ _ (pv 0) (@Zc _ _ _ (@Zz _ _ _ _ _ _ _ _ qY (@ZW _ _ _ _ (@Zc _ _ _ Wv (by rfl))) (pv 2)) (by rfl)) (by rfl))) (by rfl) (.inl rfl)) (@Za _ _ _ _ _ (@Zi _ _ (4) _ _ _ _ Yw.nd rfl (Or.inl rfl) (@Zn _ _ _ _ _ _ _ (ZB (K:=K) rfl) (pv 1) Zd (fun _ _=>rfl)) (by rfl) (.inl rfl)) (@Za _ _ _ _ _ (@ZN _ _ _ _ _ _ _ _ (@Zp _ _ _ _ _ _ _ _ ZU (pv 4) Zx (Zw _)) (@Za _ _ _ _ _ (@Zi _ _ (5) _ _ _ _ Yw.nd rfl (Or.inl rfl) (@Yv _ _ _ _ _ (@Zr _ _ _ _ _ (Zl ao (hr.mono (show _<=2*n+10 by omega)) rfl T.aO T.aG.kp T.aN .nil Zs (@Zr _ _ _ _ _ (pv 0) (@Zc _ _ _ (@Zn _ _ _ _ _ _ _ (ZB (K:=K) rfl) (pv 1) Zd (fun _ _=>rfl)) (by rfl)) (by rfl))) (@Zc _ _ _ (Zl ao (hr.mono (show _<=2*n+10 by omega)) rfl T.aO T.aG.kp T.aN .nil Zs (@Zr _ _ _ _ _ (pv 0) (@Zc _ _ _ (@Zn _ _ _ _ _ _ _ (ZB (K:=K) rfl) (pv 1) Zd (fun _ _=>rfl)) (by rfl)) (by rfl))) (by rfl)) (by rfl))) (by rfl) (.inl rfl)) (@Zg _ _ _ (@Zq _ _ _ _ (Zl iS (hr.mono (show _<=2*n+10 by omega)) rfl T.gO T.fz.kp T.gN .nil Zs (@Z0 _ _ _ _ _ (pv 0) (@Z0 _ _ _ _ _ (pv 3) (@Z0 _ _ _ _ _ (pv 5) (@Xk _ _ _ (@Zn _ _ _ _ _ _ _ (ZB (K:=K) rfl) (pv 1) Zd (fun _ _=>rfl)) (by rfl)) (by rfl)) (by rfl)) (by rfl)))))) Zu) (@Za _ _ _ _ _ (@Zi _ _ (6) _ _ _ _ Yw.nd rfl (Or.inr rfl) (Zl ao (hr.mono (show _<=2*n+10 by omega)) rfl T.aO T.aG.kp T.aN .nil Zs (@Zr _ _ _ _ _ (pv 0) (@Zc _ _ _ (@Zn _ _ _ _ _ _ _ (ZB (K:=K) rfl) (pv 1) Zd (fun _ _=>rfl)) (by rfl)) (by rfl))) (by rfl) (.inl rfl)) (@Za _ _ _ _ _ (@ZN _ _ _ _ _ _ _ _ (@Zp _ _ _ _ _ _ _ _ ZU (pv 4) Zx (Zw _)) (@Zg _ _ _ (@Zq _ _ _ _ (Zv (Nc:=lH) (ix:=[none,some 6,some 3,some 0]) (ZA.of (by decide +kernel:ZD (Zb YT) ["_law_spec", "_law_part", "_law_many", "_law_fair", "_law_word", "_law_pair", "_law_one", "_law_goal", "_law_keep"] ["_law_room", "_law_one", "_law_fair", "_law_spec"] [none,some 6,some 3,some 0] _=true)) rfl (ZM rfl T.ae (@Zc _ _ _ (pv 2) (by rfl))) (fun _ _ _ _ _=>(Zh (i:=0) (show List.Nodup lH by decide +kernel) rfl (Or.inl rfl))) (fun _ _ _ _ _=>ZF) (fun _ _ _ _ _=>(Zm (Wh (K:=K) rfl rfl) rfl T.ij sd (@Zc _ _ _ (Zv (Nc:=lP) (ix:=[none,some 1,some 2]) (ZA.ofR (N:=lH) (sc0:=Zb YT) rfl (by decide +kernel)) rfl (ZC (K:=K) rfl (@Zn _ _ _ _ _ _ _ (Zk (K:=K) rfl) (@Zn _ _ _ _ _ _ _ (ZB (K:=K) rfl) (pv 3) Zd (fun _ _=>rfl)) (pv 0) (fun _ _=>rfl))) (fun _ _ _ _ _=>(Zh (i:=0) (show List.Nodup lP by decide +kernel) rfl (Or.inl rfl))) (fun _ _ _ _ _=>ZF) (fun _ _ _ _ _=>(YD (@Zn _ _ _ _ _ _ _ (Zk (K:=K) rfl) (pv 1) (pv 0) (fun _ _=>rfl)) (Yr (@Zn _ _ _ _ _ _ _ (Zk (K:=K) rfl) (pv 2) (pv 0) (fun _ _=>rfl)))))) (by rfl))))))) Zu) (@Za _ _ _ _ _ (@ZN _ _ _ _ _ _ _ _ (@Zp _ _ _ _ _ _ _ _ ZU (pv 4) Zx (Zw _)) (@Zg _ _ _ (@Zq _ _ _ _ (Zl ai (hr.mono (show _<=2*n+10 by omega)) rfl T.az T.ah.kp T.aq .nil Zs (@Zr _ _ _ _ _ (pv 0) (@Zc _ _ _ (pv 6) (by rfl)) (by rfl))))) Zu) (@Za _ _ _ _ _ (@Zi _ _ (7) _ _ _ _ Yw.nd rfl (Or.inr rfl) (pv 6) (by rfl) (.inl rfl)) (@Za _ _ _ _ _ (@Zi _ _ (8) _ _ _ _ Yw.nd rfl (Or.inl rfl) (@Zz _ _ _ _ _ _ _ _ qY (@ZW _ _ _ _ (@Zc _ _ _ Wv (by rfl))) (pv 2)) (by rfl) (.inl rfl)) (@Za _ _ _ _ _ (@ZN _ _ _ _ _ _ _ _ (@Zp _ _ _ _ _ _ _ _ ZU (pv 4) Zx (Zw _)) (@Za _ _ _ _ _ (@Zi _ _ (7) _ _ _ _ Yw.nd rfl (Or.inr rfl) (Zl ao (hr.mono (show _<=2*n+10 by omega)) rfl T.aO T.aG.kp T.aN .nil Zs (@Zr _ _ _ _ _ (pv 0) (@Zc _ _ _ (@Zn _ _ _ _ _ _ _ (ZB (K:=K) rfl) (pv 1) Zd (fun _ _=>rfl)) (by rfl)) (by rfl))) (by rfl) (.inl rfl)) (@Zg _ _ _ (@Zi _ _ (8) _ _ _ _ Yw.nd rfl (Or.inl rfl) (pv 6) (by rfl) (.inl rfl)))) Zu) (@Zg _ _ _ (@Zq _ _ _ _ (Zl cO (hr.mono (show _<=2*n+10 by omega)) rfl T.cN T.bS.kp T.cM .nil Zs (@Z0 _ _ _ _ _ (pv 0) (@Z0 _ _ _ _ _ (pv 8) (@Xk _ _ _ (Zv (Nc:=mz) (ix:=[none,some 7,some 3]) (ZA.of (by decide +kernel:ZD (Zb YT) ["_law_spec", "_law_part", "_law_many", "_law_fair", "_law_word", "_law_pair", "_law_one", "_law_goal", "_law_keep"] ["_law_room", "_law_goal", "_law_fair"] [none,some 7,some 3] _=true)) rfl (ZM rfl T.ae (@Zc _ _ _ (pv 2) (by rfl))) (fun _ _ _ _ _=>(Zh (i:=0) (show List.Nodup mz by decide +kernel) rfl (Or.inl rfl))) (fun _ _ _ _ _=>ZF) (fun _ _ _ _ _=>(YD (@Zn _ _ _ _ _ _ _ (Zk (K:=K) rfl) (pv 1) (pv 0) (fun _ _=>rfl)) (Yr (@Zn _ _ _ _ _ _ _ (Zk (K:=K) rfl) (pv 2) (pv 0) (fun _ _=>rfl)))))) (by rfl)) (by rfl)) (by rfl))))))))))))))),?_⟩;have n20:=gd.n20;have wl:=gd.wl;obtain⟨b,rfl,pc⟩:=ptc_of hat bk;clear hat bk;obtain⟨sv0,wv0,stv,fv,nmv,ht,pts⟩:=id sp.ex;obtain⟨wa,wv,rfl,hwa,lw,qw⟩:=id pts.w;have wvl:wv.length=d.signs.length:=by omega
  refine⟨_,rfl,t,_,_,.ref wa,rfl,rfl,rT ht,rfl,.inl ⟨wa,_,rfl,.inl (rS hwa),?_⟩⟩;rw[wvl];refine⟨_,rfl,sz1,fun L0 h0=>?_⟩;obtain⟨H1,qN,s1,e1⟩:=ZV (o:=.lst [.bl true]) h0;rw[qN];refine⟨_,rfl,L0,_,[.bl true],rfl,rfl,e1,by omega,by omega,by rw[mY,mN];simp;omega,fun L1 h1=>?_⟩;rw[W4];obtain⟨H2,qN,s2,e2⟩:=ZV (o:=.lst ((List.range d.signs.length).map fun r=>V.bl ((fun _:Nat=>true) r))) h1;rw[qN];have s02:=s1.trans s2;refine⟨t,L1,d,fun _=>true,rfl,gd,sp.mono s02,e2,fun H3 FA s3 hFA eFA=>?_⟩;have s03:=s02.trans s3;have eF:BL H3 FA d.signs.length (faB d):=eFA;clear eFA h0 h1 e1 e2 s1 s2 hFA;have tp:=rV s03;have sp3:=sp.mono s03;cases pc with
  |wit m u v q l hm e1 e2 sq au av bk1 bk2=>
   have sq3:=tp _ _ _ sq;refine⟨_,rfl,b,_,_,_,rfl,rfl,sq3,rfl,_,rfl,rfl,_,rfl,YZ rfl ?_⟩;refine⟨_,rfl,_,rfl,b,_,_,u,rfl,rfl,sq3,rfl,t,u,d,q,rfl,gd,sp3,au.mono tp,bk1,fun H4 D4 s4 hD4 e4=>?_⟩;have t4:=rV s4;refine⟨_,rfl,_,rfl,b,_,_,v,rfl,rfl,t4 _ _ _ sq3,rfl,t,v,d,l,rfl,gd,sp3.mono s4,(av.mono tp).mono t4,bk2,fun H5 D5 s5 hD5 e5=>?_⟩;refine⟨sz2,fun P hP=>?_⟩;obtain⟨H6,qN,s6,e6⟩:=ZV (o:=.tup [.ref D4,.ref D5]) hP;rw[qN];have s36:=s4.trans (s5.trans s6);refine⟨_,rfl,_,rfl,_,rfl,_,rfl,b,_,_,.int (m:Int),rfl,rfl,rV s36 _ _ _ sq3,rfl,t,FA,P,D4,D5,d,soB d q,soB d l,faB d,m,rfl,gd,sp3.mono s36,s36 _ _ eF,e6,(s5.trans s6) _ _ e4,s6 _ _ e5,by omega,fun H7 D7 s7 hD7 e7=>?_⟩;refine k H7 D7 (s03.trans (s36.trans s7)) ((s03.trans s36).free hD7) ?_;rw[e1,e2,mV,mV,nO,lw_wit];exact e7
  |one w u q hw e1 e2 sq au bk1=>
   have sq3:=tp _ _ _ sq;have nw:w ≠ "within" := fun z=>by rw[z] at hw;exact absurd hw (by decide +kernel)
   refine⟨_,rfl,b,_,_,_,rfl,rfl,sq3,rfl,_,rfl,rfl,_,rfl,ZK (fun z=>nw (V.str.inj z)) ?_⟩;refine⟨_,rfl,_,rfl,b,_,_,u,rfl,rfl,sq3,rfl,t,u,d,q,rfl,gd,sp3,au.mono tp,bk1,fun H4 D4 s4 hD4 e4=>?_⟩;have s04:=s03.trans s4;have eF:=s4 _ _ eF;have sp4:=sp3.mono s4;simp only[nu,pX,or_false] at hw;rcases hw with rfl|rfl|rfl
   ·refine⟨_,rfl,rfl,_,rfl,YZ rfl ?_⟩;refine⟨_,rfl,_,rfl,by omega,by omega,fun Z hZ=>?_⟩;rw[mY];refine Xp (fun r=>V.bl (ldB (WN d) (fun r=>soB d q r&&faB d r) r)) hZ (by rw[mN];omega) ?_ ?_
    ·intro r hr G1 N sG1 hN;have sH1:=s04.trans sG1;have lw3:r<d.ways.length:=by omega
     obtain⟨wx,ewx,hwx⟩:=qw r wv[r] d.ways[r] (mO (by omega)) (mO lw3);have wb:=gd.wn _ (nk lw3);refine⟨_,rfl,t,_,_,.ref wa,rfl,rfl,rT (sH1 _ _ ht),rfl,_,rfl,wa,_,_,.ref wx,rfl,rfl,rS (sH1 _ _ hwa),Zt (by rw[mO (by omega),ewx]),wx,rfl,⟨_,rS (sH1 _ _ hwx)⟩,fun AN hAN=>?_⟩;refine ZY d.ways[r] V.int (fun x=>V.bl ((fun y=>soB d q y&&faB d y) x.toNat)) hAN (rS (sH1 _ _ hwx)) (by rw[mN];omega) ?_ ?_
     ·intro x hx G2 N2 sG2 hN2;have xb:=wb.2.2.1 x hx;obtain⟨y,rfl⟩:=oA xb.1;have ly:y<d.signs.length:=by omega
      have sy:=sG1.trans sG2;exact⟨_,rfl,_,rfl,D4,_,_,_,rfl,rfl,rS (sy _ _ e4),Ym ly,soB d q y,rfl,Vk (c:=faB d y) (P:=fun v=>N2 v _) (hN2 _ (.refl _)) (fun q=>⟨_,rfl,_,rfl,FA,_,_,_,rfl,rfl,rS (sy _ _ eF),Ym ly,q⟩)⟩
     intro G2 eAN t2;refine⟨AN,d.ways[r].map fun x=>(fun y=>soB d q y&&faB d y) x.toNat,rfl,rS (by rw[eAN,mZ];rfl),?_⟩;rw[U3 lw3 (fun y=>soB d q y&&faB d y)];exact hN _ t2
    intro H5 eZ s5;refine k H5 Z (s04.trans s5) (s04.free hZ) ?_;rw[e1,e2,mV,nO,jn];exact eZ
   ·refine⟨_,rfl,rfl,_,rfl,ZK (fun z=>absurd (V.str.inj z) (by decide +kernel)) ?_⟩;refine⟨_,rfl,rfl,_,rfl,YZ rfl ?_⟩;refine⟨_,rfl,_,rfl,t,D4,d,soB d q,rfl,gd,sp4,e4,fun H5 D5 s5 hD5 e5=>?_⟩;refine k H5 D5 (s04.trans s5) (s04.free hD5) ?_;rw[e1,e2,mV,nO,xE];exact e5
   ·refine⟨_,rfl,rfl,_,rfl,ZK (fun z=>absurd (V.str.inj z) (by decide +kernel)) ?_⟩;refine⟨_,rfl,rfl,_,rfl,ZK (fun z=>absurd (V.str.inj z) (by decide +kernel)) ?_⟩;refine⟨_,rfl,sz1,fun L2 h2=>?_⟩;obtain⟨H5a,qN,s5a,e5a⟩:=ZV (o:=.lst [.bl true]) h2;rw[qN];refine⟨_,rfl,L2,_,[.bl true],rfl,rfl,e5a,by omega,by omega,by rw[mY,mN];simp;omega,fun KP h3=>?_⟩;rw[W4];obtain⟨H5,qN,s5b,eK⟩:=ZV (o:=.lst ((List.range d.signs.length).map fun r=>V.bl ((fun _:Nat=>true) r))) h3;rw[qN];have s5:=s5a.trans s5b;have s05:=s04.trans s5;have eF:=s5 _ _ eF;have e4:=s5 _ _ e4;have sp5:=sp4.mono s5;refine⟨_,rfl,rfl,_,rfl,ZK (fun z=>absurd (V.str.inj z) (by decide +kernel)) ?_⟩;refine⟨_,rfl,_,rfl,_,rfl,_,rfl,by omega,by omega,fun GL hGL=>?_⟩;rw[mY];refine Xp (fun r=>V.bl (soB d q r&&faB d r)) hGL (by rw[mN];omega) ?_ ?_
    ·intro r hr G1 N sG1 hN;exact⟨_,rfl,_,rfl,D4,_,_,_,rfl,rfl,rS (sG1 _ _ e4),Ym hr,soB d q r,rfl,Vk (c:=faB d r) (P:=fun v=>N v _) (hN _ (.refl _)) (fun q=>⟨_,rfl,_,rfl,FA,_,_,_,rfl,rfl,rS (sG1 _ _ eF),Ym hr,q⟩)⟩
    intro H6 eG s6;refine⟨t,KP,GL,d,fun _=>true,fun r=>soB d q r&&faB d r,rfl,gd,sp5.mono s6,s6 _ _ eK,eG,fun H7 D7 s7 hD7 eD7=>?_⟩;have s57:=s05.trans (s6.trans s7);refine k H7 D7 s57 ((s05.trans s6).free hD7) ?_;rw[e1,e2,mV,nO,jg];exact eD7
  |two u v q l e1 e2 sq au av bk1 bk2=>
   have sq3:=tp _ _ _ sq;refine⟨_,rfl,b,_,_,_,rfl,rfl,sq3,rfl,_,rfl,rfl,_,rfl,ZK (fun z=>absurd (V.str.inj z) (by decide +kernel)) ?_⟩;refine⟨_,rfl,_,rfl,b,_,_,u,rfl,rfl,sq3,rfl,t,u,d,q,rfl,gd,sp3,au.mono tp,bk1,fun H4 D4 s4 hD4 e4=>?_⟩;have s04:=s03.trans s4;have eF:=s4 _ _ eF;have sp4:=sp3.mono s4;refine⟨_,rfl,rfl,_,rfl,ZK (fun z=>absurd (V.str.inj z) (by decide +kernel)) ?_⟩;refine⟨_,rfl,rfl,_,rfl,ZK (fun z=>absurd (V.str.inj z) (by decide +kernel)) ?_⟩;refine⟨_,rfl,sz1,fun L2 h2=>?_⟩;obtain⟨H5a,qN,s5a,e5a⟩:=ZV (o:=.lst [.bl true]) h2;rw[qN];refine⟨_,rfl,L2,_,[.bl true],rfl,rfl,e5a,by omega,by omega,by rw[mY,mN];simp;omega,fun KP h3=>?_⟩;rw[W4];obtain⟨H5b,qN,s5b,eK⟩:=ZV (o:=.lst ((List.range d.signs.length).map fun r=>V.bl ((fun _:Nat=>true) r))) h3;rw[qN];have s4b:=s4.trans (s5a.trans s5b);have t4b:=rV s4b;refine⟨_,rfl,rfl,_,rfl,YZ rfl ?_⟩;refine⟨_,rfl,_,rfl,b,_,_,v,rfl,rfl,t4b _ _ _ sq3,rfl,t,v,d,l,rfl,gd,sp3.mono s4b,(av.mono tp).mono t4b,bk2,fun H5 D5 s5c hD5 e5=>?_⟩;have s5:=(s5a.trans s5b).trans s5c;have s05:=s04.trans s5;have eF:=s5 _ _ eF;have e4:=s5 _ _ e4;have sp5:=sp4.mono s5;refine⟨_,rfl,?_⟩;refine⟨_,rfl,_,rfl,_,rfl,_,rfl,by omega,by omega,fun GL hGL=>?_⟩;rw[mY];refine Xp (fun r=>V.bl (soB d l r&&faB d r)) hGL (by rw[mN];omega) ?_ ?_
   ·intro r hr G1 N sG1 hN;exact⟨_,rfl,_,rfl,D5,_,_,_,rfl,rfl,rS (sG1 _ _ e5),Ym hr,soB d l r,rfl,Vk (c:=faB d r) (P:=fun v=>N v _) (hN _ (.refl _)) (fun q=>⟨_,rfl,_,rfl,FA,_,_,_,rfl,rfl,rS (sG1 _ _ eF),Ym hr,q⟩)⟩
   intro H6 eG s6;refine⟨t,D4,GL,d,soB d q,fun r=>soB d l r&&faB d r,rfl,gd,sp5.mono s6,s6 _ _ e4,eG,fun H7 D7 s7 hD7 eD7=>?_⟩;have s57:=s05.trans (s6.trans s7);refine k H7 D7 s57 ((s05.trans s6).free hD7) ?_;rw[e1,e2,mV,mV,nO,jz];exact eD7
def yd(K:W.Frag)(a:Adr):Sp:=fun vs H Q _=>∃(t b p o1 o2:Addr) (d:WD) (A B F:Nat->Bool) (m:Nat),vs=[.ref t,.ref b,.ref p,.int (m:Int)]/\XR d/\zB H t d/\BL H b d.signs.length F/\H p=some (.tup [.ref o1,.ref o2])/\BL H o1 d.signs.length A/\BL H o2 d.signs.length B/\m<=60/\∀H' D,Zf H H'->H D=none->BL H' D d.signs.length (itB (fun S r=>(F r&&!B r)&&(!A r||ldB (WN d) S r)) m (fun r=>F r&&!B r))->Q (.ref D) H'
theorem ya(T:Txt K mg a)(hw:w.params=a.Pm):Ye P w K mg base CX0 1 a._law_broken a.bO lY (yd K a):=by
 refine T.dr.ok Yk (fun vs H Q E h=>?_) (fun lD A outer s H vs Q E hr h=>?_)
 ·obtain⟨t,b,p,o1,o2,d,A,B,F,m,rfl,_⟩:=h;rfl
 ·obtain⟨t,b,p,o1,o2,d,S1,S2,F,m,rfl,gd,sp,hb,hp,ho1,ho2,hm,k⟩:=h;refine⟨_,(@Za _ _ _ _ _ (yD (pv 2) (VE (K:=K) (n:=2) rfl rfl (Z8 (Zh (i:=4) Yk.nd rfl (Or.inr rfl)) (Z8 (Zh (i:=5) Yk.nd rfl (Or.inr rfl)) Vc)))) (@Za _ _ _ _ _ (@Zi _ _ (6) _ _ _ _ Yk.nd rfl (Or.inl rfl) (ZQ (YJ (K:=K) rfl rfl) rfl T.bT rX (@Zc _ _ _ (ZQ (VS) rfl T.ae rY (@Zc _ _ _ (Zm (ZI (K:=K) rfl) rfl T.aX rW (@Zc _ _ _ (pv 1) (by rfl))) (by rfl))) (by rfl))) (by rfl) (.inl rfl)) (@Za _ _ _ _ _ (@Zi _ _ (7) _ _ _ _ Yk.nd rfl (Or.inr rfl) (Zv (Nc:=lM) (ix:=[none,some 1,some 5]) (ZA.of (by decide +kernel:ZD (Zb Ya) ["_law_spec", "_law_fair", "_law_part", "_law_left", "_law_one", "_law_other", "_law_rooms", "_law_found", "_law_first", "_law_turn", "_law_on"] ["_law_room", "_law_fair", "_law_other"] [none,some 1,some 5] _=true)) rfl (ZC (K:=K) rfl (pv 6)) (fun _ _ _ _ _=>(Zh (i:=0) (show List.Nodup lM by decide +kernel) rfl (Or.inl rfl))) (fun _ _ _ _ _=>ZF) (fun _ _ _ _ _=>(YD (@Zn _ _ _ _ _ _ _ (Zk (K:=K) rfl) (pv 1) (pv 0) (fun _ _=>rfl)) (Yr (Wr (@Zn _ _ _ _ _ _ _ (Zk (K:=K) rfl) (pv 2) (pv 0) (fun _ _=>rfl))))))) (by rfl) (.inl rfl)) (@Za _ _ _ _ _ (@Zi _ _ (8) _ _ _ _ Yk.nd rfl (Or.inr rfl) (pv 7) (by rfl) (.inl rfl)) (@Za _ _ _ _ _ (Xo nB rfl (ZM rfl T.ae (@Zc _ _ _ (pv 3) (by rfl))) (Zh (i:=9) Yk.nd rfl (Or.inl rfl)) (@Za _ _ _ _ _ (@Zi _ _ (10) _ _ _ _ Yk.nd rfl (Or.inr rfl) (Zv (Nc:=lG) (ix:=[none,some 4,some 7,some 0]) (ZA.of (by decide +kernel:ZD (Zb Ya) ["_law_spec", "_law_fair", "_law_part", "_law_left", "_law_one", "_law_other", "_law_rooms", "_law_found", "_law_first", "_law_turn", "_law_on"] ["_law_room", "_law_one", "_law_found", "_law_spec"] [none,some 4,some 7,some 0] _=true)) rfl (ZC (K:=K) rfl (pv 6)) (fun _ _ _ _ _=>(Zh (i:=0) (show List.Nodup lG by decide +kernel) rfl (Or.inl rfl))) (fun _ _ _ _ _=>ZF) (fun _ _ _ _ _=>(pe_or (Wr (@Zn _ _ _ _ _ _ _ (Zk (K:=K) rfl) (pv 1) (pv 0) (fun _ _=>rfl))) (Yr (Zm (Wh (K:=K) rfl rfl) rfl T.ij sd (@Zc _ _ _ (Zv (Nc:=lN) (ix:=[none,some 2]) (ZA.ofR (N:=lG) (sc0:=Zb Ya) rfl (by decide +kernel)) rfl (ZC (K:=K) rfl (@Zn _ _ _ _ _ _ _ (Zk (K:=K) rfl) (@Zn _ _ _ _ _ _ _ (ZB (K:=K) rfl) (pv 3) Zd (fun _ _=>rfl)) (pv 0) (fun _ _=>rfl))) (fun _ _ _ _ _=>(Zh (i:=0) (show List.Nodup lN by decide +kernel) rfl (Or.inl rfl))) (fun _ _ _ _ _=>ZF) (fun _ _ _ _ _=>(@Zn _ _ _ _ _ _ _ (Zk (K:=K) rfl) (pv 1) (pv 0) (fun _ _=>rfl)))) (by rfl))))))) (by rfl) (.inl rfl)) (@Zg _ _ _ (@Zi _ _ (7) _ _ _ _ Yk.nd rfl (Or.inr rfl) (Zv (Nc:=lO) (ix:=[none,some 8,some 10]) (ZA.of (by decide +kernel:ZD (Zb Ya) ["_law_spec", "_law_fair", "_law_part", "_law_left", "_law_one", "_law_other", "_law_rooms", "_law_found", "_law_first", "_law_turn", "_law_on"] ["_law_room", "_law_first", "_law_on"] [none,some 8,some 10] _=true)) rfl (ZC (K:=K) rfl (pv 6)) (fun _ _ _ _ _=>(Zh (i:=0) (show List.Nodup lO by decide +kernel) rfl (Or.inl rfl))) (fun _ _ _ _ _=>ZF) (fun _ _ _ _ _=>(YD (@Zn _ _ _ _ _ _ _ (Zk (K:=K) rfl) (pv 1) (pv 0) (fun _ _=>rfl)) (Yr (@Zn _ _ _ _ _ _ _ (Zk (K:=K) rfl) (pv 2) (pv 0) (fun _ _=>rfl)))))) (by rfl) (.inl rfl))))) (@Zg _ _ _ (@Zq _ _ _ _ (pv 7)))))))),?_⟩;have n20:=gd.n20;have wl:=gd.wl;obtain⟨sv,wv0,stv,fv,nmv,ht,pts⟩:=sp.ex;obtain⟨wa,wv,rfl,hwa,lw,qw⟩:=pts.w;refine⟨_,rfl,p,_,rfl,rT hp,rfl,_,_,rfl,_,_,rfl,rfl,?_⟩;refine⟨_,rfl,.inl ⟨b,_,rfl,.inl (rS hb),?_⟩⟩;rw[V5];refine⟨_,rfl,fun R hR=>?_⟩;obtain⟨H1,qN,s1,e1⟩:=ZV (o:=.rng 0 (d.signs.length:Int)) hR;rw[qN];refine .inr ⟨R,_,rfl,e1,by omega,by omega,fun M hM=>?_⟩;rw[vX];obtain⟨H2,qN,s2,e2⟩:=ZV (o:=.lst (nV (List.range d.signs.length))) hM;rw[qN];have s02:=s1.trans s2;have rl:(List.range d.signs.length).length<=sizeLine:=by rw[m9,mN];omega
  refine⟨_,rfl,M,rfl,⟨_,rS e2⟩,fun D hD=>?_⟩;refine ZY (List.range d.signs.length) (fun y:Nat=>V.int (y:Int)) (fun r=>V.bl (F r&&!S2 r)) hD (rS e2) rl ?_ ?_
  ·intro r hr G N sG hN;have lr:=mX.mp hr;have sH:=s02.trans sG;refine⟨_,rfl,_,rfl,b,_,_,_,rfl,rfl,rS (sH _ _ hb),Ym lr,F r,rfl,Vk (c:=!S2 r) (P:=fun v=>N v _) (hN _ (.refl _)) (fun q=>⟨_,rfl,_,rfl,o2,_,_,_,rfl,rfl,rS (sH _ _ ho2),Ym lr,_,rfl,q⟩)⟩
  intro H3 e3 s3;have s03:=s02.trans s3;refine⟨_,rfl,_,rfl,_,rfl,by omega,by omega,?_⟩;rw[mY];refine Wd (J:=Itr 0 m) (n:=m) (fun i σ G=>∃(Y:Addr) (z9 z10:Option V),σ=[some (.ref t),some (.ref b),some (.ref p),some (.int (m:Int)),some (.ref o1),some (.ref o2),some (.ref M),some (.ref Y),some (.ref D),z9,z10]/\Zf H3 G/\H Y=none/\BL G Y d.signs.length (itB (fun S r=>(F r&&!S2 r)&&(!S1 r||ldB (WN d) S r)) i (fun r=>F r&&!S2 r))) ?_ (fun _ _ _ h _=>h) (fun _ _ _=>mP _) ?_ ?_
  ·exact⟨D,_,_,rfl,.refl _,s02.free hD,e3⟩
  ·rintro i x σ G0 G hi ⟨Y,z9,z10,rfl,sG,hY,eY⟩ ⟨rfl,rfl⟩;have sH:=s03.trans sG;have eM:=sG _ _ (s3 _ _ e2);refine⟨_,rfl,M,rfl,⟨_,rS eM⟩,fun D2 hD2=>?_⟩;refine ZY (List.range d.signs.length) (fun y:Nat=>V.int (y:Int)) (fun r=>V.bl (!S1 r||ldB (WN d) (itB (fun S r=>(F r&&!S2 r)&&(!S1 r||ldB (WN d) S r)) i (fun r=>F r&&!S2 r)) r)) hD2 (rS eM) rl ?_ ?_
   ·intro r hr G1 N sG1 hN;have lr:=mX.mp hr;have sH1:=sH.trans sG1;have lw2:r<wv.length:=by omega
    have lw3:r<d.ways.length:=by omega
    obtain⟨wx,ewx,hwx⟩:=qw r wv[r] d.ways[r] (mO lw2) (mO lw3);have wb:=gd.wn _ (nk lw3);have hN':∀(H4:Hp) (c:Bool),Zf G1 H4->c=(!S1 r||ldB (WN d) (itB (fun S r=>(F r&&!S2 r)&&(!S1 r||ldB (WN d) S r)) i (fun r=>F r&&!S2 r)) r)->N (.bl c) H4:=fun H4 c s e=>by rw[e];exact hN H4 s
    refine⟨_,rfl,_,rfl,o1,_,_,_,rfl,rfl,rS (sH1 _ _ ho1),Ym lr,_,rfl,_,rfl,XS (fun c=>hN' _ _ (.refl _) (by rw[c];rfl)) (fun c=>?_)⟩;refine⟨_,rfl,t,_,_,.ref wa,rfl,rfl,rT (sH1 _ _ ht),rfl,_,rfl,wa,_,_,.ref wx,rfl,rfl,rS (sH1 _ _ hwa),Zt (by rw[mO lw2,ewx]),wx,rfl,⟨_,rS (sH1 _ _ hwx)⟩,fun D3 hD3=>?_⟩;refine ZY d.ways[r] V.int (fun x=>V.bl (itB (fun S r=>(F r&&!S2 r)&&(!S1 r||ldB (WN d) S r)) i (fun r=>F r&&!S2 r) x.toNat)) hD3 (rS (sH1 _ _ hwx)) (by rw[mN];omega) ?_ ?_
    ·intro x hx G2 N2 sG2 hN2;have xb:=wb.2.2.1 x hx;obtain⟨y,rfl⟩:=oA xb.1;exact⟨_,rfl,_,rfl,Y,_,_,_,rfl,rfl,rS (sG2 _ _ (sG1 _ _ eY)),Ym (by omega),hN2 _ (.refl _)⟩
    intro G2 eG2 s2;refine⟨D3,d.ways[r].map fun x=>itB (fun S r=>(F r&&!S2 r)&&(!S1 r||ldB (WN d) S r)) i (fun r=>F r&&!S2 r) x.toNat,rfl,rS (by rw[eG2,mZ];rfl),?_⟩;rw[U3 lw3];exact hN' G2 _ s2 (by rw[Bool.not_eq_true] at c;rw[c];rfl)
   intro G2 eG2 u2;have eM2:=u2 _ _ eM;refine⟨_,rfl,M,rfl,⟨_,rS eM2⟩,fun D4 hD4=>?_⟩;refine ZY (List.range d.signs.length) (fun y:Nat=>V.int (y:Int)) (fun r=>V.bl (itB (fun S r=>(F r&&!S2 r)&&(!S1 r||ldB (WN d) S r)) (i+1) (fun r=>F r&&!S2 r) r)) hD4 (rS eM2) rl ?_ ?_
   ·intro r hr G3 N sG3 hN;have lr:=mX.mp hr;have sG:=sG.trans (u2.trans sG3);exact⟨_,rfl,_,rfl,D,_,_,_,rfl,rfl,rS (sG _ _ e3),Ym lr,F r&&!S2 r,rfl,Vk (c:=!S1 r||ldB (WN d) (itB (fun S r=>(F r&&!S2 r)&&(!S1 r||ldB (WN d) S r)) i (fun r=>F r&&!S2 r)) r) (P:=fun v=>N v _) (hN _ (.refl _)) (fun q=>⟨_,rfl,_,rfl,D2,_,_,_,rfl,rfl,rS (sG3 _ _ eG2),Ym lr,q⟩)⟩
   intro G3 eG3 u3;exact⟨D4,_,_,rfl,sG.trans (u2.trans u3),(sH.trans u2).free hD4,eG3⟩
  rintro σ G ⟨Y,z9,z10,rfl,sG,hY,eY⟩;exact⟨_,rfl,k G Y (s03.trans sG) hY eY⟩
def jv(n:Nat)(K:W.Frag)(a:Adr):Sp:=fun vs H Q _=>∃(t:Addr) (v:V) (d:WD) (r:Tr),vs=[.ref t,v]/\XR d/\zB H t d/\At K (n+1) H v r/\bkT r = "way" /\ ∀H' D,Zf H H'->H D=none->BL H' D d.signs.length (VN d r.lb (r.ks.map (soB d)))->Q (.ref D) H'
theorem jt(T:Txt K mg a)(hw:w.params=a.Pm)(n:Nat)(ao:Ye P w K mg base CX0 (2*n+10) a._law_so a.cg ["_law_spec", "_law_sentence"] (Vu n K a)):Ye P w K mg base CX0 (2*n+11) a._law_all a.de ["_law_spec", "_law_part"] (jv n K a):=by
 have ai:=Wu (P:=P) (w:=w) (base:=base) T hw;have cO:=Uu (P:=P) (w:=w) (base:=base) T hw;have iB:=ya (P:=P) (w:=w) (base:=base) T hw;refine T.fZ.ok YU (fun vs H Q E h=>?_) (fun lD A outer s H vs Q E hr h=>?_)
 ·obtain⟨t,v,d,r,rfl,_⟩:=h;rfl
 ·obtain⟨t,v,d,r,rfl,gd,sp,hat,bk,k⟩:=h;refine⟨_,(@Za _ _ _ _ _ (@Zi _ _ (2) _ _ _ _ YU.nd rfl (Or.inl rfl) (Zm (ZI (K:=K) rfl) rfl T.aX rW (@Zc _ _ _ (@Zn _ _ _ _ _ _ _ (ZB (K:=K) rfl) (pv 0) Zd (fun _ _=>rfl)) (by rfl))) (by rfl) (.inl rfl)) (@Za _ _ _ _ _ (@Zi _ _ (3) _ _ _ _ YU.nd rfl (Or.inr rfl) (Zl ai (hr.mono (show _<=2*n+10 by omega)) rfl T.az T.ah.kp T.aq .nil Zs (@Zr _ _ _ _ _ (pv 0) (@Zc _ _ _ (@Zz _ _ _ _ _ _ _ _ qY (@ZW _ _ _ _ (@Zc _ _ _ Wv (by rfl))) (pv 2)) (by rfl)) (by rfl))) (by rfl) (.inl rfl)) (@Za _ _ _ _ _ (@Zi _ _ (4) _ _ _ _ YU.nd rfl (Or.inl rfl) (@Zn _ _ _ _ _ _ _ (ZB (K:=K) rfl) (pv 1) Zd (fun _ _=>rfl)) (by rfl) (.inl rfl)) (@Za _ _ _ _ _ (@ZN _ _ _ _ _ _ _ _ (@Zp _ _ _ _ _ _ _ _ ZU (pv 4) Zx (Zw _)) (@Za _ _ _ _ _ (@Zi _ _ (5) _ _ _ _ YU.nd rfl (Or.inl rfl) (@Yv _ _ _ _ _ (@Zr _ _ _ _ _ (Zl ao (hr.mono (show _<=2*n+10 by omega)) rfl T.aO T.aG.kp T.aN .nil Zs (@Zr _ _ _ _ _ (pv 0) (@Zc _ _ _ (@Zn _ _ _ _ _ _ _ (ZB (K:=K) rfl) (pv 1) Zd (fun _ _=>rfl)) (by rfl)) (by rfl))) (@Zc _ _ _ (Zl ao (hr.mono (show _<=2*n+10 by omega)) rfl T.aO T.aG.kp T.aN .nil Zs (@Zr _ _ _ _ _ (pv 0) (@Zc _ _ _ (@Zn _ _ _ _ _ _ _ (ZB (K:=K) rfl) (pv 1) Zd (fun _ _=>rfl)) (by rfl)) (by rfl))) (by rfl)) (by rfl))) (by rfl) (.inl rfl)) (@Zg _ _ _ (@Zq _ _ _ _ (Zv (Nc:=lE) (ix:=[none]) (ZA.of (by decide +kernel:ZD (Zb Z4) ["_law_spec", "_law_part", "_law_many", "_law_fair", "_law_word", "_law_pair", "_law_one", "_law_lost", "_law_missed", "_law_never"] ["_law_so_here"] [none] _=true)) rfl (ZC (K:=K) rfl (Zl iB (hr.mono (show _<=2*n+10 by omega)) rfl T.fP T.dr.kp T.fN .nil Zs (@Z0 _ _ _ _ _ (pv 0) (@Z0 _ _ _ _ _ (pv 3) (@Z0 _ _ _ _ _ (pv 5) (@Xk _ _ _ (@Zn _ _ _ _ _ _ _ (ZB (K:=K) rfl) (pv 1) Zd (fun _ _=>rfl)) (by rfl)) (by rfl)) (by rfl)) (by rfl)))) (fun _ _ _ _ _=>(Zh (i:=0) (show List.Nodup lE by decide +kernel) rfl (Or.inl rfl))) (fun _ _ _ _ _=>ZF) (fun _ _ _ _ _=>(Wr (pv 0))))))) Zu) (@Za _ _ _ _ _ (@Zi _ _ (6) _ _ _ _ YU.nd rfl (Or.inr rfl) (Zl ao (hr.mono (show _<=2*n+10 by omega)) rfl T.aO T.aG.kp T.aN .nil Zs (@Zr _ _ _ _ _ (pv 0) (@Zc _ _ _ (@Zn _ _ _ _ _ _ _ (ZB (K:=K) rfl) (pv 1) Zd (fun _ _=>rfl)) (by rfl)) (by rfl))) (by rfl) (.inl rfl)) (@Za _ _ _ _ _ (@ZN _ _ _ _ _ _ _ _ (@Zp _ _ _ _ _ _ _ _ ZU (pv 4) Zx (Zw _)) (@Zg _ _ _ (@Zq _ _ _ _ (Zv (Nc:=lH) (ix:=[none,some 6,some 3,some 0]) (ZA.of (by decide +kernel:ZD (Zb Z4) ["_law_spec", "_law_part", "_law_many", "_law_fair", "_law_word", "_law_pair", "_law_one", "_law_lost", "_law_missed", "_law_never"] ["_law_room", "_law_one", "_law_fair", "_law_spec"] [none,some 6,some 3,some 0] _=true)) rfl (ZM rfl T.ae (@Zc _ _ _ (pv 2) (by rfl))) (fun _ _ _ _ _=>(Zh (i:=0) (show List.Nodup lH by decide +kernel) rfl (Or.inl rfl))) (fun _ _ _ _ _=>ZF) (fun _ _ _ _ _=>(Zm (X3 (K:=K) rfl rfl) rfl T.hV r6 (@Zc _ _ _ (Zv (Nc:=lP) (ix:=[none,some 1,some 2]) (ZA.ofR (N:=lH) (sc0:=Zb Z4) rfl (by decide +kernel)) rfl (ZC (K:=K) rfl (@Zn _ _ _ _ _ _ _ (Zk (K:=K) rfl) (@Zn _ _ _ _ _ _ _ (ZB (K:=K) rfl) (pv 3) Zd (fun _ _=>rfl)) (pv 0) (fun _ _=>rfl))) (fun _ _ _ _ _=>(Zh (i:=0) (show List.Nodup lP by decide +kernel) rfl (Or.inl rfl))) (fun _ _ _ _ _=>ZF) (fun _ _ _ _ _=>(pe_or (@Zn _ _ _ _ _ _ _ (Zk (K:=K) rfl) (pv 1) (pv 0) (fun _ _=>rfl)) (Yr (Wr (@Zn _ _ _ _ _ _ _ (Zk (K:=K) rfl) (pv 2) (pv 0) (fun _ _=>rfl))))))) (by rfl))))))) Zu) (@Za _ _ _ _ _ (@ZN _ _ _ _ _ _ _ _ (@Zp _ _ _ _ _ _ _ _ ZU (pv 4) Zx (Zw _)) (@Zg _ _ _ (@Zq _ _ _ _ (Zv (Nc:=lE) (ix:=[none]) (ZA.of (by decide +kernel:ZD (Zb Z4) ["_law_spec", "_law_part", "_law_many", "_law_fair", "_law_word", "_law_pair", "_law_one", "_law_lost", "_law_missed", "_law_never"] ["_law_so_here"] [none] _=true)) rfl (ZC (K:=K) rfl (Zl ai (hr.mono (show _<=2*n+10 by omega)) rfl T.az T.ah.kp T.aq .nil Zs (@Zr _ _ _ _ _ (pv 0) (@Zc _ _ _ (Zv (Nc:=lE) (ix:=[none]) (ZA.of (by decide +kernel:ZD (Zb Z4) ["_law_spec", "_law_part", "_law_many", "_law_fair", "_law_word", "_law_pair", "_law_one", "_law_lost", "_law_missed", "_law_never"] ["_law_so_here"] [none] _=true)) rfl (ZC (K:=K) rfl (pv 6)) (fun _ _ _ _ _=>(Zh (i:=0) (show List.Nodup lE by decide +kernel) rfl (Or.inl rfl))) (fun _ _ _ _ _=>ZF) (fun _ _ _ _ _=>(Wr (pv 0)))) (by rfl)) (by rfl)))) (fun _ _ _ _ _=>(Zh (i:=0) (show List.Nodup lE by decide +kernel) rfl (Or.inl rfl))) (fun _ _ _ _ _=>ZF) (fun _ _ _ _ _=>(Wr (pv 0)))))) Zu) (@Za _ _ _ _ _ (@ZN _ _ _ _ _ _ _ _ (@Zp _ _ _ _ _ _ _ _ ZU (pv 4) Zx (Zw _)) (@Za _ _ _ _ _ (@Zi _ _ (7) _ _ _ _ YU.nd rfl (Or.inr rfl) (Zl cO (hr.mono (show _<=2*n+10 by omega)) rfl T.cN T.bS.kp T.cM .nil Zs (@Z0 _ _ _ _ _ (pv 0) (@Z0 _ _ _ _ _ (@Zz _ _ _ _ _ _ _ _ qY (@ZW _ _ _ _ (@Zc _ _ _ Wv (by rfl))) (pv 2)) (@Xk _ _ _ (Zv (Nc:=mB) (ix:=[none,some 3,some 6]) (ZA.of (by decide +kernel:ZD (Zb Z4) ["_law_spec", "_law_part", "_law_many", "_law_fair", "_law_word", "_law_pair", "_law_one", "_law_lost", "_law_missed", "_law_never"] ["_law_room", "_law_fair", "_law_one"] [none,some 3,some 6] _=true)) rfl (ZM rfl T.ae (@Zc _ _ _ (pv 2) (by rfl))) (fun _ _ _ _ _=>(Zh (i:=0) (show List.Nodup mB by decide +kernel) rfl (Or.inl rfl))) (fun _ _ _ _ _=>ZF) (fun _ _ _ _ _=>(YD (@Zn _ _ _ _ _ _ _ (Zk (K:=K) rfl) (pv 1) (pv 0) (fun _ _=>rfl)) (Yr (Wr (@Zn _ _ _ _ _ _ _ (Zk (K:=K) rfl) (pv 2) (pv 0) (fun _ _=>rfl))))))) (by rfl)) (by rfl)) (by rfl))) (by rfl) (.inl rfl)) (@Zg _ _ _ (@Zq _ _ _ _ (Zv (Nc:=lE) (ix:=[none]) (ZA.of (by decide +kernel:ZD (Zb Z4) ["_law_spec", "_law_part", "_law_many", "_law_fair", "_law_word", "_law_pair", "_law_one", "_law_lost", "_law_missed", "_law_never"] ["_law_so_here"] [none] _=true)) rfl (ZC (K:=K) rfl (pv 7)) (fun _ _ _ _ _=>(Zh (i:=0) (show List.Nodup lE by decide +kernel) rfl (Or.inl rfl))) (fun _ _ _ _ _=>ZF) (fun _ _ _ _ _=>(Wr (pv 0))))))) Zu) (@Za _ _ _ _ _ (@Zi _ _ (8) _ _ _ _ YU.nd rfl (Or.inr rfl) (Zv (Nc:=lE) (ix:=[none]) (ZA.of (by decide +kernel:ZD (Zb Z4) ["_law_spec", "_law_part", "_law_many", "_law_fair", "_law_word", "_law_pair", "_law_one", "_law_lost", "_law_missed", "_law_never"] ["_law_so_here"] [none] _=true)) rfl (ZC (K:=K) rfl (Zl ao (hr.mono (show _<=2*n+10 by omega)) rfl T.aO T.aG.kp T.aN .nil Zs (@Zr _ _ _ _ _ (pv 0) (@Zc _ _ _ (@Zn _ _ _ _ _ _ _ (ZB (K:=K) rfl) (pv 1) Zd (fun _ _=>rfl)) (by rfl)) (by rfl)))) (fun _ _ _ _ _=>(Zh (i:=0) (show List.Nodup lE by decide +kernel) rfl (Or.inl rfl))) (fun _ _ _ _ _=>ZF) (fun _ _ _ _ _=>(Wr (pv 0)))) (by rfl) (.inl rfl)) (@Za _ _ _ _ _ (@Zi _ _ (7) _ _ _ _ YU.nd rfl (Or.inr rfl) (Zl cO (hr.mono (show _<=2*n+10 by omega)) rfl T.cN T.bS.kp T.cM .nil Zs (@Z0 _ _ _ _ _ (pv 0) (@Z0 _ _ _ _ _ (pv 8) (@Xk _ _ _ (Zv (Nc:=mC) (ix:=[none,some 3,some 8,some 6]) (ZA.of (by decide +kernel:ZD (Zb Z4) ["_law_spec", "_law_part", "_law_many", "_law_fair", "_law_word", "_law_pair", "_law_one", "_law_lost", "_law_missed", "_law_never"] ["_law_room", "_law_fair", "_law_missed", "_law_one"] [none,some 3,some 8,some 6] _=true)) rfl (ZM rfl T.ae (@Zc _ _ _ (pv 2) (by rfl))) (fun _ _ _ _ _=>(Zh (i:=0) (show List.Nodup mC by decide +kernel) rfl (Or.inl rfl))) (fun _ _ _ _ _=>ZF) (fun _ _ _ _ _=>(YD (@Zn _ _ _ _ _ _ _ (Zk (K:=K) rfl) (pv 1) (pv 0) (fun _ _=>rfl)) (YD (@Zn _ _ _ _ _ _ _ (Zk (K:=K) rfl) (pv 2) (pv 0) (fun _ _=>rfl)) (Yr (Wr (@Zn _ _ _ _ _ _ _ (Zk (K:=K) rfl) (pv 3) (pv 0) (fun _ _=>rfl)))))))) (by rfl)) (by rfl)) (by rfl))) (by rfl) (.inl rfl)) (@Za _ _ _ _ _ (@Zi _ _ (9) _ _ _ _ YU.nd rfl (Or.inr rfl) (Zl ai (hr.mono (show _<=2*n+10 by omega)) rfl T.az T.ah.kp T.aq .nil Zs (@Zr _ _ _ _ _ (pv 0) (@Zc _ _ _ (pv 8) (by rfl)) (by rfl))) (by rfl) (.inl rfl)) (@Zg _ _ _ (@Zq _ _ _ _ (Zv (Nc:=mD) (ix:=[none,some 7,some 9]) (ZA.of (by decide +kernel:ZD (Zb Z4) ["_law_spec", "_law_part", "_law_many", "_law_fair", "_law_word", "_law_pair", "_law_one", "_law_lost", "_law_missed", "_law_never"] ["_law_room", "_law_lost", "_law_never"] [none,some 7,some 9] _=true)) rfl (ZM rfl T.ae (@Zc _ _ _ (pv 2) (by rfl))) (fun _ _ _ _ _=>(Zh (i:=0) (show List.Nodup mD by decide +kernel) rfl (Or.inl rfl))) (fun _ _ _ _ _=>ZF) (fun _ _ _ _ _=>(YD (Wr (@Zn _ _ _ _ _ _ _ (Zk (K:=K) rfl) (pv 1) (pv 0) (fun _ _=>rfl))) (Yr (Wr (@Zn _ _ _ _ _ _ _ (Zk (K:=K) rfl) (pv 2) (pv 0) (fun _ _=>rfl)))))))))))))))))))),?_⟩;have n20:=gd.n20;have wl:=gd.wl;obtain⟨b,rfl,pc⟩:=ptc_of hat bk;clear hat bk;obtain⟨sv0,wv0,stv,fv,nmv,ht,pts⟩:=id sp.ex;obtain⟨wa,wv,rfl,hwa,lw,qw⟩:=id pts.w;have wvl:wv.length=d.signs.length:=by omega
  refine⟨_,rfl,t,_,_,.ref wa,rfl,rfl,rT ht,rfl,.inl ⟨wa,_,rfl,.inl (rS hwa),?_⟩⟩;rw[wvl];refine⟨_,rfl,sz1,fun L0 h0=>?_⟩;obtain⟨H1,qN,s1,e1⟩:=ZV (o:=.lst [.bl true]) h0;rw[qN];refine⟨_,rfl,L0,_,[.bl true],rfl,rfl,e1,by omega,by omega,by rw[mY,mN];simp;omega,fun L1 h1=>?_⟩;rw[W4];obtain⟨H2,qN,s2,e2⟩:=ZV (o:=.lst ((List.range d.signs.length).map fun r=>V.bl ((fun _:Nat=>true) r))) h1;rw[qN];have s02:=s1.trans s2;refine⟨t,L1,d,fun _=>true,rfl,gd,sp.mono s02,e2,fun H3 FA s3 hFA eFA=>?_⟩;have s03:=s02.trans s3;have eF:BL H3 FA d.signs.length (faB d):=eFA;clear eFA h0 h1 e1 e2 s1 s2 hFA;have tp:=rV s03;have sp3:=sp.mono s03;cases pc with
  |wit m u v q l hm e1 e2 sq au av bk1 bk2=>
   have sq3:=tp _ _ _ sq;refine⟨_,rfl,b,_,_,_,rfl,rfl,sq3,rfl,_,rfl,rfl,_,rfl,YZ rfl ?_⟩;refine⟨_,rfl,_,rfl,b,_,_,u,rfl,rfl,sq3,rfl,t,u,d,q,rfl,gd,sp3,au.mono tp,bk1,fun H4 D4 s4 hD4 e4=>?_⟩;have t4:=rV s4;refine⟨_,rfl,_,rfl,b,_,_,v,rfl,rfl,t4 _ _ _ sq3,rfl,t,v,d,l,rfl,gd,sp3.mono s4,(av.mono tp).mono t4,bk2,fun H5 D5 s5 hD5 e5=>?_⟩;refine⟨sz2,fun P hP=>?_⟩;obtain⟨H6,qN,s6,e6⟩:=ZV (o:=.tup [.ref D4,.ref D5]) hP;rw[qN];have s36:=s4.trans (s5.trans s6);refine⟨_,rfl,_,rfl,_,rfl,_,rfl,b,_,_,.int (m:Int),rfl,rfl,rV s36 _ _ _ sq3,rfl,t,FA,P,D4,D5,d,soB d q,soB d l,faB d,m,rfl,gd,sp3.mono s36,s36 _ _ eF,e6,(s5.trans s6) _ _ e4,s6 _ _ e5,by omega,fun H7 D7 s7 hD7 e7=>?_⟩;refine⟨D7,rfl,⟨_,rS e7⟩,fun Z hZ=>Vn hZ e7 n20 fun H8 e8 s8=>?_⟩;have s07:=s03.trans (s36.trans s7);refine k H8 Z (s07.trans s8) (s07.free hZ) ?_;rw[e1,e2,mV,mV,nO];exact e8.ext fun r hr=>(la_wit gd hr).symm
  |one w u q hw e1 e2 sq au bk1=>
   have sq3:=tp _ _ _ sq;have nw:w ≠ "within" := fun z=>by rw[z] at hw;exact absurd hw (by decide +kernel)
   refine⟨_,rfl,b,_,_,_,rfl,rfl,sq3,rfl,_,rfl,rfl,_,rfl,ZK (fun z=>nw (V.str.inj z)) ?_⟩;refine⟨_,rfl,_,rfl,b,_,_,u,rfl,rfl,sq3,rfl,t,u,d,q,rfl,gd,sp3,au.mono tp,bk1,fun H4 D4 s4 hD4 e4=>?_⟩;have s04:=s03.trans s4;have eF:=s4 _ _ eF;have sp4:=sp3.mono s4;simp only[nu,pX,or_false] at hw;rcases hw with rfl|rfl|rfl
   ·refine⟨_,rfl,rfl,_,rfl,YZ rfl ?_⟩;refine⟨_,rfl,_,rfl,by omega,by omega,fun Z hZ=>?_⟩;rw[mY];refine Xp (fun r=>V.bl (VN d (.op "next") [soB d q] r)) hZ (by rw[mN];omega) ?_ ?_
    ·intro r hr G1 N sG1 hN;have sH1:=s04.trans sG1;have lw3:r<d.ways.length:=by omega
     obtain⟨wx,ewx,hwx⟩:=qw r wv[r] d.ways[r] (mO (by omega)) (mO lw3);have wb:=gd.wn _ (nk lw3);refine⟨_,rfl,t,_,_,.ref wa,rfl,rfl,rT (sH1 _ _ ht),rfl,_,rfl,wa,_,_,.ref wx,rfl,rfl,rS (sH1 _ _ hwa),Zt (by rw[mO (by omega),ewx]),wx,rfl,⟨_,rS (sH1 _ _ hwx)⟩,fun AN hAN=>?_⟩;refine ZY d.ways[r] V.int (fun x=>V.bl (soB d q x.toNat||!faB d x.toNat)) hAN (rS (sH1 _ _ hwx)) (by rw[mN];omega) ?_ ?_
     ·intro x hx G2 N2 sG2 hN2;have xb:=wb.2.2.1 x hx;obtain⟨y,rfl⟩:=oA xb.1;have ly:y<d.signs.length:=by omega
      have sy:=sG1.trans sG2;exact⟨_,rfl,_,rfl,D4,_,_,_,rfl,rfl,rS (sy _ _ e4),Ym ly,soB d q y,rfl,or_v (c:=!faB d y) (P:=fun v=>N2 v _) (hN2 _ (.refl _)) (fun q=>⟨_,rfl,_,rfl,FA,_,_,_,rfl,rfl,rS (sy _ _ eF),Ym ly,_,rfl,q⟩)⟩
     intro G2 eAN t2;refine⟨AN,d.ways[r].map fun x=>soB d q x.toNat||!faB d x.toNat,rfl,rS (by rw[eAN,mZ];rfl),?_⟩;rw[la_next lw3];exact hN _ t2
    intro H5 eZ s5;refine k H5 Z (s04.trans s5) (s04.free hZ) ?_;rw[e1,e2,mV,nO];exact eZ
   ·refine⟨_,rfl,rfl,_,rfl,ZK (fun z=>absurd (V.str.inj z) (by decide +kernel)) ?_⟩;refine⟨_,rfl,rfl,_,rfl,ZK (fun z=>absurd (V.str.inj z) (by decide +kernel)) ?_⟩;refine⟨_,rfl,rfl,_,rfl,YZ rfl ?_⟩;refine⟨_,rfl,sz1,fun L2 h2=>?_⟩;obtain⟨H5a,qN,s5a,e5a⟩:=ZV (o:=.lst [.bl true]) h2;rw[qN];refine⟨_,rfl,L2,_,[.bl true],rfl,rfl,e5a,by omega,by omega,by rw[mY,mN];simp;omega,fun KP h3=>?_⟩;rw[W4];obtain⟨H5,qN,s5b,eK⟩:=ZV (o:=.lst ((List.range d.signs.length).map fun r=>V.bl ((fun _:Nat=>true) r))) h3;rw[qN];have s5:=s5a.trans s5b;have s05:=s04.trans s5;refine⟨_,rfl,_,rfl,by omega,by omega,fun GL hGL=>?_⟩;rw[mY];refine Xp (fun r=>V.bl (faB d r&&!soB d q r)) hGL (by rw[mN];omega) ?_ ?_
    ·intro r hr G1 N sG1 hN;exact⟨_,rfl,_,rfl,FA,_,_,_,rfl,rfl,rS (sG1 _ _ (s5 _ _ eF)),Ym hr,faB d r,rfl,Vk (c:=!soB d q r) (P:=fun v=>N v _) (hN _ (.refl _)) (fun z=>⟨_,rfl,_,rfl,D4,_,_,_,rfl,rfl,rS (sG1 _ _ (s5 _ _ e4)),Ym hr,_,rfl,z⟩)⟩
    intro H6 eG s6;refine⟨t,KP,GL,d,fun _=>true,fun r=>faB d r&&!soB d q r,rfl,gd,(sp4.mono s5).mono s6,s6 _ _ eK,eG,fun H7 D7 s7 hD7 eD7=>?_⟩;refine⟨_,rfl,D7,rfl,⟨_,rS eD7⟩,fun Z hZ=>Vn hZ eD7 n20 fun H8 e8 s8=>?_⟩;have s07:=s05.trans (s6.trans s7);refine k H8 Z (s07.trans s8) (s07.free hZ) ?_;rw[e1,e2,mV,nO,la_always];exact e8
   ·refine⟨_,rfl,rfl,_,rfl,ZK (fun z=>absurd (V.str.inj z) (by decide +kernel)) ?_⟩;refine⟨_,rfl,rfl,_,rfl,YZ rfl ?_⟩;refine⟨_,rfl,_,rfl,D4,rfl,⟨_,rS e4⟩,fun M hM=>Vn hM e4 n20 fun H5 e5 s5=>?_⟩;refine⟨t,M,d,_,rfl,gd,sp4.mono s5,e5,fun H6 D6 s6 hD6 e6=>?_⟩;refine⟨D6,rfl,⟨_,rS e6⟩,fun Z hZ=>Vn hZ e6 n20 fun H8 e8 s8=>?_⟩;have s06:=s04.trans (s5.trans s6);refine k H8 Z (s06.trans s8) (s06.free hZ) ?_;rw[e1,e2,mV,nO,al_ever];exact e8
  |two u v q l e1 e2 sq au av bk1 bk2=>
   have sq3:=tp _ _ _ sq;refine⟨_,rfl,b,_,_,_,rfl,rfl,sq3,rfl,_,rfl,rfl,_,rfl,ZK (fun z=>absurd (V.str.inj z) (by decide +kernel)) ?_⟩;refine⟨_,rfl,_,rfl,b,_,_,u,rfl,rfl,sq3,rfl,t,u,d,q,rfl,gd,sp3,au.mono tp,bk1,fun H4 D4 s4 hD4 e4=>?_⟩;have s04:=s03.trans s4;have t4:=rV s4;refine⟨_,rfl,rfl,_,rfl,ZK (fun z=>absurd (V.str.inj z) (by decide +kernel)) ?_⟩;refine⟨_,rfl,rfl,_,rfl,ZK (fun z=>absurd (V.str.inj z) (by decide +kernel)) ?_⟩;refine⟨_,rfl,rfl,_,rfl,ZK (fun z=>absurd (V.str.inj z) (by decide +kernel)) ?_⟩;refine⟨_,rfl,_,rfl,b,_,_,v,rfl,rfl,t4 _ _ _ sq3,rfl,t,v,d,l,rfl,gd,sp3.mono s4,(av.mono tp).mono t4,bk2,fun H5 D5 s5 hD5 e5=>?_⟩;refine⟨D5,rfl,⟨_,rS e5⟩,fun M hM=>Vn hM e5 n20 fun H6 eM s6=>?_⟩;have s46:=s5.trans s6;have s06:=s04.trans s46;have eF6:=(s4.trans s46) _ _ eF;have e46:=s46 _ _ e4;have sp6:=(sp3.mono s4).mono s46;refine⟨_,rfl,_,rfl,_,rfl,_,rfl,by omega,by omega,fun GL hGL=>?_⟩;rw[mY];refine Xp (fun r=>V.bl (faB d r&&(!soB d l r&&!soB d q r))) hGL (by rw[mN];omega) ?_ ?_
   ·intro r hr G1 N sG1 hN;exact⟨_,rfl,_,rfl,FA,_,_,_,rfl,rfl,rS (sG1 _ _ eF6),Ym hr,faB d r,rfl,Vk (c:=!soB d l r&&!soB d q r) (P:=fun v=>N v _) (hN _ (.refl _)) (fun z=>⟨_,rfl,_,rfl,M,_,_,_,rfl,rfl,rS (sG1 _ _ eM),Ym hr,!soB d l r,rfl,Vk (c:=!soB d q r) (P:=fun v=>N v _) z (fun z=>⟨_,rfl,_,rfl,D4,_,_,_,rfl,rfl,rS (sG1 _ _ e46),Ym hr,_,rfl,z⟩)⟩)⟩
   intro H7 eG s7;refine⟨t,M,GL,d,_,fun r=>faB d r&&(!soB d l r&&!soB d q r),rfl,gd,sp6.mono s7,s7 _ _ eM,eG,fun H8 D8 s8 hD8 e8=>?_⟩;have s68:=s7.trans s8;refine⟨_,rfl,_,rfl,t,M,d,_,rfl,gd,sp6.mono s68,s68 _ _ eM,fun H9 D9 s9 hD9 e9=>?_⟩;refine⟨_,rfl,_,rfl,by omega,by omega,fun Z hZ=>?_⟩;rw[mY];refine Xp (fun r=>V.bl (VN d (.op "until") [soB d q,soB d l] r)) hZ (by rw[mN];omega) ?_ ?_
   ·intro r hr G1 N sG1 hN;rw[la_until] at hN;exact⟨_,rfl,_,rfl,D8,_,_,_,rfl,rfl,rS (sG1 _ _ (s9 _ _ e8)),Ym hr,_,rfl,_,rfl,Vk (c:=!frB d (fun r=>!soB d l r) r) (P:=fun v=>N v _) (hN _ (.refl _)) (fun z=>⟨_,rfl,_,rfl,D9,_,_,_,rfl,rfl,rS (sG1 _ _ e9),Ym hr,_,rfl,z⟩)⟩
   intro H10 eZ s10;have s09:=s06.trans (s68.trans s9);refine k H10 Z (s09.trans s10) (s09.free hZ) ?_;rw[e1,e2,mV,mV,nO];exact eZ
theorem zT{K:W.Frag}{a:Adr}{vs:List V}{H:Hp}{Q:VK}{E:XK}(h:Vu 0 K a vs H Q E):False:=by
 obtain⟨_,_,_,_,_,_,_,h,_⟩:=h;exact h
theorem kG(T:Txt K mg a)(hw:w.params=a.Pm):∀n:Nat,Ye P w K mg base CX0 (2*n+10) a._law_so a.cg ["_law_spec", "_law_sentence"] (Vu n K a):=by
 intro n
 induction n with
 |zero=>exact⟨fun _ _ _ _ h=>(zT h).elim,fun _ _ _ _ _ _ _ _ _ _ _ _ _ h=>(zT h).elim⟩
 |succ n ao=>
  have iT:=xX (P:=P) (w:=w) (base:=base) T hw n ao;have i0:=jt (P:=P) (w:=w) (base:=base) T hw n ao;refine T.aG.ok Vr (fun vs H Q E h=>?_) (fun lD A outer s H vs Q E hr h=>?_)
  ·obtain⟨t,v,d,r,rfl,_⟩:=h;rfl
  ·obtain⟨t,v,d,r,rfl,gd,sp,hat,bk,k⟩:=h;refine⟨_,(@Za _ _ _ _ _ (@Zi _ _ (2) _ _ _ _ Vr.nd rfl (Or.inl rfl) (Zm (ZI (K:=K) rfl) rfl T.aX rW (@Zc _ _ _ (@Zn _ _ _ _ _ _ _ (ZB (K:=K) rfl) (pv 0) Zd (fun _ _=>rfl)) (by rfl))) (by rfl) (.inl rfl)) (@Za _ _ _ _ _ (@Zi _ _ (3) _ _ _ _ Vr.nd rfl (Or.inl rfl) (@Zn _ _ _ _ _ _ _ (ZB (K:=K) rfl) (pv 1) Zd (fun _ _=>rfl)) (by rfl) (.inl rfl)) (@Za _ _ _ _ _ (@ZN _ _ _ _ _ _ _ _ (@Zp _ _ _ _ _ _ _ _ ZU (pv 3) Zx (Zw _)) (@Zg _ _ _ (@Zq _ _ _ _ (@Zz _ _ _ _ _ _ _ _ qY (@ZW _ _ _ _ (@Zc _ _ _ Wv (by rfl))) (pv 2)))) Zu) (@Za _ _ _ _ _ (@ZN _ _ _ _ _ _ _ _ (@Zp _ _ _ _ _ _ _ _ ZU (pv 3) Zx (Zw _)) (@Zg _ _ _ (@Zq _ _ _ _ (Zv (Nc:=mE) (ix:=[none,some 1,some 0]) (ZA.of (by decide +kernel:ZD (Zb YF) ["_law_spec", "_law_sentence", "_law_many", "_law_word", "_law_parts"] ["_law_room", "_law_sentence", "_law_spec"] [none,some 1,some 0] _=true)) rfl (ZM rfl T.ae (@Zc _ _ _ (pv 2) (by rfl))) (fun _ _ _ _ _=>(Zh (i:=0) (show List.Nodup mE by decide +kernel) rfl (Or.inl rfl))) (fun _ _ _ _ _=>ZF) (fun _ _ _ _ _=>(@YQ _ _ _ _ _ _ _ _ (WC (K:=K) rfl) (@Zn _ _ _ _ _ _ _ (ZB (K:=K) rfl) (pv 1) Zd (fun _ _=>rfl)) (@Zn _ _ _ _ _ _ _ (Zk (K:=K) rfl) (@Zn _ _ _ _ _ _ _ (ZB (K:=K) rfl) (pv 2) Zd (fun _ _=>rfl)) (pv 0) (fun _ _=>rfl)) (by with_unfolding_all rfl)))))) Zu) (@Za _ _ _ _ _ (@ZN _ _ _ _ _ _ _ _ (@Zp _ _ _ _ _ _ _ _ ZU (pv 3) Zx (Zw _)) (@Zg _ _ _ (@Zq _ _ _ _ (Zl iT (hr.mono (show _<=2*n+11 by omega)) rfl T.gQ T.fA.kp T.gP .nil Zs (@Zr _ _ _ _ _ (pv 0) (@Zc _ _ _ (@Zn _ _ _ _ _ _ _ (ZB (K:=K) rfl) (pv 1) Zd (fun _ _=>rfl)) (by rfl)) (by rfl))))) Zu) (@Za _ _ _ _ _ (@ZN _ _ _ _ _ _ _ _ (@Zp _ _ _ _ _ _ _ _ ZU (pv 3) Zx (Zw _)) (@Zg _ _ _ (@Zq _ _ _ _ (Zl i0 (hr.mono (show _<=2*n+11 by omega)) rfl T.ie T.fZ.kp T.ic .nil Zs (@Zr _ _ _ _ _ (pv 0) (@Zc _ _ _ (@Zn _ _ _ _ _ _ _ (ZB (K:=K) rfl) (pv 1) Zd (fun _ _=>rfl)) (by rfl)) (by rfl))))) Zu) (@Za _ _ _ _ _ (@ZN _ _ _ _ _ _ _ _ (@Zp _ _ _ _ _ _ _ _ ZU (pv 3) Zx (Zw _)) (@Zg _ _ _ (@Zq _ _ _ _ (Zv (Nc:=lE) (ix:=[none]) (ZA.of (by decide +kernel:ZD (Zb YF) ["_law_spec", "_law_sentence", "_law_many", "_law_word", "_law_parts"] ["_law_so_here"] [none] _=true)) rfl (ZC (K:=K) rfl (Zl ao (hr.mono (show _<=2*n+11 by omega)) rfl T.aO T.aG.kp T.aN .nil Zs (@Zr _ _ _ _ _ (pv 0) (@Zc _ _ _ (@Zn _ _ _ _ _ _ _ (ZB (K:=K) rfl) (pv 1) Zd (fun _ _=>rfl)) (by rfl)) (by rfl)))) (fun _ _ _ _ _=>(Zh (i:=0) (show List.Nodup lE by decide +kernel) rfl (Or.inl rfl))) (fun _ _ _ _ _=>ZF) (fun _ _ _ _ _=>(Wr (pv 0)))))) Zu) (@Za _ _ _ _ _ (@Zi _ _ (4) _ _ _ _ Vr.nd rfl (Or.inr rfl) (Zv (Nc:=["_law_part", "_law_spec"]) (ix:=[none,some 0]) (ZA.of (by decide +kernel:ZD (Zb YF) ["_law_spec", "_law_sentence", "_law_many", "_law_word", "_law_parts"] ["_law_part", "_law_spec"] [none,some 0] _=true)) rfl (pi_tupK (K:=K) rfl (@Zn _ _ _ _ _ _ _ (ZB (K:=K) rfl) (pv 1) Zd (fun _ _=>rfl))) (fun _ _ _ _ _=>(Zh (i:=0) (show List.Nodup (["_law_part", "_law_spec"]:List Str) by decide +kernel) rfl (Or.inl rfl))) (fun _ _ _ _ _=>ZF) (fun _ _ _ _ _=>(Zl ao (hr.mono (show _<=2*n+11 by omega)) rfl T.aO T.aG.kp T.aN .nil Zs (@Zr _ _ _ _ _ (pv 1) (@Zc _ _ _ (pv 0) (by rfl)) (by rfl))))) (by rfl) (.inl rfl)) (@Za _ _ _ _ _ (@ZN _ _ _ _ _ _ _ _ (@Zp _ _ _ _ _ _ _ _ ZU (pv 3) Zx (Zw _)) (@Zg _ _ _ (@Zq _ _ _ _ (jQ (Nc:=lI) (ix:=[none,some 4]) (X5.of (by decide +kernel:V7 (Zb YF) ["_law_spec", "_law_sentence", "_law_many", "_law_word", "_law_parts"] ["_law_room", "_law_parts"] [none,some 4] _=true)) rfl (ZM rfl T.ae (@Zc _ _ _ (pv 2) (by rfl))) (fun _ _ _ _ _=>(Zh (i:=0) (show List.Nodup lI by decide +kernel) rfl (by first|exact Or.inl rfl|exact Or.inr rfl))) (fun _ _ _ _ _=>ZF) (fun _ _ _ _ _=>(Zm (X3 (K:=K) rfl rfl) rfl T.hV r6 (@Zc _ _ _ (Zv (Nc:=lQ) (ix:=[none,some 0]) (ZA.ofR (N:=lI) (sc0:=Zb YF) rfl (by decide +kernel)) rfl (ZC (K:=K) rfl (pv 1)) (fun _ _ _ _ _=>(Zh (i:=0) (show List.Nodup lQ by decide +kernel) rfl (Or.inl rfl))) (fun _ _ _ _ _=>ZF) (fun _ _ _ _ _=>(@Zn _ _ _ _ _ _ _ (Zk (K:=K) rfl) (pv 0) (pv 1) (fun _ _=>rfl)))) (by rfl))))))) Zu) (@Zg _ _ _ (@Zq _ _ _ _ (jQ (Nc:=lI) (ix:=[none,some 4]) (X5.of (by decide +kernel:V7 (Zb YF) ["_law_spec", "_law_sentence", "_law_many", "_law_word", "_law_parts"] ["_law_room", "_law_parts"] [none,some 4] _=true)) rfl (ZM rfl T.ae (@Zc _ _ _ (pv 2) (by rfl))) (fun _ _ _ _ _=>(Zh (i:=0) (show List.Nodup lI by decide +kernel) rfl (by first|exact Or.inl rfl|exact Or.inr rfl))) (fun _ _ _ _ _=>ZF) (fun _ _ _ _ _=>(Zm (Wh (K:=K) rfl rfl) rfl T.ij sd (@Zc _ _ _ (Zv (Nc:=lQ) (ix:=[none,some 0]) (ZA.ofR (N:=lI) (sc0:=Zb YF) rfl (by decide +kernel)) rfl (ZC (K:=K) rfl (pv 1)) (fun _ _ _ _ _=>(Zh (i:=0) (show List.Nodup lQ by decide +kernel) rfl (Or.inl rfl))) (fun _ _ _ _ _=>ZF) (fun _ _ _ _ _=>(@Zn _ _ _ _ _ _ _ (Zk (K:=K) rfl) (pv 0) (pv 1) (fun _ _=>rfl)))) (by rfl)))))))))))))))),?_⟩;have n20:=gd.n20;have wl:=gd.wl;obtain⟨b,rfl,rc⟩:=rmc_of hat bk;clear hat;obtain⟨sv0,wv0,stv,fv,nmv,ht,pts⟩:=id sp.ex;obtain⟨wa,wv,rfl,hwa,lw,qw⟩:=id pts.w;obtain⟨sa,sv,rfl,hsa,ls,qs⟩:=id pts.s;have wvl:wv.length=d.signs.length:=by omega
   refine⟨_,rfl,t,_,_,.ref wa,rfl,rfl,rT ht,rfl,.inl ⟨wa,_,rfl,.inl (rS hwa),?_⟩⟩;rw[wvl];cases rc with
   |yes e1 sq=>
    refine⟨_,rfl,b,_,_,_,rfl,rfl,sq,rfl,_,rfl,rfl,_,rfl,YZ rfl ?_⟩;refine⟨sz1,fun L2 h2=>?_⟩;obtain⟨H5a,qN,s5a,e5a⟩:=ZV (o:=.lst [.bl true]) h2;rw[qN];refine⟨_,rfl,L2,_,[.bl true],rfl,rfl,e5a,by omega,by omega,by rw[mY,mN];simp;omega,fun KP h3=>?_⟩;rw[W4];refine k _ KP (s5a.trans (Zj h3)) (s5a.free h3) ?_;rw[so_yes e1];exact Ze
   |sign s e1 sq=>
    refine⟨_,rfl,b,_,_,_,rfl,rfl,sq,rfl,_,rfl,rfl,_,rfl,ZK (fun z=>absurd (V.str.inj z) (by decide +kernel)) ⟨_,rfl,rfl,_,rfl,YZ rfl ?_⟩⟩;refine⟨_,rfl,_,rfl,by omega,by omega,fun Z hZ=>?_⟩;rw[mY];refine Xp (fun r=>V.bl (sgB d s r)) hZ (by rw[mN];omega) ?_ ?_
    ·intro o lo G N sG hN;obtain⟨so,eso,hso⟩:=qs o sv[o] d.signs[o] (mO (by omega)) (mO lo);refine⟨_,rfl,b,_,_,_,rfl,rfl,Zf.seqT sG sq,rfl,_,rfl,t,_,_,.ref sa,rfl,rfl,rT (sG _ _ ht),rfl,_,rfl,sa,_,_,.ref so,rfl,rfl,rS (sG _ _ hsa),Zt (by rw[mO (by omega),eso]),so,_,rfl,.inl (rS (sG _ _ hso)),rfl,sV_flat _,?_⟩;rw[if_neg nh,zU];have:=hN _ (.refl G);unfold sgB at this;rw[mO lo] at this;exact this
    intro G1 eZ s1;refine k G1 Z s1 hZ ?_;rw[so_sign e1];exact eZ
   |qt w u q hw e1 e2 sq au bk1=>
    have ok:WX q.lb q.ks.length:=at_ok au;rcases hw with rfl|rfl
    ·refine⟨_,rfl,b,_,_,_,rfl,rfl,sq,rfl,_,rfl,rfl,_,rfl,ZK (fun z=>absurd (V.str.inj z) (by decide +kernel)) ⟨_,rfl,rfl,_,rfl,ZK (fun z=>absurd (V.str.inj z) (by decide +kernel)) ⟨_,rfl,rfl,_,rfl,YZ rfl ?_⟩⟩⟩;refine⟨_,rfl,_,rfl,b,_,_,u,rfl,rfl,sq,rfl,t,u,d,q,rfl,gd,sp,au.le (oO n),bk1,fun H4 D4 s4 hD4 e4=>k H4 D4 s4 hD4 ?_⟩;rw[so_some e1 e2 ok bk1];exact e4
    ·refine⟨_,rfl,b,_,_,_,rfl,rfl,sq,rfl,_,rfl,rfl,_,rfl,ZK (fun z=>absurd (V.str.inj z) (by decide +kernel)) ⟨_,rfl,rfl,_,rfl,ZK (fun z=>absurd (V.str.inj z) (by decide +kernel)) ⟨_,rfl,rfl,_,rfl,ZK (fun z=>absurd (V.str.inj z) (by decide +kernel)) ⟨_,rfl,rfl,_,rfl,YZ rfl ?_⟩⟩⟩⟩;refine⟨_,rfl,_,rfl,b,_,_,u,rfl,rfl,sq,rfl,t,u,d,q,rfl,gd,sp,au.le (oO n),bk1,fun H4 D4 s4 hD4 e4=>k H4 D4 s4 hD4 ?_⟩;rw[so_all e1 e2 ok bk1];exact e4
   |not u q e1 e2 sq au bk1=>
    refine⟨_,rfl,b,_,_,_,rfl,rfl,sq,rfl,_,rfl,rfl,_,rfl,ZK (fun z=>absurd (V.str.inj z) (by decide +kernel)) ⟨_,rfl,rfl,_,rfl,ZK (fun z=>absurd (V.str.inj z) (by decide +kernel)) ⟨_,rfl,rfl,_,rfl,ZK (fun z=>absurd (V.str.inj z) (by decide +kernel)) ⟨_,rfl,rfl,_,rfl,ZK (fun z=>absurd (V.str.inj z) (by decide +kernel)) ⟨_,rfl,rfl,_,rfl,YZ rfl ?_⟩⟩⟩⟩⟩;refine⟨_,rfl,_,rfl,b,_,_,u,rfl,rfl,sq,rfl,t,u,d,q,rfl,gd,sp,au,bk1,fun H4 D4 s4 hD4 e4=>?_⟩;refine⟨D4,rfl,⟨_,rS e4⟩,fun Z hZ=>Vn hZ e4 n20 fun H5 e5 s5=>?_⟩;refine k H5 Z (s4.trans s5) (s4.free hZ) ?_;rw[so_not e1 e2];exact e5
   |many w qa us hw e1 sq squ aL bks u8=>
    have ul:=aL.1;have hws:∀w0:Str,(w0 = "yes" \/ w0 = "sign" \/ w0 = "some" \/ w0 = "all" \/ w0 = "not")->¬V.str w=V.str w0:=by
     rcases hw with rfl|rfl
     ·rintro w0 (rfl|rfl|rfl|rfl|rfl) z<;>exact absurd (V.str.inj z) (by decide +kernel)
     ·rintro w0 (rfl|rfl|rfl|rfl|rfl) z<;>exact absurd (V.str.inj z) (by decide +kernel)
    refine⟨_,rfl,b,_,_,_,rfl,rfl,sq,rfl,_,rfl,rfl,_,rfl,ZK (hws _ (.inl rfl)) ⟨_,rfl,rfl,_,rfl,ZK (hws _ (.inr (.inl rfl))) ⟨_,rfl,rfl,_,rfl,ZK (hws _ (.inr (.inr (.inl rfl)))) ⟨_,rfl,rfl,_,rfl,ZK (hws _ (.inr (.inr (.inr (.inl rfl))))) ⟨_,rfl,rfl,_,rfl,ZK (hws _ (.inr (.inr (.inr (.inr rfl))))) ?_⟩⟩⟩⟩⟩;clear hws;refine⟨_,rfl,b,_,_,.ref qa,rfl,rfl,sq,rfl,qa,rfl,⟨_,squ⟩,fun D hD=>?_⟩;refine Xy (J:=Itt K qa) (n:=us.length) (fun i σ G=>∃(z:Option V) (ys:List V),σ=[z,some (.ref t)]/\Zf H G/\G D=some (.lst ys)/\ys.length=i/\∀(j:Nat) (v:V) (kt:Tr),ys[j]?=some v->r.ks[j]?=some kt->∃F,v=.ref F/\F≠D/\BL G F d.signs.length (soB d kt)) ?_ ?_ ?_ ?_ ?_
    ·exact⟨_,[],rfl,Zj hD,Ze,rfl,fun j v kt h=>by simp at h⟩
    ·rintro i σ G hi ⟨z,ys,rfl,sG,_⟩;exact⟨_,us[i],Zf.seqT sG squ,mO hi⟩
    ·rintro σ G ⟨z,ys,rfl,sG,_⟩;exact⟨_,Zf.seqT sG squ,mP _⟩
    ·rintro i x σ G0 G hi ⟨z,ys,rfl,sG,eD,yl,q2⟩ ⟨rfl,hx⟩ N N0 hN hN0;have ex:=hx _ (Zf.seqT sG squ);have hi2:i<r.ks.length:=by omega
     have ek:=mO hi2;have at2:=(aL.2 i x _ ex ek).mono (rV sG);have bk2:=bks _ (nk hi2);generalize r.ks[i]=kt at ek at2 bk2;refine⟨_,rfl,_,rfl,t,x,d,kt,rfl,gd,sp.mono sG,at2,bk2,fun G2 F s2 hF eF=>?_⟩;have nF:F≠D:=fun z=>by rw[z,eD] at hF;cases hF
     refine hN _ _ G2 ys (s2 _ _ eD) (by rw[yl,mN];omega) ⟨_,ys++[V.ref F],rfl,((Zf.x (sG.trans s2)).upd).same hD,Ze,by rw[mT,yl];rfl,fun j v kt' h1 h2=>?_⟩
     by_cases hj:j<ys.length
     ·rw[oK hj] at h1;obtain⟨F',e,n',bF⟩:=q2 j v kt' h1 h2;exact⟨F',e,n',(Zy n').trans (s2 _ _ bF)⟩
     ·have ej:j=ys.length:=by
       have:=(nT.mp h1).1;rw[mT,oN] at this;omega
      subst ej;rw[yl,ek] at h2;simp at h1;cases h2;exact⟨F,h1.symm,nF,(Zy nF).trans eF⟩
    rintro σ G ⟨z,ys,rfl,sG,eD,yl,q2⟩;rcases hw with rfl|rfl
    ·refine⟨_,rfl,rfl,_,rfl,YZ rfl ?_⟩;refine⟨_,rfl,_,rfl,by omega,by omega,fun Z hZ=>?_⟩;rw[mY];refine zi (fun x=>V.bl (r.ks.all fun k=>soB d k x)) hZ (by rw[mN];omega) ?_ ?_
     ·intro x hx G1 N sG1 hN;refine⟨_,rfl,D,rfl,⟨_,rS (sG1 _ _ eD)⟩,fun Y hY=>?_⟩;refine ZY (ys.zip r.ks) Prod.fst (fun p=>V.bl (soB d p.2 x)) hY (by rw[List.map_fst_zip (by omega)];exact rS (sG1 _ _ eD)) (by rw[pQ,mN];omega) ?_ ?_
      ·intro p hp G2 N2 sG2 hN2;obtain⟨j,hj,ej⟩:=oH hp;rw[List.getElem_zip] at ej;rw[pQ] at hj;obtain⟨F,eF,_,bF⟩:=q2 j p.1 p.2 (by rw[<- ej,mO (by omega)]) (by rw[<- ej,mO (by omega)]);exact⟨_,rfl,_,rfl,F,_,_,_,eF,rfl,rS (sG2 _ _ (sG1 _ _ bF)),Ym hx,hN2 _ (.refl _)⟩
      intro G2 eY t2;refine⟨Y,(ys.zip r.ks).map fun p=>soB d p.2 x,rfl,rS (by rw[eY,mZ];rfl),?_⟩;have e:((ys.zip r.ks).map fun p=>soB d p.2 x).all id=r.ks.all fun k=>soB d k x:=by
       rw[show(ys.zip r.ks).map (fun p=>soB d p.2 x)=((ys.zip r.ks).map Prod.snd).map (fun k=>soB d k x) by rw[mZ];rfl,List.map_snd_zip (by omega),o3];rfl
      rw[e];exact hN _ t2
     intro G1 eZ s1;refine k G1 Z (sG.trans s1) (sG.free hZ) ?_;rw[so_and e1];exact eZ
    ·refine⟨_,rfl,rfl,_,rfl,ZK (fun z=>absurd (V.str.inj z) (by decide +kernel)) ?_⟩;refine⟨_,rfl,_,rfl,by omega,by omega,fun Z hZ=>?_⟩;rw[mY];refine zi (fun x=>V.bl (r.ks.any fun k=>soB d k x)) hZ (by rw[mN];omega) ?_ ?_
     ·intro x hx G1 N sG1 hN;refine⟨_,rfl,D,rfl,⟨_,rS (sG1 _ _ eD)⟩,fun Y hY=>?_⟩;refine ZY (ys.zip r.ks) Prod.fst (fun p=>V.bl (soB d p.2 x)) hY (by rw[List.map_fst_zip (by omega)];exact rS (sG1 _ _ eD)) (by rw[pQ,mN];omega) ?_ ?_
      ·intro p hp G2 N2 sG2 hN2;obtain⟨j,hj,ej⟩:=oH hp;rw[List.getElem_zip] at ej;rw[pQ] at hj;obtain⟨F,eF,_,bF⟩:=q2 j p.1 p.2 (by rw[<- ej,mO (by omega)]) (by rw[<- ej,mO (by omega)]);exact⟨_,rfl,_,rfl,F,_,_,_,eF,rfl,rS (sG2 _ _ (sG1 _ _ bF)),Ym hx,hN2 _ (.refl _)⟩
      intro G2 eY t2;refine⟨Y,(ys.zip r.ks).map fun p=>soB d p.2 x,rfl,rS (by rw[eY,mZ];rfl),?_⟩;have e:((ys.zip r.ks).map fun p=>soB d p.2 x).any id=r.ks.any fun k=>soB d k x:=by
       rw[show(ys.zip r.ks).map (fun p=>soB d p.2 x)=((ys.zip r.ks).map Prod.snd).map (fun k=>soB d k x) by rw[mZ];rfl,List.map_snd_zip (by omega),oz];rfl
      rw[e];exact hN _ t2
     intro G1 eZ s1;refine k G1 Z (sG.trans s1) (sG.free hZ) ?_;rw[so_or e1];exact eZ
def vW(K:W.Frag)(a:Adr):Sp:=fun vs H Q _=>∃(t:Addr) (s w st f nm:V) (d:WD),vs=[.ref t]/\H t=some (.tup [s,w,st,f,nm])/\X6 H s w st f d/\XR d/\∀H' o,Zf H H'->H o=none->Xb a.C_World H' o d->Q (.ref o) H'
theorem xZ(T:Txt K mg a)(hw:w.params=a.Pm):Ye P w K mg base CX0 8 a._law_made a.cD ["_law_spec"] (vW K a):=by
 have ee:=Uz (P:=P) (w:=w) (base:=base) T hw;refine T.dq.ok X1 (fun vs H Q E h=>?_) (fun lD A outer s H vs Q E hr h=>?_)
 ·obtain⟨t,s,w,st,f,nm,d,rfl,_⟩:=h;rfl
 ·obtain⟨t,sv,wv,stv,fv,nm,d,rfl,ht,pts,gd,k⟩:=h;refine⟨_,(@Za _ _ _ _ _ (yD (pv 0) (VE (K:=K) (n:=5) rfl rfl (Z8 (Zh (i:=1) X1.nd rfl (Or.inl rfl)) (Z8 (Zh (i:=2) X1.nd rfl (Or.inl rfl)) (Z8 (Zh (i:=3) X1.nd rfl (Or.inl rfl)) (Z8 (Zh (i:=4) X1.nd rfl (Or.inl rfl)) (Z8 (Zh (i:=5) X1.nd rfl (Or.inl rfl)) Vc))))))) (@Zg _ _ _ (@Zq _ _ _ _ (zM T.io ee (hr.mono (by decide)) rfl T.iP T.dQ .nil Zs (@Z0 _ _ _ _ _ (Zv (Nc:=lR) (ix:=[none]) (ZA.of (by decide +kernel:ZD (Zb Xl) ["_law_spec", "_law_signs", "_law_ways", "_law_starts", "_law_fair", "_law_names_here"] ["_law_one"] [none] _=true)) rfl (ZC (K:=K) rfl (pv 1)) (fun _ _ _ _ _=>(Zh (i:=0) (show List.Nodup lR by decide +kernel) rfl (Or.inl rfl))) (fun _ _ _ _ _=>ZF) (fun _ _ _ _ _=>(ZQ (YJ (K:=K) rfl rfl) rfl T.bT rX (@Zc _ _ _ (pv 0) (by rfl))))) (@Z0 _ _ _ _ _ (Zv (Nc:=lR) (ix:=[none]) (ZA.of (by decide +kernel:ZD (Zb Xl) ["_law_spec", "_law_signs", "_law_ways", "_law_starts", "_law_fair", "_law_names_here"] ["_law_one"] [none] _=true)) rfl (ZC (K:=K) rfl (pv 2)) (fun _ _ _ _ _=>(Zh (i:=0) (show List.Nodup lR by decide +kernel) rfl (Or.inl rfl))) (fun _ _ _ _ _=>ZF) (fun _ _ _ _ _=>(ZQ (YJ (K:=K) rfl rfl) rfl T.bT rX (@Zc _ _ _ (pv 0) (by rfl))))) (@Z0 _ _ _ _ _ (ZQ (YJ (K:=K) rfl rfl) rfl T.bT rX (@Zc _ _ _ (pv 3) (by rfl))) (@Xk _ _ _ (ZQ (YJ (K:=K) rfl rfl) rfl T.bT rX (@Zc _ _ _ (pv 4) (by rfl))) (by rfl)) (by rfl)) (by rfl)) (by rfl)))))),?_⟩;refine⟨_,rfl,t,_,rfl,rT ht,rfl,_,_,rfl,_,_,rfl,_,_,rfl,_,_,rfl,_,_,rfl,rfl,?_⟩;obtain⟨S,zs,rfl,hS,ezs,qs⟩:=pts.s.z;obtain⟨W,zw,rfl,hW,ezw,qw⟩:=pts.w.z;obtain⟨ST,rfl,hST⟩:=pts.st;obtain⟨F,rfl,hF⟩:=pts.f;have n20:=gd.n20;have wl:=gd.wl;have lzs:zs.length=d.signs.length:=by rw[<- ezs,mM]
  have lzw:zw.length=d.ways.length:=by rw[<- ezw,mM]
  refine⟨_,rfl,S,rfl,⟨_,rS hS⟩,fun D1 hD1=>?_⟩;refine Ui zs Prod.fst (fun x=>x.2.map V.str) hD1 (rS hS) (by rw[mN];omega) ?_ ?_
  ·intro x hx G N sG hN;obtain⟨c,ec,gc⟩:=qs x hx;rw[ec];refine⟨_,rfl,.inl ⟨c,_,rfl,.inl (rS (sG _ _ gc)),fun l hl=>hN l _ (Zj hl) hl Ze⟩⟩
  intro H1 z1 e1 s1 ez1 q1;refine⟨_,rfl,W,rfl,⟨_,rS (s1 _ _ hW)⟩,fun D2 hD2=>?_⟩;refine Ui zw Prod.fst (fun x=>x.2.map V.int) hD2 (rS (s1 _ _ hW)) (by rw[mN];omega) ?_ ?_
  ·intro x hx G N sG hN;obtain⟨c,ec,gc⟩:=qw x hx;rw[ec];refine⟨_,rfl,.inl ⟨c,_,rfl,.inl (rS ((s1.trans sG) _ _ gc)),fun l hl=>hN l _ (Zj hl) hl Ze⟩⟩
  intro H2 z2 e2 s2 ez2 q2;have s12:=s1.trans s2;refine⟨_,rfl,.inl ⟨ST,_,rfl,.inl (rS (s12 _ _ hST)),fun L3 hL3=>?_⟩⟩;obtain⟨H3,qN,s3,e3⟩:=ZV (o:=.lst (d.starts.map V.int)) hL3;rw[qN];refine⟨_,rfl,.inl ⟨F,_,rfl,.inl (rS ((s12.trans s3) _ _ hF)),fun L4 hL4=>?_⟩⟩;obtain⟨H4,qN,s4,e4⟩:=ZV (o:=.lst (d.fair.map V.str)) hL4;rw[qN];have s14:=s12.trans (s3.trans s4);intro o dw no ndw new;have sm:Zf H4 (upd (upd H4 dw (.own o)) o (.ins a.C_World dw [])):=(Zj ndw).trans (Zj (by rw[Zy (nN new)];exact no));have pp:X6 H4 (.ref D1) (.ref D2) (.ref L3) (.ref L4) d:=by
   have g1:=RL.ls (f:=Prod.snd) (H:=H4) ((s2.trans (s3.trans s4)) _ _ e1) ez1 fun x hx=>let ⟨c,ec,gc⟩:=q1 x hx; ⟨c,ec,(s2.trans (s3.trans s4)) _ _ (New.of gc).2⟩
   have g2:=RL.li (f:=Prod.snd) (H:=H4) ((s3.trans s4) _ _ e2) ez2 fun x hx=>let ⟨c,ec,gc⟩:=q2 x hx; ⟨c,ec,(s3.trans s4) _ _ (New.of gc).2⟩
   rw[ezs] at g1;rw[ezw] at g2;exact⟨g1,g2,⟨L3,rfl,s4 _ _ e3⟩,⟨L4,rfl,e4⟩⟩
  exact⟨o,dw,_,_,_,_,d,rfl,Ze,pp.mono sm,gd,fun H5 x5 wa=>⟨rfl,k _ o (fun b u e=>x5 b u (ZZ (s14 _ _ e) no) (sm b u (s14 _ _ e))) (s14.free no) wa⟩⟩
theorem same_past{H H1 H2:Hp}{s:Addr}(u:Zf H H1)(h:H s=none)(x:ZJ s H1 H2):Zf H H2:=fun b o e=>x _ _ (fun z=>by rw[z,h] at e;cases e) (u _ _ e)
def lh(K:W.Frag)(a:Adr):Sp:=fun vs H Q _=>∃(p:Addr) (ns:List Int),vs=[.ref p]/\SqL K H p (ns.map V.int)/\ns.length<=63/\∀H',Q (.bl true) H'
theorem lj(T:Txt K mg a)(hw:w.params=a.Pm):Ye P w K mg base CX0 29 a.law a.iU lX (lh K a):=by
 have iA:=jR (P:=P) (w:=w) (base:=base) T hw;have bv:=UA (P:=P) (w:=w) (base:=base) T hw;have aM:=VL (P:=P) (w:=w) (base:=base) T hw;have bE:=W5 (P:=P) (w:=w) (base:=base) T hw;have iJ:=yL (P:=P) (w:=w) (base:=base) T hw;have g7:=xZ (P:=P) (w:=w) (base:=base) T hw;have aH:=yj (P:=P) (w:=w) (base:=base) T hw 4;have ai:=Wu (P:=P) (w:=w) (base:=base) T hw;have ao:=kG (P:=P) (w:=w) (base:=base) T hw 9;have iK:=yQ (P:=P) (w:=w) (base:=base) T hw;have g9:=qO (P:=P) (w:=w) (base:=base) T hw;refine T.la.ok WE (fun vs H Q E h=>?_) (fun lD A outer s H vs Q E hr h=>?_)
 ·obtain⟨p,ns,rfl,_⟩:=h;rfl
 ·obtain⟨p,cs,rfl,hq,hz,k⟩:=h;refine⟨_,(@Za _ _ _ _ _ (@ZN _ _ _ _ _ _ _ _ (@Wa _ _ _ _ (XG (Zl g9 (hr.mono (by decide)) rfl T.d7 T.cn.kp T.d6 .nil Zs (@Zc _ _ _ (Zl aM (hr.mono (by decide)) rfl T.aJ T.aB.kp T.aI .nil Zs (@Zr _ _ _ _ _ (pv 0) (@Zc _ _ _ Zd (by rfl)) (by rfl))) (by rfl))))) (@Zg _ _ _ (@Zq _ _ _ _ Wv)) Zu) (@Za _ _ _ _ _ (@Zi _ _ (1) _ _ _ _ WE.nd rfl (Or.inl rfl) (Zl iJ (hr.mono (by decide)) rfl T.gu T.d0.kp T.gr .nil Zs (@Zc _ _ _ (pv 0) (by rfl))) (by rfl) (.inl rfl)) (@Za _ _ _ _ _ (@Zi _ _ (2) _ _ _ _ WE.nd rfl (Or.inl rfl) (Zl g7 (hr.mono (by decide)) rfl T.fu T.dq.kp T.ft .nil Zs (@Zc _ _ _ (pv 1) (by rfl))) (by rfl) (.inl rfl)) (@Za _ _ _ _ _ (@Zi _ _ (3) _ _ _ _ WE.nd rfl (Or.inl rfl) (Zl bE (hr.mono (by decide)) rfl T.ce T.bC.kp T.cc .nil Zs (@Zr _ _ _ _ _ (Zl aM (hr.mono (by decide)) rfl T.aJ T.aB.kp T.aI .nil Zs (@Zr _ _ _ _ _ (pv 0) (@Zc _ _ _ Zd (by rfl)) (by rfl))) (@Zc _ _ _ Zd (by rfl)) (by rfl))) (by rfl) (.inl rfl)) (@Za _ _ _ _ _ (@Zi _ _ (4) _ _ _ _ WE.nd rfl (Or.inl rfl) (Zl aH (hr.mono (by decide)) rfl T.aE T.aA.kp T.aD .nil Zs (@Z0 _ _ _ _ _ (@Zn _ _ _ _ _ _ _ (ZB (K:=K) rfl) (pv 1) Zd (fun _ _=>rfl)) (@Z0 _ _ _ _ _ (pv 3) (@Xk _ _ _ Zd (by rfl)) (by rfl)) (by rfl))) (by rfl) (.inl rfl)) (@Za _ _ _ _ _ (@Zi _ _ (5) _ _ _ _ WE.nd rfl (Or.inl rfl) (Zl aH (hr.mono (by decide)) rfl T.aE T.aA.kp T.aD .nil Zs (@Z0 _ _ _ _ _ (@Zn _ _ _ _ _ _ _ (ZB (K:=K) rfl) (pv 1) Zd (fun _ _=>rfl)) (@Z0 _ _ _ _ _ (pv 3) (@Xk _ _ _ Zd (by rfl)) (by rfl)) (by rfl))) (by rfl) (.inl rfl)) (@Za _ _ _ _ _ (@Zi _ _ (6) _ _ _ _ WE.nd rfl (Or.inl rfl) (Zl iK (hr.mono (by decide)) rfl T.gz T.d5.kp T.gx .nil Zs (@Z0 _ _ _ _ _ (pv 1) (@Z0 _ _ _ _ _ (Zl ao (hr.mono (by decide)) rfl T.aO T.aG.kp T.aN .nil Zs (@Zr _ _ _ _ _ (pv 1) (@Zc _ _ _ (pv 4) (by rfl)) (by rfl))) (@Xk _ _ _ (Zl ao (hr.mono (by decide)) rfl T.aO T.aG.kp T.aN .nil Zs (@Zr _ _ _ _ _ (pv 1) (@Zc _ _ _ (pv 5) (by rfl)) (by rfl))) (by rfl)) (by rfl)) (by rfl))) (by rfl) (.inl rfl)) (@Za _ _ _ _ _ (@Zi _ _ (7) _ _ _ _ WE.nd rfl (Or.inr rfl) (Zl ai (hr.mono (by decide)) rfl T.az T.ah.kp T.aq .nil Zs (@Zr _ _ _ _ _ (pv 1) (@Zc _ _ _ (@Zz _ _ _ _ _ _ _ _ qY (@ZW _ _ _ _ (@Zc _ _ _ Wv (by rfl))) (Zm (ZI (K:=K) rfl) rfl T.aX rW (@Zc _ _ _ (@Zn _ _ _ _ _ _ _ (ZB (K:=K) rfl) (pv 1) Zd (fun _ _=>rfl)) (by rfl)))) (by rfl)) (by rfl))) (by rfl) (.inl rfl)) (@Za _ _ _ _ _ (Wj (i:=8) WE.nd rfl rfl (Nc:=["_law_room", "_law_fair"]) (ix:=[none,some 7]) (ZA.of (by decide +kernel:ZD (Zb zh) ["_law_script", "_law_spec", "_law_world_here", "_law_xs", "_law_one", "_law_other", "_law_due", "_law_fair", "_law_rooms", "_law_told", "_law_found"] ["_law_room", "_law_fair"] [none,some 7] _=true)) rfl (ZM rfl T.ae (@Zc _ _ _ (Zm (ZI (K:=K) rfl) rfl T.aX rW (@Zc _ _ _ (pv 7) (by rfl))) (by rfl))) (fun _ _ _ _ _=>(Zh (i:=0) (show List.Nodup (["_law_room", "_law_fair"]:List Str) by decide +kernel) rfl (Or.inl rfl))) (fun _ _ _ _ _=>(WI (XG (@Zn _ _ _ _ _ _ _ (Zk (K:=K) rfl) (pv 1) (pv 0) (fun _ _=>rfl))))) (fun _ _ _ _ _=>(pv 0))) (Vo (@ZN _ _ _ _ _ _ _ _ (PW.pt (vK (@Zp _ _ _ _ _ _ _ _ ZU (@Zz _ _ _ _ _ _ _ _ Y2 (Zl aM (hr.mono (by decide)) rfl T.aJ T.aB.kp T.aI .nil Zs (@Zr _ _ _ _ _ (pv 0) (@Zc _ _ _ Zd (by rfl)) (by rfl))) Zd) Zd (Zw _)) (zO (@Zp _ _ _ _ _ _ _ _ (qg (K:=K) rfl (Xx.units hr)) (Zl bv (hr.mono (by decide)) rfl T.bu T.aY.kp T.bt .nil Zs (@Zc _ _ _ (Zl g7 (hr.mono (by decide)) rfl T.fu T.dq.kp T.ft .nil Zs (@Zc _ _ _ (pv 1) (by rfl))) (by rfl))) (pv 8) (Zw _))))) (@Zg _ _ _ (@Zq _ _ _ _ Wv)) Zu) (@Za _ _ _ _ _ (@Zi _ _ (9) _ _ _ _ WE.nd rfl (Or.inl rfl) pe_non (by rfl) (.inl rfl)) (Vo (@ZN _ _ _ _ _ _ _ _ (@Zp _ _ _ _ _ _ _ _ ZU (@Zz _ _ _ _ _ _ _ _ Y2 (@Zz _ _ _ _ _ _ _ _ Vd (Zl aM (hr.mono (by decide)) rfl T.aJ T.aB.kp T.aI .nil Zs (@Zr _ _ _ _ _ (pv 0) (@Zc _ _ _ Zd (by rfl)) (by rfl))) Zd) Zd) Zd (Zw _)) (@Zg _ _ _ (@Zi _ _ (9) _ _ _ _ WE.nd rfl (Or.inl rfl) (Zl bv (hr.mono (by decide)) rfl T.bu T.aY.kp T.bt .nil Zs (@Zc _ _ _ (pv 2) (by rfl))) (by rfl) (.inl rfl))) Zu) (@Za _ _ _ _ _ (@Zi _ _ (10) _ _ _ _ WE.nd rfl (Or.inl rfl) (Zl iA (hr.mono (by decide)) rfl T.ii T.gL.kp T.ig .nil Zs (@Z0 _ _ _ _ _ (pv 2) (@Z0 _ _ _ _ _ (pv 4) (@Xk _ _ _ (pv 5) (by rfl)) (by rfl)) (by rfl))) (by rfl) (.inl rfl)) (Vo (@ZN _ _ _ _ _ _ _ _ (@Zp _ _ _ _ _ _ _ _ op_isN (pv 9) pe_non (Zw _)) (@Zg _ _ _ (@Zi _ _ (9) _ _ _ _ WE.nd rfl (Or.inl rfl) (Zl bv (hr.mono (by decide)) rfl T.bu T.aY.kp T.bt .nil Zs (@Zc _ _ _ (pv 2) (by rfl))) (by rfl) (.inl rfl))) Zu) (@Za _ _ _ _ _ (@ZN _ _ _ _ _ _ _ _ (PW.pt (U8 (@Zp _ _ _ _ _ _ _ _ (op_neK (Xx.units0 hr)) (pv 10) (pv 6) (Zw _)) (V0 (@Zp _ _ _ _ _ _ _ _ (qg (K:=K) rfl (Xx.units hr)) (pv 9) (pv 8) (Zw _))))) (@Zg _ _ _ (@Zq _ _ _ _ Wv)) Zu) (@Za _ _ _ _ _ (@Xc _ _ _ _ (qE PySem.F.plainAttrs_dict PySem.F.slot_dict_clear PySem.F.type_dict_clear mt_clearD (pv 10)) (by rfl)) (@Za _ _ _ _ _ (@Xc _ _ _ _ (WT nS oh oi Yg (pv 9) (@Zc _ _ _ Zd (by rfl))) (by rfl)) (@Zg _ _ _ (@Zq _ _ _ _ (YD (@YQ _ _ _ _ _ _ _ _ (op_eqK (Xx.units0 hr)) (Zl iA (hr.mono (by decide)) rfl T.ii T.gL.kp T.ig .nil Zs (@Z0 _ _ _ _ _ (pv 2) (@Z0 _ _ _ _ _ (pv 4) (@Xk _ _ _ (pv 5) (by rfl)) (by rfl)) (by rfl))) (pv 6) (Zw _)) (Yr (@YQ _ _ _ _ _ _ _ _ (qc (K:=K) rfl (Xx.units hr)) (Zl bv (hr.mono (by decide)) rfl T.bu T.aY.kp T.bt .nil Zs (@Zc _ _ _ (pv 2) (by rfl))) (pv 8) (Zw _))))))))))))))))))))))),?_⟩;refine⟨_,rfl,p,cs,3,rfl,hq,fun n3=>⟨n3,rfl,fun H0 s0=>⟨_,rfl,Z6 ?_⟩⟩⟩;have hq0:=s0.seq hq;refine⟨_,rfl,p,cs,rfl,hq0,fun H1 t s w st f nm d nn s1 ht pv gd hnm ln nnm=>?_⟩;refine⟨_,rfl,t,s,w,st,f,.ref nm,d,rfl,ht,pv,gd,fun H2 o s2 o0 wa=>?_⟩;have n20:=gd.n20;have wl:=gd.wl;have sp2:zB H2 t d:=⟨⟨s,w,st,f,.ref nm,s2 _ _ ht,pv.mono s2⟩⟩;have ht2:=s2 _ _ ht;have pv2:=pv.mono s2;have hnm2:=s2 _ _ hnm;have hq2:=(s1.trans s2).seq hq0;clear ht hnm pv hq s1 s2 o0 hq0 s0;refine⟨_,rfl,p,cs,2,rfl,hq2,fun n2=>⟨n2,40,rfl,by decide,fun H3 X xs s3 X0 hX lx=>?_⟩⟩;have nX:nm≠X:=fun z=>by rw[<- z,hnm2] at X0;cases X0
  have ntX:t≠X:=fun z=>by rw[<- z,ht2] at X0;cases X0
  have ht3:=s3 _ _ ht2;have hnm3:=s3 _ _ hnm2;refine⟨_,rfl,t,_,_,_,rfl,rfl,rT ht3,Zt (j:=4) rfl,_,rfl,nm,X,nn,xs,2,rfl,by decide,by decide,hnm3,ln,nnm,nX,hX,fun H4 v1 t1 xs4 x4 hX4 at1 gz1 bk1=>?_⟩;have ht4:=x4 _ _ ntX ht3;have hnm4:=x4 _ _ nX hnm3;refine⟨_,rfl,t,_,_,_,rfl,rfl,rT ht4,Zt (j:=4) rfl,_,rfl,nm,X,nn,xs4,2,rfl,by decide,by decide,hnm4,ln,nnm,nX,hX4,fun H5 v2 t2 xs5 x5 hX5 at2 gz2 bk2=>?_⟩;have gz1:(post t1).length<=125:=gz1;have gz2:(post t2).length<=125:=gz2;have s25:Zf H2 H5:=same_past s3 X0 (x4.trans x5);have at1:=at1.mono (ZJ.tup x5 hX4);have sp5:=sp2.mono s25;clear s3 X0 hX lx nX ntX ht3 hnm3 ht4 hnm4 x4 hX4 x5 hX5;refine⟨_,rfl,_,rfl,_,rfl,t,v1,d,t1,rfl,gd,sp5,at1.le (by decide),bk1,fun H6 B1 s6 hB1 eB1=>?_⟩;have sp6:=sp5.mono s6;refine⟨_,rfl,_,rfl,t,v2,d,t2,rfl,gd,sp6,(at2.mono (rV s6)).le (by decide),bk2,fun H7 B2 s7 hB2 eB2=>?_⟩;refine⟨t,B1,B2,d,soB d t1,soB d t2,rfl,gd,sp6.mono s7,s7 _ _ eB1,eB2,fun H8 DU rsU fU s8 hDU eDU tiU=>?_⟩;have s58:=s6.trans (s7.trans s8);have s28:=s25.trans s58;clear s6 hB1 eB1 s7 hB2 eB2 s8 hDU sp6 sp5;refine⟨_,rfl,sz1,fun L0 h0=>?_⟩;obtain⟨H9,qN,s9,e9⟩:=ZV (o:=.lst [.bl true]) h0;rw[qN];obtain⟨wa',wv,rfl,hwa,lw,qw⟩:=id pv2.w;have wvl:wv.length=d.signs.length:=by omega
  refine⟨_,rfl,t,_,_,.ref wa',rfl,rfl,rT ((s28.trans s9) _ _ ht2),rfl,.inl ⟨wa',_,rfl,.inl (rS ((s28.trans s9) _ _ hwa)),?_⟩⟩;rw[wvl];refine⟨L0,_,[.bl true],rfl,rfl,e9,by omega,by omega,by rw[mY,mN];simp;omega,fun L1 h1=>?_⟩;rw[W4];obtain⟨H10,qN,s10,e10⟩:=ZV (o:=.lst ((List.range d.signs.length).map fun r=>V.bl ((fun _:Nat=>true) r))) h1;rw[qN];have s8a:=s9.trans s10;refine⟨t,L1,d,fun _=>true,rfl,gd,sp2.mono (s28.trans s8a),e10,fun H11 FA s11 hFA eFA=>?_⟩;have eFA':BL H11 FA d.signs.length (faB d):=eFA;refine⟨_,rfl,.inl ⟨FA,_,rfl,.inl (rS eFA'),?_⟩⟩;rw[V5];refine⟨_,rfl,by omega,by omega,fun RM hRM=>?_⟩;rw[mY];refine qL (faB d) (fun r=>V.int (r:Nat)) hRM (by rw[mN];omega) ?_ ?_
  ·intro r hr F N N0 sF h1 h2;exact⟨_,rfl,_,rfl,FA,_,_,_,rfl,rfl,rS (sF _ _ eFA'),Ym hr,_,rfl,XS (fun c=>⟨_,rfl,h1 _ (.refl _) c⟩) (fun c=>h2 _ (.refl _) (by simpa using c))⟩
  intro H12 eRM s12;rw[XD] at eRM;have s8c:=s8a.trans (s11.trans s12);have s2c:=s28.trans s8c;have s5c:=s58.trans s8c;have eDUc:=s8c _ _ eDU;have at1c:=at1.mono (rV s5c);have at2c:=at2.mono (rV s5c);clear s9 e9 s10 e10 s8a s11 hFA eFA eFA' h0 h1 hRM s12 s58 s28 s8c s5c eDU at1 at2 hwa lw qw wvl s25;have nDR:DU≠RM:=fun z=>by rw[z,eRM] at eDUc;cases eDUc
  refine⟨fun σ F=>σ=[some (.ref p),some (.ref t),some (.ref o),some (.ref X),some v1,some v2,some (.ref DU),some (.ref FA),some (.ref RM),none,none]/\Zf H12 F,?_,?_⟩
  ·refine⟨_,rfl,p,cs,3,rfl,s2c.seq hq2,fun n4=>⟨_,_,rfl,rfl,by decide,rfl,_,rfl,XS (fun c=>?_) (fun c=>Z6 ⟨rfl,.refl _⟩)⟩⟩;refine⟨_,rfl,t,s,.ref wa',st,f,.ref nm,d,rfl,s2c _ _ ht2,pv2.mono s2c,gd,fun F1 o2 u1 o20 wa2=>?_⟩;refine⟨o2,d,rfl,wa2,gd,fun F2 L u2 hL eL=>?_⟩;rw[XD] at eL;exact⟨_,rfl,neD_no (zo _) (by decide) (LI.dp ⟨L,rfl,eL⟩) (LI.dp ⟨RM,rfl,(u1.trans u2) _ _ eRM⟩) ⟨_,rfl,Z6 ⟨rfl,u1.trans u2⟩⟩⟩
  rintro σ F0 ⟨rfl,s0⟩;refine⟨fun σ F=>∃z9:V,σ=[some (.ref p),some (.ref t),some (.ref o),some (.ref X),some v1,some v2,some (.ref DU),some (.ref FA),some (.ref RM),some z9,none]/\Zf H12 F/\(z9=.non\/∃TD,z9=.ref TD/\H12 TD=none/\F TD=some (.lst ((((List.range d.signs.length).filter (faB d)).map fun r:Nat=>(r:Int)).map V.int))),?_,?_⟩
  ·refine⟨_,rfl,p,cs,3,rfl,(s2c.trans s0).seq hq2,fun n4=>⟨_,_,rfl,rfl,⟨by decide,by decide⟩,_,_,rfl,rfl,by decide,rfl,_,rfl,XS (fun c=>?_) (fun c=>⟨.non,rfl,s0,.inl rfl⟩)⟩⟩;refine⟨_,rfl,o,d,rfl,wa.mono (s2c.trans s0),gd,fun F2 L u2 hL eL=>?_⟩;rw[XD] at eL;exact⟨.ref L,rfl,s0.trans u2,.inr ⟨L,rfl,s0.free hL,eL⟩⟩
  rintro σ F1 ⟨z9,rfl,s1,hz9⟩;have t1c:=rV s1;refine⟨_,rfl,_,rfl,_,rfl,o,d,v1,v2,_,t1,t2,rfl,wa.mono (s2c.trans s1),gd,at1c.mono t1c,at2c.mono t1c,by omega,by omega,bk1,bk2,fun F2 FO rsO fO s2 hFO eFO tiO=>?_⟩;have hs:=tiO.same tiU;have w2:=wa.mono (s2c.trans (s1.trans s2));have s12:=s1.trans s2;have hFO12:=s1.free hFO;refine⟨fun σ F=>∃TD:Addr,σ=[some (.ref p),some (.ref t),some (.ref o),some (.ref X),some v1,some v2,some (.ref DU),some (.ref FA),some (.ref RM),some (.ref TD),some (.ref FO)]/\Zf F2 F/\H12 TD=none/\F TD=some (.lst ((((List.range d.signs.length).filter (faB d)).map fun r:Nat=>(r:Int)).map V.int)),?_,?_⟩
  ·refine⟨_,rfl,rfl,_,rfl,XS (fun c=>?_) (fun c=>?_)⟩
   ·refine⟨_,rfl,o,d,rfl,w2,gd,fun F3 L u3 hL eL=>?_⟩;rw[XD] at eL;exact⟨L,rfl,u3,s12.free hL,eL⟩
   ·rcases hz9 with rfl|⟨TD,rfl,h1,h2⟩
    ·exact absurd (nG rfl) c
    ·exact⟨TD,rfl,.refl _,h1,s2 _ _ h2⟩
  rintro σ F ⟨TD,rfl,s3,hTD,eTD⟩;have eFO3:=s3 _ _ eFO;have s13:=s12.trans s3;have nTF:TD≠FO:=fun z=>by rw[z,eFO3] at eTD;cases eTD
  refine⟨_,rfl,_,rfl,FO,DU,_,_,rfl,rfl,eFO3,s13 _ _ eDUc,hs.1,hs.2,_,rfl,Z6 ⟨_,rfl,_,rfl,neD_no (zo _) (by decide) (LI.dp ⟨TD,rfl,eTD⟩) (LI.dp ⟨RM,rfl,s13 _ _ eRM⟩) ⟨_,rfl,Z6 ?_⟩⟩⟩;have fl:=VH (n:=d.signs.length) (faB d);refine⟨_,rfl,.inr (.inr (.inl ⟨rfl,.inl ⟨_,eFO3⟩⟩)),FO,_,rfl,rfl,eFO3,?_⟩;have sA:Zf H12 (upd F FO (.dK [])):=((Zf.x s13).upd).same hFO12;have eTA:(upd F FO (.dK [])) TD=_:=(Zy nTF).trans eTD;generalize upd F FO (.dK [])=G0 at sA eTA ⊢;refine⟨_,rfl,.inl ⟨rfl,_,rS eTA⟩,TD,_,_,rfl,rfl,eTA,by rw[mM,mN];omega,?_⟩;have sB:=((Zf.x sA).upd (o:=.lst ((((List.range d.signs.length).filter (faB d)).map fun r:Nat=>(r:Int)).map V.int++[.int 99]))).same hTD;generalize upd G0 TD (.lst ((((List.range d.signs.length).filter (faB d)).map fun r:Nat=>(r:Int)).map V.int++[.int 99]))=G1 at sB ⊢;have tB:=rV sB;refine⟨_,rfl,_,rfl,_,rfl,o,d,v1,v2,_,t1,t2,rfl,wa.mono (s2c.trans sB),gd,at1c.mono tB,at2c.mono tB,by omega,by omega,bk1,bk2,fun G2 L1 rs1 f1 u1 hL1 eL1 ti1=>?_⟩;have hs1:=ti1.same tiU;refine⟨_,rfl,L1,DU,_,_,rfl,rfl,eL1,(sB.trans u1) _ _ eDUc,hs1.1,hs1.2,_,rfl,YM ?_⟩;refine⟨_,rfl,o,d,rfl,wa.mono (s2c.trans (sB.trans u1)),gd,fun G3 L2 u2 hL2 eL2=>?_⟩;rw[XD] at eL2;exact⟨_,rfl,eqD_yes (zo _) (by decide) (LI.dp ⟨L2,rfl,eL2⟩) (LI.dp ⟨RM,rfl,(sB.trans (u1.trans u2)) _ _ eRM⟩) (k _)⟩
theorem ar1{α:Type}{P:List α->Prop}(h:∀a,P [a]):∀us:List α,us.length=1->P us
 |[a],_=>h a
theorem ar2{α:Type}{P:List α->Prop}(h:∀a b,P [a,b]):∀us:List α,us.length=2->P us
 |[a,b],_=>h a b
theorem ar3{α:Type}{P:List α->Prop}(h:∀a b c,P [a,b,c]):∀us:List α,us.length=3->P us
 |[a,b,c],_=>h a b c
theorem ar4{α:Type}{P:List α->Prop}(h:∀a b c d,P [a,b,c,d]):∀us:List α,us.length=4->P us
 |[a,b,c,d],_=>h a b c d
theorem ar5{α:Type}{P:List α->Prop}(h:∀a b c d e,P [a,b,c,d,e]):∀us:List α,us.length=5->P us
 |[a,b,c,d,e],_=>h a b c d e
def spL(K:W.Frag):Sp:=fun vs H Q _=>∃(p:Addr) (ns:List Int),vs=[.ref p]/\SqL K H p (ns.map V.int)/\ns.length<=63/\∀H',Q (.bl true) H'
theorem all_mk{l:W.OpenLaw}{w:World}{K:W.Frag}{h:Heap}{mg:Str->Option Value}{fa:Addr}(X:K.In h)(G:h.Ns mainGlobals mg)(hfa:mg "law" = some (.ref fa))
  {f0 f1 f2 f3 f4 f5 f6 f7 f8 f9 f10 f11 f12 f13 f14 f15 f16 f17 f18 f19 f20 f21 f22 f23 f24 f25 f26 f27 f28 f29 f30 f31 f32 f33 f34 f35 f36 f37 f38 f39 f40 f41 f42 f43 f44 f45 f46 f47 f48 f49:Addr}
  {C_Sets C_World C_TimeError C_BadWorld C_BadSentence C_NoBranch:Addr}
  {od0 an0 od1 an1 od2 an2 od3 an3 od4 an4 od5 an5 od6 an6 od7 an7 od8 an8 od9 an9 od10 an10 od11 an11 od12 an12 od13 an13 od14 an14 od15 an15 od16 an16 od17 an17 od18 an18 od19 an19 od20 an20 od21 an21 od22 an22 od23 an23 od24 an24 od25 an25 od26 an26 od27 an27 od28 an28 od29 an29 od30 an30 od31 an31 od32 an32 od33 an33 od34 an34 od35 an35 od36 an36 od37 an37 od38 an38 od39 an39 od40 an40 od41 an41 od42 an42 od43 an43 od44 an44 od45 an45 od46 an46 od47 an47 od48 an48 od49 an49:Option Addr}
  {sl0 sl1 sl2 sl3 sl4 sl5 sl6 sl7 sl8 sl9 sl10 sl11 sl12 sl13 sl14 sl15 sl16 sl17 sl18 sl19 sl20 sl21 sl22 sl23 sl24 sl25 sl26 sl27 sl28 sl29 sl30 sl31 sl32 sl33 sl34 sl35 sl36 sl37 sl38 sl39 sl40 sl41 sl42 sl43 sl44 sl45 sl46 sl47 sl48 sl49:Array (Option Value)}
  {oc0 kV0 dc0 pm0 cd0 ct0 oc1 kV1 dc1 pm1 cd1 ct1 oc2 kV2 dc2 pm2 cd2 ct2 oc3 kV3 dc3 pm3 cd3 ct3 oc4 kV4 dc4 pm4 cd4 ct4 oc5 kV5 dc5 pm5 cd5 ct5 oc6 kV6 dc6 pm6 cd6 ct6 oc7 kV7 dc7 pm7 cd7 ct7 oc8 kV8 dc8 pm8 cd8 ct8 oc9 kV9 dc9 pm9 cd9 ct9 oc10 kV10 dc10 pm10 cd10 ct10 oc11 kV11 dc11 pm11 cd11 ct11 oc12 kV12 dc12 pm12 cd12 ct12 oc13 kV13 dc13 pm13 cd13 ct13 oc14 kV14 dc14 pm14 cd14 ct14 oc15 kV15 dc15 pm15 cd15 ct15 oc16 kV16 dc16 pm16 cd16 ct16 oc17 kV17 dc17 pm17 cd17 ct17 oc18 kV18 dc18 pm18 cd18 ct18 oc19 kV19 dc19 pm19 cd19 ct19 oc20 kV20 dc20 pm20 cd20 ct20 oc21 kV21 dc21 pm21 cd21 ct21 oc22 kV22 dc22 pm22 cd22 ct22 oc23 kV23 dc23 pm23 cd23 ct23 oc24 kV24 dc24 pm24 cd24 ct24 oc25 kV25 dc25 pm25 cd25 ct25 oc26 kV26 dc26 pm26 cd26 ct26 oc27 kV27 dc27 pm27 cd27 ct27 oc28 kV28 dc28 pm28 cd28 ct28 oc29 kV29 dc29 pm29 cd29 ct29 oc30 kV30 dc30 pm30 cd30 ct30 oc31 kV31 dc31 pm31 cd31 ct31 oc32 kV32 dc32 pm32 cd32 ct32 oc33 kV33 dc33 pm33 cd33 ct33 oc34 kV34 dc34 pm34 cd34 ct34 oc35 kV35 dc35 pm35 cd35 ct35 oc36 kV36 dc36 pm36 cd36 ct36 oc37 kV37 dc37 pm37 cd37 ct37 oc38 kV38 dc38 pm38 cd38 ct38 oc39 kV39 dc39 pm39 cd39 ct39 oc40 kV40 dc40 pm40 cd40 ct40 oc41 kV41 dc41 pm41 cd41 ct41 oc42 kV42 dc42 pm42 cd42 ct42 oc43 kV43 dc43 pm43 cd43 ct43 oc44 kV44 dc44 pm44 cd44 ct44 oc45 kV45 dc45 pm45 cd45 ct45 oc46 kV46 dc46 pm46 cd46 ct46 oc47 kV47 dc47 pm47 cd47 ct47 oc48 kV48 dc48 pm48 cd48 ct48 oc49 kV49 dc49 pm49 cd49 ct49:Value}
  {D_LENGTHS:Addr}{es_LENGTHS:Array DictEntry}{nn_LENGTHS:Nat}{dt_LENGTHS_0 dt_LENGTHS_1 dt_LENGTHS_2 dt_LENGTHS_3 dt_LENGTHS_4 dt_LENGTHS_5 dt_LENGTHS_6 dt_LENGTHS_7 dt_LENGTHS_8 dt_LENGTHS_9 dt_LENGTHS_10:Tok}
  {tk_LETTERS tk_MOST_LETTERS tk_MOST_WITHIN tk_MOST_ROOMS tk_MOST_FAIR:Tok}
  {Y_WAY_WORDS:Addr}{yd_WAY_WORDS:Option Addr}{yl_WAY_WORDS:Array (Option Value)}{yn_WAY_WORDS:Nat}{yt_WAY_WORDS_0 yt_WAY_WORDS_1 yt_WAY_WORDS_2 yt_WAY_WORDS_3 yt_WAY_WORDS_4:Tok}
  (v69:W.nsIn K mainGlobals "Sets" = some (some (.ref C_Sets)))
  (v60:W.nsIn K mainGlobals "World" = some (some (.ref C_World)))
  (v14:W.nsIn K mainGlobals "TimeError" = some (some (.ref C_TimeError)))
  (v37:W.nsIn K mainGlobals "BadWorld" = some (some (.ref C_BadWorld)))
  (v10:W.nsIn K mainGlobals "BadSentence" = some (some (.ref C_BadSentence)))
  (v38:W.nsIn K mainGlobals "NoBranch" = some (some (.ref C_NoBranch)))
  (a0:W.nsIn K mainGlobals "is_whole" = some (some (.ref f0)))
  (l0:K.lookup f0=some ⟨oc0,od0,.func (W.fnOf "is_whole" "is_whole" (ZG Wg) (ZE Wg) (Zb Wg) .none kV0 dc0 pm0 an0 cd0 ct0),sl0⟩)
  (c0:W.codeIn K cd0 "is_whole" = true)
  (k0:W.keepIn K (.ref f0)=true)
  (a1:W.nsIn K mainGlobals "is_name" = some (some (.ref f1)))
  (l1:K.lookup f1=some ⟨oc1,od1,.func (W.fnOf "is_name" "is_name" (ZG Wl) (ZE Wl) (Zb Wl) .none kV1 dc1 pm1 an1 cd1 ct1),sl1⟩)
  (c1:W.codeIn K cd1 "is_name" = true)
  (k1:W.keepIn K (.ref f1)=true)
  (a2:W.nsIn K mainGlobals "is_room" = some (some (.ref f2)))
  (l2:K.lookup f2=some ⟨oc2,od2,.func (W.fnOf "is_room" "is_room" (ZG WA) (ZE WA) (Zb WA) .none kV2 dc2 pm2 an2 cd2 ct2),sl2⟩)
  (c2:W.codeIn K cd2 "is_room" = true)
  (k2:W.keepIn K (.ref f2)=true)
  (a3:W.nsIn K mainGlobals "are_names" = some (some (.ref f3)))
  (l3:K.lookup f3=some ⟨oc3,od3,.func (W.fnOf "are_names" "are_names" (ZG XF) (ZE XF) (Zb XF) .none kV3 dc3 pm3 an3 cd3 ct3),sl3⟩)
  (c3:W.codeIn K cd3 "are_names" = true)
  (k3:W.keepIn K (.ref f3)=true)
  (a4:W.nsIn K mainGlobals "are_rooms" = some (some (.ref f4)))
  (l4:K.lookup f4=some ⟨oc4,od4,.func (W.fnOf "are_rooms" "are_rooms" (ZG XC) (ZE XC) (Zb XC) .none kV4 dc4 pm4 an4 cd4 ct4),sl4⟩)
  (c4:W.codeIn K cd4 "are_rooms" = true)
  (k4:W.keepIn K (.ref f4)=true)
  (a5:W.nsIn K mainGlobals "last_ones" = some (some (.ref f5)))
  (l5:K.lookup f5=some ⟨oc5,od5,.func (W.fnOf "last_ones" "last_ones" (ZG XW) (ZE XW) (Zb XW) .none kV5 dc5 pm5 an5 cd5 ct5),sl5⟩)
  (c5:W.codeIn K cd5 "last_ones" = true)
  (k5:W.keepIn K (.ref f5)=true)
  (a6:W.nsIn K mainGlobals "is_formed" = some (some (.ref f6)))
  (l6:K.lookup f6=some ⟨oc6,od6,.func (W.fnOf "is_formed" "is_formed" (ZG XV) (ZE XV) (Zb XV) .none kV6 dc6 pm6 an6 cd6 ct6),sl6⟩)
  (c6:W.codeIn K cd6 "is_formed" = true)
  (k6:W.keepIn K (.ref f6)=true)
  (a7:W.nsIn K mainGlobals "inner_of" = some (some (.ref f7)))
  (l7:K.lookup f7=some ⟨oc7,od7,.func (W.fnOf "inner_of" "inner_of" (ZG We) (ZE We) (Zb We) .none kV7 dc7 pm7 an7 cd7 ct7),sl7⟩)
  (c7:W.codeIn K cd7 "inner_of" = true)
  (k7:W.keepIn K (.ref f7)=true)
  (a8:W.nsIn K mainGlobals "inner_ahead" = some (some (.ref f8)))
  (l8:K.lookup f8=some ⟨oc8,od8,.func (W.fnOf "inner_ahead" "inner_ahead" (ZG Xq) (ZE Xq) (Zb Xq) .none kV8 dc8 pm8 an8 cd8 ct8),sl8⟩)
  (c8:W.codeIn K cd8 "inner_ahead" = true)
  (k8:W.keepIn K (.ref f8)=true)
  (a9:W.nsIn K mainGlobals "turns" = some (some (.ref f9)))
  (l9:K.lookup f9=some ⟨oc9,od9,.func (W.fnOf "turns" "turns" (ZG WU) (ZE WU) (Zb WU) .none kV9 dc9 pm9 an9 cd9 ct9),sl9⟩)
  (c9:W.codeIn K cd9 "turns" = true)
  (k9:W.keepIn K (.ref f9)=true)
  (a10:W.nsIn K mainGlobals "fair_rooms" = some (some (.ref f10)))
  (l10:K.lookup f10=some ⟨oc10,od10,.func (W.fnOf "fair_rooms" "fair_rooms" (ZG XJ) (ZE XJ) (Zb XJ) .none kV10 dc10 pm10 an10 cd10 ct10),sl10⟩)
  (c10:W.codeIn K cd10 "fair_rooms" = true)
  (k10:W.keepIn K (.ref f10)=true)
  (a11:W.nsIn K mainGlobals "refuse_others" = some (some (.ref f11)))
  (l11:K.lookup f11=some ⟨oc11,od11,.func (W.fnOf "refuse_others" "refuse_others" (ZG YL) (ZE YL) (Zb YL) .none kV11 dc11 pm11 an11 cd11 ct11),sl11⟩)
  (c11:W.codeIn K cd11 "refuse_others" = true)
  (k11:W.keepIn K (.ref f11)=true)
  (a12:W.nsIn K mainGlobals "branch_kind" = some (some (.ref f12)))
  (l12:K.lookup f12=some ⟨oc12,od12,.func (W.fnOf "branch_kind" "branch_kind" (ZG YV) (ZE YV) (Zb YV) .none kV12 dc12 pm12 an12 cd12 ct12),sl12⟩)
  (c12:W.codeIn K cd12 "branch_kind" = true)
  (k12:W.keepIn K (.ref f12)=true)
  (a13:W.nsIn K mainGlobals "mask_of" = some (some (.ref f13)))
  (l13:K.lookup f13=some ⟨oc13,od13,.func (W.fnOf "mask_of" "mask_of" (ZG Wi) (ZE Wi) (Zb Wi) .none kV13 dc13 pm13 an13 cd13 ct13),sl13⟩)
  (c13:W.codeIn K cd13 "mask_of" = true)
  (k13:W.keepIn K (.ref f13)=true)
  (a14:W.nsIn K mainGlobals "rooms_in" = some (some (.ref f14)))
  (l14:K.lookup f14=some ⟨oc14,od14,.func (W.fnOf "rooms_in" "rooms_in" (ZG XT) (ZE XT) (Zb XT) .none kV14 dc14 pm14 an14 cd14 ct14),sl14⟩)
  (c14:W.codeIn K cd14 "rooms_in" = true)
  (k14:W.keepIn K (.ref f14)=true)
  (a15:W.findIn K (.ref C_Sets) "__init__" = some (some (.ref f15)))
  (i15:W.isFn K (.ref f15)=true)
  (l15:K.lookup f15=some ⟨oc15,od15,.func (W.fnOf "__init__" "Sets.__init__" (ZG YY) (ZE YY) (Zb YY) .none kV15 dc15 pm15 an15 cd15 ct15),sl15⟩)
  (c15:W.codeIn K cd15 "Sets.__init__" = true)
  (k15:W.keepIn K (.ref f15)=true)
  (a16:W.findIn K (.ref C_Sets) "having" = some (some (.ref f16)))
  (i16:W.isFn K (.ref f16)=true)
  (l16:K.lookup f16=some ⟨oc16,od16,.func (W.fnOf "having" "Sets.having" (ZG YW) (ZE YW) (Zb YW) .none kV16 dc16 pm16 an16 cd16 ct16),sl16⟩)
  (c16:W.codeIn K cd16 "Sets.having" = true)
  (k16:W.keepIn K (.ref f16)=true)
  (a17:W.findIn K (.ref C_Sets) "leading_to" = some (some (.ref f17)))
  (i17:W.isFn K (.ref f17)=true)
  (l17:K.lookup f17=some ⟨oc17,od17,.func (W.fnOf "leading_to" "Sets.leading_to" (ZG Z9) (ZE Z9) (Zb Z9) .none kV17 dc17 pm17 an17 cd17 ct17),sl17⟩)
  (c17:W.codeIn K cd17 "Sets.leading_to" = true)
  (k17:W.keepIn K (.ref f17)=true)
  (a18:W.findIn K (.ref C_Sets) "coming_to" = some (some (.ref f18)))
  (i18:W.isFn K (.ref f18)=true)
  (l18:K.lookup f18=some ⟨oc18,od18,.func (W.fnOf "coming_to" "Sets.coming_to" (ZG Yu) (ZE Yu) (Zb Yu) .none kV18 dc18 pm18 an18 cd18 ct18),sl18⟩)
  (c18:W.codeIn K cd18 "Sets.coming_to" = true)
  (k18:W.keepIn K (.ref f18)=true)
  (a19:W.findIn K (.ref C_Sets) "staying" = some (some (.ref f19)))
  (i19:W.isFn K (.ref f19)=true)
  (l19:K.lookup f19=some ⟨oc19,od19,.func (W.fnOf "staying" "Sets.staying" (ZG Y5) (ZE Y5) (Zb Y5) .none kV19 dc19 pm19 an19 cd19 ct19),sl19⟩)
  (c19:W.codeIn K cd19 "Sets.staying" = true)
  (k19:W.keepIn K (.ref f19)=true)
  (a20:W.findIn K (.ref C_Sets) "rooms_by" = some (some (.ref f20)))
  (i20:W.isFn K (.ref f20)=true)
  (l20:K.lookup f20=some ⟨oc20,od20,.func (W.fnOf "rooms_by" "Sets.rooms_by" (ZG YI) (ZE YI) (Zb YI) .none kV20 dc20 pm20 an20 cd20 ct20),sl20⟩)
  (c20:W.codeIn K cd20 "Sets.rooms_by" = true)
  (k20:W.keepIn K (.ref f20)=true)
  (a21:W.findIn K (.ref C_Sets) "rooms_with" = some (some (.ref f21)))
  (i21:W.isFn K (.ref f21)=true)
  (l21:K.lookup f21=some ⟨oc21,od21,.func (W.fnOf "rooms_with" "Sets.rooms_with" (ZG Yj) (ZE Yj) (Zb Yj) .none kV21 dc21 pm21 an21 cd21 ct21),sl21⟩)
  (c21:W.codeIn K cd21 "Sets.rooms_with" = true)
  (k21:W.keepIn K (.ref f21)=true)
  (a22:W.findIn K (.ref C_Sets) "on_some" = some (some (.ref f22)))
  (i22:W.isFn K (.ref f22)=true)
  (l22:K.lookup f22=some ⟨oc22,od22,.func (W.fnOf "on_some" "Sets.on_some" (ZG Y4) (ZE Y4) (Zb Y4) .none kV22 dc22 pm22 an22 cd22 ct22),sl22⟩)
  (c22:W.codeIn K cd22 "Sets.on_some" = true)
  (k22:W.keepIn K (.ref f22)=true)
  (a23:W.findIn K (.ref C_Sets) "on_all" = some (some (.ref f23)))
  (i23:W.isFn K (.ref f23)=true)
  (l23:K.lookup f23=some ⟨oc23,od23,.func (W.fnOf "on_all" "Sets.on_all" (ZG Xr) (ZE Xr) (Zb Xr) .none kV23 dc23 pm23 an23 cd23 ct23),sl23⟩)
  (c23:W.codeIn K cd23 "Sets.on_all" = true)
  (k23:W.keepIn K (.ref f23)=true)
  (a24:W.findIn K (.ref C_World) "__init__" = some (some (.ref f24)))
  (i24:W.isFn K (.ref f24)=true)
  (l24:K.lookup f24=some ⟨oc24,od24,.func (W.fnOf "__init__" "World.__init__" (ZG YS) (ZE YS) (Zb YS) .none kV24 dc24 pm24 an24 cd24 ct24),sl24⟩)
  (c24:W.codeIn K cd24 "World.__init__" = true)
  (k24:W.keepIn K (.ref f24)=true)
  (a25:W.findIn K (.ref C_World) "many" = some (some (.ref f25)))
  (i25:W.isFn K (.ref f25)=true)
  (l25:K.lookup f25=some ⟨oc25,od25,.func (W.fnOf "many" "World.many" (ZG XM) (ZE XM) (Zb XM) .none kV25 dc25 pm25 an25 cd25 ct25),sl25⟩)
  (c25:W.codeIn K cd25 "World.many" = true)
  (k25:W.keepIn K (.ref f25)=true)
  (a26:W.findIn K (.ref C_World) "signs_of" = some (some (.ref f26)))
  (i26:W.isFn K (.ref f26)=true)
  (l26:K.lookup f26=some ⟨oc26,od26,.func (W.fnOf "signs_of" "World.signs_of" (ZG Ys) (ZE Ys) (Zb Ys) .none kV26 dc26 pm26 an26 cd26 ct26),sl26⟩)
  (c26:W.codeIn K cd26 "World.signs_of" = true)
  (k26:W.keepIn K (.ref f26)=true)
  (a27:W.findIn K (.ref C_World) "ways_on" = some (some (.ref f27)))
  (i27:W.isFn K (.ref f27)=true)
  (l27:K.lookup f27=some ⟨oc27,od27,.func (W.fnOf "ways_on" "World.ways_on" (ZG YH) (ZE YH) (Zb YH) .none kV27 dc27 pm27 an27 cd27 ct27),sl27⟩)
  (c27:W.codeIn K cd27 "World.ways_on" = true)
  (k27:W.keepIn K (.ref f27)=true)
  (a28:W.findIn K (.ref C_World) "begins" = some (some (.ref f28)))
  (i28:W.isFn K (.ref f28)=true)
  (l28:K.lookup f28=some ⟨oc28,od28,.func (W.fnOf "begins" "World.begins" (ZG Y7) (ZE Y7) (Zb Y7) .none kV28 dc28 pm28 an28 cd28 ct28),sl28⟩)
  (c28:W.codeIn K cd28 "World.begins" = true)
  (k28:W.keepIn K (.ref f28)=true)
  (a29:W.findIn K (.ref C_World) "fair_signs" = some (some (.ref f29)))
  (i29:W.isFn K (.ref f29)=true)
  (l29:K.lookup f29=some ⟨oc29,od29,.func (W.fnOf "fair_signs" "World.fair_signs" (ZG Yd) (ZE Yd) (Zb Yd) .none kV29 dc29 pm29 an29 cd29 ct29),sl29⟩)
  (c29:W.codeIn K cd29 "World.fair_signs" = true)
  (k29:W.keepIn K (.ref f29)=true)
  (a30:W.nsIn K mainGlobals "makes_world" = some (some (.ref f30)))
  (l30:K.lookup f30=some ⟨oc30,od30,.func (W.fnOf "makes_world" "makes_world" (ZG Yy) (ZE Yy) (Zb Yy) .none kV30 dc30 pm30 an30 cd30 ct30),sl30⟩)
  (c30:W.codeIn K cd30 "makes_world" = true)
  (k30:W.keepIn K (.ref f30)=true)
  (a31:W.nsIn K mainGlobals "are_some_rooms" = some (some (.ref f31)))
  (l31:K.lookup f31=some ⟨oc31,od31,.func (W.fnOf "are_some_rooms" "are_some_rooms" (ZG Yt) (ZE Yt) (Zb Yt) .none kV31 dc31 pm31 an31 cd31 ct31),sl31⟩)
  (c31:W.codeIn K cd31 "are_some_rooms" = true)
  (k31:W.keepIn K (.ref f31)=true)
  (a32:W.nsIn K mainGlobals "_law_cell_at" = some (some (.ref f32)))
  (l32:K.lookup f32=some ⟨oc32,od32,.func (W.fnOf "_law_cell_at" "_law_cell_at" (ZG Y6) (ZE Y6) (Zb Y6) .none kV32 dc32 pm32 an32 cd32 ct32),sl32⟩)
  (c32:W.codeIn K cd32 "_law_cell_at" = true)
  (k32:W.keepIn K (.ref f32)=true)
  (a33:W.nsIn K mainGlobals "_law_stream" = some (some (.ref f33)))
  (l33:K.lookup f33=some ⟨oc33,od33,.func (W.fnOf "_law_stream" "_law_stream" (ZG Xs) (ZE Xs) (Zb Xs) .none kV33 dc33 pm33 an33 cd33 ct33),sl33⟩)
  (c33:W.codeIn K cd33 "_law_stream" = true)
  (k33:W.keepIn K (.ref f33)=true)
  (a34:W.nsIn K mainGlobals "_law_names" = some (some (.ref f34)))
  (l34:K.lookup f34=some ⟨oc34,od34,.func (W.fnOf "_law_names" "_law_names" (ZG Xj) (ZE Xj) (Zb Xj) .none kV34 dc34 pm34 an34 cd34 ct34),sl34⟩)
  (c34:W.codeIn K cd34 "_law_names" = true)
  (k34:W.keepIn K (.ref f34)=true)
  (a35:W.nsIn K mainGlobals "_law_world" = some (some (.ref f35)))
  (l35:K.lookup f35=some ⟨oc35,od35,.func (W.fnOf "_law_world" "_law_world" (ZG Yl) (ZE Yl) (Zb Yl) .none kV35 dc35 pm35 an35 cd35 ct35),sl35⟩)
  (c35:W.codeIn K cd35 "_law_world" = true)
  (k35:W.keepIn K (.ref f35)=true)
  (a36:W.nsIn K mainGlobals "_law_made" = some (some (.ref f36)))
  (l36:K.lookup f36=some ⟨oc36,od36,.func (W.fnOf "_law_made" "_law_made" (ZG Xl) (ZE Xl) (Zb Xl) .none kV36 dc36 pm36 an36 cd36 ct36),sl36⟩)
  (c36:W.codeIn K cd36 "_law_made" = true)
  (k36:W.keepIn K (.ref f36)=true)
  (a37:W.nsIn K mainGlobals "_law_next" = some (some (.ref f37)))
  (l37:K.lookup f37=some ⟨oc37,od37,.func (W.fnOf "_law_next" "_law_next" (ZG XU) (ZE XU) (Zb XU) .none kV37 dc37 pm37 an37 cd37 ct37),sl37⟩)
  (c37:W.codeIn K cd37 "_law_next" = true)
  (k37:W.keepIn K (.ref f37)=true)
  (a38:W.nsIn K mainGlobals "_law_branch" = some (some (.ref f38)))
  (l38:K.lookup f38=some ⟨oc38,od38,.func (W.fnOf "_law_branch" "_law_branch" (ZG YX) (ZE YX) (Zb YX) .none kV38 dc38 pm38 an38 cd38 ct38),sl38⟩)
  (c38:W.codeIn K cd38 "_law_branch" = true)
  (k38:W.keepIn K (.ref f38)=true)
  (a39:W.nsIn K mainGlobals "_law_reach" = some (some (.ref f39)))
  (l39:K.lookup f39=some ⟨oc39,od39,.func (W.fnOf "_law_reach" "_law_reach" (ZG XI) (ZE XI) (Zb XI) .none kV39 dc39 pm39 an39 cd39 ct39),sl39⟩)
  (c39:W.codeIn K cd39 "_law_reach" = true)
  (k39:W.keepIn K (.ref f39)=true)
  (a40:W.nsIn K mainGlobals "_law_fair_from" = some (some (.ref f40)))
  (l40:K.lookup f40=some ⟨oc40,od40,.func (W.fnOf "_law_fair_from" "_law_fair_from" (ZG ZO) (ZE ZO) (Zb ZO) .none kV40 dc40 pm40 an40 cd40 ct40),sl40⟩)
  (c40:W.codeIn K cd40 "_law_fair_from" = true)
  (k40:W.keepIn K (.ref f40)=true)
  (a41:W.nsIn K mainGlobals "_law_comes" = some (some (.ref f41)))
  (l41:K.lookup f41=some ⟨oc41,od41,.func (W.fnOf "_law_comes" "_law_comes" (ZG XQ) (ZE XQ) (Zb XQ) .none kV41 dc41 pm41 an41 cd41 ct41),sl41⟩)
  (c41:W.codeIn K cd41 "_law_comes" = true)
  (k41:W.keepIn K (.ref f41)=true)
  (a42:W.nsIn K mainGlobals "_law_broken" = some (some (.ref f42)))
  (l42:K.lookup f42=some ⟨oc42,od42,.func (W.fnOf "_law_broken" "_law_broken" (ZG Ya) (ZE Ya) (Zb Ya) .none kV42 dc42 pm42 an42 cd42 ct42),sl42⟩)
  (c42:W.codeIn K cd42 "_law_broken" = true)
  (k42:W.keepIn K (.ref f42)=true)
  (a43:W.nsIn K mainGlobals "_law_kept" = some (some (.ref f43)))
  (l43:K.lookup f43=some ⟨oc43,od43,.func (W.fnOf "_law_kept" "_law_kept" (ZG YA) (ZE YA) (Zb YA) .none kV43 dc43 pm43 an43 cd43 ct43),sl43⟩)
  (c43:W.codeIn K cd43 "_law_kept" = true)
  (k43:W.keepIn K (.ref f43)=true)
  (a44:W.nsIn K mainGlobals "_law_some" = some (some (.ref f44)))
  (l44:K.lookup f44=some ⟨oc44,od44,.func (W.fnOf "_law_some" "_law_some" (ZG YT) (ZE YT) (Zb YT) .none kV44 dc44 pm44 an44 cd44 ct44),sl44⟩)
  (c44:W.codeIn K cd44 "_law_some" = true)
  (k44:W.keepIn K (.ref f44)=true)
  (a45:W.nsIn K mainGlobals "_law_all" = some (some (.ref f45)))
  (l45:K.lookup f45=some ⟨oc45,od45,.func (W.fnOf "_law_all" "_law_all" (ZG Z4) (ZE Z4) (Zb Z4) .none kV45 dc45 pm45 an45 cd45 ct45),sl45⟩)
  (c45:W.codeIn K cd45 "_law_all" = true)
  (k45:W.keepIn K (.ref f45)=true)
  (a46:W.nsIn K mainGlobals "_law_so" = some (some (.ref f46)))
  (l46:K.lookup f46=some ⟨oc46,od46,.func (W.fnOf "_law_so" "_law_so" (ZG YF) (ZE YF) (Zb YF) .none kV46 dc46 pm46 an46 cd46 ct46),sl46⟩)
  (c46:W.codeIn K cd46 "_law_so" = true)
  (k46:W.keepIn K (.ref f46)=true)
  (a47:W.nsIn K mainGlobals "_law_turns" = some (some (.ref f47)))
  (l47:K.lookup f47=some ⟨oc47,od47,.func (W.fnOf "_law_turns" "_law_turns" (ZG YO) (ZE YO) (Zb YO) .none kV47 dc47 pm47 an47 cd47 ct47),sl47⟩)
  (c47:W.codeIn K cd47 "_law_turns" = true)
  (k47:W.keepIn K (.ref f47)=true)
  (a48:W.nsIn K mainGlobals "_law_long_row" = some (some (.ref f48)))
  (l48:K.lookup f48=some ⟨oc48,od48,.func (W.fnOf "_law_long_row" "_law_long_row" (ZG Yc) (ZE Yc) (Zb Yc) .none kV48 dc48 pm48 an48 cd48 ct48),sl48⟩)
  (c48:W.codeIn K cd48 "_law_long_row" = true)
  (k48:W.keepIn K (.ref f48)=true)
  (a49:W.nsIn K mainGlobals "law" = some (some (.ref f49)))
  (l49:K.lookup f49=some ⟨oc49,od49,.func (W.fnOf "law" "law" (ZG zh) (ZE zh) (Zb zh) .none kV49 dc49 pm49 an49 cd49 ct49),sl49⟩)
  (c49:W.codeIn K cd49 "law" = true)
  (k49:W.keepIn K (.ref f49)=true)
  (v70:W.plainGet K C_Sets Str.empty=true)
  (v71:W.hasDictIn K C_Sets=true)
  (v72:W.plainOver K C_Sets=true)
  (v73:W.findIn K (.ref C_Sets) "__setattr__" = some (some (.builtin "object.__setattr__")))
  (v74:W.makesIn K C_Sets=true)
  (v75:W.keepIn K (.ref C_Sets)=true)
  (v15:W.findIn K (.ref C_Sets) "whole" = some none)
  (v39:W.findIn K (.ref C_Sets) "ways" = some none)
  (v16:W.findIn K (.ref C_Sets) "signs" = some none)
  (v17:W.findIn K (.ref C_Sets) "goals" = some none)
  (v40:W.findIn K (.ref C_Sets) "fair" = some none)
  (v61:W.plainGet K C_World Str.empty=true)
  (v62:W.hasDictIn K C_World=true)
  (v63:W.plainOver K C_World=true)
  (v64:W.findIn K (.ref C_World) "__setattr__" = some (some (.builtin "object.__setattr__")))
  (v65:W.makesIn K C_World=true)
  (v66:W.keepIn K (.ref C_World)=true)
  (v1:W.findIn K (.ref C_World) "room_signs" = some none)
  (v3:W.findIn K (.ref C_World) "room_ways" = some none)
  (v0:W.findIn K (.ref C_World) "start_rooms" = some none)
  (v2:W.findIn K (.ref C_World) "fair_names" = some none)
  (v18:W.nsIn K mainGlobals "ValueError" = some none)
  (v81:W.nsIn K mainGlobals "all" = some none)
  (v82:W.nsIn K mainGlobals "sum" = some none)
  (v83:W.nsIn K mainGlobals "len" = some none)
  (v76:W.nsIn K mainGlobals "range" = some none)
  (v79:W.nsIn K mainGlobals "list" = some none)
  (v19:W.nsIn K mainGlobals "isinstance" = some none)
  (v84:W.nsIn K mainGlobals "int" = some none)
  (v77:W.nsIn K mainGlobals "tuple" = some none)
  (v85:W.nsIn K mainGlobals "any" = some none)
  (v80:W.nsIn K mainGlobals "bool" = some none)
  (v86:W.nsIn K mainGlobals "str" = some none)
  (v87:W.nsIn K mainGlobals "set" = some none)
  (v67:W.nsIn K mainGlobals "sorted" = some none)
  (v88:W.nsIn K mainGlobals "min" = some none)
  (v41:W.nsIn K mainGlobals "enumerate" = some none)
  (v59:W.nsIn K mainGlobals "LETTERS" = some (some (.str "abcdefghijklmnopqrstuvwxyz" tk_LETTERS)))
  (v11:W.nsIn K mainGlobals "MOST_LETTERS" = some (some (.int 8 tk_MOST_LETTERS)))
  (v13:W.nsIn K mainGlobals "MOST_WITHIN" = some (some (.int 5 tk_MOST_WITHIN)))
  (v20:W.nsIn K mainGlobals "MOST_ROOMS" = some (some (.int 20 tk_MOST_ROOMS)))
  (v42:W.nsIn K mainGlobals "MOST_FAIR" = some (some (.int 3 tk_MOST_FAIR)))
  (v55:W.nsIn K mainGlobals "LENGTHS" = some (some (.ref D_LENGTHS)))
  (v56:K.lookup D_LENGTHS=some ⟨.type "dict",none,.dict es_LENGTHS nn_LENGTHS,#[]⟩)
  (v57:W.KeysLit w.params es_LENGTHS.toList)
  (v43:W.nsIn K D_LENGTHS "all" = some (some (.int 2 dt_LENGTHS_0)))
  (v44:W.nsIn K D_LENGTHS "some" = some (some (.int 2 dt_LENGTHS_1)))
  (v45:W.nsIn K D_LENGTHS "not" = some (some (.int 2 dt_LENGTHS_2)))
  (v46:W.nsIn K D_LENGTHS "next" = some (some (.int 2 dt_LENGTHS_3)))
  (v47:W.nsIn K D_LENGTHS "always" = some (some (.int 2 dt_LENGTHS_4)))
  (v48:W.nsIn K D_LENGTHS "ever" = some (some (.int 2 dt_LENGTHS_5)))
  (v49:W.nsIn K D_LENGTHS "before" = some (some (.int 2 dt_LENGTHS_6)))
  (v50:W.nsIn K D_LENGTHS "once" = some (some (.int 2 dt_LENGTHS_7)))
  (v51:W.nsIn K D_LENGTHS "sofar" = some (some (.int 2 dt_LENGTHS_8)))
  (v52:W.nsIn K D_LENGTHS "until" = some (some (.int 3 dt_LENGTHS_9)))
  (v21:W.nsIn K D_LENGTHS "since" = some (some (.int 3 dt_LENGTHS_10)))
  (v58:(D_LENGTHS==sysModules)=false)
  (v22:W.nsIn K mainGlobals "WAY_WORDS" = some (some (.ref Y_WAY_WORDS)))
  (v23:K.lookup Y_WAY_WORDS=some ⟨.type "tuple",yd_WAY_WORDS,.seq #[.str "next" yt_WAY_WORDS_0,.str "until" yt_WAY_WORDS_1,.str "always" yt_WAY_WORDS_2,.str "ever" yt_WAY_WORDS_3,.str "within" yt_WAY_WORDS_4] yn_WAY_WORDS,yl_WAY_WORDS⟩)
  (v24:W.excIn K C_TimeError [.type "ValueError",.type "Exception",.type "BaseException",.type "object"] "ValueError.__new__" = true)
  (v53:W.excIn K C_BadWorld [.type "ValueError",.type "Exception",.type "BaseException",.type "object"] "ValueError.__new__" = true)
  (v12:W.excIn K C_BadSentence [.type "ValueError",.type "Exception",.type "BaseException",.type "object"] "ValueError.__new__" = true)
  (v54:W.excIn K C_NoBranch [.type "ValueError",.type "Exception",.type "BaseException",.type "object"] "ValueError.__new__" = true)
  (xgt:W.specialIn K (.builtin "object.__class__") "__get__" = some (some (.builtin "getset_descriptor.__get__")))
  (xtk:W.takesIn K (.builtin "object.__class__")=some true)
  (v25:W.findIn K (.ref C_BadWorld) "__getattribute__" = some (some (.builtin "BaseException.__getattribute__")))
  (v26:W.findIn K (.ref C_BadWorld) "__getattr__" = some none)
  (v27:W.mroIn K C_BadWorld (.type "object")=some true)
  (v28:W.mroIn K C_BadWorld (.type "BaseException")=some true)
  (v29:W.findIn K (.ref C_BadWorld) "__class__" = some (some (.builtin "object.__class__")))
  (v30:W.hasDictIn K C_BadWorld=true)
  (v4:W.findIn K (.ref C_BadSentence) "__getattribute__" = some (some (.builtin "BaseException.__getattribute__")))
  (v5:W.findIn K (.ref C_BadSentence) "__getattr__" = some none)
  (v6:W.mroIn K C_BadSentence (.type "object")=some true)
  (v7:W.mroIn K C_BadSentence (.type "BaseException")=some true)
  (v8:W.findIn K (.ref C_BadSentence) "__class__" = some (some (.builtin "object.__class__")))
  (v9:W.hasDictIn K C_BadSentence=true)
  (v31:W.findIn K (.ref C_NoBranch) "__getattribute__" = some (some (.builtin "BaseException.__getattribute__")))
  (v32:W.findIn K (.ref C_NoBranch) "__getattr__" = some none)
  (v33:W.mroIn K C_NoBranch (.type "object")=some true)
  (v34:W.mroIn K C_NoBranch (.type "BaseException")=some true)
  (v35:W.findIn K (.ref C_NoBranch) "__class__" = some (some (.builtin "object.__class__")))
  (v36:W.hasDictIn K C_NoBranch=true)
  (v68:W.nsIn K D_LENGTHS "signs" = some none)
  (v78:W.nsIn K D_LENGTHS "Next" = some none) :
  ∃fd:FuncData,(∀(s:Shared) (v:Value),BindsTo s fd ⟨[v],[]⟩ [("_law_script",v)])/\∀base:Heap,K.In base->base.Ns mainGlobals mg->Ye l.prog w K mg base CX0 29 fa fd ["_law_script"] (spL K):=by
 have e:=hfa.symm.trans (mS X G a49);cases e;have T:Txt K mg { is_whole:=f0,cZ:=_,is_name:=f1,eu:=_,is_room:=f2,eB:=_,are_names:=f3,cu:=_,are_rooms:=f4,cy:=_,last_ones:=f5,cA:=_,is_formed:=f6,cB:=_,inner_of:=f7,db:=_,inner_ahead:=f8,bH:=_,turns:=f9,gC:=_,fair_rooms:=f10,bX:=_,refuse_others:=f11,bi:=_,branch_kind:=f12,bI:=_,mask_of:=f13,eI:=_,rooms_in:=f14,dc:=_,Sets_init:=f15,cC:=_,Sets_having:=f16,bJ:=_,Sets_leading_to:=f17,aV:=_,Sets_coming_to:=f18,ba:=_,Sets_staying:=f19,bz:=_,Sets_rooms_by:=f20,bj:=_,Sets_rooms_with:=f21,aW:=_,Sets_on_some:=f22,bA:=_,Sets_on_all:=f23,bK:=_,World_init:=f24,bY:=_,World_many:=f25,bZ:=_,World_signs_of:=f26,bb:=_,World_ways_on:=f27,bm:=_,World_begins:=f28,cj:=_,World_fair_signs:=f29,aP:=_,makes_world:=f30,bL:=_,are_some_rooms:=f31,bc:=_,_law_cell_at:=f32,bB:=_,_law_stream:=f33,bM:=_,_law_names:=f34,b0:=_,_law_world:=f35,b6:=_,_law_made:=f36,cD:=_,_law_next:=f37,cE:=_,_law_branch:=f38,bN:=_,_law_reach:=f39,b7:=_,_law_fair_from:=f40,bf:=_,_law_comes:=f41,b8:=_,_law_broken:=f42,bO:=_,_law_kept:=f43,cF:=_,_law_some:=f44,cG:=_,_law_all:=f45,de:=_,_law_so:=f46,cg:=_,_law_turns:=f47,b9:=_,_law_long_row:=f48,bn:=_,law:=fa,iU:=_,C_TimeError:=C_TimeError,C_BadWorld:=C_BadWorld,C_BadSentence:=C_BadSentence,C_NoBranch:=C_NoBranch,C_Sets:=C_Sets,C_World:=C_World,D_LENGTHS:=D_LENGTHS,Pm:=w.params,Y_WAY_WORDS:=Y_WAY_WORDS }:={
  fB:=mS X G v22,
  y_WAY_WORDS:=fun H=>.inr ⟨_,_,_,v23,rfl,rfl,(by rw[mN];simp),.cons ⟨_,rfl⟩ (.cons ⟨_,rfl⟩ (.cons ⟨_,rfl⟩ (.cons ⟨_,rfl⟩ (.cons ⟨_,rfl⟩ (.nil)))))⟩,
  gT:=mS X G v55,
  cW:=⟨⟨_,_,v56,v57⟩,fun p hp=>by
   simp only[nu,pX,or_false] at hp;rcases hp with rfl|rfl|rfl|rfl|rfl|rfl|rfl|rfl|rfl|rfl|rfl
   ·exact⟨_,v43⟩
   ·exact⟨_,v44⟩
   ·exact⟨_,v45⟩
   ·exact⟨_,v46⟩
   ·exact⟨_,v47⟩
   ·exact⟨_,v48⟩
   ·exact⟨_,v49⟩
   ·exact⟨_,v50⟩
   ·exact⟨_,v51⟩
   ·exact⟨_,v52⟩
   ·exact⟨_,v21⟩,v58⟩,
  eJ:=Zo (st:=Wg) l0 c0 k0,
  fV:=(Zo (st:=Wg) l0 c0 k0).binds (ps:=["thing"]) (fun _ _ _ _ _ _=>ar1 fun _=>rfl),
  fW:=mS X G a0,
  fE:=Zo (st:=Wl) l1 c1 k1,
  gE:=(Zo (st:=Wl) l1 c1 k1).binds (ps:=["thing"]) (fun _ _ _ _ _ _=>ar1 fun _=>rfl),
  gF:=mS X G a1,
  gG:=Zo (st:=WA) l2 c2 k2,
  iC:=(Zo (st:=WA) l2 c2 k2).binds (ps:=["thing", "many"]) (fun _ _ _ _ _ _=>ar2 fun _ _=>rfl),
  iD:=mS X G a2,
  df:=Zo (st:=XF) l3 c3 k3,
  fe:=(Zo (st:=XF) l3 c3 k3).binds (ps:=["thing"]) (fun _ _ _ _ _ _=>ar1 fun _=>rfl),
  fg:=mS X G a3,
  fh:=Zo (st:=XC) l4 c4 k4,
  gH:=(Zo (st:=XC) l4 c4 k4).binds (ps:=["thing", "many"]) (fun _ _ _ _ _ _=>ar2 fun _ _=>rfl),
  gI:=mS X G a4,
  dg:=Zo (st:=XW) l5 c5 k5,
  fj:=(Zo (st:=XW) l5 c5 k5).binds (ps:=["things", "many"]) (fun _ _ _ _ _ _=>ar2 fun _ _=>rfl),
  fk:=mS X G a5,
  fm:=Zo (st:=XV) l6 c6 k6,
  gJ:=(Zo (st:=XV) l6 c6 k6).binds (ps:=["thing"]) (fun _ _ _ _ _ _=>ar1 fun _=>rfl),
  gK:=mS X G a6,
  cP:=Zo (st:=We) l7 c7 k7,
  eQ:=(Zo (st:=We) l7 c7 k7).binds (ps:=["sentence"]) (fun _ _ _ _ _ _=>ar1 fun _=>rfl),
  eT:=mS X G a7,
  ca:=Zo (st:=Xq) l8 c8 k8,
  dh:=(Zo (st:=Xq) l8 c8 k8).binds (ps:=["sentence"]) (fun _ _ _ _ _ _=>ar1 fun _=>rfl),
  di:=mS X G a8,
  gL:=Zo (st:=WU) l9 c9 k9,
  ig:=(Zo (st:=WU) l9 c9 k9).binds (ps:=["world", "one", "other"]) (fun _ _ _ _ _ _=>ar3 fun _ _ _=>rfl),
  ii:=mS X G a9,
  aY:=Zo (st:=XJ) l10 c10 k10,
  bt:=(Zo (st:=XJ) l10 c10 k10).binds (ps:=["world"]) (fun _ _ _ _ _ _=>ar1 fun _=>rfl),
  bu:=mS X G a10,
  ck:=Zo (st:=YL) l11 c11 k11,
  dD:=(Zo (st:=YL) l11 c11 k11).binds (ps:=["row"]) (fun _ _ _ _ _ _=>ar1 fun _=>rfl),
  dE:=mS X G a11,
  dj:=Zo (st:=YV) l12 c12 k12,
  fF:=(Zo (st:=YV) l12 c12 k12).binds (ps:=["word", "inner"]) (fun _ _ _ _ _ _=>ar2 fun _ _=>rfl),
  fG:=mS X G a12,
  cQ:=Zo (st:=Wi) l13 c13 k13,
  dG:=(Zo (st:=Wi) l13 c13 k13).binds (ps:=["rooms"]) (fun _ _ _ _ _ _=>ar1 fun _=>rfl),
  dH:=mS X G a13,
  eV:=Zo (st:=XT) l14 c14 k14,
  fX:=(Zo (st:=XT) l14 c14 k14).binds (ps:=["mask"]) (fun _ _ _ _ _ _=>ar1 fun _=>rfl),
  fY:=mS X G a14,
  gM:=Zo (st:=YY) l15 c15 k15,
  fo:=(Zo (st:=YY) l15 c15 k15).binds (ps:=["self", "world"]) (fun _ _ _ _ _ _=>ar2 fun _ _=>rfl),
  iL:=⟨a15,i15,k15⟩,
  fH:=Zo (st:=YW) l16 c16 k16,
  dk:=(Zo (st:=YW) l16 c16 k16).binds (ps:=["self", "sign"]) (fun _ _ _ _ _ _=>ar2 fun _ _=>rfl),
  dm:=⟨a16,i16,k16⟩,
  cR:=Zo (st:=Z9) l17 c17 k17,
  aj:=(Zo (st:=Z9) l17 c17 k17).binds (ps:=["self", "goal"]) (fun _ _ _ _ _ _=>ar2 fun _ _=>rfl),
  ak:=⟨a17,i17,k17⟩,
  dy:=Zo (st:=Yu) l18 c18 k18,
  aS:=(Zo (st:=Yu) l18 c18 k18).binds (ps:=["self", "along", "goal"]) (fun _ _ _ _ _ _=>ar3 fun _ _ _=>rfl),
  aT:=⟨a18,i18,k18⟩,
  eX:=Zo (st:=Y5) l19 c19 k19,
  bg:=(Zo (st:=Y5) l19 c19 k19).binds (ps:=["self", "within"]) (fun _ _ _ _ _ _=>ar2 fun _ _=>rfl),
  bh:=⟨a19,i19,k19⟩,
  dJ:=Zo (st:=YI) l20 c20 k20,
  dM:=(Zo (st:=YI) l20 c20 k20).binds (ps:=["self", "row"]) (fun _ _ _ _ _ _=>ar2 fun _ _=>rfl),
  dN:=⟨a20,i20,k20⟩,
  cS:=Zo (st:=Yj) l21 c21 k21,
  cT:=(Zo (st:=Yj) l21 c21 k21).binds (ps:=["self", "sentence", "inner"]) (fun _ _ _ _ _ _=>ar3 fun _ _ _=>rfl),
  cU:=⟨a21,i21,k21⟩,
  fb:=Zo (st:=Y4) l22 c22 k22,
  bP:=(Zo (st:=Y4) l22 c22 k22).binds (ps:=["self", "way"]) (fun _ _ _ _ _ _=>ar2 fun _ _=>rfl),
  bQ:=⟨a22,i22,k22⟩,
  fI:=Zo (st:=Xr) l23 c23 k23,
  fJ:=(Zo (st:=Xr) l23 c23 k23).binds (ps:=["self", "way"]) (fun _ _ _ _ _ _=>ar2 fun _ _=>rfl),
  fK:=⟨a23,i23,k23⟩,
  gj:=Zo (st:=YS) l24 c24 k24,
  dQ:=(Zo (st:=YS) l24 c24 k24).binds (ps:=["self", "signs", "ways", "starts", "fair"]) (fun _ _ _ _ _ _=>ar5 fun _ _ _ _ _=>rfl),
  iE:=⟨a24,i24,k24⟩,
  gn:=Zo (st:=XM) l25 c25 k25,
  cH:=(Zo (st:=XM) l25 c25 k25).binds (ps:=["self"]) (fun _ _ _ _ _ _=>ar1 fun _=>rfl),
  cI:=⟨a25,i25,k25⟩,
  dz:=Zo (st:=Ys) l26 c26 k26,
  dA:=(Zo (st:=Ys) l26 c26 k26).binds (ps:=["self", "room"]) (fun _ _ _ _ _ _=>ar2 fun _ _=>rfl),
  dB:=⟨a26,i26,k26⟩,
  dU:=Zo (st:=YH) l27 c27 k27,
  dX:=(Zo (st:=YH) l27 c27 k27).binds (ps:=["self", "room"]) (fun _ _ _ _ _ _=>ar2 fun _ _=>rfl),
  dY:=⟨a27,i27,k27⟩,
  hG:=Zo (st:=Y7) l28 c28 k28,
  hI:=(Zo (st:=Y7) l28 c28 k28).binds (ps:=["self"]) (fun _ _ _ _ _ _=>ar1 fun _=>rfl),
  hU:=⟨a28,i28,k28⟩,
  cJ:=Zo (st:=Yd) l29 c29 k29,
  cK:=(Zo (st:=Yd) l29 c29 k29).binds (ps:=["self"]) (fun _ _ _ _ _ _=>ar1 fun _=>rfl),
  cL:=⟨a29,i29,k29⟩,
  dn:=Zo (st:=Yy) l30 c30 k30,
  fL:=(Zo (st:=Yy) l30 c30 k30).binds (ps:=["signs", "ways", "starts", "fair"]) (fun _ _ _ _ _ _=>ar4 fun _ _ _ _=>rfl),
  fM:=mS X G a30,
  bo:=Zo (st:=Yt) l31 c31 k31,
  bU:=(Zo (st:=Yt) l31 c31 k31).binds (ps:=["thing", "many"]) (fun _ _ _ _ _ _=>ar2 fun _ _=>rfl),
  bV:=mS X G a31,
  aB:=Zo (st:=Y6) l32 c32 k32,
  aI:=(Zo (st:=Y6) l32 c32 k32).binds (ps:=["_law_script", "_law_k"]) (fun _ _ _ _ _ _=>ar2 fun _ _=>rfl),
  aJ:=mS X G a32,
  bC:=Zo (st:=Xs) l33 c33 k33,
  cc:=(Zo (st:=Xs) l33 c33 k33).binds (ps:=["_law_cell", "_law_many"]) (fun _ _ _ _ _ _=>ar2 fun _ _=>rfl),
  ce:=mS X G a33,
  dZ:=Zo (st:=Xj) l34 c34 k34,
  gp:=(Zo (st:=Xj) l34 c34 k34).binds (ps:=["_law_cell"]) (fun _ _ _ _ _ _=>ar1 fun _=>rfl),
  gq:=mS X G a34,
  d0:=Zo (st:=Yl) l35 c35 k35,
  gr:=(Zo (st:=Yl) l35 c35 k35).binds (ps:=["_law_script"]) (fun _ _ _ _ _ _=>ar1 fun _=>rfl),
  gu:=mS X G a35,
  dq:=Zo (st:=Xl) l36 c36 k36,
  ft:=(Zo (st:=Xl) l36 c36 k36).binds (ps:=["_law_spec"]) (fun _ _ _ _ _ _=>ar1 fun _=>rfl),
  fu:=mS X G a36,
  aZ:=Zo (st:=XU) l37 c37 k37,
  bp:=(Zo (st:=XU) l37 c37 k37).binds (ps:=["_law_xs"]) (fun _ _ _ _ _ _=>ar1 fun _=>rfl),
  bq:=mS X G a37,
  aA:=Zo (st:=YX) l38 c38 k38,
  aD:=(Zo (st:=YX) l38 c38 k38).binds (ps:=["_law_names_here", "_law_xs", "_law_deep"]) (fun _ _ _ _ _ _=>ar3 fun _ _ _=>rfl),
  aE:=mS X G a38,
  d4:=Zo (st:=XI) l39 c39 k39,
  gv:=(Zo (st:=XI) l39 c39 k39).binds (ps:=["_law_ways", "_law_inside", "_law_start"]) (fun _ _ _ _ _ _=>ar3 fun _ _ _=>rfl),
  gw:=mS X G a39,
  ah:=Zo (st:=ZO) l40 c40 k40,
  aq:=(Zo (st:=ZO) l40 c40 k40).binds (ps:=["_law_spec", "_law_inside"]) (fun _ _ _ _ _ _=>ar2 fun _ _=>rfl),
  az:=mS X G a40,
  bS:=Zo (st:=XQ) l41 c41 k41,
  cM:=(Zo (st:=XQ) l41 c41 k41).binds (ps:=["_law_spec", "_law_keep", "_law_goal"]) (fun _ _ _ _ _ _=>ar3 fun _ _ _=>rfl),
  cN:=mS X G a41,
  dr:=Zo (st:=Ya) l42 c42 k42,
  fN:=(Zo (st:=Ya) l42 c42 k42).binds (ps:=["_law_spec", "_law_fair", "_law_part", "_law_left"]) (fun _ _ _ _ _ _=>ar4 fun _ _ _ _=>rfl),
  fP:=mS X G a42,
  fz:=Zo (st:=YA) l43 c43 k43,
  gN:=(Zo (st:=YA) l43 c43 k43).binds (ps:=["_law_spec", "_law_fair", "_law_part", "_law_left"]) (fun _ _ _ _ _ _=>ar4 fun _ _ _ _=>rfl),
  gO:=mS X G a43,
  fA:=Zo (st:=YT) l44 c44 k44,
  gP:=(Zo (st:=YT) l44 c44 k44).binds (ps:=["_law_spec", "_law_part"]) (fun _ _ _ _ _ _=>ar2 fun _ _=>rfl),
  gQ:=mS X G a44,
  fZ:=Zo (st:=Z4) l45 c45 k45,
  ic:=(Zo (st:=Z4) l45 c45 k45).binds (ps:=["_law_spec", "_law_part"]) (fun _ _ _ _ _ _=>ar2 fun _ _=>rfl),
  ie:=mS X G a45,
  aG:=Zo (st:=YF) l46 c46 k46,
  aN:=(Zo (st:=YF) l46 c46 k46).binds (ps:=["_law_spec", "_law_sentence"]) (fun _ _ _ _ _ _=>ar2 fun _ _=>rfl),
  aO:=mS X G a46,
  d5:=Zo (st:=YO) l47 c47 k47,
  gx:=(Zo (st:=YO) l47 c47 k47).binds (ps:=["_law_spec", "_law_keep", "_law_goal"]) (fun _ _ _ _ _ _=>ar3 fun _ _ _=>rfl),
  gz:=mS X G a47,
  cn:=Zo (st:=Yc) l48 c48 k48,
  d6:=(Zo (st:=Yc) l48 c48 k48).binds (ps:=["_law_cell"]) (fun _ _ _ _ _ _=>ar1 fun _=>rfl),
  d7:=mS X G a48,
  la:=Zo (st:=zh) l49 c49 k49,
  lu:=(Zo (st:=zh) l49 c49 k49).binds (ps:=["_law_script"]) (fun _ _ _ _ _ _=>ar1 fun _=>rfl),
  lA:=mS X G a49,
  iF:=oa X G v18,
  hV:=oa X G v81,
  lc:=oa X G v82,
  aX:=oa X G v83,
  ae:=oa X G v76,
  bT:=oa X G v79,
  al:=oa X G v19,
  i7:=oa X G v84,
  cr:=oa X G v77,
  ij:=oa X G v85,
  i6:=oa X G v80,
  i8:=oa X G v86,
  i9:=oa X G v87,
  fQ:=oa X G v67,
  lg:=oa X G v88,
  dt:=oa X G v41,
  iG:=⟨_,mS X G v59,⟨_,rfl⟩⟩,
  fc:=⟨_,mS X G v11,⟨_,rfl⟩⟩,
  fR:=⟨_,mS X G v13,⟨_,rfl⟩⟩,
  gA:=⟨_,mS X G v20,⟨_,rfl⟩⟩,
  gR:=⟨_,mS X G v42,⟨_,rfl⟩⟩,
  aa:=⟨v70,v71,v72,v73⟩,
  i3:=mS X G v69,
  iO:=⟨v74,a15,i15,v75⟩,
  ab:=v15,
  d8:=v39,
  du:=v16,
  cf:=v17,
  am:=v40,
  aQ:=⟨v61,v62,v63,v64⟩,
  iP:=mS X G v60,
  io:=⟨v65,a24,i24,v66⟩,
  aR:=v1,
  bD:=v3,
  bW:=v0,
  br:=v2,
  iM:=mS X G v14,
  iN:=v24,
  iW:=mS X G v37,
  iX:=v53,
  ik:=mS X G v10,
  im:=v12,
  iY:=mS X G v38,
  iZ:=v54,
  k_BadWorld:=⟨v25,v26,v27,v28,v29,xgt,xtk,v30⟩,
  k_BadSentence:=⟨v4,v5,v6,v7,v8,xgt,xtk,v9⟩,
  k_NoBranch:=⟨v31,v32,v33,v34,v35,xgt,xtk,v36⟩,
  nk_signs:=v68,
  nk_Next:=v78 }
 refine⟨_,?_,fun base _ _=>lj T rfl⟩;exact fun s v=>.of_eq rfl
theorem walk{l:W.OpenLaw}{q:Program}{loose:List Str}{XP:(Str->Option Value)->Heap->Prop}{YP:World->Heap->Prop}{d:DefRec}{K:Params->W.Frag}(hn:l.most=some 63)(hdf:d.params.defaults=[])
  (hY:∀(w:World) (h:Heap),YP w h->(K w.params).In h)
  (F:∀(w:World) (mg:Str->Option Value) (fa:Addr) (h:Heap),(K w.params).In h->h.Ns mainGlobals mg->mg d.name=some (.ref fa) ->
   ∃fd:FuncData,(∀(s:Shared) (u:Value),BindsTo s fd ⟨[u],[]⟩ [("_law_script",u)])/\∀base:Heap,(K w.params).In base->base.Ns mainGlobals mg->Ye l.prog w (K w.params) mg base CX0 29 fa fd ["_law_script"] (spL (K w.params))) :
  W.WalkO q loose XP YP l.row.toRowW d [] (fun f vs=>PySem.call f vs):=
 L2.walk_of (n:=63) (k:=29) (x := "_law_script") (CX:=fun _=>CX0) (sp:=fun w=>spL (K w.params)) hn (by decide) hdf ⟨rfl,by decide,by decide⟩ hY F (fun _ _ a ns hl _ hS=>⟨a,ns,rfl,hS,hl,fun _=>rfl⟩) fun _ _ _ _ _ z=>z
end KK
open PySem PySem.W PyProof.Rows
namespace PySem.W.Fast
def tw7827513230965487837:=0
def tw4693563488147955210:=0
def tw8959642703461199:=0
def tw6083243355064790430:=0
def tw17360089042130549803:=0
def tw10396972128172217009:=0
def tw15132143782160228667:=0
def tw4300618729086842777:=0
def tw11123102372747987448:=0
def tw3312594181463283201:=0
def tw11163628580131948089:=0
def tw7534141872835525676:=0
def tw10480584845355155916:=0
def tw3871611319467324320:=0
def tw3007170588202481761:=0
def tw504041036939783722:=0
def tw3809050432860194538:=0
def tw2736215824490960010:=0
def tw14136728427235027016:=0
def tw1934854715579663656:=0
def tw9336319167466262484:=0
def tw9628098869454180048:=0
def tw1830878668941223193:=0
def tw11968702474571616804:=0
def tw10908394727689670370:=0
def tw17673096687044519049:=0
def tw5669140668190599711:=0
def tw13742063146914919886:=0
def tw4026922087367551949:=0
def tw8733709606854965725:=0
def tw18204562642091886559:=0
def tw16940121765064656554:=0
def tw16030040324440498259:=0
def tw7806085126665312703:=0
def tw8746467544623697370:=0
def tw14081652052877044446:=0
def tw2465361758230062635:=0
def tw1315347053704878865:=0
def tw10391778128671659843:=0
def tw18128522709539398566:=0
def tw13613810462257432179:=0
def tw10622597858243031557:=0
def tw17051979504634599945:=0
def tw17827777673412680622:=0
def tw11491881622322928860:=0
def tw12087414428629479703:=0
def tw750492088887370465:=0
def tw14371481745183010377:=0
def tw4305452981274719756:=0
def tw15280087230223285738:=0
def tw6656411612614238648:=0
def tw9380903074289199376:=0
def tw4866759533194457606:=0
def tw5101504653529211809:=0
def tw17157507488674729540:=0
def tw2846480050944516655:=0
def tw7394958404329504761:=0
def tw18202163200716873130:=0
def tw1606881091030109079:=0
def tw11717501535081680712:=0
def tw3191401984225749916:=0
def tw4388318306842138178:=0
def tw14139283893841305840:=0
def tw11313432540278491429:=0
def tw6305000832985067308:=0
def tw18158245394131852720:=0
def tw17062278278313464104:=0
def tw14008165305739061634:=0
def tw10867867755584760915:=0
def tw18181951806034243749:=0
def tw7778547560665274252:=0
def tw15237697879683112391:=0
def tw2389089683910828853:=0
def tw13621020906554085492:=0
def tw12392987657222428361:=0
def tw5138858503898841779:=0
def tw14519126666891969094:=0
def tw9337643913105045206:=0
def tw3831475070475979893:=0
def tw7105538986277738475:=0
def tw14465142641682952274:=0
def tw9513020162030589597:=0
def tw893250470590966671:=0
def tw16115119176881352794:=0
def tw13026328731307566164:=0
def tw2838432167166967318:=0
def tw730252422234795583:=0
def tw125278046237138634:=0
def tw1999591453334270571:=0
def tw11381918414485721076:=0
def tw16495410417090253723:=0
def tw2508473205806610034:=0
def tw9911922542429566454:=0
def tw9851713484712607155:=0
def tw968741218431026487:=0
def tw16430533588412719034:=0
def tw4487467213525402878:=0
def tw532927703198441446:=0
def tw8907126704471825434:=0
def tw8321847285139707423:=0
def tw3732728505910234329:=0
def tw17220943158889697076:=0
def tw4645733513971045702:=0
def tw16218316580436321523:=0
def tw8118399657978969177:=0
def tw17107927070519354812:=0
def tw2867080392040714039:=0
def tw9276942993095891381:=0
def tw17294002954371665710:=0
def tw12536478631821669396:=0
def tw15610107323433624574:=0
def tw9019296177735703086:=0
def tw12355292664022480468:=0
def tw71969606295825426:=0
def tw17215492421962357562:=0
def tw2942011478697915991:=0
def tw14166715834176512482:=0
def tw12516164741379887245:=0
def tw1930495191635346250:=0
def tw13726603485633969052:=0
def tw8536957475970568851:=0
def tw3664082690877739423:=0
def tw6812375053196493548:=0
def tw4523136696457030227:=0
def tw3690623468649678855:=0
def tw1559470922074500702:=0
def tw16947843453585704939:=0
def tw12461149673726141331:=0
def tw13257550572383205659:=0
def tw14287391932038083737:=0
def tw13434004867760528903:=0
def tw8943288995878135987:=0
def tw14070969316674848179:=0
def tw4690398563569556166:=0
def tw10736234797005007333:=0
def tw12199499760296707810:=0
def tw17578404636864238764:=0
def tw11046112791273864409:=0
def tw1634597632290516615:=0
def tw16249717542707639366:=0
def tw13907171551021316758:=0
def tw16170008916420638367:=0
def tw16843917525051095258:=0
def tw13230137538729911363:=0
def tw6492156157699947977:=0
def tw13822270136111510401:=0
def tw17918646371788571378:=0
def tw10009553101009588858:=0
def tw938148246483585791:=0
def tw8469489637180056652:=0
end PySem.W.Fast
set_option maxRecDepth 100000 in
set_option maxHeartbeats 0 in
theorem PySem.Challenge.cw_timecourt_k62_turns_and_fair_rooms_holds : PySem.Challenge.rw_timecourt_k62_turns_and_fair_rooms.Holds := by
 w_on; o_law; k_head; (case hw => w_witness2)
 k_fill
 refine KK.walk (l := PySem.Challenge.rw_timecourt_k62_turns_and_fair_rooms) rfl rfl (fun w h Y => PySem.W.kIn_of Y) ?F
 case F =>
  intro w mg fa h KX G hmg
  have hmg2 : mg "law" = some (.ref fa) := hmg
  clear hmg
  refine' KK.all_mk KX G hmg2 ?v69 ?v60 ?v14 ?v37 ?v10 ?v38 ?a0 ?l0 ?c0 ?k0 ?a1 ?l1 ?c1 ?k1 ?a2 ?l2 ?c2 ?k2 ?a3 ?l3 ?c3 ?k3 ?a4 ?l4 ?c4 ?k4 ?a5 ?l5 ?c5 ?k5 ?a6 ?l6 ?c6 ?k6 ?a7 ?l7 ?c7 ?k7 ?a8 ?l8 ?c8 ?k8 ?a9 ?l9 ?c9 ?k9 ?a10 ?l10 ?c10 ?k10 ?a11 ?l11 ?c11 ?k11 ?a12 ?l12 ?c12 ?k12 ?a13 ?l13 ?c13 ?k13 ?a14 ?l14 ?c14 ?k14 ?a15 ?i15 ?l15 ?c15 ?k15 ?a16 ?i16 ?l16 ?c16 ?k16 ?a17 ?i17 ?l17 ?c17 ?k17 ?a18 ?i18 ?l18 ?c18 ?k18 ?a19 ?i19 ?l19 ?c19 ?k19 ?a20 ?i20 ?l20 ?c20 ?k20 ?a21 ?i21 ?l21 ?c21 ?k21 ?a22 ?i22 ?l22 ?c22 ?k22 ?a23 ?i23 ?l23 ?c23 ?k23 ?a24 ?i24 ?l24 ?c24 ?k24 ?a25 ?i25 ?l25 ?c25 ?k25 ?a26 ?i26 ?l26 ?c26 ?k26 ?a27 ?i27 ?l27 ?c27 ?k27 ?a28 ?i28 ?l28 ?c28 ?k28 ?a29 ?i29 ?l29 ?c29 ?k29 ?a30 ?l30 ?c30 ?k30 ?a31 ?l31 ?c31 ?k31 ?a32 ?l32 ?c32 ?k32 ?a33 ?l33 ?c33 ?k33 ?a34 ?l34 ?c34 ?k34 ?a35 ?l35 ?c35 ?k35 ?a36 ?l36 ?c36 ?k36 ?a37 ?l37 ?c37 ?k37 ?a38 ?l38 ?c38 ?k38 ?a39 ?l39 ?c39 ?k39 ?a40 ?l40 ?c40 ?k40 ?a41 ?l41 ?c41 ?k41 ?a42 ?l42 ?c42 ?k42 ?a43 ?l43 ?c43 ?k43 ?a44 ?l44 ?c44 ?k44 ?a45 ?l45 ?c45 ?k45 ?a46 ?l46 ?c46 ?k46 ?a47 ?l47 ?c47 ?k47 ?a48 ?l48 ?c48 ?k48 ?a49 ?l49 ?c49 ?k49 ?v70 ?v71 ?v72 ?v73 ?v74 ?v75 ?v15 ?v39 ?v16 ?v17 ?v40 ?v61 ?v62 ?v63 ?v64 ?v65 ?v66 ?v1 ?v3 ?v0 ?v2 ?v18 ?v81 ?v82 ?v83 ?v76 ?v79 ?v19 ?v84 ?v77 ?v85 ?v80 ?v86 ?v87 ?v67 ?v88 ?v41 ?v59 ?v11 ?v13 ?v20 ?v42 ?v55 ?v56 ?v57 ?v43 ?v44 ?v45 ?v46 ?v47 ?v48 ?v49 ?v50 ?v51 ?v52 ?v21 ?v58 ?v22 ?v23 ?v24 ?v53 ?v12 ?v54 ?xgt ?xtk ?v25 ?v26 ?v27 ?v28 ?v29 ?v30 ?v4 ?v5 ?v6 ?v7 ?v8 ?v9 ?v31 ?v32 ?v33 ?v34 ?v35 ?v36 ?v68 ?v78
  (case v69 | v60 | v14 | v37 | v10 | v38 | a0 | l0 | c0 | k0 | a1 | l1 | c1 | k1 | a2 | l2 | c2 | k2 | a3 | l3 | c3 | k3 | a4 | l4 | c4 | k4 | a5 | l5 | c5 | k5 | a6 | l6 | c6 | k6 | a7 | l7 | c7 | k7 | a8 | l8 => k_is)
  (case c8 | k8 | a9 | l9 | c9 | k9 | a10 | l10 | c10 | k10 | a11 | l11 | c11 | k11 | a12 | l12 | c12 | k12 | a13 | l13 | c13 | k13 | a14 | l14 | c14 | k14 | a15 | i15 | l15 | c15 | k15 | a16 | i16 | l16 | c16 | k16 | a17 | i17 | l17 | c17 => k_is)
  (case k17 | a18 | i18 | l18 | c18 | k18 | a19 | i19 | l19 | c19 | k19 | a20 | i20 | l20 | c20 | k20 | a21 | i21 | l21 | c21 | k21 | a22 | i22 | l22 | c22 | k22 | a23 | i23 | l23 | c23 | k23 | a24 | i24 | l24 | c24 | k24 | a25 | i25 | l25 | c25 => k_is)
  (case k25 | a26 | i26 | l26 | c26 | k26 | a27 | i27 | l27 | c27 | k27 | a28 | i28 | l28 | c28 | k28 | a29 | i29 | l29 | c29 | k29 | a30 | l30 | c30 | k30 | a31 | l31 | c31 | k31 | a32 | l32 | c32 | k32 | a33 | l33 | c33 | k33 | a34 | l34 | c34 => k_is)
  (case k34 | a35 | l35 | c35 | k35 | a36 | l36 | c36 | k36 | a37 | l37 | c37 | k37 | a38 | l38 | c38 | k38 | a39 | l39 | c39 | k39 | a40 | l40 | c40 | k40 | a41 | l41 | c41 | k41 | a42 | l42 | c42 | k42 | a43 | l43 | c43 | k43 | a44 | l44 | c44 => k_is)
  (case k44 | a45 | l45 | c45 | k45 | a46 | l46 | c46 | k46 | a47 | l47 | c47 | k47 | a48 | l48 | c48 | k48 | a49 | l49 | c49 | k49 | v70 | v71 | v72 | v73 | v74 | v75 | v15 | v39 | v16 | v17 | v40 | v61 | v62 | v63 | v64 | v65 | v66 | v1 | v3 => k_is)
  (case v0 | v2 | v18 | v81 | v82 | v83 | v76 | v79 | v19 | v84 | v77 | v85 | v80 | v86 | v87 | v67 | v88 | v41 | v59 | v11 | v13 | v20 | v42 | v55 | v56 => k_is)
  (case v57 => exact ⟨⟨_, _, rfl, rfl⟩, ⟨_, _, rfl, rfl⟩, ⟨_, _, rfl, rfl⟩, ⟨_, _, rfl, rfl⟩, ⟨_, _, rfl, rfl⟩, ⟨_, _, rfl, rfl⟩, ⟨_, _, rfl, rfl⟩, ⟨_, _, rfl, rfl⟩, ⟨_, _, rfl, rfl⟩, ⟨_, _, rfl, rfl⟩, ⟨_, _, rfl, rfl⟩, trivial⟩)
  (case v43 | v44 | v45 | v46 | v47 | v48 | v49 | v50 | v51 | v52 | v21 => k_is)
  (case v58 => rfl)
  (case v22 | v23 => k_is)
  (case v24 | v53 | v12 | v54 => k_exc)
  (case xgt | xtk | v25 | v26 | v27 | v28 | v29 | v30 | v4 | v5 | v6 | v7 | v8 | v9 | v31 | v32 | v33 | v34 | v35 | v36 | v68 | v78 => k_is)
