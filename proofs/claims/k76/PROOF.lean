import PyProof.Rows.All
import Wide.All
import OpenK.AllK
import Wide.FinOn
import Lean
import PyProof.EqAt
import PyProof.EqKinds
import PyProof.TupleCall
import KE.KRevIter
import PyProof.Rows.CallKwBuiltin
import KE.KDictList
import PySem.Challenge.RW_timecourt_k76_told_the_same
set_option linter.all false
def gU:=@PySem.sizeLine_eq
def gW:=@PySem.wpAny_bind
def gX:=@PySem.wpAny_pure
def gY:=@Nat.le_refl
def gZ:=@List.getElem?_eq_getElem
def g9:=@List.map_cons
def hG:=@List.length_append
def hJ:=@List.length_map
def hU:=@List.mem_cons_of_mem
def hV:=@List.length_take
def hX:=@decide_eq_true
def ib:=@List.getElem?_eq_some_iff
def ic:=@List.mem_cons
def ie:=@Ne.symm
def ig:=@PySem.W.mg_of
def ii:=@PySem.Heap.lt_size
def ij:=@List.size_toArray
def ik:=@List.mem_map
def im:=@decide_eq_false
def io:=@congrArg
def ip:=@List.map_nil
def iq:=@Nat.le_trans
def ir:=@List.lookup_cons
def iu:=@PySem.Heap.get?_push_of_some
def iw:=@List.map_map
def iy:=@Bool.false_ne_true
def iz:=@of_decide_eq_true
def iA:=@List.length_cons
def iB:=@Option.some.inj
def iC:=@Nat.ne_of_lt
def iD:=@List.sum_cons
def iE:=@List.mem_append_right
def iF:=@PySem.Heap.get?_push_size
def iG:=@List.length_eq_zero_iff
def iH:=@List.mem_append
def iI:=@List.getElem?_append_left
def iJ:=@List.getElem?_map
def iK:=@List.not_mem_nil
def iL:=@or_false
def iM:=@List.getElem?_append_right
def iN:=@Bool.and_eq_true
def iO:=@List.mem_of_getElem?
def iP:=@Nat.lt_of_lt_of_le
def iQ:=@List.append_nil
def iR:=@if_false
def iS:=@PySem.PassesOwn.never
def iT:=@PySem.F.plainAttrs_list
def iU:=@Nat.zero_le
def iW:=@List.mem_singleton
def iX:=@List.mem_append_left
def iY:=@List.length_singleton
def iZ:=@List.map_append
def i3:=@PySem.W.mg_none_of
def i4:=@PySem.wpAny_mono
def i5:=@PySem.wpAny_truthy_bool
def i6:=@PySem.W.kia_one
def i7:=@PySem.F.slot_list_append
def i8:=@PySem.F.type_list_append
def i9:=@PySem.mem_of_lookup
def ja:=@PySem.wpAny_newObj_type
def jb:=@List.map_congr_left
def jc:=@List.append_assoc
def jd:=@List.getElem_of_mem
def je:=@List.sum_nil
def jf:=@if_true
def jg:=@PySem.wpAny_field
def jh:=@List.length_drop
def ji:=@PySem.wpAny_holding
def jk:=@PySem.Heap.get?_update_other
def jl:=@List.all_eq_true
def jm:=@List.cons.inj
def jo:=@Bool.false_eq_true
def jp:=@beq_iff_eq
def jq:=@List.nodup_cons
def jr:=@List.getElem_mem
def jt:=@List.take_of_length_le
def ju:=@beq_eq_false_iff_ne
def jv:=@Bool.and_false
def jw:=@List.map_id
def jx:=@Bool.not_true
def jy:=@List.getElem?_drop
def jz:=@Sum.inr.inj
def jA:=@Nat.lt_irrefl
def jB:=@List.mem_filter
def jC:=@PySem.wpAny_passesOwn
def jD:=@List.mem_filterMap
def jE:=@Nat.le_succ
def jF:=@List.forIn_cons
def jG:=@List.getElem?_zip_eq_some
def jH:=@List.nil_append
def jI:=@List.cons_append
def jJ:=@PySem.F.plain_max_loop
def jK:=@Nat.sub_self
def jL:=@List.mem_iff_getElem?
def jM:=@Sum.inl.inj
def jN:=@List.mem_cons_self
def jO:=@Array.length_toList
def jP:=@PySem.wpAny_execs_nil
def jQ:=@Bool.eq_iff_iff
def jR:=@PySem.wpAny_Call_Name_kw
def jS:=@List.any_cons
def jT:=@List.length_pos_iff
def jU:=@PySem.wpAny_seqItems
def jV:=@List.getD_eq_getElem?_getD
def jW:=@List.find?_cons
def jX:=@PySem.wpAny_standAt
def jY:=@List.isEmpty_iff
def jZ:=@List.drop_eq_getElem_cons
def j0:=@List.length_zip
def j9:=@PySem.Paired.length
def ka:=@PySem.W.hideAll_none
def kc:=@Bool.false_and
def ke:=@List.getElem?_take_of_lt
def kf:=@PySem.wpAny_call_entry
def kg:=@List.all_cons
def kh:=@Array.getElem?_toList
def ki:=@List.length_dropLast
def kj:=@List.all_map
def kl:=@Int.emod_nonneg
def kn:=@Int.emod_lt_of_pos
def ko:=@PySem.wpAny_setField
def kq:=@PySem.Obj.data_mapFields
def kr:=@PySem.Heap.get?_update_self
def ku:=@PySem.wpAny_updateSeq
def ky:=@Nat.succ_mul
def kz:=@PySem.wpAny_tryCatch
def kA:=@Nat.zero_add
def kB:=@PySem.Around.in1_units
def kC:=@PySem.W.hideAll_get
def kE:=@List.filterMap_cons
def kF:=@Int.toNat_natCast
def kG:=@List.length_reverse
def kH:=@List.any_eq_true
def kI:=@Array.getElem?_eq_some_iff
def kJ:=@List.dropLast_concat_getLast
def kK:=@List.getLast_eq_getElem
def kL:=@List.mem_map_of_mem
def kM:=@Nat.mul_le_mul_right
def kN:=@List.length_nil
def kO:=@Option.map_eq_some_iff
def kP:=@List.getElem?_eq_none
def kQ:=@List.map_fst_zip
def kR:=@List.getElem?_set_ne
def kS:=@PyProof.Rows.callWith_type1
def kT:=@Option.isSome_iff_exists
def kU:=@PyProof.Rows.slot_tuple_getitem
def kW:=@List.filter_cons_of_pos
def kX:=@List.filter_cons_of_neg
def kY:=@PySem.W.funFrames_hide
def kZ:=@List.length_filter_le
def la:=@PySem.F.slot_dict_keyiterator_next
def lc:=@List.drop_eq_nil_of_le
def ln:=@PyProof.Rows.Boot.«isinstance»
def lp:=@PyProof.Rows.Boot.«int»
def lr:=@PyProof.Rows.Boot.«len»
def lv:=@PyProof.Rows.Boot.«tuple»
def lx:=@PyProof.Rows.Boot.«list»
def lz:=@PyProof.Rows.Boot.«max»
set_option Elab.async false
set_option linter.all false
set_option maxRecDepth 100000
namespace L2
open PySem PySem.Spec PyProof.Rows
abbrev Key:=Sum Int Str
def VI:Key->Value->Bool
 |.inl k,v=>Value.isInt k v
 |.inr x,v=>Value.isStrOf x v
def keyH(w:World):Key->Int
 |.inl k=>hashInt k
 |.inr x=>hashStr w x
theorem Yb:∀{k:Key}{v:Value},VI k v=true->(∃i t,k=Sum.inl i/\v=Value.int i t)\/(∃x t,k=Sum.inr x/\v=Value.str x t)
 |.inl i,v,h=>by
  obtain⟨t,e⟩:=Value.isInt_shape (k:=i) (v:=v) h;exact .inl ⟨i,t,rfl,e⟩
 |.inr x,v,h=>by
  obtain⟨t,e⟩:=Value.isStrOf_shape (x:=x) (v:=v) h;exact .inr ⟨x,t,rfl,e⟩
theorem keyIs_int(i:Int)(t:Tok):VI (.inl i) (.int i t)=true:=by simp[VI,Value.isInt]
theorem zY(x:Str)(t:Tok):VI (.inr x) (.str x t)=true:=by simp[VI,Value.isStrOf]
theorem key_ll(a b:Int):decide ((Sum.inl a:Key)=Sum.inl b)=(a==b):=by
 by_cases e:a=b
 ·subst e;simp
 ·have h:¬(Sum.inl a:Key)=Sum.inl b:=fun q=>e (jM q);rw[im h];exact(ju.mpr e).symm
theorem key_rr(a b:Str):decide ((Sum.inr a:Key)=Sum.inr b)=decide (a=b):=by
 by_cases e:a=b
 ·subst e;simp
 ·have h:¬(Sum.inr a:Key)=Sum.inr b:=fun q=>e (jz q);rw[im h,im e]
theorem key_lr(a:Int)(b:Str):decide ((Sum.inl a:Key)=Sum.inr b)=false:=im (fun q=>nomatch q)
theorem key_rl(a:Str)(b:Int):decide ((Sum.inr a:Key)=Sum.inl b)=false:=im (fun q=>nomatch q)
def ZW(prog:Program)(w:World):PySem.KeyKind prog w Key where
 is:=VI
 hash:=keyH w
 inj:=fun v a b ha hb=>by
  rcases Yb ha with⟨i,t,rfl,rfl⟩|⟨x,t,rfl,rfl⟩
  ·rcases Yb hb with⟨j,u,rfl,e⟩|⟨y,u,rfl,e⟩
   ·injection e with e1 _;rw[e1]
   ·exact nomatch e
  ·rcases Yb hb with⟨j,u,rfl,e⟩|⟨y,u,rfl,e⟩
   ·exact nomatch e
   ·injection e with e1 _;rw[e1]
 byValue:=fun k v h=>by
  rcases Yb h with⟨i,t,rfl,rfl⟩|⟨x,t,rfl,rfl⟩<;>rfl
 pyHash:=fun hv h=>by
  rcases Yb hv with⟨i,t,rfl,rfl⟩|⟨x,t,rfl,rfl⟩
  ·exact wpAny_pyHash_int h
  ·exact wpAny_pyHash_str h
 eqBool:=fun hu hv h=>by
  rcases Yb hu with⟨i,t,rfl,rfl⟩|⟨x,t,rfl,rfl⟩
  ·rcases Yb hv with⟨j,u,rfl,rfl⟩|⟨y,u,rfl,rfl⟩
   ·rw[key_ll] at h;exact wpAny_eqBool_int h
   ·rw[key_lr] at h;exact SeqAt.EqAt.int_str i t y u _ _ _ _ h
  ·rcases Yb hv with⟨j,u,rfl,rfl⟩|⟨y,u,rfl,rfl⟩
   ·rw[key_rl] at h;exact SeqAt.EqAt.str_int x t j u _ _ _ _ h
   ·rw[key_rr] at h;exact wpAny_eqBool_str h
 «strs» := fun k x t v h=>by
  rcases Yb h with⟨i,u,rfl,e⟩|⟨y,u,rfl,e⟩
  ·exact nomatch e
  ·injection e with e1 _;subst e1;cases v<;>rfl
theorem xy(prog:Program)(w:World)(i:Int)(t:Tok):(ZW prog w).is (.inl i) (.int i t)=true:=keyIs_int i t
theorem xD(prog:Program)(w:World)(x:Str)(t:Tok):(ZW prog w).is (.inr x) (.str x t)=true:=zY x t
inductive V where
 |non|bl (b:Bool)|int (i:Int)|str (x:Str)|byt (b:Array UInt8)|flt (b:UInt64)|ref (a:Addr)|ty (n:String)
 deriving DecidableEq
def ZU:V->Value->Prop
 |.non,u=>u=Value.none
 |.bl b,u=>u=Value.bool b
 |.int i,u=>∃t,u=Value.int i t
 |.str x,u=>∃t,u=Value.str x t
 |.byt b,u=>∃t,u=Value.bytes b t
 |.flt b,u=>∃t,u=Value.float b t
 |.ref a,u=>u=Value.ref a
 |.ty n,u=>u=Value.type n
abbrev ZN:List V->List Value->Prop:=Paired ZU
theorem ZN.length{xs:List V}{us:List Value}(r:ZN xs us):xs.length=us.length:=j9 r
theorem ZN.get:∀{xs:List V}{us:List Value}{i:Nat}{x:V},ZN xs us->xs[i]?=some x->∃u,us[i]?=some u/\ZU x u
 |_,_,_,_,.nil,e=>by simp at e
 |_,_,0,_,.cons r _,e=>by simp at e;subst e;exact⟨_,rfl,r⟩
 |_,_,i+1,x,.cons _ t,e=>by
  obtain⟨u,h1,h2⟩:=ZN.get (i:=i) (x:=x) t (by simpa using e);exact⟨u,by simpa using h1,h2⟩
theorem ZN.append:∀{xs ys:List V}{us ws:List Value},ZN xs us->ZN ys ws->ZN (xs++ys) (us++ws)
 |_,_,_,_,.nil,s=>s
 |_,_,_,_,.cons r t,s=>.cons r (ZN.append t s)
theorem ZN.take:∀{xs:List V}{us:List Value} (n:Nat),ZN xs us->ZN (xs.take n) (us.take n)
 |_,_,0,_=>.nil
 |_,_,_+1,.nil=>.nil
 |_,_,n+1,.cons r t=>.cons r (ZN.take n t)
theorem ZN.drop:∀{xs:List V}{us:List Value} (n:Nat),ZN xs us->ZN (xs.drop n) (us.drop n)
 |_,_,0,r=>r
 |_,_,_+1,.nil=>.nil
 |_,_,n+1,.cons _ t=>ZN.drop n t
def VT:Option V->Option Value->Prop
 |some v,some u=>ZU v u
 |none,none=>True
 |_,_=>False
def KV{κ:Type}:List (κ×V)->List (κ×Value)->Prop:=Paired fun(p:κ×V) (q:κ×Value)=>p.1=q.1/\ZU p.2 q.2
def kV:Key->V
 |.inl i=>.int i
 |.inr x=>.str x
inductive HO where
 |lst (xs:List V)
 |tup (xs:List V)
 |dK (kvs:List (Key×V))|dT (kvs:List (List Key×V))
 |set (S:Int->Bool) (n:Nat)
 |ins (C dx:Addr) (fs:List (Str×V))
 |own (x:Addr)
 |xd (fs:List (Str×V))
 |met (f x:Addr)
 |rng (lo hi:Int)
 |frz (o:Obj) (u:HO)
 |tbl (ps:Array Value)
 |ext (φ:Heap->Prop)
abbrev Hp:=Addr->Option HO
def upd(H:Hp)(a:Addr)(o:HO):Hp:=fun b=>if b=a then some o else H b
theorem Zf{H:Hp}{a:Addr}{o:HO}:upd H a o a=some o:=by unfold upd;rw[if_pos rfl]
theorem ZS{H:Hp}{a b:Addr}{o:HO}(h:b≠a):upd H a o b=H b:=by unfold upd;rw[if_neg h]
theorem YR{H:Hp}{a b:Addr}{o u:HO}(h:H a=some o)(h':H b=some u)(d:o≠u):a≠b:=by
 intro e;subst e;rw[h] at h';exact d (iB h')
theorem Zy{H:Hp}{a b:Addr}{o:HO}(h:H a=some o)(h':H b=none):a≠b:=by
 intro e;subst e;rw[h] at h';cases h'
section
variable(P:Program)(w:World)
def Yx(H:Hp)(h:Heap)(a:Addr):HO->Prop
 |.lst xs=>xs.length<=sizeLine/\∃(its:List Value) (n:Nat),ZN xs its/\h.get? a=some { cls:=.type "list",data:=.seq its.toArray n }
 |.tup xs=>xs.length<=sizeLine/\∃its:List Value,ZN xs its/\IsTup h a its.toArray
 |.dK kvs=>kvs.length<=sizeLine/\(a==sysModules)=false/\∃vs,KV kvs vs/\h.DictOf (ZW P w) a vs
 |.dT kvs=>kvs.length<=sizeLine/\(a==sysModules)=false/\∃xs:List (List Key×Addr×Value),
   Paired (fun(p:List Key×V) (q:List Key×Addr×Value)=>p.1=q.1/\H q.2.1=some (.tup (p.1.map kV))/\ZU p.2 q.2.2) kvs xs /\
   ∃o es ep,h.get? a=some o/\o.ExactDict/\o.data=.dict es ep/\es.toList=xs.map (entryOfKey (tupleKind (ZW P w)))/\(xs.map (·.1)).Nodup
 |.set S n=>h.SetOf (intKind P w) a S n
 |.ins C dx fs=>H dx=some (.own a)/\fs.length<=1000/\dx≠a/\h.get? a=some (W.instObj C dx) /\
   ∃mA,h.Ns1 dx mA/\(∀f,VT (fs.lookup f) (mA f))/\PySem.Within mA (fs.map (·.1))
 |.own _=>∃o,h.get? a=some o
 |.xd fs=>∃mA,h.Ns1 a mA/\∀f,VT (fs.lookup f) (mA f)
 |.rng lo hi=>∃t u v,h.get? a=some { cls:=.type "range",data:=.fields #[.int lo t,.int hi u,.int 1 v] }
 |.frz o u=>h.get? a=some o/\Yx H h a u
 |.tbl ps=>h.get? a=some { cls:=.none,data:=.fields ps }
 |.met f x=>h.get? a=some (W.methodObj (.ref f) (.ref x))
 |.ext φ=>φ h/\(∃o,h.get? a=some o)/\∀h1 h2:Heap,φ h1->(∀o,h1.get? a=some o->h2.get? a=some o)->φ h2
def HOk(H:Hp)(h:Heap):Prop:=∀a o,H a=some o->Yx P w H h a o
end
section
variable{P:Program}{w:World}{H H':Hp}{h h':Heap}{a:Addr}{o:HO}
theorem Yx.lt(x:Yx P w H h a o):a<h.objs.size:=by
 cases o with
 |lst xs=>obtain⟨_,_,_,_,e⟩:=x;exact ii e
 |tup xs=>obtain⟨_,_,_,p⟩:=x;exact p.lt
 |dK kvs=>obtain⟨_,_,_,_,o,_,_,e,_⟩:=x;exact ii e
 |dT kvs=>obtain⟨_,_,_,_,o,_,_,e,_⟩:=x;exact ii e
 |set S n=>obtain⟨o,_,_,_,e,_⟩:=x;exact ii e
 |ins C dx fs=>obtain⟨_,_,_,e,_⟩:=x;exact ii e
 |own y=>obtain⟨_,e⟩:=x;exact ii e
 |xd fs=>obtain⟨_,⟨_,_,_,e,_⟩,_⟩:=x;exact ii e
 |rng lo hi=>obtain⟨_,_,_,e⟩:=x;exact ii e
 |frz ob u=>obtain⟨e,_⟩:=x;exact ii e
 |tbl ps=>exact ii (show h.get? a=some _ from x)
 |met f y=>exact ii (show h.get? a=some _ from x)
 |ext φ=>obtain⟨_,⟨_,e⟩,_⟩:=x;exact ii e
theorem Paired.mapP{α β:Type}{F G:α->β->Prop}:∀{l₁:List α}{l₂:List β},Paired F l₁ l₂->(∀a b,F a b->G a b)->Paired G l₁ l₂
 |_,_,.nil,_=>.nil
 |_,_,.cons r t,f=>.cons (f _ _ r) (Paired.mapP t f)
theorem Yx.stay(x:Yx P w H h a o)(k:∀b u,(b=a\/H b=some (.own a))->h.get? b=some u->h'.get? b=some u)
  (ho:∀b,H b=some (.own a)->H' b=some (.own a)) (ht:∀b xs,H b=some (.tup xs)->H' b=some (.tup xs)):Yx P w H' h' a o:=by
 induction o with
 |lst xs=>obtain⟨z,its,n,r,e⟩:=x;exact⟨z,its,n,r,k _ _ (.inl rfl) e⟩
 |tup xs=>obtain⟨z,its,r,ob,e,c⟩:=x;exact⟨z,its,r,ob,k _ _ (.inl rfl) e,c⟩
 |dK kvs=>obtain⟨z,y,vs,r,ob,es,ep,e,c⟩:=x;exact⟨z,y,vs,r,ob,es,ep,k _ _ (.inl rfl) e,c⟩
 |dT kvs=>
  obtain⟨z,y,xs,r,ob,es,ep,e,c⟩:=x;exact⟨z,y,xs,Paired.mapP r fun p q z=>⟨z.1,ht _ _ z.2.1,z.2.2⟩,ob,es,ep,k _ _ (.inl rfl) e,c⟩
 |set S n=>obtain⟨ob,es,ep,t,e,c⟩:=x;exact⟨ob,es,ep,t,k _ _ (.inl rfl) e,c⟩
 |ins C dx fs=>
  obtain⟨d,z,ne,e,mA,⟨od,es,ep,e2,c⟩,r⟩:=x;exact⟨ho _ d,z,ne,k _ _ (.inl rfl) e,mA,⟨od,es,ep,k _ _ (.inr d) e2,c⟩,r⟩
 |own y=>obtain⟨ob,e⟩:=x;exact⟨ob,k _ _ (.inl rfl) e⟩
 |xd fs=>obtain⟨mA,⟨od,es,ep,e,c⟩,r⟩:=x;exact⟨mA,⟨od,es,ep,k _ _ (.inl rfl) e,c⟩,r⟩
 |rng lo hi=>obtain⟨t,u,v,e⟩:=x;exact⟨t,u,v,k _ _ (.inl rfl) e⟩
 |frz ob u ih=>obtain⟨e,q⟩:=x;exact⟨k _ _ (.inl rfl) e,ih q⟩
 |tbl ps=>
  have e:h.get? a=some { cls:=.none,data:=.fields ps }:=x
  show h'.get? a=some { cls:=.none,data:=.fields ps }
  exact k a _ (.inl rfl) e
 |met f y=>
  have e:h.get? a=some (W.methodObj (.ref f) (.ref y)):=x
  show h'.get? a=some (W.methodObj (.ref f) (.ref y))
  exact k a _ (.inl rfl) e
 |ext φ=>obtain⟨p,⟨o,e⟩,st⟩:=x;exact⟨st _ _ p fun o q=>k _ _ (.inl rfl) q,⟨o,k _ _ (.inl rfl) e⟩,st⟩
theorem HOk.lt(x:HOk P w H h)(e:H a=some o):a<h.objs.size:=(x a o e).lt
theorem HOk.fresh(x:HOk P w H h)(e:h.objs.size<=a):H a=none:=by
 cases q:H a with
 |none=>rfl
 |some u=>exact absurd (iP (x.lt q) e) (jA _)
theorem HOk.kept(x:HOk P w H h)(k:∀b u,h.get? b=some u->h'.get? b=some u):HOk P w H h':=fun a o e=>
 (x a o e).stay (fun b u _ q=>k b u q) (fun _ q=>q) fun _ _ q=>q
theorem HOk.laid(x:HOk P w H h)(k:∀b u,h.get? b=some u->h'.get? b=some u)(hp:h.objs.size<=a)(new:Yx P w (upd H a o) h' a o):HOk P w (upd H a o) h':=fun b u e=>by
 have hn:=x.fresh hp
 by_cases hb:b=a
 ·subst hb;rw[Zf] at e;cases e;exact new
 ·rw[ZS hb] at e;exact(x b u e).stay (fun c v _ q=>k c v q) (fun c q=>by rw[ZS (Zy q hn)];exact q) fun c xs q=>by rw[ZS (Zy q hn)];exact q
end
def Rd(H:Hp)(a:Addr)(u:HO):Prop:=H a=some u\/∃o,H a=some (.frz o u)
theorem Rd.ok{P:Program}{w:World}{H:Hp}{h:Heap}{a:Addr}{u:HO}(r:Rd H a u)(x:HOk P w H h):Yx P w H h a u:=by
 rcases r with r|⟨o,r⟩
 ·exact x a u r
 ·obtain⟨_,q⟩:=x a _ r;exact q
def Mut:Option HO->Prop
 |some (.lst _)=>True
 |some (.dK _)=>True
 |some (.dT _)=>True
 |some (.set _ _)=>True
 |some (.ins _ _ _)=>True
 |some (.ext _)=>True
 |_=>False
section
variable{P:Program}{w:World}{H:Hp}{h h':Heap}{x e:Addr}{o':HO}
theorem HOk.write(ok:HOk P w H h)(mu:Mut (H x))(he:e=x\/H e=some (.own x))(k:∀b u,b≠e->h.get? b=some u->h'.get? b=some u)(heo:∃u,h'.get? e=some u)
  (new:Yx P w (upd H x o') h' x o'):HOk P w (upd H x o') h':=fun b u q=>by
 have nown:∀c y,H c=some (.own y)->c≠x:=fun c y r z=>by subst z;rw[r] at mu;exact mu
 have ntup:∀c xs,H c=some (.tup xs)->c≠x:=fun c xs r z=>by subst z;rw[r] at mu;exact mu
 by_cases hb:b=x
 ·subst hb;rw[Zf] at q;cases q;exact new
 ·rw[ZS hb] at q
  by_cases hbe:b=e
  ·have q':H b=some (.own x):=by
    rcases he with z|z
    ·exact absurd (hbe.trans z) hb
    ·rw[hbe];exact z
   rw[q] at q';cases q';obtain⟨v,hv⟩:=heo;exact⟨v,by rw[hbe];exact hv⟩
  ·refine(ok b u q).stay (fun c v hc r=>k c v ?_ r) (fun c r=>by rw[ZS (nown c b r)];exact r) fun c xs r=>by rw[ZS (ntup c xs r)];exact r
   rcases hc with rfl|hc
   ·exact hbe
   ·rintro rfl;rcases he with z|z
    ·exact nown c b hc z
    ·rw[hc] at z;cases z;exact hb rfl
end
structure Un(fs ex:List Addr)(H H':Hp)(h h':Heap):Prop where
 keep:∀b o,h.get? b=some o->H b=none->b∉fs->b∉ex->h'.get? b=some o
 slot:∀b o,h.get? b=some o->H b=none->b∈fs->b∉ex->∃sl,h'.get? b=some { o with slots:=sl }
 free:∀b o,h.get? b=some o->H b=none->b∉ex->H' b=none
 there:∀b o,h.get? b=some o->b∉ex->∃o',h'.get? b=some o'
 tups:∀b xs,H b=some (.tup xs)->H' b=some (.tup xs)
 frzs:∀b o u,H b=some (.frz o u)->H' b=some (.frz o u)
 tbls:∀b ps,H b=some (.tbl ps)->∃more,H' b=some (.tbl (ps++more))
section
variable{fs fs' ex ex':List Addr}{H H1 H2:Hp}{h h1 h2 h':Heap}{a x e:Addr}{o:HO}
theorem Un.any(u:Un fs ex H H1 h h1){b:Addr}{ob:Obj}(q:h.get? b=some ob)(n:H b=none)(hx:b∉ex):∃sl,h1.get? b=some { ob with slots:=sl }:=by
 by_cases hb:b∈fs
 ·exact u.slot b ob q n hb hx
 ·exact⟨ob.slots,u.keep b ob q n hb hx⟩
theorem Un.kept(k:∀b u,h.get? b=some u->h'.get? b=some u):Un fs ex H H h h':=
 ⟨fun b ob q _ _ _=>k b ob q,fun b ob q _ _ _=>⟨ob.slots,k b ob q⟩,fun _ _ _ n _=>n,fun b ob q _=>⟨ob,k b ob q⟩,fun _ _ q=>q,fun _ _ _ q=>q,fun _ ps q=>⟨#[],by rw[q];simp⟩⟩
theorem Un.refl:Un fs ex H H h h:=Un.kept fun _ _ q=>q
theorem Un.laid(k:∀b u,h.get? b=some u->h'.get? b=some u)(hp:h.objs.size<=a)(hn:H a=none):Un fs ex H (upd H a o) h h' where
 keep:=fun b u q _ _ _=>k b u q
 slot:=fun b u q _ _ _=>⟨u.slots,k b u q⟩
 free:=fun b u q n _=>by rw[ZS (iC (iP (ii q) hp))];exact n
 there:=fun b u q _=>⟨u,k b u q⟩
 tups:=fun b xs q=>by rw[ZS (Zy q hn)];exact q
 frzs:=fun b u xs q=>by rw[ZS (Zy q hn)];exact q
 tbls:=fun b ps q=>⟨#[],by rw[ZS (Zy q hn),q];simp⟩
theorem Un.write(mu:Mut (H x))(he:e=x\/H e=some (.own x))(k:∀b u,b≠e->h.get? b=some u->h'.get? b=some u)(heo:∃u,h'.get? e=some u):Un fs ex H (upd H x o) h h':=by
 have hx:∀b,H b=none->b≠x:=fun b n z=>by subst z;rw[n] at mu;exact mu
 have hb:∀b,H b=none->b≠e:=fun b n z=>by
  subst z;rcases he with r|r
  ·exact hx b n r
  ·rw[n] at r;cases r
 have hm:∀b u,H b=some u->¬Mut (some u)->b≠x:=fun b u q nm z=>by subst z;rw[q] at mu;exact nm mu
 refine⟨fun b u q n _ _=>k b u (hb b n) q,fun b u q n _ _=>⟨u.slots,k b u (hb b n) q⟩,fun b u q n _=>by rw[ZS (hx b n)];exact n,fun b u q _=>?_,
  fun b xs q=>by rw[ZS (hm b _ q fun z=>z)];exact q,fun b u xs q=>by rw[ZS (hm b _ q fun z=>z)];exact q,fun b ps q=>⟨#[],by rw[ZS (hm b _ q fun z=>z),q];simp⟩⟩
 by_cases hbe:b=e
 ·subst hbe;exact heo
 ·exact⟨u,k b u hbe q⟩
end
def trk(h:Heap)(H:Hp):List Addr:=(List.range h.objs.size).filter fun a=>(H a).isSome
def hidT(h:Heap)(H:Hp):Heap:=W.hideAll h (trk h H)
theorem hidT_size(h:Heap)(H:Hp):(hidT h H).objs.size=h.objs.size:=W.hideAll_size _ _
theorem hidT_get{h:Heap}{H:Hp}{b:Addr}{o:Obj}(e:h.get? b=some o)(n:H b=none):(hidT h H).get? b=some o:=
 kC _ e fun hm=>by
  have q:(H b).isSome=true:=(jB.mp hm).2;rw[n] at q;simp at q
theorem of_hidT{h:Heap}{H:Hp}{b:Addr}{o:Obj}(e:(hidT h H).get? b=some o):h.get? b=some o/\H b=none:=by
 have e':h.get? b=some o:=W.of_hideAll (trk h H) e;refine⟨e',?_⟩;cases q:H b with
 |none=>rfl
 |some x=>
  have hm:b∈trk h H:=jB.mpr ⟨List.mem_range.mpr (ii e'),by simp[q]⟩;have z:(hidT h H).get? b=none:=ka (trk h H) hm;rw[z] at e;cases e
def allNews(g h:Heap)(L:Addr):List (Addr×Obj):=(List.range h.objs.size).filterMap fun a=>if a=L\/(g.get? a).isSome=true then none else(h.get? a).map fun o=>(a,o)
def Wv(g h:Heap)(L d:Addr):List (Addr×Obj):=(allNews g h L).filter fun p=>decide (p.1≠d)
structure Mod(K:W.Frag)(mg:Str->Option Value)(base:Heap):Prop where
 kin:K.In base
 glob:base.Ns mainGlobals mg
 blt:∃mb,base.Ns builtinsNs mb/\∀x:Str,x ≠ "__name__" -> mb x=bootBuiltins x
 nolimit:base.NoLimit
structure Cx where
 prog:Program
 w:World
 K:W.Frag
 mg:Str->Option Value
 base:Heap
 A:Around
 N:List Str
 s₀:Shared
 H₀:Hp
 env:Env
 outer:List Env
 stack:List Env
 ex:List Addr
 fn:Str->Bool
 calm:Bool
 pn:List (Addr×Obj)
 xe:Value->Shared->Prop
def frs(l:List Env):List Addr:=l.filterMap (·.frame)
abbrev Cx.fs(X:Cx):List Addr:=frs X.outer
def Vis(sc:Scope)(x:Str):Prop:=sc.names.lookup x=some .local\/sc.names.lookup x=some .cell\/sc.names.lookup x=some .free
def Loc(sc:Scope)(x:Str):Prop:=sc.names.lookup x=some .local\/sc.names.lookup x=some .cell
def Look(env:Env)(h:Heap)(m:Str->Option Value)(x:Str)(u:Value):Prop:=
 (env.kindOf x=some .local/\m x=some u)\/((env.kindOf x=some .cell\/env.kindOf x=some .free)/\∃c,env.cells.lookup x=some c/\h.IsCell c (some u))
structure Cx.Ok(X:Cx):Prop where
 mod:Mod X.K X.mg X.base
 kind:X.env.scope.kind=.function
 glob:X.env.globals=mainGlobals
 blt:X.env.builtins=builtinsNs
 above:X.s₀.heap.objs.size<=X.env.locals
 inj:∀x y c,X.env.cells.lookup x=some c->X.env.cells.lookup y=some c->x=y
 has:∀x,(X.env.kindOf x=some .cell\/X.env.kindOf x=some .free)->∃c,X.env.cells.lookup x=some c
 cab:∀x c,X.fn x=true->X.env.cells.lookup x=some c->X.s₀.heap.objs.size<=c
 hd:X.calm=true->X.A.handled=none
 frames:X.A.frames=some X.stack
 stk:X.stack=X.outer\/(X.stack=X.env::X.outer/\X.env.frame=some X.env.locals)
 exf:∀b∈X.ex,b≠X.env.locals/\∀x c,X.env.cells.lookup x=some c->c≠b
 bs:∀b o,X.base.get? b=some o->X.s₀.heap.get? b=some o/\X.H₀ b=none
 bsz:X.base.objs.size<=X.s₀.heap.objs.size
 noex:∀b o,X.base.get? b=some o->b∉X.ex
 exfs:∀b∈X.ex,b∉X.fs
 funs:X.s₀.heap.FunFrames X.base X.outer
 frf:∀b∈X.fs,X.H₀ b=none
structure Inv(X:Cx)(gE:List (Addr×Obj))(σ:List (Option V))(H:Hp)(s:Shared):Prop where
 ok:X.Ok
 os:s.os=X.s₀.os
 bare:AllBare s.gens
 base:Un X.fs X.ex X.H₀ H X.s₀.heap s.heap
 loc:∃m,s.heap.Ns X.env.locals m/\∀(i:Nat) (x:Str) (v:V),X.N[i]?=some x->σ[i]?=some (some v)->Vis X.env.scope x->∃u,ZU v u/\Look X.env s.heap m x u
 cell:∀x c,X.env.cells.lookup x=some c->∃v,s.heap.IsCell c v
 free:H X.env.locals=none
 freeC:∀x c,X.env.cells.lookup x=some c->H c=none
 pin:∀p∈X.pn++gE,s.heap.get? p.1=some p.2/\H p.1=none/\p.1≠X.env.locals/\p.1∉X.fs/\∀v,p.2.data≠.cell v
 hok:HOk X.prog X.w H s.heap
 len:σ.length=X.N.length
section
variable{X:Cx}{gE:List (Addr×Obj)}{σ:List (Option V)}{H H':Hp}{s:Shared}{h':Heap}
theorem Cx.Ok.nofr(ok:X.Ok){b:Addr}{o:Obj}(e:X.base.get? b=some o):b∉X.fs:=fun hb=>by
 have:=(ok.funs.mem hb).1;rw[e] at this;cases this
theorem Inv.bs(I:Inv X gE σ H s):∀b o,X.base.get? b=some o->s.heap.get? b=some o/\H b=none:=fun b o e=>
 ⟨I.base.keep b o (I.ok.bs b o e).1 (I.ok.bs b o e).2 (I.ok.nofr e) (I.ok.noex b o e),I.base.free b o (I.ok.bs b o e).1 (I.ok.bs b o e).2 (I.ok.noex b o e)⟩
theorem Inv.bk(I:Inv X gE σ H s):∀b o,X.base.get? b=some o->s.heap.get? b=some o:=fun b o e=>(I.bs b o e).1
theorem Inv.mod(I:Inv X gE σ H s):Mod X.K X.mg X.base:=I.ok.mod
theorem Inv.kIn(I:Inv X gE σ H s):X.K.In s.heap:=I.ok.mod.kin.keeps I.bk
theorem Inv.fr(I:Inv X gE σ H s):∃m,Fr X.base X.env.locals s.heap m:=
 let ⟨m,hn,_⟩:=I.loc
 ⟨m,hn,I.bk,iq I.ok.bsz I.ok.above⟩
theorem Inv.lt(I:Inv X gE σ H s):X.env.locals<s.heap.objs.size:=let ⟨_,hn,_⟩:=I.loc;hn.lt
theorem Inv.sz(I:Inv X gE σ H s):X.s₀.heap.objs.size<=s.heap.objs.size:=iq I.ok.above (Nat.le_of_lt I.lt)
theorem Inv.nofs(I:Inv X gE σ H s){a:Addr}(h:s.heap.objs.size<=a):a∉X.fs:=fun hb=>by
 obtain⟨_,o,ho,_⟩:=I.ok.funs.mem hb;exact absurd (iP (ii ho) (iq I.sz h)) (jA _)
theorem Inv.cne(I:Inv X gE σ H s):∀x c,X.env.cells.lookup x=some c->c≠X.env.locals:=fun x c e z=>by
 obtain⟨v,o,ho,hd⟩:=I.cell x c e;obtain⟨m,⟨o',es,ep,ho',hd',_⟩,_⟩:=I.loc;rw[z,ho'] at ho;cases ho;rw[hd'] at hd;cases hd
theorem Inv.funs(I:Inv X gE σ H s):s.heap.FunFrames X.base X.outer:=by
 have all:∀(l:List Env),(∀b∈frs l,b∈X.fs)->X.s₀.heap.FunFrames X.base l->s.heap.FunFrames X.base l:=by
  intro l
  induction l with
  |nil=>intro _ _;trivial
  |cons env r ih=>
   intro hs hl;obtain⟨hk,⟨L,o,hf,hn,ho,hd⟩,hr⟩:=hl;have hL:L∈X.fs:=hs L (by unfold frs;rw[kE,hf];exact jN);obtain⟨sl,e⟩:=I.base.slot L o ho (I.ok.frf L hL) hL fun z=>I.ok.exfs L z hL;exact⟨hk,⟨L,_,hf,hn,e,hd⟩,ih (fun b hb=>hs b (by unfold frs;rw[kE,hf];exact hU _ hb)) hr⟩
 exact all X.outer (fun _ hb=>hb) I.ok.funs
theorem Inv.stack(I:Inv X gE σ H s):s.heap.FunFrames X.base X.stack:=by
 rcases I.ok.stk with e|⟨e,hf⟩
 ·rw[e];exact I.funs
 ·rw[e];obtain⟨m,hn,_⟩:=I.loc;refine .cons (by rw[I.ok.kind];decide) hf hn ?_ I.funs;exact Heap.get?_none_of_le (iq I.ok.bsz I.ok.above)
theorem Inv.stkSub(I:Inv X gE σ H s):∀b∈frs X.stack,b∈X.env.locals::X.fs:=fun b hb=>by
 rcases I.ok.stk with e|⟨e,hf⟩
 ·rw[e] at hb;exact hU _ hb
 ·rw[e] at hb;unfold frs at hb;rw[kE,hf] at hb;exact hb
theorem Inv.stkFree(I:Inv X gE σ H s):∀b∈frs X.stack,H b=none:=fun b hb=>by
 rcases ic.mp (I.stkSub b hb) with e|hb
 ·rw[e];exact I.free
 ·obtain⟨_,o,ho,_⟩:=I.ok.funs.mem hb;exact I.base.free b o ho (I.ok.frf b hb) fun z=>I.ok.exfs b z hb
theorem Inv.step{g':Array GenState}{t':Nat}{d':Drawn}{ch:List Addr}(I:Inv X gE σ H s)
  (hch:∀b∈ch,(b∈X.ex\/X.s₀.heap.objs.size<=b)/\b≠X.env.locals/\(∀x c,X.env.cells.lookup x=some c->c≠b)/\∀p∈X.pn++gE,p.1≠b)
  (keep:∀b o,b≠X.env.locals->b∉X.fs->b∉ch->s.heap.get? b=some o->H b=none->h'.get? b=some o)
  (slot:∀b o,b≠X.env.locals->b∈X.fs->b∉ch->s.heap.get? b=some o->H b=none->∃sl,h'.get? b=some { o with slots:=sl }) (free:∀b o,b∉ch->s.heap.get? b=some o->H b=none->H' b=none)
  (there:∀b o,b∉ch->s.heap.get? b=some o->∃o',h'.get? b=some o')
  (tups:∀b xs,H b=some (.tup xs)->H' b=some (.tup xs)) (frzs:∀b o u,H b=some (.frz o u)->H' b=some (.frz o u)) (tbls:∀b ps,H b=some (.tbl ps)->∃more,H' b=some (.tbl (ps++more)))
  (ns:∀m,s.heap.Ns X.env.locals m->h'.Ns X.env.locals m) (hok:HOk X.prog X.w H' h') (hg:AllBare g') :
  Inv X gE σ H' { s with heap:=h',gens:=g',drawn:=d',toks:=t' }:=by
 have neL:∀b o,X.s₀.heap.get? b=some o->b≠X.env.locals:=fun b o e=>iC (iP (ii e) I.ok.above);have neC:∀b o,X.s₀.heap.get? b=some o->b∉X.ex->b∉ch:=fun b o e hx hb=>by
  rcases(hch b hb).1 with z|z
  ·exact hx z
  ·exact absurd (iP (ii e) z) (jA _)
 have cellK:∀x c,X.env.cells.lookup x=some c->∀v,s.heap.IsCell c v->h'.IsCell c v:=fun x c e v ⟨o,ho,hd⟩=>by
  have nch:c∉ch:=fun z=>(hch c z).2.2.1 x c e rfl
  by_cases hc:c∈X.fs
  ·obtain⟨sl,q⟩:=slot c o (I.cne x c e) hc nch ho (I.freeC x c e);exact⟨_,q,hd⟩
  ·exact⟨o,keep c o (I.cne x c e) hc nch ho (I.freeC x c e),hd⟩
 refine⟨I.ok,I.os,hg,⟨fun b o e n hb hx=>?_,fun b o e n hb hx=>?_,fun b o e n hx=>?_,fun b o e hx=>?_,fun b xs e=>tups b xs (I.base.tups b xs e),fun b o xs e=>frzs b o xs (I.base.frzs b o xs e),fun b ps e=>?_⟩,?_,fun x c e=>?_,?_,fun x c e=>?_,fun p hp=>?_,hok,I.len⟩
 ·exact keep b o (neL b o e) hb (neC b o e hx) (I.base.keep b o e n hb hx) (I.base.free b o e n hx)
 ·obtain⟨sl,e1⟩:=I.base.slot b o e n hb hx;obtain⟨sl',e2⟩:=slot b _ (neL b o e) hb (neC b o e hx) e1 (I.base.free b o e n hx);exact⟨sl',e2⟩
 ·obtain⟨o',e1⟩:=I.base.there b o e hx;exact free b o' (neC b o e hx) e1 (I.base.free b o e n hx)
 ·obtain⟨o',e1⟩:=I.base.there b o e hx;exact there b o' (neC b o e hx) e1
 ·obtain⟨m1,e1⟩:=I.base.tbls b ps e;obtain⟨m2,e2⟩:=tbls b _ e1;exact⟨m1++m2,by rw[e2,Array.append_assoc]⟩
 ·obtain⟨m,hn,hl⟩:=I.loc;refine⟨m,ns m hn,fun i x v e1 e2 e3=>?_⟩;obtain⟨u,r,l⟩:=hl i x v e1 e2 e3;refine⟨u,r,?_⟩;rcases l with l|⟨k,c,e,z⟩
  ·exact .inl l
  ·exact .inr ⟨k,c,e,cellK x c e _ z⟩
 ·obtain⟨v,z⟩:=I.cell x c e;exact⟨v,cellK x c e v z⟩
 ·obtain⟨m,⟨o,_,_,ho,_⟩,_⟩:=I.loc;exact free _ o (fun z=>(hch _ z).2.1 rfl) ho I.free
 ·obtain⟨v,o,ho,hd⟩:=I.cell x c e;exact free c o (fun z=>(hch c z).2.2.1 x c e rfl) ho (I.freeC x c e)
 ·obtain⟨e,n,ne,nf,d⟩:=I.pin p hp;have nch:p.1∉ch:=fun z=>(hch p.1 z).2.2.2 p hp rfl;exact⟨keep p.1 p.2 ne nf nch e n,free p.1 p.2 nch e n,ne,nf,d⟩
theorem Inv.un{t':Nat}(I:Inv X gE σ H s)(u:Un X.fs [] H H' s.heap h')(hok:HOk X.prog X.w H' h'):Inv X gE σ H' { s with heap:=h',toks:=t' }:=by
 obtain⟨m,⟨o,es,ep,ho,r⟩,_⟩:=id I.loc;obtain⟨sl,hL⟩:=u.any ho I.free (by simp);exact I.step (g':=s.gens) (d':=s.drawn) (ch:=[]) (fun _ z=>nomatch z) (fun b o _ hb _ e n=>u.keep b o e n hb (by simp)) (fun b o _ hb _ e n=>u.slot b o e n hb (by simp)) (fun b o _ e n=>u.free b o e n (by simp)) (fun b o _ e=>u.there b o e (by simp)) u.tups u.frzs u.tbls (fun m' hm=>by
  obtain⟨o',es',ep',ho',r'⟩:=hm;rw[ho] at ho';cases ho';exact⟨_,es',ep',hL,r'⟩) hok I.bare
theorem Inv.call{g':Array GenState}{t':Nat}{d':Drawn}{ch:List Addr}(I:Inv X gE σ H s)(u:Un (frs X.stack) ch H H' s.heap h')(hok:HOk X.prog X.w H' h')(hg:AllBare g')
  (hch:∀b∈ch,(b∈X.ex\/X.s₀.heap.objs.size<=b)/\b≠X.env.locals/\(∀x c,X.env.cells.lookup x=some c->c≠b)/\∀p∈X.pn++gE,p.1≠b) :
  Inv X gE σ H' { s with heap:=h',gens:=g',drawn:=d',toks:=t' }:=by
 obtain⟨m,⟨o,es,ep,ho,r⟩,_⟩:=id I.loc;obtain⟨sl,hL⟩:=u.any ho I.free fun z=>(hch _ z).2.1 rfl;exact I.step (ch:=ch) hch (fun b o hL hb hc e n=>u.keep b o e n (fun z=>(ic.mp (I.stkSub b z)).elim hL hb) hc) (fun b o _ _ hc e n=>u.any e n hc) (fun b o hc e n=>u.free b o e n hc) (fun b o hc e=>u.there b o e hc) u.tups u.frzs u.tbls (fun m' hm=>by
  obtain⟨o',es',ep',ho',r'⟩:=hm;rw[ho] at ho';cases ho';exact⟨_,es',ep',hL,r'⟩) hok hg
theorem Inv.turned{t':Nat}{it:Addr}(I:Inv X gE σ H s)(k:∀b o,b≠it->s.heap.get? b=some o->h'.get? b=some o)(hn:H it=none)(hL:it≠X.env.locals)
  (h1:it∈X.ex\/X.s₀.heap.objs.size<=it) (h2:∀x c,X.env.cells.lookup x=some c->c≠it) (h3:∀p∈X.pn++gE,p.1≠it):Inv X gE σ H { s with heap:=h',toks:=t' }:=by
 have nit:∀b u,H b=some u->b≠it:=fun b u e z=>by rw[z,hn] at e;cases e
 refine I.step (g':=s.gens) (d':=s.drawn) (ch:=[it]) (fun b hb=>?_) (fun b o _ _ hc e _=>k b o (fun z=>hc (by simp[z])) e) (fun b o _ _ hc e _=>⟨o.slots,k b o (fun z=>hc (by simp[z])) e⟩) (fun _ _ _ _ n=>n)
  (fun b o hc e=>⟨o,k b o (fun z=>hc (by simp[z])) e⟩) (fun _ _ e=>e) (fun _ _ _ e=>e) (fun b ps e=>⟨#[],by rw[e];simp⟩) (fun m hm=>?_) (fun b u e=>?_) I.bare
 ·have e:b=it:=by simpa using hb
  subst e;exact⟨h1,hL,h2,h3⟩
 ·obtain⟨o,es,ep,ho,r⟩:=hm;exact⟨o,es,ep,k _ o (ie hL) ho,r⟩
 ·refine(I.hok b u e).stay (fun c v hc q=>k c v ?_ q) (fun _ q=>q) fun _ _ q=>q;rcases hc with z|z
  ·rw[z];exact nit b u e
  ·exact nit c _ z
theorem Inv.tok(I:Inv X gE σ H s)(t:Nat):Inv X gE σ H { s with toks:=t }:=I.un (h':=s.heap) (t':=t) Un.refl I.hok
theorem Inv.kept{t':Nat}(I:Inv X gE σ H s)(k:∀b u,s.heap.get? b=some u->h'.get? b=some u):Inv X gE σ H { s with heap:=h',toks:=t' }:=I.un (Un.kept k) (I.hok.kept k)
theorem Inv.laid{a:Addr}{o:HO}{t':Nat}(I:Inv X gE σ H s)(k:∀b u,s.heap.get? b=some u->h'.get? b=some u)(hp:s.heap.objs.size<=a)(new:Yx X.prog X.w (upd H a o) h' a o) :
  Inv X gE σ (upd H a o) { s with heap:=h',toks:=t' }:=I.un (Un.laid k hp (I.hok.fresh hp)) (I.hok.laid k hp new)
theorem Inv.write{x e:Addr}{o:HO}{t':Nat}(I:Inv X gE σ H s)(mu:Mut (H x))(he:e=x\/H e=some (.own x))(k:∀b u,b≠e->s.heap.get? b=some u->h'.get? b=some u)(heo:∃u,h'.get? e=some u)
  (new:Yx X.prog X.w (upd H x o) h' x o):Inv X gE σ (upd H x o) { s with heap:=h',toks:=t' }:=I.un (Un.write mu he k heo) (I.hok.write mu he k heo new)
theorem Inv.pins_of{pins':List (Addr×Obj)}(I:Inv X gE σ H s)(h:∀p∈pins',s.heap.get? p.1=some p.2/\H p.1=none/\p.1≠X.env.locals/\p.1∉X.fs/\∀v,p.2.data≠.cell v):Inv X pins' σ H s:=
 ⟨I.ok,I.os,I.bare,I.base,I.loc,I.cell,I.free,I.freeC,fun p hp=>(iH.mp hp).elim (fun z=>I.pin p (iX _ z)) (h p),I.hok,I.len⟩
theorem qG{N:List Str}(hN:N.Nodup){i j:Nat}{x:Str}(a:N[i]?=some x)(b:N[j]?=some x):i=j:=by
 obtain⟨h1,e1⟩:=ib.mp a;obtain⟨h2,e2⟩:=ib.mp b;exact(List.getElem_inj hN).mp (e1.trans e2.symm)
theorem yi{M:Model}{A:Around}{E:Value->Shared->Prop}{i:Nat}{x:Str}{v:V}{u:Value}{Q:Unit->Shared->Prop}(I:Inv X gE σ H s)(hN:X.N.Nodup)(hi:X.N[i]?=some x)(hx:Loc X.env.scope x)(r:ZU v u)
  (h:∀s',Inv X gE (σ.set i (some v)) H s'->(∃a,Heap.SameBut a s.heap s'.heap/\(a=X.env.locals\/X.env.cells.lookup x=some a))->Q () s') (hf:X.fn x=true\/X.env.scope.names.lookup x=some .local:=by first|exact .inl rfl|exact .inr rfl|assumption):wpAny M A (storeName X.env x u) Q E s:=by
 obtain⟨m,hn,hl⟩:=id I.loc;have hcls:(X.env.scope.kind==.class||(X.env.scope.kind==.module&&X.env.locals != X.env.globals))=false:=by rw[I.ok.kind];rfl
 have hiσ:i<σ.length:=by rw[I.len];exact(ib.mp hi).1
 have cne:=I.cne;have tracked:∀{a:Addr}{h':Heap},(∃o,s.heap.get? a=some o/\H a=none)->Heap.SameBut a s.heap h'->HOk X.prog X.w H h':=fun {a h'} ha hs b ob e=>by
  obtain⟨_,_,hfree⟩:=ha;refine(I.hok b ob e).stay (fun c w' hc q=>(hs.2 c ?_).trans q) (fun _ q=>q) fun _ _ q=>q;rintro rfl;rcases hc with rfl|hc
  ·rw[hfree] at e;cases e
  ·rw[hfree] at hc;cases hc
 rcases hx with hk|hk
 ·refine wpAny_storeName_local hk hn (fun h' hn' hs=>?_) hcls;obtain⟨oL,_,_,hoL,_⟩:=id hn;refine h _ ⟨I.ok,I.os,I.bare,⟨fun b o e n hb hx=>?_,fun b o e n hb hx=>?_,I.base.free,fun b o e hx=>?_,I.base.tups,I.base.frzs,I.base.tbls⟩,⟨_,hn',fun j y v' e1 e2 e3=>?_⟩,fun y c e=>?_,I.free,I.freeC,fun p hp=>?_,tracked ⟨oL,hoL,I.free⟩ hs,by simpa using I.len⟩ ⟨_,hs,.inl rfl⟩
  ·exact(hs.2 b (iC (iP (ii e) I.ok.above))).trans (I.base.keep b o e n hb hx)
  ·obtain⟨sl,e1⟩:=I.base.slot b o e n hb hx;exact⟨sl,(hs.2 b (iC (iP (ii e) I.ok.above))).trans e1⟩
  ·obtain⟨o',e1⟩:=I.base.there b o e hx;exact⟨o',(hs.2 b (iC (iP (ii e) I.ok.above))).trans e1⟩
  ·by_cases hj:j=i
   ·subst hj;rw[hi] at e1;cases e1;rw[List.getElem?_set_self hiσ] at e2;cases e2;exact⟨u,r,.inl ⟨hk,by simp⟩⟩
   ·rw[kR (ie hj)] at e2;obtain⟨u',r',q⟩:=hl j y v' e1 e2 e3;refine⟨u',r',?_⟩;rcases q with⟨k,e⟩|⟨k,c,e,z⟩
    ·refine .inl ⟨k,?_⟩;have:y≠x:=fun e=>hj (qG hN e1 (e▸hi));simp[this,e]
    ·exact .inr ⟨k,c,e,z.sameBut hs (cne y c e)⟩
  ·obtain⟨w',z⟩:=I.cell y c e;exact⟨w',z.sameBut hs (cne y c e)⟩
  ·obtain⟨e,n,ne,nf,d⟩:=I.pin p hp;exact⟨(hs.2 p.1 ne).trans e,n,ne,nf,d⟩
 ·have hfn:X.fn x=true:=by
   rcases hf with z|z
   ·exact z
   ·rw[z] at hk;cases hk
  obtain⟨c,hc⟩:=I.ok.has x (.inl hk);obtain⟨w',z⟩:=I.cell x c hc;refine wpAny_storeName_cell I.ok.kind hk hc z (fun h' hc' hs=>?_);obtain⟨oc,hoc,hocd⟩:=id z;refine h { s with heap:=h' } ⟨I.ok,I.os,I.bare,⟨fun b o e n hb hx=>?_,fun b o e n hb hx=>?_,I.base.free,fun b o e hx=>?_,I.base.tups,I.base.frzs,I.base.tbls⟩,⟨m,hn.sameBut hs (ie (cne x c hc)),fun j y v' e1 e2 e3=>?_⟩,fun y c' e=>?_,I.free,I.freeC,fun p hp=>?_,tracked ⟨oc,hoc,I.freeC x c hc⟩ hs,by simpa using I.len⟩ ⟨c,hs,.inr hc⟩
  ·exact(hs.2 b (iC (iP (ii e) (I.ok.cab x c hfn hc)))).trans (I.base.keep b o e n hb hx)
  ·obtain⟨sl,e1⟩:=I.base.slot b o e n hb hx;exact⟨sl,(hs.2 b (iC (iP (ii e) (I.ok.cab x c hfn hc)))).trans e1⟩
  ·obtain⟨o',e1⟩:=I.base.there b o e hx;exact⟨o',(hs.2 b (iC (iP (ii e) (I.ok.cab x c hfn hc)))).trans e1⟩
  ·by_cases hj:j=i
   ·subst hj;rw[hi] at e1;cases e1;rw[List.getElem?_set_self hiσ] at e2;cases e2;exact⟨u,r,.inr ⟨.inl hk,c,hc,hc'⟩⟩
   ·rw[kR (ie hj)] at e2;obtain⟨u',r',q⟩:=hl j y v' e1 e2 e3;refine⟨u',r',?_⟩;rcases q with q|⟨k,c',e,z'⟩
    ·exact .inl q
    ·refine .inr ⟨k,c',e,z'.sameBut hs ?_⟩;rintro rfl;exact hj (qG hN e1 (I.ok.inj _ _ _ e hc▸hi))
  ·by_cases hcc:c'=c
   ·subst hcc;exact⟨_,hc'⟩
   ·obtain⟨w2,z2⟩:=I.cell y c' e;exact⟨w2,z2.sameBut hs hcc⟩
  ·obtain⟨e,n,ne,nf,d⟩:=I.pin p hp;refine⟨(hs.2 p.1 ?_).trans e,n,ne,nf,d⟩;intro q;rw[q,hoc] at e;have q':oc=p.2:=iB e;exact d w' (by rw[<- q'];exact hocd)
theorem qQ{M:Model}{A:Around}{E:Value->Shared->Prop}{i:Nat}{x:Str}{v:V}{u:Value}{Q:Unit->Shared->Prop}(I:Inv X gE σ H s)(hN:X.N.Nodup)(hi:X.N[i]?=some x)(hx:Loc X.env.scope x)(r:ZU v u)
  (h:∀s',Inv X gE (σ.set i (some v)) H s'->Q () s') (hf:X.fn x=true\/X.env.scope.names.lookup x=some .local:=by first|exact .inl rfl|exact .inr rfl|assumption):wpAny M A (storeName X.env x u) Q E s:=
 yi I hN hi hx r (fun s' I' _=>h s' I') hf
theorem Inv.call'{s':Shared}{ch:List Addr}(I:Inv X gE σ H s)(ho:s'.os=s.os)(u:Un (frs X.stack) ch H H' s.heap s'.heap)(hok:HOk X.prog X.w H' s'.heap)(hg:AllBare s'.gens)
  (hch:∀b∈ch,(b∈X.ex\/X.s₀.heap.objs.size<=b)/\b≠X.env.locals/\(∀x c,X.env.cells.lookup x=some c->c≠b)/\∀p∈X.pn++gE,p.1≠b):Inv X gE σ H' s':=by
 obtain⟨h',g',d',t',o'⟩:=s';have e:o'=s.os:=ho;subst e;exact I.call (g':=g') (t':=t') (d':=d') u hok hg hch
end
abbrev XK:=Value->Option Addr->Hp->Prop
abbrev St:=List (Option V)
abbrev VK:=V->Hp->Prop
abbrev TE:=St->Hp->VK->Prop
abbrev TT:=St->Hp->(Bool->Hp->Prop)->Prop
abbrev TA:=St->Hp->(List V->Hp->Prop)->Prop
structure Ends where
 nx:St->Hp->Prop
 rt:VK
 bk:St->Hp->Prop:=fun _ _=>False
 ct:St->Hp->Prop:=fun _ _=>False
abbrev TS:=Ends->St->Hp->Prop
def EP(X:Cx)(gE:List (Addr×Obj))(σ:St)(Q:VK)(u:Value)(s':Shared):Prop:=∃v H',Inv X gE σ H' s'/\ZU v u/\Q v H'
def TP(X:Cx)(gE:List (Addr×Obj))(σ:St)(Q:Bool->Hp->Prop)(b:Bool)(s':Shared):Prop:=∃H',Inv X gE σ H' s'/\Q b H'
def AP(X:Cx)(gE:List (Addr×Obj))(σ:St)(Q:List V->Hp->Prop)(us:List Value)(s':Shared):Prop:=∃vs H',Inv X gE σ H' s'/\ZN vs us/\Q vs H'
def SP(X:Cx)(gE:List (Addr×Obj))(D:Ends)(f:Flow)(s':Shared):Prop:=
 match f with
 |.next=>∃σ' H',Inv X gE σ' H' s'/\D.nx σ' H'
 |.brk=>∃σ' H',Inv X gE σ' H' s'/\D.bk σ' H'
 |.cont=>∃σ' H',Inv X gE σ' H' s'/\D.ct σ' H'
 |.ret u=>∃v σ' H',Inv X gE σ' H' s'/\ZU v u/\D.rt v H'
def PE(X:Cx)(e:Expr)(t:TE):Prop:=
 ∀(gE:List (Addr×Obj)) (s:Shared) (σ:St) (H:Hp) (Q:VK),Inv X gE σ H s->t σ H Q->wpAny (model X.prog X.w) X.A (eval e X.env) (EP X gE σ Q) X.xe s
def PT(X:Cx)(e:Expr)(t:TT):Prop:=
 ∀(gE:List (Addr×Obj)) (s:Shared) (σ:St) (H:Hp) (Q:Bool->Hp->Prop),Inv X gE σ H s->t σ H Q->wpAny (model X.prog X.w) X.A (isTrue e X.env (eval e X.env)) (TP X gE σ Q) X.xe s
def PW(X:Cx)(e:Expr)(t:TT):Prop:=
 ∀(whole:Sem Value) (gE:List (Addr×Obj)) (s:Shared) (σ:St) (H:Hp) (Q:Bool->Hp->Prop),Inv X gE σ H s->t σ H Q->wpAny (model X.prog X.w) X.A (isTrue e X.env whole) (TP X gE σ Q) X.xe s
theorem PW.pt{X:Cx}{e:Expr}{t:TT}(h:PW X e t):PT X e t:=h _
def PA(X:Cx)(es:List Expr)(t:TA):Prop:=
 ∀(pos:Pos) (gE:List (Addr×Obj)) (s:Shared) (σ:St) (H:Hp) (Q:List V->Hp->Prop),Inv X gE σ H s->t σ H Q->wpAny (model X.prog X.w) X.A (spliced (backTo pos (starEach es X.env))) (AP X gE σ Q) X.xe s
def PS(X:Cx)(st:Stmt)(t:TS):Prop:=
 ∀(gE:List (Addr×Obj)) (s:Shared) (σ:St) (H:Hp) (D:Ends),Inv X gE σ H s->t D σ H->wpAny (model X.prog X.w) X.A (exec st X.env) (SP X gE D) X.xe s
def PSs(X:Cx)(st:List Stmt)(t:TS):Prop:=
 ∀(gE:List (Addr×Obj)) (s:Shared) (σ:St) (H:Hp) (D:Ends),Inv X gE σ H s->t D σ H->wpAny (model X.prog X.w) X.A (execs st X.env) (SP X gE D) X.xe s
theorem thn{α:Type}{t:Sem α}{Q Q':α->Shared->Prop}{M:Model}{A:Around}{E:Value->Shared->Prop}{s:Shared}(h:wpAny M A t Q E s)(hQ:∀a s,Q a s->Q' a s):wpAny M A t Q' E s:=i4 h hQ fun _ _ x=>x
section
variable{X:Cx}
theorem bin{a b:Expr}{ta tb:TE}(ha:PE X a ta)(hb:PE X b tb){gE:List (Addr×Obj)}{s:Shared}{σ:St}{H:Hp}{R:V->V->Hp->Prop}(I:Inv X gE σ H s)(h:ta σ H fun x H1=>tb σ H1 fun y H2=>R x y H2)
  {α:Type}{Q:α->Shared->Prop}{f:Value->Value->Sem α}
  (hf:∀v u s2 x y H2,Inv X gE σ H2 s2->ZU x v->ZU y u->R x y H2->wpAny (model X.prog X.w) X.A (f v u) Q X.xe s2) :
  wpAny (model X.prog X.w) X.A (eval a X.env) (fun v s₁=>wpAny (model X.prog X.w) X.A (eval b X.env) (fun u s₂=>wpAny (model X.prog X.w) X.A (f v u) Q X.xe s₂) X.xe s₁) X.xe s:=by
 refine thn (ha gE s σ H _ I h) fun v s1 ⟨x,H1,I1,r1,q1⟩=>?_;refine thn (hb gE s1 σ H1 _ I1 q1) fun u s2 ⟨y,H2,I2,r2,q2⟩=>?_;exact hf v u s2 x y H2 I2 r1 r2 q2
inductive VarR(i:Nat)(σ:St)(H:Hp)(Q:VK):Prop
 |mk (v:V) (h:σ[i]?=some (some v)) (k:Q v H):VarR i σ H Q
def qe(i:Nat):TE:=fun σ H Q=>VarR i σ H Q
def tC(v:V):TE:=fun _ H Q=>Q v H
theorem pe_var{i:Nat}{x:Str}{pos:Pos}(hN:X.N[i]?=some x)(hv:Vis X.env.scope x)(hd:(x==("__debug__" : Str))=false:=by decide)(hcd:(x==("__classdict__" : Str))=false:=by decide):PE X (.Name x pos) (qe i):=by
 intro gE s σ H Q I h;obtain⟨v,e,h⟩:=h;obtain⟨m,hn,hl⟩:=I.loc;obtain⟨u,r,l⟩:=hl i x v hN e hv;have fin:EP X gE σ Q u s:=⟨v,H,I,r,h⟩;rcases l with⟨hk,hm⟩|⟨hk,c,hc,hcell⟩
 ·exact wpAny_Name (wpAny_loadName_local I.ok.kind hk hn hm fin) hd
 ·rcases hk with hk|hk
  ·exact wpAny_Name (wpAny_loadName_cell I.ok.kind hk hc hcell fin) hd
  ·exact wpAny_Name (wpAny_loadName_free I.ok.kind hk hc hcell fin hcd) hd
theorem Zh{i j pos}:PE X (.Constant (.int i) j pos) (tC (.int i)):=fun _ _ _ H _ I h=>wpAny_Constant_int ⟨.int i,H,I.tok _,⟨_,rfl⟩,h⟩
theorem Vl{b j pos}:PE X (.Constant (.bool b) j pos) (tC (.bl b)):=fun _ _ _ H _ I h=>Constant_bool ⟨.bl b,H,I,rfl,h⟩
theorem pe_non{j pos}:PE X (.Constant .none j pos) (tC .non):=fun _ _ _ H _ I h=>Constant_none ⟨.non,H,I,rfl,h⟩
theorem Ze{x j pos}:PE X (.Constant (.str x) j pos) (tC (.str x)):=fun _ _ _ H _ I h=>Calls.Constant_str ⟨.str x,H,I.tok _,⟨_,rfl⟩,h⟩
def Gl(X:Cx)(x:Str):Prop:=X.env.kindOf x=some .globalImplicit
theorem Vz{E:Value->Shared->Prop}{gE:List (Addr×Obj)}{s:Shared}{σ:St}{H:Hp}{x:Str}{u:Value}{pos:Pos}{Q:Value->Shared->Prop}(I:Inv X gE σ H s)(hg:Gl X x)(hm:X.mg x=some u)(h:Q u s)
  (hd:(x==("__debug__" : Str))=false:=by decide):wpAny (model X.prog X.w) X.A (eval (.Name x pos) X.env) Q E s:=
 Calls.Name_function_global I.ok.kind hg (Calls.loadGlobal_global (by rw[I.ok.glob];exact I.mod.glob.keeps I.bk) hm h) hd
theorem UK{E:Value->Shared->Prop}{gE:List (Addr×Obj)}{s:Shared}{σ:St}{H:Hp}{x:Str}{u:Value}{pos:Pos}{Q:Value->Shared->Prop}(I:Inv X gE σ H s)(hg:Gl X x)(hm:X.mg x=none)(hv:bootBuiltins x=some u)(h:Q u s)
  (hn:x ≠ "__name__" := by decide) (hd:(x==("__debug__" : Str))=false:=by decide):wpAny (model X.prog X.w) X.A (eval (.Name x pos) X.env) Q E s:=by
 obtain⟨mb,h1,h2⟩:=I.mod.blt;exact Calls.Name_function_global I.ok.kind hg (Calls.loadGlobal_builtin (by rw[I.ok.glob];exact I.mod.glob.keeps I.bk) hm (by rw[I.ok.blt];exact h1.keeps I.bk) ((h2 x hn).trans hv) h) hd
theorem pe_glob{x:Str}{v:V}{u:Value}{pos:Pos}(hg:Gl X x)(hm:X.mg x=some u)(r:ZU v u)(hd:(x==("__debug__" : Str))=false:=by decide):PE X (.Name x pos) (tC v):=
 fun _ _ _ H _ I h=>Vz I hg hm ⟨v,H,I,r,h⟩ hd
theorem WX{x:Str}{v:V}{u:Value}{pos:Pos}(hg:Gl X x)(hm:X.mg x=none)(hv:bootBuiltins x=some u)(r:ZU v u)(hn:x ≠ "__name__" := by decide)(hd:(x==("__debug__" : Str))=false:=by decide):PE X (.Name x pos) (tC v):=
 fun _ _ _ H _ I h=>UK I hg hm hv ⟨v,H,I,r,h⟩ hn hd
variable{a b:Expr}{ta tb:TE}{pos:Pos}
def PC(X:Cx)(op:CmpOp)(a b:Expr)(t:TE):Prop:=
 ∀(gE:List (Addr×Obj)) (s:Shared) (σ:St) (H:Hp) (Q:VK),Inv X gE σ H s->t σ H Q ->
  wpAny (model X.prog X.w) X.A (eval a X.env) (fun v s₁=>wpAny (model X.prog X.w) X.A (eval b X.env) (fun u s₂=>wpAny (model X.prog X.w) X.A (compareOp op v u) (EP X gE σ Q) X.xe s₂) X.xe s₁) X.xe s
theorem nobehind(b:Expr){op:CmpOp}(h:op≠.In)(h2:op≠.NotIn):behindInMarks op b=false:=by
 have e1:(op==CmpOp.In)=false:=by cases op<;>first|rfl|exact absurd rfl h
 have e2:(op==CmpOp.NotIn)=false:=by cases op<;>first|rfl|exact absurd rfl h2
 cases b<;>simp[behindInMarks,e1,e2]
inductive BoolR(x:V)(H:Hp)(Q:Bool->Hp->Prop):Prop
 |mk (c:Bool) (h:x=.bl c) (k:Q c H):BoolR x H Q
def tB(t:TE):TT:=fun σ H Q=>t σ H fun x H1=>BoolR x H1 Q
theorem pt_cmp{op:CmpOp}{t:TE}(h:PC X op a b t)(h1:behindInMarks op b=false:=by first|exact nobehind _ (by decide) (by decide)|rfl):PT X (.Compare a [op] [b] pos) (tB t):=by
 intro gE s σ H Q I hw;refine wpAny_isTrue_Compare1 (thn (h gE s σ H _ I hw) fun v s1 h1=>thn h1 fun u s2 h2=>thn h2 fun c s3 ⟨x,H1,I1,r1,q1⟩=>?_) h1;obtain⟨d,rfl,q⟩:=q1;cases r1;exact i5 ⟨H1,I1,q⟩
theorem Vj{e:Expr}{t:TE}(h:PE X e t)(he:∀whole,isTrue e X.env whole=(do let v <- whole;standAt e.pos;holding [v] (truthy v)):=by intro _;rfl):PT X e (tB t):=by
 intro gE s σ H Q I hw;refine isTrue_plain (thn (h gE s σ H _ I hw) fun v s1 ⟨x,H1,I1,r1,q1⟩=>?_) (he _);obtain⟨d,rfl,q⟩:=q1;cases r1;exact i5 ⟨H1,I1,q⟩
variable{tA tB':TT}{Wv:List Expr}
def tAnd(t u:TT):TT:=fun σ H Q=>t σ H fun c H1=>if c=true then u σ H1 Q else Q false H1
def tOr(t u:TT):TT:=fun σ H Q=>t σ H fun c H1=>if c=true then Q true H1 else u σ H1 Q
def tNot(t:TT):TT:=fun σ H Q=>t σ H fun c H1=>Q (!c) H1
theorem WY(ha:PT X a tA):PW X (.BoolOp .And [a] pos) tA:=by
 intro wh gE s σ H Q I h;refine isTrue_and (thn (ha gE s σ H Q I h) fun c s1 e=>?_);cases c with
 |true=>exact isTrue_and_nil e
 |false=>exact e
theorem XG(ha:PT X a tA):PW X (.BoolOp .Or [a] pos) tA:=by
 intro wh gE s σ H Q I h;refine isTrue_or (thn (ha gE s σ H Q I h) fun c s1 e=>?_);cases c with
 |false=>exact isTrue_or_nil e
 |true=>exact e
theorem VZ(ha:PT X a tA)(hb:PW X (.BoolOp .And (b::Wv) pos) tB'):PW X (.BoolOp .And (a::b::Wv) pos) (tAnd tA tB'):=by
 intro wh gE s σ H Q I h;refine isTrue_and (thn (ha gE s σ H _ I h) fun c s1 ⟨H1,I1,q1⟩=>?_);cases c with
 |true=>exact hb wh gE s1 σ H1 Q I1 q1
 |false=>exact⟨H1,I1,q1⟩
theorem X9(ha:PT X a tA)(hb:PW X (.BoolOp .Or (b::Wv) pos) tB'):PW X (.BoolOp .Or (a::b::Wv) pos) (tOr tA tB'):=by
 intro wh gE s σ H Q I h;refine isTrue_or (thn (ha gE s σ H _ I h) fun c s1 ⟨H1,I1,q1⟩=>?_);cases c with
 |true=>exact⟨H1,I1,q1⟩
 |false=>exact hb wh gE s1 σ H1 Q I1 q1
theorem XO(ha:PT X a tA):PT X (.UnaryOp .Not a pos) (tNot tA):=by
 intro gE s σ H Q I h;exact isTrue_not (ha gE s σ H (fun c H1=>Q (!c) H1) I h)
def tAndV(ta tb:TE):TE:=fun σ H Q=>ta σ H fun x H1=>∃c,x=.bl c/\if c=true then tb σ H1 Q else Q (.bl false) H1
def tNotV(ta:TE):TE:=fun σ H Q=>ta σ H fun x H1=>∃c,x=.bl c/\Q (.bl (!c)) H1
theorem V0{op}{t:TE}(h:PE X a t):PE X (.BoolOp op [a] pos) t:=fun gE s σ H Q I hw=>BoolOp_one (h gE s σ H Q I hw)
theorem Vs(ha:PE X a ta)(hb:PE X (.BoolOp .And (b::Wv) pos) tb):PE X (.BoolOp .And (a::b::Wv) pos) (tAndV ta tb):=by
 intro gE s σ H Q I h;refine BoolOp_and (thn (ha gE s σ H _ I h) fun v s1 ⟨x,H1,I1,r1,q1⟩=>?_);obtain⟨c,rfl,q1⟩:=q1;cases r1;refine i5 ?_;cases c with
 |true=>exact hb gE s1 σ H1 Q I1 q1
 |false=>exact⟨.bl false,H1,I1,rfl,q1⟩
theorem pe_not(ha:PE X a ta):PE X (.UnaryOp .Not a pos) (tNotV ta):=by
 intro gE s σ H Q I h;refine UnaryOp_ (thn (ha gE s σ H _ I h) fun v s1 ⟨x,H1,I1,r1,q1⟩=>?_);obtain⟨c,rfl,q1⟩:=q1;cases r1;exact not_of (i5 ⟨.bl (!c),H1,I1,rfl,q1⟩)
def tIf(t:TT)(ta tb:TE):TE:=fun σ H Q=>t σ H fun c H1=>if c=true then ta σ H1 Q else tb σ H1 Q
theorem pe_ifExp{c:Expr}(hc:PT X c tA)(ha:PE X a ta)(hb:PE X b tb):PE X (.IfExp c a b pos) (tIf tA ta tb):=by
 intro gE s σ H Q I h;refine wpAny_IfExp (thn (hc gE s σ H _ I h) fun d s1 ⟨H1,I1,q1⟩=>?_);cases d with
 |true=>exact ha gE s1 σ H1 Q I1 q1
 |false=>exact hb gE s1 σ H1 Q I1 q1
end
def SqL(K:W.Frag)(H:Hp)(a:Addr)(xs:List V):Prop:=
 Rd H a (.lst xs) \/
  ∃(o:Obj) (its:Array Value) (n:Nat),K.lookup a=some o/\o.cls=.type "list" /\ o.dict=none/\o.data=.seq its n/\its.size<=sizeLine/\ZN xs its.toList
def SqT(K:W.Frag)(H:Hp)(a:Addr)(xs:List V):Prop:=
 Rd H a (.tup xs) \/
  ∃(o:Obj) (its:Array Value) (n:Nat),K.lookup a=some o/\o.cls=.type "tuple" /\ o.data=.seq its n/\its.size<=sizeLine/\ZN xs its.toList
def absV:Value->Option V
 |.none=>some .non
 |.bool b=>some (.bl b)
 |.int i _=>some (.int i)
 |.str x _=>some (.str x)
 |.bytes b _=>some (.byt b)
 |.float b _=>some (.flt b)
 |.ref a=>some (.ref a)
 |.type n=>some (.ty n)
 |_=>none
theorem ZU.abs{x:V}{u:Value}(r:ZU x u):absV u=some x:=by
 cases x with
 |non=>cases r;rfl
 |bl _=>cases r;rfl
 |int _=>obtain⟨t,rfl⟩:=r;rfl
 |str _=>obtain⟨t,rfl⟩:=r;rfl
 |byt _=>obtain⟨t,rfl⟩:=r;rfl
 |flt _=>obtain⟨t,rfl⟩:=r;rfl
 |ref _=>cases r;rfl
 |ty _=>cases r;rfl
theorem ZU.inj{x y:V}{u:Value}(r:ZU x u)(q:ZU y u):x=y:=iB (r.abs.symm.trans q.abs)
theorem ZN.inj:∀{xs ys:List V}{us:List Value},ZN xs us->ZN ys us->xs=ys
 |_,_,_,.nil,.nil=>rfl
 |_,_,_,.cons r t,.cons r' t'=>by rw[r.inj r',ZN.inj t t']
section
variable{X:Cx}{gE:List (Addr×Obj)}{σ:St}{H:Hp}{s:Shared}{a:Addr}{xs ys:List V}
theorem SqL.of{K:W.Frag}(h:H a=some (.lst xs)):SqL K H a xs:=.inl (.inl h)
def ll:=@SqL.of
theorem SqT.of{K:W.Frag}(h:H a=some (.tup xs)):SqT K H a xs:=.inl (.inl h)
def lh:=@SqT.of
theorem Inv.list(I:Inv X gE σ H s)(h:SqL X.K H a xs):∃its:List Value,ZN xs its/\PlainL s.heap a its.toArray/\xs.length<=sizeLine:=by
 rcases h with h|⟨o,its,n,hk,hc,hd,hs,hz,r⟩
 ·obtain⟨z,its,n,r,e⟩:=h.ok I.hok;exact⟨its,r,⟨_,n,e,rfl,rfl,rfl⟩,z⟩
 ·refine⟨its.toList,r,⟨o,n,I.kIn a o hk,hc,hd,by simpa using hs⟩,?_⟩;have e:=r.length;simp only[jO] at e;omega
theorem Inv.tuple(I:Inv X gE σ H s)(h:SqT X.K H a xs):∃its:List Value,ZN xs its/\IsTup s.heap a its.toArray/\xs.length<=sizeLine:=by
 rcases h with h|⟨o,its,n,hk,hc,hs,hz,r⟩
 ·obtain⟨z,its,r,p⟩:=h.ok I.hok;exact⟨its,r,p,z⟩
 ·refine⟨its.toList,r,⟨o,I.kIn a o hk,hc,n,by simpa using hs⟩,?_⟩;have e:=r.length;simp only[jO] at e;omega
theorem Inv.list_inj(I:Inv X gE σ H s)(h:SqL X.K H a xs)(h':SqL X.K H a ys):xs=ys:=by
 obtain⟨its,r,⟨o,n,e,_,_,d⟩,_⟩:=I.list h;obtain⟨its',r',⟨o',n',e',_,_,d'⟩,_⟩:=I.list h';rw[e] at e';cases e';rw[d] at d';injection d' with d1 _;have:its=its':=by simpa using io Array.toList d1
 subst this;exact r.inj r'
theorem Inv.tuple_inj(I:Inv X gE σ H s)(h:SqT X.K H a xs)(h':SqT X.K H a ys):xs=ys:=by
 obtain⟨its,r,⟨o,e,_,n,d⟩,_⟩:=I.tuple h;obtain⟨its',r',⟨o',e',_,n',d'⟩,_⟩:=I.tuple h';rw[e] at e';cases e';rw[d] at d';injection d' with d1 _;have:its=its':=by simpa using io Array.toList d1
 subst this;exact r.inj r'
end
abbrev Cx.wish(X:Cx)(E:Value->Shared->Prop):Cx:={ X with xe:=E }
abbrev Cx.nox(X:Cx):Cx:=X.wish fun _ _=>False
theorem Cx.Ok.wish{X:Cx}(ok:X.Ok)(E:Value->Shared->Prop):(X.wish E).Ok:=
 ⟨ok.mod,ok.kind,ok.glob,ok.blt,ok.above,ok.inj,ok.has,ok.cab,ok.hd,ok.frames,ok.stk,ok.exf,ok.bs,ok.bsz,ok.noex,ok.exfs,ok.funs,ok.frf⟩
theorem Cx.Ok.unwish{X:Cx}{E:Value->Shared->Prop}(ok:(X.wish E).Ok):X.Ok:=
 ⟨ok.mod,ok.kind,ok.glob,ok.blt,ok.above,ok.inj,ok.has,ok.cab,ok.hd,ok.frames,ok.stk,ok.exf,ok.bs,ok.bsz,ok.noex,ok.exfs,ok.funs,ok.frf⟩
section
variable{X:Cx}{gE:List (Addr×Obj)}{σ:St}{H:Hp}{s:Shared}{E:Value->Shared->Prop}
theorem Inv.wish(I:Inv X gE σ H s)(E:Value->Shared->Prop):Inv (X.wish E) gE σ H s:=⟨I.ok.wish E,I.os,I.bare,I.base,I.loc,I.cell,I.free,I.freeC,I.pin,I.hok,I.len⟩
theorem Inv.unwish(I:Inv (X.wish E) gE σ H s):Inv X gE σ H s:=⟨I.ok.unwish,I.os,I.bare,I.base,I.loc,I.cell,I.free,I.freeC,I.pin,I.hok,I.len⟩
theorem SP.unwish{D:Ends}{f:Flow}{s':Shared}(h:SP (X.wish E) gE D f s'):SP X gE D f s':=by
 cases f with
 |next=>obtain⟨σ',H',I,q⟩:=h;exact⟨σ',H',I.unwish,q⟩
 |brk=>obtain⟨σ',H',I,q⟩:=h;exact⟨σ',H',I.unwish,q⟩
 |cont=>obtain⟨σ',H',I,q⟩:=h;exact⟨σ',H',I.unwish,q⟩
 |ret u=>obtain⟨v,σ',H',I,r,q⟩:=h;exact⟨v,σ',H',I.unwish,r,q⟩
theorem PSs.nox{st:List Stmt}{t:TS}(h:PSs X.nox st t):PSs X st t:=fun gE s σ H D I hw=>
 i4 (h gE s σ H D (I.wish _) hw) (fun _ _ q=>q.unwish) fun _ _ z=>False.elim z
end
section
variable{X:Cx}{st:Stmt}{Wv:List Stmt}{t u:TS}{e:Expr}{te:TE}{pos:Pos}
def tNext:TS:=fun D σ H=>D.nx σ H
def tSeq(t u:TS):TS:=fun D σ H=>t { D with nx:=u D } σ H
theorem Zt:PSs X [] tNext:=fun _ _ σ H _ I h=>jP ⟨σ,H,I,h⟩
theorem Zb(h1:PS X st t)(h2:PSs X Wv u):PSs X (st::Wv) (tSeq t u):=by
 intro gE s σ H D I h;refine wpAny_execs_cons (thn (h1 gE s σ H { D with nx:=u D } I h) fun f s1 q=>?_);cases f with
 |next=>
  obtain⟨σ',H',I',q⟩:=q;exact h2 gE s1 σ' H' D I' q
 |ret v=>exact q
 |brk=>exact q
 |cont=>exact q
theorem Zg(h1:PS X st t):PSs X [st] t:=by
 intro gE s σ H D I h;refine wpAny_execs_cons (thn (h1 gE s σ H D I h) fun f s1 q=>?_);cases f with
 |next=>exact jP q
 |ret v=>exact q
 |brk=>exact q
 |cont=>exact q
theorem Inv.quiet{gE:List (Addr×Obj)}{σ:St}{H:Hp}{s:Shared}(I:Inv X gE σ H s):interactive X.env=false:=by simp[interactive,I.ok.kind]
def tDrop(te:TE):TS:=fun D σ H=>te σ H fun _ H1=>D.nx σ H1
theorem YA(he:PE X e te)(hs:swapsWith e none pos.line X.env=pure false:=by rfl):PS X (.Expr e pos) (tDrop te):=by
 intro gE s σ H D I h;exact wpAny_Expr_any (thn (he gE s σ H _ I h) fun v s1 ⟨x,H1,I1,r1,q1⟩=>⟨σ,H1,I1,q1⟩) I.quiet hs
def tRet(te:TE):TS:=fun D σ H=>te σ H D.rt
theorem Zo(he:PE X e te):PS X (.Return (some e) pos) (tRet te):=by
 intro gE s σ H D I h;exact wpAny_Return_some (thn (he gE s σ H _ I h) fun v s1 ⟨x,H1,I1,r1,q1⟩=>⟨x,σ,H1,I1,r1,q1⟩)
def tIfS(c:TT)(t u:TS):TS:=fun D σ H=>c σ H fun b H1=>if b=true then t D σ H1 else u D σ H1
theorem ZI{c:Expr}{a b:List Stmt}{tc:TT}(hc:PT X c tc)(ha:PSs X a t)(hb:PSs X b u):PS X (.If c a b pos) (tIfS tc t u):=by
 intro gE s σ H D I h;refine wpAny_If (thn (hc gE s σ H _ I h) fun d s1 ⟨H1,I1,q1⟩=>?_);cases d with
 |true=>exact ha gE s1 σ H1 D I1 q1
 |false=>exact hb gE s1 σ H1 D I1 q1
def tNever:TS:=fun _ _ _=>False
theorem ps_never:PS X st tNever:=fun _ _ _ _ _ _ h=>h.elim
end
abbrev TG:=V->St->Hp->(St->Hp->Prop)->Prop
abbrev TGs:=List V->St->Hp->(St->Hp->Prop)->Prop
def PG(X:Cx)(target:Expr)(t:TG):Prop:=
 ∀(gE:List (Addr×Obj)) (s:Shared) (σ:St) (H:Hp) (v:V) (u:Value) (Q:St->Hp->Prop),Inv X gE σ H s->ZU v u->t v σ H Q ->
  wpAny (model X.prog X.w) X.A (assign target X.env u) (fun _ s'=>∃σ' H',Inv X gE σ' H' s'/\Q σ' H') X.xe s
def PGs(X:Cx)(ts:List Expr)(t:TGs):Prop:=
 ∀(gE:List (Addr×Obj)) (s:Shared) (σ:St) (H:Hp) (vs:List V) (us:List Value) (Q:St->Hp->Prop),Inv X gE σ H s->ZN vs us->t vs σ H Q ->
  wpAny (model X.prog X.w) X.A (assignInOrder ((assignEach ts X.env).map (·.2)) us) (fun _ s'=>∃σ' H',Inv X gE σ' H' s'/\Q σ' H') X.xe s
section
variable{X:Cx}{pos:Pos}
def Ub(i:Nat):TG:=fun v σ H Q=>Q (σ.set i (some v)) H
theorem ZY{i:Nat}{x:Str}(hN:X.N.Nodup)(hi:X.N[i]?=some x)(hx:Loc X.env.scope x)(hf:X.fn x=true\/X.env.scope.names.lookup x=some .local:=by first|exact .inl rfl|exact .inr rfl|assumption):PG X (.Name x pos) (Ub i):=by
 intro gE s σ H v u Q I r h;exact wpAny_assign_Name (qQ I hN hi hx r (fun s' I'=>⟨_,H,I',h⟩) hf)
def gNil:TGs:=fun vs σ H Q=>vs=[]/\Q σ H
def gCons(t:TG)(u:TGs):TGs:=fun vs σ H Q=>∃v r,vs=v::r/\t v σ H fun σ' H'=>u r σ' H' Q
theorem pgs_nil:PGs X [] gNil:=by
 intro gE s σ H vs us Q I r h;obtain⟨e,h⟩:=h;subst e;cases r;exact assignInOrder_nil ⟨σ,H,I,h⟩
theorem xV{e:Expr}{es:List Expr}{t:TG}{u:TGs}(h1:PG X e t)(h2:PGs X es u)
  (hs:(assignEach (e::es) X.env).map (·.2)=assign e X.env::(assignEach es X.env).map (·.2):=by rfl):PGs X (e::es) (gCons t u):=by
 intro gE s σ H vs us Q I r h;obtain⟨v,vr,e1,h⟩:=h;subst e1;cases r with
 |cons r rr=>
  rw[hs];refine assignInOrder_cons (thn (h1 gE s σ H _ _ _ I r h) fun _ s1 ⟨σ1,H1,I1,q1⟩=>?_);exact h2 gE s1 σ1 H1 _ _ Q I1 rr q1
def gTup(K:W.Frag)(n:Nat)(t:TGs):TG:=fun v σ H Q=>∃a xs,v=.ref a/\SqT K H a xs/\xs.length=n/\t xs σ H Q
theorem pg_tup{es:List Expr}{k:Nat}{t:TGs}{n:Nat}(hc:X.calm=true)(h:PGs X es t)
  (hn:(assignEach es X.env).length=n:=by rfl) (hst:(assignEach es X.env).findIdx? (·.1)=none:=by rfl):PG X (.Tuple es k pos) (gTup X.K n t):=by
 intro gE s σ H v u Q I r hw;obtain⟨a,xs,e1,hq,hl,hw⟩:=hw;subst e1;cases r;obtain⟨its,rv,ht,hz⟩:=I.tuple hq;refine assign_Tuple_tuple (I.ok.hd hc) ht (by simp[hn,<- hl,rv.length]) hst fun h' hx=>?_;have I1:Inv X gE σ H { s with heap:=h' }:=I.kept (t':=s.toks) fun b o e=>hx b o (iC (ii e)) e;exact h gE _ σ H xs _ Q I1 (by simpa using rv) hw
def tAsg(te:TE)(g:TG):TS:=fun D σ H=>te σ H fun x H1=>g x σ H1 D.nx
theorem Zr{i:Nat}{x:Str}{e:Expr}{te:TE}{pos':Pos}(hN:X.N.Nodup)(hi:X.N[i]?=some x)(hx:Loc X.env.scope x)(he:PE X e te)(hs:swapsWith e (some (.Name x pos')) pos.line X.env=pure false:=by rfl)(hf:X.fn x=true\/X.env.scope.names.lookup x=some .local:=by first|exact .inl rfl|exact .inr rfl|assumption) :
  PS X (.Assign [.Name x pos'] e pos) (tAsg te (Ub i)):=by
 intro gE s σ H D I h;refine wpAny_Assign_Name (thn (he gE s σ H _ I h) fun v s1 ⟨y,H1,I1,r1,q1⟩=>?_) hs;exact qQ I1 hN hi hx r1 (fun s2 I2=>⟨_,H1,I2,q1⟩) hf
end
section
variable{X:Cx}{pos:Pos}
def tWhile(c:TT)(tb:TS):TS:=fun D σ H=>∃W:Nat->St->Hp->Prop,(∃m,W m σ H)/\∀m σ H,W m σ H ->
 c σ H fun b H1=>if b=true then ∃N:St->Hp->Prop,(∀σ' H',N σ' H'->∃m',m'<m/\W m' σ' H')/\tb { D with nx:=N,ct:=N,bk:=D.nx } σ H1 else D.nx σ H1
theorem qV{c:Expr}{body:List Stmt}{tc:TT}{tb:TS}(hp:PassesOwn (model X.prog X.w) X.A X.env X.xe)(hc:PT X c tc)(hb:PSs X body tb):PS X (.While c body [] pos) (tWhile tc tb):=by
 intro gE s σ H D I h;obtain⟨W,⟨m0,w0⟩,turn⟩:=h;refine wpAny_While (codeAny_whileLoop (fun n s'=>∃σ' H',Inv X gE σ' H' s'/\W n σ' H') ?_ m0 ⟨σ,H,I,w0⟩);rintro n s1 ⟨σ1,H1,I1,w1⟩;refine jC hp (thn (hc gE s1 σ1 H1 _ I1 (turn n σ1 H1 w1)) fun b s2 ⟨H2,I2,q2⟩=>?_);cases b with
 |true=>
  obtain⟨N,hN,q2⟩:=q2;rw[if_pos rfl];refine jC hp (thn (hb gE s2 σ1 H2 _ I2 q2) fun f s3 q3=>?_);cases f with
  |next=>
   obtain⟨σ3,H3,I3,n3⟩:=q3;obtain⟨m',hm,w3⟩:=hN σ3 H3 n3;exact⟨m',hm,σ3,H3,I3,w3⟩
  |cont=>
   obtain⟨σ3,H3,I3,n3⟩:=q3;obtain⟨m',hm,w3⟩:=hN σ3 H3 n3;exact⟨m',hm,σ3,H3,I3,w3⟩
  |brk=>exact q3
  |ret v=>exact q3
 |false=>
  rw[if_neg iy];exact jP ⟨σ1,H2,I2,q2⟩
end
structure It where
 go:Nat->Hp->Prop
 yld:Nat->Hp->V->Hp->Prop
 stop:Nat->Hp->Prop
def VY(X:Cx)(gE:List (Addr×Obj))(H:Hp)(b:Addr):Prop:=
 H b=none/\b≠X.env.locals/\b∉X.fs/\(b∈X.ex\/X.s₀.heap.objs.size<=b)/\(∀x c,X.env.cells.lookup x=some c->c≠b)/\∀p∈X.pn++gE,p.1≠b
theorem Inv.fpOk{X:Cx}{gE:List (Addr×Obj)}{σ:St}{H H':Hp}{s:Shared}{b:Addr}(I:Inv X gE σ H s)(hb:s.heap.objs.size<=b)(hn:H' b=none):VY X gE H' b:=by
 refine⟨hn,Nat.ne_of_gt (iP I.lt hb),I.nofs hb,.inr (iq I.sz hb),fun x c e z=>?_,fun p hp z=>?_⟩
 ·obtain⟨v,q⟩:=I.cell x c e;exact absurd (iP q.lt (by rw[z];exact hb)) (jA _)
 ·exact absurd (iP (ii (I.pin p hp).1) (by rw[z];exact hb)) (jA _)
structure Turn(P:Program)(w:World)(K:W.Frag)(tg:Expr)(J:It)(fp:List Addr)(it:Addr)(tn:Nat->Heap->Prop):Prop where
 mem:it∈fp
 obj:∀i h,tn i h->∀b∈fp,∃o,h.get? b=some o/\∀v,o.data≠.cell v
 keep:∀i h h',tn i h->(∀b∈fp,∀o,h.get? b=some o->h'.get? b=some o)->tn i h'
 item:∀(X:Cx),X.prog=P->X.w=w->X.K=K->X.calm=true->∀(i:Nat) (gE:List (Addr×Obj)) (s:Shared) (σ:St) (H:Hp) (E:Value->Shared->Prop),Inv X gE σ H s->(∀b∈fp,VY X gE H b)->tn i s.heap->J.go i H ->
  wpAny (model P w) X.A (pyNext (.ref it)) (fun r s1=>∃u,r=some u /\
   wpAny (model P w) X.A (letOwnedTupleGo tg (.ref it) u) (fun _ s2=>∃x H',Inv X gE σ H' s2/\ZU x u/\J.yld i H x H'/\tn (i+1) s2.heap/\∀b∈fp,H' b=none) E s1) E s
 done:∀(X:Cx),X.prog=P->X.w=w->X.K=K->X.calm=true->∀(i:Nat) (gE:List (Addr×Obj)) (s:Shared) (σ:St) (H:Hp) (E:Value->Shared->Prop),Inv X gE σ H s->(∀b∈fp,VY X gE H b)->tn i s.heap->J.stop i H ->
  wpAny (model P w) X.A (pyNext (.ref it)) (fun r s1=>r=none/\Inv X gE σ H s1) E s
 self:∀(A:Around) (i:Nat) (s:Shared) (Q:Value->Shared->Prop) (E:Value->Shared->Prop),tn i s.heap->Q (.ref it) s->wpAny (model P w) A (pyIter (.ref it)) Q E s
abbrev TI:=St->Hp->(It->Hp->Prop)->Prop
def PIE(X:Cx)(gE:List (Addr×Obj))(σ:St)(tg:Expr)(R:It->Hp->Prop)(itv:Value)(s2:Shared):Prop:=
 ∃(it:Addr) (fp:List Addr) (tn:Nat->Heap->Prop) (J:It) (H':Hp),itv=.ref it/\Inv X gE σ H' s2/\Turn X.prog X.w X.K tg J fp it tn/\tn 0 s2.heap/\(∀b∈fp,VY X gE H' b)/\R J H'
def PI(X:Cx)(tg iter:Expr)(wi:TI):Prop:=
 ∀(gE:List (Addr×Obj)) (s:Shared) (σ:St) (H:Hp) (R:It->Hp->Prop),Inv X gE σ H s->wi σ H R ->
  wpAny (model X.prog X.w) X.A (eval iter X.env) (fun v s1=>wpAny (model X.prog X.w) X.A (pyIter v) (PIE X gE σ tg R) X.xe s1) X.xe s
theorem go_of{M:Model}{A:Around}{E:Value->Shared->Prop}{s:Shared}{tg:Expr}{it:Addr}{u:Value}{o:Obj}{n:String}{vs:Array Value}{Q:Unit->Shared->Prop}(ho:s.heap.get? it=some o)(hc:o.cls=.type n)(hd:o.data=.fields vs)
    (hn:["enumerate", "zip", "dict_itemiterator", "dict_reverseitemiterator", "odict_iterator", "itertools.zip_longest", "itertools.pairwise"].contains n=false) (hQ:Q () s):wpAny M A (letOwnedTupleGo tg (.ref it) u) Q E s:=by
  unfold letOwnedTupleGo;cases tg<;>first
    |exact gX hQ
    | (cases u<;>first
        |exact gX hQ
        | (refine gW (wpAny_load ho ?_)
           rw[hc,hd]
           show wpAny M A (if(["enumerate", "zip", "dict_itemiterator", "dict_reverseitemiterator", "odict_iterator", "itertools.zip_longest", "itertools.pairwise"].contains n&&vs[0]?==some (rawInt _))=true then _ else _) Q E s
           rw[if_neg (by intro h;rw[hn,kc] at h;cases h)];exact gX hQ))
def Itl(K:W.Frag)(a:Addr):It:=
 ⟨fun i H=>∃xs x,SqL K H a xs/\xs[i]?=some x,fun i H x H'=>H'=H/\∀xs,SqL K H a xs->xs[i]?=some x,fun i H=>∃xs,SqL K H a xs/\xs.length<=i⟩
def Itt(K:W.Frag)(a:Addr):It:=
 ⟨fun i H=>∃xs x,SqT K H a xs/\xs[i]?=some x,fun i H x H'=>H'=H/\∀xs,SqT K H a xs->xs[i]?=some x,fun i H=>∃xs,SqT K H a xs/\xs.length<=i⟩
def Itr(lo:Int)(n:Nat):It:=⟨fun i _=>i<n,fun i H x H'=>H'=H/\x=.int (lo+i),fun i _=>n<=i⟩
theorem turn_list{P:Program}{w:World}{K:W.Frag}{tg:Expr}(a it:Addr):Turn P w K tg (Itl K a) [it] it (fun i h=>h.IsListIter it a i) where
 mem:=by simp
 obj:=fun i h st b hb=>by
  have e:b=it:=by simpa using hb
  subst e;obtain⟨o,e,c,d⟩:=st;exact⟨o,e,fun v z=>by rw[d] at z;cases z⟩
 keep:=fun i h h' st k=>st.at fun o e=>k it (by simp) o e
 item:=by
  intro X hP hw hK hc i gE s σ H E I hf st hg;subst hP hw hK;obtain⟨xs,x,hq,hx⟩:=hg;obtain⟨its,rv,p,hz⟩:=I.list hq;obtain⟨u,hu,ru⟩:=rv.get hx;obtain⟨f0,f1,f2,f3,f4,f5⟩:=hf it (by simp);refine wpAny_pyNext_list_item st p.isList (x:=u) (by simpa using hu) fun h' st' sb=>?_;have I1:Inv X gE σ H { s with heap:=h' }:=I.turned (t':=s.toks) (fun b o hb e=>(sb.2 b hb).trans e) f0 f1 f3 f4 f5;obtain⟨o,e,c,d⟩:=id st';exact⟨u,rfl,go_of (s:={ s with heap:=h' }) e c d (by decide) ⟨x,H,I1,ru,⟨rfl,fun ys hy=>by rw[I.list_inj hy hq];exact hx⟩,st',fun b hb=>(hf b hb).1⟩⟩
 done:=by
  intro X hP hw hK hc i gE s σ H E I hf st hg;subst hP hw hK;obtain⟨xs,hq,hx⟩:=hg;obtain⟨its,rv,p,hz⟩:=I.list hq;obtain⟨f0,f1,f2,f3,f4,f5⟩:=hf it (by simp);have hl:=rv.length;exact wpAny_pyNext_list_end (I.ok.hd hc) st p.isList (by simp;omega) fun h' eb=>⟨rfl,I.turned (t':=s.toks) (fun b o hb e=>eb b o hb e) f0 f1 f3 f4 f5⟩
 self:=fun _ _ _ _ _ st h=>wpAny_pyIter_listiter st h
theorem vT{P:Program}{w:World}{K:W.Frag}{tg:Expr}(a it:Addr):Turn P w K tg (Itt K a) [it] it (fun i h=>h.IsTupleIter it a i) where
 mem:=by simp
 obj:=fun i h st b hb=>by
  have e:b=it:=by simpa using hb
  subst e;obtain⟨o,e,c,d⟩:=st;exact⟨o,e,fun v z=>by rw[d] at z;cases z⟩
 keep:=fun i h h' st k=>st.at fun o e=>k it (by simp) o e
 item:=by
  intro X hP hw hK hc i gE s σ H E I hf st hg;subst hP hw hK;obtain⟨xs,x,hq,hx⟩:=hg;obtain⟨its,rv,p,hz⟩:=I.tuple hq;obtain⟨u,hu,ru⟩:=rv.get hx;obtain⟨f0,f1,f2,f3,f4,f5⟩:=hf it (by simp);refine wpAny_pyNext_tuple_item st (show s.heap.IsTuple a its.toArray from p) (x:=u) (by simpa using hu) fun h' st' sb=>?_;have I1:Inv X gE σ H { s with heap:=h' }:=I.turned (t':=s.toks) (fun b o hb e=>(sb.2 b hb).trans e) f0 f1 f3 f4 f5;obtain⟨o,e,c,d⟩:=id st';exact⟨u,rfl,go_of (s:={ s with heap:=h' }) e c d (by decide) ⟨x,H,I1,ru,⟨rfl,fun ys hy=>by rw[I.tuple_inj hy hq];exact hx⟩,st',fun b hb=>(hf b hb).1⟩⟩
 done:=by
  intro X hP hw hK hc i gE s σ H E I hf st hg;subst hP hw hK;obtain⟨xs,hq,hx⟩:=hg;obtain⟨its,rv,p,hz⟩:=I.tuple hq;obtain⟨f0,f1,f2,f3,f4,f5⟩:=hf it (by simp);have hl:=rv.length;exact wpAny_pyNext_tuple_end (I.ok.hd hc) st (show s.heap.IsTuple a its.toArray from p) (by simp;omega) fun h' eb=>⟨rfl,I.turned (t':=s.toks) (fun b o hb e=>eb b o hb e) f0 f1 f3 f4 f5⟩
 self:=fun _ _ _ _ _ st h=>wpAny_pyIter_tupleiter st h
theorem vN{P:Program}{w:World}{K:W.Frag}{tg:Expr}(it:Addr)(lo:Int)(n:Nat):Turn P w K tg (Itr lo n) [it] it (fun i h=>IsRangeIter h it (lo+(i:Nat)*1) ((n:Int)-(i:Nat)) 1) where
 mem:=by simp
 obj:=fun i h st b hb=>by
  have e:b=it:=by simpa using hb
  subst e;exact⟨_,st,fun v z=>by
   have z':Data.fields _=Data.cell v:=z;cases z'⟩
 keep:=fun i h h' st k=>k it (by simp) _ st
 item:=by
  intro X hP hw hK hc i gE s σ H E I hf st hg;subst hP hw hK;obtain⟨f0,f1,f2,f3,f4,f5⟩:=hf it (by simp);have W:=Walks.range (prog:=X.prog) (w:=X.w) (I.ok.hd hc) it lo 1 n;refine W.item i s _ _ hg st fun v h' tk hv st' kk=>?_;obtain⟨t,rfl⟩:=hv;have I1:Inv X gE σ H { s with heap:=h',toks:=tk }:=I.turned (fun b o hb e=>kk b o (by simpa using hb) e) f0 f1 f3 f4 f5;refine⟨_,rfl,go_of (s:={ s with heap:=h',toks:=tk }) (n := "range_iterator") st' rfl rfl (by decide) ⟨.int (lo+i),H,I1,⟨t,?_⟩,⟨rfl,rfl⟩,st',fun b hb=>(hf b hb).1⟩⟩;rw[Int.mul_one]
 done:=by
  intro X hP hw hK hc i gE s σ H E I hf st hg;subst hP hw hK;obtain⟨f0,f1,f2,f3,f4,f5⟩:=hf it (by simp);exact wpAny_pyNext_range_end (I.ok.hd hc) st (by have:n<=i:=hg;omega) fun h' eb=>⟨rfl,I.turned (t':=s.toks) (fun b o hb e=>eb b o hb e) f0 f1 f3 f4 f5⟩
 self:=fun _ _ _ _ _ st h=>wpAny_pyIter_rangeiter st h
section
variable{X:Cx}{tg:Expr}
inductive ItlR(K:W.Frag)(x:V)(H:Hp)(R:It->Hp->Prop):Prop
 |mk (a:Addr) (h:x=.ref a) (h2:∃xs,SqL K H a xs) (k:R (Itl K a) H):ItlR K x H R
def iList(K:W.Frag)(tl:TE):TI:=fun σ H R=>tl σ H fun x H1=>ItlR K x H1 R
def iTup(K:W.Frag)(tl:TE):TI:=fun σ H R=>tl σ H fun x H1=>∃a,x=.ref a/\(∃xs,SqT K H1 a xs)/\R (Itt K a) H1
theorem pi_list{l:Expr}{tl:TE}(hl:PE X l tl):PI X tg l (iList X.K tl):=by
 intro gE s σ H R I h;refine thn (hl gE s σ H _ I h) fun v s1 ⟨x,H1,I1,r1,q1⟩=>?_;obtain⟨a,e,⟨xs,hq⟩,q⟩:=q1;subst e;cases r1;obtain⟨its,rv,p,hz⟩:=I1.list hq;refine wpAny_pyIter_list p.isList ?_;refine⟨s1.heap.objs.size,[s1.heap.objs.size],_,_,H1,rfl,I1.kept (t':=s1.toks) fun b o e=>iu _ e,turn_list a _,⟨_,iF _ rfl,rfl,rfl⟩,fun b hb=>?_,q⟩;have e:b=s1.heap.objs.size:=by simpa using hb
 subst e;exact I1.fpOk (gY _) (I1.hok.fresh (gY _))
theorem pi_tup{l:Expr}{tl:TE}(hl:PE X l tl):PI X tg l (iTup X.K tl):=by
 intro gE s σ H R I h;refine thn (hl gE s σ H _ I h) fun v s1 ⟨x,H1,I1,r1,q1⟩=>?_;obtain⟨a,e,⟨xs,hq⟩,q⟩:=q1;subst e;cases r1;obtain⟨its,rv,p,hz⟩:=I1.tuple hq;refine wpAny_pyIter_tuple (show s1.heap.IsTuple a its.toArray from p) ?_;refine⟨s1.heap.objs.size,[s1.heap.objs.size],_,_,H1,rfl,I1.kept (t':=s1.toks) fun b o e=>iu _ e,vT a _,⟨_,iF _ rfl,rfl,rfl⟩,fun b hb=>?_,q⟩;have e:b=s1.heap.objs.size:=by simpa using hb
 subst e;exact I1.fpOk (gY _) (I1.hok.fresh (gY _))
theorem range_it{gE:List (Addr×Obj)}{σ:St}{H:Hp}{s:Shared}{R:It->Hp->Prop}{E:Value->Shared->Prop}{lo hi:Int}{t u v:Tok}{tk:Nat}(I:Inv X gE σ H s)(h1:-(2 ^ 62)<=lo)(h2:lo<2 ^ 62)(h3:-(2 ^ 62)<=hi)(h4:hi<2 ^ 62)
  (q:R (Itr lo (hi-lo).toNat) H):wpAny (model X.prog X.w) X.A (pyIter (.ref s.heap.objs.size)) (PIE X gE σ tg R) E { s with heap:=s.heap.push { cls:=.type "range",data:=.fields #[.int lo t,.int hi u,.int 1 v] },toks:=tk }:=by
 refine wpAny_pyIter_range (IsRange.new ..) (small_one h1 h2 h3 h4) ?_;have I1:Inv X gE σ H { s with heap:=s.heap.push { cls:=.type "range",data:=.fields #[.int lo t,.int hi u,.int 1 v] },toks:=tk }:=I.kept fun b o e=>iu _ e;refine⟨(s.heap.push { cls:=.type "range",data:=.fields #[.int lo t,.int hi u,.int 1 v] }).objs.size,[(s.heap.push { cls:=.type "range",data:=.fields #[.int lo t,.int hi u,.int 1 v] }).objs.size],_,_,H,rfl,
  I1.kept (t':=tk) fun b o e=>iu _ e,vN _ lo (hi-lo).toNat,?_,fun b hb=>?_,q⟩
 ·have e1:lo+((0:Nat):Int)*1=lo:=by simp
  have e2:(((hi-lo).toNat:Nat):Int)-((0:Nat):Int)=Builtin.Range.rangeSize lo hi 1:=by rw[rangeSize_one];split<;>omega
  show IsRangeIter _ _ (lo+((0:Nat):Int)*1) ((((hi-lo).toNat:Nat):Int)-((0:Nat):Int)) 1
  rw[e1,e2];exact iF _ rfl
 ·have e:b=(s.heap.push { cls:=.type "range",data:=.fields #[.int lo t,.int hi u,.int 1 v] }).objs.size:=by simpa using hb
  subst e;exact I1.fpOk (gY _) (I1.hok.fresh (gY _))
def iRng1(ta:TA):TI:=fun σ H R=>ta σ H fun vs H1=>∃j:Int,vs=[.int j]/\-(2 ^ 62)<=j/\j<2 ^ 62/\R (Itr 0 j.toNat) H1
theorem UN{a:Expr}{ta:TA}{p pos:Pos}(hg:Gl X "range")(hm:X.mg "range" = none)(ha:PA X [a] ta)(hs:starEach [a] X.env=[(false,eval a X.env)]:=by rfl):PI X tg (.Call (.Name "range" p) [a] [] pos) (iRng1 ta):=by
 intro gE s σ H R I h;refine Call_ (UK I hg hm boot_range (kS (thn (ha pos gE s σ H _ I h) fun us s1 ⟨vs,H1,I1,r1,q1⟩=>?_) hs rfl));obtain⟨j,e,q1,q2,q⟩:=q1;subst e;cases r1 with
 |cons r rr=>
  cases rr;obtain⟨t,rfl⟩:=r;exact call_range_1 (range_it I1 (by omega) (by omega) q1 q2 (by simpa using q))
def tFor(wi:TI)(g:TG)(tb:TS):TS:=fun D σ H=>wi σ H fun J H1=>∃W:Nat->Nat->St->Hp->Prop,(∃m,W 0 m σ H1)/\∀i m σ H,W i m σ H ->
 (J.stop i H/\D.nx σ H)\/(J.go i H/\∃N:St->Hp->Prop,(∀σ' H',N σ' H'->∃m',m'<m/\W (i+1) m' σ' H')/\∀x H',J.yld i H x H'->g x σ H' fun σ2 H2=>tb { D with nx:=N,ct:=N,bk:=D.nx } σ2 H2)
def qU(fp:List Addr)(h:Heap):List (Addr×Obj):=fp.filterMap fun b=>(h.get? b).map fun o=>(b,o)
theorem Vb{fp:List Addr}{h:Heap}{b:Addr}{o:Obj}(hb:b∈fp)(e:h.get? b=some o):(b,o)∈qU fp h:=jD.mpr ⟨b,hb,by rw[e];rfl⟩
theorem of_pinsAt{fp:List Addr}{h:Heap}{p:Addr×Obj}(hp:p∈qU fp h):p.1∈fp/\h.get? p.1=some p.2:=by
 obtain⟨b,hb,e⟩:=jD.mp hp;cases q:h.get? b with
 |none=>rw[q] at e;cases e
 |some o=>
  rw[q] at e;have e':(b,o)=p:=iB e;subst e';exact⟨hb,q⟩
theorem Inv.pinned{gE:List (Addr×Obj)}{σ:St}{H:Hp}{s:Shared}{fp:List Addr}(I:Inv X gE σ H s)(hf:∀b∈fp,VY X gE H b)(ho:∀b∈fp,∃o,s.heap.get? b=some o/\∀v,o.data≠.cell v):Inv X (gE++qU fp s.heap) σ H s:=
 I.pins_of fun p hp=>(iH.mp hp).elim (fun z=>I.pin p (iE _ z)) fun z=>by
  obtain⟨hb,e⟩:=of_pinsAt z;obtain⟨f0,f1,f2,_⟩:=hf p.1 hb;obtain⟨o,e',d⟩:=ho p.1 hb;rw[e] at e';cases e';exact⟨e,f0,f1,f2,d⟩
theorem Inv.unpinned{gE pl:List (Addr×Obj)}{σ:St}{H:Hp}{s:Shared}(I:Inv X (gE++pl) σ H s):Inv X gE σ H s:=I.pins_of fun p hp=>I.pin p (iE _ (iX _ hp))
theorem Xw{iter:Expr}{body:List Stmt}{wi:TI}{g:TG}{tb:TS}{pos:Pos}(hp:PassesOwn (model X.prog X.w) X.A X.env X.xe)(hc:X.calm=true)(hi:PI X tg iter wi)(hg:PG X tg g)(hb:PSs X body tb)
  (hs:∀x,foldedSetIterable iter X.env x=pure x:=by intro _;rfl):PS X (.For tg iter body [] pos) (tFor wi g tb):=by
 intro gE s σ H D I h;refine wpAny_For (thn (hi gE s σ H _ I h) fun v s1 h1=>thn h1 fun itv s2 h2=>?_) hs;obtain⟨it,fp,tn,J,H2,e,I2,T,st2,f2,W,⟨m0,w0⟩,turn⟩:=h2;subst e;have stat:∀{H':Hp},(∀b∈fp,H' b=none)->∀b∈fp,VY X gE H' b:=fun hn b hb=>⟨hn b hb,(f2 b hb).2⟩;refine codeAny_forLoop_any (fun n s'=>∃i σ' H',Inv X gE σ' H' s'/\tn i s'.heap/\(∀b∈fp,H' b=none)/\W i n σ' H') ?_ m0 ⟨0,σ,H2,I2,st2,fun b hb=>(f2 b hb).1,w0⟩;rintro n s3 ⟨i,σ3,H3,I3,st3,fr3,w3⟩;rcases turn i n σ3 H3 w3 with⟨stop,qn⟩|⟨go,N,hN,step⟩
 ·refine jC hp (thn (T.done X rfl rfl rfl hc i gE s3 σ3 H3 X.xe I3 (stat fr3) st3 stop) fun r s4 ⟨hr,I4⟩=>?_);subst hr;exact jP ⟨σ3,H3,I4,qn⟩
 ·refine jC hp (thn (T.item X rfl rfl rfl hc i gE s3 σ3 H3 X.xe I3 (stat fr3) st3 go) fun r s4 ⟨u,hr,h4⟩=>?_);subst hr;refine jC hp (thn h4 fun _ s5 ⟨x,H5,I5,r5,y5,st5,fr5⟩=>?_);have I5':=I5.pinned (stat fr5) (T.obj _ _ st5);refine jC hp (thn (hg _ s5 σ3 H5 x u _ I5' r5 (step x H5 y5)) fun _ s6 ⟨σ6,H6,I6,q6⟩=>?_);refine jC hp (thn (hb _ s6 σ6 H6 _ I6 q6) fun f s7 q7=>?_);have again:∀{σ7:St}{H7:Hp},Inv X (gE++qU fp s5.heap) σ7 H7 s7->N σ7 H7->∃m,m<n/\∃i σ' H',Inv X gE σ' H' s7/\tn i s7.heap/\(∀b∈fp,H' b=none)/\W i m σ' H':=fun {σ7 H7} I7 n7=>by
   obtain⟨m',hm,w7⟩:=hN σ7 H7 n7;refine⟨m',hm,i+1,σ7,H7,I7.unpinned,T.keep _ _ _ st5 fun b hb o e=>(I7.pin (b,o) (iE _ (iE _ (Vb hb e)))).1,fun b hb=>?_,w7⟩;obtain⟨o,e,d⟩:=T.obj _ _ st5 b hb;exact(I7.pin (b,o) (iE _ (iE _ (Vb hb e)))).2.1
  cases f with
  |next=>obtain⟨σ7,H7,I7,n7⟩:=q7;exact again I7 n7
  |cont=>obtain⟨σ7,H7,I7,n7⟩:=q7;exact again I7 n7
  |brk=>obtain⟨σ7,H7,I7,q7⟩:=q7;exact⟨σ7,H7,I7.unpinned,q7⟩
  |ret v=>obtain⟨x7,σ7,H7,I7,r7,q7⟩:=q7;exact⟨x7,σ7,H7,I7.unpinned,r7,q7⟩
end
theorem X3{K:W.Frag}{a:Addr}{xs:List V}{g:TG}{tb:TS}{D:Ends}{σ:St}{H:Hp}(Pv:Nat->St->Hp->Prop)(h0:Pv 0 σ H)(hl:∀i σ H,i<=xs.length->Pv i σ H->SqL K H a xs)
  (hs:∀i x σ H,xs[i]?=some x->Pv i σ H->g x σ H fun σ2 H2=>tb { D with nx:=Pv (i+1),ct:=Pv (i+1),bk:=D.nx } σ2 H2) (hd:∀σ H,Pv xs.length σ H->D.nx σ H) :
  ∃W:Nat->Nat->St->Hp->Prop,(∃m,W 0 m σ H)/\∀i m σ H,W i m σ H ->
   ((Itl K a).stop i H/\D.nx σ H)\/((Itl K a).go i H/\∃N:St->Hp->Prop,(∀σ' H',N σ' H'->∃m',m'<m/\W (i+1) m' σ' H')/\∀x H',(Itl K a).yld i H x H'->g x σ H' fun σ2 H2=>tb { D with nx:=N,ct:=N,bk:=D.nx } σ2 H2):=by
 refine⟨fun i m σ H=>m=xs.length-i/\i<=xs.length/\Pv i σ H,⟨xs.length,by simp,iU _,h0⟩,?_⟩;rintro i m σ H ⟨rfl,hi,p⟩;have q:=hl i σ H hi p
 by_cases hlt:i<xs.length
 ·refine .inr ⟨⟨xs,xs[i],q,by simp[hlt]⟩,Pv (i+1),fun σ' H' p'=>⟨xs.length-(i+1),by omega,rfl,hlt,p'⟩,fun x H' y=>?_⟩;obtain⟨e,y⟩:=y;subst e;exact hs i x σ _ (y xs q) p
 ·have e:i=xs.length:=by omega
  subst e;exact .inl ⟨⟨xs,q,gY _⟩,hd σ H p⟩
theorem ym{K:W.Frag}{a:Addr}{xs:List V}{g:TG}{tb:TS}{D:Ends}{σ:St}{H:Hp}(Pv:Nat->St->Hp->Prop)(h0:Pv 0 σ H)(hl:∀i σ H,i<=xs.length->Pv i σ H->SqT K H a xs)
  (hs:∀i x σ H,xs[i]?=some x->Pv i σ H->g x σ H fun σ2 H2=>tb { D with nx:=Pv (i+1),ct:=Pv (i+1),bk:=D.nx } σ2 H2) (hd:∀σ H,Pv xs.length σ H->D.nx σ H) :
  ∃W:Nat->Nat->St->Hp->Prop,(∃m,W 0 m σ H)/\∀i m σ H,W i m σ H ->
   ((Itt K a).stop i H/\D.nx σ H)\/((Itt K a).go i H/\∃N:St->Hp->Prop,(∀σ' H',N σ' H'->∃m',m'<m/\W (i+1) m' σ' H')/\∀x H',(Itt K a).yld i H x H'->g x σ H' fun σ2 H2=>tb { D with nx:=N,ct:=N,bk:=D.nx } σ2 H2):=by
 refine⟨fun i m σ H=>m=xs.length-i/\i<=xs.length/\Pv i σ H,⟨xs.length,by simp,iU _,h0⟩,?_⟩;rintro i m σ H ⟨rfl,hi,p⟩;have q:=hl i σ H hi p
 by_cases hlt:i<xs.length
 ·refine .inr ⟨⟨xs,xs[i],q,by simp[hlt]⟩,Pv (i+1),fun σ' H' p'=>⟨xs.length-(i+1),by omega,rfl,hlt,p'⟩,fun x H' y=>?_⟩;obtain⟨e,y⟩:=y;subst e;exact hs i x σ _ (y xs q) p
 ·have e:i=xs.length:=by omega
  subst e;exact .inl ⟨⟨xs,q,gY _⟩,hd σ H p⟩
theorem for_range{lo:Int}{n:Nat}{g:TG}{tb:TS}{D:Ends}{σ:St}{H:Hp}(Pv:Nat->St->Hp->Prop)(h0:Pv 0 σ H)
  (hs:∀i σ H,i<n->Pv i σ H->g (.int (lo+i)) σ H fun σ2 H2=>tb { D with nx:=Pv (i+1),ct:=Pv (i+1),bk:=D.nx } σ2 H2) (hd:∀σ H,Pv n σ H->D.nx σ H) :
  ∃W:Nat->Nat->St->Hp->Prop,(∃m,W 0 m σ H)/\∀i m σ H,W i m σ H ->
   ((Itr lo n).stop i H/\D.nx σ H)\/((Itr lo n).go i H/\∃N:St->Hp->Prop,(∀σ' H',N σ' H'->∃m',m'<m/\W (i+1) m' σ' H')/\∀x H',(Itr lo n).yld i H x H'->g x σ H' fun σ2 H2=>tb { D with nx:=N,ct:=N,bk:=D.nx } σ2 H2):=by
 refine⟨fun i m σ H=>m=n-i/\i<=n/\Pv i σ H,⟨n,by simp,iU _,h0⟩,?_⟩;rintro i m σ H ⟨rfl,hi,p⟩
 by_cases hlt:i<n
 ·refine .inr ⟨hlt,Pv (i+1),fun σ' H' p'=>⟨n-(i+1),by omega,rfl,hlt,p'⟩,fun x H' y=>?_⟩;obtain⟨e,y⟩:=y;subst e y;exact hs i σ _ hlt p
 ·have e:i=n:=by omega
  subst e;exact .inl ⟨gY _,hd σ H p⟩
abbrev R2:=V->V->Hp->VK->Prop
def OpR(X:Cx)(f:Value->Value->Sem Value)(r:R2):Prop:=
 ∀(gE:List (Addr×Obj)) (s:Shared) (σ:St) (H:Hp) (x y:V) (v u:Value) (Q:VK),Inv X gE σ H s->ZU x v->ZU y u->r x y H Q ->
  wpAny (model X.prog X.w) X.A (f v u) (EP X gE σ Q) X.xe s
def UnR(X:Cx)(f:Value->Sem Value)(r:V->Hp->VK->Prop):Prop:=
 ∀(gE:List (Addr×Obj)) (s:Shared) (σ:St) (H:Hp) (x:V) (v:Value) (Q:VK),Inv X gE σ H s->ZU x v->r x H Q ->
  wpAny (model X.prog X.w) X.A (f v) (EP X gE σ Q) X.xe s
def YS(X:Cx)(f:Value)(r:List V->Hp->VK->Prop):Prop:=
 ∀(gE:List (Addr×Obj)) (s:Shared) (σ:St) (H:Hp) (xs:List V) (us:List Value) (Q:VK),Inv X gE σ H s->ZN xs us->r xs H Q ->
  wpAny (model X.prog X.w) X.A (call f us) (EP X gE σ Q) X.xe s
def TruR(X:Cx)(r:V->Hp->(Bool->Hp->Prop)->Prop):Prop:=
 ∀(gE:List (Addr×Obj)) (s:Shared) (σ:St) (H:Hp) (x:V) (v:Value) (Q:Bool->Hp->Prop),Inv X gE σ H s->ZU x v->r x H Q ->
  wpAny (model X.prog X.w) X.A (truthy v) (TP X gE σ Q) X.xe s
def tOp(r:R2)(ta tb:TE):TE:=fun σ H Q=>ta σ H fun x H1=>tb σ H1 fun y H2=>r x y H2 Q
def tUn(r:V->Hp->VK->Prop)(ta:TE):TE:=fun σ H Q=>ta σ H fun x H1=>r x H1 Q
inductive rI_R(C:Int->Int->Prop)(g:Int->Int->V)(x:V)(y:V)(H:Hp)(Q:VK):Prop
 |mk (i:_) (j:_) (h0:x=.int i) (h1:y=.int j) (h2:C i j) (h3:Q (g i j) H):rI_R C g x y H Q
def rI(C:Int->Int->Prop)(g:Int->Int->V):R2:=fun x y H Q=>rI_R C g x y H Q
inductive rI0_R(g:Int->Int->V)(x:V)(y:V)(H:Hp)(Q:VK):Prop
 |mk (i:_) (j:_) (h0:x=.int i) (h1:y=.int j) (h2:Q (g i j) H):rI0_R g x y H Q
def rI0(g:Int->Int->V):R2:=fun x y H Q=>rI0_R g x y H Q
inductive rU_R(g:Int->V)(x:V)(H:Hp)(Q:VK):Prop
 |mk (i:_) (h0:x=.int i) (h1:Q (g i) H):rU_R g x H Q
def rU(g:Int->V):V->Hp->VK->Prop:=fun x H Q=>rU_R g x H Q
section
variable{X:Cx}{a b c:Expr}{ta tb tc:TE}{pos:Pos}
theorem binT(ha:PE X a ta)(hb:PE X b tb){gE:List (Addr×Obj)}{s:Shared}{σ:St}{H:Hp}{R:V->V->Hp->Prop}(I:Inv X gE σ H s)
  (h:ta σ H fun x H1=>tb σ H1 fun y H2=>R x y H2) {Q:Value->Shared->Prop}{f:Value->Value->Sem Value}
  (hf:∀v u s2 x y H2,Inv X gE σ H2 s2->ZU x v->ZU y u->R x y H2->wpAny (model X.prog X.w) X.A (f v u) Q X.xe s2) :
  wpAny (model X.prog X.w) X.A (eval a X.env) (fun v s₁=>wpAny (model X.prog X.w) X.A (eval b X.env) (fun u s₂=>wpAny (model X.prog X.w) X.A (f v u) Q X.xe s₂) X.xe s₁) X.xe s:=by
 refine thn (ha gE s σ H _ I h) fun v s1 ⟨x,H1,I1,r1,q1⟩=>?_;refine thn (hb gE s1 σ H1 _ I1 q1) fun u s2 ⟨y,H2,I2,r2,q2⟩=>?_;exact hf v u s2 x y H2 I2 r1 r2 q2
theorem ZE{op:Operator}{r:R2}(ho:OpR X (binaryOp op) r)(ha:PE X a ta)(hb:PE X b tb):PE X (.BinOp a op b pos) (tOp r ta tb):=by
 intro gE s σ H Q I h;exact wpAny_BinOp (binT ha hb I h fun v u s2 x y H2 I2 rx ry q=>ho gE s2 σ H2 x y v u Q I2 rx ry q)
theorem VL{op:UnaryOp}{r:V->Hp->VK->Prop}(ho:UnR X (unaryOp op) r)(ha:PE X a ta):PE X (.UnaryOp op a pos) (tUn r ta):=by
 intro gE s σ H Q I h;exact UnaryOp_ (thn (ha gE s σ H _ I h) fun v s1 ⟨x,H1,I1,r1,q1⟩=>ho gE s1 σ H1 x v Q I1 r1 q1)
theorem opI{f:Value->Value->Sem Value}{C:Int->Int->Prop}{g:Int->Int->Int}
  (rule:∀(i j:Int) (t u:Tok) (s:Shared) (Q:Value->Shared->Prop) (E:Value->Shared->Prop),C i j->Q (.int (g i j) s.toks) { s with toks:=s.toks+1 }->wpAny (model X.prog X.w) X.A (f (.int i t) (.int j u)) Q E s) :
  OpR X f (rI C fun i j=>.int (g i j)):=by
 intro gE s σ H x y v u Q I rx ry h;obtain⟨i,j,rfl,rfl,hc,q⟩:=h;obtain⟨t,rfl⟩:=rx;obtain⟨t',rfl⟩:=ry;exact rule i j t t' s _ _ hc ⟨.int (g i j),H,I.tok _,⟨_,rfl⟩,q⟩
theorem opI0{f:Value->Value->Sem Value}{g:Int->Int->Int}
  (rule:∀(i j:Int) (t u:Tok) (s:Shared) (Q:Value->Shared->Prop) (E:Value->Shared->Prop),Q (.int (g i j) s.toks) { s with toks:=s.toks+1 }->wpAny (model X.prog X.w) X.A (f (.int i t) (.int j u)) Q E s) :
  OpR X f (rI0 fun i j=>.int (g i j)):=by
 intro gE s σ H x y v u Q I rx ry h;obtain⟨i,j,rfl,rfl,q⟩:=h;obtain⟨t,rfl⟩:=rx;obtain⟨t',rfl⟩:=ry;exact rule i j t t' s _ _ ⟨.int (g i j),H,I.tok _,⟨_,rfl⟩,q⟩
theorem opB0{f:Value->Value->Sem Value}{g:Int->Int->Bool}
  (rule:∀(i j:Int) (t u:Tok) (s:Shared) (Q:Value->Shared->Prop) (E:Value->Shared->Prop),Q (.bool (g i j)) s->wpAny (model X.prog X.w) X.A (f (.int i t) (.int j u)) Q E s) :
  OpR X f (rI0 fun i j=>.bl (g i j)):=by
 intro gE s σ H x y v u Q I rx ry h;obtain⟨i,j,rfl,rfl,q⟩:=h;obtain⟨t,rfl⟩:=rx;obtain⟨t',rfl⟩:=ry;exact rule i j t t' s _ _ ⟨.bl (g i j),H,I,rfl,q⟩
def CDiv(i j:Int):Prop:=0<j/\j<1073741824
def CPow(i j:Int):Prop:=0<=j/\j<=1000000/\i.natAbs<2 ^ 64
def CMul(i j:Int):Prop:=(-(2 ^ 64)<i/\i<2 ^ 64)\/(-(2 ^ 64)<j/\j<2 ^ 64)
theorem CMul.ok{i j:Int}(h:CMul i j):IntMulOk i j:=by
 rcases h with⟨h1,h2⟩|⟨h1,h2⟩
 ·exact .of_left (intBits_le_64 h1 h2)
 ·exact .of_right (intBits_le_64 h1 h2)
theorem Yy:OpR X (binaryOp .Add) (rI0 fun i j=>.int (i+j)):=opI0 fun _ _ _ _ _ _ _ q=>add_int q
theorem op_sub:OpR X (binaryOp .Sub) (rI0 fun i j=>.int (i-j)):=opI0 fun _ _ _ _ _ _ _ q=>sub_int q
theorem VQ:OpR X (binaryOp .Mult) (rI CMul fun i j=>.int (i*j)):=opI fun _ _ _ _ _ _ _ hc q=>mul_int q hc.ok
theorem WA:OpR X (binaryOp .FloorDiv) (rI CDiv fun i j=>.int (i/j)):=opI fun i j _ _ _ _ _ hc q=>by
 have h1:(0:Int)<j:=hc.1;have h2:j<1073741824:=hc.2;exact floordiv_int (by omega) (by rw[Int.fdiv_eq_ediv_of_nonneg i (by omega)];exact q) (.inl (PyProof.noPylong_small (by omega)))
theorem Xx:OpR X (binaryOp .Mod) (rI (fun _ j=>0<j) fun i j=>.int (i%j)):=opI fun i j _ _ _ _ _ hc q=>by
 have h1:(0:Int)<j:=hc;exact mod_int' (by omega) (by rw[Int.fmod_eq_emod_of_nonneg i (by omega)];exact q)
theorem op_pow:OpR X (binaryOp .Pow) (rI CPow fun i j=>.int (i ^ j.toNat)):=opI fun _ _ _ _ _ _ _ hc q=>pow_int_small hc.1 hc.2.1 hc.2.2 q
theorem unI{f:Value->Sem Value}{g:Int->Int}
  (rule:∀(i:Int) (t:Tok) (s:Shared) (Q:Value->Shared->Prop) (E:Value->Shared->Prop),Q (.int (g i) s.toks) { s with toks:=s.toks+1 }->wpAny (model X.prog X.w) X.A (f (.int i t)) Q E s) :
  UnR X f (rU fun i=>.int (g i)):=by
 intro gE s σ H x v Q I rx h;obtain⟨i,rfl,q⟩:=h;obtain⟨t,rfl⟩:=rx;exact rule i t s _ _ ⟨.int (g i),H,I.tok _,⟨_,rfl⟩,q⟩
theorem WI:UnR X (unaryOp .USub) (rU fun i=>.int (-i)):=unI fun _ _ _ _ _ q=>neg_int q
end
def scal:V->V->Bool
 |.non,.non=>true|.non,.int _=>true|.int _,.non=>true|.non,.bl _=>true|.bl _,.non=>true|.non,.str _=>true|.str _,.non=>true
 |.int _,.int _=>true|.bl _,.bl _=>true|.str _,.str _=>true|.byt _,.byt _=>true
 |.int _,.str _=>true|.str _,.int _=>true|.bl _,.str _=>true|.str _,.bl _=>true
 |_,_=>false
inductive rEq_R(x y:V)(H:Hp)(Q:VK):Prop
 |mk (h:scal x y=true) (k:Q (.bl (decide (x=y))) H):rEq_R x y H Q
inductive rNe_R(x y:V)(H:Hp)(Q:VK):Prop
 |mk (h:scal x y=true) (k:Q (.bl (!decide (x=y))) H):rNe_R x y H Q
def rEq:R2:=fun x y H Q=>rEq_R x y H Q
def rNe:R2:=fun x y H Q=>rNe_R x y H Q
theorem dec_int{i j:Int}:decide (V.int i=V.int j)=(i==j):=by
 rw[jQ];simp
theorem dec_bl{i j:Bool}:decide (V.bl i=V.bl j)=(i==j):=by
 rw[jQ];simp
theorem dec_str{i j:Str}:decide (V.str i=V.str j)=(i==j):=by
 rw[jQ];simp
theorem dec_byt{i j:Array UInt8}:decide (V.byt i=V.byt j)=(i.toList==j.toList):=by
 rw[jQ];cases i;cases j;simp
section
variable{X:Cx}{a b c:Expr}{ta tb tc:TE}{pos:Pos}
theorem Z3{gE:List (Addr×Obj)}{σ:St}{H:Hp}{s:Shared}{Q:VK}{k k':Bool}(I:Inv X gE σ H s)(q:Q (.bl k) H)(e:k=k'):EP X gE σ Q (.bool k') s:=by
 subst e;exact⟨.bl k,H,I,rfl,q⟩
theorem ZL:OpR X (compareOp .Eq) rEq:=by
 intro gE s σ H x y v u Q I rx ry h;obtain⟨hs,q⟩:=h;cases x with
 |non=>
  cases rx;cases y with
  |non=>cases ry;exact PySem.EqNone.eq_none_none (Z3 I q (by simp))
  |bl j=>cases ry;exact PySem.EqNone.eq_none_bool (Z3 I q (by simp))
  |int j=>obtain⟨t',rfl⟩:=ry;exact PySem.EqNone.eq_none_int (Z3 I q (by simp))
  |str j=>obtain⟨t',rfl⟩:=ry;exact PySem.EqNone.eq_none_str (Z3 I q (by simp))
  |_=>exact absurd (show false=true from hs) iy
 |bl i=>
  cases rx;cases y with
  |non=>cases ry;exact PySem.EqNone.eq_bool_none (Z3 I q (by simp))
  |bl j=>cases ry;exact eq_bool (Z3 I q dec_bl)
  |str j=>obtain⟨t',rfl⟩:=ry;exact PySem.EqMixed.eq_bool_str (Z3 I q (by simp))
  |_=>exact absurd (show false=true from hs) iy
 |int i=>
  obtain⟨t,rfl⟩:=rx;cases y with
  |non=>cases ry;exact PySem.EqNone.eq_int_none (Z3 I q (by simp))
  |int j=>obtain⟨t',rfl⟩:=ry;exact eq_int (Z3 I q dec_int)
  |str j=>obtain⟨t',rfl⟩:=ry;exact PySem.EqMixed.eq_int_str (Z3 I q (by simp))
  |_=>exact absurd (show false=true from hs) iy
 |str i=>
  obtain⟨t,rfl⟩:=rx;cases y with
  |non=>cases ry;exact PySem.EqNone.eq_str_none (Z3 I q (by simp))
  |bl j=>cases ry;exact PySem.EqMixed.eq_str_bool (Z3 I q (by simp))
  |int j=>obtain⟨t',rfl⟩:=ry;exact PySem.EqMixed.eq_str_int (Z3 I q (by simp))
  |str j=>obtain⟨t',rfl⟩:=ry;exact eq_str (Z3 I q dec_str)
  |_=>exact absurd (show false=true from hs) iy
 |byt i=>
  obtain⟨t,rfl⟩:=rx;cases y with
  |byt j=>obtain⟨t',rfl⟩:=ry;exact W.eq_bytes (Z3 I q dec_byt)
  |_=>exact absurd (show false=true from hs) iy
 |_=>cases y<;>exact absurd (show false=true from hs) iy
theorem qP:OpR X (compareOp .NotEq) rNe:=by
 intro gE s σ H x y v u Q I rx ry h;obtain⟨hs,q⟩:=h;cases x with
 |non=>
  cases rx;cases y with
  |non=>cases ry;exact PySem.EqNone.ne_none_none (Z3 I q (by simp))
  |bl j=>cases ry;exact PySem.EqNone.ne_none_bool (Z3 I q (by simp))
  |int j=>obtain⟨t',rfl⟩:=ry;exact PySem.EqNone.ne_none_int (Z3 I q (by simp))
  |str j=>obtain⟨t',rfl⟩:=ry;exact PySem.EqNone.ne_none_str (Z3 I q (by simp))
  |_=>exact absurd (show false=true from hs) iy
 |bl i=>
  cases rx;cases y with
  |non=>cases ry;exact PySem.EqNone.ne_bool_none (Z3 I q (by simp))
  |bl j=>cases ry;exact ne_bool (Z3 I q (io not dec_bl))
  |str j=>obtain⟨t',rfl⟩:=ry;exact PySem.EqMixed.ne_bool_str (Z3 I q (by simp))
  |_=>exact absurd (show false=true from hs) iy
 |int i=>
  obtain⟨t,rfl⟩:=rx;cases y with
  |non=>cases ry;exact PySem.EqNone.ne_int_none (Z3 I q (by simp))
  |int j=>obtain⟨t',rfl⟩:=ry;exact ne_int (Z3 I q (io not dec_int))
  |str j=>obtain⟨t',rfl⟩:=ry;exact PySem.EqMixed.ne_int_str (Z3 I q (by simp))
  |_=>exact absurd (show false=true from hs) iy
 |str i=>
  obtain⟨t,rfl⟩:=rx;cases y with
  |non=>cases ry;exact PySem.EqNone.ne_str_none (Z3 I q (by simp))
  |bl j=>cases ry;exact PySem.EqMixed.ne_str_bool (Z3 I q (by simp))
  |int j=>obtain⟨t',rfl⟩:=ry;exact PySem.EqMixed.ne_str_int (Z3 I q (by simp))
  |str j=>obtain⟨t',rfl⟩:=ry;exact ne_str (Z3 I q (io not dec_str))
  |_=>exact absurd (show false=true from hs) iy
 |byt i=>
  obtain⟨t,rfl⟩:=rx;cases y with
  |byt j=>obtain⟨t',rfl⟩:=ry;exact W.ne_bytes (Z3 I q (io not dec_byt))
  |_=>exact absurd (show false=true from hs) iy
 |_=>cases y<;>exact absurd (show false=true from hs) iy
theorem op_lt:OpR X (compareOp .Lt) (rI0 fun i j=>.bl (decide (i<j))):=opB0 fun _ _ _ _ _ _ _ q=>lt_int q
theorem zM:OpR X (compareOp .LtE) (rI0 fun i j=>.bl (decide (i<=j))):=opB0 fun _ _ _ _ _ _ _ q=>le_int q
theorem op_gt:OpR X (compareOp .Gt) (rI0 fun i j=>.bl (decide (j<i))):=opB0 fun _ _ _ _ _ _ _ q=>gt_int q
theorem op_in_str:OpR X (compareOp .In) (fun x y H Q=>∃i j,x=.str i/\y=.str j/\Q (.bl (!(Builtin.Str.occurrences j i 0 j.length 1).isEmpty)) H):=by
 intro gE s σ H x y v u Q I rx ry h;obtain⟨i,j,rfl,rfl,q⟩:=h;obtain⟨t,rfl⟩:=rx;obtain⟨t',rfl⟩:=ry;exact in_str (Z3 I q rfl)
theorem Zs(b:Expr){op:CmpOp}(h:op≠.In:=by decide)(h2:op≠.NotIn:=by decide):behindInMarks op b=false:=by
 have e1:(op==CmpOp.In)=false:=by cases op<;>first|rfl|exact absurd rfl h
 have e2:(op==CmpOp.NotIn)=false:=by cases op<;>first|rfl|exact absurd rfl h2
 cases b<;>simp[behindInMarks,e1,e2]
theorem Xk{op:CmpOp}{r:R2}(ho:OpR X (compareOp op) r)(ha:PE X a ta)(hb:PE X b tb)(hm:behindInMarks op b=false):PE X (.Compare a [op] [b] pos) (tOp r ta tb):=by
 intro gE s σ H Q I h;exact wpAny_Compare1 (binT ha hb I h fun v u s2 x y H2 I2 rx ry q=>ho gE s2 σ H2 x y v u Q I2 rx ry q) hm
def tTest(t:TE):TT:=fun σ H Q=>t σ H fun x H'=>BoolR x H' Q
theorem Zm{op:CmpOp}{r:R2}(ho:OpR X (compareOp op) r)(ha:PE X a ta)(hb:PE X b tb)(hm:behindInMarks op b=false):PT X (.Compare a [op] [b] pos) (tTest (tOp r ta tb)):=by
 intro gE s σ H Q I h;refine wpAny_isTrue_Compare1 (thn (ha gE s σ H _ I h) fun v s1 ⟨x,H1,I1,r1,q1⟩=>thn (hb gE s1 σ H1 _ I1 q1) fun u s2 ⟨y,H2,I2,r2,q2⟩=>
  thn (ho gE s2 σ H2 x y v u _ I2 r1 r2 q2) fun c s3 ⟨z,H3,I3,r3,k,e,q3⟩=>?_) hm
 subst e;cases r3;exact i5 ⟨H3,I3,q3⟩
def tChain(r r':R2)(ta tb tc:TE):TE:=fun σ H Q=>ta σ H fun x H1=>tb σ H1 fun y H2=>r x y H2 fun z H3=>∃k,z=.bl k /\
 (if k=true then tc σ H3 fun w' H4=>r' y w' H4 Q else Q (.bl false) H3)
theorem pe_chain{op op':CmpOp}{r r':R2}(ho:OpR X (compareOp op) r)(ho':OpR X (compareOp op') r')(ha:PE X a ta)(hb:PE X b tb)(hc:PE X c tc)
  (hm:lastMarks [op,op'] [b,c]=false:=by with_unfolding_all rfl):PE X (.Compare a [op,op'] [b,c] pos) (tChain r r' ta tb tc):=by
 intro gE s σ H Q I h;refine Compare_chain (thn (ha gE s σ H _ I h) fun v s1 ⟨x,H1,I1,r1,q1⟩=>chain_link (thn (hb gE s1 σ H1 _ I1 q1) fun u s2 ⟨y,H2,I2,r2,q2⟩=>
  thn (ho gE s2 σ H2 x y v u _ I2 r1 r2 q2) fun d s3 ⟨z,H3,I3,r3,k,e,q3⟩=>?_)) hm
 subst e;cases r3;refine i5 ?_;cases k with
 |false=>exact ite_ff ⟨.bl false,H3,I3,rfl,q3⟩
 |true=>exact ite_tt (chain_last (thn (hc gE s3 σ H3 _ I3 q3) fun w' s4 ⟨z',H4,I4,r4,q4⟩=>ho' gE s4 σ H4 y z' u w' Q I4 r2 r4 q4))
theorem pt_chain{op op':CmpOp}{r r':R2}(ho:OpR X (compareOp op) r)(ho':OpR X (compareOp op') r')(ha:PE X a ta)(hb:PE X b tb)(hc:PE X c tc)
  (hm:lastMarks [op,op'] [b,c]=false:=by with_unfolding_all rfl):PT X (.Compare a [op,op'] [b,c] pos) (tTest (tChain r r' ta tb tc)):=by
 intro gE s σ H Q I h;refine isTrue_chain (thn (ha gE s σ H _ I h) fun v s1 ⟨x,H1,I1,r1,q1⟩=>test_link (thn (hb gE s1 σ H1 _ I1 q1) fun u s2 ⟨y,H2,I2,r2,q2⟩=>
  thn (ho gE s2 σ H2 x y v u _ I2 r1 r2 q2) fun d s3 ⟨z,H3,I3,r3,k,e,q3⟩=>?_)) hm
 subst e;cases r3;refine i5 ?_;cases k with
 |false=>
  obtain⟨k',e',q'⟩:=q3;cases e';exact ite_ff ⟨H3,I3,q'⟩
 |true=>
  refine ite_tt (test_last (thn (hc gE s3 σ H3 _ I3 q3) fun w' s4 ⟨z',H4,I4,r4,q4⟩=>thn (ho' gE s4 σ H4 y z' u w' _ I4 r2 r4 q4) fun d' s5 ⟨z2,H5,I5,r5,k2,e2,q5⟩=>?_));subst e2;cases r5;exact i5 ⟨H5,I5,q5⟩
def TruV(K:W.Frag)(x:V)(H:Hp)(k:Bool):Prop:=
 match x with
 |.non=>k=false
 |.bl b=>k=b
 |.int i=>k=(i != 0)
 |.str y=>y.length<=sizeLine/\k=((y.length:Int) != 0)
 |.byt y=>y.size<=sizeLine/\k=((y.size:Int) != 0)
 |.ref p=>(∃xs,SqL K H p xs/\k = !xs.isEmpty)\/(∃xs,SqT K H p xs/\k = !xs.isEmpty)\/∃kvs,H p=some (.dK kvs)/\k = !kvs.isEmpty
 |_=>False
theorem vD{κ:Type}{kvs:List (κ×V)}{vs:List (κ×Value)}(r:KV kvs vs):(!vs.isEmpty) = !kvs.isEmpty:=by
 cases r<;>rfl
theorem zg{xs:List V}{its:List Value}(r:ZN xs its):(!its.toArray.isEmpty) = !xs.isEmpty:=by
 cases r<;>simp
theorem qE:(sizeLine:Nat)<2 ^ 63:=by rw[gU];decide
theorem tru_ok:TruR X (fun x H Q=>∃k,TruV X.K x H k/\Q k H):=by
 intro gE s σ H x v Q I rx h;obtain⟨k,e,q⟩:=h;have hl:=qE;have hs:sizeLine=16777216:=gU;cases x with
 |non=>
  cases rx;have e':k=false:=e;subst e';exact truthy_none ⟨H,I,q⟩
 |bl b=>
  cases rx;have e':k=b:=e;subst e';exact i5 ⟨H,I,q⟩
 |int i=>
  obtain⟨t,rfl⟩:=rx;have e':k=(i != 0):=e;subst e';exact PySem.P.truthy_int ⟨H,I,q⟩
 |str y=>
  obtain⟨t,rfl⟩:=rx;obtain⟨hy,e'⟩:y.length<=sizeLine/\k=((y.length:Int) != 0):=e;subst e';exact PySem.P.truthy_str (by omega) ⟨H,I.tok _,q⟩
 |byt y=>
  obtain⟨t,rfl⟩:=rx;obtain⟨hy,e'⟩:y.size<=sizeLine/\k=((y.size:Int) != 0):=e;subst e';exact W.truthy_bytes (by omega) ⟨H,I.tok _,q⟩
 |ref p=>
  cases rx;have e':(∃xs,SqL X.K H p xs/\k = !xs.isEmpty)\/(∃xs,SqT X.K H p xs/\k = !xs.isEmpty)\/∃kvs,H p=some (.dK kvs)/\k = !kvs.isEmpty:=e;rcases e' with⟨xs,hx,e'⟩|⟨xs,hx,e'⟩|⟨kvs,hx,e'⟩
  ·subst e';obtain⟨its,r,pl,hz⟩:=I.list hx;have hlen:=r.length;exact wpAny_truthy_list pl.isList (by simp only[ij];omega) ⟨H,I.tok _,by rw[zg r];exact q⟩
  ·subst e';obtain⟨its,r,pl,hz⟩:=I.tuple hx;have hlen:=r.length;exact truthy_tuple pl (by simp only[ij];omega) ⟨H,I.tok _,by rw[zg r];exact q⟩
  ·subst e';obtain⟨hz,hS,vs,r,m⟩:kvs.length<=sizeLine/\(p==sysModules)=false/\∃vs,KV kvs vs/\s.heap.DictOf (ZW X.prog X.w) p vs:=I.hok p _ hx;have hlen:kvs.length=vs.length:=j9 r;exact wpAny_truthy_dict hS m (by omega) ⟨H,I.tok _,by rw[vD r];exact q⟩
 |_=>exact(show False from e).elim
theorem pt_truth(ha:PE X a ta)(he:∀whole,isTrue a X.env whole=(do let v <- whole;standAt a.pos;holding [v] (truthy v))) :
  PT X a (fun σ H Q=>ta σ H fun x H'=>∃k,TruV X.K x H' k/\Q k H'):=by
 intro gE s σ H Q I h;exact isTrue_plain (thn (ha gE s σ H _ I h) fun v s1 ⟨x,H1,I1,r1,q1⟩=>tru_ok gE s1 σ H1 x v Q I1 r1 q1) (he _)
theorem WN{x:V}{us:List Value}(r:ZN [x] us):∃u,us=[u]/\ZU x u:=by
 cases r with
 |cons r1 r2=>cases r2;exact⟨_,rfl,r1⟩
theorem vals2{x y:V}{us:List Value}(r:ZN [x,y] us):∃u w',us=[u,w']/\ZU x u/\ZU y w':=by
 cases r with
 |cons r1 r2=>
  cases r2 with
  |cons r3 r4=>cases r4;exact⟨_,_,rfl,r1,r3⟩
theorem yg(hc:X.calm=true):YS X (.builtin "max") (fun xs H Q=>∃i j,xs=[.int i,.int j]/\Q (.int (if j>i then j else i)) H):=by
 intro gE s σ H xs us Q I r h;obtain⟨i,j,rfl,q⟩:=h;obtain⟨u,w',rfl,⟨t,rfl⟩,⟨t',rfl⟩⟩:=vals2 r;refine max_two_ints (I.ok.hd hc) fun h' tk k=>⟨_,H,I.kept k,?_,q⟩
 by_cases hj:j>i
 ·rw[if_pos hj,if_pos hj];exact⟨_,rfl⟩
 ·rw[if_neg hj,if_neg hj];exact⟨_,rfl⟩
theorem zQ:YS X (.type "int") (fun xs H Q=>(∃i,xs=[.int i]/\Q (.int i) H)\/∃k,xs=[.bl k]/\Q (.int (if k then 1 else 0)) H):=by
 intro gE s σ H xs us Q I r h;rcases h with⟨i,rfl,q⟩|⟨k,rfl,q⟩
 ·obtain⟨u,rfl,t,rfl⟩:=WN r;exact call_int_int ⟨.int i,H,I,⟨_,rfl⟩,q⟩
 ·obtain⟨u,rfl,r1⟩:=WN r;cases r1;exact call_int_bool ⟨.int (if k then 1 else 0),H,I.tok _,⟨_,rfl⟩,q⟩
end
structure ObjM(h:Heap)(x dx C:Addr)(mA:Str->Option Value):Prop where
 obj:h.get? x=some (W.instObj C dx)
 ns:h.Ns1 dx mA
 ne:dx≠x
theorem lookIn_ns{h:Heap}{dx:Addr}{mA:Str->Option Value}(n:h.Ns1 dx mA):∃od,h.get? dx=some od/\∀name,W.lookIn name od=some (mA name):=by
 obtain⟨o,es,ep,ho,hd,hk,_,hm⟩:=n;refine⟨o,ho,fun name=>?_⟩;have e:=hm name;unfold nsFind findBy at e;rw[<- Array.find?_toList] at e;unfold W.lookIn;rw[hd];dsimp only
 split
 ·rename_i y q
  rw[q] at e;exact io some e
 ·rename_i q
  rw[q] at e;have a:es.toList.any (·.refKey)=false:=by
   rw[List.any_eq_false];intro y hy;obtain⟨z,t,hkey⟩:=hk y (Array.mem_toList_iff.mp hy);simp[DictEntry.refKey,hkey]
  have a':¬es.toList.any (·.refKey)=true:=by rw[a];exact iy
  rw[if_neg a'];exact io some e
theorem ObjM.look{h:Heap}{x dx C:Addr}{mA:Str->Option Value}(I:ObjM h x dx C mA):∃od,W.InstAt h x (W.instObj C dx) C (some od)/\∀name,W.lookIn name od=some (mA name):=
 let ⟨od,ho,hl⟩:=lookIn_ns I.ns
 ⟨od,⟨I.obj,rfl,rfl,ho⟩,hl⟩
section
variable{prog:Program}{w:World}{A:Around}{E:Value->Shared->Prop}{s:Shared}{K:W.Frag}{x dx C f:Addr}{mA:Str->Option Value}{name:Str}{v:Value}
theorem get_map{expr:Bool}{Q:Value->Shared->Prop}(X:K.In s.heap)(I:ObjM s.heap x dx C mA)(hg:W.plainGet K C name=true)(hh:W.hasDictIn K C=true)
  (ha:W.findIn K (.ref C) name=some none) (hv:mA name=some v) (hv':W.handedIn v=true) (h:Q v { s with toks:=s.toks+1 }) :
  wpAny (model prog w) A (getAttr (.ref x) name expr) Q E s:=by
 obtain⟨od,J,hl⟩:=I.look;exact W.get_value X J (W.plainGet_of hg).1 (W.findObj_own hh ha rfl (by rw[hl,hv])) hv' h
theorem get_meth{pl:Sem Bool}{Q:Value×List Value->Shared->Prop}(X:K.In s.heap)(I:ObjM s.heap x dx C mA)(hg:W.plainGet K C name=true)
  (hf:W.findIn K (.ref C) name=some (some (.ref f))) (ht:W.isFn K (.ref f)=true) (hv:mA name=none) (h:Q (.ref f,[.ref x]) s) :
  wpAny (model prog w) A (getMethod (.ref x) name pl) Q E s:=by
 obtain⟨od,J,hl⟩:=I.look;exact W.method_fn X J (W.plainGet_of hg).1 (W.plainGet_of hg).2 hf (jp.mp ht) (by show(W.lookIn name od).map (·.isSome)=some false;rw[hl,hv];rfl) h
theorem set_map{ns:List Str}{Q:Unit->Shared->Prop}(X:K.In s.heap)(I:ObjM s.heap x dx C mA)
  (hs:W.findIn K (.ref C) "__setattr__" = some (some (.builtin "object.__setattr__"))) (hp:W.plainOver K C=true) (ht:W.takerIn K C name=some none) (hh:W.hasDictIn K C=true)
  (hw:PySem.Within mA ns) (hsz:ns.length<=sizeLine)
  (h:∀h',ObjM h' x dx C (fun y=>if y=name then some v else mA y)->Heap.SameBut dx s.heap h'->Q () { s with heap:=h',toks:=s.toks+2 }) :
  wpAny (model prog w) A (setAttr (.ref x) name v) Q E s:=by
 obtain⟨od,J,hl⟩:=I.look;refine W.set_plain X J hs (W.osa_open (s:={ s with toks:=s.toks+1 }) (r:=none) X J hp ht fun b=>?_);obtain⟨cd,hc,hd'⟩:=W.any_some hh;have hx:s.heap.get? x=some ⟨.ref C,some dx,.plain,#[]⟩:=I.obj;refine gW (gX (gW (gW (wpAny_loadPart hx (gW (W.Looks.here (s:={ s with toks:=s.toks+1 }) (W.looks_clsIn X hc) ?_))))));rw[hd'];refine gX (a:=some dx) (gW (gX (gW ?_)));refine wpAny_nsSet1 (s:={ s with toks:=s.toks+1 }) I.ns fun h' hn2 hs2=>?_;obtain⟨oD,esD,epD,hoD,hdD,hcD⟩:=hn2.count (PySem.Within.cons name v hw);refine gW (wpAny_lookBehind hoD (by rw[hdD];exact pastItsLine_dict (iq hcD (by rw[iA];omega))) ?_);exact gX (h _ ⟨(hs2.2 _ (ie I.ne)).trans I.obj,hn2,I.ne⟩ hs2)
theorem make_map{R:Result->Shared->Prop}{vs:List Value}{kw:List (Str×Value)}(X:K.In s.heap)(hm:W.makesIn K C=true)
  (hi:W.findIn K (.ref C) "__init__" = some (some (.ref f))) (hf:W.typeIn K (.ref f)=some (.type "function"))
  (h:codeAny (model prog w) (A.under (.builtin "type.__call__" ⟨.ref C::vs,kw⟩)) (.call (.ref f) ⟨.ref (s.heap.objs.size+1)::vs,kw⟩) (W.InitBack (s.heap.objs.size+1) R)
   { s with heap:=(s.heap.push W.emptyDict).push (W.instObj C s.heap.objs.size) }) :
  codeAny (model prog w) A (.call (.ref C) ⟨vs,kw⟩) R s:=by
 obtain⟨hh,g,d,t,os⟩:=s;exact W.make_core (W.makes_of X hm) (W.looks_findIn X hi) (fun self=>W.bind_fn X self hf) (.inl rfl) h
end
def YB(f:Str)(v:V):List (Str×V)->List (Str×V)
 |[]=>[(f,v)]
 | (g,x)::r=>if g=f then(g,v)::r else(g,x)::YB f v r
theorem U8(f g:Str)(v:V):∀fs:List (Str×V),(YB f v fs).lookup g=if g=f then some v else fs.lookup g
 |[]=>by
  show List.lookup g [(f,v)]=_
  by_cases h:g=f
  ·have hb:(g==f)=true:=jp.mpr h;simp only[List.lookup,hb,if_pos h]
  ·have hb:(g==f)=false:=ju.mpr h;simp only[List.lookup,hb,if_neg h]
 | (k,x)::r=>by
  have ih:=U8 f g v r;rw[show YB f v ((k,x)::r)=(if k=f then(k,v)::r else(k,x)::YB f v r) from rfl]
  by_cases hk:k=f
  ·rw[if_pos hk]
   by_cases h:g=k
   ·have hb:(g==k)=true:=jp.mpr h;simp only[List.lookup,hb,if_pos (h.trans hk)]
   ·have hb:(g==k)=false:=ju.mpr h;simp only[List.lookup,hb,if_neg (fun e:g=f=>h (e.trans hk.symm))]
  ·rw[if_neg hk]
   by_cases h:g=k
   ·have hb:(g==k)=true:=jp.mpr h;simp only[List.lookup,hb,if_neg (fun e:g=f=>hk (h.symm.trans e))]
   ·have hb:(g==k)=false:=ju.mpr h;simp only[List.lookup,hb];exact ih
theorem UH(f:Str)(v:V):∀fs:List (Str×V),f∈(YB f v fs).map (·.1)/\∀g,g∈fs.map (·.1)->g∈(YB f v fs).map (·.1)
 |[]=>⟨by simp[YB],fun g h=>by simp at h⟩
 | (k,x)::r=>by
  obtain⟨i1,i2⟩:=UH f v r;rw[show YB f v ((k,x)::r)=(if k=f then(k,v)::r else(k,x)::YB f v r) from rfl]
  by_cases hk:k=f
  ·rw[if_pos hk];subst hk;exact⟨by simp,fun g h=>by simpa using h⟩
  ·rw[if_neg hk];refine⟨?_,fun g h=>?_⟩
   ·rw[g9];exact hU _ i1
   ·rw[g9] at h ⊢;rcases ic.mp h with e|e
    ·exact ic.mpr (.inl e)
    ·exact hU _ (i2 g e)
theorem UZ(f:Str)(v:V):∀fs:List (Str×V),(YB f v fs).length<=fs.length+1
 |[]=>by simp[YB]
 | (k,x)::r=>by
  have ih:=UZ f v r;rw[show YB f v ((k,x)::r)=(if k=f then(k,v)::r else(k,x)::YB f v r) from rfl]
  by_cases hk:k=f
  ·rw[if_pos hk,iA,iA];omega
  ·rw[if_neg hk,iA,iA];omega
theorem VT.some_of{v:V}{o:Option Value}(r:VT (some v) o):∃u,o=some u/\ZU v u:=by
 cases o with
 |none=>exact(show False from r).elim
 |some u=>exact⟨u,rfl,r⟩
theorem VT.none_of{o:Option Value}(r:VT none o):o=none:=by
 cases o with
 |none=>rfl
 |some u=>exact(show False from r).elim
theorem handed_of{v:V}{u:Value}(r:ZU v u):W.handedIn u=true:=by
 cases v with
 |non=>cases (show u=Value.none from r);rfl
 |bl b=>cases (show u=Value.bool b from r);rfl
 |int i=>obtain⟨t,e⟩:=(show ∃t,u=Value.int i t from r);cases e;rfl
 |str x=>obtain⟨t,e⟩:=(show ∃t,u=Value.str x t from r);cases e;rfl
 |byt b=>obtain⟨t,e⟩:=(show ∃t,u=Value.bytes b t from r);cases e;rfl
 |flt b=>obtain⟨t,e⟩:=(show ∃t,u=Value.float b t from r);cases e;rfl
 |ref a=>cases (show u=Value.ref a from r);rfl
 |ty n=>cases (show u=Value.type n from r);rfl
section
variable{P:Program}{w:World}{H H':Hp}{h h':Heap}{a C dx:Addr}{fs fs':List (Str×V)}
theorem qk(hok:HOk P w H h)(e:H a=some (.ins C dx fs)):∃mA,ObjM h a dx C mA/\(∀f,VT (fs.lookup f) (mA f))/\PySem.Within mA (fs.map (·.1))/\fs.length<=1000/\H dx=some (.own a):=by
 obtain⟨d,z,ne,ob,mA,n,r,q⟩:=(show Yx P w H h a (.ins C dx fs) from hok a _ e);exact⟨mA,⟨ob,n,ne⟩,r,q,z,d⟩
end
structure Cls(K:W.Frag)(C:Addr):Prop where
 pg:W.plainGet K C Str.empty=true
 hd:W.hasDictIn K C=true
 po:W.plainOver K C=true
 sa:W.findIn K (.ref C) "__setattr__" = some (some (.builtin "object.__setattr__"))
theorem Cls.get{K:W.Frag}{C:Addr}(c:Cls K C)(f:Str):W.plainGet K C f=true:=c.pg
def X7(K:W.Frag)(C:Addr)(f:Str):Prop:=W.findIn K (.ref C) f=some none
theorem X7.taker{K:W.Frag}{C:Addr}{f:Str}(n:X7 K C f):W.takerIn K C f=some none:=by
 unfold W.takerIn;rw[show W.findIn K (.ref C) f=some none from n];rfl
structure V6(K:W.Frag)(C:Addr)(m:Str)(f:Addr):Prop where
 at_:W.findIn K (.ref C) m=some (some (.ref f))
 fn:W.isFn K (.ref f)=true
 kp:W.keepIn K (.ref f)=true
section
variable{X:Cx}{gE:List (Addr×Obj)}{σ:St}{H:Hp}{s:Shared}{a C dx:Addr}{fs:List (Str×V)}{f:Str}{v:V}{A:Around}{E:Value->Shared->Prop}
theorem vA{b:Bool}{Q:Value->Shared->Prop}(I:Inv X gE σ H s)(e:H a=some (.ins C dx fs))(c:Cls X.K C)(n:X7 X.K C f)(l:fs.lookup f=some v)
  (h:∀u s',Inv X gE σ H s'->ZU v u->Q u s'):wpAny (model X.prog X.w) A (getAttr (.ref a) f b) Q E s:=by
 obtain⟨mA,O,r,_,_,_⟩:=qk I.hok e;obtain⟨u,hu,ru⟩:=VT.some_of (v:=v) (o:=mA f) (by rw[<- l];exact r f);exact get_map I.kIn O (c.get f) c.hd n hu (handed_of ru) (h u _ (I.tok _) ru)
theorem zt{m:Str}{g:Addr}{pl:Sem Bool}{Q:Value×List Value->Shared->Prop}(I:Inv X gE σ H s)(e:H a=some (.ins C dx fs))(c:Cls X.K C)(k:V6 X.K C m g)(l:fs.lookup m=none)
  (h:Q (.ref g,[.ref a]) s):wpAny (model X.prog X.w) A (getMethod (.ref a) m pl) Q E s:=by
 obtain⟨mA,O,r,_,_,_⟩:=qk I.hok e;have hn:mA m=none:=VT.none_of (by rw[<- l];exact r m);exact get_meth I.kIn O (c.get m) k.at_ k.fn hn h
theorem vB{y:V}{u:Value}{Q:Unit->Shared->Prop}(I:Inv X gE σ H s)(e:H a=some (.ins C dx fs))(c:Cls X.K C)(n:X7 X.K C f)(hl:fs.length<1000)(ry:ZU y u)
  (h:∀s',Inv X gE σ (upd H a (.ins C dx (YB f y fs))) s'->Q () s'):wpAny (model X.prog X.w) A (setAttr (.ref a) f u) Q E s:=by
 obtain⟨mA,O,r,wi,_,ho⟩:=qk I.hok e;have hz:(fs.map (·.1)).length<=sizeLine:=by rw[hJ,gU];omega
 refine set_map I.kIn O c.sa c.po n.taker c.hd wi hz fun h' O' sb=>h _ ?_;have hd:∃o,h'.get? dx=some o:=let ⟨o,_,_,e',_⟩:=O'.ns; ⟨o,e'⟩
 refine I.write (x:=a) (e:=dx) (by rw[e];exact True.intro) (.inr ho) (fun b q hb z=>(sb.2 b hb).trans z) hd ?_;refine⟨by rw[ZS O.ne];exact ho,?_,O.ne,O'.obj,_,O'.ns,fun g=>?_,fun g hg=>?_⟩
 ·have:=UZ f y fs;omega
 ·show VT ((YB f y fs).lookup g) (if g=f then some u else mA g)
  rw[U8]
  by_cases q:g=f
  ·rw[if_pos q,if_pos q];exact ry
  ·rw[if_neg q,if_neg q];exact r g
 ·by_cases q:g=f
  ·rw[q];exact(UH f y fs).1
  ·refine(UH f y fs).2 g (wi g fun z=>hg ?_)
   show(if g=f then some u else mA g)=none
   rw[if_neg q];exact z
theorem Inv.made(I:Inv X gE σ H s):Inv X gE σ (upd (upd H s.heap.objs.size (.own (s.heap.objs.size+1))) (s.heap.objs.size+1) (.ins C s.heap.objs.size []))
  { s with heap:=(s.heap.push W.emptyDict).push (W.instObj C s.heap.objs.size) }:=by
 have e1:(s.heap.push W.emptyDict).get? s.heap.objs.size=some W.emptyDict:=iF s.heap rfl;have e2:((s.heap.push W.emptyDict).push (W.instObj C s.heap.objs.size)).get? (s.heap.objs.size+1)=some (W.instObj C s.heap.objs.size):=by
  have:=iF (s.heap.push W.emptyDict) (o:=W.instObj C s.heap.objs.size) rfl
  rwa [Heap.size_push] at this
 have e3:(s.heap.push W.emptyDict).Ns s.heap.objs.size (fun _=>none):=⟨W.emptyDict,#[],_,e1,rfl,(fun e he=>absurd he (by simp)),fun _=>rfl⟩;have I1:=I.laid (a:=s.heap.objs.size) (o:=.own (s.heap.objs.size+1)) (h':=s.heap.push W.emptyDict) (t':=s.toks) (fun b u q=>iu _ q) (gY _) ⟨_,e1⟩;refine I1.laid (a:=s.heap.objs.size+1) (o:=.ins C s.heap.objs.size []) (t':=s.toks) (fun b u q=>iu _ q) (Nat.le_of_eq (Heap.size_push _ _)) ?_;have ne:s.heap.objs.size≠s.heap.objs.size+1:=iC (Nat.lt_succ_self _);refine⟨by rw[ZS ne,Zf],iU _,ne,e2,fun _=>none,(Heap.Ns1.of_empty e3).at fun o q=>iu _ q,fun _=>True.intro,fun y hy=>absurd rfl hy⟩
theorem attr_of{prog:Program}{w:World}{env:Env}{e:Expr}{f:Str}{pos:Pos}{s:Shared}{Q:Value->Shared->Prop}(hb:attributeBase e f env (eval e env)=eval e env)
  (h:wpAny (model prog w) A (eval e env) (fun o s₁=>wpAny (model prog w) A (getAttr o f true) Q E s₁) E s):wpAny (model prog w) A (eval (.Attribute e f pos) env) Q E s:=
 Attribute_any_ h (by rw[arm_eval_Attribute,hb])
end
inductive FldR(K:W.Frag)(f:Str)(x:V)(H:Hp)(Q:VK):Prop
 |mk (a C dx:Addr) (fs:List (Str×V)) (v:V) (h1:x=.ref a) (h2:H a=some (.ins C dx fs)) (h3:Cls K C) (h4:X7 K C f) (h5:fs.lookup f=some v) (k:Q v H):FldR K f x H Q
def tFld(K:W.Frag)(ta:TE)(f:Str):TE:=fun σ H Q=>ta σ H fun x H1=>FldR K f x H1 Q
def sFld(K:W.Frag)(ta tv:TE)(f:Str):TS:=fun D σ H=>tv σ H fun y H1=>ta σ H1 fun x H2=>∃a C dx fs,x=.ref a/\H2 a=some (.ins C dx fs)/\Cls K C/\X7 K C f/\fs.length<1000 /\
 D.nx σ (upd H2 a (.ins C dx (YB f y fs)))
section
variable{X:Cx}{o e value:Expr}{f:Str}{pos pos' tpos:Pos}{ta tv:TE}
theorem pe_fld(he:PE X e ta)(hb:attributeBase e f X.env (eval e X.env)=eval e X.env):PE X (.Attribute e f pos) (tFld X.K ta f):=by
 intro gE s σ H Q I h;refine attr_of hb (thn (he gE s σ H _ I h) fun u s1 ⟨x,H1,I1,rx,a,C,dx,fs,v,ex,ea,c,n,l,q⟩=>?_);subst ex;obtain rfl:u=Value.ref a:=rx;exact vA I1 ea c n l fun u' s2 I2 ru=>⟨v,H1,I2,ru,q⟩
theorem UW(ha:PE X o ta)(hv:PE X value tv)(hs:swapsWith value (some (.Attribute o f pos')) pos.line X.env=pure false):PS X (.Assign [.Attribute o f pos'] value pos) (sFld X.K ta tv f):=by
 intro gE s σ H D I h;refine plainObj_wpAny_Assign_Attribute (thn (hv gE s σ H _ I h) fun u s1 ⟨y,H1,I1,ry,q⟩=>thn (ha gE s1 σ H1 _ I1 q) fun ov s2 ⟨x,H2,I2,rx,a,C,dx,fs,ex,ea,c,n,l,q2⟩=>?_) hs;subst ex;obtain rfl:ov=Value.ref a:=rx;exact vB I2 ea c n l ry fun s3 I3=>⟨σ,_,I3,q2⟩
theorem methcall_of{pl:Sem Bool}{m:Str}{apos:Pos}{args:List Expr}{gE:List (Addr×Obj)}{s:Shared}{σ:St}{H:Hp}{Q:Value->Shared->Prop}{te:TE}(he:PE X e te)(I:Inv X gE σ H s)
  (h:te σ H fun x H1=>∃a C dx fs g,x=.ref a/\H1 a=some (.ins C dx fs)/\Cls X.K C/\V6 X.K C m g/\fs.lookup m=none /\
   ∀s1,Inv X gE σ H1 s1->wpAny (model X.prog X.w) X.A (callWith pos (.ref g) [.ref a] (backTo pos (starEach args X.env)) (backToKw pos (keywordEach [] X.env))) Q X.xe s1)
  (ht:eval (.Call (.Attribute e m apos) args [] pos) X.env=(do
   let ov <- eval e X.env
   standAt apos.atName
   let (f,first) <- holding [ov] (getMethod ov m pl)
   callWith pos f first (backTo pos (starEach args X.env)) (backToKw pos (keywordEach [] X.env)))) :
  wpAny (model X.prog X.w) X.A (eval (.Call (.Attribute e m apos) args [] pos) X.env) Q X.xe s:=by
 refine W.methodCall_KW (pl:=pl) (thn (he gE s σ H _ I h) fun u s1 ⟨x,H1,I1,rx,a,C,dx,fs,g,ex,ea,c,k,l,q⟩=>?_) ht;subst ex;obtain rfl:u=Value.ref a:=rx;exact zt I1 ea c k l (q s1 I1)
end
section
variable{X:Cx}{gE:List (Addr×Obj)}{σ:St}{H:Hp}{s:Shared}{A:Around}{E:Value->Shared->Prop}{Q:Value->Shared->Prop}{c:Value}{b:Bool}
inductive VG(K:W.Frag)(H:Hp):V->Value->Prop where
 |non:VG K H .non (.type "NoneType")
 |bl (x:Bool):VG K H (.bl x) (.type "bool")
 |int (i:Int):VG K H (.int i) (.type "int")
 |str (x:Str):VG K H (.str x) (.type "str")
 |flt (x:UInt64):VG K H (.flt x) (.type "float")
 |lst {a:Addr}{xs:List V} (e:H a=some (.lst xs)):VG K H (.ref a) (.type "list")
 |frz {a:Addr}{o:Obj}{xs:List V} (e:H a=some (.frz o (.lst xs))):VG K H (.ref a) (.type "list")
 |tup {a:Addr}{xs:List V} (e:H a=some (.tup xs)):VG K H (.ref a) (.type "tuple")
 |dK {a:Addr}{kvs:List (Key×V)} (e:H a=some (.dK kvs)):VG K H (.ref a) (.type "dict")
 |dT {a:Addr}{kvs:List (List Key×V)} (e:H a=some (.dT kvs)):VG K H (.ref a) (.type "dict")
 |ins {a C dx:Addr}{fs:List (Str×V)} (e:H a=some (.ins C dx fs)) (cl:Cls K C) (ha:W.findIn K (.ref C) "__class__" = some (some (.builtin "object.__class__")))
   (hn:W.specialIn K (.builtin "object.__class__") "__get__" = some (some (.builtin "getset_descriptor.__get__"))) (htk:W.takesIn K (.builtin "object.__class__")=some true)
   (hm:W.mroIn K C (.type "object")=some true):VG K H (.ref a) (.ref C)
theorem yj{x:V}{u t:Value}(I:Inv X gE σ H s)(rx:ZU x u)(ty:VG X.K H x t)(e:W.kitOne X.K t c=some b)(h:∀tk,Q (.bool b) { s with toks:=tk }) :
  wpAny (model X.prog X.w) A (call (.builtin "isinstance") [u,c]) Q E s:=by
 cases ty with
 |non=>cases (show u=Value.none from rx);exact i6 W.kitx_none I.kIn True.intro e (fun z=>nomatch z) h
 |bl y=>cases (show u=Value.bool y from rx);exact i6 W.kitx_bool I.kIn True.intro e (fun z=>nomatch z) h
 |int i=>obtain⟨t,q⟩:=(show ∃t,u=Value.int i t from rx);cases q;exact i6 W.kitx_int I.kIn True.intro e (fun z=>nomatch z) h
 |str y=>obtain⟨t,q⟩:=(show ∃t,u=Value.str y t from rx);cases q;exact i6 W.kitx_str I.kIn True.intro e (fun z=>nomatch z) h
 |flt y=>obtain⟨t,q⟩:=(show ∃t,u=Value.float y t from rx);cases q;exact i6 W.kitx_float I.kIn True.intro e (fun z=>nomatch z) h
 |@lst a xs ea=>
  cases (show u=Value.ref a from rx);obtain⟨_,_,n,_,h1⟩:=(show Yx X.prog X.w H s.heap a (.lst xs) from I.hok a _ ea);exact i6 W.kitx_list I.kIn ⟨_,h1,rfl⟩ e (fun z=>nomatch z) h
 |@frz a ob xs ea=>
  cases (show u=Value.ref a from rx);obtain⟨_,_,_,n,_,h1⟩:=(show Yx X.prog X.w H s.heap a (.frz ob (.lst xs)) from I.hok a _ ea);exact i6 W.kitx_list I.kIn ⟨_,h1,rfl⟩ e (fun z=>nomatch z) h
 |@tup a xs ea=>
  cases (show u=Value.ref a from rx);obtain⟨_,_,_,p⟩:=(show Yx X.prog X.w H s.heap a (.tup xs) from I.hok a _ ea);obtain⟨o,h1,h2,_⟩:=p;exact i6 W.kitx_tuple I.kIn ⟨o,h1,h2⟩ e (fun z=>nomatch z) h
 |@dK a kvs ea=>
  cases (show u=Value.ref a from rx);obtain⟨_,_,vs,_,p⟩:=(show Yx X.prog X.w H s.heap a (.dK kvs) from I.hok a _ ea);obtain⟨o,es,ep,h1,h2,_⟩:=p;exact i6 W.kitx_dict I.kIn ⟨o,h1,h2.1⟩ e (fun z=>nomatch z) h
 |@dT a kvs ea=>
  cases (show u=Value.ref a from rx);obtain⟨_,_,xs,_,o,es,ep,h1,h2,_⟩:=(show Yx X.prog X.w H s.heap a (.dT kvs) from I.hok a _ ea);exact i6 W.kitx_dict I.kIn ⟨o,h1,h2.1⟩ e (fun z=>nomatch z) h
 |@ins a C dx fs ea cl ha hn htk hm=>
  cases (show u=Value.ref a from rx);obtain⟨mA,O,_⟩:=qk I.hok ea;obtain⟨od,J,_⟩:=O.look;exact i6 (W.kitx_own (cl.get _) cl.hd ha hn htk hm) I.kIn J e (fun z=>nomatch z) h
end
structure YN(k:Nat)(A:Around):Prop where
 hd:A.handled=none
 dp:A.depth+3*k+5<recursionLimit
 un:A.units+16*k+200<cLine
theorem YN.mono{j k:Nat}{A:Around}(r:YN k A)(h:j<=k):YN j A:=⟨r.hd,by have:=r.dp;omega,by have:=r.un;omega⟩
theorem YN.deeper{k:Nat}{A:Around}(r:YN (k+1) A)(env:Env):YN k (A.deeper env):=
 ⟨r.hd,by have:=r.dp;show A.depth+1+3*k+5<_;omega,by have:=r.un;show A.units+3+16*k+200<_;omega⟩
theorem vG{A:Around}{C:Addr}{us:List Value}{kw:List (Str×Value)}:(A.under (.builtin "type.__call__" ⟨.ref C::us,kw⟩)).depth=A.depth+1:=by
 first|rfl|simp[Around.under,Code.weight,Code.isCreation,Code.isGuard,Code.isCaller,Code.frames,Code.isFrame,guardIds]
theorem vq{A:Around}{C:Addr}{us:List Value}{kw:List (Str×Value)}:(A.under (.builtin "type.__call__" ⟨.ref C::us,kw⟩)).units=A.units+1:=by
 first|rfl|simp[Around.under,Code.cUnits,Code.frames,Code.isFrame]
theorem YN.make{k:Nat}{A:Around}(r:YN (k+1) A)(C:Addr)(us:List Value)(kw:List (Str×Value)):YN k (A.under (.builtin "type.__call__" ⟨.ref C::us,kw⟩)):=
 ⟨r.hd,by have:=r.dp;rw[vG];omega,by have:=r.un;rw[vq];omega⟩
theorem YN.depth{k:Nat}{A:Around}(r:YN k A):A.depth<recursionLimit:=by have:=r.dp;omega
theorem YN.units{k:Nat}{A:Around}(r:YN k A):A.units+64<cLine:=by have:=r.un;omega
theorem YN.units0{k:Nat}{A:Around}(r:YN k A):A.units<cLine:=by have:=r.un;omega
def tNil:TA:=fun _ H Q=>Q [] H
def Ui(ta:TE)(tr:TA):TA:=fun σ H Q=>ta σ H fun x H1=>tr σ H1 fun xs H2=>Q (x::xs) H2
section
variable{X:Cx}{e:Expr}{es:List Expr}{te:TE}{t:TA}{pos:Pos}
theorem Y2:PA X [] tNil:=fun _ _ _ _ H Q I h=>Calls.spliced_nil ⟨[],H,I,.nil,h⟩
theorem Zd(ha:PE X e te)(hr:PA X es t)(hs:starEach (e::es) X.env=(false,eval e X.env)::starEach es X.env:=by rfl):PA X (e::es) (Ui te t):=by
 intro pos gE s σ H Q I h;rw[hs]
 show wpAny _ _ (spliced ((false,eval e X.env)::backTo pos (starEach es X.env))) _ _ s
 refine Calls.spliced_cons (thn (ha gE s σ H _ I h) fun u s1 ⟨x,H1,I1,r1,q1⟩=>?_);exact thn (hr pos gE s1 σ H1 _ I1 q1) fun us s2 ⟨xs,H2,I2,r2,q2⟩=>⟨x::xs,H2,I2,.cons r1 r2,q2⟩
inductive NewR(xs:List V)(o:HO)(H:Hp)(Q:VK):Prop
 |mk (z:xs.length<=sizeLine) (k:∀p,H p=none->Q (.ref p) (upd H p o)):NewR xs o H Q
def tTup(t:TA):TE:=fun σ H Q=>t σ H fun xs H1=>NewR xs (.tup xs) H1 Q
def tLst(t:TA):TE:=fun σ H Q=>t σ H fun xs H1=>NewR xs (.lst xs) H1 Q
theorem Zj{x1}(h:PA X es t):PE X (.Tuple es x1 pos) (tTup t):=by
 intro gE s σ H Q I hq;refine wpAny_Tuple_spliced (thn (h pos gE s σ H _ I hq) fun us s1 ⟨xs,H1,I1,r,z,q⟩=>⟨by rw[<- r.length];exact z,?_⟩);have hf:H1 s1.heap.objs.size=none:=I1.hok.fresh (gY _);refine⟨.ref s1.heap.objs.size,upd H1 s1.heap.objs.size (.tup xs),I1.laid (t':=s1.toks) (fun b u e=>iu _ e) (gY _) ?_,rfl,q _ hf⟩;exact⟨z,us,r,⟨_,iF _ rfl,rfl,_,rfl⟩⟩
theorem ZT(h:PA X es t):PE X (.List es pos) (tLst t):=by
 intro gE s σ H Q I hq;refine wpAny_List_spliced (thn (h pos gE s σ H _ I hq) fun us s1 ⟨xs,H1,I1,r,z,q⟩=>⟨by rw[<- r.length];exact z,?_⟩);have hf:H1 s1.heap.objs.size=none:=I1.hok.fresh (gY _);refine⟨.ref s1.heap.objs.size,upd H1 s1.heap.objs.size (.lst xs),I1.laid (t':=s1.toks) (fun b u e=>iu _ e) (gY _) ?_,rfl,q _ hf⟩;exact⟨z,us,0,r,iF _ rfl⟩
end
abbrev Sp:=List V->Hp->VK->XK->Prop
abbrev CXT:=List Env->Hp->Shared->XK->Value->Shared->Prop
structure Env0(P:Program)(w:World)(K:W.Frag)(mg:Str->Option Value)(base:Heap)(A:Around)(outer:List Env)(s:Shared)(H:Hp):Prop where
 frames:A.frames=some outer
 mod:Mod K mg base
 bs:∀b o,base.get? b=some o->s.heap.get? b=some o/\H b=none
 bsz:base.objs.size<=s.heap.objs.size
 funs:s.heap.FunFrames base outer
 frf:∀b∈frs outer,H b=none
 hok:HOk P w H s.heap
 bare:AllBare s.gens
def CE(outer:List Env)(P:Program)(w:World)(H:Hp)(s:Shared)(Q:VK)(u:Value)(s':Shared):Prop:=
 ∃v H',s'.os=s.os/\AllBare s'.gens/\Un (frs outer) [] H H' s.heap s'.heap/\HOk P w H' s'.heap/\ZU v u/\Q v H'
def CR(CX:CXT)(outer:List Env)(P:Program)(w:World)(H:Hp)(s:Shared)(Q:VK)(E:XK)(r:Result)(s':Shared):Prop:=
 match r with
 |.ok (.ret u)=>CE outer P w H s Q u s'
 |.ok _=>False
 |.error e=>CX outer H s E e s'
structure Yq(P:Program)(w:World)(K:W.Frag)(mg:Str->Option Value)(base:Heap)(CX:CXT)(k:Nat)(f:Addr)(fd:FuncData)(ps:List Str)(sp:Sp):Prop where
 len:∀vs H Q E,sp vs H Q E->vs.length=ps.length
 run:∀(A:Around) (outer:List Env) (s:Shared) (H:Hp) (args:Args) (us:List Value) (vs:List V) (Q:VK) (E:XK),YN k A->Env0 P w K mg base A outer s H->BindsTo s fd args (ps.zip us)->ZN vs us->sp vs H Q E ->
  codeAny (model P w) A (.call (.ref f) args) (CR CX outer P w H s Q E) s
theorem Env0.make{P:Program}{w:World}{K:W.Frag}{mg:Str->Option Value}{base:Heap}{A:Around}{outer:List Env}{s:Shared}{H:Hp}(e:Env0 P w K mg base A outer s H)(C:Addr)(us:List Value)(kw:List (Str×Value)) :
  Env0 P w K mg base (A.under (.builtin "type.__call__" ⟨.ref C::us,kw⟩)) outer s H:=⟨by first|exact e.frames|(simpa[Around.under,Code.envs,Code.isFrame,pushEnvs] using e.frames),e.mod,e.bs,e.bsz,e.funs,e.frf,e.hok,e.bare⟩
section
variable{X:Cx}{gE:List (Addr×Obj)}{σ:St}{H:Hp}{s s':Shared}
theorem Inv.env0(I:Inv X gE σ H s):Env0 X.prog X.w X.K X.mg X.base X.A X.stack s H:=
 ⟨I.ok.frames,I.ok.mod,I.bs,iq I.ok.bsz I.sz,I.stack,I.stkFree,I.hok,I.bare⟩
theorem Inv.after{Q:VK}{u:Value}(I:Inv X gE σ H s)(h:CE X.stack X.prog X.w H s Q u s'):EP X gE σ Q u s':=by
 obtain⟨v,H',os,bare,un,hok,r,q⟩:=h;obtain⟨hh,g,d,t,os'⟩:=s';obtain rfl:os'=s.os:=os;exact⟨v,H',I.call (h':=hh) (g':=g) (d':=d) (t':=t) (ch:=[]) un hok bare (fun b z=>absurd z (by simp)),r,q⟩
end
def tCall(sp:Sp)(dvs:List V)(E:XK)(t:TA):TE:=fun σ H Q=>t σ H fun vs H1=>sp (vs++dvs) H1 Q E
inductive MethR(C:Addr)(m:Str)(x:V)(H:Hp)(B:Prop):Prop
 |mk (a dx:Addr) (fs:List (Str×V)) (h1:x=.ref a) (h2:H a=some (.ins C dx fs)) (h3:fs.lookup m=none) (k:B):MethR C m x H B
def tMeth(C:Addr)(m:Str)(sp:Sp)(dvs:List V)(E:XK)(ta:TE)(t:TA):TE:=fun σ H Q=>ta σ H fun x H1=>MethR C m x H1 (t σ H1 fun vs H2=>sp (x::(vs++dvs)) H2 Q E)
def tMake(C:Addr)(sp:Sp)(dvs:List V)(E:XK)(t:TA):TE:=fun σ H Q=>t σ H fun vs H1=>∀x dx,H1 x=none->H1 dx=none->dx≠x ->
 sp (.ref x::(vs++dvs)) (upd (upd H1 dx (.own x)) x (.ins C dx [])) (fun v H2=>v=.non/\Q (.ref x) H2) E
def ZV(K:W.Frag)(fd:FuncData)(ps:List Str)(ds:List Value):Prop:=
 ∀(s:Shared) (us:List Value),K.In s.heap->(us++ds).length=ps.length->BindsTo s fd ⟨us,[]⟩ (ps.zip (us++ds))
theorem ZV.all{K:W.Frag}{fd:FuncData}{ps:List Str}(h:∀us:List Value,us.length=ps.length->bindArgs fd ⟨us,[]⟩=pure (ps.zip us)):ZV K fd ps []:=fun s us _ hl=>by
 rw[iQ] at hl ⊢;exact .of_eq (h us hl)
def VU(CX:CXT)(X:Cx)(E:XK):Prop:=∀(gE:List (Addr×Obj)) (σ:St) (H:Hp) (s:Shared) (e:Value) (s':Shared),Inv X gE σ H s->CX X.stack H s E e s'->X.xe e s'
section
variable{X:Cx}{CX:CXT}{k:Nat}{f C:Addr}{fd:FuncData}{ps:List Str}{sp:Sp}{dvs:List V}{ds:List Value}{E:XK}{x m:Str}{p pos apos:Pos}{e o:Expr}{es:List Expr}{ta:TE}{t:TA}
theorem run_fn{gE:List (Addr×Obj)}{σ:St}{H:Hp}{s:Shared}{Q:VK}{us:List Value}{vs:List V}(F:Yq X.prog X.w X.K X.mg X.base CX k f fd ps sp)(hr:YN k X.A)(hb:ZV X.K fd ps ds)(hd:ZN dvs ds)(hx:VU CX X E)
  (I:Inv X gE σ H s) (r:ZN vs us) (h:sp (vs++dvs) H Q E):wpAny (model X.prog X.w) X.A (call (.ref f) us) (EP X gE σ Q) X.xe s:=by
 have r2:ZN (vs++dvs) (us++ds):=r.append hd;have hl:(us++ds).length=ps.length:=by rw[<- r2.length];exact F.len _ _ _ _ h
 refine wpAny_call (codeAny_mono (F.run X.A X.stack s H ⟨us,[]⟩ (us++ds) (vs++dvs) Q E hr I.env0 (hb s us I.kIn hl) r2 h) fun r s' hq=>?_);cases r with
 |error e=>exact hx gE σ H s e s' I hq
 |ok fl=>
  cases fl with
  |ret u=>exact I.after hq
  |next=>exact False.elim hq
  |brk=>exact False.elim hq
  |cont=>exact False.elim hq
theorem Zp(F:Yq X.prog X.w X.K X.mg X.base CX k f fd ps sp)(hr:YN k X.A)(hg:Gl X x)(hm:X.mg x=some (.ref f))(hk:W.keepIn X.K (.ref f)=true)(hb:ZV X.K fd ps ds)(hd:ZN dvs ds)(hx:VU CX X E)
  (ha:PA X (e::es) t) (hdb:(x==("__debug__" : Str))=false:=by decide) (he:starEach (e::es) X.env=(false,eval e X.env)::starEach es X.env:=by rfl) (hpl:(backTo pos (starEach es X.env)).any (·.1)=false:=by rfl) :
  PE X (.Call (.Name x p) (e::es) [] pos) (tCall sp dvs E t):=by
 intro gE s σ H Q I h;refine jR (Vz I hg hm ?_ hdb);refine W.callWith_K (h₀:=X.base) I.ok.mod.kin hk (thn (ha pos gE s σ H _ I h) fun us s1 ⟨vs,H1,I1,r,q⟩=>⟨I1.kIn,?_⟩) he hpl;exact run_fn F hr hb hd hx I1 r q
theorem Ys{pl:Sem Bool}(he:PE X o ta)(c:Cls X.K C)(hm:V6 X.K C m f)(F:Yq X.prog X.w X.K X.mg X.base CX k f fd ps sp)(hr:YN k X.A)(hb:ZV X.K fd ps ds)(hd:ZN dvs ds)(hx:VU CX X E)(ha:PA X (e::es) t)
  (hst:starEach (e::es) X.env=(false,eval e X.env)::starEach es X.env:=by rfl) (hpl:(backTo pos (starEach es X.env)).any (·.1)=false:=by rfl)
  (ht:eval (.Call (.Attribute o m apos) (e::es) [] pos) X.env=(do
   let ov <- eval o X.env
   standAt apos.atName
   let (f,first) <- holding [ov] (getMethod ov m pl)
   callWith pos f first (backTo pos (starEach (e::es) X.env)) (backToKw pos (keywordEach [] X.env))):=by rfl) :
  PE X (.Call (.Attribute o m apos) (e::es) [] pos) (tMeth C m sp dvs E ta t):=by
 intro gE s σ H Q I h;refine W.methodCall_KW (pl:=pl) (thn (he gE s σ H _ I h) fun u s1 ⟨x,H1,I1,rx,a,dx,fs,ex,ea,l,q⟩=>?_) ht;subst ex;obtain rfl:u=Value.ref a:=rx;refine zt I1 ea c hm l ?_;refine W.callWith_K (first:=[.ref a]) (h₀:=X.base) I.ok.mod.kin hm.kp (thn (ha pos gE s1 σ H1 _ I1 q) fun us s2 ⟨vs,H2,I2,r,q2⟩=>⟨I2.kIn,?_⟩) hst hpl;exact run_fn (us:=.ref a::us) (vs:=.ref a::vs) F hr hb hd hx I2 (.cons rfl r) q2
structure Mk(K:W.Frag)(C f:Addr):Prop where
 makes:W.makesIn K C=true
 init:W.findIn K (.ref C) "__init__" = some (some (.ref f))
 fn:W.isFn K (.ref f)=true
 kp:W.keepIn K (.ref C)=true
theorem run_make{gE:List (Addr×Obj)}{σ:St}{H:Hp}{s:Shared}{Q:VK}{us:List Value}{vs:List V}(M:Mk X.K C f)(F:Yq X.prog X.w X.K X.mg X.base CX k f fd ps sp)(hr:YN (k+1) X.A)(hb:ZV X.K fd ps ds)(hd:ZN dvs ds)
  (hx:VU CX X E) (I:Inv X gE σ H s) (r:ZN vs us)
  (h:∀x dx,H x=none->H dx=none->dx≠x->sp (.ref x::(vs++dvs)) (upd (upd H dx (.own x)) x (.ins C dx [])) (fun v H2=>v=.non/\Q (.ref x) H2) E) :
  wpAny (model X.prog X.w) X.A (call (.ref C) us) (EP X gE σ Q) X.xe s:=by
 have hq:=h (s.heap.objs.size+1) s.heap.objs.size (I.hok.fresh (jE _)) (I.hok.fresh (gY _)) (iC (Nat.lt_succ_self _));have I2:=Inv.made (C:=C) I;have r2:ZN (V.ref (s.heap.objs.size+1)::(vs++dvs)) (Value.ref (s.heap.objs.size+1)::(us++ds)):=.cons rfl (r.append hd);have hl:(Value.ref (s.heap.objs.size+1)::us++ds).length=ps.length:=by
  have e:=r2.length;rw[F.len _ _ _ _ hq] at e;exact e.symm
 refine wpAny_call (make_map (f:=f) I.kIn M.makes M.init (jp.mp M.fn) (codeAny_mono (F.run _ X.stack _ _ ⟨Value.ref (s.heap.objs.size+1)::us,[]⟩ (Value.ref (s.heap.objs.size+1)::(us++ds)) _ _ E (hr.make C us [])
  (I2.env0.make C us []) (hb _ (Value.ref (s.heap.objs.size+1)::us) I2.kIn hl) r2 hq) fun r s' hq'=>?_))
 cases r with
 |error e=>exact hx gE σ _ _ e s' I2 hq'
 |ok fl=>
  cases fl with
  |ret u=>
   obtain⟨v,H',I3,rv,ev,q3⟩:=I2.after hq';subst ev;exact⟨rv,⟨V.ref (s.heap.objs.size+1),H',I3,rfl,q3⟩⟩
  |next=>exact False.elim hq'
  |brk=>exact False.elim hq'
  |cont=>exact False.elim hq'
theorem za(M:Mk X.K C f)(F:Yq X.prog X.w X.K X.mg X.base CX k f fd ps sp)(hr:YN (k+1) X.A)(hg:Gl X x)(hm:X.mg x=some (.ref C))(hb:ZV X.K fd ps ds)(hd:ZN dvs ds)(hx:VU CX X E)
  (hdb:(x==("__debug__" : Str))=false:=by decide):PE X (.Call (.Name x p) [] [] pos) (tMake C sp dvs E tNil):=by
 intro gE s σ H Q I h;refine jR (Vz I hg hm ?_ hdb);exact W.callWith_K0 I.kIn M.kp (run_make (us:=[]) M F hr hb hd hx I .nil h)
end
section
variable{X:Cx}{CX:CXT}{k:Nat}{f C:Addr}{fd:FuncData}{ps ks:List Str}{sp:Sp}{E:XK}{x m:Str}{p pos apos kpos:Pos}{e o:Expr}{es:List Expr}{kws:List Keyword}{te ta:TE}{t tk:TA}{nm:Option Str}
variable{g:List Value->List Value->List Value}{gV:List V->List V->List V}
end
structure ZH(N P:List Str)(sc:Scope):Prop where
 kind:sc.kind=.function
 co:sc.isCoroutine=false
 gen:sc.isGenerator=false
 nd:N.Nodup
 pre:N.take P.length=P
 par:∀x∈P,sc.names.lookup x=some .local\/sc.names.lookup x=some .cell
 nofree:∀y∈sc.names,y.2≠.free
theorem zR{kindOf:Str->Option NameKind}{x:Str}:∀{binds:List (Str×Value)}{m:Str->Option Value},(∀v,(x,v)∉binds)->bindL kindOf binds m x=m x
 |[],_,_=>rfl
 | (n,v)::r,m,h=>by
  unfold bindL;rw[zR fun w hw=>h w (hU _ hw)]
  split
  ·have:x≠n:=by rintro rfl;exact h v jN
   simp[this]
  ·rfl
theorem yl{kindOf:Str->Option NameKind}{x:Str}:∀{binds:List (Str×Value)}{m:Str->Option Value},(∀v,(x,v)∉binds)->bindC kindOf binds m x=m x
 |[],_,_=>rfl
 | (n,v)::r,m,h=>by
  unfold bindC;rw[yl fun w hw=>h w (hU _ hw)]
  split
  ·rfl
  ·have:x≠n:=by rintro rfl;exact h v jN
   simp[this]
theorem yh{kindOf:Str->Option NameKind}{x:Str}{v:Value}:∀{P:List Str}{vs:List Value}{i:Nat}{m:Str->Option Value},P.Nodup->P[i]?=some x->vs[i]?=some v->kindOf x=some .local ->
  bindL kindOf (P.zip vs) m x=some v
 |[],_,_,_,_,h,_,_=>by simp at h
 |_::_,[],_,_,_,_,h,_=>by simp at h
 |p::P,w::vs,0,m,nd,h1,h2,hk=>by
  simp at h1 h2;subst h1;subst h2
  show bindL kindOf ((p,w)::P.zip vs) m p=_
  unfold bindL;rw[zR fun v hv=>(jq.mp nd).1 (List.of_mem_zip hv).1,if_pos hk];simp
 |p::P,w::vs,i+1,m,nd,h1,h2,hk=>by
  show bindL kindOf ((p,w)::P.zip vs) m x=_
  unfold bindL;exact yh (i:=i) (jq.mp nd).2 (by simpa using h1) (by simpa using h2) hk
theorem zX{kindOf:Str->Option NameKind}{x:Str}{v:Value}:∀{P:List Str}{vs:List Value}{i:Nat}{m:Str->Option Value},P.Nodup->P[i]?=some x->vs[i]?=some v->kindOf x≠some .local ->
  bindC kindOf (P.zip vs) m x=some v
 |[],_,_,_,_,h,_,_=>by simp at h
 |_::_,[],_,_,_,_,h,_=>by simp at h
 |p::P,w::vs,0,m,nd,h1,h2,hk=>by
  simp at h1 h2;subst h1;subst h2
  show bindC kindOf ((p,w)::P.zip vs) m p=_
  unfold bindC;rw[yl fun v hv=>(jq.mp nd).1 (List.of_mem_zip hv).1,if_neg hk];simp
 |p::P,w::vs,i+1,m,nd,h1,h2,hk=>by
  show bindC kindOf ((p,w)::P.zip vs) m x=_
  unfold bindC;exact zX (i:=i) (jq.mp nd).2 (by simpa using h1) (by simpa using h2) hk
def Ur(N:List Str)(vs:List V):St:=vs.map some++List.replicate (N.length-vs.length) none
def UU(CX:CXT)(P:Program)(w:World)(K:W.Frag)(mg:Str->Option Value)(base:Heap)(N:List Str)(qual:Str)(scope:Scope)(f:Addr)(cd:Value)(A:Around)(outer:List Env)(s:Shared)(H:Hp)(E:XK):Cx where
 prog:=P
 w:=w
 K:=K
 mg:=mg
 base:=base
 A:=A.deeper (envOfC qual scope s.heap.objs.size f cd)
 N:=N
 s₀:=s
 H₀:=H
 env:=envOfC qual scope s.heap.objs.size f cd
 outer:=outer
 stack:=envOfC qual scope s.heap.objs.size f cd::outer
 ex:=[]
 calm:=true
 fn:=fun _=>true
 pn:=[]
 xe:=fun e s'=>wpAny (model P w) (A.deeper (envOfC qual scope s.heap.objs.size f cd)) (leaving (envOfC qual scope s.heap.objs.size f cd) e) (fun _ s''=>CX outer H s E e s'') (fun e' s''=>CX outer H s E e' s'') s'
theorem xK{sc:Scope}{n:Nat}{x:Str}(h:sc.names.lookup x=some .cell):∃c,(cellsFrom n sc.names []).lookup x=some c:=by
 have q:=W.cellsFrom_some sc.names n [] (.inl h);exact kT.mp q
theorem inv_start{CX:CXT}{P:Program}{w:World}{K:W.Frag}{mg:Str->Option Value}{base:Heap}{N ps:List Str}{qual:Str}{scope:Scope}{f:Addr}{cd:Value}{A:Around}{outer:List Env}{s s1:Shared}{H:Hp}{E:XK}{us:List Value}{vs:List V}
  (S:ZH N ps scope) (hd:A.handled=none) (e0:Env0 P w K mg base A outer s H) (hl:vs.length=ps.length) (r:ZN vs us)
  (x:InCallC s s.heap.objs.size (bindL (envOfC qual scope s.heap.objs.size f cd).kindOf (ps.zip us) fun _=>none) (cellsFrom (s.heap.objs.size+1) scope.names []) (bindC (envOfC qual scope s.heap.objs.size f cd).kindOf (ps.zip us) fun _=>none) s1) :
  Inv (UU CX P w K mg base N qual scope f cd A outer s H E) [] (Ur N vs) H s1:=by
 have hpl:ps.length<=N.length:=by have:=io List.length S.pre;rw[hV] at this;omega
 obtain⟨h1,tk,rfl,hk⟩:=x.done;have noA:∀b:Addr,b∉(UU CX P w K mg base N qual scope f cd A outer s H E).ex:=fun b z=>absurd (show b∈([]:List Addr) from z) (by simp);refine⟨⟨e0.mod,S.kind,rfl,rfl,gY _,fun y z c h1 h2=>?_,fun y hy=>?_,fun y c _ h=>?_,fun _=>hd,Around.frames_deeper e0.frames,.inr ⟨rfl,rfl⟩,fun b z=>absurd z (noA b),e0.bs,e0.bsz,fun b _ _=>noA b,fun b z=>absurd z (noA b),e0.funs,e0.frf⟩,
  rfl,e0.bare,Un.kept hk,⟨_,x.toInCall.ns,fun i y v h1 h2 h3=>?_⟩,fun y c h=>⟨_,x.cell y c h⟩,e0.hok.fresh (gY _),fun y c h=>?_,fun p hp=>absurd (show p∈([]:List (Addr×Obj)) from hp) (by simp),e0.hok.kept hk,?_⟩
 ·exact name_of_addr x.apart (i9 h1) (i9 h2)
 ·have hy:scope.names.lookup y=some .cell\/scope.names.lookup y=some .free:=hy;rcases hy with hy|hy
  ·exact xK hy
  ·exact absurd rfl (S.nofree _ (i9 hy))
 ·exact Nat.le_of_lt (x.above y c (i9 h))
 ·have hi:i<vs.length:=by
   unfold Ur at h2
   by_cases hi:i<vs.length
   ·exact hi
   ·rw[iM (by simpa using hi)] at h2;rw[List.getElem?_replicate] at h2
    split at h2<;>cases h2
  have ha:vs[i]?=some v:=by
   unfold Ur at h2;rw[iI (by simpa using hi),iJ] at h2;cases e:vs[i]? with
   |none=>rw[e] at h2;cases h2
   |some a=>rw[e] at h2;cases h2;rfl
  obtain⟨u,hu,rv⟩:=r.get ha;have hp:ps[i]?=some y:=by
   rw[<- S.pre,ke (by omega)];exact h1
  have ndP:ps.Nodup:=by rw[<- S.pre];exact S.nd.sublist (List.take_sublist _ _)
  refine⟨u,rv,?_⟩;rcases S.par y (iO hp) with k|k
  ·exact .inl ⟨k,yh ndP hp hu k⟩
  ·obtain⟨c,e⟩:=xK (n:=s.heap.objs.size+1) k;refine .inr ⟨.inl k,c,e,?_⟩;have q:=x.cell y c e;rw[zX ndP hp hu (by show scope.names.lookup y≠_;rw[k];decide)] at q;exact q
 ·exact e0.hok.fresh (Nat.le_of_lt (x.above y c (i9 h)))
 ·unfold Ur
  show _=N.length
  rw[hG,hJ,List.length_replicate];omega
theorem fn_of{CX:CXT}{P:Program}{w:World}{K:W.Frag}{mg:Str->Option Value}{base:Heap}{k:Nat}{f:Addr}{name qual:Str}{params:Arguments}{body:List Stmt}{scope:Scope}{dV kV doc pm gF ct oc:Value}{an od:Option Addr}
  {osl:Array (Option Value)}{N ps:List Str}{sp:Sp} (lk:K.lookup f=some ⟨oc,od,.func (W.fnOf name qual params body scope dV kV doc pm an gF ct),osl⟩) (hcd:W.codeIn K gF qual=true) (S:ZH N ps scope)
  (len:∀vs H Q E,sp vs H Q E->vs.length=ps.length)
  (hbody:∀(A:Around) (outer:List Env) (s:Shared) (H:Hp) (vs:List V) (Q:VK) (E:XK),YN k (A.deeper (envOfC qual scope s.heap.objs.size f gF))->sp vs H Q E ->
   ∃t,PSs (UU CX P w K mg base N qual scope f gF A outer s H E) body t/\t { nx:=fun _ H'=>Q .non H',rt:=Q } (Ur N vs) H) :
  Yq P w K mg base CX (k+1) f (W.fnOf name qual params body scope dV kV doc pm an gF ct) ps sp:=by
 refine⟨len,fun A outer s H args us vs Q E hr e0 hb r hsp=>?_⟩;have hl:=len _ _ _ _ hsp;have KX:K.In s.heap:=e0.mod.kin.keeps fun b o e=>(e0.bs b o e).1;have lim:s.heap.NoLimit:=e0.mod.nolimit.keeps fun b o e=>(e0.bs b o e).1;have hkind:∀y∈ps.zip us,scope.names.lookup y.1=some .local\/(scope.names.lookup y.1=some .cell/\((cellsFrom (s.heap.objs.size+1) scope.names []).lookup y.1).isSome=true):=fun⟨n,v⟩ hy=>by
  rcases S.par n (List.of_mem_zip hy).1 with q|q
  ·exact .inl q
  ·exact .inr ⟨q,W.cellsFrom_some _ _ _ (.inl q)⟩
 refine codeAny_call_function hr.depth (KX _ _ lk) rfl S.co S.gen rfl (W.codeRec_of KX hcd) (hb _ _ _ _ ?_);refine wpAny_newFunctionEnv_cells S.kind hkind fun env he s1 x=>?_;subst he;refine⟨lim.keeps x.toInCall.keep,codeAny_func ?_⟩;obtain⟨t,ht,hq⟩:=hbody A outer s H vs Q E (hr.deeper _) hsp;have I:Inv (UU CX P w K mg base N qual scope f gF A outer s H E) [] (Ur N vs) H s1:=inv_start S hr.hd e0 hl r x;refine i4 (ht [] s1 (Ur N vs) H _ I hq) (fun fl s' hs=>?_) fun e s' hs=>hs;have fin:∀{σ':St}{H':Hp}{v:V}{u:Value},Inv (UU CX P w K mg base N qual scope f gF A outer s H E) [] σ' H' s'->ZU v u->Q v H'->CE outer P w H s Q u s':=
  fun {σ' H' v u} J rv q=>⟨v,H',J.os,J.bare,J.base,J.hok,rv,q⟩
 cases fl with
 |ret u=>
  obtain⟨v,σ',H',J,rv,q⟩:=hs;exact fin J rv q
 |next=>
  obtain⟨σ',H',J,q⟩:=hs;exact fin (v:=V.non) (u:=Value.none) J rfl q
 |brk=>
  obtain⟨_,_,_,q⟩:=hs;exact False.elim q
 |cont=>
  obtain⟨_,_,_,q⟩:=hs;exact False.elim q
section
variable{X:Cx}{x:Str}{p pos:Pos}{e:Expr}{es:List Expr}{t:TA}{id T:String}{r:List V->Hp->VK->Prop}
def tCB(r:List V->Hp->VK->Prop)(t:TA):TE:=fun σ H Q=>t σ H fun vs H1=>r vs H1 Q
theorem ZB(hc:YS X (.builtin id) r)(hg:Gl X x)(hm:X.mg x=none)(hv:bootBuiltins x=some (.builtin id))(ha:PA X (e::es) t)(hn:x ≠ "__name__" := by decide)(hdb:(x==("__debug__" : Str))=false:=by decide)
  (he:starEach (e::es) X.env=(false,eval e X.env)::starEach es X.env:=by rfl) (hpl:(backTo pos (starEach es X.env)).any (·.1)=false:=by rfl):PE X (.Call (.Name x p) (e::es) [] pos) (tCB r t):=by
 intro gE s σ H Q I h;refine jR (UK I hg hm hv ?_ hn hdb);exact PyProof.Rows.callWith_builtin1 (thn (ha pos gE s σ H _ I h) fun us s1 ⟨vs,H1,I1,r1,q1⟩=>hc gE s1 σ H1 vs us Q I1 r1 q1) he hpl
theorem YD(hc:YS X (.type T) r)(hg:Gl X x)(hm:X.mg x=none)(hv:bootBuiltins x=some (.type T))(ha:PA X (e::es) t)(hn:x ≠ "__name__" := by decide)(hdb:(x==("__debug__" : Str))=false:=by decide)
  (he:starEach (e::es) X.env=(false,eval e X.env)::starEach es X.env:=by rfl) (hpl:(backTo pos (starEach es X.env)).any (·.1)=false:=by rfl):PE X (.Call (.Name x p) (e::es) [] pos) (tCB r t):=by
 intro gE s σ H Q I h;refine jR (UK I hg hm hv ?_ hn hdb);exact kS (thn (ha pos gE s σ H _ I h) fun us s1 ⟨vs,H1,I1,r1,q1⟩=>hc gE s1 σ H1 vs us Q I1 r1 q1) he hpl
end
end L2
namespace HT
open PySem PyProof.Rows
section
open PySem.SeqAt
open PySem.AutoSeq1 (wpAny_loadPart')
open PySem.MeetsSeq PySem.MeetsSeq2 PySem.MeetsSeq3
end
section
variable{prog:Program}{w:World}{A:Around}{E:Value->Shared->Prop}{s:Shared}
theorem cat_tup{t b:Addr}{vs ws:List Value}{Q:Value->Shared->Prop}(ht:IsTup s.heap t vs.toArray)(hb:IsTup s.heap b ws.toArray)(hv:vs≠[])
  (h1:ws=[]->Q (.ref t) s) (h2:ws≠[]->Q (.ref s.heap.objs.size) { s with heap:=s.heap.push { cls:=.type "tuple",data:=.seq (vs++ws).toArray } })
  (hsz:vs.length+ws.length<=sizeLine):wpAny (model prog w) A (binaryOp .Add (.ref t) (.ref b)) Q E s:=by
 obtain⟨⟨cls,dd,data,sl⟩,ho,hc,n,hd⟩:=id ht;obtain⟨⟨cls2,dd2,data2,sl2⟩,ho2,hc2,n2,hd2⟩:=id hb;simp only at hc hd hc2 hd2;subst hc hd hc2 hd2;have e:vs.toArray++ws.toArray=(vs++ws).toArray:=by simp
 by_cases hw:ws=[]
 ·exact concat_meets ⟨_,ho,rfl⟩ ⟨_,ho2,rfl⟩ noFill_tuple_add seq_tuple_add PySem.F.slot_tuple_add PySem.F.entry_tuple_add (PySem.F.args_tuple_add_2 _ _)
   (tuple_addW1 t b vs.toArray ws.toArray n n2 dd dd2 sl sl2 (by simpa using hv) (by simp[hw])) ⟨ho,ho2,h1 hw⟩
 ·refine concat_meets ⟨_,ho,rfl⟩ ⟨_,ho2,rfl⟩ noFill_tuple_add seq_tuple_add PySem.F.slot_tuple_add PySem.F.entry_tuple_add (PySem.F.args_tuple_add_2 _ _)
   (tuple_addW2 t b vs.toArray ws.toArray n n2 dd dd2 sl sl2 (by simpa using hv) (by simpa using hw) (by rw[ij,ij];exact hsz)) ⟨ho,ho2,?_⟩
  rw[e];exact h2 hw
def sIx(n d:Nat):Option Int->Nat
 |none=>d
 |some v=>if v<0 then(v+(n:Int)).toNat else min v.toNat n
theorem sIx_none(n d:Nat):sIx n d none=d:=rfl
theorem sIx_nat(n d k:Nat):sIx n d (some (k:Int))=min k n:=by
 show(if(k:Int)<0 then((k:Int)+(n:Int)).toNat else min (k:Int).toNat n)=min k n
 rw[if_neg (by omega),kF]
theorem sIx_le(n d:Nat)(hd:d<=n)(o:Option Int):sIx n d o<=n:=by
 cases o with
 |none=>exact hd
 |some v=>
  show(if v<0 then(v+(n:Int)).toNat else min v.toNat n)<=n
  by_cases hv:v<0
  ·rw[if_pos hv];omega
  ·rw[if_neg hv];exact Nat.min_le_right _ _
theorem clip_eq(v:Int)(n d:Nat):(if v<0 then max (v+(n:Int)) 0 else min v (n:Int))=((sIx n d (some v):Nat):Int):=by
 show(if v<0 then max (v+(n:Int)) 0 else min v (n:Int))=(((if v<0 then(v+(n:Int)).toNat else min v.toNat n):Nat):Int)
 by_cases hv:v<0
 ·simp only[if_pos hv];omega
 ·simp only[if_neg hv];omega
theorem vM(lo hi:Option Int)(n:Nat):Builtin.Slice.sliceAdjust lo hi 1 (n:Int)=(((sIx n 0 lo:Nat):Int),((sIx n n hi:Nat):Int)):=by
 have h1:¬((1:Int)<0):=by omega
 unfold Builtin.Slice.sliceAdjust;simp only[h1,iR];refine Prod.ext ?_ ?_
 ·cases lo with
  |none=>rfl
  |some v=>exact clip_eq v n 0
 ·cases hi with
  |none=>rfl
  |some v=>exact clip_eq v n n
theorem vW(i j:Nat):Builtin.Slice.slicePlaces (i:Int) (j:Int) 1=j-i:=by
 unfold Builtin.Slice.slicePlaces;have h1:(1:Int)>0:=by omega
 simp only[h1,jf,Int.ediv_one]
 split<;>omega
theorem qX{v:Value}{o:Option Int}{Q:Option Int->Shared->Prop}(p:IsPart v o)(h:Q o s):wpAny (model prog w) A (Builtin.Slice.slicePartIndex v) Q E s:=by
 cases p with
 |none=>exact slicePart_none h
 |int i t=>exact slicePart_int h
theorem UL{sl:Addr}{vl vu:Value}{lo hi:Option Int}{n:Nat}{Q:Int×Int×Nat->Shared->Prop}(hs:s.heap.IsSliceOf sl vl vu .none)(pl:IsPart vl lo)(pu:IsPart vu hi)
  (h:Q (((sIx n 0 lo:Nat):Int),1,sIx n n hi-sIx n 0 lo) s):wpAny (model prog w) A (Builtin.Slice.sliceApplied (.ref sl) (pure (n:Int))) Q E s:=by
 obtain⟨os,hos,hcs,hds⟩:=id hs;unfold Builtin.Slice.sliceApplied Builtin.Slice.sliceFields;refine gW (gW (jg hos hds (x:=vl) rfl (gW (jg hos hds (x:=vu) rfl (gW (jg hos hds (x:=.none) rfl (gX ?_)))))));refine gW (slicePart_none ?_)
 show wpAny _ _ (if((1:Int)==0)=true then _ else _) _ _ s
 rw[if_neg (by decide)];refine gW (qX pl (gW (qX pu (gW (gX ?_)))))
 show wpAny _ _ (match Builtin.Slice.sliceAdjust lo hi 1 (n:Int) with|(lo,hi)=>pure (lo,(1:Int),Builtin.Slice.slicePlaces lo hi 1)) _ _ s
 rw[vM lo hi n]
 show wpAny _ _ (pure (((sIx n 0 lo:Nat):Int),(1:Int),Builtin.Slice.slicePlaces ((sIx n 0 lo:Nat):Int) ((sIx n n hi:Nat):Int) 1)) _ _ s
 rw[vW];exact gX h
theorem pick_gen(xs:Array Value)(i k:Nat):((List.range k).filterMap fun(m:Nat)=>xs[((i:Int)+(m:Int)*1).toNat]?).toArray=((xs.toList.drop i).take k).toArray:=by
 have e:(fun(m:Nat)=>xs[((i:Int)+(m:Int)*1).toNat]?)=fun m=>xs[i+m]?:=by
  funext m
  have:((i:Int)+(m:Int)*1).toNat=i+m:=by omega
  rw[this]
 rw[e];have:=pick_run xs i k;rw[List.filterMap_map] at this;have e2:((fun x=>xs[x]?)∘fun x=>i+x)=fun m=>xs[i+m]?:=rfl;rw[e2] at this;rw[this]
theorem getItem_tuple_cut{t sl:Addr}{items:Array Value}{vl vu:Value}{lo hi:Option Int}{Q:Value->Shared->Prop}(ht:IsTup s.heap t items)(hs:s.heap.IsSliceOf sl vl vu .none)(pl:IsPart vl lo)(pu:IsPart vu hi)
  (hw:¬(sIx items.size 0 lo=0/\sIx items.size items.size hi=items.size))
  (h:Q (.ref s.heap.objs.size) { s with heap:=s.heap.push { cls:=.type "tuple",data:=.seq ((items.toList.drop (sIx items.size 0 lo)).take (sIx items.size items.size hi-sIx items.size 0 lo)).toArray } })
  (hsz:items.size<=sizeLine):wpAny (model prog w) A (getItem (.ref t) (.ref sl)) Q E s:=by
 have htake:sizeOk (.seq ((items.toList.drop (sIx items.size 0 lo)).take (sIx items.size items.size hi-sIx items.size 0 lo)).toArray):=by
  show((items.toList.drop (sIx items.size 0 lo)).take (sIx items.size items.size hi-sIx items.size 0 lo)).toArray.size<=sizeLine
  rw[ij,hV,jh,jO];omega
 have hj:sIx items.size items.size hi<=items.size:=sIx_le _ _ (gY _) hi;obtain⟨os,hos,hcs,hds⟩:=id hs;have hTs:s.TypeIs (.ref sl) "slice" := ⟨os,hos,hcs⟩;unfold getItem
 try with_reducible refine ji ?_
 first|refine gW (gX ?_)|skip
 refine gW (wpAny_sequenceKey ht.typeIs (by decide) ?_);refine gW (wpAny_callSpecial?_slot (name:=Str.ofString "__getitem__") ht.typeIs kU
  (kf kU ht.typeIs entry_tuple_getitem ?_ (args_tuple_getitem _ _)))
 show wpAny _ _ (Builtin.Tuple.tupleItemsOf (.ref t) >>= _) _ _ s
 refine gW (tupleItemsOf_ ht ?_);refine gW (wpAny_typeOf hTs ?_);rw[if_pos (by decide)];refine gW (UL hs pl pu ?_);have hno:¬((((sIx items.size 0 lo:Nat):Int)==0&&(1:Int)==1&&(sIx items.size items.size hi-sIx items.size 0 lo)==items.size)=true):=by
  intro q;rw[iN,iN] at q;have q1:((sIx items.size 0 lo:Nat):Int)=0:=eq_of_beq q.1.1;have q2:sIx items.size items.size hi-sIx items.size 0 lo=items.size:=eq_of_beq q.2;exact hw ⟨by omega,by omega⟩
 show wpAny _ _ (if(((sIx items.size 0 lo:Nat):Int)==0&&(1:Int)==1&&(sIx items.size items.size hi-sIx items.size 0 lo)==items.size)=true then _ else _) _ _ s
 rw[if_neg hno,pick_gen]
 first
  |exact gW (m:=Builtin.Tuple.tupleExact _) (ja (gX ⟨_,rfl,gX h⟩) htake)
  |exact gW (m:=Builtin.Tuple.tupleExact _) (ja (gW (gX (gX ⟨_,rfl,gX h⟩))) htake)
  |exact gW (gW (m:=Builtin.Tuple.tupleExact _) (ja (gX (gX ⟨_,rfl,gX h⟩)) htake))
  |exact gW (gW (m:=Builtin.Tuple.tupleExact _) (ja (gX ⟨_,rfl,gX h⟩) htake))
end
end HT
namespace L2
open PySem PySem.Spec PyProof.Rows
abbrev TO:=St->Hp->(Option Int->Hp->Prop)->Prop
def PO(X:Cx)(e:Option Expr)(t:TO):Prop:=
 ∀(gE:List (Addr×Obj)) (s:Shared) (σ:St) (H:Hp) (Q:Option Int->Hp->Prop),Inv X gE σ H s->t σ H Q ->
  wpAny (model X.prog X.w) X.A (evalPart e X.env) (fun u s'=>∃o H',Inv X gE σ H' s'/\IsPart u o/\Q o H') X.xe s
def tNoPart:TO:=fun _ H Q=>Q none H
inductive PartR(x:V)(H:Hp)(Q:Option Int->Hp->Prop):Prop
 |mk (i:Int) (h:x=.int i) (k:Q (some i) H):PartR x H Q
def tPart(t:TE):TO:=fun σ H Q=>t σ H fun x H1=>PartR x H1 Q
theorem qJ{ns:List Int}:∀{us:List Value},ZN (ns.map V.int) us->IntsAre us ns:=by
 induction ns with
 |nil=>intro us r;rw[ip] at r;cases r;exact .nil
 |cons n ns ih=>
  intro us r;rw[g9] at r;cases r with
  |cons r1 r2=>
   obtain⟨t,e⟩:=r1;subst e;exact .cons n t (ih r2)
section
variable{X:Cx}{e:Expr}{te:TE}{lo hi:Option Expr}{tl th:TO}{pos p2:Pos}
theorem Y6:PO X none tNoPart:=by
 intro gE s σ H Q I h;rw[evalPart_none];exact gX ⟨none,H,I,.none,h⟩
theorem YQ(h:PE X e te):PO X (some e) (tPart te):=by
 intro gE s σ H Q I hw;rw[evalPart_some];refine thn (h gE s σ H _ I hw) fun u s1 ⟨x,H1,I1,r1,q1⟩=>?_;obtain⟨i,rfl,q⟩:=q1;obtain⟨t,rfl⟩:=r1;exact⟨some i,H1,I1,.int i t,q⟩
def SlR(X:Cx)(r:V->Option Int->Option Int->Hp->VK->Prop):Prop:=
 ∀(gE:List (Addr×Obj)) (s:Shared) (σ:St) (H:Hp) (x:V) (v vl vu:Value) (lo hi:Option Int) (sl:Addr) (Q:VK),Inv X gE σ H s->ZU x v->s.heap.IsSliceOf sl vl vu .none->IsPart vl lo->IsPart vu hi->r x lo hi H Q ->
  ∃T id,typeLookup (.type T) "__getitem__" = pure (some (.builtin id))/\s.TypeIs v T/\wpAny (model X.prog X.w) X.A (getItem v (.ref sl)) (EP X gE σ Q) X.xe s
def tSl(r:V->Option Int->Option Int->Hp->VK->Prop)(te:TE)(tl th:TO):TE:=fun σ H Q=>te σ H fun x H1=>tl σ H1 fun l H2=>th σ H2 fun u H3=>r x l u H3 Q
theorem YG{r:V->Option Int->Option Int->Hp->VK->Prop}(hr:SlR X r)(he:PE X e te)(hl:PO X lo tl)(hu:PO X hi th):PE X (.Subscript e (.Slice lo hi none p2) pos) (tSl r te tl th):=by
 intro gE s σ H Q I h;refine Subscript_ (thn (he gE s σ H _ I h) fun v s1 ⟨x,H1,I1,r1,q1⟩=>?_);refine wpAny_Slice (thn (hl gE s1 σ H1 _ I1 q1) fun vl s2 ⟨l,H2,I2,pl,q2⟩=>thn (hu gE s2 σ H2 _ I2 q2) fun vu s3 ⟨u,H3,I3,pu,q3⟩=>?_);rw[evalPart_none];refine gX ?_;have I4:Inv X gE σ H3 { s3 with heap:=s3.heap.push { cls:=.type "slice",data:=.fields #[vl,vu,.none] } }:=I3.kept (t':=s3.toks) fun b ob q=>iu _ q;obtain⟨T,id,hT,ht,hg⟩:=hr gE { s3 with heap:=s3.heap.push { cls:=.type "slice",data:=.fields #[vl,vu,.none] } } σ H3 x v vl vu l u s3.heap.objs.size Q I4 r1 (Heap.IsSliceOf.new ..) pl pu q3
 show wpAny (model X.prog X.w) X.A (subscriptTail e (.Slice lo hi none p2) v (.ref s3.heap.objs.size)) (EP X gE σ Q) X.xe { s3 with heap:=s3.heap.push { cls:=.type "slice",data:=.fields #[vl,vu,.none] } }
 exact tail_any (ops:=[.ref s3.heap.objs.size,v]) ht hT hg (by with_unfolding_all rfl)
def Wp(xs:List V)(lo hi:Option Int):List V:=(xs.drop (HT.sIx xs.length 0 lo)).take (HT.sIx xs.length xs.length hi-HT.sIx xs.length 0 lo)
theorem U0(xs:List V)(lo hi:Option Int):(Wp xs lo hi).length<=xs.length:=by
 unfold Wp;rw[hV,jh];omega
inductive rSlT_R(K:W.Frag)(x:V)(lo:Option Int)(hi:Option Int)(H:Hp)(Q:VK):Prop
 |mk (a:_) (xs:_) (h0:x=.ref a) (h1:SqT K H a xs) (h2:¬(HT.sIx xs.length 0 lo=0/\HT.sIx xs.length xs.length hi=xs.length)) (h3:∀p,H p=none->Q (.ref p) (upd H p (.tup (Wp xs lo hi)))):rSlT_R K x lo hi H Q
def rSlT(K:W.Frag):V->Option Int->Option Int->Hp->VK->Prop:=fun x lo hi H Q=>rSlT_R K x lo hi H Q
theorem sl_tup:SlR X (rSlT X.K):=by
 intro gE s σ H x v vl vu lo hi sl Q I rx hs pl pu h;obtain⟨a,xs,rfl,hx,hw,q⟩:=h;cases rx;obtain⟨its,r,ht,hz⟩:=I.tuple hx;have hlen:its.toArray.size=xs.length:=by rw[ij];exact r.length.symm
 refine⟨"tuple",_,kU.lookup,ht.typeIs,?_⟩;refine HT.getItem_tuple_cut ht hs pl pu (by rw[hlen];exact hw) ?_ (by rw[hlen];exact hz);rw[hlen];refine⟨.ref s.heap.objs.size,_,I.laid (t':=s.toks) (o:=.tup (Wp xs lo hi)) (fun b ob q=>iu _ q) (gY _) ?_,rfl,q _ (I.hok.fresh (gY _))⟩;exact⟨iq (U0 xs lo hi) hz,_,(r.drop (HT.sIx xs.length 0 lo)).take (HT.sIx xs.length xs.length hi-HT.sIx xs.length 0 lo),IsTup.new _ _⟩
inductive rCatT_R(K:W.Frag)(x:V)(y:V)(H:Hp)(Q:VK):Prop
 |mk (a:_) (b:_) (xs:_) (ys:_) (h0:x=.ref a) (h1:y=.ref b) (h2:SqT K H a xs) (h3:SqT K H b ys) (h4:xs≠[]) (h5:xs.length+ys.length<=sizeLine) (h6:(ys=[]->Q (.ref a) H)) (h7:(ys≠[]->∀p,H p=none->Q (.ref p) (upd H p (.tup (xs++ys))))):rCatT_R K x y H Q
def rCatT(K:W.Frag):R2:=fun x y H Q=>rCatT_R K x y H Q
theorem ZN.nil_iff{xs:List V}{us:List Value}(r:ZN xs us):us=[]↔xs=[]:=by
 cases r with
 |nil=>simp
 |cons _ _=>simp
theorem op_catT:OpR X (binaryOp .Add) (rCatT X.K):=by
 intro gE s σ H x y v u Q I rx ry h;obtain⟨a,b,xs,ys,rfl,rfl,ha,hb,hx,hz,q1,q2⟩:=h;cases rx;cases ry;obtain⟨its,r1,p1,_⟩:=I.tuple ha;obtain⟨its2,r2,p2,_⟩:=I.tuple hb;refine HT.cat_tup p1 p2 (fun z=>hx (r1.nil_iff.mp z)) (fun z=>⟨.ref a,H,I,rfl,q1 (r2.nil_iff.mp z)⟩) (fun z=>?_) (by rw[<- r1.length,<- r2.length];exact hz);refine⟨.ref s.heap.objs.size,_,I.laid (t':=s.toks) (o:=.tup (xs++ys)) (fun b ob q=>iu _ q) (gY _) ?_,rfl,q2 (fun w=>z (r2.nil_iff.mpr w)) _ (I.hok.fresh (gY _))⟩;exact⟨by rw[hG];exact hz,_,r1.append r2,IsTup.new _ _⟩
end
def ixN(n:Nat)(i:Int):Option Nat:=if 0<=i then(if i<n then some i.toNat else none) else if -(n:Int)<=i then some (i+n).toNat else none
def atI{α:Type}(xs:List α)(i:Int):Option α:=(ixN xs.length i).bind fun j=>xs[j]?
theorem ixN_seq{n:Nat}{i:Int}{j:Nat}(h:ixN n i=some j):seqIndex? i n=some j/\j<n/\-(n:Int)<=i/\i<n:=by
 unfold ixN at h
 by_cases h0:0<=i
 ·rw[if_pos h0] at h
  by_cases h1:i<n
  ·rw[if_pos h1] at h;have e:i.toNat=j:=iB h;exact⟨by rw[seqIndex_of h0 h1,e],by omega,by omega,h1⟩
  ·rw[if_neg h1] at h;cases h
 ·rw[if_neg h0] at h
  by_cases h1:-(n:Int)<=i
  ·rw[if_pos h1] at h;have e:(i+n).toNat=j:=iB h;exact⟨by rw[seqIndex_neg (by omega) h1,e],by omega,h1,by omega⟩
  ·rw[if_neg h1] at h;cases h
theorem atI_get{α:Type}{xs:List α}{i:Int}{v:α}(h:atI xs i=some v):∃j,seqIndex? i xs.length=some j/\xs[j]?=some v/\j<xs.length/\-(xs.length:Int)<=i/\i<xs.length:=by
 unfold atI at h;cases e:ixN xs.length i with
 |none=>rw[e] at h;cases h
 |some j=>
  rw[e] at h;obtain⟨h1,h2,h3,h4⟩:=ixN_seq e;exact⟨j,h1,h,h2,h3,h4⟩
theorem Zk{α:Type}{xs:List α}{j:Nat}{v:α}(h:xs[j]?=some v):atI xs (j:Int)=some v:=by
 have hj:j<xs.length:=(ib.mp h).1;have e:ixN xs.length (j:Int)=some j:=by
  unfold ixN;rw[if_pos (by omega),if_pos (by omega)];simp
 unfold atI;rw[e];exact h
theorem qH{α:Type}(xs:List α)(v:α):atI (xs++[v]) (-1)=some v:=by
 have hl:(xs++[v]).length=xs.length+1:=by simp
 have e:ixN (xs++[v]).length (-1)=some xs.length:=by
  unfold ixN;rw[hl,if_neg (by decide),if_pos (by omega)]
  congr 1
  omega
 unfold atI;rw[e]
 show(xs++[v])[xs.length]?=some v
 simp
def PlainIx(b:Expr):Prop:=∀o i,subscripted b false o i=operate [o,i] (getItem o i)
def IxR(X:Cx)(r:R2):Prop:=
 ∀(value slice:Expr) (gE:List (Addr×Obj)) (s:Shared) (σ:St) (H:Hp) (x y:V) (v u:Value) (Q:VK),Inv X gE σ H s->ZU x v->ZU y u->r x y H Q ->
  subscripted slice false v u=operate [v,u] (getItem v u)->wpAny (model X.prog X.w) X.A (subscriptTail value slice v u) (EP X gE σ Q) X.xe s
def MtR(X:Cx)(id:String)(r:V->List V->Hp->VK->Prop):Prop:=
 ∀(gE:List (Addr×Obj)) (s:Shared) (σ:St) (H:Hp) (x:V) (xs:List V) (v:Value) (us:List Value) (Q:VK),Inv X gE σ H s->ZU x v->ZN xs us->r x xs H Q ->
  wpAny (model X.prog X.w) X.A (call (.builtin id) (v::us)) (EP X gE σ Q) X.xe s
section
variable{X:Cx}{a b:Expr}{ta tb:TE}{pos:Pos}
theorem ZA{r:R2}(hr:IxR X r)(ha:PE X a ta)(hb:PE X b tb)(hs:PlainIx b):PE X (.Subscript a b pos) (tOp r ta tb):=by
 intro gE s σ H Q I h;exact Subscript_ (binT ha hb I h fun v u s2 x y H2 I2 rx ry q=>hr a b gE s2 σ H2 x y v u Q I2 rx ry q (hs _ _))
inductive rIxL_R(K:W.Frag)(x:V)(y:V)(H:Hp)(Q:VK):Prop
 |mk (p:_) (xs:_) (i:_) (v:_) (h0:x=.ref p) (h1:y=.int i) (h2:SqL K H p xs) (h3:atI xs i=some v) (h4:Q v H):rIxL_R K x y H Q
def rIxL(K:W.Frag):R2:=fun x y H Q=>rIxL_R K x y H Q
inductive rIxT_R(K:W.Frag)(x:V)(y:V)(H:Hp)(Q:VK):Prop
 |mk (p:_) (xs:_) (i:_) (v:_) (h0:x=.ref p) (h1:y=.int i) (h2:SqT K H p xs) (h3:atI xs i=some v) (h4:Q v H):rIxT_R K x y H Q
def rIxT(K:W.Frag):R2:=fun x y H Q=>rIxT_R K x y H Q
theorem ix_list:IxR X (rIxL X.K):=by
 intro value slice gE s σ H x y v u Q I rx ry h hs;obtain⟨p,xs,i,z,rfl,rfl,hq,he,q⟩:=h;cases rx;obtain⟨t,rfl⟩:=ry;obtain⟨its,r,pl,hz⟩:=I.list hq;obtain⟨j,h1,h2,h3,h4,h5⟩:=atI_get he;obtain⟨w,ew,rw'⟩:=r.get h2;have hl:=r.length;have hn:=qE;have fin:EP X gE σ Q w s:=⟨z,H,I,rw',q⟩
 by_cases h0:0<=i
 ·have hj:i.toNat=j:=by
   rw[seqIndex_of h0 h5] at h1;exact iB h1
  exact item_listR pl.isList h0 (by omega) (by rw[hj];simpa using ew) fin hs
 ·have hj:(i+(its.toArray.size:Int)).toNat=j:=by
   rw[seqIndex_neg (by omega) h4] at h1;rw[ij,<- hl];exact iB h1
  exact subscriptTail_builtinR (x:=w) pl.isList.typeIs slot_list_getitem.lookup
   (wpAny_getItem_list_neg (Q:=fun r s'=>r=w/\EP X gE σ Q r s') pl.isList (by omega) (by rw[ij]<;>omega) (by omega) (by rw[hj];simpa using ew) ⟨rfl,fin⟩) hs
theorem ix_tup:IxR X (rIxT X.K):=by
 intro value slice gE s σ H x y v u Q I rx ry h hs;obtain⟨p,xs,i,z,rfl,rfl,hq,he,q⟩:=h;cases rx;obtain⟨t,rfl⟩:=ry;obtain⟨its,r,pl,hz⟩:=I.tuple hq;obtain⟨j,h1,h2,h3,h4,h5⟩:=atI_get he;obtain⟨w,ew,rw'⟩:=r.get h2;have hl:=r.length;have hn:=qE;have fin:EP X gE σ Q w s:=⟨z,H,I,rw',q⟩;exact subscriptTail_builtinR (x:=w) pl.typeIs slot_tuple_getitem.lookup
  (getItem_tuple (j:=j) (Q:=fun r s'=>r=w/\EP X gE σ Q r s') pl (by omega) (by omega) (by rw[ij,<- hl];exact h1) (by simpa using ew) ⟨rfl,fin⟩) hs
theorem xa(lo hi:Option Int)(n:Nat):(sliceBounds lo hi none n).1=((HT.sIx n 0 lo:Nat):Int)/\(sliceBounds lo hi none n).2.1=((HT.sIx n n hi:Nat):Int)/\(sliceBounds lo hi none n).2.2=1:=by
 refine⟨?_,?_,rfl⟩
 ·cases lo with
  |none=>simp[sliceBounds,HT.sIx]
  |some i=>
   simp only[sliceBounds,HT.sIx,Option.getD_none,show(1:Int)>0 by decide,jf]
   by_cases h:i<0
   ·simp only[h,jf]<;>omega
   ·simp only[h,iR]<;>omega
 ·cases hi with
  |none=>simp[sliceBounds,HT.sIx]
  |some i=>
   simp only[sliceBounds,HT.sIx,Option.getD_none,show(1:Int)>0 by decide,jf]
   by_cases h:i<0
   ·simp only[h,jf]<;>omega
   ·simp only[h,iR]<;>omega
theorem zA(its:List Value)(lo hi:Option Int):slicePick its.toArray lo hi none=((its.drop (HT.sIx its.length 0 lo)).take (HT.sIx its.length its.length hi-HT.sIx its.length 0 lo)).toArray:=by
 obtain⟨h1,h2,h3⟩:=xa lo hi its.toArray.size;unfold slicePick;rw[h1,h2,h3];simp only[sliceRange_one,pick_run,ij]<;>rfl
inductive rSlL_R(K:W.Frag)(x:V)(lo:Option Int)(hi:Option Int)(H:Hp)(Q:VK):Prop
 |mk (a:_) (xs:_) (h0:x=.ref a) (h1:SqL K H a xs) (h2:∀p,H p=none->Q (.ref p) (upd H p (.lst (Wp xs lo hi)))):rSlL_R K x lo hi H Q
def rSlL(K:W.Frag):V->Option Int->Option Int->Hp->VK->Prop:=fun x lo hi H Q=>rSlL_R K x lo hi H Q
theorem sl_list:SlR X (rSlL X.K):=by
 intro gE s σ H x v vl vu lo hi sl Q I rx hs pl pu h;obtain⟨a,xs,rfl,hx,q⟩:=h;cases rx;obtain⟨its,r,ht,hz⟩:=I.list hx;have hlen:=r.length;refine⟨"list",_,slot_list_getitem.lookup,ht.isList.typeIs,?_⟩;refine wpAny_getItem_list_slice ht.isList hs pl pu .none (by simp) ?_ (by rw[ij]<;>omega);rw[zA,<- hlen];refine⟨.ref s.heap.objs.size,_,I.laid (t':=s.toks) (o:=.lst (Wp xs lo hi)) (fun b ob q=>iu _ q) (gY _) ?_,rfl,q _ (I.hok.fresh (gY _))⟩;exact⟨iq (U0 xs lo hi) hz,_,0,(r.drop (HT.sIx xs.length 0 lo)).take (HT.sIx xs.length xs.length hi-HT.sIx xs.length 0 lo),iF _ rfl⟩
def VJ:V->Bool
 |.non=>true
 |.bl _=>true
 |.int _=>true
 |.str _=>true
 |_=>false
def eqV:V->V->Bool
 |.non,.non=>true
 |.bl a,.bl b=>a==b
 |.bl a,.int b=>(if a then 1 else 0)==b
 |.int a,.bl b=>a==(if b then 1 else 0)
 |.int a,.int b=>a==b
 |.str a,.str b=>a==b
 |_,_=>false
theorem eqAt_V{A:Around}{s:Shared}{y x:V}{u v:Value}(ry:ZU y u)(rx:ZU x v)(fy:VJ y=true)(fx:VJ x=true):SeqAt.EqAt A s u v (eqV y x):=by
 cases y with
 |non=>
  cases ry;cases x with
  |non=>cases rx;exact SeqAt.EqAt.same _
  |bl b=>cases rx;exact SeqAt.EqAt.none_bool b
  |int b=>obtain⟨t,rfl⟩:=rx;exact SeqAt.EqAt.none_int b t
  |str b=>obtain⟨t,rfl⟩:=rx;exact SeqAt.EqAt.none_str b t
  |_=>exact absurd (show false=true from fx) iy
 |bl a=>
  cases ry;cases x with
  |non=>cases rx;exact SeqAt.EqAt.bool_none a
  |bl b=>cases rx;exact SeqAt.EqAt.bool_bool a b
  |int b=>obtain⟨t,rfl⟩:=rx;exact SeqAt.EqAt.bool_int a b t
  |str b=>obtain⟨t,rfl⟩:=rx;exact SeqAt.EqAt.bool_str a b t
  |_=>exact absurd (show false=true from fx) iy
 |int a=>
  obtain⟨t',rfl⟩:=ry;cases x with
  |non=>cases rx;exact SeqAt.EqAt.int_none a t'
  |bl b=>cases rx;exact SeqAt.EqAt.int_bool a t' b
  |int b=>obtain⟨t,rfl⟩:=rx;exact SeqAt.EqAt.int_int a t' b t
  |str b=>obtain⟨t,rfl⟩:=rx;exact SeqAt.EqAt.int_str a t' b t
  |_=>exact absurd (show false=true from fx) iy
 |str a=>
  obtain⟨t',rfl⟩:=ry;cases x with
  |non=>cases rx;exact SeqAt.EqAt.str_none a t'
  |bl b=>cases rx;exact SeqAt.EqAt.str_bool a t' b
  |int b=>obtain⟨t,rfl⟩:=rx;exact SeqAt.EqAt.str_int a t' b t
  |str b=>obtain⟨t,rfl⟩:=rx;exact SeqAt.EqAt.str_str a t' b t
  |_=>exact absurd (show false=true from fx) iy
 |_=>exact absurd (show false=true from fy) iy
def eqU(x:V)(u:Value):Bool:=match u with
 |.none=>eqV .non x
 |.bool b=>eqV (.bl b) x
 |.int i _=>eqV (.int i) x
 |.str z _=>eqV (.str z) x
 |_=>false
theorem eqU_of{x y:V}{u:Value}(r:ZU y u)(f:VJ y=true):eqU x u=eqV y x:=by
 cases y with
 |non=>cases r;rfl
 |bl b=>cases r;rfl
 |int i=>obtain⟨t,rfl⟩:=r;rfl
 |str z=>obtain⟨t,rfl⟩:=r;rfl
 |_=>exact absurd (show false=true from f) iy
theorem yo{x:V}:∀{xs:List V}{us:List Value},ZN xs us->xs.all VJ=true->us.any (eqU x)=xs.any fun y=>eqV y x
 |_,_,.nil,_=>rfl
 |y::xs,u::us,.cons r t,f=>by
  rw[kg,iN] at f;rw[jS,jS,eqU_of r f.1,yo t f.2]
theorem qF{A:Around}{s:Shared}{x:V}{v:Value}(rx:ZU x v)(fx:VJ x=true):∀{xs:List V}{us:List Value},ZN xs us->xs.all VJ=true->∀u∈us,SeqAt.EqAt A s u v (eqU x u)
 |_,_,.nil,_=>fun u hu=>by cases hu
 |y::xs,u::us,.cons r t,f=>fun u' hu=>by
  rw[kg,iN] at f;rcases ic.mp hu with rfl|hu
  ·rw[eqU_of r f.1];exact eqAt_V r rx f.1 fx
  ·exact qF rx fx t f.2 u' hu
def inV(x:V)(xs:List V):Bool:=xs.any fun y=>eqV y x
inductive rIn_R(K:W.Frag)(neg:Bool)(x:V)(y:V)(H:Hp)(Q:VK):Prop
 |mk (p:_) (xs:_) (h0:y=.ref p) (h1:(SqL K H p xs\/SqT K H p xs)) (h2:VJ x=true) (h3:xs.all VJ=true) (h4:Q (.bl (if neg then !inV x xs else inV x xs)) H):rIn_R K neg x y H Q
def rIn(K:W.Frag)(neg:Bool):R2:=fun x y H Q=>rIn_R K neg x y H Q
theorem op_in_seq:OpR X (compareOp .In) (rIn X.K false):=by
 intro gE s σ H x y v u Q I rx ry h;obtain⟨p,xs,rfl,hq,fx,fs,q⟩:=h;cases ry;rcases hq with hq|hq
 ·obtain⟨its,r,pl,hz⟩:=I.list hq;refine SeqAt.in_listAt (eqU x) pl.isList (fun w hw=>qF rx fx r fs w (by simpa using hw)) ⟨.bl _,H,I,rfl,?_⟩;rw[show its.toArray.any (eqU x)=its.any (eqU x) by simp,yo r fs];exact q
 ·obtain⟨its,r,pl,hz⟩:=I.tuple hq;refine SeqAt.in_tupleAt (eqU x) pl (fun w hw=>qF rx fx r fs w (by simpa using hw)) ⟨.bl _,H,I,rfl,?_⟩;rw[show its.toArray.any (eqU x)=its.any (eqU x) by simp,yo r fs];exact q
theorem yW:YS X (.builtin "len") (fun xs H Q=>∃p ys,xs=[.ref p]/\(SqL X.K H p ys\/SqT X.K H p ys)/\Q (.int ys.length) H):=by
 intro gE s σ H xs us Q I r h;obtain⟨p,ys,rfl,hq,q⟩:=h;obtain⟨u,rfl,rx⟩:=WN r;cases rx;have hn:=qE;rcases hq with hq|hq
 ·obtain⟨its,r',pl,hz⟩:=I.list hq;have hlen:=r'.length;exact Calls.call_len_list pl.isList (by simp only[ij]<;>omega) ⟨.int ys.length,H,I.tok _,⟨s.toks+1,by rw[ij,hlen]⟩,q⟩
 ·obtain⟨its,r',pl,hz⟩:=I.tuple hq;have hlen:=r'.length;exact len_tuple pl (by simp only[ij]<;>omega) ⟨.int ys.length,H,I.tok _,⟨s.toks+1,by rw[ij,hlen]⟩,q⟩
theorem yU:YS X (.builtin "len") (fun xs H Q=>∃z,xs=[.str z]/\z.length<=sizeLine/\Q (.int z.length) H):=by
 intro gE s σ H xs us Q I r h;obtain⟨z,rfl,hz,q⟩:=h;obtain⟨u,rfl,t,rfl⟩:=WN r;have hn:=qE;exact len_str (by omega) ⟨.int z.length,H,I.tok _,⟨_,rfl⟩,q⟩
theorem YS.or{f:Value}{r r':List V->Hp->VK->Prop}(h:YS X f r)(h':YS X f r'):YS X f (fun xs H Q=>r xs H Q\/r' xs H Q):=by
 intro gE s σ H xs us Q I rs q;rcases q with q|q
 ·exact h gE s σ H xs us Q I rs q
 ·exact h' gE s σ H xs us Q I rs q
theorem yr:YS X (.type "list") (fun xs H Q=>∃p ys,xs=[.ref p]/\(SqL X.K H p ys\/SqT X.K H p ys)/\∀l,H l=none->Q (.ref l) (upd H l (.lst ys))):=by
 intro gE s σ H xs us Q I r h;obtain⟨p,ys,rfl,hq,q⟩:=h;obtain⟨u,rfl,rx⟩:=WN r;cases rx;have fin:∀(its:List Value),ZN ys its->ys.length<=sizeLine->∀(h':Heap) (c':Nat),(∀b o',s.heap.get? b=some o'->h'.get? b=some o') ->
   h'.get? s.heap.objs.size=some { cls:=.type "list",dict:=none,data:=.seq its.toArray c',slots:=#[] }->EP X gE σ Q (.ref s.heap.objs.size) { s with heap:=h' }:=fun its r' hz h' c' kp e=>
  ⟨.ref s.heap.objs.size,_,I.laid (t':=s.toks) kp (gY _) (show Yx X.prog X.w _ h' _ (.lst ys) from⟨hz,its,c',r',e⟩),rfl,q _ (I.hok.fresh (gY _))⟩
 rcases hq with hq|hq
 ·obtain⟨its,r',pl,hz⟩:=I.list hq;have hlen:=r'.length;obtain⟨o,ho,hc,n,hd⟩:=pl.isList;exact call_list_seq p (.inl rfl) ho hc hd (fun h' c' kp e=>fin its r' hz h' c' kp e) (by simp only[ij]<;>omega)
 ·obtain⟨its,r',pl,hz⟩:=I.tuple hq;have hlen:=r'.length;obtain⟨o,ho,hc,n,hd⟩:=pl;exact call_list_seq p (.inr rfl) ho hc hd (fun h' c' kp e=>fin its r' hz h' c' kp e) (by simp only[ij]<;>omega)
theorem zD:YS X (.type "tuple") (fun xs H Q=>∃p ys,xs=[.ref p]/\((SqL X.K H p ys/\∀l,H l=none->Q (.ref l) (upd H l (.tup ys)))\/(SqT X.K H p ys/\Q (.ref p) H))):=by
 intro gE s σ H xs us Q I r h;obtain⟨p,ys,rfl,h⟩:=h;obtain⟨u,rfl,rx⟩:=WN r;cases rx;rcases h with⟨hq,q⟩|⟨hq,q⟩
 ·obtain⟨its,r',pl,hz⟩:=I.list hq;have hlen:=r'.length;refine call_tuple_list pl.isList (fun h' kp=>?_) (by simp only[ij]<;>omega);have I1:Inv X gE σ H { s with heap:=h' }:=I.kept (t':=s.toks) kp;have I2:Inv X gE σ (upd H h'.objs.size (.tup ys)) { s with heap:=h'.push { cls:=.type "tuple",data:=.seq its.toArray } }:=
   I1.laid (t':=s.toks) (fun b o e=>iu _ e) (gY _) (show Yx X.prog X.w _ _ _ (.tup ys) from⟨hz,its,r',IsTup.new _ _⟩)
  exact⟨.ref h'.objs.size,_,I2,rfl,q _ (I1.hok.fresh (gY _))⟩
 ·obtain⟨its,r',pl,hz⟩:=I.tuple hq;exact call_tuple_same pl ⟨.ref p,H,I,rfl,q⟩
def tyV(K:W.Frag)(T:String)(x:V)(H:Hp):Prop:=match x with
 |.str _=>T = "str"
 |.int _=>T = "int"
 |.ref p=>(T = "list" /\ ∃xs,SqL K H p xs)\/(T = "tuple" /\ ∃o,K.lookup p=some o/\o.cls=.type "tuple" /\ o.dict=none) \/
   (T = "dict" /\ ((∃kvs,H p=some (.dK kvs))\/∃kvs,H p=some (.dT kvs)))\/(T = "set" /\ ∃S n,H p=some (.set S n))
 |_=>False
theorem tyV_is{gE:List (Addr×Obj)}{σ:St}{H:Hp}{s:Shared}{T:String}{x:V}{v:Value}(I:Inv X gE σ H s)(r:ZU x v)(ty:tyV X.K T x H) :
  s.TypeIs v T/\∀a,v=.ref a->∃ob,s.heap.get? a=some ob/\ob.dict=none:=by
 cases x with
 |str z=>
  obtain⟨t,rfl⟩:=r;cases (show T = "str" from ty);exact⟨typeIs_str s z t,fun _ e=>nomatch e⟩
 |int i=>
  obtain⟨t,rfl⟩:=r;cases (show T = "int" from ty);exact⟨typeIs_int s i t,fun _ e=>nomatch e⟩
 |ref p=>
  cases r;rcases ty with⟨rfl,xs,hq⟩|⟨rfl,o,hk,hc,hd⟩|⟨rfl,hk⟩|⟨rfl,S,n,hk⟩
  ·obtain⟨its,_,pl,_⟩:=I.list hq;refine⟨pl.isList.typeIs,fun a e=>?_⟩;cases e;obtain⟨o,n,e,c,hd,_⟩:=pl;exact⟨o,e,hd⟩
  ·refine⟨⟨o,I.kIn p o hk,hc⟩,fun a e=>?_⟩;cases e;exact⟨o,I.kIn _ o hk,hd⟩
  ·have z:∃o,s.heap.get? p=some o/\o.ExactDict:=by
    rcases hk with⟨kvs,hk⟩|⟨kvs,hk⟩
    ·obtain⟨_,_,_,_,o,_,_,e,ex,_⟩:=I.hok p _ hk;exact⟨o,e,ex⟩
    ·obtain⟨_,_,_,_,o,_,_,e,ex,_⟩:=I.hok p _ hk;exact⟨o,e,ex⟩
   obtain⟨o,e,ex⟩:=z;refine⟨⟨o,e,ex.1⟩,fun a e2=>?_⟩;cases e2;exact⟨o,e,ex.2.1⟩
  ·obtain⟨o,_,_,_,e,ex,_⟩:=I.hok p _ hk;refine⟨⟨o,e,ex.1⟩,fun a e2=>?_⟩;cases e2;exact⟨o,e,ex.2.1⟩
 |_=>exact False.elim ty
def tBM0(K:W.Frag)(T:String)(r:V->List V->Hp->VK->Prop)(to:TE):TE:=fun σ H Q=>to σ H fun x H1=>tyV K T x H1/\r x [] H1 Q
def tBM(K:W.Frag)(T:String)(r:V->List V->Hp->VK->Prop)(to:TE)(t:TA):TE:=fun σ H Q=>to σ H fun x H1=>tyV K T x H1/\t σ H1 fun xs H2=>r x xs H2 Q
variable{o e:Expr}{es:List Expr}{to:TE}{t:TA}{name:Str}{apos cpos:Pos}{T id:String}{r:V->List V->Hp->VK->Prop}
theorem pe_bm0(pa:PlainAttrs T)(slot:Slot T name id)(hty:typeOf (.builtin id)=pure (.type "method_descriptor"))(hm:MtR X id r)(ho:PE X o to)
  (hbase:attributeBase o name X.env (eval o X.env)=eval o X.env:=by rfl) (hline:(apos.endLine==cpos.line)=true:=by rfl):PE X (.Call (.Attribute o name apos) [] [] cpos) (tBM0 X.K T r to):=by
 intro gE s σ H Q I h;refine wpAny_Call_method0_late hbase hline (thn (ho gE s σ H _ I h) fun v s1 ⟨x,H1,I1,r1,ty,q1⟩=>?_);obtain⟨h1,h2⟩:=tyV_is I1 r1 ty;exact⟨T,id,pa,slot,hty,h1,h2,Calls.callWith_builtin rfl (PySem.evalArgs_none (hm gE s1 σ H1 x [] v [] Q I1 r1 .nil q1))⟩
theorem Wx(pa:PlainAttrs T)(slot:Slot T name id)(hty:typeOf (.builtin id)=pure (.type "method_descriptor"))(hm:MtR X id r)(ho:PE X o to)(ha:PA X (e::es) t)
  (hbase:attributeBase o name X.env (eval o X.env)=eval o X.env:=by rfl)
  (hfew:((backTo cpos (starEach (e::es) X.env)).all (fun x=>!x.1)&&(backToKw cpos (keywordEach [] X.env)).all (fun x=>x.1.isSome)
   && decide ((e::es).length+([]:List Keyword).length+(if([]:List Keyword).isEmpty then 0 else 1)<30))=true:=by rfl)
  (hline:(apos.endLine==cpos.line)=true:=by rfl) (hs:starEach (e::es) X.env=(false,eval e X.env)::starEach es X.env:=by rfl) (hplain:(backTo cpos (starEach es X.env)).any (·.1)=false:=by rfl) :
  PE X (.Call (.Attribute o name apos) (e::es) [] cpos) (tBM X.K T r to t):=by
 intro gE s σ H Q I h;refine wpAny_Call_method_late hbase hfew hline rfl (thn (ho gE s σ H _ I h) fun v s1 ⟨x,H1,I1,r1,ty,q1⟩=>?_);obtain⟨h1,h2⟩:=tyV_is I1 r1 ty;refine⟨T,id,pa,slot,hty,h1,h2,?_⟩;have hA:=ha cpos gE s1 σ H1 _ I1 q1;rw[hs] at hA ⊢;refine Calls.callWith_builtin (by show(false||(backTo cpos (starEach es X.env)).any (·.1))=false;rw[hplain]<;>rfl) (Calls.evalArgs_plain ?_);exact thn hA fun us s2 ⟨vs,H2,I2,r2,q2⟩=>hm gE s2 σ H2 x vs v us Q I2 r1 r2 q2
end
def MtM(X:Cx)(id:String)(r:V->List V->Hp->VK->Prop):Prop:=
 ∀(gE:List (Addr×Obj)) (s:Shared) (σ:St) (H:Hp) (x:V) (xs:List V) (v:Value) (us:List Value) (Q:VK),Inv X gE σ H s->ZU x v->ZN xs us->r x xs H Q ->
  wpAny (model X.prog X.w) X.A (call (.builtin id) (v::us)) (EP X gE σ Q) X.xe s
theorem ZN.one:∀{x:V}{us:List Value},ZN [x] us->∃u,us=[u]/\ZU x u
 |_,_,.cons r .nil=>⟨_,rfl,r⟩
theorem ZN.zero:∀{us:List Value},ZN [] us->us=[]
 |_,.nil=>rfl
theorem ZN.dropLast{xs:List V}{us:List Value}(h:ZN xs us):ZN xs.dropLast us.dropLast:=by
 induction h with
 |nil=>exact .nil
 |cons r t ih=>
  cases t with
  |nil=>exact .nil
  |cons q t'=>exact .cons r ih
theorem ZN.reverse{xs:List V}{us:List Value}(h:ZN xs us):ZN xs.reverse us.reverse:=by
 induction h with
 |nil=>exact .nil
 |cons r t ih=>rw[List.reverse_cons,List.reverse_cons];exact ZN.append ih (.cons r .nil)
theorem vo{α:Type}(l:List α):l.eraseIdx (l.length-1)=l.dropLast:=by
 induction l with
 |nil=>rfl
 |cons a r ih=>
  cases r with
  |nil=>rfl
  |cons b r=>
   have e:(a::b::r).length-1=((b::r).length-1)+1:=by
    have h1:(a::b::r).length=r.length+2:=rfl;have h2:(b::r).length=r.length+1:=rfl;omega
   rw[e,List.eraseIdx_cons_succ,ih]
   all_goals rfl
section
variable{X:Cx}{gE:List (Addr×Obj)}{σ:St}{H:Hp}{s:Shared}{l b:Addr}{xs ys zs:List V}
theorem Inv.lset{its its':List Value}{n:Nat}{f:Array Value->Array Value}{t':Nat}(I:Inv X gE σ H s)(hH:H l=some (.lst xs))
  (e:s.heap.get? l=some { cls:=.type "list",data:=.seq its.toArray n }) (hf:f its.toArray=its'.toArray) (hv:ZN ys its') (hz:ys.length<=sizeLine) :
  Inv X gE σ (upd H l (.lst ys)) { s with heap:=s.heap.update l (Obj.mapSeq f),toks:=t' }:=by
 have q:=PySem.IsL.update e f;rw[hf] at q;refine I.write (x:=l) (e:=l) (by rw[hH];exact trivial) (.inl rfl) (fun b' u hb hu=>(jk s.heap (Obj.mapSeq f) (ie hb)).trans hu) ⟨_,q⟩ ?_;exact⟨hz,its',_,hv,q⟩
theorem Inv.lnew{its:List Value}{t':Nat}(I:Inv X gE σ H s)(hv:ZN ys its)(hz:ys.length<=sizeLine) :
  Inv X gE σ (upd H s.heap.objs.size (.lst ys)) { s with heap:=s.heap.push { cls:=.type "list",data:=.seq its.toArray },toks:=t' }:=
 I.laid (fun _ _ q=>iu _ q) (gY _) ⟨hz,its,0,hv,iF _ rfl⟩
theorem Inv.fresh(I:Inv X gE σ H s):H s.heap.objs.size=none:=I.hok.fresh (gY _)
theorem Inv.lstM(I:Inv X gE σ H s)(hH:H l=some (.lst xs)):xs.length<=sizeLine/\∃(its:List Value) (n:Nat),ZN xs its/\xs.length=its.length/\s.heap.get? l=some { cls:=.type "list",data:=.seq its.toArray n }:=by
 obtain⟨z,its,n,r,e⟩:=I.hok l _ hH;exact⟨z,its,n,r,r.length,e⟩
theorem xu{n:Nat}(h:n<=sizeLine):Builtin.List.listTooLong n=false:=by
 unfold Builtin.List.listTooLong;exact im (by omega)
end
section
variable{X:Cx}
inductive zS(x:V)(vs:List V)(H:Hp)(Q:VK):Prop
 |mk (l:_) (xs:_) (y:_) (h0:x=.ref l) (h1:vs=[y]) (h2:H l=some (.lst xs)) (h3:xs.length<sizeLine) (h4:Q .non (upd H l (.lst (xs++[y])))):zS x vs H Q
def yZ:V->List V->Hp->VK->Prop:=fun x vs H Q=>zS x vs H Q
theorem Yv:MtM X "list.append" yZ:=by
 intro gE s σ H x vs v us Q I rx rv h;obtain⟨l,xs,y,rfl,rfl,hH,hz,q⟩:=h;cases rx;obtain⟨u,rfl,ru⟩:=rv.one;obtain⟨z,its,n,r,hl,e⟩:=I.lstM hH;refine call_meets F.slot_list_append ⟨_,e,rfl⟩ F.entry_list_append (F.args_list_append_2 _ _) (PySem.list_append l its.toArray n u (by rw[ij];omega)) ⟨e,?_⟩;refine⟨.non,_,I.lset (its':=its++[u]) hH e (by simp) (r.append (.cons ru .nil)) ?_,rfl,q⟩;rw[hG,iY];omega
inductive zW(x:V)(vs:List V)(H:Hp)(Q:VK):Prop
 |mk (l:_) (b:_) (xs:_) (zs:_) (h0:x=.ref l) (h1:vs=[.ref b]) (h2:H l=some (.lst xs)) (h3:H b=some (.lst zs)) (h4:xs.length+zs.length<=sizeLine) (h5:Q .non (upd H l (.lst (xs++zs)))):zW x vs H Q
def rExtend:V->List V->Hp->VK->Prop:=fun x vs H Q=>zW x vs H Q
theorem mt_extend:MtM X "list.extend" rExtend:=by
 intro gE s σ H x vs v us Q I rx rv h;obtain⟨l,b,xs,zs,rfl,rfl,hH,hB,hz,q⟩:=h;cases rx;obtain⟨u,rfl,ru⟩:=rv.one;cases ru;obtain⟨z,its,n,r,hl,e⟩:=I.lstM hH;obtain⟨z2,its2,n2,r2,hl2,e2⟩:=I.lstM hB;have hsz:its.toArray.size+its2.toArray.size<=sizeLine:=by rw[ij,ij];omega
 have hlong:¬(!its.toArray.isEmpty&&Builtin.List.listTooLong (its.toArray.size+its2.toArray.size))=true:=by
  rw[xu hsz,jv];exact iy
 refine call_meets F.slot_list_extend ⟨_,e,rfl⟩ F.entry_list_extend (F.args_list_extend_2 _ _)
  (AutoSeq1.list_extend_list_list_0 l its.toArray n b its2.toArray n2 hlong (by rw[ij];omega) (by omega)) ⟨e,e2,?_⟩
 refine⟨.non,_,I.lset (its':=its++its2) hH e (by simp) (r.append r2) ?_,rfl,q⟩;rw[hG];omega
inductive rPop_R(x:V)(vs:List V)(H:Hp)(Q:VK):Prop
 |mk (l:_) (xs:_) (y:_) (h0:x=.ref l) (h1:vs=[]) (h2:H l=some (.lst xs)) (h3:xs[xs.length-1]?=some y) (h4:Q y (upd H l (.lst xs.dropLast))):rPop_R x vs H Q
def rPop:V->List V->Hp->VK->Prop:=fun x vs H Q=>rPop_R x vs H Q
theorem mt_pop:MtM X "list.pop" rPop:=by
 intro gE s σ H x vs v us Q I rx rv h;obtain⟨l,xs,y,rfl,rfl,hH,hy,q⟩:=h;cases rx;have hus:=rv.zero;subst hus;obtain⟨z,its,n,r,hl,e⟩:=I.lstM hH;obtain⟨u,hu,ru⟩:=r.get hy;have hy':its.toArray[its.toArray.size-1]?=some u:=by
  show its.toArray[its.length-1]?=some u
  rw[<- kh,<- hl];exact hu
 refine call_meets F.slot_list_pop ⟨_,e,rfl⟩ F.entry_list_pop (F.args_list_pop_1 _) (MeetsSeq.list_pop_last l its.toArray n u hy' (by rw[ij];omega)) ⟨e,?_⟩;refine⟨y,_,I.lset (its':=its.dropLast) hH e ?_ r.dropLast ?_,ru,q⟩
 ·show its.toArray.eraseIdxIfInBounds (its.toArray.size-1)=its.dropLast.toArray
  rw[ij,List.eraseIdxIfInBounds_toArray,vo]
 ·rw[ki];omega
inductive rCat_R(x:V)(y:V)(H:Hp)(Q:VK):Prop
 |mk (l:_) (b:_) (xs:_) (zs:_) (h0:x=.ref l) (h1:y=.ref b) (h2:H l=some (.lst xs)) (h3:H b=some (.lst zs)) (h4:xs.length+zs.length<=sizeLine) (h5:∀p,H p=none->Q (.ref p) (upd H p (.lst (xs++zs)))):rCat_R x y H Q
def rCat:R2:=fun x y H Q=>rCat_R x y H Q
theorem WZ:OpR X (binaryOp .Add) rCat:=by
 intro gE s σ H x y v u Q I rx ry h;obtain⟨l,b,xs,zs,rfl,rfl,hH,hB,hz,q⟩:=h;cases rx;cases ry;obtain⟨z,its,n,r,hl,e⟩:=I.lstM hH;obtain⟨z2,its2,n2,r2,hl2,e2⟩:=I.lstM hB;refine PySem.P.add_list e e2 ?_ (by rw[ij,ij];omega);have ea:its.toArray++its2.toArray=(its++its2).toArray:=by simp
 rw[ea];exact⟨.ref _,_,I.lnew (t':=s.toks) (r.append r2) (by rw[hG];omega),rfl,q _ I.fresh⟩
end
section
variable{prog:Program}{w:World}{A:Around}{E:Value->Shared->Prop}{s:Shared}
set_option maxRecDepth 100000 in
end
section
variable{X:Cx}
end
end L2
namespace Att
open PySem PySem.W PySem.Calls PyProof.Rows
theorem qg{P:Params}{h:Heap}:∀(ns:List Int) (vs:List Value),WellAll P h vs (ns.map WData.int)->IntsAre vs ns:=by
 intro ns
 induction ns with
 |nil=>
  intro vs w;rw[ip] at w;cases w;exact .nil
 |cons n ns ih=>
  intro vs w;rw[g9] at w;cases w with
  |cons a b=>
   cases a;exact .cons _ _ (ih _ b)
theorem script_of{l:OpenLaw}{n:Nat}(hn:l.most=some n){P:Params}{h:Heap}{args:List WData}{vals:List Value}
  (hpre:l.row.toRowW.claim.pre args=true) (hwl:WellAll P h vals args) :
  ∃a vs ns,vals=[Value.ref a]/\args=[WData.list (ns.map WData.int)]/\h.get? a=some { cls:=.type "list",data:=.seq vs.toArray }/\IntsAre vs ns/\ns.length<=n:=by
 have hsh:WShape.hasAll [] args [.list .int]=true:=(pre_splitW hpre).1;have hc:l.pre.holds [] { args:=args }=true:=(pre_splitW hpre).2;obtain⟨d,r,rfl,h1,h2⟩:=hasAllW_cons hsh;obtain rfl:=hasAllW_nil h2;obtain⟨xs,rfl,h3⟩:=hasW_list h1;obtain⟨ns,rfl⟩:=items_int h3;have hlen:ns.length<=n:=by
  unfold OpenLaw.pre at hc;have h4:(WTm.not (.lt (.lit (.int (n:Int))) (.len (.arg 0)))).holds [] { args:=[.list (ns.map .int)] }=true:=by
   have h4:=(holds_andW hc).1;rw[hn] at h4;exact h4
  have h5:=condW_of h4 (w_not (w_lt w_lit (w_len_list (w_arg rfl))));rw[hJ] at h5;refine Nat.le_of_not_lt fun q=>?_;have q':(n:Int)<((ns.length:Nat):Int):=by omega
  first
   | (rw[hX q'] at h5;exact absurd h5 (by decide))
   | (simp at h5;omega)
 cases hwl with
 |cons w1 w2=>
  cases w2;cases w1 with
  |list ho hall=>exact⟨_,_,ns,rfl,rfl,ho,qg ns _ hall,hlen⟩
theorem post_true(l:OpenLaw)(args:List WData):l.row.toRowW.claim.post args (.bool true) args=true:=
 postW_of (r:=l.row.toRowW) (X:=(true==true))
  (show WShape.has [] (.bool true) .bool=true by first|rfl|decide|simp[WShape.has,WShape.arms,WShape.armsAll])
  (show(WTm.eq .res (.lit (.bool true))).value [] { args:=args,res:=some (.bool true),after:=args }=some (.bool (true==true)) from w_eq_bool (w_res rfl) w_lit) rfl
theorem attach_call{l:OpenLaw}{n:Nat}{q:Program}{loose:List Str}{XP:(Str->Option Value)->Heap->Prop}{YP:World->Heap->Prop}{d:DefRec}
  (hn:l.most=some n) (hdf:d.params.defaults=[])
  (call:∀(w:World) (s₀ s₁:Shared) (mg mb:Str->Option Value) (fa:Addr) (o:Obj) (pm cd doc:Value) (a:Addr) (vs:List Value) (ns:List Int),
   Ground q loose [] XP w s₀ mg mb s₁.heap->YP w s₁.heap ->
   s₁.heap.get? fa=some o->o.data=.func (docDef d.name d.params d.body d.scope pm cd doc)->s₁.heap.CodeRec cd d.name->mg d.name=some (.ref fa) ->
   s₁.heap.get? a=some { cls:=.type "list",data:=.seq vs.toArray }->IntsAre vs ns->ns.length<=n->s₁.gens=#[] ->
   codeAny (model l.prog w) callerA (.call (.ref fa) ⟨[.ref a],[]⟩) (fun r s'=>r=.ok (.ret (.bool true))/\OldK s₁.heap s'.heap/\s'.os=s₁.os/\AllBare s'.gens) s₁) :
  WalkO q loose XP YP l.row.toRowW d [] (fun f vs=>PySem.call f vs):=by
 intro w s₀ s₁ mg mb G Y fa o pm cd doc dV kV ho hd hcd hD hmg hg args vals as hpre hlay hrd hwl hlo;obtain rfl:dV=.none:=Dflts.none hD hdf;obtain rfl:kV=.none:=Dflts.noKw hD;obtain⟨a,vs,ns,rfl,rfl,hobj,hints,hlen⟩:=script_of hn hpre hwl;refine enter_call (codeAny_mono (call w s₀ s₁ mg mb fa o pm cd doc a vs ns G Y ho (fd_plain hd) hcd hmg hobj hints hlen hg) fun r s' hq=>?_);obtain⟨rfl,h2,h3,h4⟩:=hq;exact⟨.inl ⟨.bool true,.bool true,[],rfl,fun _=>rfl,.bool true,post_true l _,fun _=>⟨List.Pairwise.nil,fun _ hm=>(nomatch hm)⟩⟩,h2,h3,h4⟩
section
variable{prog:Program}{w:World}{A:Around}{E:Value->Shared->Prop}{s:Shared}{K:Frag}
def ledger(h:Heap)(L d:Addr):List (Addr×Obj):=(List.range h.objs.size).filterMap fun a=>if a=L\/a=d then none else(h.get? a).map fun o=>(a,o)
end
end Att
namespace L2
open PySem PySem.Spec PyProof.Rows
theorem yc:∀{vs:List Value}{ns:List Int},IntsAre vs ns->ZN (ns.map V.int) vs
 |_,_,.nil=>.nil
 |_,_,.cons n t h=>.cons ⟨t,rfl⟩ (yc h)
def Only(H:Hp):Prop:=∀b,H b=none\/∃o xs,H b=some (.frz o (.lst xs))
theorem law_call{P:Program}{w:World}{K:W.Frag}{mg mb:Str->Option Value}{CX:CXT}{k:Nat}{fa a:Addr}{fd:FuncData}{x:Str}{sp:Sp}{s₁:Shared}{vs:List Value}{ns:List Int}
  (KX:K.In s₁.heap) (hns:s₁.heap.Ns mainGlobals mg) (hb:s₁.heap.Ns builtinsNs mb) (hbb:∀x:Str,x ≠ "__name__" -> mb x=bootBuiltins x) (hlim:s₁.heap.NoLimit) (hg:s₁.gens=#[])
  (ha:s₁.heap.get? a=some { cls:=.type "list",data:=.seq vs.toArray }) (hi:IntsAre vs ns) (hl:ns.length<=sizeLine) (hr:YN k callerA)
  (F:∀base:Heap,K.In base->base.Ns mainGlobals mg->Yq P w K mg base CX k fa fd [x] sp) (hbind:∀(s:Shared) (u:Value),BindsTo s fd ⟨[u],[]⟩ [(x,u)])
  (hsp:∀H:Hp,Only H->SqL K H a (ns.map V.int)->sp [.ref a] H (fun v _=>v=.bl true) fun _ _ _=>False)
  (hCX:∀H e s',CX [] H s₁ (fun _ _ _=>False) e s'->False) :
  codeAny (model P w) callerA (.call (.ref fa) ⟨[.ref a],[]⟩) (fun r s'=>r=.ok (.ret (.bool true))/\OldK s₁.heap s'.heap/\s'.os=s₁.os/\AllBare s'.gens) s₁:=by
 have rv:=yc hi;have lenV:=hi.length;have core:∀H:Hp,Only H->SqL K H a (ns.map V.int)->HOk P w H s₁.heap->(∀b,H b≠none->b=a)->(H a≠none->K.lookup a=none) ->
   codeAny (model P w) callerA (.call (.ref fa) ⟨[.ref a],[]⟩) (fun r s'=>r=.ok (.ret (.bool true))/\OldK s₁.heap s'.heap/\s'.os=s₁.os/\AllBare s'.gens) s₁:=by
  intro H hO hS hok hA hK;have base_of:∀{b:Addr}{o:Obj},s₁.heap.get? b=some o->H b=none->(hidT s₁.heap H).get? b=some o:=fun e n=>hidT_get e n;have noA:∀{b:Addr}{o:Obj}{es:Array DictEntry}{ep:Nat},s₁.heap.get? b=some o->o.data=.dict es ep->H b=none:=fun {b o es ep} e d=>by
   cases q:H b with
   |none=>rfl
   |some u=>
    have e':b=a:=hA b (by rw[q];simp);subst e';rw[ha] at e;cases e;have d':Data.seq vs.toArray _=Data.dict es ep:=d;cases d'
  have nsK:∀{b:Addr}{m:Str->Option Value},s₁.heap.Ns b m->(hidT s₁.heap H).Ns b m:=fun {b m} ⟨o,es,ep,e,d,r⟩=>⟨o,es,ep,base_of e (noA e d),d,r⟩;have hKb:K.In (hidT s₁.heap H):=fun b o e=>base_of (KX b o e) (by
   cases q:H b with
   |none=>rfl
   |some u=>
    have e':b=a:=hA b (by rw[q];simp);subst e';rw[hK (by rw[q];simp)] at e;cases e)
  have hM:Mod K mg (hidT s₁.heap H):=⟨hKb,nsK hns,⟨mb,nsK hb,hbb⟩,let ⟨mc,h1,h2⟩:=hlim; ⟨mc,nsK h1,h2⟩⟩;have e0:Env0 P w K mg (hidT s₁.heap H) callerA [] s₁ H:=⟨rfl,hM,fun b o e=>of_hidT e,Nat.le_of_eq (hidT_size _ _),trivial,fun b hb=>absurd (show b∈([]:List Addr) from hb) (by simp),hok,.of_eq hg⟩;refine codeAny_mono ((F _ hKb (nsK hns)).run callerA [] s₁ H ⟨[.ref a],[]⟩ [.ref a] [.ref a] _ _ hr e0 (hbind s₁ (.ref a)) (.cons rfl .nil) (hsp H hO hS)) fun r s' h=>?_;cases r with
  |error e=>exact(hCX H e s' h).elim
  |ok fl=>
   cases fl with
   |next=>exact False.elim h
   |brk=>exact False.elim h
   |cont=>exact False.elim h
   |ret u=>
    obtain⟨v,H',os,bare,un,hok',r',q⟩:=h;have q':v=.bl true:=q;subst q';obtain rfl:u=Value.bool true:=r';refine⟨rfl,OldK.of_keep fun b o e=>?_,os,bare⟩;cases q:H b with
    |none=>exact un.keep b o e q (by intro z;exact absurd (show b∈([]:List Addr) from z) (by simp)) (by simp)
    |some u=>
     rcases hO b with z|⟨ob,xs,z⟩
     ·rw[q] at z;cases z
     ·have z2:=un.frzs b ob _ z;obtain⟨e1,_⟩:=hok b _ z;obtain⟨e2,_⟩:=hok' b _ z2;rw[e] at e1;cases e1;exact e2
 cases hk:K.lookup a with
 |some o=>
  have e:=KX a o hk;rw[ha] at e;cases e;refine core (fun _=>none) (fun _=>.inl rfl) (.inr ⟨_,vs.toArray,_,hk,rfl,rfl,rfl,by rw[ij,lenV];exact hl,by simpa using rv⟩) (fun b u z=>by have z':(none:Option HO)=some u:=z;cases z') (fun b z=>absurd rfl z) fun z=>absurd rfl z
 |none=>
  refine core (fun b=>if b=a then some (.frz { cls:=.type "list",data:=.seq vs.toArray } (.lst (ns.map V.int))) else none) (fun b=>?_) (.inl (.inr ⟨{ cls:=.type "list",data:=.seq vs.toArray },if_pos rfl⟩)) (fun b u z=>?_) (fun b z=>?_) fun _=>hk
  ·by_cases hb:b=a
   ·exact .inr ⟨_,_,if_pos hb⟩
   ·exact .inl (if_neg hb)
  ·by_cases hb:b=a
   ·have z':=(if_pos hb).symm.trans z;cases z';subst hb;exact⟨ha,by rw[hJ];exact hl,vs,_,rv,ha⟩
   ·have z':=(if_neg hb).symm.trans z;cases z'
  ·by_cases hb:b=a
   ·exact hb
   ·exact absurd (if_neg hb) z
theorem walk_of{l:W.OpenLaw}{n k:Nat}{q:Program}{loose:List Str}{XP:(Str->Option Value)->Heap->Prop}{YP:World->Heap->Prop}{d:DefRec}{K:Params->W.Frag}{CX:World->CXT}{sp:World->Sp}{x:Str}
  (hn:l.most=some n) (hn2:n<=sizeLine) (hdf:d.params.defaults=[]) (hr:YN k callerA)
  (hY:∀(w:World) (h:Heap),YP w h->(K w.params).In h)
  (F:∀(w:World) (mg:Str->Option Value) (fa:Addr) (h:Heap),(K w.params).In h->h.Ns mainGlobals mg->mg d.name=some (.ref fa) ->
   ∃fd:FuncData,(∀(s:Shared) (u:Value),BindsTo s fd ⟨[u],[]⟩ [(x,u)]) /\
    ∀base:Heap,(K w.params).In base->base.Ns mainGlobals mg->Yq l.prog w (K w.params) mg base (CX w) k fa fd [x] (sp w))
  (hsp:∀(w:World) (H:Hp) (a:Addr) (ns:List Int),ns.length<=n->Only H->SqL (K w.params) H a (ns.map V.int)->sp w [.ref a] H (fun v _=>v=.bl true) fun _ _ _=>False)
  (hCX:∀(w:World) (H:Hp) (s:Shared) (e:Value) (s':Shared),CX w [] H s (fun _ _ _=>False) e s'->False) :
  W.WalkO q loose XP YP l.row.toRowW d [] (fun f vs=>PySem.call f vs):=by
 refine Att.attach_call hn hdf fun w s₀ s₁ mg mb fa o pm cd doc a vs ns G Y ho hd hcd hmg hobj hints hlen hg=>?_;have KX:=hY w _ Y;obtain⟨fd,hb,hF⟩:=F w mg fa _ KX G.T.g hmg;exact law_call KX G.T.g G.T.b G.T.builtins G.T.nolimit hg hobj hints (iq hlen hn2) hr hF hb (fun H hO hS=>hsp w H a ns hlen hO hS) fun H e s'=>hCX w H s₁ e s'
def XF(s:Stmt)(j:Nat):Stmt:=match s with
 |.ClassDef _ _ _ body _ _ _ _ _ _ _=>body.getD j (.Pass ⟨0,0,0,0⟩)
 |_=>.Pass ⟨0,0,0,0⟩
def ZG(s:Stmt):Arguments:=match s with
 |.FunctionDef _ a _ _ _ _ _ _ _ _=>a
 |_=>{ posonlyargs:=[],args:=[],vararg:=none,kwonlyargs:=[],kw_defaults:=[],kwarg:=none,defaults:=[] }
def ZC(s:Stmt):List Stmt:=match s with
 |.FunctionDef _ _ b _ _ _ _ _ _ _=>b
 |_=>[]
def Zi(s:Stmt):Scope:=match s with
 |.FunctionDef _ _ _ _ _ _ sc _ _ _=>sc
 |_=>{ kind:=.function,names:=[],isGenerator:=false,isCoroutine:=false }
abbrev CX0:CXT:=fun _ _ _ _ _ _=>False
abbrev E0:XK:=fun _ _ _=>False
theorem Zw{X:Cx}:VU CX0 X E0:=fun _ _ _ _ _ _ _ h=>h.elim
structure Fun(K:W.Frag)(x qual:Str)(st:Stmt)(f:Addr)(fd:FuncData):Prop where
 ex:∃(oc:Value) (od:Option Addr) (kV doc pm:Value) (an:Option Addr) (gF ct:Value) (osl:Array (Option Value)),
  fd=W.fnOf x qual (ZG st) (ZC st) (Zi st) .none kV doc pm an gF ct/\K.lookup f=some ⟨oc,od,.func fd,osl⟩/\W.codeIn K gF qual=true
 kp:W.keepIn K (.ref f)=true
section
variable{P:Program}{w:World}{K:W.Frag}{mg:Str->Option Value}{base:Heap}
theorem Fun.ok{x qual:Str}{st:Stmt}{f:Addr}{fd:FuncData}{N ps:List Str}{k:Nat}{sp:Sp}(F:Fun K x qual st f fd)(S:ZH N ps (Zi st))(len:∀vs H Q E,sp vs H Q E->vs.length=ps.length)
  (hbody:∀(gF:Value) (A:Around) (outer:List Env) (s:Shared) (H:Hp) (vs:List V) (Q:VK) (E:XK),YN k (A.deeper (envOfC qual (Zi st) s.heap.objs.size f gF))->sp vs H Q E ->
   ∃t,PSs (UU CX0 P w K mg base N qual (Zi st) f gF A outer s H E).nox (ZC st) t/\t { nx:=fun _ H'=>Q .non H',rt:=Q } (Ur N vs) H):Yq P w K mg base CX0 (k+1) f fd ps sp:=by
 obtain⟨oc,od,kV,doc,pm,an,gF,ct,osl,rfl,lk,hcd⟩:=F.ex;refine fn_of lk hcd S len fun A outer s H vs Q E hr hsp=>?_;obtain⟨t,h,q⟩:=hbody gF A outer s H vs Q E hr hsp;exact⟨t,h.nox,q⟩
theorem Fun.binds{x qual:Str}{st:Stmt}{f:Addr}{fd:FuncData}{ps:List Str}(F:Fun K x qual st f fd)
  (h:∀(kV doc pm:Value) (an:Option Addr) (gF ct:Value) (us:List Value),us.length=ps.length->bindArgs (W.fnOf x qual (ZG st) (ZC st) (Zi st) .none kV doc pm an gF ct) ⟨us,[]⟩=pure (ps.zip us)):ZV K fd ps []:=by
 obtain⟨oc,od,kV,doc,pm,an,gF,ct,osl,rfl,lk,hcd⟩:=F.ex;exact .all (h kV doc pm an gF ct)
theorem Zu{x qual:Str}{st:Stmt}{f:Addr}{oc:Value}{od an:Option Addr}{osl:Array (Option Value)}{kV doc pm gF ct:Value}(l:K.lookup f=some ⟨oc,od,.func (W.fnOf x qual (ZG st) (ZC st) (Zi st) .none kV doc pm an gF ct),osl⟩)
  (c:W.codeIn K gF qual=true) (k:W.keepIn K (.ref f)=true):Fun K x qual st f (W.fnOf x qual (ZG st) (ZC st) (Zi st) .none kV doc pm an gF ct):=⟨⟨oc,od,kV,doc,pm,an,gF,ct,osl,rfl,l,c⟩,k⟩
end
section
variable{X:Cx}
theorem pv(i:Nat){x:Str}{pos:Pos}(hN:X.N[i]?=some x:=by rfl)(hv:Vis X.env.scope x:=by first|exact Or.inl rfl|exact Or.inr (Or.inl rfl)|exact Or.inr (Or.inr rfl))(hd:(x==("__debug__" : Str))=false:=by decide)
  (hcd:(x==("__classdict__" : Str))=false:=by decide):PE X (.Name x pos) (qe i):=pe_var hN hv hd hcd
end
theorem Yi{A B:Prop}(h:B):if false=true then A else B:=by
 rw[if_neg iy];exact h
theorem Xh{A B:Prop}(h:A):if true=true then A else B:=by
 rw[if_pos rfl];exact h
theorem Xv{c A B:Prop}[Decidable c](h1:c->A)(h2:¬c->B):if c then A else B:=by
 by_cases h:c
 ·rw[if_pos h];exact h1 h
 ·rw[if_neg h];exact h2 h
def Za(H H':Hp):Prop:=∀b o,H b=some o->H' b=some o
theorem Za.refl(H:Hp):Za H H:=fun _ _ h=>h
theorem Za.trans{H H1 H2:Hp}(a:Za H H1)(b:Za H1 H2):Za H H2:=fun c o h=>b c o (a c o h)
theorem Za.free{H H':Hp}(e:Za H H'){l:Addr}(h:H' l=Option.none):H l=Option.none:=by
 cases q:H l with
 |none=>rfl
 |some o=>
  rw[e l o q] at h;cases h
theorem Za.seq{K:W.Frag}{H H':Hp}{a:Addr}{xs:List V}(e:Za H H')(h:SqL K H a xs):SqL K H' a xs:=by
 rcases h with(h|⟨o,h⟩)|h
 ·exact .inl (.inl (e _ _ h))
 ·exact .inl (.inr ⟨o,e _ _ h⟩)
 ·exact .inr h
end L2
set_option maxHeartbeats 8000000
namespace L3
open PySem PySem.Spec PyProof.Rows L2
abbrev St:=L2.St
def sub(ix:List (Option Nat))(σ:St):St:=ix.map fun o=>o.bind fun j=>(σ[j]?).join
theorem thnF{α:Type}{t:Sem α}{Q Q':α->Shared->Prop}{M:Model}{A:Around}{E:Value->Shared->Prop}{s:Shared}(h:wpAny M A t Q (fun _ _=>False) s)(hQ:∀a s,Q a s->Q' a s):wpAny M A t Q' E s:=
 i4 h hQ fun _ _ z=>z.elim
def PTs(X:Cx)(ifs:List Expr)(t:TT):Prop:=
 ∀(gE:List (Addr×Obj)) (s:Shared) (σ:St) (H:Hp) (Q:Bool->Hp->Prop),Inv X gE σ H s->t σ H Q ->
  wpAny (model X.prog X.w) X.A (forIn ifs true fun c r=>if r=true then do let ok <- isTrue c X.env (eval c X.env);pure (ForInStep.yield ok) else pure (ForInStep.yield r)) (TP X gE σ Q) X.xe s
def zZ:TT:=fun _ H Q=>Q true H
theorem WB{X:Cx}:PTs X [] zZ:=fun _ _ _ H _ I h=>wpAny_tests_nil ⟨H,I,h⟩
theorem pts_one{X:Cx}{c:Expr}{t:TT}(h:PT X c t):PTs X [c] t:=fun gE s σ H Q I q=>wpAny_tests_one (h gE s σ H Q I q)
def XM(scope:Scope)(env:Env):List (Str×Addr):=(scope.names.filter fun y=>y.2==.free).reverse.map fun y=>(y.1,(env.cells.lookup y.1).getD 0)
theorem clos_loop{env:Env}:∀(ns:List (Str×NameKind)) (acc:List (Str×Addr)),(∀y∈ns,y.2=.free->(env.cells.lookup y.1).isSome=true) ->
  (forIn ns acc fun(x:Str×NameKind) (r:List (Str×Addr))=>if x.2==.free then do let a <- cellOf env x.1;pure (ForInStep.yield ((x.1,a)::r)) else pure (ForInStep.yield r):Sem (List (Str×Addr))) =
   pure ((ns.filter fun y=>y.2==.free).reverse.map (fun y=>(y.1,(env.cells.lookup y.1).getD 0))++acc):=by
 intro ns
 induction ns with
 |nil=>intro acc _;rfl
 |cons y r ih=>
  intro acc h;have hr:∀z∈r,z.2=.free->(env.cells.lookup z.1).isSome=true:=fun z hz=>h z (hU _ hz);rw[jF]
  by_cases hf:(y.2==NameKind.free)=true
  ·have hs:=h y jN (by simpa using hf);obtain⟨c,hc⟩:=kT.mp hs;have e1:cellOf env y.1=pure c:=by unfold cellOf;rw[hc]
   rw[if_pos hf,e1,pure_bind,pure_bind];refine(ih _ hr).trans ?_;rw[kW (by simpa using hf),List.reverse_cons,iZ];simp[hc]
  ·rw[if_neg hf,pure_bind];refine(ih _ hr).trans ?_;rw[kX (by simpa using hf)]
theorem clos_eq{scope:Scope}{env:Env}(h:∀y∈scope.names,y.2=.free->(env.cells.lookup y.1).isSome=true):closureFor scope env=pure (XM scope env):=by
 have e:=clos_loop (env:=env) scope.names [] h;rw[iQ] at e;unfold closureFor;rw[show XM scope env=(scope.names.filter fun y=>y.2==.free).reverse.map (fun y=>(y.1,(env.cells.lookup y.1).getD 0)) from rfl];rw[<- pure_bind (m:=Sem) ((scope.names.filter fun y=>y.2==.free).reverse.map (fun y=>(y.1,(env.cells.lookup y.1).getD 0))) pure,<- e]
theorem WW{β:Type}(f:Str->β):∀(l:List (Str×NameKind)) (x:Str),(l.map fun y=>(y.1,f y.1)).lookup x=if x∈l.map (·.1) then some (f x) else none
 |[],x=>by simp
 |y::r,x=>by
  rw[g9,ir,WW f r x]
  by_cases e:x=y.1
  ·subst e;simp
  ·have hb:(x==y.1)=false:=by simpa using e
   rw[hb]
   by_cases hm:x∈r.map (·.1)
   ·rw[if_pos hm,if_pos (by rw[g9];exact hU _ hm)]
   ·rw[if_neg hm,if_neg (by rw[g9];intro z;rcases ic.mp z with z|z;exact e z;exact hm z)]
theorem XW{scope:Scope}{env:Env}{x:Str}{c:Addr}(h:∀y∈scope.names,y.2=.free->(env.cells.lookup y.1).isSome=true)(e:(XM scope env).lookup x=some c):env.cells.lookup x=some c:=by
 unfold XM at e;rw[WW (fun z=>(env.cells.lookup z).getD 0)] at e
 split at e
 ·rename_i hx
  obtain⟨y,hy,rfl⟩:=ik.mp hx;obtain⟨h1,h2⟩:=jB.mp (List.mem_reverse.mp hy);obtain⟨d,hd⟩:=kT.mp (h y h1 (by simpa using h2));have e':=iB e;rw[hd] at e' ⊢;exact io some e'
 ·cases e
theorem q0{scope:Scope}{env:Env}{x:Str}(hx:(x,NameKind.free)∈scope.names):∃c,(XM scope env).lookup x=some c:=by
 unfold XM;rw[WW (fun z=>(env.cells.lookup z).getD 0),if_pos]
 ·exact⟨_,rfl⟩
 ·exact ik.mpr ⟨(x,.free),List.mem_reverse.mpr (jB.mpr ⟨hx,by simp⟩),rfl⟩
theorem Uq{env:Env}:∀{names:List (Str×NameKind)}{x:Str}{k:NameKind},
  (names.map fun(n,k)=>if(k==NameKind.free&&env.scope.kind==.function&&env.kindOf n==some .cell) then(n,NameKind.cell) else(n,k)).lookup x=some k ->
   names.lookup x=some k\/(k=.cell/\names.lookup x=some .free)
 |[],_,_,h=>by simp at h
 | (n,k0)::r,x,k,h=>by
  rw[g9] at h;dsimp only at h;cases hx:x==n with
  |true=>
   by_cases hc:(k0==NameKind.free&&env.scope.kind==.function&&env.kindOf n==some .cell)=true
   ·rw[if_pos hc] at h;simp only[ir,hx] at h ⊢;have:k0=.free:=by
     have h1:=(iN _ _▸((iN _ _▸hc).1)).1;simpa using h1
    exact .inr ⟨(iB h).symm,by rw[this]⟩
   ·rw[if_neg hc] at h;simp only[ir,hx] at h ⊢;exact .inl h
  |false=>
   have h':(r.map fun(n,k)=>if(k==NameKind.free&&env.scope.kind==.function&&env.kindOf n==some .cell) then(n,NameKind.cell) else(n,k)).lookup x=some k:=by
    by_cases hc:(k0==NameKind.free&&env.scope.kind==.function&&env.kindOf n==some .cell)=true
    ·rw[if_pos hc] at h;simpa only[ir,hx] using h
    ·rw[if_neg hc] at h;simpa only[ir,hx] using h
   simp only[ir,hx];exact Uq h'
theorem Uj{env:Env}:∀{names:List (Str×NameKind)}{x:Str},names.lookup x=some .free ->
  (names.map fun(n,k)=>if(k==NameKind.free&&env.scope.kind==.function&&env.kindOf n==some .cell) then(n,NameKind.cell) else(n,k)).lookup x=some .cell \/
  (names.map fun(n,k)=>if(k==NameKind.free&&env.scope.kind==.function&&env.kindOf n==some .cell) then(n,NameKind.cell) else(n,k)).lookup x=some .free
 |[],_,h=>by simp at h
 | (n,k0)::r,x,h=>by
  rw[g9];dsimp only;cases hx:x==n with
  |true=>
   simp only[ir,hx] at h;have e:k0=.free:=iB h
   by_cases hc:(k0==NameKind.free&&env.scope.kind==.function&&env.kindOf n==some .cell)=true
   ·rw[if_pos hc];exact .inl (by simp only[ir,hx])
   ·rw[if_neg hc];exact .inr (by simp only[ir,hx];rw[e])
  |false=>
   simp only[ir,hx] at h;have ih:=Uj (env:=env) h
   by_cases hc:(k0==NameKind.free&&env.scope.kind==.function&&env.kindOf n==some .cell)=true
   ·rw[if_pos hc];simpa only[ir,hx] using ih
   ·rw[if_neg hc];simpa only[ir,hx] using ih
structure YJ(sc:Scope)(N Nc:List Str)(ix:List (Option Nat))(scope:Scope):Prop where
 kind:scope.kind=.function
 nocell:∀y∈scope.names,y.2≠.cell
 names:∀y∈scope.names,y.2=.local->scope.names.lookup y.1=some .local
 free:∀y∈scope.names,y.2=.free->sc.names.lookup y.1=some .cell\/sc.names.lookup y.1=some .free
 len:ix.length=Nc.length
 chk:((ix.zip Nc).all fun p=>match p.1 with|none=>true|some j=>N[j]?==some p.2&&scope.names.lookup p.2==some .free)=true
theorem YJ.at_{sc:Scope}{N Nc:List Str}{ix:List (Option Nat)}{scope:Scope}(o:YJ sc N Nc ix scope){i j:Nat}{x:Str}(h1:ix[i]?=some (some j))(h2:Nc[i]?=some x):N[j]?=some x/\scope.names.lookup x=some .free:=by
 have hm:(some j,x)∈ix.zip Nc:=by
  refine iO (i:=i) ?_;rw[jG];exact⟨h1,h2⟩
 have q:=jl.mp o.chk _ hm;have q':=iN _ _▸q;exact⟨by simpa using q'.1,by simpa using q'.2⟩
def YC(X:Cx)(Nc:List Str)(scope:Scope)(cl:List (Str×Addr))(C:Addr)(s:Shared)(H:Hp)(fp:List Addr):Cx where
 prog:=X.prog
 w:=X.w
 K:=X.K
 mg:=X.mg
 base:=X.base
 A:=X.A
 N:=Nc
 s₀:=s
 H₀:=H
 env:=compEnvC scope cl C X.env
 outer:=X.stack
 stack:=X.stack
 ex:=fp
 fn:=fun x=>(cl.lookup x).isNone
 calm:=X.calm
 pn:=X.pn
 xe:=fun _ _=>False
section
variable{X:Cx}{gE:List (Addr×Obj)}{σ:St}{H:Hp}{s:Shared}{Nc:List Str}{ix:List (Option Nat)}{scope:Scope}
theorem UV(I:Inv X gE σ H s)(ok:YJ X.env.scope X.N Nc ix scope):∀y∈scope.names,y.2=.free->(X.env.cells.lookup y.1).isSome=true:=fun y hy hf=>by
 obtain⟨c,hc⟩:=I.ok.has y.1 (ok.free y hy hf);rw[hc];rfl
theorem vp{fp:List Addr}{h1:Heap}{t':Nat}(I:Inv X gE σ H s)(ok:YJ X.env.scope X.N Nc ix scope)(hf:∀b∈fp,VY X gE H b)(hob:∀b∈fp,∃o,s.heap.get? b=some o)
  {m:Str->Option Value} (hn:h1.Ns s.heap.objs.size m) (hk:∀b o,s.heap.get? b=some o->h1.get? b=some o) :
  Inv (YC X Nc scope (XM scope X.env) s.heap.objs.size s H fp) gE (sub ix σ) H { s with heap:=h1,toks:=t' }:=by
 have ac:=UV I ok;have old:∀{b:Addr}{o:Obj},s.heap.get? b=some o->b≠s.heap.objs.size:=fun e=>iC (ii e);refine⟨⟨I.ok.mod,?_,I.ok.glob,I.ok.blt,gY _,?_,?_,?_,I.ok.hd,I.ok.frames,.inl rfl,?_,I.bs,iq I.ok.bsz I.sz,?_,?_,I.stack,I.stkFree⟩,rfl,I.bare,Un.kept hk,⟨m,hn,?_⟩,?_,?_,?_,?_,I.hok.kept hk,?_⟩
 ·exact ok.kind
 ·intro x y c e1 e2;exact I.ok.inj x y c (XW ac e1) (XW ac e2)
 ·intro x hx;have key:∀k,(relabel scope X.env).names.lookup x=some k->(k=.cell\/k=.free)->∃c,(XM scope X.env).lookup x=some c:=fun k e hkk=>by
   rcases Uq e with q|⟨_,q⟩
   ·rcases hkk with rfl|rfl
    ·exact absurd rfl (ok.nocell _ (i9 q))
    ·exact q0 (i9 q)
   ·exact q0 (i9 q)
  rcases hx with e|e
  ·exact key _ e (.inl rfl)
  ·exact key _ e (.inr rfl)
 ·intro x c hfn e;have e':(XM scope X.env).lookup x=some c:=e;have hfn':((XM scope X.env).lookup x).isNone=true:=hfn;rw[e'] at hfn';cases hfn'
 ·intro b hb;obtain⟨o,e⟩:=hob b hb;obtain⟨f0,f1,f2,f3,f4,f5⟩:=hf b hb;exact⟨old e,fun x c q=>f4 x c (XW ac q)⟩
 ·intro b o e hb;obtain⟨f0,f1,f2,f3,f4,f5⟩:=hf b hb;rcases f3 with z|z
  ·exact I.ok.noex b o e z
  ·exact absurd (iP (iP (ii e) I.ok.bsz) z) (jA _)
 ·intro b hb hz;obtain⟨f0,f1,f2,f3,f4,f5⟩:=hf b hb;rcases ic.mp (I.stkSub b hz) with z|z
  ·exact f1 z
  ·exact f2 z
 ·intro i x v e1 e2 e3;have e1:Nc[i]?=some x:=e1;unfold sub at e2;rw[iJ] at e2;cases hi:ix[i]? with
  |none=>rw[hi] at e2;cases e2
  |some o=>
   cases o with
   |none=>rw[hi] at e2;cases e2
   |some j=>
    obtain⟨hN,hfree⟩:=ok.at_ hi e1;have e4:σ[j]?=some (some v):=by
     rw[hi] at e2;have e2':some ((σ[j]?).join)=some (some v):=e2;have e5:=iB e2';cases hj:σ[j]? with
     |none=>rw[hj] at e5;cases e5
     |some z=>rw[hj] at e5;exact io some e5
    have hvis:Vis X.env.scope x:=by
     rcases ok.free (x,.free) (i9 hfree) rfl with q|q
     ·exact .inr (.inl q)
     ·exact .inr (.inr q)
    obtain⟨m0,hn0,hl⟩:=I.loc;obtain⟨u,r,lk⟩:=hl j x v hN e4 hvis;refine⟨u,r,.inr ⟨Uj hfree,?_⟩⟩;rcases lk with⟨q,_⟩|⟨_,c,hc,z⟩
    ·rcases ok.free (x,.free) (i9 hfree) rfl with q2|q2
     ·exact absurd (q.symm.trans q2) (by decide)
     ·exact absurd (q.symm.trans q2) (by decide)
    ·obtain⟨d,hd⟩:=q0 (env:=X.env) (i9 hfree);have:=XW ac hd;rw[hc] at this;cases this;obtain⟨oc,e5,e6⟩:=z;exact⟨c,hd,oc,hk c oc e5,e6⟩
 ·intro x c e;obtain⟨v,oc,e5,e6⟩:=I.cell x c (XW ac e);exact⟨v,oc,hk c oc e5,e6⟩
 ·exact I.hok.fresh (gY _)
 ·intro x c e;exact I.freeC x c (XW ac e)
 ·intro p hp;obtain⟨e,n,ne,nf,d⟩:=I.pin p hp;refine⟨hk _ _ e,n,old e,fun z=>?_,d⟩;rcases ic.mp (I.stkSub p.1 z) with q|q
  ·exact ne q
  ·exact nf q
 ·unfold sub;rw[hJ];exact ok.len
theorem comp_end{fp:List Addr}{cl:List (Str×Addr)}{C:Addr}{σ':St}{H':Hp}{s':Shared}{h':Heap}(I:Inv X gE σ H s)(hf:∀b∈fp,VY X gE H b)(hC:s.heap.get? C=none)
  (J:Inv (YC X Nc scope cl C s H fp) gE σ' H' s') (sb:Heap.SameBut C s'.heap h'):Inv X gE σ H' { s' with heap:=h' }:=by
 have u:Un (frs X.stack) fp H H' s.heap s'.heap:=J.base;have hCf:H' C=none:=J.free;have hCn:∀{b:Addr}{o:Obj},s.heap.get? b=some o->b≠C:=fun e z=>by rw[z,hC] at e;cases e
 refine I.call' (s':={ s' with heap:=h' }) (ch:=fp) J.os ⟨fun b o e n h1 h2=>?_,fun b o e n h1 h2=>?_,u.free,fun b o e h2=>?_,u.tups,u.frzs,u.tbls⟩ ?_ J.bare fun b hb=>?_
 ·exact(sb.2 b (hCn e)).trans (u.keep b o e n h1 h2)
 ·obtain⟨sl,q⟩:=u.slot b o e n h1 h2;exact⟨sl,(sb.2 b (hCn e)).trans q⟩
 ·obtain⟨o',q⟩:=u.there b o e h2;exact⟨o',(sb.2 b (hCn e)).trans q⟩
 ·intro b o e;refine(J.hok b o e).stay (fun c v hc q=>(sb.2 c ?_).trans q) (fun _ q=>q) fun _ _ q=>q;rintro rfl;rcases hc with z|z
  ·rw[<- z,hCf] at e;cases e
  ·rw[hCf] at z;cases z
 ·obtain⟨f0,f1,f2,f3,f4,f5⟩:=hf b hb;exact⟨f3,f1,f4,f5⟩
end
section
variable{prog:Program}{w:World}{A:Around}{E:Value->Shared->Prop}{R:Result->Shared->Prop}
set_option maxHeartbeats 8000000 in
end
def SetN(a:Addr)(n:Nat):HO:=.ext fun h=>∃o es ep t,h.get? a=some o/\o.ExactSet/\o.data=.set es ep t/\t.fits es.size=true/\es.size=n
section
variable{X:Cx}
theorem call_lenS:YS X (.builtin "len") (fun xs H Q=>∃a n,xs=[.ref a]/\H a=some (SetN a n)/\n<4000/\Q (.int n) H):=by
 intro gE s σ H xs us Q I r h;obtain⟨a,n,rfl,ha,hn,q⟩:=h;obtain⟨u,rfl,ru⟩:=WN r;obtain rfl:u=Value.ref a:=ru;obtain⟨⟨o,es,ep,t,e1,e2,e3,e4,e5⟩,_⟩:=I.hok a _ ha;refine call_len_set e1 e2 e3 e4 (by omega) ?_;exact⟨.int n,H,I.tok _,⟨_,by rw[e5]⟩,q⟩
end
theorem zh:∀{bs:List Bool}{us:List Value},ZN (bs.map V.bl) us->∀(i:Nat) v,us[i]?=some v->∃b,bs[i]?=some b/\v=.bool b
 |[],_,.nil,i,v,h=>by simp at h
 |b::r,_,.cons a c,0,v,h=>by simp at h;subst h;exact⟨b,rfl,a⟩
 |b::r,_,.cons a c,i+1,v,h=>by
  obtain⟨b',e,q⟩:=zh c i v (by simpa using h);exact⟨b',by simpa using e,q⟩
section
variable{X:Cx}
theorem range_all{bs:List Bool}:((List.range bs.length).all fun i=>(bs[i]?).getD true)=bs.all id:=by
 induction bs with
 |nil=>rfl
 |cons b r ih=>
  rw[iA,List.range_succ_eq_map,kg,kj,kg,<- ih];rfl
theorem call_all(hc:X.calm=true):YS X (.builtin "all") (fun xs H Q=>∃(p:Addr) (bs:List Bool),xs=[.ref p]/\SqL X.K H p (bs.map V.bl)/\Q (.bl (bs.all id)) H):=by
 intro gE s σ H xs us Q I r h;obtain⟨p,bs,rfl,hq,q⟩:=h;obtain⟨u,rfl,ru⟩:=WN r;obtain rfl:u=Value.ref p:=ru;obtain⟨its,rv,pl,hz⟩:=I.list hq;have el:=rv.length;rw[hJ] at el;have hlt:p<s.heap.objs.size:=by obtain⟨_,e,_⟩:=pl.isList;exact ii e
 refine call_all_walk (wpAny_pyIter_list pl.isList ?_);refine⟨s.heap.objs.size,[s.heap.objs.size,p],[s.heap.objs.size],its.toArray.size,_,_,fun i=>(bs[i]?).getD true,rfl,Walks.list (A:=X.A.in1) (by simpa using I.ok.hd hc) _ p (iC hlt) its.toArray,
  ⟨⟨_,iF _ rfl,rfl,rfl⟩,pl.isList.push _⟩,fun i v s' Q' E' hP hQ=>?_,fun h' tk hk=>?_⟩
 ·obtain⟨b,e,rfl⟩:=zh rv i v (by simpa using hP);simp only[e,Option.getD_some] at hQ;exact i5 hQ
 ·rw[ij,<- el,range_all];exact⟨.bl _,H,I.kept fun b o e=>hk b o (by simpa using iC (ii e)) (iu _ e),rfl,q⟩
def upTo(n:Int):List Int:=(List.range n.toNat).map fun(k:Nat)=>(k:Int)
theorem vV{its:List Value}{n:Nat}{lo:Int}(h:ItemsOf (fun i v=>∃t,v=.int (lo+i*1) t) its.toArray n):ZN ((List.range n).map fun(k:Nat)=>V.int (lo+(k:Int))) its:=by
 obtain⟨h1,h2⟩:=h;rw[ij] at h1
 induction its generalizing n lo with
 |nil=>simp at h1;subst h1;exact .nil
 |cons u r ih=>
  cases n with
  |zero=>simp at h1
  |succ n=>
   rw[List.range_succ_eq_map,g9,iw];obtain⟨t,e⟩:=h2 0 u (by simp);refine .cons ⟨t,by rw[e];simp⟩ ?_;have:=ih (n:=n) (lo:=lo+1) (by simpa using h1) (fun j v hj=>by
    obtain⟨t,e⟩:=h2 (j+1) v (by simpa using hj);exact⟨t,by rw[e];congr 1;push_cast;omega⟩)
   refine(show ZN _ r from ?_);have e2:(List.range n).map (fun(k:Nat)=>V.int (lo+1+(k:Int)))=(List.range n).map ((fun(k:Nat)=>V.int (lo+(k:Int)))∘Nat.succ):=by
    apply jb;intro k _;simp only[Function.comp]
    congr 1
    push_cast
    omega
   rw[<- e2];exact this
theorem zz(hc:X.calm=true):YS X (.type "list") (fun xs H Q=>∃(p:Addr) (j:Int),xs=[.ref p]/\H p=some (.rng 0 j)/\0<=j/\j<=1000000/\∀l,H l=none->Q (.ref l) (upd H l (.lst ((upTo j).map V.int)))):=by
 intro gE s σ H xs us Q I r h;obtain⟨p,j,rfl,hp,h0,h1,q⟩:=h;obtain⟨u,rfl,ru⟩:=WN r;obtain rfl:u=Value.ref p:=ru;obtain⟨t,u,v,e⟩:=I.hok p _ hp;refine call_list_range (a:=0) (b:=j) (c:=1) (n:=j.toNat) (I.ok.hd hc) e (small_one (by omega) (by omega) (by omega) (by omega)) (by rw[rangeSize_one];split<;>omega) (by omega) fun h' tk acc c' hk he hi=>?_;have hv:ZN ((upTo j).map V.int) acc.toList:=by
  have:=vV (its:=acc.toList) (n:=j.toNat) (lo:=0) (by simpa using hi);unfold upTo;rw[iw];have e2:(List.range j.toNat).map (fun(k:Nat)=>V.int (0+(k:Int)))=(List.range j.toNat).map (V.int∘fun(k:Nat)=>(k:Int)):=by
   apply jb;intro k _;simp
  rw[<- e2];exact this
 have hz:((upTo j).map V.int).length<=sizeLine:=by unfold upTo;rw[hJ,hJ,List.length_range,gU];omega
 exact⟨.ref s.heap.objs.size,_,I.laid (o:=.lst ((upTo j).map V.int)) hk (gY _) ⟨hz,acc.toList,c',hv,by simpa using he⟩,rfl,q _ (I.hok.fresh (gY _))⟩
def tRev(K:W.Frag)(te:TE)(ts:TO):TE:=fun σ H Q=>te σ H fun x H1=>ts σ H1 fun k H2=>∃a xs,x=.ref a/\k=some (-1)/\SqL K H2 a xs/\∀p,H2 p=none->Q (.ref p) (upd H2 p (.lst xs.reverse))
theorem pe_rev{e st:Expr}{te:TE}{ts:TO}{pos p2:Pos}(he:PE X e te)(hs:PO X (some st) ts):PE X (.Subscript e (.Slice none none (some st) p2) pos) (tRev X.K te ts):=by
 intro gE s σ H Q I h;refine Subscript_ (thn (he gE s σ H _ I h) fun v s1 ⟨x,H1,I1,r1,q1⟩=>?_);refine wpAny_Slice ?_;rw[evalPart_none];refine gX (gX (thn (hs gE s1 σ H1 _ I1 q1) fun vk s3 ⟨k,H3,I3,pk,q3⟩=>?_));obtain⟨a,xs,rfl,rfl,hq,q⟩:=q3;obtain rfl:v=Value.ref a:=r1;obtain⟨its,r,ht,hz⟩:=I3.list hq;have hlen:=r.length;have I4:Inv X gE σ H3 { s3 with heap:=s3.heap.push { cls:=.type "slice",data:=.fields #[.none,.none,vk] } }:=I3.kept (t':=s3.toks) fun b ob q=>iu _ q;obtain⟨its4,r4,ht4,hz4⟩:=I4.list hq;have hlen4:=r4.length
 show wpAny (model X.prog X.w) X.A (subscriptTail e (.Slice none none (some st) p2) (.ref a) (.ref s3.heap.objs.size)) (EP X gE σ Q) X.xe { s3 with heap:=s3.heap.push { cls:=.type "slice",data:=.fields #[.none,.none,vk] } }
 refine tail_any (ops:=[.ref a,.ref s3.heap.objs.size]) ht4.isList.typeIs slot_list_getitem.lookup ?_ (by with_unfolding_all rfl);refine wpAny_getItem_list_slice ht4.isList (Heap.IsSliceOf.new ..) .none .none pk (by simp) ?_ (by rw[ij]<;>omega);rw[W.krv_pick];refine⟨.ref _,_,I4.laid (t':=s3.toks) (o:=.lst xs.reverse) (fun b ob q=>iu _ q) (gY _) ?_,rfl,q _ (I4.hok.fresh (gY _))⟩;exact⟨by rw[kG];exact hz,its4.reverse,0,r4.reverse,iF _ rfl⟩
end
mutual
inductive Dp(K:W.Frag)(H:Hp):V->PyData->Prop
 |non:Dp K H .non .none
 |bl (b):Dp K H (.bl b) (.bool b)
 |int (i):Dp K H (.int i) (.int i)
 |str (x):Dp K H (.str x) (.str x)
 |lst {a xs ds}:SqL K H a xs->Vc K H xs ds->Dp K H (.ref a) (.list ds)
 |tup {a xs ds}:SqT K H a xs->Vc K H xs ds->Dp K H (.ref a) (.tuple ds)
inductive Vc(K:W.Frag)(H:Hp):List V->List PyData->Prop
 |nil:Vc K H [] []
 |cons {v d vs ds}:Dp K H v d->Vc K H vs ds->Vc K H (v::vs) (d::ds)
end
section
variable{X:Cx}{gE:List (Addr×Obj)}{σ:St}{H:Hp}{s:Shared}
mutual
theorem Dp.reads(I:Inv X gE σ H s):∀{v:V}{d:PyData}{u:Value},Dp X.K H v d->ZU v u->∃as,Reads s.heap u d as
 |_,_,u,.non,r=>by cases (show u=Value.none from r);exact⟨_,.none⟩
 |_,_,u,.bl b,r=>by cases (show u=Value.bool b from r);exact⟨_,.bool b⟩
 |_,_,u,.int i,r=>by obtain⟨t,e⟩:=(show ∃t,u=Value.int i t from r);cases e;exact⟨_,.int i t⟩
 |_,_,u,.str x,r=>by obtain⟨t,e⟩:=(show ∃t,u=Value.str x t from r);cases e;exact⟨_,.str x t⟩
 |_,_,u,.lst (a:=a) h hs,r=>by
  cases (show u=Value.ref a from r);obtain⟨its,rv,pl,_⟩:=I.list h;obtain⟨o,ho,hc,n,hd⟩:=pl.isList;obtain⟨as,q⟩:=Vc.reads I hs rv;exact⟨_,.list ho hc hd (by simpa using q)⟩
 |_,_,u,.tup (a:=a) h hs,r=>by
  cases (show u=Value.ref a from r);obtain⟨its,rv,⟨o,ho,hc,n,hd⟩,_⟩:=I.tuple h;obtain⟨as,q⟩:=Vc.reads I hs rv;exact⟨_,.tuple ho hc hd (by simpa using q)⟩
theorem Vc.reads(I:Inv X gE σ H s):∀{vs:List V}{ds:List PyData}{us:List Value},Vc X.K H vs ds->ZN vs us->∃as,ReadsAll s.heap us ds as
 |_,_,_,.nil,.nil=>⟨_,.nil⟩
 |_,_,_,.cons h hs,.cons r rs=>by
  obtain⟨as,a⟩:=h.reads I r;obtain⟨bs,b⟩:=hs.reads I rs;exact⟨_,.cons a b⟩
end
inductive rEqD_R(K:W.Frag)(neg:Bool)(x:V)(y:V)(H:Hp)(Q:VK):Prop
 |mk (d:_) (e:_) (h0:Dp K H x d) (h1:Dp K H y e) (h2:d.canLay0=true) (h3:e.canLay0=true) (h4:d.depth<=60) (h5:Q (.bl (if neg then !PyData.eqv d e else PyData.eqv d e)) H):rEqD_R K neg x y H Q
def rEqD(K:W.Frag)(neg:Bool):R2:=fun x y H Q=>rEqD_R K neg x y H Q
theorem op_eqD(hu:X.A.units+64<cLine):OpR X (compareOp .Eq) (rEqD X.K false):=by
 intro gE s σ H x y u v Q I rx ry h;obtain⟨d,e,hx,hy,c1,c2,dp,q⟩:=h;obtain⟨as,a⟩:=hx.reads I rx;obtain⟨bs,b⟩:=hy.reads I ry;exact SeqAt.compareEq_reads a b c1 c2 (by omega) ⟨.bl _,H,I,rfl,q⟩
theorem op_neD(hu:X.A.units+64<cLine):OpR X (compareOp .NotEq) (rEqD X.K true):=by
 intro gE s σ H x y u v Q I rx ry h;obtain⟨d,e,hx,hy,c1,c2,dp,q⟩:=h;obtain⟨as,a⟩:=hx.reads I rx;obtain⟨bs,b⟩:=hy.reads I ry;exact SeqAt.compareNe_reads a b c1 c2 (by omega) ⟨.bl _,H,I,rfl,q⟩
inductive rIsi_R(K:W.Frag)(T:String)(xs:List V)(H:Hp)(Q:VK):Prop
 |mk (x:_) (t:_) (b:_) (h0:xs=[x,.ty T]) (h1:VG K H x t) (h2:W.kitOne K t (.type T)=some b) (h3:Q (.bl b) H):rIsi_R K T xs H Q
def rIsi(K:W.Frag)(T:String):List V->Hp->VK->Prop:=fun xs H Q=>rIsi_R K T xs H Q
theorem call_isi(T:String):YS X (.builtin "isinstance") (rIsi X.K T):=by
 intro gE s σ H xs us Q I r h;obtain⟨x,t,b,rfl,ht,hk,q⟩:=h;obtain⟨u,v,rfl,ru,rv⟩:=vals2 r;obtain rfl:v=Value.type T:=rv;exact yj I ru ht hk fun tk=>⟨.bl b,H,I.tok _,rfl,q⟩
end
example (K:W.Frag):W.kitOne K (.type "int") (.type "list")=some false:=by rfl
example (K:W.Frag):W.kitOne K (.type "bool") (.type "int")=some true:=by rfl
def New(H H':Hp):Hp:=fun b=>if(H b).isSome=true then none else H' b
def hide(D:Addr)(H:Hp):Hp:=fun b=>if b=D then none else H b
theorem New.of{H H':Hp}{b:Addr}{o:HO}(h:New H H' b=some o):H b=none/\H' b=some o:=by
 unfold New at h
 split at h
 ·cases h
 ·rename_i q
  refine⟨?_,h⟩;cases e:H b with
  |none=>rfl
  |some u=>rw[e] at q;exact absurd rfl q
theorem New.mk{H H':Hp}{b:Addr}{o:HO}(h:H b=none)(h':H' b=some o):New H H' b=some o:=by
 unfold New;rw[h];exact h'
theorem Zl{H:Hp}{p:Addr}{o:HO}(h:H p=none):Za H (upd H p o):=fun b u e=>by rw[ZS (Zy e h)];exact e
theorem hide_sub{D:Addr}{H:Hp}:Za (hide D H) H:=fun b o h=>by
 unfold hide at h
 split at h
 ·cases h
 ·exact h
theorem hide_some{D b:Addr}{H:Hp}{o:HO}(h:hide D H b=some o):b≠D/\H b=some o:=by
 unfold hide at h
 split at h
 ·cases h
 ·rename_i q;exact⟨q,h⟩
theorem hide_mk{D b:Addr}{H:Hp}{o:HO}(n:b≠D)(h:H b=some o):hide D H b=some o:=by
 unfold hide;rw[if_neg n];exact h
def Zx(D:Addr)(H H':Hp):Prop:=∀b o,b≠D->H b=some o->H' b=some o
theorem Za.x{D:Addr}{H H':Hp}(h:Za H H'):Zx D H H':=fun b o _ e=>h b o e
theorem Zx.refl{D:Addr}(H:Hp):Zx D H H:=fun _ _ _ e=>e
theorem Zx.trans{D:Addr}{H H1 H2:Hp}(a:Zx D H H1)(b:Zx D H1 H2):Zx D H H2:=fun c o n e=>b c o n (a c o n e)
theorem Zx.upd{D:Addr}{H H':Hp}{o:HO}(a:Zx D H H'):Zx D H (upd H' D o):=fun c u n e=>by rw[ZS n];exact a c u n e
theorem Zx.same{D:Addr}{H H':Hp}(a:Zx D H H')(h:H D=none):Za H H':=fun c u e=>a c u (Zy e h) e
theorem Za.seqT{K:W.Frag}{H H':Hp}{a:Addr}{xs:List V}(e:Za H H')(h:SqT K H a xs):SqT K H' a xs:=by
 rcases h with(h|⟨o,h⟩)|h
 ·exact .inl (.inl (e _ _ h))
 ·exact .inl (.inr ⟨o,e _ _ h⟩)
 ·exact .inr h
section
variable{X:Cx}
def rLen(K:W.Frag):List V->Hp->VK->Prop:=fun xs H Q=>(∃p ys,xs=[.ref p]/\(SqL K H p ys\/SqT K H p ys)/\Q (.int ys.length) H)\/((∃z,xs=[.str z]/\z.length<=sizeLine/\Q (.int z.length) H)\/∃a n,xs=[.ref a]/\H a=some (SetN a n)/\n<4000/\Q (.int n) H)
theorem call_lenA:YS X (.builtin "len") (rLen X.K):=yW.or (yU.or call_lenS)
def rListA(K:W.Frag):List V->Hp->VK->Prop:=fun xs H Q=>(∃p ys,xs=[.ref p]/\(SqL K H p ys\/SqT K H p ys)/\∀l,H l=none->Q (.ref l) (upd H l (.lst ys)))\/(∃(p:Addr) (j:Int),xs=[.ref p]/\H p=some (.rng 0 j)/\0<=j/\j<=1000000/\∀l,H l=none->Q (.ref l) (upd H l (.lst ((upTo j).map V.int))))
theorem vi(hc:X.calm=true):YS X (.type "list") (rListA X.K):=yr.or (zz hc)
theorem Wl{x:Str}{v:V}{pos:Pos}(hg:Gl X x)(h:∃u,X.mg x=some u/\ZU v u)(hd:(x==("__debug__" : Str))=false:=by decide):PE X (.Name x pos) (tC v):=by
 obtain⟨u,hm,r⟩:=h;exact pe_glob hg hm r hd
end
def Xo(sc:Scope)(N Nc:List Str)(ix:List (Option Nat))(scope:Scope):Bool:=
 decide (scope.kind=.function)&&scope.names.all (fun y=>decide (y.2≠.cell))&&scope.names.all (fun y=>decide (y.2=.local->scope.names.lookup y.1=some .local)) &&
 scope.names.all (fun y=>decide (y.2=.free->sc.names.lookup y.1=some .cell\/sc.names.lookup y.1=some .free))&&decide (ix.length=Nc.length) &&
 (ix.zip Nc).all fun p=>match p.1 with|none=>true|some j=>N[j]?==some p.2&&scope.names.lookup p.2==some .free
theorem YJ.of{sc:Scope}{N Nc:List Str}{ix:List (Option Nat)}{scope:Scope}(h:Xo sc N Nc ix scope=true):YJ sc N Nc ix scope:=by
 unfold Xo at h;simp only[iN] at h;obtain⟨⟨⟨⟨⟨h1,h2⟩,h3⟩,h4⟩,h5⟩,h6⟩:=h;exact⟨iz h1,fun y hy=>iz (jl.mp h2 y hy),fun y hy=>iz (jl.mp h3 y hy),fun y hy=>iz (jl.mp h4 y hy),iz h5,h6⟩
def Its(x:Str):It:=⟨fun i _=>i<x.cps.size,fun i H v H'=>H'=H/\∃c,x.cps[i]?=some c/\v=.str ⟨#[c]⟩,fun i _=>x.cps.size<=i⟩
theorem turn_str{P:Program}{w:World}{K:W.Frag}{tg:Expr}{it:Addr}{x:Str}{t:Tok}{ty:String}
  (hty:["enumerate", "zip", "dict_itemiterator", "dict_reverseitemiterator", "odict_iterator", "itertools.zip_longest", "itertools.pairwise"].contains ty=false)
  (W:∀A':Around,A'.handled=none->Walks P w A' it [it] [it] x.cps.size (SignAt x) (fun i h=>h.IsStrIter it ty x t i))
  (self:∀(A:Around) (i:Nat) (s:Shared) (Q:Value->Shared->Prop) (E:Value->Shared->Prop),s.heap.IsStrIter it ty x t i->Q (.ref it) s->wpAny (model P w) A (pyIter (.ref it)) Q E s) :
  Turn P w K tg (Its x) [it] it (fun i h=>i<=x.cps.size/\h.IsStrIter it ty x t i) where
 mem:=by simp
 obj:=fun i h st b hb=>by
  have e:b=it:=by simpa using hb
  subst e;obtain⟨_,o,e,c,d⟩:=st;exact⟨o,e,fun v z=>by rw[d] at z;cases z⟩
 keep:=fun i h h' st k=>by
  obtain⟨l,o,e,c,d⟩:=st;exact⟨l,o,k it (by simp) o e,c,d⟩
 item:=by
  intro X hP hw hK hc i gE s σ H E I hf st hg;subst hP hw hK;obtain⟨f0,f1,f2,f3,f4,f5⟩:=hf it (by simp);refine(W X.A (I.ok.hd hc)).item i s _ _ hg st.2 fun v h' tk hv st' kk=>?_;obtain⟨c,u,hcx,rfl⟩:=hv;have I1:L2.Inv X gE σ H { s with heap:=h',toks:=tk }:=I.turned (fun b o hb e=>kk b o (by simpa using hb) e) f0 f1 f3 f4 f5;obtain⟨o,e,oc,od⟩:=id st';exact⟨_,rfl,go_of (s:={ s with heap:=h',toks:=tk }) e oc od hty ⟨.str ⟨#[c]⟩,H,I1,⟨u,rfl⟩,⟨rfl,c,hcx,rfl⟩,⟨hg,st'⟩,fun b hb=>(hf b hb).1⟩⟩
 done:=by
  intro X hP hw hK hc i gE s σ H E I hf st hg;subst hP hw hK;obtain⟨f0,f1,f2,f3,f4,f5⟩:=hf it (by simp);have e:i=x.cps.size:=Nat.le_antisymm st.1 hg;subst e;exact(W X.A (I.ok.hd hc)).done s _ _ st.2 fun h' tk kk=>⟨rfl,I.turned (fun b o hb e=>kk b o (by simpa using hb) e) f0 f1 f3 f4 f5⟩
 self:=fun A i s Q E st h=>self A i s Q E st.2 h
section
variable{X:Cx}{tg:Expr}
def iStr(tl:TE):TI:=fun σ H R=>tl σ H fun v H1=>∃x,v=.str x/\R (Its x) H1
theorem pi_str{l:Expr}{tl:TE}(hl:PE X l tl):PI X tg l (iStr tl):=by
 intro gE s σ H R I h;refine thn (hl gE s σ H _ I h) fun v s1 ⟨y,H1,I1,r1,x,e,q⟩=>?_;subst e;obtain⟨t,rfl⟩:=(show ∃t,v=Value.str x t from r1);have fin:∀(ty:String),["enumerate", "zip", "dict_itemiterator", "dict_reverseitemiterator", "odict_iterator", "itertools.zip_longest", "itertools.pairwise"].contains ty=false ->
   (∀A':Around,A'.handled=none->Walks X.prog X.w A' s1.heap.objs.size [s1.heap.objs.size] [s1.heap.objs.size] x.cps.size (SignAt x) (fun i h=>h.IsStrIter s1.heap.objs.size ty x t i)) ->
   (∀(A:Around) (i:Nat) (s:Shared) (Q:Value->Shared->Prop) (E:Value->Shared->Prop),s.heap.IsStrIter s1.heap.objs.size ty x t i->Q (.ref s1.heap.objs.size) s->wpAny (model X.prog X.w) A (pyIter (.ref s1.heap.objs.size)) Q E s) ->
   PIE X gE σ tg R (.ref s1.heap.objs.size) { s1 with heap:=s1.heap.push { cls:=.type ty,data:=.fields #[.str x t,.int 0 0] } }:=fun ty h1 h2 h3=>by
  refine⟨s1.heap.objs.size,[s1.heap.objs.size],_,_,H1,rfl,I1.kept (t':=s1.toks) fun b o e=>iu _ e,turn_str h1 h2 h3,⟨iU _,_,iF _ rfl,rfl,rfl⟩,fun b hb=>?_,q⟩;have e:b=s1.heap.objs.size:=by simpa using hb
  subst e;exact I1.fpOk (gY _) (I1.hok.fresh (gY _))
 cases ha:x.cps.all (·<128)
 ·exact wpAny_pyIter_wide ha (fin "str_iterator" (by decide) (fun A' hA=>Walks.strWide hA _ x t) fun _ _ _ _ _ st h=>wpAny_pyIter_striter_wide st h)
 ·exact wpAny_pyIter_ascii ha (fin "str_ascii_iterator" (by decide) (fun A' hA=>Walks.strAscii hA _ x t) fun _ _ _ _ _ st h=>wpAny_pyIter_striter_ascii st h)
end
section
variable{X:Cx}{K:W.Frag}
theorem ZK(hK:X.K=K):YS X (.builtin "len") (rLen K):=by subst hK;exact call_lenA
def rAll(K:W.Frag):List V->Hp->VK->Prop:=fun xs H Q=>∃(p:Addr) (bs:List Bool),xs=[.ref p]/\SqL K H p (bs.map V.bl)/\Q (.bl (bs.all id)) H
theorem call_allK(hK:X.K=K)(hc:X.calm=true):YS X (.builtin "all") (rAll K):=by subst hK;exact call_all hc
theorem VS(hK:X.K=K)(hc:X.calm=true):YS X (.type "list") (rListA K):=by subst hK;exact vi hc
def rTupleA(K:W.Frag):List V->Hp->VK->Prop:=fun xs H Q=>∃p ys,xs=[.ref p]/\((SqL K H p ys/\∀l,H l=none->Q (.ref l) (upd H l (.tup ys)))\/(SqT K H p ys/\Q (.ref p) H))
theorem XA(hK:X.K=K):YS X (.type "tuple") (rTupleA K):=by subst hK;exact zD
theorem Vu(hK:X.K=K)(T:String):YS X (.builtin "isinstance") (rIsi K T):=by subst hK;exact call_isi T
theorem Zz(hK:X.K=K):IxR X (rIxL K):=by subst hK;exact ix_list
theorem ZJ(hK:X.K=K):IxR X (rIxT K):=by subst hK;exact ix_tup
theorem WO(hK:X.K=K):SlR X (rSlL K):=by subst hK;exact sl_list
theorem Vf(hK:X.K=K):OpR X (compareOp .In) (rIn K false):=by subst hK;exact op_in_seq
theorem ql(hK:X.K=K)(hu:X.A.units+64<cLine):OpR X (compareOp .Eq) (rEqD K false):=by subst hK;exact op_eqD hu
theorem yw(hK:X.K=K)(hu:X.A.units+64<cLine):OpR X (compareOp .NotEq) (rEqD K true):=by subst hK;exact op_neD hu
theorem Yr{tg l:Expr}{tl:TE}(hK:X.K=K)(hl:PE X l tl):PI X tg l (iList K tl):=by subst hK;exact pi_list hl
theorem pg_tupK{es:List Expr}{k:Nat}{t:TGs}{n:Nat}{pos:Pos}(hK:X.K=K)(hc:X.calm=true)(h:PGs X es t)
  (hn:(assignEach es X.env).length=n:=by rfl) (hst:(assignEach es X.env).findIdx? (·.1)=none:=by rfl):PG X (.Tuple es k pos) (gTup K n t):=by subst hK;exact pg_tup hc h hn hst
theorem ZM{e:Expr}{f:Str}{pos:Pos}{ta:TE}(hK:X.K=K)(he:PE X e ta)(hb:attributeBase e f X.env (eval e X.env)=eval e X.env):PE X (.Attribute e f pos) (tFld K ta f):=by subst hK;exact pe_fld he hb
theorem pe_revK{e st:Expr}{te:TE}{ts:TO}{pos p2:Pos}(hK:X.K=K)(he:PE X e te)(hs:PO X (some st) ts):PE X (.Subscript e (.Slice none none (some st) p2) pos) (tRev K te ts):=by subst hK;exact pe_rev he hs
end
end L3
namespace L3
open PySem PySem.Spec L2
inductive Kd(H:Hp):V->Prop
 |non:Kd H .non
 |bl (b:Bool):Kd H (.bl b)
 |int (i:Int):Kd H (.int i)
 |str (z:Str) (hz:z.length<=1000):Kd H (.str z)
 |lst {a:Addr}{xs:List V} (e:H a=some (.lst xs)):Kd H (.ref a)
 |tup {a:Addr}{xs:List V} (e:H a=some (.tup xs)):Kd H (.ref a)
 |dK {a:Addr}{kvs:List (Key×V)} (e:H a=some (.dK kvs)):Kd H (.ref a)
theorem Kd.mono{H H':Hp}{x:V}(s:Za H H')(h:Kd H x):Kd H' x:=by
 cases h with
 |non=>exact .non
 |bl b=>exact .bl b
 |int i=>exact .int i
 |str z hz=>exact .str z hz
 |lst e=>exact .lst (s _ _ e)
 |tup e=>exact .tup (s _ _ e)
 |dK e=>exact .dK (s _ _ e)
def Xu(H:Hp)(T:String):V->Bool
 |.bl _=>T == "bool" || T == "int"
 |.int _=>T == "int"
 |.str _=>T == "str"
 |.ref a=>match H a with
  |some (.lst _)=>T == "list"
  |some (.tup _)=>T == "tuple"
  |some (.dK _)=>T == "dict"
  |_=>false
 |_=>false
theorem isi_rd{K:W.Frag}{T:String}{x:V}{H:Hp}{Q:VK}(hT:T = "int" \/ T = "bool" \/ T = "str" \/ T = "list" \/ T = "tuple")(h:Kd H x)(q:Q (.bl (Xu H T x)) H):rIsi K T [x,.ty T] H Q:=by
 rcases hT with rfl|rfl|rfl|rfl|rfl
 all_goals
  cases h with
  |non=>exact⟨_,_,_,rfl,.non,rfl,q⟩
  |bl b=>exact⟨_,_,_,rfl,.bl b,rfl,q⟩
  |int i=>exact⟨_,_,_,rfl,.int i,rfl,q⟩
  |str z hz=>exact⟨_,_,_,rfl,.str z,rfl,q⟩
  |lst e=>first|exact⟨_,_,false,rfl,.lst e,rfl,by simpa[Xu,e] using q⟩|exact⟨_,_,true,rfl,.lst e,rfl,by simpa[Xu,e] using q⟩
  |tup e=>first|exact⟨_,_,false,rfl,.tup e,rfl,by simpa[Xu,e] using q⟩|exact⟨_,_,true,rfl,.tup e,rfl,by simpa[Xu,e] using q⟩
  |dK e=>first|exact⟨_,_,false,rfl,.dK e,rfl,by simpa[Xu,e] using q⟩|exact⟨_,_,true,rfl,.dK e,rfl,by simpa[Xu,e] using q⟩
def ze(c:Nat):Bool:=decide (97<=c/\c<=122)
def Xn(z:Str):Bool:=decide (1<=z.length)&&decide (z.length<=8)&&z.cps.toList.all ze
def Wy:V->Bool
 |.str z=>Xn z
 |_=>false
def yv:V->Bool
 |.int _=>true
 |_=>false
theorem all_id{α:Type}(f:α->Bool)(xs:List α):(xs.map f).all id=xs.all f:=by
 rw[kj];rfl
theorem xq(c:Nat):decide (c∈("abcdefghijklmnopqrstuvwxyz" : Str).cps.toList)=ze c:=by
 have e:("abcdefghijklmnopqrstuvwxyz" : Str).cps.toList=(List.range 26).map (·+97):=by decide +kernel
 rw[e];unfold ze;refine decide_eq_decide.mpr ?_;rw[ik];constructor
 ·rintro⟨k,hk,rfl⟩;have:=List.mem_range.mp hk;omega
 ·rintro⟨h1,h2⟩;exact⟨c-97,List.mem_range.mpr (by omega),by omega⟩
theorem U9(K:W.Frag){T:String}{x:V}{H:Hp}{b:Bool}(hT:T = "int" \/ T = "bool" \/ T = "str" \/ T = "list" \/ T = "tuple")(h:Kd H x)(hb:Xu H T x=b):∃t,VG K H x t/\W.kitOne K t (.type T)=some b:=by
 obtain⟨y,t,c,e,h1,h2,q⟩:=isi_rd (K:=K) (Q:=fun v _=>v=.bl b) hT h (by rw[hb]);have e1:x=y:=(jm e).1;have e2:c=b:=V.bl.inj q;subst e1;subst e2;exact⟨t,h1,h2⟩
theorem kd_str{H:Hp}{x:V}(h:Kd H x):(Xu H "str" x=true/\∃z,x=.str z/\z.length<=1000)\/(Xu H "str" x=false/\Wy x=false):=by
 cases h with
 |str z hz=>exact .inl ⟨rfl,z,rfl,hz⟩
 |non=>exact .inr ⟨rfl,rfl⟩
 |bl b=>exact .inr ⟨rfl,rfl⟩
 |int i=>exact .inr ⟨rfl,rfl⟩
 |lst e=>exact .inr ⟨by simp[Xu,e],rfl⟩
 |tup e=>exact .inr ⟨by simp[Xu,e],rfl⟩
 |dK e=>exact .inr ⟨by simp[Xu,e],rfl⟩
def LI(H:Hp)(v:V)(ns:List Int):Prop:=∃a,v=.ref a/\H a=some (.lst (ns.map V.int))
def TS(H:Hp)(v:V)(ss:List Str):Prop:=∃a,v=.ref a/\H a=some (.tup (ss.map V.str))
def LT{α:Type}(r:Hp->V->α->Prop)(H:Hp)(v:V)(xs:List α):Prop:=∃a vs,v=.ref a/\H a=some (.tup vs)/\vs.length=xs.length/\∀(i:Nat) v x,vs[i]?=some v->xs[i]?=some x->r H v x
structure WD where
 signs:List (List Str)
 ways:List (List Int)
 starts:List Int
 fair:List Str
theorem vE{z:Str}(h:Xn z=true):z.length<=8:=by
 unfold Xn at h;simp only[iN,decide_eq_true_eq] at h;exact h.1.2
def dI(ns:List Int):PyData:=.list (ns.map PyData.int)
def dS(ss:List Str):PyData:=.list (ss.map PyData.str)
def Fine(n:Nat)(d:PyData):Prop:=d.canLay0=true/\d.depth<=n
theorem fineAll{α:Type}{f:α->PyData}{n:Nat}{xs:List α}(h:∀x∈xs,Fine n (f x)):PyData.canLayAll0 (xs.map f)=true/\PyData.depthAll (xs.map f)<=n:=by
 induction xs with
 |nil=>exact⟨by simp[PyData.canLayAll0],by simp[PyData.depthAll]⟩
 |cons x r ih=>
  obtain⟨a,b⟩:=ih fun y hy=>h y (hU _ hy);obtain⟨c,d⟩:=h x jN;rw[g9];exact⟨by rw[PyData.canLayAll0,c,a];rfl,by rw[PyData.depthAll];exact Nat.max_le.mpr ⟨d,b⟩⟩
theorem fineL{α:Type}{f:α->PyData}{n:Nat}{xs:List α}(h:∀x∈xs,Fine n (f x)):Fine (n+1) (.list (xs.map f)):=by
 obtain⟨a,b⟩:=fineAll h;exact⟨by rw[PyData.canLay0];exact a,by rw[PyData.depth];omega⟩
theorem fineI(ns:List Int):Fine 1 (dI ns):=fineL fun x _=>⟨by simp[PyData.canLay0],by simp[PyData.depth]⟩
theorem qS{z:Str}(h:Xn z=true):PyData.strOk z=true:=by
 unfold Xn at h;rw[iN] at h;have h2:=jl.mp h.2;unfold PyData.strOk;rw[Array.all_eq_true_iff_forall_mem];intro x hx;have:=h2 x (Array.mem_toList_iff.mpr hx);unfold ze at this;have:=iz this;exact hX (by omega)
theorem Fine.up{n m:Nat}{d:PyData}(h:Fine n d)(l:n<=m):Fine m d:=⟨h.1,iq h.2 l⟩
section
variable{K:W.Frag}{H:Hp}
theorem zG{α:Type}{g:α->V}{f:α->PyData}(h:∀x,Dp K H (g x) (f x)):∀xs:List α,Vc K H (xs.map g) (xs.map f)
 |[]=>.nil
 |x::r=>.cons (h x) (zG h r)
theorem LI.dp{v:V}{ns:List Int}(h:LI H v ns):Dp K H v (dI ns):=by
 obtain⟨a,rfl,e⟩:=h;exact .lst (ll e) (zG (fun x=>.int x) ns)
end
theorem xZ{n:Nat}{d:PyData}(h:Fine n d):PyData.eqv d d=true:=SeqAt.eqv_refl d h.1
theorem eqD_nil{K:W.Frag}{H:Hp}{a b:Addr}{ns:List Int}{Q:VK}(h1:H a=some (.lst (ns.map V.int)))(h2:H b=some (.lst []))(q:∀c:Bool,(c=true↔ns=[])->Q (.bl c) H):rEqD K false (.ref a) (.ref b) H Q:=by
 refine⟨dI ns,.list [],LI.dp ⟨a,rfl,h1⟩,.lst (ll h2) .nil,(fineI ns).1,by simp[PyData.canLay0,PyData.canLayAll0],iq (fineI ns).2 (by decide),?_⟩;refine q _ ?_;cases ns with
 |nil=>simp[dI,PyData.eqv,PyData.eqvAll]
 |cons x r=>simp[dI,PyData.eqv,PyData.eqvAll]
theorem Zx.free{p D:Addr}{H H':Hp}(s:Zx p H H')(np:D≠p)(h:H' D=none):H D=none:=by
 cases e:H D with
 |none=>rfl
 |some o=>rw[s D o np e] at h;cases h
theorem qi{z:Str}{ss:List Str}:inV (.str z) (ss.map V.str)=true↔z∈ss:=by
 unfold inV;rw[List.any_map,kH];constructor
 ·rintro⟨y,hy,e⟩;have e':(y==z)=true:=e;rw[jp] at e';exact e'▸hy
 ·intro hz;exact⟨z,hz,by show(z==z)=true;simp⟩
theorem ya(ss:List Str):(ss.map V.str).all VJ=true:=by
 rw[kj];exact jl.mpr fun _ _=>rfl
theorem UT{ts:List V}(n:Int)(h:ts≠[]):(0:Int)<ts.length/\∃v,atI ts (n%(ts.length:Int))=some v/\v∈ts:=by
 have hl:=jT.mpr h;have hp:(0:Int)<ts.length:=by omega
 refine⟨hp,?_⟩;have h0:=kl n (Int.ne_of_gt hp);have h1:=kn n hp;obtain⟨j,e⟩:=Int.eq_ofNat_of_zero_le h0;rw[e] at h1 ⊢;have hj:j<ts.length:=by omega
 exact⟨_,Zk (gZ hj),jr hj⟩
theorem Wh{H:Hp}{p F:Addr}{o o':HO}(h:H p=some o)(n:p≠F):upd H F o' p=some o:=by rw[ZS n];exact h
theorem ne_new{H:Hp}{p D:Addr}{o:HO}(h:H p=some o)(n:H D=none):p≠D:=fun e=>by rw[e,n] at h;cases h
end L3
namespace L3
end L3
namespace L3
open PySem PySem.Spec L2
end L3
namespace L3
open PySem PySem.Spec PyProof.Rows L2
section
variable{X:Cx}
theorem ZN.take{xs:List V}{us:List Value}(h:ZN xs us)(k:Nat):ZN (xs.take k) (us.take k):=by
 induction k generalizing xs us with
 |zero=>exact .nil
 |succ k ih=>
  cases h with
  |nil=>exact .nil
  |cons r t=>exact .cons r (ih t)
theorem ZN.drop{xs:List V}{us:List Value}(h:ZN xs us)(k:Nat):ZN (xs.drop k) (us.drop k):=by
 induction k generalizing xs us with
 |zero=>exact h
 |succ k ih=>
  cases h with
  |nil=>exact .nil
  |cons r t=>exact ih t
theorem Inv.big{gE:List (Addr×Obj)}{σ:St}{H:Hp}{s:Shared}(I:L2.Inv X gE σ H s):sysModules<s.heap.objs.size:=by
 have h:mainGlobals<s.heap.objs.size:=(I.mod.glob.keeps I.bk).lt;exact Nat.lt_trans (by decide) h
theorem xt{P:Program}{w:World}{H:Hp}(h:Heap)(hb:sysModules<h.objs.size):Yx P w H (h.push { cls:=.type "dict",data:=.dict #[] }) h.objs.size (.dK []):=
 ⟨iU _,ju.mpr (ie (iC hb)),[],.nil,Heap.DictOf.new h⟩
end
section
variable{prog:Program}{w:World}{A:Around}{E:Value->Shared->Prop}{s:Shared}
end
section
variable{X:Cx}
end
end L3
namespace L3
open PySem PySem.Spec L2
section
variable{X:Cx}{K:W.Frag}
theorem XB{a:Expr}{ta:TE}(hK:X.K=K)(ha:PE X a ta)(he:∀whole,isTrue a X.env whole=(do let v <- whole;standAt a.pos;holding [v] (truthy v))) :
  PT X a (fun σ H Q=>ta σ H fun x H'=>∃k,TruV K x H' k/\Q k H'):=by subst hK;exact pt_truth ha he
end
theorem yn{J:It}{n:Nat}{g:TG}{tb:L2.TS}{D:Ends}{σ:St}{H:Hp}(Pv:Nat->St->Hp->Prop)(h0:Pv 0 σ H)(hgo:∀i σ H,i<n->Pv i σ H->J.go i H)(hst:∀σ H,Pv n σ H->J.stop n H)
  (hs:∀i x σ H H2,i<n->Pv i σ H->J.yld i H x H2->g x σ H2 fun σ2 H3=>tb { D with nx:=Pv (i+1),ct:=Pv (i+1),bk:=D.nx } σ2 H3) (hd:∀σ H,Pv n σ H->D.nx σ H) :
  ∃W:Nat->Nat->St->Hp->Prop,(∃m,W 0 m σ H)/\∀i m σ H,W i m σ H ->
   (J.stop i H/\D.nx σ H)\/(J.go i H/\∃N:St->Hp->Prop,(∀σ' H',N σ' H'->∃m',m'<m/\W (i+1) m' σ' H')/\∀x H',J.yld i H x H'->g x σ H' fun σ2 H2=>tb { D with nx:=N,ct:=N,bk:=D.nx } σ2 H2):=by
 refine⟨fun i m σ H=>m=n-i/\i<=n/\Pv i σ H,⟨n,by simp,iU _,h0⟩,?_⟩;rintro i m σ H ⟨rfl,hi,p⟩
 by_cases hlt:i<n
 ·exact .inr ⟨hgo i σ H hlt p,Pv (i+1),fun σ' H' p'=>⟨n-(i+1),by omega,rfl,hlt,p'⟩,fun x H' y=>hs i x σ H H' hlt p y⟩
 ·have e:i=n:=by omega
  subst e;exact .inl ⟨hst σ H p,hd σ H p⟩
theorem inV_int{z:Int}{ss:List Int}:inV (.int z) (ss.map V.int)=decide (z∈ss):=by
 rw[jQ,decide_eq_true_iff];unfold inV;rw[List.any_map,kH];constructor
 ·rintro⟨y,hy,e⟩;have e':(y==z)=true:=e;rw[jp] at e';exact e'▸hy
 ·intro hz;exact⟨z,hz,by show(z==z)=true;simp⟩
theorem inV_strD{z:Str}{ss:List Str}:inV (.str z) (ss.map V.str)=decide (z∈ss):=by
 rw[jQ,decide_eq_true_iff];exact qi
theorem zK(ss:List Int):(ss.map V.int).all VJ=true:=by
 rw[kj];exact jl.mpr fun _ _=>rfl
theorem at_of{xs:List Int}{i:Nat}(h:i<xs.length):(xs.map V.int)[i]?=some (.int (xs.getD i 0)):=by
 simp[List.getD,h]
theorem UE(xs:List V)(k:Nat)(h:k<=xs.length):Wp xs (some (k:Int)) none=xs.drop k:=by
 unfold Wp;rw[HT.sIx_nat,HT.sIx_none,Nat.min_eq_left h];exact jt (by rw[jh];omega)
theorem yB(xs:List V)(k:Nat)(h:k<=xs.length):Wp xs none (some (k:Int))=xs.take k:=by
 unfold Wp;rw[HT.sIx_nat,HT.sIx_none,Nat.min_eq_left h];simp
theorem VB{H H':Hp}{T:String}{v:V}(s:Za H H')(h:Kd H v):Xu H' T v=Xu H T v:=by
 cases h with
 |non=>rfl
 |bl b=>rfl
 |int i=>rfl
 |str z hz=>rfl
 |lst e=>simp only[Xu,e,s _ _ e]
 |tup e=>simp only[Xu,e,s _ _ e]
 |dK e=>simp only[Xu,e,s _ _ e]
theorem Ve{X:Cx}{st:Stmt}{Wv:List Stmt}{t u:L2.TS}(h1:PS X st t)(h2:PSs X Wv u):PSs X (st::Wv) (fun D σ H=>∃J:St->Hp->Prop,t { D with nx:=J } σ H/\∀σ' H',J σ' H'->u D σ' H'):=by
 intro gE s σ H D I h;obtain⟨J,h,hj⟩:=h;refine wpAny_execs_cons (thn (h1 gE s σ H { D with nx:=J } I h) fun f s1 q=>?_);cases f with
 |next=>
  obtain⟨σ',H',I',q⟩:=q;exact h2 gE s1 σ' H' D I' (hj _ _ q)
 |ret v=>exact q
 |brk=>exact q
 |cont=>exact q
end L3
namespace L3
open PySem PySem.Spec PyProof.Rows L2
def free(c:Nat)(z:Str):Prop:=c∉z.cps.toList
def dT(d:WD):PyData:=.list (d.signs.map dS++d.ways.map dI++[dI d.starts,dS d.fair])
section
variable{X:Cx}{K:W.Frag}
end
theorem atI_back{α:Type}{xs:List α}{k:Nat}(h1:1<=k)(h2:k<=xs.length):atI xs (-(k:Int))=xs[xs.length-k]?:=by
 have e:ixN xs.length (-(k:Int))=some (xs.length-k):=by
  unfold ixN;rw[if_neg (by omega),if_pos (by omega)]
  congr 1
  omega
 unfold atI;rw[e];rfl
def TrV(h base:Heap)(e:Addr)(cls fl:Value):Prop:=
 ∃oe vs T oT ts a0,h.get? e=some oe/\oe.cls=cls/\oe.data=.fields vs/\vs[0]?=some a0/\vs[2]?=some .none/\vs[1]?=some (.ref T)/\base.get? T=none/\T≠e/\h.get? T=some oT/\oT.data=.fields ts/\ts[3]?=some fl
def FlV(base:Heap)(l:List Env)(e:Addr)(cls fl:Value)(h:Heap):Prop:=base.StaysIn h/\base.get? e=none/\h.FunFrames base l/\TrV h base e cls fl
section
variable{M:Model}{A:Around}{E:Value->Shared->Prop}{s:Shared}{base:Heap}{env:Env}{outer:List Env}{L e:Addr}{cls fl:Value}{Q:Unit->Shared->Prop}
theorem entryV{oe:Obj}{vs:Array Value}{head a0:Value}{hadNext:Bool}(hfr:A.frames=some (env::outer))(hl:s.heap.FunFrames base (env::outer))(hf:env.frame=some L)
  (he:s.heap.get? e=some oe) (hkb:base.StaysIn s.heap) (hen:base.get? e=none) (hd:oe.data=.fields vs) (hsz:1<vs.size) (h0:vs[0]?=some a0) (h2:vs[2]?=some .none)
  (h:∀h',FlV base (env::outer) e oe.cls (rawInt L) h'->s.heap.UpToSlots h'->Q () { s with heap:=h' }) :
  wpAny M A (do let a <- frameOf env;let pl <- entryPlaceOf L hadNext;let b <- EntryCells.newEntry head a .none (rawInt L) .none pl;setField (.ref e) 1 b) Q E s:=by
 have out:e∉(env::outer).filterMap (·.frame):=fun hm=>by
  obtain⟨_,o,ho,hnf⟩:=hl.mem hm;rw[he] at ho;cases ho;exact hnf vs hd
 refine gW (wpAny_frameOf_fun hfr hl hf fun h₁ hs₁=>gW (wpAny_entryPlaceOf fun pl hpl=>?_));unfold EntryCells.newEntry newFields;refine gW (ja ?_ (hpl.sizeOk5 _ _ _ _ _));have he₁:h₁.get? e=some oe:=(hs₁.2.1 e out).trans he;have kb:base.StaysIn h₁:=fun b o q=>(hs₁.2.1 b fun hm=>by rw[(hl.mem hm).1] at q;cases q).trans (hkb b o q);generalize hob:({ cls:=.type "traceback",dict:=none,data:=.fields ([head,.ref L,.none,rawInt L,.none]++(if pl.isEmpty then List.replicate 6 Value.none else pl)).toArray }:Obj)=ob;have he₂:=iu (h:=h₁) ob he₁;have hnew:(h₁.push ob).get? h₁.objs.size=some ob:=iF h₁ (by rw[<- hob];rfl);refine ko he₂ hd hsz ?_;have hTe:h₁.objs.size≠e:=Nat.ne_of_gt (ii he₁);have hd₃:=kq hd (·.setIfInBounds 1 (Value.ref h₁.objs.size));have he₃:=kr (Obj.mapFields (·.setIfInBounds 1 (Value.ref h₁.objs.size))) he₂ (Obj.isFreed_of_fields hd₃);have hT₃:=(jk (h₁.push ob) (Obj.mapFields (·.setIfInBounds 1 (Value.ref h₁.objs.size))) (ie hTe)).trans hnew;have stay:∀b o,b≠e->h₁.get? b=some o->((h₁.push ob).update e (Obj.mapFields (·.setIfInBounds 1 (Value.ref h₁.objs.size)))).get? b=some o:=fun b o hbe q=>by
  rw[jk _ _ (ie hbe)];exact iu _ q
 have plain:∀b o,s.heap.get? b=some o->(∀vs,o.data≠.fields vs)->b≠e:=fun b o q hnf z=>by
  rw[z,he] at q;cases q;exact hnf vs hd
 refine h _ ⟨fun b o q=>stay b o (fun z=>by rw[z,hen] at q;cases q) (kb b o q),hen,hl.of_keeps fun b o q hnf=>?_,?_⟩ fun b o q hnf=>?_
 ·obtain⟨sl,hs⟩:=hs₁.2.2 b o q;exact⟨_,stay b _ (plain b o q hnf) hs,rfl⟩
 ·refine⟨_,_,h₁.objs.size,ob,([head,.ref L,.none,rawInt L,.none]++(if pl.isEmpty then List.replicate 6 Value.none else pl)).toArray,a0,he₃,Obj.cls_mapFields _ _,hd₃,?_,?_,by simp[hsz],kb.fresh,hTe,hT₃,by rw[<- hob],?_⟩
  ·rw[Array.getElem?_setIfInBounds_ne (by decide)];exact h0
  ·rw[Array.getElem?_setIfInBounds_ne (by decide)];exact h2
  ·simp
 ·obtain⟨sl,hs⟩:=hs₁.2.2 b o q;exact⟨sl,stay b _ (plain b o q hnf) hs⟩
theorem xS{oe:Obj}{vs:Array Value}{a0:Value}(hfr:A.frames=some (env::outer))(hl:s.heap.FunFrames base (env::outer))(hf:env.frame=some L)
  (he:s.heap.get? e=some oe) (hkb:base.StaysIn s.heap) (hen:base.get? e=none) (hd:oe.data=.fields vs) (h0:vs[0]?=some a0) (h1:vs[1]?=some .none) (h2:vs[2]?=some .none)
  (h:∀h',FlV base (env::outer) e oe.cls (rawInt L) h'->s.heap.UpToSlots h'->Q () { s with heap:=h' }):wpAny M A (noteFrame (.ref e) env) Q E s:=by
 unfold noteFrame;simp only[hf];refine gW (jg he hd h1 ?_);rw[if_neg (by decide)];exact entryV hfr hl hf he hkb hen hd (kI.mp h1).1 h0 h2 h
theorem xT(hfr:A.frames=some (env::outer))(hf:env.frame=some L)(x:FlV base (env::outer) e cls .none s.heap)
  (h:∀h',FlV base (env::outer) e cls (rawInt L) h'->s.heap.UpToSlots h'->Q () { s with heap:=h' }):wpAny M A (noteFrame (.ref e) env) Q E s:=by
 obtain⟨hkb,hen,hl,oe,vs,T,oT,ts,a0,he,hc,hd,h0,h2,h1,hnT,hTe,hT,hdT,h3⟩:=x;subst hc;unfold noteFrame;simp only[hf];refine gW (jg he hd h1 ?_);rw[if_pos (show(Value.ref T != Value.none)=true from by simp)];refine gW (jg hT hdT h3 ?_);rw[if_neg (show ¬((Value.none==rawInt L)=true) from by simp[rawInt])];refine gW (ko hT hdT (kI.mp h3).1 ?_);have other:∀b,b≠T->(s.heap.update T (Obj.mapFields (·.setIfInBounds 3 Value.none))).get? b=s.heap.get? b:=fun b hb=>jk _ _ (ie hb);have plain:∀b o,s.heap.get? b=some o->(∀vs,o.data≠.fields vs)->b≠T:=fun b o q hnf z=>by
  rw[z,hT] at q;cases q;exact hnf ts hdT
 refine entryV hfr (hl.of_keeps fun b o q hnf=>⟨o,(other b (plain b o q hnf)).trans q,rfl⟩) hf ((other e (ie hTe)).trans he)
  (fun b o q=>(other b fun z=>by rw[z,hnT] at q;cases q).trans (hkb b o q)) hen hd (kI.mp h1).1 h0 h2
  fun h' x' up=>h h' x' fun b o q hnf=>up b o ((other b (plain b o q hnf)).trans q) hnf
theorem landV{l:List Env}(x:FlV base l e cls fl s.heap)(h:∀h',FlV base l e cls .none h'->s.heap.UpToSlots h'->Q () { s with heap:=h' }):wpAny M A (setFlight (.ref e) none) Q E s:=by
 obtain⟨hkb,hen,hl,oe,vs,T,oT,ts,a0,he,hc,hd,h0,h2,h1,hnT,hTe,hT,hdT,h3⟩:=x;have hsz3:3<ts.size:=(kI.mp h3).1;have other:∀b,b≠T->(s.heap.update T (Obj.mapFields (·.setIfInBounds 3 ((none:Option Addr).elim Value.none fun f=>rawInt f)))).get? b=s.heap.get? b:=fun b hb=>jk _ _ (ie hb);have plain:∀b o,s.heap.get? b=some o->(∀vs,o.data≠.fields vs)->b≠T:=fun b o q hnf z=>by
  rw[z,hT] at q;cases q;exact hnf ts hdT
 unfold setFlight;refine gW (jg he hd h1 ?_);rw[if_pos (show(Value.ref T != Value.none)=true from by simp)];refine ko hT hdT hsz3 (h _ ⟨fun b o q=>(other b fun z=>by rw[z,hnT] at q;cases q).trans (hkb b o q),hen,
  hl.of_keeps fun b o q hnf=>⟨o,(other b (plain b o q hnf)).trans q,rfl⟩,
  oe,vs,T,_,_,a0,(other e (ie hTe)).trans he,hc,hd,h0,h2,h1,hnT,hTe,kr _ hT (Obj.isFreed_of_fields (kq hdT _)),kq hdT _,by simp[hsz3]⟩
  fun b o q hnf=>⟨o.slots,(other b (plain b o q hnf)).trans q⟩)
theorem yy{h:Heap}{args:List Value}(hfr:A.frames=some (env::outer))(hf:env.frame=some L)(hkb:base.StaysIn h)(hl:h.FunFrames base (env::outer))(hx:Heap.MadeExcOf h s.heap e cls args)
  (hQ:∀h',FlV base outer e cls .none h'->s.heap.UpToSlots h'->Q () { s with heap:=h' }):wpAny M A (leaving env (.ref e)) Q E s:=by
 obtain⟨t,he,htn,ht⟩:=hx.there;have fresh:∀b,h.get? b=none->base.get? b=none:=fun b hb=>by
  cases q:base.get? b with
  |none=>rfl
  |some o'=>rw[hkb b o' q] at hb;cases hb
 unfold leaving;refine gW (xS (a0:=.ref t) hfr (hl.of_keeps fun b o q _=>⟨o,hx.keeps b o q,rfl⟩) hf he (fun b o q=>hx.keeps b o (hkb b o q)) (fresh e hx.new) rfl rfl rfl rfl fun h' x' up=>?_);refine landV (s:={ s with heap:=h' }) x' fun h'' ⟨y1,y2,⟨_,_,y3⟩,y4⟩ up'=>hQ h'' ⟨y1,y2,y3,y4⟩ (up.trans up')
theorem vJ(hfr:A.frames=some (env::outer))(hf:env.frame=some L)(x:FlV base (env::outer) e cls .none s.heap)
  (hQ:∀h',FlV base outer e cls .none h'->s.heap.UpToSlots h'->Q () { s with heap:=h' }):wpAny M A (leaving env (.ref e)) Q E s:=by
 unfold leaving;refine gW (xT hfr hf x fun h' x' up=>?_);refine landV (s:={ s with heap:=h' }) x' fun h'' ⟨y1,y2,⟨_,_,y3⟩,y4⟩ up'=>hQ h'' ⟨y1,y2,y3,y4⟩ (up.trans up')
end
def FlyN(h0:Heap)(H:Hp)(h:Heap)(a C T:Addr):Prop:=
 h0.get? a=none/\h0.get? T=none/\H a=none/\H T=none/\T≠a /\
 ∃oe vs oT ts a0,h.get? a=some oe/\oe.cls=.ref C/\oe.data=.fields vs/\vs[0]?=some a0/\vs[1]?=some (.ref T)/\h.get? T=some oT/\oT.data=.fields ts/\ts[3]?=some .none/\vs[2]?=some .none
def CXe(P:Program)(w:World):CXT:=fun outer H s E e s'=>
 ∃a C T H',e=.ref a/\s'.os=s.os/\AllBare s'.gens/\Un (frs outer) [] H H' s.heap s'.heap/\HOk P w H' s'.heap/\FlyN s.heap H' s'.heap a C T/\E e (some C) H'
theorem zk{P:Program}{w:World}{H:Hp}{h h':Heap}(x:HOk P w H h)(k:∀b o,(H b).isSome=true->h.get? b=some o->h'.get? b=some o):HOk P w H h':=fun a o e=>
 (x a o e).stay (fun b u hb q=>k b u (by rcases hb with rfl|hb<;>simp[*]) q) (fun _ q=>q) fun _ _ q=>q
theorem yk{P:Program}{w:World}{H:Hp}{h:Heap}{a:Addr}(x:HOk P w H h)(e:h.get? a=none):H a=none:=by
 cases q:H a with
 |none=>rfl
 |some o=>
  exfalso
  have z:=x a o q;obtain⟨o',z'⟩:∃o',h.get? a=some o':=by
   cases o with
   |lst xs=>obtain⟨_,_,_,_,e⟩:=z;exact⟨_,e⟩
   |tup xs=>obtain⟨_,_,_,_,e,_⟩:=z;exact⟨_,e⟩
   |dK kvs=>obtain⟨_,_,_,_,_,_,_,e,_⟩:=z;exact⟨_,e⟩
   |dT kvs=>obtain⟨_,_,_,_,_,_,_,e,_⟩:=z;exact⟨_,e⟩
   |set S n=>obtain⟨_,_,_,_,e,_⟩:=z;exact⟨_,e⟩
   |ins C dx fs=>obtain⟨_,_,_,e,_⟩:=z;exact⟨_,e⟩
   |own y=>obtain⟨_,e⟩:=z;exact⟨_,e⟩
   |xd fs=>obtain⟨_,⟨_,_,_,e,_⟩,_⟩:=z;exact⟨_,e⟩
   |rng lo hi=>obtain⟨_,_,_,e⟩:=z;exact⟨_,e⟩
   |frz ob u=>obtain⟨e,_⟩:=z;exact⟨_,e⟩
   |tbl ps=>exact⟨_,z⟩
   |met f y=>exact⟨_,z⟩
   |ext φ=>obtain⟨_,⟨o,e⟩,_⟩:=z;exact⟨_,e⟩
  rw[e] at z';cases z'
section
variable{P:Program}{w:World}{K:W.Frag}{mg:Str->Option Value}{base:Heap}{N:List Str}{qual:Str}{scope:Scope}{f:Addr}{cd:Value}{A:Around}{outer:List Env}{s₀:Shared}{H₀:Hp}{E:XK}
theorem yX{l:List Env}{b:Addr}{env:Env}(he:env∈l)(hb:env.frame=some b):b∈frs l:=jD.mpr ⟨env,he,hb⟩
theorem left_cx{gE:List (Addr×Obj)}{σ:St}{H:Hp}{s:Shared}{a C T B:Addr}{h₂:Heap}(I:Inv (UU (CXe P w) P w K mg base N qual scope f cd A outer s₀ H₀ E) gE σ H s)
  (n1:s₀.heap.get? a=none) (n2:s₀.heap.get? T=none) (n3:H a=none) (n4:H T=none) (hB1:H B=none) (hB2:s₀.heap.get? B=none)
  (f1:(W.hideAll s.heap (B::a::T::frs (envOfC qual scope s₀.heap.objs.size f cd::outer))).StaysIn h₂) (slot:∀b o,s.heap.get? b=some o->b∈frs (envOfC qual scope s₀.heap.objs.size f cd::outer)->∃sl,h₂.get? b=some { o with slots:=sl })
  (f4:TrV h₂ (W.hideAll s.heap (B::a::T::frs (envOfC qual scope s₀.heap.objs.size f cd::outer))) a (.ref C) .none) (hE:E (.ref a) (some C) H):CXe P w outer H₀ s₀ E (.ref a) { s with heap:=h₂ }:=by
 have hst:=I.stack;have hfree:=I.stkFree;have hok:=I.hok;have hsub:∀b∈frs outer,b∈frs (envOfC qual scope s₀.heap.objs.size f cd::outer):=fun b hb=>by
  obtain⟨env,he,hf⟩:=jD.mp hb;exact jD.mpr ⟨env,hU _ he,hf⟩
 have hown:∀b∈frs (envOfC qual scope s₀.heap.objs.size f cd::outer),b=s₀.heap.objs.size\/b∈frs outer:=fun b hb=>by
  obtain⟨env,he,hf⟩:=jD.mp hb;rcases ic.mp he with rfl|he
  ·exact .inl (iB hf).symm
  ·exact .inr (jD.mpr ⟨env,he,hf⟩)
 have out:∀{b:Addr},b≠a->b≠T->b≠B->b∉frs (envOfC qual scope s₀.heap.objs.size f cd::outer)->b∉B::a::T::frs (envOfC qual scope s₀.heap.objs.size f cd::outer):=fun {b} z1 z2 z4 z3 z=>by
  rcases ic.mp z with z|z
  ·exact z4 z
  ·rcases ic.mp z with z|z
   ·exact z1 z
   ·rcases ic.mp z with z|z
    ·exact z2 z
    ·exact z3 z
 have keep:∀b o,s.heap.get? b=some o->b≠a->b≠T->b≠B->b∉frs (envOfC qual scope s₀.heap.objs.size f cd::outer)->h₂.get? b=some o:=fun b o q z1 z2 z4 z3=>f1 b o (kC _ q (out z1 z2 z4 z3));have ne:∀{c:Addr},s₀.heap.get? c=none->∀b o,s₀.heap.get? b=some o->b≠c:=fun {c} hc b o q z=>by rw[z,hc] at q;cases q
 have neL:∀b o,s₀.heap.get? b=some o->b≠s₀.heap.objs.size:=fun b o z=>iC (ii z);obtain⟨oe',vs',T',oT',ts',a0',he',hcls',hd',h0',h2',h1',hnT',hTe',hT',hdT',h3'⟩:=f4;have far:∀o,s.heap.get? T'=some o->T'≠a->T'≠T->T'≠B->False:=fun o q z1 z2 z4=>by
  by_cases n:T'∈frs (envOfC qual scope s₀.heap.objs.size f cd::outer)
  ·obtain⟨_,o',ho',hdn⟩:=Heap.FunFrames.mem hst n;rw[q] at ho';cases ho';obtain⟨sl,z⟩:=slot T' o q n;rw[hT'] at z;cases z;exact hdn ts' hdT'
  ·rw[kC _ q (out z1 z2 z4 n)] at hnT';cases hnT'
 have e1:s₀.heap.get? T'=none:=by
  cases q:s₀.heap.get? T' with
  |none=>rfl
  |some o=>
   obtain⟨o',z'⟩:=I.base.there T' o q (fun y=>nomatch y);exact(far o' z' (ne n1 _ _ q) (ne n2 _ _ q) (ne hB2 _ _ q)).elim
 have e2:H T'=none:=by
  cases q:H T' with
  |none=>rfl
  |some u=>
   cases z:s.heap.get? T' with
   |none=>rw[yk hok z] at q;cases q
   |some o=>exact(far o z (fun y=>by rw[y,n3] at q;cases q) (fun y=>by rw[y,n4] at q;cases q) (fun y=>by rw[y,hB1] at q;cases q)).elim
 refine⟨a,C,T',H,rfl,I.os,I.bare,⟨fun b o q n hb hx=>?_,fun b o q n hb hx=>?_,fun b o q n hx=>I.base.free b o q n (fun y=>nomatch y),fun b o q hx=>?_,I.base.tups,I.base.frzs,I.base.tbls⟩,?_,
  ⟨n1,e1,n3,e2,hTe',oe',vs',oT',ts',_,he',hcls',hd',h0',h1',hT',hdT',h3',h2'⟩,hE⟩
 ·exact keep b o (I.base.keep b o q n hb (fun y=>nomatch y)) (ne n1 _ _ q) (ne n2 _ _ q) (ne hB2 _ _ q) fun z=>(hown b z).elim (neL b o q) hb
 ·obtain⟨sl,q1⟩:=I.base.slot b o q n hb (fun y=>nomatch y);obtain⟨sl2,q2⟩:=slot b _ q1 (hsub b hb);exact⟨sl2,q2⟩
 ·obtain⟨o',q1⟩:=I.base.there b o q (fun y=>nomatch y)
  by_cases n:b∈frs (envOfC qual scope s₀.heap.objs.size f cd::outer)
  ·obtain⟨sl,q2⟩:=slot b o' q1 n;exact⟨_,q2⟩
  ·exact⟨o',keep b o' q1 (ne n1 _ _ q) (ne n2 _ _ q) (ne hB2 _ _ q) n⟩
 ·refine zk hok fun b o hb q=>keep b o q (fun z=>?_) (fun z=>?_) (fun z=>?_) fun z=>?_
  ·rw[z,n3] at hb;cases hb
  ·rw[z,n4] at hb;cases hb
  ·rw[z,hB1] at hb;cases hb
  ·rw[hfree b z] at hb;cases hb
theorem xJ{h:Heap}{l:List Addr}:(W.hideAll h l).StaysIn h:=fun b o q=>W.of_hideAll _ q
theorem slot_of{h h1 h2 base:Heap}{l:List Env}(hst:h.FunFrames base l)(k:∀b o,h.get? b=some o->(∀vs,o.data≠.fields vs)->∃sl,h1.get? b=some { o with slots:=sl })(up:h1.UpToSlots h2) :
  ∀b o,h.get? b=some o->b∈frs l->∃sl,h2.get? b=some { o with slots:=sl }:=fun b o q n=>by
 obtain⟨_,o',ho',hdn⟩:=Heap.FunFrames.mem hst n;rw[q] at ho';cases ho';obtain⟨sl,q1⟩:=k b o q hdn;obtain⟨sl2,q2⟩:=up b _ q1 hdn;exact⟨sl2,q2⟩
theorem vH{gE:List (Addr×Obj)}{σ:St}{H:Hp}{s:Shared}{h':Heap}{e C:Addr}{vs:List Value}(I:Inv (UU (CXe P w) P w K mg base N qual scope f cd A outer s₀ H₀ E) gE σ H s)
  (hm:Heap.MadeExcOf s.heap h' e (.ref C) vs) (hE:E (.ref e) (some C) H):(UU (CXe P w) P w K mg base N qual scope f cd A outer s₀ H₀ E).xe (.ref e) { s with heap:=h' }:=by
 show wpAny (model P w) (A.deeper (envOfC qual scope s₀.heap.objs.size f cd)) (leaving (envOfC qual scope s₀.heap.objs.size f cd) (.ref e)) _ _ _
 have hst:=I.stack;have ne0:s₀.heap.get? e=none:=by
  cases z:s₀.heap.get? e with
  |none=>rfl
  |some o=>
   obtain⟨o',z'⟩:=I.base.there e o z (by exact(fun y=>nomatch y));rw[hm.new] at z';cases z'
 refine yy (base:=W.hideAll s.heap (e::e::e::frs (envOfC qual scope s₀.heap.objs.size f cd::outer))) (h:=s.heap) (outer:=outer) (L:=s₀.heap.objs.size) I.ok.frames rfl xJ
  (kY hst fun env he b hb=>.tail _ (.tail _ (.tail _ (yX he hb)))) hm fun h₂ ⟨f1,f2,f3,f4⟩ hup=>?_
 have hH:=yk I.hok hm.new
 show CXe P w outer H₀ s₀ E (.ref e) { s with heap:=h₂ }
 exact left_cx (s:=s) I ne0 ne0 hH hH hH ne0 f1 (slot_of hst (fun b o q _=>⟨o.slots,hm.keeps b o q⟩) hup) f4 hE
end
section
variable{K:W.Frag}{mg:Str->Option Value}{base:Heap}{x:Str}{C:Addr}{bmB:List Value}{newId:String}
theorem exc_own(M:Mod K mg base)(hm:mg x=some (.ref C))(q:W.excIn K C bmB newId=true):OwnCls x C bmB newId mg base:=by
 refine⟨hm,?_⟩;have X:=M.kin;unfold W.excIn at q
 split at q
 case h_2=>cases q
 case h_1 dd cd sl ho=>
  split at q
  case h_2=>cases q
  case h_1 C' bm k0 k1 k2 k3 n k5 hmro hs=>
   simp only[iN,jp,Bool.not_eq_true'] at q;obtain⟨⟨⟨⟨⟨e1,e2⟩,e3⟩,e4⟩,e5⟩,e6⟩:=q;subst e1 e2;cases cd with
   |mk nm bs mro ns qn hdc sn sub ab col del=>
    dsimp only at hmro e3 e5 e6;subst hmro e3;cases sl with
    |mk l=>
     dsimp only at hs;subst hs;exact⟨bm,ns,nm,qn,bs,hdc,sn,sub,ab,col,dd,k0,k1,k2,k3,k5,_,X _ _ ho,.of_isNs (W.isNs_of_in X e5),W.nsMap_none_of_in X e5 e6,W.tail_of_in X e4⟩
end
def Raises(X:Cx)(E:XK):Prop:=∀(gE:List (Addr×Obj)) (σ:St) (H:Hp) (s:Shared) (h':Heap) (e C:Addr) (vs:List Value),Inv X gE σ H s->Heap.MadeExcOf s.heap h' e (.ref C) vs->E (.ref e) (some C) H->X.xe (.ref e) { s with heap:=h' }
section
variable{X:Cx}{x:Str}{C:Addr}{e:Expr}{es:List Expr}{t:TA}{E:XK}{B newId initId:String}{bmB:List Value}{np cpos pos:Pos}
def tRaise(C:Addr)(E:XK)(t:TA):L2.TS:=fun _ σ H=>t σ H fun vs H1=>vs.length<=1000/\∀a,E (.ref a) (some C) H1
theorem ps_raise(hr:Raises X E)(hh:X.calm=true)(hg:Gl X x)(hm:X.mg x=some (.ref C))(q:W.excIn X.K C bmB newId=true)(FB:ExcBaseFacts B newId initId bmB)(ha:PA X (e::es) t)
  (hdb:(x==("__debug__" : Str))=false:=by decide) (he:starEach (e::es) X.env=(false,eval e X.env)::starEach es X.env:=by rfl) (hpl:(backTo cpos (starEach es X.env)).any (·.1)=false:=by rfl) :
  PS X (.Raise (some (.Call (.Name x np) (e::es) [] cpos)) none pos) (tRaise C E t):=by
 intro gE s σ H D I h;have OC:OwnCls x C bmB newId X.mg X.base:=exc_own I.ok.mod hm q;obtain⟨tl,N,nm,qn,bs,hdct,sn,sub,ab,col,dd,k0,k1,k2,k3,k5,mN,hC,hN,hni,T⟩:=OC.obj;refine wpAny_Raise_call_subT (C:=C) (nm:=nm) (q:=qn) (N:=N) (bs:=bs) (bm:=tl) (hdct:=hdct) (sn:=sn) (sub:=sub) (ab:=ab) (col:=col) (dd:=dd) (k0:=k0) (k1:=k1) (k2:=k2) (k3:=k3) (k5:=k5)
  FB (mN:=mN) (T.hasType FB.hasBase) (I.ok.hd hh) (by rw[he];show(false||(backTo cpos (starEach es X.env)).any (·.1))=false;rw[hpl];rfl) hni (Vz I hg hm ⟨rfl,?_⟩ hdb)
 have h2:=ha cpos gE s σ H _ I h;rw[he] at h2 ⊢;refine Calls.evalArgs_plain (i4 h2 (fun us s2 h3=>?_) fun _ _ y=>y);obtain⟨vs,H1,I1,r,hl,hE⟩:=h3;refine⟨rfl,by rw[<- r.length,gU];omega,I1.bk _ _ hC,hN.keeps I1.bk,T.keeps I1.bk,fun h' a hma=>hr gE σ H1 s2 h' a C us I1 hma (hE a)⟩
end
abbrev XS:=Value->Option Addr->L2.St->Hp->Prop
def XP(X:Cx)(gE:List (Addr×Obj))(E:XS)(e:Value)(s':Shared):Prop:=∃σ H s,L2.Inv X gE σ H s/\CXe X.prog X.w X.stack H s (fun e c H'=>E e c σ H') e s'
def PEx(X:Cx)(ex:Expr)(t:L2.St->Hp->VK->XK->Prop):Prop:=
 ∀(gE:List (Addr×Obj)) (s:Shared) (σ:L2.St) (H:Hp) (Q:VK) (E:XK),L2.Inv X gE σ H s->t σ H Q E->wpAny (model X.prog X.w) X.A (eval ex X.env) (EP X gE σ Q) (XP X gE fun e c σ' H'=>σ'=σ/\E e c H') s
def PSx(X:Cx)(b:List Stmt)(t:L2.Ends->XS->L2.St->Hp->Prop):Prop:=
 ∀(gE:List (Addr×Obj)) (s:Shared) (σ:L2.St) (H:Hp) (D:L2.Ends) (E:XS),L2.Inv X gE σ H s->t D E σ H->wpAny (model X.prog X.w) X.A (execs b X.env) (SP X gE D) (XP X gE E) s
section
variable{X:Cx}{k:Nat}{f C:Addr}{fd:FuncData}{ps:List Str}{sp:Sp}{x:Str}{p pos:Pos}{e:Expr}{es:List Expr}{t:TA}
def tDropX(te:L2.St->Hp->VK->XK->Prop):L2.Ends->XS->L2.St->Hp->Prop:=fun D E σ H=>te σ H (fun _ H1=>D.nx σ H1) (fun e c H1=>E e c σ H1)
theorem xp_mono{gE:List (Addr×Obj)}{E E':XS}(h:∀e c σ H,E e c σ H->E' e c σ H){v:Value}{s':Shared}(x:XP X gE E v s'):XP X gE E' v s':=by
 obtain⟨σ,H,s,I,a,C,T,H',e1,e2,e3,e4,e5,e6,e7⟩:=x;exact⟨σ,H,s,I,a,C,T,H',e1,e2,e3,e4,e5,e6,h _ _ _ _ e7⟩
theorem psx_expr{te:L2.St->Hp->VK->XK->Prop}(h0:PEx X e te)(hs:swapsWith e none pos.line X.env=pure false:=by rfl):PSx X [.Expr e pos] (tDropX te):=by
 intro gE s σ H D E I h;refine wpAny_execs_cons (wpAny_Expr_any (i4 (h0 gE s σ H _ _ I h) (fun v s1 h1=>?_) fun v s1 z=>?_) I.quiet hs)
 ·obtain⟨y,H1,I1,r1,q1⟩:=h1;exact jP ⟨σ,H1,I1,q1⟩
 ·exact xp_mono (fun e c σ' H' ⟨q1,q2⟩=>by subst q1;exact q2) z
end
section
variable{X:Cx}{gE:List (Addr×Obj)}{σ:L2.St}{H:Hp}{s:Shared}
abbrev _root_.L2.Cx.caught(X:Cx)(a:Addr):Cx:={ X with A:=X.A.mark (some (.ref a)),calm:=false,xe:=fun _ _=>False }
theorem qv(I:L2.Inv X gE σ H s)(a:Addr):L2.Inv (X.caught a) gE σ H s:=
 ⟨⟨I.ok.mod,I.ok.kind,I.ok.glob,I.ok.blt,I.ok.above,I.ok.inj,I.ok.has,I.ok.cab,fun z=>(nomatch z),I.ok.frames,I.ok.stk,I.ok.exf,I.ok.bs,I.ok.bsz,I.ok.noex,I.ok.exfs,I.ok.funs,I.ok.frf⟩,I.os,I.bare,I.base,I.loc,I.cell,I.free,I.freeC,I.pin,I.hok,I.len⟩
theorem Vx{M:Model}{A:Around}{E:Value->Shared->Prop}{i:Nat}{n:Str}{pos:Pos}{Q:Unit->Shared->Prop}(I:L2.Inv X gE σ H s)(hN:X.N.Nodup)(hi:X.N[i]?=some n)(hl:X.env.scope.names.lookup n=some .local)
  (h:∀s',L2.Inv X gE (σ.set i none) H s'->Q () s'):wpAny M A (do bindName X.env n .none;unbindBehindTheSuite X.env n pos) Q E s:=by
 obtain⟨m,hn,hlk⟩:=id I.loc;have hcls:(X.env.scope.kind==.class||(X.env.scope.kind==.module&&X.env.locals != X.env.globals))=false:=by rw[I.ok.kind];rfl
 refine wpAny_nameGoes_keeps hl hn hcls fun h' v hn' hs=>?_;have hnone:H X.env.locals=none:=I.free;have up:∀b o,X.s₀.heap.get? b=some o->h'.get? b=s.heap.get? b:=fun b o e=>hs.2 b (iC (iP (ii e) I.ok.above));refine h _ ⟨I.ok,I.os,I.bare,⟨fun b o e z hb hx=>?_,fun b o e z hb hx=>?_,I.base.free,fun b o e hx=>?_,I.base.tups,I.base.frzs,I.base.tbls⟩,⟨_,hn',fun j y v' e1 e2 e3=>?_⟩,fun y c e=>?_,I.free,I.freeC,fun p hp=>?_,?_,?_⟩
 ·exact(up b o e).trans (I.base.keep b o e z hb hx)
 ·obtain⟨sl,e1⟩:=I.base.slot b o e z hb hx;exact⟨sl,(up b o e).trans e1⟩
 ·obtain⟨o',e1⟩:=I.base.there b o e hx;exact⟨o',(up b o e).trans e1⟩
 ·by_cases hj:j=i
  ·subst hj;rw[List.getElem?_set] at e2
   split at e2
   ·split at e2<;>cases e2
   ·exact absurd rfl ‹_›
  ·rw[kR (ie hj)] at e2;obtain⟨u',r',q⟩:=hlk j y v' e1 e2 e3;refine⟨u',r',?_⟩;rcases q with⟨k,e⟩|⟨k,c,e,z⟩
   ·refine .inl ⟨k,?_⟩;have:y≠n:=fun e=>hj (qG hN e1 (e▸hi));simp[this,e]
   ·exact .inr ⟨k,c,e,z.sameBut hs (I.cne y c e)⟩
 ·obtain⟨w',z⟩:=I.cell y c e;exact⟨w',z.sameBut hs (I.cne y c e)⟩
 ·obtain⟨e,z,ne,nf,d⟩:=I.pin p hp;exact⟨(hs.2 p.1 ne).trans e,z,ne,nf,d⟩
 ·refine zk I.hok fun b o hb q=>(hs.2 b fun z=>?_).trans q;rw[z,hnone] at hb;cases hb
 ·rw[List.length_set];exact I.len
end
def XcAt(a C:Addr)(h:Heap):Prop:=∃o vs,h.get? a=some o/\o.cls=.ref C/\o.data=.fields vs/\vs[2]?=some .none
def XcO(a C:Addr):HO:=.ext (XcAt a C)
theorem xc_ok{P:Program}{w:World}{H:Hp}{h:Heap}{a C:Addr}(x:XcAt a C h):Yx P w H h a (XcO a C):=by
 obtain⟨o,vs,e,c,d,z⟩:=x;exact⟨⟨o,vs,e,c,d,z⟩,⟨o,e⟩,fun h1 h2 ⟨o',vs',e',c',d'⟩ k=>⟨o',vs',k _ e',c',d'⟩⟩
section
variable{X:Cx}{gE:List (Addr×Obj)}{σ:L2.St}{H H':Hp}{s s':Shared}{a C T:Addr}
theorem landed_un{h₅:Heap}(I:L2.Inv X gE σ H s)(hos:s'.os=s.os)(hba:AllBare s'.gens)(hun:Un (frs X.stack) [] H H' s.heap s'.heap)(hok:HOk X.prog X.w H' s'.heap)(fly:FlyN s.heap H' s'.heap a C T)
  (fl:FlV (W.hideAll s'.heap (a::T::frs X.stack)) X.stack a (.ref C) .none h₅) (up:s'.heap.UpToSlots h₅) :
  Un (frs X.stack) [] H H' s.heap h₅/\HOk X.prog X.w H' h₅:=by
 have I':L2.Inv X gE σ H' s':=I.call' hos hun hok hba (fun b z=>nomatch z);obtain⟨f1,f2,f3,f4⟩:=fl;obtain⟨n1,n2,n3,n4,_,_⟩:=fly;have keep:∀b o,s'.heap.get? b=some o->b≠a->b≠T->b∉frs X.stack->h₅.get? b=some o:=fun b o q z1 z2 z3=>f1 b o (kC _ q fun z=>by
  rcases ic.mp z with z|z
  ·exact z1 z
  ·rcases ic.mp z with z|z
   ·exact z2 z
   ·exact z3 z)
 have slot:∀b o,s'.heap.get? b=some o->b∈frs X.stack->∃sl,h₅.get? b=some { o with slots:=sl }:=fun b o q n=>by
  obtain⟨_,o',ho',hd⟩:=Heap.FunFrames.mem I'.stack n;rw[q] at ho';cases ho';exact up b o q hd
 have na:∀b o,s.heap.get? b=some o->b≠a:=fun b o q z=>by rw[z,n1] at q;cases q
 have nT:∀b o,s.heap.get? b=some o->b≠T:=fun b o q z=>by rw[z,n2] at q;cases q
 refine⟨⟨fun b o q n hb hx=>?_,fun b o q n hb hx=>?_,fun b o q n hx=>hun.free b o q n hx,fun b o q hx=>?_,hun.tups,hun.frzs,hun.tbls⟩,?_⟩
 ·exact keep b o (hun.keep b o q n hb hx) (na b o q) (nT b o q) hb
 ·obtain⟨sl,q1⟩:=hun.slot b o q n hb hx;obtain⟨sl2,q2⟩:=slot b _ q1 hb;exact⟨sl2,q2⟩
 ·obtain⟨o',q1⟩:=hun.there b o q hx
  by_cases n:b∈frs X.stack
  ·obtain⟨sl,q2⟩:=slot b o' q1 n;exact⟨_,q2⟩
  ·exact⟨o',keep b o' q1 (na b o q) (nT b o q) n⟩
 ·refine zk hok fun b o hb q=>keep b o q (fun z=>?_) (fun z=>?_) fun z=>?_
  ·rw[z,n3] at hb;cases hb
  ·rw[z,n4] at hb;cases hb
  ·rw[I'.stkFree b z] at hb;cases hb
theorem qo{h₅:Heap}{tk:Nat}(I:L2.Inv X gE σ H s)(hos:s'.os=s.os)(hba:AllBare s'.gens)(hun:Un (frs X.stack) [] H H' s.heap s'.heap)(hok:HOk X.prog X.w H' s'.heap)(fly:FlyN s.heap H' s'.heap a C T)
  (fl:FlV (W.hideAll s'.heap (a::T::frs X.stack)) X.stack a (.ref C) .none h₅) (up:s'.heap.UpToSlots h₅):L2.Inv X gE σ (upd H' a (XcO a C)) { s' with heap:=h₅ }:=by
 obtain⟨u,hk⟩:=landed_un I hos hba hun hok fly fl up;obtain⟨n1,n2,n3,n4,_,_⟩:=fly;obtain⟨_,_,_,oe,vs,_,_,_,_,he,hc,hd,_,h2,_⟩:=id fl;have ne:∀b u,H' b=some u->b≠a:=fun b u q z=>by rw[z,n3] at q;cases q
 have hk2:HOk X.prog X.w (upd H' a (XcO a C)) h₅:=fun b o q=>by
  by_cases hb:b=a
  ·subst hb;rw[Zf] at q;cases q;exact xc_ok ⟨oe,vs,he,hc,hd,h2⟩
  ·rw[ZS hb] at q;exact(hk b o q).stay (fun c u _ z=>z) (fun c z=>by rw[ZS (ne c _ z)];exact z) fun c xs z=>by rw[ZS (ne c _ z)];exact z
 refine I.call' (s':={ s' with heap:=h₅ }) hos ⟨u.keep,u.slot,fun b o q n hx=>?_,u.there,fun b xs q=>?_,fun b o w q=>?_,fun b ps q=>?_⟩ hk2 hba (fun b z=>nomatch z)
 ·have:b≠a:=fun z=>by rw[z,n1] at q;cases q
  rw[ZS this];exact u.free b o q n hx
 ·have z:=u.tups b xs q;rw[ZS (ne b _ z)];exact z
 ·have z:=u.frzs b o w q;rw[ZS (ne b _ z)];exact z
 ·obtain⟨more,z⟩:=u.tbls b ps q;exact⟨more,by rw[ZS (ne b _ z)];exact z⟩
end
section
variable{X:Cx}{i:Nat}{n cn:Str}{D:Addr}{b₀:Stmt}{body suite:List Stmt}{np hpos pos:Pos}
def tTry(K:W.Frag)(D:Addr)(i:Nat)(tb:L2.Ends->XS->L2.St->Hp->Prop)(th:Addr->L2.TS):L2.TS:=fun Ds σ H=>
 tb Ds (fun e c σ1 H1=>∃a C,e=.ref a/\c=some C/\W.exmOne K (.ref C) (.ref D)=some true/\(H1 a=none ->
  th a { nx:=fun σ2 H2=>Ds.nx (σ2.set i none) H2,rt:=Ds.rt,bk:=fun σ2 H2=>Ds.bk (σ2.set i none) H2,ct:=fun σ2 H2=>Ds.ct (σ2.set i none) H2 } (σ1.set i (some (.ref a))) (upd H1 a (XcO a C)))) σ H
theorem ps_try{tb:L2.Ends->XS->L2.St->Hp->Prop}{th:Addr->L2.TS}(hst:X.stack=X.env::X.outer)(hfr:X.env.frame=some X.env.locals)(hN:X.N.Nodup)(hi:X.N[i]?=some n)(hl:X.env.scope.names.lookup n=some .local)
  (hg:Gl X cn) (hm:X.mg cn=some (.ref D)) (hb:PSx X body tb) (hs:∀a,PSs (X.caught a) (b₀::suite) (th a)) (hdb:(cn==("__debug__" : Str))=false:=by decide) :
  PS X (.Try body [.ExceptHandler (some (.Name cn np)) (some n) (b₀::suite) hpos] [] [] pos) (tTry X.K D i tb th):=by
 intro gE s σ H Ds I h;refine wpAny_Try_except (i4 (hb gE s σ H Ds _ I h) (fun f s1 h1=>?_) fun v s1 h1=>?_)
 ·cases f with
  |next=>exact jP h1
  |ret u=>exact h1
  |brk=>exact h1
  |cont=>exact h1
 ·obtain⟨σ1,H0,s0,I0,a,C,T,H',rfl,hos,hba,hun,hok,fly,a',C',ea,ec,hx,hE⟩:=h1;cases ea;cases ec;have I':L2.Inv X gE σ1 H' s1:=I0.call' hos hun hok hba (fun b z=>nomatch z);obtain⟨n1,n2,n3,n4,nTa,oe,vs,oT,ts,a0,he,hc,hd,h0,hT1,hT,hdT,h3,h2⟩:=id fly;have fl1:FlV (W.hideAll s1.heap (a::T::frs X.stack)) X.stack a (.ref C) .none s1.heap:=
   ⟨fun b o q=>W.of_hideAll _ q,ka _ (.head _),kY I'.stack fun env hev b hbv=>.tail _ (.tail _ (yX hev hbv)),
    oe,vs,T,oT,ts,a0,he,hc,hd,h0,h2,hT1,ka _ (.tail _ (.head _)),nTa,hT,hdT,h3⟩
  rw[hst] at fl1;refine xT (L:=X.env.locals) (by rw[I.ok.frames,hst]) hfr fl1 fun h₄ hl₄ up₄=>?_;refine landV (s:={ s1 with heap:=h₄ }) hl₄ fun h₅ fl₅ up₅=>?_;have up5:=up₄.trans up₅;rw[<- hst] at fl₅;have J5:L2.Inv (X.caught a) gE σ1 (upd H' a (XcO a C)) { s1 with heap:=h₅ }:=qv (qo (tk:=0) I0 hos hba hun hok fly fl₅ up5) a;refine wpAny_handleBy_cons (codeAny_handlers_test (Vz (X:=X.caught a) J5 hg hm ?_ hdb)) (by intro q;cases q);obtain⟨_,_,_,ob,_,_,_,_,_,hob,hobc,_⟩:=id fl₅;have LT:W.Looks (model X.prog X.w) h₅ (typeOf (.ref a)) (.ref C):=hobc▸(W.Looks.ld hob).andThen .now;refine(W.exm_one (K:=X.K) J5.kIn LT hx).here ?_;refine codeAny_handlers_suite_as ?_;rw[hst] at fl₅;refine landV (s:={ s1 with heap:=h₅ }) fl₅ fun h₆ fl₆ up₆=>?_;rw[<- hst] at fl₆;have J6:L2.Inv (X.caught a) gE σ1 (upd H' a (XcO a C)) { s1 with heap:=h₆ }:=qv (qo (tk:=0) I0 hos hba hun hok fly fl₆ (up5.trans up₆)) a;refine qQ (X:=X.caught a) J6 hN hi (.inl hl) (show ZU (.ref a) (.ref a) from rfl) (fun s7 J7=>?_) (.inr hl);refine i4 (hs a gE s7 _ _ _ J7 (hE n3)) (fun f s8 h8=>?_) fun _ _ z=>False.elim z;have back:∀{σ2:L2.St}{H2:Hp},L2.Inv (X.caught a) gE σ2 H2 s8->L2.Inv X gE σ2 H2 s8:=fun J=>
   ⟨I.ok,J.os,J.bare,J.base,J.loc,J.cell,J.free,J.freeC,J.pin,J.hok,J.len⟩
  cases f with
  |next=>
   obtain⟨σ2,H2,J,q⟩:=h8;exact Vx (back J) hN hi hl fun s9 J9=>⟨_,_,J9,q⟩
  |brk=>
   obtain⟨σ2,H2,J,q⟩:=h8;exact Vx (back J) hN hi hl fun s9 J9=>⟨_,_,J9,q⟩
  |cont=>
   obtain⟨σ2,H2,J,q⟩:=h8;exact Vx (back J) hN hi hl fun s9 J9=>⟨_,_,J9,q⟩
  |ret u=>
   obtain⟨v,σ2,H2,J,rv,q⟩:=h8;exact Vx (back J) hN hi hl fun s9 J9=>⟨v,_,_,J9,rv,q⟩
end
end L3
namespace L3
open PySem PySem.Spec PySem.Calls PyProof.Rows PySem.W L2 Builtin Builtin.ObjectAttr Builtin.Getset_descriptor
section
variable{prog:Program}{w:PySem.World}{A:Around}{E:Value->Shared->Prop}{h:Heap}{g:Array GenState}{d:Drawn}{t:Nat}{os:OsState}{K:Frag}{a C:Addr}
theorem zC{tp:Value}{R:Result->Shared->Prop}(X:K.In h)(LT:Looks (model prog w) h (typeOf (.ref a)) (.ref C))(hm:mroIn K C (.type "object")=some true)
  (hq:R (.ok (.ret (.ref C))) ⟨h,g,d,t,os⟩):codeAny (model prog w) A (.call (.builtin "getset_descriptor.__get__") ⟨[.builtin "object.__class__",.ref a,tp],[]⟩) R ⟨h,g,d,t,os⟩:=by
 have L1:=looks_mroIn (M:=model prog w) X hm;refine codeAny_call_builtin KF.slot_gs.plain KF.entry_gs (KF.slot_gs.check _ _ _ _ _ _ _ _ KF.type_class (KF.args_gs _ _ _) ?_);unfold Builtin.«getset_descriptor.__get__» descrGet;rw[dga_obj];refine gW (gX ?_);unfold descrGetter descrCheckInstance descrNameAndClass isInstance;simp only[KF.owner_class]
 repeat lk
 refine⟨Code.quiet_builtin _ (by decide +kernel),codeAny_builtin KF.entry_class ?_⟩;unfold Builtin.«object.__class__» shownTypeOf
 repeat lk
 exact hq
theorem zl(X:K.In h)(ha:findIn K (.ref C) "__class__" = some (some (.builtin "object.__class__")))(hn:specialIn K (.builtin "object.__class__") "__get__" = some (some (.builtin "getset_descriptor.__get__")))
  (htk:takesIn K (.builtin "object.__class__")=some true):Looks (model prog w) h (find (.ref a) (.ref C) "__class__") (.bind (.builtin "getset_descriptor.__get__") (.builtin "object.__class__")):=by
 have L1:=looks_findIn (M:=model prog w) X ha;have L2:Looks (model prog w) h (getOf (some (.builtin "object.__class__"))) (some (.builtin "getset_descriptor.__get__")):=looks_specialIn X hn;have L3:=looks_takesIn (M:=model prog w) X htk;refine L1.andThen (L2.andThen ?_);exact(show Looks (model prog w) h (dataDescriptor? (some (.builtin "object.__class__")) (some (.builtin "getset_descriptor.__get__"))) (some (.builtin "getset_descriptor.__get__",.builtin "object.__class__")) from L3.andThen .now).andThen (Looks.tag .now)
theorem qd{tk:Tok}{Q:Fin->Shared->Prop}(X:K.In h)(LT:Looks (model prog w) h (typeOf (.ref a)) (.ref C))(hm:mroIn K C (.type "object")=some true)
  (ha:findIn K (.ref C) "__class__" = some (some (.builtin "object.__class__"))) (hn:specialIn K (.builtin "object.__class__") "__get__" = some (some (.builtin "getset_descriptor.__get__"))) (htk:takesIn K (.builtin "object.__class__")=some true)
  (hq:Q (.done (.ret (.ref C))) ⟨h,g,d,t,os⟩):wpAny (model prog w) A (Builtin.«object.__getattribute__» ⟨[.ref a,.str "__class__" tk],[]⟩) Q E ⟨h,g,d,t,os⟩:=by
 have LF:=zl (prog:=prog) (w:=w) (a:=a) X ha hn htk;refine gW (gX (gW (gX (gW (LT.at (gW (LF.at ?_)))))))
 show wpAny _ _ (holding [_] (call (.builtin "getset_descriptor.__get__") [.builtin "object.__class__",.ref a,.ref C]) >>= ret) _ _ _
 exact gW (ji (wpAny_call (zC X LT hm (gX hq))))
theorem zc{tk:Tok}{R:Result->Shared->Prop}(X:K.In h)(LT:Looks (model prog w) h (typeOf (.ref a)) (.ref C))(hm:mroIn K C (.type "object")=some true)(hbe:mroIn K C (.type "BaseException")=some true)
  (ha:findIn K (.ref C) "__class__" = some (some (.builtin "object.__class__"))) (hn:specialIn K (.builtin "object.__class__") "__get__" = some (some (.builtin "getset_descriptor.__get__"))) (htk:takesIn K (.builtin "object.__class__")=some true)
  (hq:R (.ok (.ret (.ref C))) ⟨h,g,d,t,os⟩):codeAny (model prog w) A (.call (.builtin "BaseException.__getattribute__") ⟨[.ref a,.str "__class__" tk],[]⟩) R ⟨h,g,d,t,os⟩:=by
 have hk:builtinKind "BaseException.__getattribute__" = some .slot:=by decide +kernel
 have hsplit:splitId "BaseException.__getattribute__" = some ("BaseException", "__getattribute__"):=by decide +kernel
 have LB:Looks (model prog w) h (isInstance (.ref a) (.type "BaseException")) true:=LT.andThen (looks_mroIn (M:=model prog w) X hbe);have hargs:=F.args_bexc_ga (.ref a) (.str "__class__" tk);refine codeAny_call_builtin F.excAttr_ValueError.ga.plain F.entry_bexc_ga ?_;simp only[checkBuiltinCall,hk,hsplit];refine gW (LB.at ?_);refine wpAny_of_eq (a:=()) (by first|exact hargs|simpa using hargs) ?_;exact qd X LT hm ha hn htk hq
theorem qW{Q:Option Value->Shared->Prop}(X:K.In h)(LT:Looks (model prog w) h (typeOf (.ref a)) (.ref C))(hga:findIn K (.ref C) "__getattribute__" = some (some (.builtin "BaseException.__getattribute__")))
  (hgh:findIn K (.ref C) "__getattr__" = some none) (hm:mroIn K C (.type "object")=some true) (hbe:mroIn K C (.type "BaseException")=some true)
  (ha:findIn K (.ref C) "__class__" = some (some (.builtin "object.__class__"))) (hn:specialIn K (.builtin "object.__class__") "__get__" = some (some (.builtin "getset_descriptor.__get__"))) (htk:takesIn K (.builtin "object.__class__")=some true)
  (hq:Q (some (.ref C)) ⟨h,g,d,t+1,os⟩):wpAny (model prog w) A (getAttr? (.ref a) "__class__") Q E ⟨h,g,d,t,os⟩:=by
 have L1:=looks_findIn (M:=model prog w) X hga;have L2:=looks_findIn (M:=model prog w) X hgh;have hbs:=F.excAttr_ValueError.ga.bind (.ref a);have hx2:(Value.builtin "BaseException.__getattribute__" == Value.builtin "object.__getattribute__")=false:=by decide +kernel
 unfold getAttr? getAttrBy? getAttrBy;refine gW (wpAny_mkText (gW (wpAny_attempt (ji (gW (LT.at (gW (L1.at ?_))))))));dsimp only;rw[hx2,jv,if_neg iy];unfold getAttrByItsOwn hookBefore;rw[if_pos (show onTheHeap (.ref C)=true from rfl)];refine gW (L2.at (gW (wpAny_attempt (ji ?_))));unfold callGetattribute boundAndCalled;rw[kc,if_neg iy,hbs];refine gW (gX ?_);refine wpAny_call (zc X LT hm hbe ha hn htk ?_);exact gX (gX hq)
structure ExcK(K:Frag)(C:Addr):Prop where
 ga:findIn K (.ref C) "__getattribute__" = some (some (.builtin "BaseException.__getattribute__"))
 gh:findIn K (.ref C) "__getattr__" = some none
 ob:mroIn K C (.type "object")=some true
 be:mroIn K C (.type "BaseException")=some true
 cl:findIn K (.ref C) "__class__" = some (some (.builtin "object.__class__"))
 gt:specialIn K (.builtin "object.__class__") "__get__" = some (some (.builtin "getset_descriptor.__get__"))
 tk:takesIn K (.builtin "object.__class__")=some true
 hd:hasDictIn K C=true
theorem xc_type{M:Model}(x:XcAt a C h):Looks M h (typeOf (.ref a)) (.ref C):=by
 obtain⟨o,vs,e,c,dd⟩:=x;exact c▸(Looks.ld e).andThen .now
theorem kitx_exc(B:ExcK K C):KitX K (.ref a) (.ref C) (XcAt a C) where
 ty:=fun _ _ _ x=>xc_type x
 it:=fun _ _ X _=>by
  obtain⟨cdD,hcD,_⟩:=any_some B.hd;unfold clsIn at hcD
  split at hcD
  ·rename_i c' d' cd' sl' ho
   intro A' Q' E' s' k q;unfold isType loadHead;exact gW (wpAny_loadPart (k _ _ (X _ _ ho)) (gX q))
  ·cases hcD
 ne:=fun h tp dd its n sl X htp=>by
  obtain⟨cdD,hcD,_⟩:=any_some B.hd;refine Bool.eq_false_iff.mpr fun q=>?_;have e:C=tp:=Value.ref.inj (jp.mp q);subst e;unfold clsIn at hcD
  split at hcD
  ·rename_i c' d' cd' sl' ho
   have z:=(X _ _ ho).symm.trans htp;cases z
  ·cases hcD
 ca:=fun {prog w A E Q s} X x k=>by
  obtain⟨hh,g,d,t,os⟩:=s;exact qW X (xc_type x) B.ga B.gh B.ob B.be B.cl B.gt B.tk k
end
section
variable{X:Cx}
inductive rIsX_R(K:Frag)(c:V)(xs:List V)(H:Hp)(Q:VK):Prop
 |mk (p:_) (C:_) (u:_) (b:_) (h0:xs=[.ref p,c]) (h1:H p=some (XcO p C)) (h2:ExcK K C) (h3:ZU c u) (h4:kitOne K (.ref C) u=some b) (h5:Q (.bl b) H):rIsX_R K c xs H Q
def rIsX(K:Frag)(c:V):List V->Hp->VK->Prop:=fun xs H Q=>rIsX_R K c xs H Q
theorem relV_cls{c:V}{u v:Value}(h:ZU c u)(h2:ZU c v)(hc:(∃C,c=.ref C)\/∃n,c=.ty n):u=v:=by
 rcases hc with⟨C,rfl⟩|⟨n,rfl⟩
 ·exact(show u=Value.ref C from h).trans (show v=Value.ref C from h2).symm
 ·exact(show u=Value.type n from h).trans (show v=Value.type n from h2).symm
theorem xX{K:Frag}(hK:X.K=K){c:V}(hc:(∃C,c=.ref C)\/∃n,c=.ty n):YS X (.builtin "isinstance") (rIsX K c):=by
 subst hK;intro gE s σ H xs us Q I r h;obtain⟨p,C,u',b,rfl,hp,B,rc,hk,q⟩:=h;obtain⟨u,v,rfl,ru,rv⟩:=vals2 r;cases (show u=Value.ref p from ru);obtain rfl:=relV_cls rc rv hc;have x:XcAt p C s.heap:=(I.hok p _ hp).1;exact kia_one (kitx_exc (a:=p) B) I.kIn x hk (fun z=>nomatch z) fun tk=>⟨.bl b,H,I.tok _,rfl,q⟩
end
end L3
namespace L3
open PySem PySem.Spec PyProof.Rows L2
section
variable{P:Program}{w:World}{K:W.Frag}{mg:Str->Option Value}{base:Heap}
theorem fun_okX{x qual:Str}{st:Stmt}{f:Addr}{fd:FuncData}{N ps:List Str}{k:Nat}{sp:Sp}(F:Fun K x qual st f fd)(S:ZH N ps (Zi st))(len:∀vs H Q E,sp vs H Q E->vs.length=ps.length)
  (hbody:∀(gF:Value) (A:Around) (outer:List Env) (s:Shared) (H:Hp) (vs:List V) (Q:VK) (E:XK),YN k (A.deeper (envOfC qual (Zi st) s.heap.objs.size f gF))->sp vs H Q E ->
   ∃t,PSs (UU (CXe P w) P w K mg base N qual (Zi st) f gF A outer s H E) (ZC st) t/\t { nx:=fun _ H'=>Q .non H',rt:=Q } (Ur N vs) H):Yq P w K mg base (CXe P w) (k+1) f fd ps sp:=by
 obtain⟨oc,od,kV,doc,pm,an,gF,ct,osl,rfl,lk,hcd⟩:=F.ex;exact fn_of lk hcd S len fun A outer s H vs Q E hr hsp=>hbody gF A outer s H vs Q E hr hsp
end
section
variable{P:Program}{w:World}{K:W.Frag}{mg:Str->Option Value}{base:Heap}{N:List Str}{qual:Str}{scope:Scope}{f:Addr}{cd:Value}{A:Around}{outer:List Env}{s₀:Shared}{H₀:Hp}{E:XK}
theorem raises_cx:Raises (UU (CXe P w) P w K mg base N qual scope f cd A outer s₀ H₀ E) E:=fun gE σ H s h' e C vs I hm hE=>vH I hm hE
theorem passes_cx:VU (CXe P w) (UU (CXe P w) P w K mg base N qual scope f cd A outer s₀ H₀ E) E:=by
 intro gE σ H s e s' I hx;obtain⟨a,C,T,H',rfl,hos,hba,hun,hok,fly,hE⟩:=hx;have I':L2.Inv (UU (CXe P w) P w K mg base N qual scope f cd A outer s₀ H₀ E) gE σ H' s':=I.call' hos hun hok hba (fun b z=>nomatch z);obtain⟨n1,n2,n3,n4,nTa,oe,vs,oT,ts,a0,he,hc,hd,h0,hT1,hT,hdT,h3,h2⟩:=id fly
 show wpAny (model P w) (A.deeper (envOfC qual scope s₀.heap.objs.size f cd)) (leaving (envOfC qual scope s₀.heap.objs.size f cd) (.ref a)) _ _ _
 have hst:=I'.stack;have old:∀b,s.heap.get? b=none->s₀.heap.get? b=none:=fun b q=>by
  cases z:s₀.heap.get? b with
  |none=>rfl
  |some o=>
   obtain⟨o',z'⟩:=I.base.there b o z (fun y=>nomatch y);rw[q] at z';cases z'
 have fl1:FlV (W.hideAll s'.heap (a::a::T::frs (envOfC qual scope s₀.heap.objs.size f cd::outer))) (envOfC qual scope s₀.heap.objs.size f cd::outer) a (.ref C) .none s'.heap:=
  ⟨xJ,ka _ (.head _),kY hst fun env hev b hbv=>.tail _ (.tail _ (.tail _ (yX hev hbv))),
   oe,vs,T,oT,ts,a0,he,hc,hd,h0,h2,hT1,ka _ (.tail _ (.tail _ (.head _))),nTa,hT,hdT,h3⟩
 refine vJ (outer:=outer) (L:=s₀.heap.objs.size) I.ok.frames rfl fl1 fun h₂ fl₂ up=>?_;obtain⟨f1,f2,f3,f4⟩:=fl₂;exact left_cx I' (old a n1) (old T n2) n3 n4 n3 (old a n1) f1 (slot_of hst (fun b o q _=>⟨o.slots,q⟩) up) f4 hE
end
section
variable{X:Cx}{k:Nat}{f C:Addr}{fd:FuncData}{ps:List Str}{sp:Sp}{x:Str}{p pos:Pos}{e:Expr}{es:List Expr}{t:TA}
def tCallX(sp:Sp)(t:TA):L2.St->Hp->VK->XK->Prop:=fun σ H Q E=>t σ H fun vs H1=>sp vs H1 Q E
theorem pex_call(F:Yq X.prog X.w X.K X.mg X.base (CXe X.prog X.w) k f fd ps sp)(hr:YN k X.A)(hg:Gl X x)(hm:X.mg x=some (.ref f))(hk:W.keepIn X.K (.ref f)=true)(hb:ZV X.K fd ps [])(ha:PA X.nox (e::es) t)
  (hdb:(x==("__debug__" : Str))=false:=by decide) (he:starEach (e::es) X.env=(false,eval e X.env)::starEach es X.env:=by rfl) (hpl:(backTo pos (starEach es X.env)).any (·.1)=false:=by rfl) :
  PEx X (.Call (.Name x p) (e::es) [] pos) (tCallX sp t):=by
 intro gE s σ H Q E I h;refine jR (Vz I hg hm ?_ hdb);refine W.callWith_K (h₀:=X.base) I.ok.mod.kin hk (i4 (ha pos gE s σ H _ (I.wish _) h) (fun us s1 h1=>?_) fun _ _ z=>False.elim z) he hpl;obtain⟨vs,H1,I1',r,q⟩:=h1;have I1:L2.Inv X gE σ H1 s1:=I1'.unwish;refine⟨I1.kIn,?_⟩;have hl:(us++[]).length=ps.length:=by rw[iQ,<- r.length];exact F.len _ _ _ _ q
 have hbd:=hb s1 us I1.kIn hl;rw[iQ] at hbd;refine wpAny_call (codeAny_mono (F.run X.A X.stack s1 H1 ⟨us,[]⟩ us vs Q E hr I1.env0 hbd r q) fun res s' hq=>?_);cases res with
 |error v=>
  obtain⟨a,C',T,H',e1,e2,e3,e4,e5,e6,e7⟩:=hq;exact⟨σ,_,_,I1,a,C',T,H',e1,e2,e3,e4,e5,e6,rfl,e7⟩
 |ok fl=>
  cases fl with
  |ret u=>exact I1.after hq
  |next=>exact False.elim hq
  |brk=>exact False.elim hq
  |cont=>exact False.elim hq
end
section
variable{X:Cx}{e:Expr}{es:List Expr}{v:V}{vs:List V}{t:TA}
end
def starB:Expr->Bool
 |.Starred _ _=>true
 |_=>false
theorem star_c{e:Expr}{es:List Expr}{env:Env}(h:starB e=false):starEach (e::es) env=(false,eval e env)::starEach es env:=by
 cases e<;>first|rfl|cases h
theorem ZD{X:Cx}{e:Expr}{es:List Expr}{te:TE}{t:TA}(ha:PE X e te)(hr:PA X es t)(h:starB e=false:=by rfl):PA X (e::es) (Ui te t):=Zd ha hr (star_c h)
theorem ext_tup(l:Addr)(items:Array Value)(n:Nat)(b:Addr)(items2:Array Value)(n2:Nat)(dd:Option Addr)(sl:Array (Option Value))(hs0:¬(!items.isEmpty&&Builtin.List.listTooLong (items.size+items2.size))=true)(hs1:items.size<=sizeLine)(hs2:items.size+items2.size<=sizeLine+1) :
  Meets (Builtin.«list.extend» ⟨[.ref l,.ref b],[]⟩) (fun _ R s=>s.heap.get? l=some { cls:=.type "list",dict:=none,data:=.seq items n,slots:=#[] }/\s.heap.get? b=some { cls:=.type "tuple",dict:=dd,data:=.seq items2 n2,slots:=sl }/\R (.ok (.ret Value.none)) { s with heap:=s.heap.update l (Obj.mapSeq fun x=>x++items2),toks:=s.toks }):=
 .of_wp fun prog w A R s h=>by
  obtain⟨hp,g,d,tk,os⟩:=s;obtain⟨hl,hb,h⟩:=h;have f1:=AutoSeq1.idx_int;have f2:=AutoSeq1.sub_tuple_tuple;have f3:=AutoSeq1.sub_list_list;have f4:=AutoSeq1.sub_tuple_list;have f5:=AutoSeq1.sub_list_tuple;have hz':(items++items2).size<=sizeLine+1:=by rw[Array.size_append];exact hs2
  wp_walk using(ku hl rfl (hz:=hs1) (_hz':=hz')),wpAny_loadPart' hl,wpAny_loadPart' hb;exact⟨_,rfl,h⟩
section
variable{X:Cx}{K:W.Frag}
inductive zq(K:W.Frag)(x:V)(vs:List V)(H:Hp)(Q:VK):Prop
 |mk (l:_) (b:_) (xs:_) (zs:_) (h0:x=.ref l) (h1:vs=[.ref b]) (h2:H l=some (.lst xs)) (h3:SqT K H b zs) (h4:xs.length+zs.length<=sizeLine) (h5:Q .non (upd H l (.lst (xs++zs)))):zq K x vs H Q
def rExtendT(K:W.Frag):V->List V->Hp->VK->Prop:=fun x vs H Q=>zq K x vs H Q
theorem zr(hK:X.K=K):MtM X "list.extend" (rExtendT K):=by
 subst hK;intro gE s σ H x vs v us Q I rx rv h;obtain⟨l,b,xs,zs,rfl,rfl,hH,hB,hz,q⟩:=h;cases rx;obtain⟨u,rfl,ru⟩:=rv.one;cases ru;obtain⟨z,its,n,r,hl,e⟩:=I.lstM hH;obtain⟨its2,r2,⟨o,e2,hc,n2,hd⟩,z2⟩:=I.tuple hB;obtain⟨c,dd,da,sl⟩:=o;have hc':c=.type "tuple" := hc;have hd':da=.seq its2.toArray n2:=hd;subst hc' hd';have hl2:=r2.length;have hsz:its.toArray.size+its2.toArray.size<=sizeLine:=by rw[ij,ij];omega
 have hlong:¬(!its.toArray.isEmpty&&Builtin.List.listTooLong (its.toArray.size+its2.toArray.size))=true:=by
  rw[xu hsz,jv];exact iy
 refine call_meets F.slot_list_extend ⟨_,e,rfl⟩ F.entry_list_extend (F.args_list_extend_2 _ _)
  (ext_tup l its.toArray n b its2.toArray n2 dd sl hlong (by rw[ij];omega) (by omega)) ⟨e,e2,?_⟩
 refine⟨.non,_,I.lset (its':=its++its2) hH e (by simp) (r.append r2) ?_,rfl,q⟩;rw[hG];omega
end
theorem yM{sel:Nat->Bool}:∀(xs:List Value) (n k:Nat),(∀i,n<=i->i<n+xs.length->sel i=decide (n+k<=i))->((xs.zipIdx n).filterMap fun(x,i)=>if sel i=true then none else some x)=xs.take k
 |[],n,k,_=>by simp
 |x::r,n,k,h=>by
  have h0:=h n (gY _) (by simp);rw[List.zipIdx_cons,kE];cases k with
  |zero=>
   have e:sel n=true:=by rw[h0];simp
   simp only[e,jf];have:=yM (sel:=sel) r (n+1) 0 fun i h1 h2=>by rw[h i (by omega) (by simp;omega)];exact decide_eq_decide.mpr ⟨fun _=>by omega,fun _=>by omega⟩
   simpa using this
  |succ k=>
   have e:sel n=false:=by rw[h0];exact im (by omega)
   simp only[e,jo,iR];rw[List.take_succ_cons,yM (sel:=sel) r (n+1) k fun i h1 h2=>by rw[h i (by omega) (by simp;omega)];exact decide_eq_decide.mpr ⟨fun _=>by omega,fun _=>by omega⟩]
theorem del_from{prog:Program}{w:World}{A:Around}{E:Value->Shared->Prop}{s:Shared}{l sl:Addr}{items:Array Value}{n:Nat}{vl:Value}{k:Nat}{Q:Unit->Shared->Prop}(ho:s.heap.get? l=some { cls:=.type "list",data:=.seq items n })(hs:s.heap.IsSliceOf sl vl .none .none)(pl:IsPart vl (some (k:Int)))(hk:k<=items.size)(hsz:items.size<=sizeLine)
  (h:∀f:Array Value->Array Value,f items=(items.toList.take k).toArray->Q () { s with heap:=s.heap.update l (Obj.mapSeq f) }):wpAny (model prog w) A (delItem (.ref l) (.ref sl)) Q E s:=by
 have hT:s.TypeIs (.ref l) "list" := ⟨_,ho,rfl⟩;obtain⟨os,hos,hcs,hds⟩:=id hs;have hTs:s.TypeIs (.ref sl) "slice" := ⟨os,hos,hcs⟩;refine wpAny_delItem_slot hT (by decide) F.slot_list_delitem (kf F.slot_list_delitem hT F.entry_list_delitem ?_ (F.args_list_delitem_2 _ _))
 show wpAny _ _ (Builtin.List.listSubscript? (.ref sl) >>= _) _ _ s
 refine gW ?_;unfold Builtin.List.listSubscript?;refine gW (wpAny_specialOf hTs slice_no_index ?_);simp only[Option.isNone_none,jf];refine gX ?_
 show wpAny _ _ (typeOf (.ref sl) >>= _) _ _ s
 refine gW (wpAny_typeOf hTs ?_);rw[if_neg (by decide)];rw[listSliceParts_eq];refine gW (gW (jg hos hds (x:=.none) rfl (gW (wpAny_listPart .none ?_))));rw[if_neg (show ¬((rawPart none==rawInt 0)=true) from iy)];refine gW (jg hos hds (x:=vl) rfl (gW (wpAny_listPart pl ?_)));refine gW (jg hos hds (x:=.none) rfl (gW (wpAny_listPart .none (gX ?_))));refine gW (m:=Builtin.List.listItems (.ref l)) ?_;unfold Builtin.List.listItems;refine gW (jU ho rfl (gX ?_));have eb:sliceIndices (rawPart (some (k:Int))) (rawPart none) (rawPart none) items.size=pure ((k:Int),(items.size:Int),(1:Int)):=by
  rw[sliceIndices_raw _ _ _ _ (by simp)];have e1:(sliceBounds (some (k:Int)) none none items.size)=((k:Int),(items.size:Int),(1:Int)):=by
   unfold sliceBounds;simp;omega
  rw[e1]
 refine gW (wpAny_of_eq eb ?_);refine gW (wpAny_rule (gW ?_))
 show wpAny _ _ (updateSeq l _) _ _ s
 have hf:=yM (sel:=fun i=>if(1:Int)>0 then decide ((k:Int)<=i)&&decide ((i:Int)<(items.size:Int))&&((i:Int)-k)%1==0 else decide ((items.size:Int)<i)&&decide ((i:Int)<=k)&&((k:Int)-i)%(-1)==0) items.toList 0 k fun i h1 h2=>by
  have h2':i<items.size:=by simpa using h2
  simp only[show(1:Int)>0 by decide,jf];rw[Int.emod_one];simp;omega
 have hf':=io List.toArray hf;refine ku ho rfl ?_ hsz ?_
 ·exact gW (wpAny_letGo (gX ⟨_,rfl,h _ hf'⟩))
 ·refine iq (Nat.le_of_eq (io Array.size hf')) ?_;rw[ij,hV];omega
section
variable{X:Cx}
def tDelFrom(te:TE)(tl:TE):L2.TS:=fun D σ H=>te σ H fun x H1=>tl σ H1 fun y H2=>∃l xs k,x=.ref l/\y=.int ((k:Nat):Int)/\H2 l=some (.lst xs)/\k<=xs.length/\D.nx σ (upd H2 l (.lst (xs.take k)))
theorem vy{o lo:Expr}{te tl:TE}{p2 p3 pos:Pos}(ho:PE X o te)(hl:PE X lo tl):PS X (.Delete [.Subscript o (.Slice (some lo) none none p2) p3] pos) (tDelFrom te tl):=by
 intro gE s σ H D I h;refine wpAny_Delete (wpAny_deleteEach_cons (wpAny_delete_Subscript (thn (ho gE s σ H _ I h) fun u s1 ⟨x,H1,I1,rx,q1⟩=>?_)));refine wpAny_Slice ?_;rw[evalPart_some];refine thn (hl gE s1 σ H1 _ I1 q1) fun vl s2 ⟨y,H2,I2,ry,l,xs,k,ex,ey,hH,hk,q⟩=>?_;subst ex ey;obtain rfl:u=Value.ref l:=rx;obtain⟨t,rfl⟩:=(show ∃t,vl=Value.int ((k:Nat):Int) t from ry);rw[evalPart_none];refine gX (gX ?_);have I3:Inv X gE σ H2 { s2 with heap:=s2.heap.push { cls:=.type "slice",data:=.fields #[.int ((k:Nat):Int) t,.none,.none] } }:=I2.kept (t':=s2.toks) fun b ob q=>iu _ q;obtain⟨z,its,n,r,hlen,e⟩:=I3.lstM hH;refine del_from e (Heap.IsSliceOf.new ..) (.int _ t) (by rw[ij];omega) (by rw[ij];omega) fun f hf=>wpAny_deleteEach_nil ?_;refine⟨σ,_,I3.lset (its':=its.take k) (t':=s2.toks) hH e ?_ (r.take k) (by rw[hV];omega),q⟩;simpa using hf
end
structure DicK(K:W.Frag)(P:Params)(D:Addr)(kvs:List (Str×Int)):Prop where
 ex:∃(es:Array DictEntry) (n:Nat),K.lookup D=some ⟨.type "dict",none,.dict es n,#[]⟩/\W.KeysLit P es.toList
 at_:∀p∈kvs,∃t,W.nsIn K D p.1=some (some (.int p.2 t))
 lo:(D==sysModules)=false
inductive rIxD_R(K:W.Frag)(P:Params)(x:V)(y:V)(H:Hp)(Q:VK):Prop
 |mk (D:_) (z:_) (kvs:_) (i:_) (h0:x=.ref D) (h1:y=.str z) (h2:DicK K P D kvs) (h3:(z,i)∈kvs) (h4:Q (.int i) H):rIxD_R K P x y H Q
def rIxD(K:W.Frag)(P:Params):R2:=fun x y H Q=>rIxD_R K P x y H Q
section
variable{X:Cx}{K:W.Frag}{P:Params}
theorem ix_dic(hK:X.K=K)(hw:X.w.params=P):IxR X (rIxD K P):=by
 subst hK hw;intro value slice gE s σ H x y v u Q I rx ry h hs;obtain⟨D,z,kvs,i,rfl,rfl,d,hm,q⟩:=h;obtain⟨t,rfl⟩:=(show ∃t,u=Value.str z t from ry);obtain rfl:v=Value.ref D:=rx;obtain⟨m,F⟩:=I.fr;obtain⟨es,n,lk,hk⟩:=d.ex;obtain⟨t2,ea⟩:=d.at_ _ hm;exact W.topItem_K F I.mod.kin lk hk ea ⟨.int i,H,I.tok _,⟨t2,rfl⟩,q⟩ hs
end
end L3
namespace L3
open PySem PySem.Spec L2
inductive Lb where
 |yes
 |sign (s:Str)
 |op (w:Str)
 |wit (m:Int)
 |many (w:Str)
inductive Tr where
 |node (c:Lb) (ks:List Tr)
def Tr.lb:Tr->Lb
 |.node c _=>c
def Tr.ks:Tr->List Tr
 |.node _ ks=>ks
theorem Tr.eta(t:Tr):t=.node t.lb t.ks:=by cases t;rfl
def W1:List Str:=["all", "some", "not", "next", "always", "ever", "before", "once", "sofar"]
def W2:List Str:=["until", "since"]
def Yh:Lb->Nat->Prop
 |.yes,n=>n=0
 |.sign s,n=>n=0/\Xn s=true
 |.op w,n=>(w∈W1/\n=1)\/(w∈W2/\n=2)
 |.wit m,n=>(0<=m/\m<=5)/\n=2
 |.many w,n=>(w = "and" \/ w = "or")/\n<=8
def Zv:Lb->Str
 |.yes => "yes"
 |.sign _ => "sign"
 |.op w=>w
 |.wit _ => "within"
 |.many w=>w
def WK(K:W.Frag)(H:Hp)(a:Addr)(vs:List V):Lb->Prop
 |.yes=>vs=[]/\SqT K H a [.str "yes"]
 |.sign s=>vs=[]/\SqT K H a [.str "sign",.str s]
 |.op w=>SqT K H a (.str w::vs)
 |.wit m=>SqT K H a (.str "within" :: .int m::vs)
 |.many w=>∃b,SqT K H a [.str w,.ref b]/\SqT K H b vs
def At(K:W.Frag):Nat->Hp->V->Tr->Prop
 |0,_,_,_=>False
 |n+1,H,v,t=>∃a vs,v=.ref a/\WK K H a vs t.lb/\Yh t.lb t.ks.length/\vs.length=t.ks.length/\∀(i:Nat) u k,vs[i]?=some u->t.ks[i]?=some k->At K n H u k
def Yk(H H':Hp):Prop:=∀(K:W.Frag) b xs,SqT K H b xs->SqT K H' b xs
theorem Za.tup{H H':Hp}(s:Za H H'):Yk H H':=fun K b xs e=>Za.seqT s e
def lg:=@Za.tup
theorem Zx.tup{p:Addr}{H H':Hp}{xs:List V}(s:Zx p H H')(hp:H p=some (.lst xs)):Yk H H':=fun K b ys h=>by
 rcases h with(h|⟨o,h⟩)|h
 ·exact .inl (.inl (s _ _ (YR h hp (by intro z;cases z)) h))
 ·exact .inl (.inr ⟨o,s _ _ (YR h hp (by intro z;cases z)) h⟩)
 ·exact .inr h
theorem Yk.trans{H H1 H2:Hp}(a:Yk H H1)(b:Yk H1 H2):Yk H H2:=fun K c xs e=>b _ _ _ (a _ _ _ e)
variable{K:W.Frag}
theorem WK.mono{H H':Hp}(s:Yk H H'){a:Addr}{vs:List V}{c:Lb}(h:WK K H a vs c):WK K H' a vs c:=by
 cases c with
 |yes=>exact⟨h.1,s _ _ _ h.2⟩
 |sign z=>exact⟨h.1,s _ _ _ h.2⟩
 |op w=>exact s _ _ _ h
 |wit m=>exact s _ _ _ h
 |many w=>obtain⟨b,h1,h2⟩:=h;exact⟨b,s _ _ _ h1,s _ _ _ h2⟩
theorem At.mono{H H':Hp}(s:Yk H H'):∀{n:Nat}{v:V}{t:Tr},At K n H v t->At K n H' v t
 |0,_,_,h=>h
 |n+1,v,t,⟨a,vs,e,sh,ok,l,q⟩=>⟨a,vs,e,sh.mono s,ok,l,fun i u k h1 h2=>At.mono s (q i u k h1 h2)⟩
theorem At.up{H:Hp}:∀{n:Nat}{v:V}{t:Tr},At K n H v t->At K (n+1) H v t
 |0,_,_,h=>h.elim
 |n+1,v,t,⟨a,vs,e,sh,ok,l,q⟩=>⟨a,vs,e,sh,ok,l,fun i u k h1 h2=>At.up (q i u k h1 h2)⟩
theorem At.le{H:Hp}{n m:Nat}{v:V}{t:Tr}(h:At K n H v t)(hm:n<=m):At K m H v t:=by
 induction hm with
 |refl=>exact h
 |step _ ih=>exact ih.up
def AtL(K:W.Frag)(n:Nat)(H:Hp)(vs:List V)(ts:List Tr):Prop:=vs.length=ts.length/\∀(i:Nat) u k,vs[i]?=some u->ts[i]?=some k->At K n H u k
theorem AtL.mono{n:Nat}{H H':Hp}{vs:List V}{ts:List Tr}(s:Yk H H')(h:AtL K n H vs ts):AtL K n H' vs ts:=⟨h.1,fun i u k h1 h2=>(h.2 i u k h1 h2).mono s⟩
theorem AtL.le{n m:Nat}{H:Hp}{vs:List V}{ts:List Tr}(h:AtL K n H vs ts)(hm:n<=m):AtL K m H vs ts:=⟨h.1,fun i u k h1 h2=>(h.2 i u k h1 h2).le hm⟩
theorem AtL.nil{n:Nat}{H:Hp}:AtL K n H [] []:=⟨rfl,fun i u k h=>by simp at h⟩
theorem AtL.one{n:Nat}{H:Hp}{v:V}{t:Tr}(h:At K n H v t):AtL K n H [v] [t]:=⟨rfl,fun i u k h1 h2=>by
 cases i with
 |zero=>cases h1;cases h2;exact h
 |succ i=>simp at h1⟩
theorem AtL.app{n:Nat}{H:Hp}{vs us:List V}{ts rs:List Tr}(h:AtL K n H vs ts)(g:AtL K n H us rs):AtL K n H (vs++us) (ts++rs):=by
 refine⟨by rw[hG,hG,h.1,g.1],fun i u k h1 h2=>?_⟩
 by_cases hi:i<vs.length
 ·rw[iI hi] at h1;rw[iI (by rw[<- h.1];exact hi)] at h2;exact h.2 i u k h1 h2
 ·rw[iM (by omega)] at h1;rw[iM (by rw[<- h.1];omega),<- h.1] at h2;exact g.2 _ u k h1 h2
theorem AtL.rev{n:Nat}{H:Hp}{vs:List V}{ts:List Tr}(h:AtL K n H vs ts):AtL K n H vs.reverse ts.reverse:=by
 refine⟨by rw[kG,kG,h.1],fun i u k h1 h2=>?_⟩;have hi:=(ib.mp h1).1;rw[kG] at hi;rw[List.getElem?_reverse hi] at h1;rw[List.getElem?_reverse (by rw[<- h.1];exact hi),<- h.1] at h2;exact h.2 _ u k h1 h2
theorem AtL.last{n:Nat}{H:Hp}{vs:List V}{ts:List Tr}(h:AtL K n H vs ts)(hne:vs≠[]):∃us u rs r,vs=us++[u]/\ts=rs++[r]/\AtL K n H us rs/\At K n H u r:=by
 have hl:=jT.mpr hne;have ht:ts≠[]:=fun e=>by rw[e] at h;have:=h.1;simp at this;exact hne this
 have e1:=kJ hne;have e2:=kJ ht;have hl1:vs.dropLast.length=ts.dropLast.length:=by rw[ki,ki,h.1]
 refine⟨vs.dropLast,vs.getLast hne,ts.dropLast,ts.getLast ht,e1.symm,e2.symm,⟨hl1,fun i u k h1 h2=>?_⟩,?_⟩
 ·have hi:=(ib.mp h1).1;refine h.2 i u k ?_ ?_
  ·rw[<- e1,iI hi];exact h1
  ·rw[<- e2,iI (by rw[<- hl1];exact hi)];exact h2
 ·refine h.2 (vs.length-1) _ _ ?_ ?_
  ·rw[kK];exact gZ _
  ·rw[kK,h.1];exact gZ _
mutual
def Yc:Tr->Bool
 |.node c ks=>match c with
  |.yes=>true
  |.sign _=>true
  |.op w=>if w = "all" \/ w = "some" then true else if w = "not" then qT ks else false
  |.wit _=>false
  |.many _=>qT ks
def qT:List Tr->Bool
 |[]=>true
 |t::r=>Yc t&&qT r
end
theorem zT:∀ks:List Tr,qT ks=ks.all Yc
 |[]=>by rw[qT];rfl
 |t::r=>by rw[qT,zT r,kg]
def roomF(c:Lb)(bs:List Bool):Bool:=match c with
 |.yes=>true
 |.sign _=>true
 |.op w=>if w = "all" \/ w = "some" then true else if w = "not" then bs.all id else false
 |.wit _=>false
 |.many _=>bs.all id
theorem Vt(c:Lb)(ks:List Tr):Yc (.node c ks)=roomF c (ks.map Yc):=by
 have e:(ks.map Yc).all id=qT ks:=by rw[zT,kj];rfl
 cases c<;>simp only[Yc,roomF,e]
mutual
def post:Tr->List Tr
 |.node c ks=>Z2 ks++[.node c ks]
def Z2:List Tr->List Tr
 |[]=>[]
 |t::r=>post t++Z2 r
end
theorem Vy(t:Tr):post t=Z2 t.ks++[t]:=by cases t;rw[post];rfl
theorem UO:∀(a b:List Tr),Z2 (a++b)=Z2 a++Z2 b
 |[],b=>by rw[jH,Z2,jH]
 |t::r,b=>by rw[jI,Z2,UO r b,Z2,jc]
theorem ye(t:Tr):Z2 [t]=post t:=by rw[Z2,Z2,iQ]
theorem post_turn(ws:List Tr)(w:Tr):(Z2 (ws++[w])).reverse=w::(Z2 (ws++w.ks)).reverse:=by
 rw[UO,UO,ye,Vy w];simp
mutual
def Yd{α:Type}(F:Lb->List α->α):Tr->α
 |.node c ks=>F c (valL F ks)
def valL{α:Type}(F:Lb->List α->α):List Tr->List α
 |[]=>[]
 |t::r=>Yd F t::valL F r
end
theorem xE{α:Type}(F:Lb->List α->α):∀ks:List Tr,valL F ks=ks.map (Yd F)
 |[]=>by rw[valL];rfl
 |t::r=>by rw[valL,xE F r];rfl
theorem XC{α:Type}(F:Lb->List α->α)(t:Tr):Yd F t=F t.lb (t.ks.map (Yd F)):=by
 cases t with
 |node c ks=>rw[Yd,xE];rfl
section
variable{α:Type}{F:Lb->List α->α}
def Xl(F:Lb->List α->α)(st:List α)(t:Tr):List α:=st.take (st.length-t.ks.length)++[F t.lb (st.drop (st.length-t.ks.length))]
def Ut(F:Lb->List α->α):List α->List Tr->Prop
 |_,[]=>True
 |st,t::r=>(t.ks.length<=st.length/\st.drop (st.length-t.ks.length)=t.ks.map (Yd F))/\Ut F (Xl F st t) r
def UR(F:Lb->List α->α):List α->List Tr->List α
 |st,[]=>st
 |st,t::r=>UR F (Xl F st t) r
theorem stepF_app(st:List α)(t:Tr):Xl F (st++t.ks.map (Yd F)) t=st++[Yd F t]:=by
 unfold Xl;have e:(st++t.ks.map (Yd F)).length-t.ks.length=st.length:=by rw[hG,hJ];omega
 rw[e,List.take_left,List.drop_left,<- XC F t]
mutual
theorem xg:∀(t:Tr) (st:List α) (r:List Tr),(Ut F (st++[Yd F t]) r->Ut F st (post t++r))/\UR F st (post t++r)=UR F (st++[Yd F t]) r
 |.node c ks,st,r=>by
  obtain⟨h1,h2⟩:=zI ks st (.node c ks::r);have e':Xl F (st++ks.map (Yd F)) (.node c ks)=st++[Yd F (.node c ks)]:=stepF_app st (.node c ks);rw[post,jc,List.singleton_append];refine⟨fun h=>h1 ⟨⟨?_,?_⟩,?_⟩,?_⟩
  ·show ks.length<=_
   rw[hG,hJ];omega
  ·show(st++ks.map (Yd F)).drop ((st++ks.map (Yd F)).length-ks.length)=ks.map (Yd F)
   have e:(st++ks.map (Yd F)).length-ks.length=st.length:=by rw[hG,hJ];omega
   rw[e,List.drop_left]
  ·rw[e'];exact h
  ·rw[h2,UR,e']
theorem zI:∀(ks:List Tr) (st:List α) (r:List Tr),(Ut F (st++ks.map (Yd F)) r->Ut F st (Z2 ks++r))/\UR F st (Z2 ks++r)=UR F (st++ks.map (Yd F)) r
 |[],st,r=>by
  rw[Z2,jH,ip,iQ];exact⟨id,rfl⟩
 |t::ks,st,r=>by
  obtain⟨h1,h2⟩:=xg t st (Z2 ks++r);obtain⟨h3,h4⟩:=zI ks (st++[Yd F t]) r;rw[Z2,jc,g9];have e:st++Yd F t::ks.map (Yd F)=st++[Yd F t]++ks.map (Yd F):=by simp
  rw[e];exact⟨fun h=>h1 (h3 h),by rw[h2,h4]⟩
end
theorem yK(t:Tr):Ut F [] (post t)/\UR F [] (post t)=[Yd F t]:=by
 obtain⟨h1,h2⟩:=xg (F:=F) t [] [];rw[iQ] at h1 h2;exact⟨h1 trivial,h2⟩
end
mutual
theorem xN:∀(t:Tr),t∈post t
 |.node c ks=>by rw[post];simp
end
theorem YH{p A B:Prop}[Decidable p](h:p)(a:A):if decide p=true then A else B:=by rw[if_pos (hX h)];exact a
theorem ZF{p A B:Prop}[Decidable p](h:¬p)(b:B):if decide p=true then A else B:=by rw[if_neg (by simpa using h)];exact b
theorem qD{p:Prop}[Decidable p]{Q:VK}{H:Hp}(h:p)(q:Q (.bl true) H):Q (.bl (decide p)) H:=by rw[hX h];exact q
theorem WC{X:Cx}{K:W.Frag}(hK:X.K=K):SlR X (rSlT K):=by subst hK;exact sl_tup
theorem U5{w:Str}{ss:List Str}{A B:Prop}(h:w∈ss)(a:A):if inV (.str w) (ss.map V.str)=true then A else B:=by rw[if_pos (qi.mpr h)];exact a
theorem Xr{w:Str}{ss:List Str}{A B:Prop}(h:w∉ss)(b:B):if inV (.str w) (ss.map V.str)=true then A else B:=by rw[if_neg (fun e=>h (qi.mp e))];exact b
def LK:List (Str×Int):=[("all",2),("some",2),("not",2),("next",2),("always",2),("ever",2),("before",2),("once",2),("sofar",2),("until",3),("since",3)]
theorem Vi:∀w∈W1++W2,w ≠ "yes" /\ w ≠ "sign" /\ w∉(["and", "or"]:List Str)/\w ≠ "within" /\ w∉(["yes", "sign"]:List Str):=by decide +kernel
theorem XR:∀w∈(["and", "or"]:List Str),w ≠ "yes" /\ w ≠ "sign" /\ w ≠ "within" /\ w∉(["yes", "sign"]:List Str)/\w∉(["yes", "sign", "all", "some"]:List Str)/\w∈(["not", "and", "or"]:List Str):=by decide +kernel
theorem lk1:∀w∈W1,(w,(2:Int))∈LK:=by decide +kernel
theorem lk2:∀w∈W2,(w,(3:Int))∈LK:=by decide +kernel
theorem Wr{K:W.Frag}{H:Hp}(z:Str):∃t,VG K H (.str z) t/\W.kitOne K t (.type "str")=some true:=⟨_,.str _,rfl⟩
theorem WK.tup{H:Hp}{a:Addr}{vs:List V}{c:Lb}(h:WK K H a vs c):∃xs,SqT K H a (.str (Zv c)::xs):=by
 cases c with
 |yes=>exact⟨[],h.2⟩
 |sign s=>exact⟨[.str s],h.2⟩
 |op w=>exact⟨vs,h⟩
 |wit m=>exact⟨.int m::vs,h⟩
 |many w=>obtain⟨b,h1,_⟩:=h;exact⟨[.ref b],h1⟩
inductive rIsT_R(K:W.Frag)(xs:List V)(H:Hp)(Q:VK):Prop
 |mk (x:_) (h0:xs=[x,.ty "tuple"]) (h1:((∃a ys,x=.ref a/\SqT K H a ys/\Q (.bl true) H)\/∃t,VG K H x t/\W.kitOne K t (.type "tuple")=some false/\Q (.bl false) H)):rIsT_R K xs H Q
def rIsT(K:W.Frag):List V->Hp->VK->Prop:=fun xs H Q=>rIsT_R K xs H Q
theorem xG{X:Cx}(hK:X.K=K):YS X (.builtin "isinstance") (rIsT K):=by
 subst hK;intro gE s σ H xs us Q I r h;obtain⟨x,rfl,h⟩:=h;obtain⟨u,v,rfl,ru,rv⟩:=vals2 r;obtain rfl:v=Value.type "tuple" := rv;rcases h with⟨a,ys,rfl,hq,q⟩|⟨t,ht,hk,q⟩
 ·obtain rfl:u=Value.ref a:=ru;obtain⟨its,r,⟨o,h1,h2,h3⟩,hz⟩:=I.tuple hq;exact i6 (b:=true) W.kitx_tuple I.kIn ⟨o,h1,h2⟩ rfl (fun z=>nomatch z) fun tk=>⟨.bl true,H,I.tok _,rfl,q⟩
 ·exact yj I ru ht hk fun tk=>⟨.bl false,H,I.tok _,rfl,q⟩
theorem YN.units2{k:Nat}{A:Around}(r:YN k A):A.units+195<cLine:=by have:=r.un;omega
end L3
namespace L3
open PySem PySem.Spec PyProof.Rows L2
def Itv(K:W.Frag)(a:Addr)(n:Nat):It:=
 ⟨fun i H=>i<n/\∃xs,SqL K H a xs/\xs.length=n,fun i H x H'=>H'=H/\∀xs,SqL K H a xs->xs[n-1-i]?=some x,fun i _=>n<=i⟩
theorem turn_rev{P:Program}{w:World}{K:W.Frag}{tg:Expr}(a it:Addr)(n:Nat):Turn P w K tg (Itv K a n) [it] it (fun i h=>i<=n/\h.IsRevIter it a ((n:Int)-1-(i:Int))) where
 mem:=by simp
 obj:=fun i h st b hb=>by
  have e:b=it:=by simpa using hb
  subst e;obtain⟨_,o,e,c,d⟩:=st;exact⟨o,e,fun v z=>by rw[d] at z;cases z⟩
 keep:=fun i h h' st k=>⟨st.1,st.2.at fun o e=>k it (by simp) o e⟩
 item:=by
  intro X hP hw hK hc i gE s σ H E I hf st hg;subst hP hw hK;obtain⟨hi,xs,hq,hn⟩:=hg;obtain⟨its,rv,p,hz⟩:=I.list hq;have hx:xs[n-1-i]?=some (xs[n-1-i]'(by omega)):=gZ (by omega);obtain⟨u,hu,ru⟩:=rv.get hx;obtain⟨f0,f1,f2,f3,f4,f5⟩:=hf it (by simp);have e:(n:Int)-1-(i:Int)=((n-1-i:Nat):Int):=by omega
  have st2:=st.2;rw[e] at st2;refine wpAny_pyNext_rev_item st2 p.isList (x:=u) (by simpa using hu) fun h' st' sb=>?_;have I1:Inv X gE σ H { s with heap:=h' }:=I.turned (t':=s.toks) (fun b o hb e=>(sb.2 b hb).trans e) f0 f1 f3 f4 f5;have e2:((n-1-i:Nat):Int)-1=(n:Int)-1-((i+1:Nat):Int):=by omega
  rw[e2] at st';obtain⟨o,e,c,d⟩:=id st';exact⟨u,rfl,go_of (s:={ s with heap:=h' }) e c d (by decide) ⟨_,H,I1,ru,⟨rfl,fun ys hy=>by rw[I.list_inj hy hq];exact hx⟩,⟨hi,st'⟩,fun b hb=>(hf b hb).1⟩⟩
 done:=by
  intro X hP hw hK hc i gE s σ H E I hf st hg;subst hP hw hK;have hn:n<=i:=hg;obtain⟨f0,f1,f2,f3,f4,f5⟩:=hf it (by simp);have e:(n:Int)-1-(i:Int)=-1:=by have:=st.1;omega
  have st2:=st.2;rw[e] at st2;exact wpAny_pyNext_rev_end (I.ok.hd hc) st2 fun h' eb=>⟨rfl,I.turned (t':=s.toks) (fun b o hb e=>eb b o hb e) f0 f1 f3 f4 f5⟩
 self:=fun _ _ _ _ _ st h=>wpAny_pyIter_revIter st.2 h
section
variable{X:Cx}{K:W.Frag}{tg:Expr}
def iRev(K:W.Frag)(ta:TA):TI:=fun σ H R=>ta σ H fun vs H1=>∃a xs,vs=[.ref a]/\SqL K H1 a xs/\R (Itv K a xs.length) H1
theorem pi_revK{a:Expr}{ta:TA}{p pos:Pos}(hK:X.K=K)(hg:Gl X "reversed")(hm:X.mg "reversed" = none)(ha:PA X [a] ta)(hs:starEach [a] X.env=[(false,eval a X.env)]:=by rfl) :
  PI X tg (.Call (.Name "reversed" p) [a] [] pos) (iRev K ta):=by
 subst hK;intro gE s σ H R I h;refine Call_ (UK I hg hm PyProof.Rows.boot_reversed (kS (thn (ha pos gE s σ H _ I h) fun us s1 ⟨vs,H1,I1,r1,q1⟩=>?_) hs rfl));obtain⟨l,xs,rfl,hq,q⟩:=q1;obtain⟨u,rfl,ru⟩:=WN r1;obtain rfl:u=Value.ref l:=ru;obtain⟨its,rv,pl,hz⟩:=I1.list hq;have hl:=rv.length;refine call_reversed_list pl.isList ?_;have st:(s1.heap.push (revObj l ((its.toArray.size:Int)-1))).IsRevIter s1.heap.objs.size l ((xs.length:Int)-1-((0:Nat):Int)):=⟨_,iF _ rfl,rfl,by
  show Data.fields #[Value.ref l,rawInt ((its.toArray.size:Int)-1)]=_
  have e:(its.toArray.size:Int)-1=(xs.length:Int)-1-((0:Nat):Int):=by rw[ij];omega
  rw[e]⟩
 refine wpAny_pyIter_revIter st ?_;refine⟨s1.heap.objs.size,[s1.heap.objs.size],_,_,H1,rfl,I1.kept (t':=s1.toks) fun b o e=>iu _ e,turn_rev l _ xs.length,⟨iU _,st⟩,fun b hb=>?_,q⟩;have e:b=s1.heap.objs.size:=by simpa using hb
 subst e;exact I1.fpOk (gY _) (I1.hok.fresh (gY _))
theorem Ue(hK:X.K=K):OpR X (binaryOp .Add) (rCatT K):=by subst hK;exact op_catT
end
end L3
namespace L3
open PySem PySem.Spec L2
abbrev Zn:Tr:=.node .yes []
abbrev ZO(t:Tr):Tr:=.node (.op "not") [t]
abbrev VM(t:Tr):Tr:=.node (.op "next") [t]
abbrev nSome(t:Tr):Tr:=.node (.op "some") [t]
abbrev X6(a b:Tr):Tr:=.node (.many "and") [a,b]
abbrev nUnt(a b:Tr):Tr:=.node (.op "until") [a,b]
abbrev nSin(a b:Tr):Tr:=.node (.op "since") [a,b]
def Wb:List Tr->Tr
 |[]=>Zn
 |[x]=>x
 |x::y::r=>X6 x (Wb (y::r))
def orT:List Tr->Tr
 |[]=>ZO Zn
 |[x]=>x
 |x::y::r=>ZO (X6 (ZO x) (ZO (orT (y::r))))
def Z5:Nat->Tr->Tr->Tr
 |0,_,s=>s
 |n+1,f,s=>ZO (X6 (ZO s) (ZO (X6 f (VM (Z5 n f s)))))
def YV(c:Lb)(cs:List Tr):Tr:=match c with
 |.yes=>Zn
 |.sign s=>.node (.sign s) []
 |.many w=>if w = "and" then Wb cs else orT cs
 |.wit m=>Z5 m.toNat (cs.getD 0 Zn) (cs.getD 1 Zn)
 |.op w=>if w = "all" then ZO (nSome (ZO (cs.getD 0 Zn))) else if w = "ever" then nUnt Zn (cs.getD 0 Zn) else if w = "always" then ZO (nUnt Zn (ZO (cs.getD 0 Zn)))
  else if w = "once" then nSin Zn (cs.getD 0 Zn) else if w = "sofar" then ZO (nSin Zn (ZO (cs.getD 0 Zn))) else .node (.op w) cs
def YF:Tr->Tr:=Yd YV
theorem qw(t:Tr):YF t=YV t.lb (t.ks.map YF):=XC YV t
def mx(l:List Nat):Nat:=l.foldr max 0
theorem qA{l:List Nat}{m:Nat}:mx l<=m↔∀x∈l,x<=m:=by
 induction l with
 |nil=>simp[mx]
 |cons a r ih=>
  have e:mx (a::r)=max a (mx r):=rfl;rw[e,Nat.max_le,ih];simp
def hgt:Tr->Nat:=Yd fun _ hs=>mx hs+1
theorem UP(t:Tr):hgt t=mx (t.ks.map hgt)+1:=XC _ t
def dpt:Tr->Nat:=Yd fun c ds=>match c with|.many _=>mx ds+2|_=>mx ds+1
theorem dpt_eq(t:Tr):dpt t=match t.lb with|.many _=>mx (t.ks.map dpt)+2|_=>mx (t.ks.map dpt)+1:=XC _ t
def psz(t:Tr):Nat:=(post t).length
theorem UJ(t:Tr):psz t=(t.ks.map psz).sum+1:=by
 have key:∀ks:List Tr,(Z2 ks).length=(ks.map psz).sum:=by
  intro ks
  induction ks with
  |nil=>rfl
  |cons a r ih=>rw[Z2,hG,ih,g9,iD];rfl
 unfold psz;rw[Vy t,hG,key];rfl
theorem XN(t:Tr):1<=psz t:=by rw[UJ];omega
theorem hgt_pos(t:Tr):1<=hgt t:=by rw[UP];omega
theorem At.hgt_le{K:W.Frag}{H:Hp}:∀{n:Nat}{v:V}{t:Tr},At K n H v t->hgt t<=n
 |0,_,_,h=>h.elim
 |n+1,v,t,⟨a,vs,e,sh,ok,l,q⟩=>by
  rw[UP];have:mx (t.ks.map hgt)<=n:=qA.mpr fun x hx=>by
   obtain⟨k,hk,rfl⟩:=ik.mp hx;obtain⟨i,hi,rfl⟩:=jd hk;exact At.hgt_le (q i _ _ (gZ (by omega)) (gZ hi))
  omega
theorem hgt_kid{t k:Tr}(h:k∈t.ks):hgt k+1<=hgt t:=by
 rw[UP t];have:=(qA (m:=mx (t.ks.map hgt))).mp (gY _) (hgt k) (kL h);omega
theorem At.fit{K:W.Frag}{H:Hp}:∀{n m:Nat}{v:V}{t:Tr},At K n H v t->hgt t<=m->At K m H v t
 |0,_,_,_,h,_=>h.elim
 |n+1,0,v,t,h,hm=>by have:=hgt_pos t;omega
 |n+1,m+1,v,t,⟨a,vs,e,sh,ok,l,q⟩,hm=>⟨a,vs,e,sh,ok,l,fun i u k h1 h2=>At.fit (q i u k h1 h2) (by have:=hgt_kid (iO h2);omega)⟩
section
theorem X4{cs:List Tr}{i:Nat}{P:Tr->Prop}(h:∀c∈cs,P c)(hy:P Zn):P (cs.getD i Zn):=by
 cases e:cs[i]? with
 |none=>rw[jV,e];exact hy
 |some x=>rw[jV,e];exact h x (iO e)
theorem Y3(c:Lb)(ks:List Tr):hgt (.node c ks)=mx (ks.map hgt)+1:=UP _
theorem Z8(c:Lb)(ks:List Tr):psz (.node c ks)=(ks.map psz).sum+1:=UJ _
theorem Xc(c:Lb)(ks:List Tr):dpt (.node c ks)=match c with|.many _=>mx (ks.map dpt)+2|_=>mx (ks.map dpt)+1:=dpt_eq _
theorem mx1(a:Nat):mx [a]=a:=by simp[mx]
theorem mx2(a b:Nat):mx [a,b]=max a b:=by simp[mx]
theorem hgt_core{c:Lb}{cs:List Tr}{m:Nat}(ok:Yh c cs.length)(h:∀k∈cs,hgt k<=m)(hm:1<=m):hgt (YV c cs)<=m+27:=by
 have y:hgt Zn=1:=rfl;have g0:hgt (cs.getD 0 Zn)<=m:=X4 (P:=fun k=>hgt k<=m) h (by rw[y];exact hm);have g1:hgt (cs.getD 1 Zn)<=m:=X4 (P:=fun k=>hgt k<=m) h (by rw[y];exact hm);have ha:∀cs:List Tr,(∀k∈cs,hgt k<=m)->hgt (Wb cs)<=m+cs.length:=by
  intro cs
  induction cs with
  |nil=>intro _;show hgt Zn<=_;rw[y];omega
  |cons x r ih=>
   intro h;cases r with
   |nil=>have:=h x (by simp);show hgt x<=_;omega
   |cons z r=>
    have i2:=ih fun k hk=>h k (hU _ hk);have:=h x (by simp)
    show hgt (X6 x (Wb (z::r)))<=_
    rw[Y3,g9,g9,ip,mx2];simp only[iA] at i2 ⊢;omega
 have ho:∀cs:List Tr,(∀k∈cs,hgt k<=m)->hgt (orT cs)<=m+3*cs.length+1:=by
  intro cs
  induction cs with
  |nil=>intro _;show hgt (ZO Zn)<=_;rw[Y3,g9,ip,mx1,y];omega
  |cons x r ih=>
   intro h;cases r with
   |nil=>have:=h x (by simp);show hgt x<=_;omega
   |cons z r=>
    have i2:=ih fun k hk=>h k (hU _ hk);have:=h x (by simp)
    show hgt (ZO (X6 (ZO x) (ZO (orT (z::r)))))<=_
    simp only[Y3,g9,ip,mx1,mx2];simp only[iA] at i2 ⊢;omega
 have hw:∀n f s,hgt f<=m->hgt s<=m->hgt (Z5 n f s)<=m+5*n:=by
  intro n f s hf hs
  induction n with
  |zero=>show hgt s<=_;omega
  |succ n ih=>
   show hgt (ZO (X6 (ZO s) (ZO (X6 f (VM (Z5 n f s))))))<=_
   simp only[Y3,g9,ip,mx1,mx2];omega
 cases c with
 |yes=>show hgt Zn<=_;rw[y];omega
 |sign z=>show hgt (.node (.sign z) [])<=_;rw[Y3];simp[mx]
 |many w=>
  show hgt (if w = "and" then Wb cs else orT cs)<=_
  have:=ok.2
  split
  ·have:=ha cs h;omega
  ·have:=ho cs h;omega
 |wit k=>
  have:=hw k.toNat _ _ g0 g1;have:=ok.1
  show hgt (Z5 k.toNat _ _)<=_
  omega
 |op w=>
  have hself:hgt (.node (.op w) cs)<=m+27:=by
   rw[Y3];have:mx (cs.map hgt)<=m:=qA.mpr fun x hx=>by obtain⟨k,hk,rfl⟩:=ik.mp hx;exact h k hk
   omega
  unfold YV;dsimp only
  split
  ·simp only[Y3,g9,ip,mx1];omega
  split
  ·simp only[Y3,g9,ip,mx1,mx2,y];omega
  split
  ·simp only[Y3,g9,ip,mx1,mx2,y];omega
  split
  ·simp only[Y3,g9,ip,mx1,mx2,y];omega
  split
  ·simp only[Y3,g9,ip,mx1,mx2,y];omega
  ·exact hself
theorem dpt_core{c:Lb}{cs:List Tr}{m:Nat}(ok:Yh c cs.length)(h:∀k∈cs,dpt k<=m)(hm:1<=m):dpt (YV c cs)<=m+35:=by
 have y:dpt Zn=1:=rfl;have g0:dpt (cs.getD 0 Zn)<=m:=X4 (P:=fun k=>dpt k<=m) h (by rw[y];exact hm);have g1:dpt (cs.getD 1 Zn)<=m:=X4 (P:=fun k=>dpt k<=m) h (by rw[y];exact hm);have ha:∀cs:List Tr,(∀k∈cs,dpt k<=m)->dpt (Wb cs)<=m+2*cs.length:=by
  intro cs
  induction cs with
  |nil=>intro _;show dpt Zn<=_;rw[y];omega
  |cons x r ih=>
   intro h;cases r with
   |nil=>have:=h x (by simp);show dpt x<=_;omega
   |cons z r=>
    have i2:=ih fun k hk=>h k (hU _ hk);have:=h x (by simp)
    show dpt (X6 x (Wb (z::r)))<=_
    simp only[Xc,g9,ip,mx2];simp only[iA] at i2 ⊢;omega
 have ho:∀cs:List Tr,(∀k∈cs,dpt k<=m)->dpt (orT cs)<=m+4*cs.length+1:=by
  intro cs
  induction cs with
  |nil=>intro _;show dpt (ZO Zn)<=_;simp only[Xc,g9,ip,mx1,y];omega
  |cons x r ih=>
   intro h;cases r with
   |nil=>have:=h x (by simp);show dpt x<=_;omega
   |cons z r=>
    have i2:=ih fun k hk=>h k (hU _ hk);have:=h x (by simp)
    show dpt (ZO (X6 (ZO x) (ZO (orT (z::r)))))<=_
    simp only[Xc,g9,ip,mx1,mx2];simp only[iA] at i2 ⊢;omega
 have hw:∀n f s,dpt f<=m->dpt s<=m->dpt (Z5 n f s)<=m+7*n:=by
  intro n f s hf hs
  induction n with
  |zero=>show dpt s<=_;omega
  |succ n ih=>
   show dpt (ZO (X6 (ZO s) (ZO (X6 f (VM (Z5 n f s))))))<=_
   simp only[Xc,g9,ip,mx1,mx2];omega
 cases c with
 |yes=>show dpt Zn<=_;rw[y];omega
 |sign z=>show dpt (.node (.sign z) [])<=_;simp[Xc,mx]
 |many w=>
  show dpt (if w = "and" then Wb cs else orT cs)<=_
  have:=ok.2
  split
  ·have:=ha cs h;omega
  ·have:=ho cs h;omega
 |wit k=>
  have:=hw k.toNat _ _ g0 g1;have:=ok.1
  show dpt (Z5 k.toNat _ _)<=_
  omega
 |op w=>
  have hself:dpt (.node (.op w) cs)<=m+35:=by
   simp only[Xc];have:mx (cs.map dpt)<=m:=qA.mpr fun x hx=>by obtain⟨k,hk,rfl⟩:=ik.mp hx;exact h k hk
   omega
  unfold YV;dsimp only
  split
  ·simp only[Xc,g9,ip,mx1];omega
  split
  ·simp only[Xc,g9,ip,mx1,mx2,y];omega
  split
  ·simp only[Xc,g9,ip,mx1,mx2,y];omega
  split
  ·simp only[Xc,g9,ip,mx1,mx2,y];omega
  split
  ·simp only[Xc,g9,ip,mx1,mx2,y];omega
  ·exact hself
theorem psz_core{c:Lb}{cs:List Tr}{m:Nat}(ok:Yh c cs.length)(h:∀k∈cs,psz k<=m)(hm:1<=m):psz (YV c cs)<=11*m+35:=by
 have y:psz Zn=1:=rfl;have g0:psz (cs.getD 0 Zn)<=m:=X4 (P:=fun k=>psz k<=m) h (by rw[y];exact hm);have g1:psz (cs.getD 1 Zn)<=m:=X4 (P:=fun k=>psz k<=m) h (by rw[y];exact hm);have ha:∀cs:List Tr,(∀k∈cs,psz k<=m)->psz (Wb cs)<=cs.length*m+cs.length+1:=by
  intro cs
  induction cs with
  |nil=>intro _;show psz Zn<=_;rw[y];omega
  |cons x r ih=>
   intro h;cases r with
   |nil=>have:=h x (by simp);show psz x<=_;simp;omega
   |cons z r=>
    have i2:=ih fun k hk=>h k (hU _ hk);have:=h x (by simp)
    show psz (X6 x (Wb (z::r)))<=_
    simp only[Z8,g9,ip,iD,je];simp only[iA,ky] at i2 ⊢;omega
 have ho:∀cs:List Tr,(∀k∈cs,psz k<=m)->psz (orT cs)<=cs.length*m+4*cs.length+2:=by
  intro cs
  induction cs with
  |nil=>intro _;show psz (ZO Zn)<=_;simp only[Z8,g9,ip,iD,je];omega
  |cons x r ih=>
   intro h;cases r with
   |nil=>have:=h x (by simp);show psz x<=_;simp;omega
   |cons z r=>
    have i2:=ih fun k hk=>h k (hU _ hk);have:=h x (by simp)
    show psz (ZO (X6 (ZO x) (ZO (orT (z::r)))))<=_
    simp only[Z8,g9,ip,iD,je];simp only[iA,ky] at i2 ⊢;omega
 have hw:∀n f s,psz f<=m->psz s<=m->psz (Z5 n f s)<=m+n*(2*m+7):=by
  intro n f s hf hs
  induction n with
  |zero=>show psz s<=_;omega
  |succ n ih=>
   show psz (ZO (X6 (ZO s) (ZO (X6 f (VM (Z5 n f s))))))<=_
   simp only[Z8,g9,ip,iD,je];rw[ky];omega
 cases c with
 |yes=>show psz Zn<=_;rw[y];omega
 |sign z=>show psz (.node (.sign z) [])<=_;simp[Z8]
 |many w=>
  show psz (if w = "and" then Wb cs else orT cs)<=_
  have h8:cs.length<=8:=ok.2;have h8m:cs.length*m<=8*m:=kM _ h8
  split
  ·have:=ha cs h;omega
  ·have:=ho cs h;omega
 |wit k=>
  have:=hw k.toNat _ _ g0 g1;have h5:k.toNat<=5:=by have:=ok.1;omega
  have h5m:k.toNat*(2*m+7)<=5*(2*m+7):=kM _ h5
  show psz (Z5 k.toNat _ _)<=_
  omega
 |op w=>
  have hself:psz (.node (.op w) cs)<=11*m+35:=by
   rw[Z8];have hl:cs.length=1\/cs.length=2:=by rcases ok with o|o;exact .inl o.2;exact .inr o.2
   match cs,hl,h with
   |[a],_,h=>have:=h a (by simp);simp;omega
   |[a,b],_,h=>have:=h a (by simp);have:=h b (by simp);simp;omega
  unfold YV;dsimp only
  split
  ·simp only[Z8,g9,ip,iD,je];omega
  split
  ·simp only[Z8,g9,ip,iD,je];omega
  split
  ·simp only[Z8,g9,ip,iD,je];omega
  split
  ·simp only[Z8,g9,ip,iD,je];omega
  split
  ·simp only[Z8,g9,ip,iD,je];omega
  ·exact hself
end
def W6:List Str:=["not", "next", "until", "before", "since", "some"]
def isCF(c:Lb)(bs:List Bool):Bool:=bs.all id&&match c with
 |.yes=>bs.isEmpty
 |.sign _=>bs.isEmpty
 |.op w=>decide (w∈W6)
 |.wit _=>false
 |.many w=>decide (w = "and")&&decide (bs.length=2)
def isC:Tr->Bool:=Yd isCF
theorem isC_eq(t:Tr):isC t=isCF t.lb (t.ks.map isC):=XC isCF t
theorem Uh(c:Lb)(ks:List Tr):isC (.node c ks)=isCF c (ks.map isC):=isC_eq _
theorem w_rest:∀w∈W1++W2,w ≠ "all" -> w ≠ "ever" -> w ≠ "always" -> w ≠ "once" -> w ≠ "sofar" -> w∈W6:=by decide +kernel
theorem isC_core{c:Lb}{cs:List Tr}(ok:Yh c cs.length)(h:∀k∈cs,isC k=true):isC (YV c cs)=true:=by
 have y:isC Zn=true:=rfl;have n1:∀{w:Str}{a:Tr},w∈W6->isC a=true->isC (.node (.op w) [a])=true:=fun {w a} hw ha=>by
  rw[Uh];simp[isCF,ha,hw]
 have n2:∀{w:Str}{a b:Tr},w∈W6->isC a=true->isC b=true->isC (.node (.op w) [a,b])=true:=fun {w a b} hw ha hb=>by
  rw[Uh];simp[isCF,ha,hb,hw]
 have na:∀{a b:Tr},isC a=true->isC b=true->isC (X6 a b)=true:=fun {a b} ha hb=>by
  rw[Uh];simp[isCF,ha,hb]
 have wn:("not" : Str)∈W6:=by decide +kernel
 have g0:isC (cs.getD 0 Zn)=true:=X4 (P:=fun k=>isC k=true) h y;have g1:isC (cs.getD 1 Zn)=true:=X4 (P:=fun k=>isC k=true) h y;have ha:∀cs:List Tr,(∀k∈cs,isC k=true)->isC (Wb cs)=true:=by
  intro cs
  induction cs with
  |nil=>intro _;exact y
  |cons x r ih=>
   intro h;cases r with
   |nil=>exact h x (by simp)
   |cons z r=>exact na (h x (by simp)) (ih fun k hk=>h k (hU _ hk))
 have ho:∀cs:List Tr,(∀k∈cs,isC k=true)->isC (orT cs)=true:=by
  intro cs
  induction cs with
  |nil=>intro _;exact n1 wn y
  |cons x r ih=>
   intro h;cases r with
   |nil=>exact h x (by simp)
   |cons z r=>exact n1 wn (na (n1 wn (h x (by simp))) (n1 wn (ih fun k hk=>h k (hU _ hk))))
 have hw:∀n f s,isC f=true->isC s=true->isC (Z5 n f s)=true:=by
  intro n f s hf hs
  induction n with
  |zero=>exact hs
  |succ n ih=>exact n1 wn (na (n1 wn hs) (n1 wn (na hf (n1 (by decide +kernel) ih))))
 cases c with
 |yes=>exact y
 |sign z=>rfl
 |many w=>
  show isC (if w = "and" then Wb cs else orT cs)=true
  split
  ·exact ha cs h
  ·exact ho cs h
 |wit k=>exact hw _ _ _ g0 g1
 |op w=>
  unfold YV;dsimp only
  split
  ·exact n1 wn (n1 (by decide +kernel) (n1 wn g0))
  rename_i h1
  split
  ·exact n2 (by decide +kernel) y g0
  rename_i h2
  split
  ·exact n1 wn (n2 (by decide +kernel) y (n1 wn g0))
  rename_i h3
  split
  ·exact n2 (by decide +kernel) y g0
  rename_i h4
  split
  ·exact n1 wn (n2 (by decide +kernel) y (n1 wn g0))
  rename_i h5
  have hw6:w∈W6:=w_rest w (by rcases ok with o|o;exact iX _ o.1;exact iE _ o.1) h1 h2 h3 h4 h5;rw[Uh];unfold isCF;rw[iN];refine⟨jl.mpr fun b hb=>?_,hX hw6⟩;obtain⟨k,hk,rfl⟩:=ik.mp hb;exact h k hk
theorem room_core{c:Lb}{ks:List Tr}(hr:roomF c (ks.map Yc)=true)(h:∀k∈ks,Yc k=true->Yc (YF k)=true):Yc (YV c (ks.map YF))=true:=by
 have r1:∀w a,Yc (.node (.op w) [a])=roomF (.op w) [Yc a]:=fun w a=>Vt _ _;have ra:∀a b,Yc a=true->Yc b=true->Yc (X6 a b)=true:=fun a b ha hb=>by
  rw[Vt]
  show([a,b].map Yc).all id=true
  simp[ha,hb]
 have rn:∀a,Yc a=true->Yc (ZO a)=true:=fun a ha=>by
  rw[r1]
  show(if("not" : Str) = "all" \/ ("not" : Str) = "some" then true else if("not" : Str) = "not" then[Yc a].all id else false)=true
  rw[if_neg (by decide +kernel),if_pos rfl];simp[ha]
 have rs:∀a,Yc (nSome a)=true:=fun a=>by
  rw[r1]
  show(if("some" : Str) = "all" \/ ("some" : Str) = "some" then true else if("some" : Str) = "not" then[Yc a].all id else false)=true
  rw[if_pos (.inr rfl)]
 have ha:∀cs:List Tr,(∀k∈cs,Yc k=true)->Yc (Wb cs)=true:=by
  intro cs
  induction cs with
  |nil=>intro _;rfl
  |cons x r ih=>
   intro h;cases r with
   |nil=>exact h x (by simp)
   |cons z r=>exact ra _ _ (h x (by simp)) (ih fun k hk=>h k (hU _ hk))
 have ho:∀cs:List Tr,(∀k∈cs,Yc k=true)->Yc (orT cs)=true:=by
  intro cs
  induction cs with
  |nil=>intro _;exact rn _ rfl
  |cons x r ih=>
   intro h;cases r with
   |nil=>exact h x (by simp)
   |cons z r=>exact rn _ (ra _ _ (rn _ (h x (by simp))) (rn _ (ih fun k hk=>h k (hU _ hk))))
 have all:(ks.map Yc).all id=true->∀k∈ks.map YF,Yc k=true:=fun hall k hk=>by
  obtain⟨q,hq,rfl⟩:=ik.mp hk;exact h q hq (jl.mp hall (Yc q) (kL hq))
 cases c with
 |yes=>rfl
 |sign z=>rfl
 |wit m=>cases hr
 |many w=>
  have hr':(ks.map Yc).all id=true:=hr
  show Yc (if w = "and" then _ else _)=true
  split
  ·exact ha _ (all hr')
  ·exact ho _ (all hr')
 |op w=>
  have hr':(if w = "all" \/ w = "some" then true else if w = "not" then(ks.map Yc).all id else false)=true:=hr
  by_cases h1:w = "all"
  ·subst h1;exact rn _ (rs _)
  by_cases h2:w = "some"
  ·subst h2
   show Yc (.node (.op "some") _)=true
   rw[Vt]
   show(if("some" : Str) = "all" \/ ("some" : Str) = "some" then true else if("some" : Str) = "not" then((ks.map YF).map Yc).all id else false)=true
   rw[if_pos (.inr rfl)]
  rw[if_neg (fun z=>by rcases z with z|z;exact h1 z;exact h2 z)] at hr'
  by_cases h3:w = "not"
  ·subst h3;rw[if_pos rfl] at hr'
   show Yc (.node (.op "not") _)=true
   rw[Vt]
   show(if("not" : Str) = "all" \/ ("not" : Str) = "some" then true else if("not" : Str) = "not" then((ks.map YF).map Yc).all id else false)=true
   rw[if_neg (by decide +kernel),if_pos rfl];refine jl.mpr fun b hb=>?_;obtain⟨k,hk,rfl⟩:=ik.mp hb;exact all hr' k hk
  ·rw[if_neg h3] at hr';cases hr'
def OkN:Nat->Tr->Prop
 |0,_=>False
 |n+1,t=>Yh t.lb t.ks.length/\∀k∈t.ks,OkN n k
theorem At.ok{K:W.Frag}{H:Hp}:∀{n:Nat}{v:V}{t:Tr},At K n H v t->OkN n t
 |0,_,_,h=>h
 |n+1,v,t,⟨a,vs,e,sh,ok,l,q⟩=>⟨ok,fun k hk=>by
  obtain⟨i,hi,rfl⟩:=jd hk;exact At.ok (q i _ _ (gZ (by omega)) (gZ hi))⟩
def Bz:Nat->Nat
 |0=>1
 |n+1=>11*Bz n+35
theorem Bz_pos:∀n,1<=Bz n
 |0=>gY _
 |n+1=>by show 1<=11*Bz n+35;omega
theorem xH:∀(n:Nat) (t:Tr),OkN n t->hgt (YF t)<=28*n/\dpt (YF t)<=36*n/\psz (YF t)<=Bz n/\isC (YF t)=true/\(Yc t=true->Yc (YF t)=true)
 |0,_,h=>h.elim
 |n+1,t,⟨ok,h⟩=>by
  have ih:=fun k hk=>xH n k (h k hk);have ok':Yh t.lb (t.ks.map YF).length:=by rw[hJ];exact ok
  have ih1:∀k∈t.ks.map YF,hgt k<=max 1 (28*n):=fun k hk=>by obtain⟨q,hq,rfl⟩:=ik.mp hk;have:=(ih q hq).1;omega
  have ih2:∀k∈t.ks.map YF,dpt k<=max 1 (36*n):=fun k hk=>by obtain⟨q,hq,rfl⟩:=ik.mp hk;have:=(ih q hq).2.1;omega
  have ih3:∀k∈t.ks.map YF,psz k<=Bz n:=fun k hk=>by obtain⟨q,hq,rfl⟩:=ik.mp hk;exact(ih q hq).2.2.1
  have ih4:∀k∈t.ks.map YF,isC k=true:=fun k hk=>by obtain⟨q,hq,rfl⟩:=ik.mp hk;exact(ih q hq).2.2.2.1
  rw[qw];have a1:=hgt_core ok' ih1 (by omega);have a2:=dpt_core ok' ih2 (by omega);have a3:=psz_core ok' ih3 (Bz_pos n);refine⟨by omega,by omega,a3,isC_core ok' ih4,fun hr=>room_core ?_ fun k hk=>(ih k hk).2.2.2.2⟩;rw[<- Vt];rw[<- Tr.eta];exact hr
theorem Xb{K:W.Frag}{n:Nat}{H:Hp}{t:Addr}(e:SqT K H t [.str "yes"]):At K (n+1) H (.ref t) (.node .yes []):=⟨t,[],rfl,⟨rfl,e⟩,rfl,rfl,fun i u k h=>by simp at h⟩
theorem W4{K:W.Frag}{n:Nat}{H:Hp}{t:Addr}{z:Str}(e:SqT K H t [.str "sign",.str z])(hz:Xn z=true):At K (n+1) H (.ref t) (.node (.sign z) []):=⟨t,[],rfl,⟨rfl,e⟩,⟨rfl,hz⟩,rfl,fun i u k h=>by simp at h⟩
theorem ZZ{K:W.Frag}{n:Nat}{H:Hp}{t:Addr}{w:Str}{u:V}{k:Tr}(e:SqT K H t [.str w,u])(hw:w∈W1)(h:At K n H u k):At K (n+1) H (.ref t) (.node (.op w) [k]):=⟨t,[u],rfl,e,.inl ⟨hw,rfl⟩,rfl,(AtL.one h).2⟩
theorem V3{K:W.Frag}{n:Nat}{H:Hp}{t:Addr}{w:Str}{u v:V}{k r:Tr}(e:SqT K H t [.str w,u,v])(hw:w∈W2)(h:At K n H u k)(g:At K n H v r):At K (n+1) H (.ref t) (.node (.op w) [k,r]):=⟨t,[u,v],rfl,e,.inr ⟨hw,rfl⟩,rfl,((AtL.one h).app (AtL.one g)).2⟩
theorem at_wit{K:W.Frag}{n:Nat}{H:Hp}{t:Addr}{m:Int}{u v:V}{k r:Tr}(e:SqT K H t [.str "within",.int m,u,v])(hm:0<=m/\m<=5)(h:At K n H u k)(g:At K n H v r):At K (n+1) H (.ref t) (.node (.wit m) [k,r]):=⟨t,[u,v],rfl,e,⟨hm,rfl⟩,rfl,((AtL.one h).app (AtL.one g)).2⟩
theorem XV{K:W.Frag}{n:Nat}{H:Hp}{t b:Addr}{w:Str}{us:List V}{ks:List Tr}(e:SqT K H t [.str w,.ref b])(eb:SqT K H b us)(h:AtL K n H us ks)(hw:w = "and" \/ w = "or")(hk:ks.length<=8):At K (n+1) H (.ref t) (.node (.many w) ks):=⟨t,us,rfl,⟨b,e,eb⟩,⟨hw,hk⟩,h.1,h.2⟩
theorem xz(xs:List V)(h:0<xs.length):Wp xs none (some (-1))=xs.take (xs.length-1):=by
 unfold Wp;have e1:HT.sIx xs.length 0 none=0:=rfl;have e2:HT.sIx xs.length xs.length (some (-1))=xs.length-1:=by unfold HT.sIx;simp;omega
 rw[e1,e2];simp
theorem andT_cons{x:Tr}{l:List Tr}(h:l≠[]):Wb (x::l)=X6 x (Wb l):=by
 cases l with
 |nil=>exact absurd rfl h
 |cons y r=>rfl
theorem orT_cons{x:Tr}{l:List Tr}(h:l≠[]):orT (x::l)=ZO (X6 (ZO x) (ZO (orT l))):=by
 cases l with
 |nil=>exact absurd rfl h
 |cons y r=>rfl
theorem vO{m:Nat}{f s:Tr}(hf:hgt f<=m)(hs:hgt s<=m):∀n,hgt (Z5 n f s)<=m+5*n:=by
 intro n
 induction n with
 |zero=>show hgt s<=_;omega
 |succ n ih=>
  show hgt (ZO (X6 (ZO s) (ZO (X6 f (VM (Z5 n f s))))))<=_
  simp only[Y3,g9,ip,mx1,mx2];omega
theorem AtL.two{K:W.Frag}{n:Nat}{H:Hp}{u v:V}{a b:Tr}(h:At K n H u a)(g:At K n H v b):AtL K n H [u,v] [a,b]:=(AtL.one h).app (AtL.one g)
theorem qH{xs:List V}{u:V}:atI (xs++[u]) (-1)=some u:=by
 have:=atI_back (xs:=xs++[u]) (k:=1) (by decide) (by simp);simpa using this
def dF(c:Lb)(ds:List PyData):PyData:=match c with
 |.yes=>.tuple [.str "yes"]
 |.sign s=>.tuple [.str "sign",.str s]
 |.op w=>.tuple (.str w::ds)
 |.wit m=>.tuple (.str "within" :: .int m::ds)
 |.many w=>.tuple [.str w,.tuple ds]
def dTr:Tr->PyData:=Yd dF
theorem yE(t:Tr):dTr t=dF t.lb (t.ks.map dTr):=XC dF t
theorem zb{K:W.Frag}{H:Hp}:∀{vs:List V}{ks:List Tr},vs.length=ks.length->(∀(i:Nat) u k,vs[i]?=some u->ks[i]?=some k->Dp K H u (dTr k))->Vc K H vs (ks.map dTr)
 |[],[],_,_=>.nil
 |v::vs,k::ks,hl,h=>.cons (h 0 v k rfl rfl) (zb (by simpa using hl) fun i u k h1 h2=>h (i+1) u k h1 h2)
 |[],k::ks,hl,_=>by cases hl
 |v::vs,[],hl,_=>by cases hl
theorem At.dp{K:W.Frag}{H:Hp}:∀{n:Nat}{v:V}{t:Tr},At K n H v t->Dp K H v (dTr t)
 |0,_,_,h=>h.elim
 |n+1,v,t,⟨a,vs,e,sh,ok,l,q⟩=>by
  have all:Vc K H vs (t.ks.map dTr):=zb l fun i u k h1 h2=>At.dp (q i u k h1 h2);rw[yE];subst e
  revert sh ok
  cases t.lb with
  |yes=>intro sh ok;exact .tup sh.2 (.cons (.str _) .nil)
  |sign s=>intro sh ok;exact .tup sh.2 (.cons (.str _) (.cons (.str _) .nil))
  |op w=>intro sh ok;exact .tup sh (.cons (.str _) all)
  |wit m=>intro sh ok;exact .tup sh (.cons (.str _) (.cons (.int _) all))
  |many w=>intro sh ok;obtain⟨b,h1,h2⟩:=sh;exact .tup h1 (.cons (.str _) (.cons (.tup h2 all) .nil))
theorem w_name:∀w∈W1++W2,Xn w=true:=by decide +kernel
theorem m_name:∀w∈(["and", "or"]:List Str),Xn w=true:=by decide +kernel
theorem Vw{s:Str}(h:Xn s=true):(PyData.str s).canLay0=true:=by simp[PyData.canLay0,qS h]
theorem OkN.fine:∀{n:Nat}{t:Tr},OkN n t->Fine (dpt t) (dTr t)
 |0,_,h=>h.elim
 |n+1,t,⟨ok,h⟩=>by
  have ih:∀k∈t.ks,Fine (mx (t.ks.map dpt)) (dTr k):=fun k hk=>(OkN.fine (h k hk)).up ((qA (m:=mx (t.ks.map dpt))).mp (gY _) _ (kL hk));obtain⟨a,b⟩:=fineAll ih;rw[yE,dpt_eq]
  revert ok
  cases t.lb with
  |yes=>
   intro ok;have y:=Vw (s := "yes") (by decide +kernel);exact⟨by simp[dF,PyData.canLay0,PyData.canLayAll0] at y ⊢; exact y,by simp[dF,PyData.depth,PyData.depthAll]⟩
  |sign s=>
   intro ok;have y:=Vw (s := "sign") (by decide +kernel);have z:=Vw ok.2;exact⟨by simp[dF,PyData.canLay0,PyData.canLayAll0] at y z ⊢; exact⟨y,z⟩,by simp[dF,PyData.depth,PyData.depthAll]⟩
  |op w=>
   intro ok;have y:=Vw (w_name w (by rcases ok with ok|ok;exact iX _ ok.1;exact iE _ ok.1));refine⟨?_,?_⟩
   ·show(PyData.tuple (.str w::t.ks.map dTr)).canLay0=true
    rw[PyData.canLay0,PyData.canLayAll0,y,a];rfl
   ·show(PyData.tuple (.str w::t.ks.map dTr)).depth<=mx (t.ks.map dpt)+1
    simp only[PyData.depth,PyData.depthAll];omega
  |wit m=>
   intro ok;have y:=Vw (s := "within") (by decide +kernel);have z:(PyData.int m).canLay0=true:=by simp[PyData.canLay0]
   refine⟨?_,?_⟩
   ·show(PyData.tuple (.str "within" :: .int m::t.ks.map dTr)).canLay0=true
    rw[PyData.canLay0,PyData.canLayAll0,PyData.canLayAll0,y,z,a];rfl
   ·show(PyData.tuple (.str "within" :: .int m::t.ks.map dTr)).depth<=mx (t.ks.map dpt)+1
    simp only[PyData.depth,PyData.depthAll];omega
  |many w=>
   intro ok;have y:=Vw (m_name w (by rcases ok.1 with rfl|rfl<;>simp));refine⟨?_,?_⟩
   ·show(PyData.tuple [.str w,.tuple (t.ks.map dTr)]).canLay0=true
    rw[PyData.canLay0,PyData.canLayAll0,PyData.canLayAll0,PyData.canLayAll0,y,PyData.canLay0,a];rfl
   ·show(PyData.tuple [.str w,.tuple (t.ks.map dTr)]).depth<=mx (t.ks.map dpt)+2
    simp only[PyData.depth,PyData.depthAll];omega
abbrev NW:List Str:=["yes", "sign", "and", "or", "within"]
inductive Fm(K:W.Frag)(H:Hp):V->Prop
 |noT {v:V}:Kd H v->Xu H "tuple" v=false->Fm K H v
 |emp {a:Addr}:SqT K H a []->Fm K H (.ref a)
 |noS {a:Addr}{x:V}{xs:List V}:SqT K H a (x::xs)->Kd H x->Xu H "str" x=false->Fm K H (.ref a)
 |yes {a:Addr}{xs:List V}:SqT K H a (.str "yes" :: xs)->xs.length≠0->Fm K H (.ref a)
 |sgnL {a:Addr}{xs:List V}:SqT K H a (.str "sign" :: xs)->xs.length≠1->Fm K H (.ref a)
 |sgn {a:Addr}{x:V}:SqT K H a [.str "sign",x]->Kd H x->Wy x=false->Fm K H (.ref a)
 |manyL {a:Addr}{w:Str}{xs:List V}:w∈(["and", "or"]:List Str)->SqT K H a (.str w::xs)->xs.length≠1->Fm K H (.ref a)
 |manyN {a:Addr}{w:Str}{x:V}:w∈(["and", "or"]:List Str)->SqT K H a [.str w,x]->Kd H x->Xu H "tuple" x=false->Fm K H (.ref a)
 |witL {a:Addr}{xs:List V}:SqT K H a (.str "within" :: xs)->xs.length≠3->Fm K H (.ref a)
 |witN {a:Addr}{x y z:V}:SqT K H a [.str "within",x,y,z]->Kd H x->yv x=false->Fm K H (.ref a)
 |witM {a:Addr}{m:Int}{y z:V}:SqT K H a [.str "within",.int m,y,z]->¬(0<=m/\m<=5)->Fm K H (.ref a)
 |word {a:Addr}{w:Str}{xs:List V}:SqT K H a (.str w::xs)->w∈(["signs", "Next", "never"]:List Str)->Fm K H (.ref a)
 |lens {a:Addr}{w:Str}{i:Int}{xs:List V}:SqT K H a (.str w::xs)->w∉NW->(w,i)∈LK->((xs.length+1:Nat):Int)≠i->Fm K H (.ref a)
theorem Fm.mono{K:W.Frag}{H H':Hp}(s:Za H H'){v:V}(h:Fm K H v):Fm K H' v:=by
 cases h with
 |noT k e=>exact .noT (k.mono s) ((VB s k).trans e)
 |emp e=>exact .emp (lg s _ _ _ e)
 |noS e k h=>exact .noS (lg s _ _ _ e) (k.mono s) ((VB s k).trans h)
 |yes e h=>exact .yes (lg s _ _ _ e) h
 |sgnL e h=>exact .sgnL (lg s _ _ _ e) h
 |sgn e k h=>exact .sgn (lg s _ _ _ e) (k.mono s) h
 |manyL w e h=>exact .manyL w (lg s _ _ _ e) h
 |manyN w e k h=>exact .manyN w (lg s _ _ _ e) (k.mono s) ((VB s k).trans h)
 |witL e h=>exact .witL (lg s _ _ _ e) h
 |witN e k h=>exact .witN (lg s _ _ _ e) (k.mono s) h
 |witM e h=>exact .witM (lg s _ _ _ e) h
 |word e h1=>exact .word (lg s _ _ _ e) h1
 |lens e h1 h2 h3=>exact .lens (lg s _ _ _ e) h1 h2 h3
inductive Bt where
 |lf
 |nd (c:Lb) (ks:List Bt)
mutual
def X8:Bt->Bool
 |.lf=>true
 |.nd _ ks=>Yj ks
def Yj:List Bt->Bool
 |[]=>false
 |b::r=>X8 b||Yj r
end
mutual
def bsz:Bt->Nat
 |.lf=>1
 |.nd _ ks=>Xt ks+1
def Xt:List Bt->Nat
 |[]=>0
 |b::r=>bsz b+Xt r
end
theorem Vp:∀a b:List Bt,Xt (a++b)=Xt a+Xt b
 |[],b=>by simp[Xt]
 |x::r,b=>by rw[jI,Xt,Xt,Vp r b];omega
theorem Vn:∀a b:List Bt,Yj (a++b)=(Yj a||Yj b)
 |[],b=>by simp[Yj]
 |x::r,b=>by rw[jI,Yj,Yj,Vn r b,Bool.or_assoc]
def lbOkB:Lb->Nat->Prop
 |.yes,n=>Yh .yes n
 |.sign s,n=>Yh (.sign s) n
 |.op w,n=>Yh (.op w) n
 |.wit m,n=>Yh (.wit m) n
 |.many w,n=>(w = "and" \/ w = "or")/\n<=1000
theorem Yh.b{c:Lb}{n:Nat}(h:Yh c n):lbOkB c n:=by
 cases c with
 |many w=>exact⟨h.1,iq h.2 (by decide)⟩
 |yes=>exact h
 |sign s=>exact h
 |op w=>exact h
 |wit m=>exact h
def BAt(K:W.Frag):Nat->Hp->V->Bt->Prop
 |0,_,_,_=>False
 |_+1,H,v,.lf=>Fm K H v
 |n+1,H,v,.nd c ks=>∃a vs,v=.ref a/\WK K H a vs c/\lbOkB c ks.length/\vs.length=ks.length/\∀(i:Nat) u k,vs[i]?=some u->ks[i]?=some k->BAt K n H u k
theorem BAt.mono{K:W.Frag}{H H':Hp}(s:Za H H'):∀{n:Nat}{v:V}{b:Bt},BAt K n H v b->BAt K n H' v b
 |0,_,_,h=>h.elim
 |n+1,v,.lf,h=>Fm.mono s h
 |n+1,v,.nd c ks,⟨a,vs,e,sh,ok,l,q⟩=>⟨a,vs,e,sh.mono (lg s),ok,l,fun i u k h1 h2=>BAt.mono s (q i u k h1 h2)⟩
theorem BAt.up{K:W.Frag}{H:Hp}:∀{n:Nat}{v:V}{b:Bt},BAt K n H v b->BAt K (n+1) H v b
 |0,_,_,h=>h.elim
 |n+1,v,.lf,h=>h
 |n+1,v,.nd c ks,⟨a,vs,e,sh,ok,l,q⟩=>⟨a,vs,e,sh,ok,l,fun i u k h1 h2=>BAt.up (q i u k h1 h2)⟩
theorem BAt.le{K:W.Frag}{H:Hp}{n m:Nat}{v:V}{b:Bt}(h:BAt K n H v b)(hm:n<=m):BAt K m H v b:=by
 induction hm with
 |refl=>exact h
 |step _ ih=>exact ih.up
mutual
def bOf:Tr->Bt
 |.node c ks=>.nd c (bOfL ks)
def bOfL:List Tr->List Bt
 |[]=>[]
 |t::r=>bOf t::bOfL r
end
theorem vb:∀ks:List Tr,bOfL ks=ks.map bOf
 |[]=>by rw[bOfL];rfl
 |t::r=>by rw[bOfL,vb r];rfl
theorem bOf_eq(t:Tr):bOf t=.nd t.lb (t.ks.map bOf):=by
 cases t with
 |node c ks=>rw[bOf,vb];rfl
theorem At.bat{K:W.Frag}{H:Hp}:∀{n:Nat}{v:V}{t:Tr},At K n H v t->BAt K n H v (bOf t)
 |0,_,_,h=>h.elim
 |n+1,v,t,⟨a,vs,e,sh,ok,l,q⟩=>by
  rw[bOf_eq];refine⟨a,vs,e,sh,by rw[hJ];exact ok.b,by rw[hJ];exact l,fun i u k h1 h2=>?_⟩;rw[iJ] at h2;cases hk:t.ks[i]? with
  |none=>rw[hk] at h2;cases h2
  |some kk=>rw[hk] at h2;cases h2;exact At.bat (q i u kk h1 hk)
mutual
theorem bsz_of:∀t:Tr,bsz (bOf t)=(post t).length
 |.node c ks=>by rw[bOf,bsz,bszL_of ks,post,hG];rfl
theorem bszL_of:∀ks:List Tr,Xt (bOfL ks)=(Z2 ks).length
 |[]=>by rw[bOfL,Xt,Z2];rfl
 |t::r=>by rw[bOfL,Xt,bsz_of t,bszL_of r,Z2,hG]
end
def XH(K:W.Frag)(n:Nat)(H:Hp)(vs:List V)(bs:List Bt):Prop:=vs.length=bs.length/\∀(i:Nat) u k,vs[i]?=some u->bs[i]?=some k->BAt K n H u k
theorem XH.one{K:W.Frag}{n:Nat}{H:Hp}{v:V}{b:Bt}(h:BAt K n H v b):XH K n H [v] [b]:=⟨rfl,fun i u k h1 h2=>by
 cases i with
 |zero=>cases h1;cases h2;exact h
 |succ i=>simp at h1⟩
theorem XH.le{K:W.Frag}{n m:Nat}{H:Hp}{vs:List V}{bs:List Bt}(h:XH K n H vs bs)(hm:n<=m):XH K m H vs bs:=⟨h.1,fun i u k h1 h2=>(h.2 i u k h1 h2).le hm⟩
theorem XH.app{K:W.Frag}{n:Nat}{H:Hp}{vs us:List V}{ts rs:List Bt}(h:XH K n H vs ts)(g:XH K n H us rs):XH K n H (vs++us) (ts++rs):=by
 refine⟨by rw[hG,hG,h.1,g.1],fun i u k h1 h2=>?_⟩
 by_cases hi:i<vs.length
 ·rw[iI hi] at h1;rw[iI (by rw[<- h.1];exact hi)] at h2;exact h.2 i u k h1 h2
 ·rw[iM (by omega)] at h1;rw[iM (by rw[<- h.1];omega),<- h.1] at h2;exact g.2 _ u k h1 h2
theorem XH.last{K:W.Frag}{n:Nat}{H:Hp}{vs:List V}{ts:List Bt}(h:XH K n H vs ts)(hne:vs≠[]):∃us u rs r,vs=us++[u]/\ts=rs++[r]/\XH K n H us rs/\BAt K n H u r:=by
 have hl:=jT.mpr hne;have ht:ts≠[]:=fun e=>by rw[e] at h;have:=h.1;simp at this;exact hne this
 have e1:=kJ hne;have e2:=kJ ht;have hl1:vs.dropLast.length=ts.dropLast.length:=by rw[ki,ki,h.1]
 refine⟨vs.dropLast,vs.getLast hne,ts.dropLast,ts.getLast ht,e1.symm,e2.symm,⟨hl1,fun i u k h1 h2=>?_⟩,?_⟩
 ·have hi:=(ib.mp h1).1;refine h.2 i u k ?_ ?_
  ·rw[<- e1,iI hi];exact h1
  ·rw[<- e2,iI (by rw[<- hl1];exact hi)];exact h2
 ·refine h.2 (vs.length-1) _ _ ?_ ?_
  ·rw[kK];exact gZ _
  ·rw[kK,h.1];exact gZ _
theorem Uf:∀bs:List Bt,bs.length<=Xt bs
 |[]=>by simp[Xt]
 |b::r=>by
  have:=Uf r;have h1:1<=bsz b:=by cases b<;>simp[bsz]
  rw[Xt,iA];omega
def FmT(K:W.Frag)(H:Hp)(v:V):Prop:=∃a us c,v=.ref a/\WK K H a us c/\lbOkB c us.length
theorem At.fmT{K:W.Frag}{H:Hp}{n:Nat}{v:V}{t:Tr}(h:At K n H v t):FmT K H v:=by
 cases n with
 |zero=>exact h.elim
 |succ n=>
  obtain⟨a,vs,e,sh,ok,l,_⟩:=h;exact⟨a,vs,t.lb,e,sh,by rw[l];exact ok.b⟩
inductive rInD2_R(K:W.Frag)(P:Params)(x:V)(y:V)(H:Hp)(Q:VK):Prop
 |mk (z:_) (D:_) (kvs:_) (b:_) (h0:x=.str z) (h1:y=.ref D) (h2:DicK K P D kvs) (h3:((b=true/\∃i,(z,i)∈kvs)\/(b=false/\W.nsIn K D z=some none))) (h4:Q (.bl b) H):rInD2_R K P x y H Q
def rInD2(K:W.Frag)(P:Params):R2:=fun x y H Q=>rInD2_R K P x y H Q
theorem op_inD2{X:Cx}{K:W.Frag}{P:Params}(hK:X.K=K)(hw:X.w.params=P):OpR X (compareOp .In) (rInD2 K P):=by
 subst hK hw;intro gE s σ H x y v u Q I rx ry h;obtain⟨z,D,kvs,b,rfl,rfl,d,hb,q⟩:=h;obtain⟨t,rfl⟩:=(show ∃t,v=Value.str z t from rx);obtain rfl:u=Value.ref D:=ry;obtain⟨m,F⟩:=I.fr;obtain⟨es,n,lk,hk⟩:=d.ex;rcases hb with⟨rfl,i,hm⟩|⟨rfl,ea⟩
 ·obtain⟨t2,ea⟩:=d.at_ _ hm;exact W.topIn_K F I.mod.kin lk hk ea d.lo ⟨.bl true,H,I.tok _,rfl,q⟩
 ·exact W.topIn_K F I.mod.kin lk hk ea d.lo ⟨.bl false,H,I.tok _,rfl,q⟩
theorem qN{p:Prop}[Decidable p]{Q:VK}{H:Hp}(h:¬p)(q:Q (.bl false) H):Q (.bl (decide p)) H:=by rw[im h];exact q
end L3
namespace L2
open PySem PySem.Spec PyProof.Rows
section
variable(P:Program)(w:World)
end
section
variable{P:Program}{w:World}{H H':Hp}{h h':Heap}{a:Addr}{o:HO}
end
section
variable{P:Program}{w:World}{H:Hp}{h h':Heap}{x e:Addr}{o':HO}
end
section
variable{fs fs' ex ex':List Addr}{H H1 H2:Hp}{h h1 h2 h':Heap}{a x e:Addr}{o:HO}
end
section
variable{X:Cx}{gE:List (Addr×Obj)}{σ:List (Option V)}{H H':Hp}{s:Shared}{h':Heap}
end
section
variable{X:Cx}
variable{a b:Expr}{ta tb:TE}{pos:Pos}
variable{tA tB':TT}{Wv:List Expr}
end
section
variable{X:Cx}{gE:List (Addr×Obj)}{σ:St}{H:Hp}{s:Shared}{a:Addr}{xs ys:List V}
end
section
variable{X:Cx}{gE:List (Addr×Obj)}{σ:St}{H:Hp}{s:Shared}{E:Value->Shared->Prop}
end
section
variable{X:Cx}{st:Stmt}{Wv:List Stmt}{t u:TS}{e:Expr}{te:TE}{pos:Pos}
end
section
variable{X:Cx}{pos:Pos}
end
section
variable{X:Cx}{pos:Pos}
end
section
variable{X:Cx}{tg:Expr}
end
section
variable{X:Cx}{a b c:Expr}{ta tb tc:TE}{pos:Pos}
end
section
variable{X:Cx}{a b c:Expr}{ta tb tc:TE}{pos:Pos}
end
section
variable{prog:Program}{w:World}{A:Around}{E:Value->Shared->Prop}{s:Shared}{K:W.Frag}{x dx C f:Addr}{mA:Str->Option Value}{name:Str}{v:Value}
end
section
variable{P:Program}{w:World}{H H':Hp}{h h':Heap}{a C dx:Addr}{fs fs':List (Str×V)}
end
section
variable{X:Cx}{gE:List (Addr×Obj)}{σ:St}{H:Hp}{s:Shared}{a C dx:Addr}{fs:List (Str×V)}{f:Str}{v:V}{A:Around}{E:Value->Shared->Prop}
end
section
variable{X:Cx}{o e value:Expr}{f:Str}{pos pos' tpos:Pos}{ta tv:TE}
end
section
variable{X:Cx}{gE:List (Addr×Obj)}{σ:St}{H:Hp}{s:Shared}{A:Around}{E:Value->Shared->Prop}{Q:Value->Shared->Prop}{c:Value}{b:Bool}
end
section
variable{X:Cx}{e:Expr}{es:List Expr}{te:TE}{t:TA}{pos:Pos}
end
section
variable{X:Cx}{gE:List (Addr×Obj)}{σ:St}{H:Hp}{s s':Shared}
end
section
variable{X:Cx}{CX:CXT}{k:Nat}{f C:Addr}{fd:FuncData}{ps:List Str}{sp:Sp}{dvs:List V}{ds:List Value}{E:XK}{x m:Str}{p pos apos:Pos}{e o:Expr}{es:List Expr}{ta:TE}{t:TA}
end
section
variable{X:Cx}{CX:CXT}{k:Nat}{f C:Addr}{fd:FuncData}{ps ks:List Str}{sp:Sp}{E:XK}{x m:Str}{p pos apos kpos:Pos}{e o:Expr}{es:List Expr}{kws:List Keyword}{te ta:TE}{t tk:TA}{nm:Option Str}
variable{g:List Value->List Value->List Value}{gV:List V->List V->List V}
end
section
variable{X:Cx}{x:Str}{p pos:Pos}{e:Expr}{es:List Expr}{t:TA}{id T:String}{r:List V->Hp->VK->Prop}
end
section
variable{κ:Type}[DecidableEq κ]
def Ud(kvs:List (κ×V))(k:κ):Option V:=(kvs.find? fun kv=>decide (kv.1=k)).map (·.2)
def UG(kvs:List (κ×V))(k:κ)(v:V):List (κ×V):=
 if(kvs.any fun kv=>decide (kv.1=k))=true then kvs.map (fun kv=>if kv.1=k then(kv.1,v) else kv) else kvs++[(k,v)]
theorem qL{p:κ×V}{r:List (κ×V)}{k:κ}(e:p.1=k):Ud (p::r) k=some p.2:=by simp[Ud,jW,e]
theorem zn{p:κ×V}{r:List (κ×V)}{k:κ}(e:¬p.1=k):Ud (p::r) k=Ud r k:=by simp[Ud,jW,e]
theorem xR(k:κ):∀kvs:List (κ×V),(kvs.any fun kv=>decide (kv.1=k))=(Ud kvs k).isSome
 |[]=>rfl
 |p::r=>by
  rw[jS]
  by_cases e:p.1=k
  ·simp only[qL e,hX e,Bool.true_or,Option.isSome_some]
  ·rw[zn e,im e,Bool.false_or];exact xR k r
theorem U4(kvs:List (κ×V))(k:κ)(v:V):(UG kvs k v).length<=kvs.length+1:=by
 unfold UG
 split
 ·rw[hJ];omega
 ·rw[hG,iA,kN];omega
theorem VT.isSome_eq{o:Option V}{u:Option Value}(r:VT o u):o.isSome=u.isSome:=by
 cases o with
 |none=>cases u with
  |none=>rfl
  |some _=>exact(show False from r).elim
 |some _=>cases u with
  |none=>exact(show False from r).elim
  |some _=>rfl
theorem KV.any{kvs:List (κ×V)}{vs:List (κ×Value)}(r:KV kvs vs)(k:κ):(kvs.any fun kv=>decide (kv.1=k))=vs.any fun kv=>decide (kv.1=k):=by
 unfold KV at r
 induction r with
 |nil=>rfl
 |cons h t ih=>rw[jS,jS,ih,h.1]
theorem KV.repl{kvs:List (κ×V)}{vs:List (κ×Value)}(r:KV kvs vs)(k:κ){y:V}{u:Value}(ry:ZU y u) :
  KV (kvs.map fun kv=>if kv.1=k then(kv.1,y) else kv) (vs.map fun kv=>if kv.1=k then(kv.1,u) else kv):=by
 unfold KV at r ⊢
 induction r with
 |nil=>exact .nil
 |@cons p q ps qs h t ih=>
  rw[g9,g9];refine .cons ?_ ih;obtain⟨h1,h2⟩:=h
  by_cases e:p.1=k
  ·rw[if_pos e,if_pos (h1.symm.trans e)];exact⟨h1,ry⟩
  ·rw[if_neg e,if_neg (fun z=>e (h1.trans z))];exact⟨h1,h2⟩
theorem KV.put{kvs:List (κ×V)}{vs:List (κ×Value)}(r:KV kvs vs)(k:κ){y:V}{u:Value}(ry:ZU y u):KV (UG kvs k y) (stored vs k u):=by
 unfold UG stored;rw[r.any k]
 by_cases e:(vs.any fun kv=>decide (kv.1=k))=true
 ·rw[if_pos e,if_pos e];exact r.repl k ry
 ·rw[if_neg e,if_neg e];exact Paired.snoc r ⟨rfl,ry⟩
theorem KV.length{kvs:List (κ×V)}{vs:List (κ×Value)}(r:KV kvs vs):kvs.length=vs.length:=j9 r
end
theorem kV_is{P:Program}{w:World}{k:Key}{u:Value}(r:ZU (kV k) u):(ZW P w).is k u=true:=by
 cases k with
 |inl i=>obtain⟨t,e⟩:=(show ∃t,u=Value.int i t from r);subst e;exact xy P w i t
 |inr x=>obtain⟨t,e⟩:=(show ∃t,u=Value.str x t from r);subst e;exact xD P w x t
theorem UD{P:Program}{w:World}:∀{ks:List Key}{us:List Value},ZN (ks.map kV) us->ItemsAre (ZW P w) ks us
 |[],_,r=>by rw[ip] at r;cases r;exact .nil
 |k::ks,_,r=>by
  rw[g9] at r;cases r with
  |cons h t=>exact .cons (kV_is h) (UD t)
abbrev KT(H:Hp):List (List Key×V)->List (List Key×Addr×Value)->Prop:=Paired fun p q=>p.1=q.1/\H q.2.1=some (.tup (p.1.map kV))/\ZU p.2 q.2.2
theorem KT.val{H:Hp}{kvs:List (List Key×V)}{xs:List (List Key×Addr×Value)}(r:KT H kvs xs)(k:List Key):VT (Ud kvs k) ((atKey xs k).map (·.2)):=by
 induction r with
 |nil=>exact True.intro
 |@cons p q ps qs h t ih=>
  obtain⟨h1,_,h2⟩:=h
  by_cases e:p.1=k
  ·have e':q.1=k:=h1.symm.trans e;have b:atKey (q::qs) k=some q.2:=by simp[atKey,jW,e']
   rw[qL e,b];exact h2
  ·have e':¬q.1=k:=fun z=>e (h1.trans z);have b:atKey (q::qs) k=atKey qs k:=by simp[atKey,jW,e']
   rw[zn e,b];exact ih
theorem KT.repl{H:Hp}{kvs:List (List Key×V)}{xs:List (List Key×Addr×Value)}(r:KT H kvs xs)(k:List Key){y:V}{u:Value}(ry:ZU y u) :
  KT H (kvs.map fun kv=>if kv.1=k then(kv.1,y) else kv) (xs.map (putAt k u)):=by
 induction r with
 |nil=>exact .nil
 |@cons p q ps qs h t ih=>
  rw[g9,g9];refine .cons ?_ ih;obtain⟨h1,h2,h3⟩:=h;unfold putAt
  by_cases e:p.1=k
  ·rw[if_pos e,if_pos (h1.symm.trans e)];exact⟨h1,h2,ry⟩
  ·rw[if_neg e,if_neg (fun z=>e (h1.trans z))];exact⟨h1,h2,h3⟩
theorem KT.put{H:Hp}{kvs:List (List Key×V)}{xs:List (List Key×Addr×Value)}(r:KT H kvs xs)(k:List Key){b:Addr}{y:V}{u:Value}(hb:H b=some (.tup (k.map kV)))(ry:ZU y u) :
  KT H (UG kvs k y) (storedH xs k b u):=by
 have e:(kvs.any fun kv=>decide (kv.1=k))=(atKey xs k).isSome:=by
  rw[xR,(r.val k).isSome_eq,Option.isSome_map]
 unfold UG storedH;rw[e]
 by_cases q:(atKey xs k).isSome=true
 ·rw[if_pos q,if_pos q];exact r.repl k ry
 ·rw[if_neg q,if_neg q];exact Paired.snoc r ⟨rfl,hb,ry⟩
theorem KT.keeps{H H':Hp}{kvs:List (List Key×V)}{xs:List (List Key×Addr×Value)}(r:KT H kvs xs)(ht:∀b ys,H b=some (.tup ys)->H' b=some (.tup ys)):KT H' kvs xs:=
 Paired.mapP r fun _ _ z=>⟨z.1,ht _ _ z.2.1,z.2.2⟩
section
variable{P:Program}{w:World}{H:Hp}{h:Heap}{a:Addr}
theorem rd_of{u:HO}(ok:HOk P w H h)(e:Rd H a u):Yx P w H h a u:=e.ok ok
theorem dk_rd{kvs:List (Key×V)}(ok:HOk P w H h)(e:Rd H a (.dK kvs)):kvs.length<=sizeLine/\(a==sysModules)=false/\∃vs,KV kvs vs/\h.DictOf (ZW P w) a vs:=
 show Yx P w H h a (.dK kvs) from rd_of ok e
theorem dk_of{kvs:List (Key×V)}(ok:HOk P w H h)(e:H a=some (.dK kvs)):kvs.length<=sizeLine/\(a==sysModules)=false/\∃vs,KV kvs vs/\h.DictOf (ZW P w) a vs:=dk_rd ok (.inl e)
theorem key_of{ks:List Key}(ok:HOk P w H h)(e:H a=some (.tup (ks.map kV))):(tupleKind (ZW P w)).is h ks a:=by
 obtain⟨_,its,r,o,h1,h2,n,h3⟩:=(show Yx P w H h a (.tup (ks.map kV)) from ok a _ e);exact⟨o,its.toArray,n,h1,h2,h3,by simpa using UD r⟩
theorem dt_rd{kvs:List (List Key×V)}(ok:HOk P w H h)(e:Rd H a (.dT kvs)):kvs.length<=sizeLine/\(a==sysModules)=false /\
  ∃xs,KT H kvs xs/\h.DictOfH (tupleKind (ZW P w)) a xs:=by
 obtain⟨z,y,xs,r,o,es,ep,h1,h2,h3,h4,h5⟩:=(show Yx P w H h a (.dT kvs) from rd_of ok e);refine⟨z,y,xs,r,o,es,ep,h1,h2,h3,h4,fun x hx=>?_,h5⟩;have all:∀{l:List (List Key×V)}{m:List (List Key×Addr×Value)},KT H l m->∀x∈m,(tupleKind (ZW P w)).is h x.1 x.2.1:=by
  intro l m q
  induction q with
  |nil=>intro x hx;exact nomatch hx
  |@cons p q ps qs hq t ih=>
   intro x hx;rcases ic.mp hx with e|hx
   ·subst e;exact key_of ok (by rw[<- hq.1];exact hq.2.1)
   ·exact ih x hx
 exact all r x hx
theorem dt_of{kvs:List (List Key×V)}(ok:HOk P w H h)(e:H a=some (.dT kvs)):kvs.length<=sizeLine/\(a==sysModules)=false /\
  ∃xs,KT H kvs xs/\h.DictOfH (tupleKind (ZW P w)) a xs:=dt_rd ok (.inl e)
end
def DPut(H:Hp)(a:Addr)(y v:V)(H':Hp):Prop:=
 (∃kvs k,H a=some (.dK kvs)/\y=kV k/\kvs.length<sizeLine/\H'=upd H a (.dK (UG kvs k v))) \/
 ∃kvs k b,H a=some (.dT kvs)/\y=.ref b/\H b=some (.tup (k.map kV))/\kvs.length<sizeLine/\H'=upd H a (.dT (UG kvs k v))
theorem DPut.k{H:Hp}{a:Addr}{kvs:List (Key×V)}{k:Key}{v:V}(e:H a=some (.dK kvs))(hl:kvs.length<sizeLine):DPut H a (kV k) v (upd H a (.dK (UG kvs k v))):=.inl ⟨kvs,k,e,rfl,hl,rfl⟩
section
variable{X:Cx}{gE:List (Addr×Obj)}{σ:St}{H:Hp}{s:Shared}{a:Addr}{y v:V}{u r:Value}{o:Option V}{A:Around}{E:Value->Shared->Prop}
theorem Inv.big(I:Inv X gE σ H s):sysModules<s.heap.objs.size:=by
 have h:mainGlobals<s.heap.objs.size:=(I.mod.glob.keeps I.bk).lt;exact Nat.lt_trans (by decide) h
theorem yN{h':Heap}{t':Nat}{ob:HO}(I:Inv X gE σ H s)(mu:Mut (H a))(hs:Heap.SameBut a s.heap h')(he:∃q,h'.get? a=some q)(new:Yx X.prog X.w (upd H a ob) h' a ob) :
  Inv X gE σ (upd H a ob) { s with heap:=h',toks:=t' }:=
 I.write (x:=a) (e:=a) mu (.inl rfl) (fun b q hb z=>(hs.2 b hb).trans z) he new
theorem dk_new{P:Program}{w:World}{H':Hp}{h':Heap}{kvs:List (Key×V)}{vs:List (Key×Value)}(z:kvs.length<=sizeLine)(hd:(a==sysModules)=false)(rel:KV kvs vs)(dd:h'.DictOf (ZW P w) a vs) :
  Yx P w H' h' a (.dK kvs):=⟨z,hd,vs,rel,dd⟩
end
section
variable{X:Cx}{gE:List (Addr×Obj)}{σ:St}{H:Hp}{s:Shared}{a:Addr}{kvs:List (Key×V)}{k:Key}{u:Value}{A:Around}{E:Value->Shared->Prop}
end
def NoSl(i:Expr):Prop:=∀ov iv,subscripted i false ov iv=operate [ov,iv] (getItem ov iv)
theorem subD_of{prog:Program}{w:World}{A:Around}{E:Value->Shared->Prop}{s:Shared}{env:Env}{value slice:Expr}{pos:Pos}{T id:String}{Q:Value->Shared->Prop}
  (hl:typeLookup (.type T) "__getitem__" = pure (some (.builtin id))) (hs:NoSl slice)
  (h:wpAny (model prog w) A (eval value env) (fun o s₁=>wpAny (model prog w) A (eval slice env) (fun i s₂=>s₂.TypeIs o T/\wpAny (model prog w) A (getItem o i) Q E s₂) E s₁) E s) :
  wpAny (model prog w) A (eval (.Subscript value slice pos) env) Q E s:=by
 refine Subscript_ (i4 h (fun o s₁ h₁=>i4 h₁ (fun i s₂ h₂=>?_) fun _ _ x=>x) fun _ _ x=>x);obtain⟨hT,h₂⟩:=h₂;unfold subscriptTail;refine gW ?_;rw[getitemInPython_of_ne hT.not_modules];refine gW (wpAny_specialOf hT hl ?_);have fin:wpAny (model prog w) A (subscripted slice false o i) (fun r s₃=>wpAny (model prog w) A (letTemporaryGo value o r >>= fun _=>pure r) Q E s₃) E s₂:=by
  rw[hs o i];exact wpAny_operating (i4 h₂ (fun r s₃ h₃=>gW (wpAny_letTemporaryGo (gX h₃))) fun _ _ x=>x)
 first
  |exact gX (gW fin)
  |exact gW (gX (gW fin))
  |exact gW fin
section
variable{X:Cx}{o i e value:Expr}{pos pos' tpos:Pos}{td ty tv:TE}
end
theorem xt{P:Program}{w:World}{H:Hp}(h:Heap)(hb:sysModules<h.objs.size):Yx P w H (h.push { cls:=.type "dict",data:=.dict #[] }) h.objs.size (.dK []):=
 ⟨iU _,ju.mpr (ie (iC hb)),[],.nil,Heap.DictOf.new h⟩
theorem dt_empty{P:Program}{w:World}{H:Hp}(h:Heap)(hb:sysModules<h.objs.size):Yx P w H (h.push { cls:=.type "dict",data:=.dict #[] }) h.objs.size (.dT []):=
 ⟨iU _,ju.mpr (ie (iC hb)),[],.nil,_,#[],0,iF _ rfl,⟨rfl,rfl,rfl⟩,rfl,rfl,List.nodup_nil⟩
section
variable{X:Cx}{pos:Pos}
end
structure M1(X:Cx)(o:Expr)(m:Str)(apos:Pos)(e:Expr)(cpos:Pos):Prop where
 base:attributeBase o m X.env (eval o X.env)=eval o X.env
 few:((backTo cpos (starEach [e] X.env)).all (fun x=>!x.1)&&(backToKw cpos (keywordEach [] X.env)).all (fun x=>x.1.isSome)
  && decide (([e]:List Expr).length+([]:List Keyword).length+(if([]:List Keyword).isEmpty then 0 else 1)<30))=true
 line:(apos.endLine==cpos.line)=true
 trees:backTo cpos (starEach [e] X.env)=[(false,eval e X.env)]
structure M2(X:Cx)(o:Expr)(m:Str)(apos:Pos)(e f:Expr)(cpos:Pos):Prop where
 base:attributeBase o m X.env (eval o X.env)=eval o X.env
 few:((backTo cpos (starEach [e,f] X.env)).all (fun x=>!x.1)&&(backToKw cpos (keywordEach [] X.env)).all (fun x=>x.1.isSome)
  && decide (([e,f]:List Expr).length+([]:List Keyword).length+(if([]:List Keyword).isEmpty then 0 else 1)<30))=true
 line:(apos.endLine==cpos.line)=true
 trees:backTo cpos (starEach [e,f] X.env)=[(false,eval e X.env),(false,eval f X.env)]
section
variable{X:Cx}{gE:List (Addr×Obj)}{σ:St}{H:Hp}{s:Shared}{a:Addr}{y d:V}{u r:Value}{o:Option V}{A:Around}{E:Value->Shared->Prop}
end
section
variable{X:Cx}{o e f:Expr}{apos cpos:Pos}{td ty tx:TE}
end
section
variable{X:Cx}{gE:List (Addr×Obj)}{σ:St}{H:Hp}{s:Shared}{a:Addr}{kvs:List (Key×V)}{A:Around}{E:Value->Shared->Prop}
end
section
variable{X:Cx}{gE:List (Addr×Obj)}{σ:St}{H:Hp}{s:Shared}{a:Addr}{y:V}{u:Value}{A:Around}{E:Value->Shared->Prop}
end
end L2
namespace Att
open PySem PySem.W PySem.Calls PyProof.Rows
section
variable{prog:Program}{w:World}{A:Around}{E:Value->Shared->Prop}{s:Shared}{K:Frag}
end
end Att
namespace L2
open PySem PySem.Spec PyProof.Rows
section
variable{P:Program}{w:World}{K:W.Frag}{mg:Str->Option Value}{base:Heap}
end
section
variable{X:Cx}
end
section
variable{κ:Type}[DecidableEq κ]
end
end L2
namespace L3
open PySem PySem.Spec PyProof.Rows L2
section
variable{X:Cx}{K:W.Frag}
def rInB(K:W.Frag)(neg:Bool):R2:=fun x y H Q=>∃ds d,Dp K H y (.list ds)/\Dp K H x d/\PyData.canLayAll0 ds=true/\d.canLay0=true/\d.depth<=190/\Q (.bl (if neg then !(ds.any fun z=>PyData.eqv z d) else ds.any fun z=>PyData.eqv z d)) H
theorem op_notInB(hK:X.K=K)(hu:X.A.units+195<cLine):OpR X (compareOp .NotIn) (rInB K true):=by
 subst hK;intro gE s σ H x y u v Q I rx ry h;obtain⟨ds,d,hy,hx,c1,c2,dp,q⟩:=h;obtain⟨as,a⟩:=hy.reads I ry;obtain⟨bs,b⟩:=hx.reads I rx;exact SeqAt.notIn_list_reads a b c1 c2 (by have:=Nat.min_le_right (PyData.depthAll ds) d.depth;omega) ⟨.bl _,H,I,rfl,q⟩
end
section
open Classical
noncomputable def Yp(A:List Tr)(t:Tr):List Tr:=if t∈A then A else A++[t]
noncomputable def ZQ(A L:List Tr):List Tr:=L.foldl Yp A
theorem Wm(A:List Tr):ZQ A []=A:=rfl
theorem Yu(A:List Tr)(x:Tr)(L:List Tr):ZQ A (x::L)=ZQ (Yp A x) L:=rfl
theorem WU(A L M:List Tr):ZQ A (L++M)=ZQ (ZQ A L) M:=List.foldl_append
theorem W3{A:List Tr}{t:Tr}(h:t∈A):Yp A t=A:=if_pos h
theorem Ux{A:List Tr}{t:Tr}(h:t∉A):Yp A t=A++[t]:=if_neg h
theorem qR{A:List Tr}{t x:Tr}:x∈Yp A t↔x∈A\/x=t:=by
 unfold Yp
 split
 ·rename_i h
  exact⟨.inl,fun z=>z.elim id fun e=>by rw[e];exact h⟩
 ·simp
theorem W7:∀{L A:List Tr}{x:Tr},x∈ZQ A L↔x∈A\/x∈L
 |[],A,x=>by simp[Wm]
 |t::r,A,x=>by rw[Yu,W7,qR,ic,or_assoc]
theorem W5{A:List Tr}{t:Tr}(h:A.Nodup):(Yp A t).Nodup:=by
 unfold Yp
 split
 ·exact h
 ·rename_i n
  rw[List.nodup_append];exact⟨h,by simp,fun a ha b hb e=>n (by rw[iW.mp hb] at e;rw[<- e];exact ha)⟩
theorem WR:∀{L A:List Tr},A.Nodup->(ZQ A L).Nodup
 |[],_,h=>h
 |t::r,A,h=>by rw[Yu];exact WR (W5 h)
theorem xM(A:List Tr)(t:Tr):∃B,Yp A t=A++B:=by
 unfold Yp
 split
 ·exact⟨[],by simp⟩
 ·exact⟨[t],rfl⟩
theorem qI:∀(L A:List Tr),∃B,ZQ A L=A++B
 |[],A=>⟨[],by simp[Wm]⟩
 |t::r,A=>by
  obtain⟨B,e⟩:=xM A t;obtain⟨C,e2⟩:=qI r (Yp A t);exact⟨B++C,by rw[Yu,e2,e,jc]⟩
theorem V2:∀(L A:List Tr),(ZQ A L).length<=A.length+L.length
 |[],A=>by simp[Wm]
 |t::r,A=>by
  have:=V2 r (Yp A t);have h:(Yp A t).length<=A.length+1:=by
   unfold Yp
   split<;>simp
  rw[Yu,iA];omega
end
theorem Wc{t k:Tr}(h:k∈t.ks):psz k<psz t:=by
 rw[UJ t];have:∀(l:List Nat) (n:Nat),n∈l->n<=l.sum:=by
  intro l
  induction l with
  |nil=>intro n h;cases h
  |cons a r ih=>
   intro n h;rw[iD];rcases ic.mp h with rfl|h
   ·omega
   ·have:=ih n h;omega
 have:=this _ _ (kL (f:=psz) h);omega
def nK(is:List Nat):List Key:=is.map fun(i:Nat)=>(Sum.inl ((i:Nat):Int):Key)
def WG:Lb->List Nat->List Key
 |.yes,_=>[.inr "yes"]
 |.sign z,_=>[.inr "sign",.inr z]
 |.wit m,is=>.inr "within" :: .inl m::nK is
 |.op w,is=>.inr w::nK is
 |.many w,is=>.inr w::nK is
theorem y0:∀{a b:List Nat},nK a=nK b->a=b
 |[],[],_=>rfl
 |[],y::b,h=>by simp[nK] at h
 |x::a,[],h=>by simp[nK] at h
 |x::a,y::b,h=>by
  have h1:(Sum.inl (x:Int):Key)=Sum.inl (y:Int):=(jm h).1;have h2:nK a=nK b:=(jm h).2;have e:(x:Int)=y:=jM h1;rw[y0 h2,show x=y by omega]
theorem YX:∀w∈W1++W2,w ≠ "yes" /\ w ≠ "sign" /\ w ≠ "within" /\ w ≠ "and" /\ w ≠ "or" := by decide +kernel
theorem Wz{w:Str}{n:Nat}(h:Yh (.op w) n):w∈W1++W2:=by
 rcases h with⟨h,_⟩|⟨h,_⟩
 ·exact iX _ h
 ·exact iE _ h
theorem qC{c:Lb}{is:List Nat}:∃r,WG c is=.inr (Zv c)::r:=by
 cases c<;>exact⟨_,rfl⟩
theorem key_inj{c c':Lb}{is is':List Nat}(h1:Yh c is.length)(h2:Yh c' is'.length)(h:WG c is=WG c' is'):c=c'/\is=is':=by
 obtain⟨r,e⟩:=qC (c:=c) (is:=is);obtain⟨r',e'⟩:=qC (c:=c') (is:=is');have hw:Zv c=Zv c':=by
  rw[e,e'] at h;exact jz (jm h).1
 clear e e' r r';have ny:¬(("sign" : Str) = "yes")/\¬(("within" : Str) = "yes")/\¬(("within" : Str) = "sign")/\¬(("and" : Str) = "yes")/\¬(("or" : Str) = "yes")/\¬(("and" : Str) = "sign")/\¬(("or" : Str) = "sign")/\¬(("and" : Str) = "within")/\¬(("or" : Str) = "within"):=by decide +kernel
 obtain⟨n1,n2,n3,n4,n5,n6,n7,n8,n9⟩:=ny;have z0:∀{l:List Nat},l.length=0->l=[]:=fun h=>iG.mp h;cases c with
 |yes=>
  cases c' with
  |yes=>exact⟨rfl,(z0 h1).trans (z0 h2).symm⟩
  |sign z=>exact absurd hw.symm n1
  |wit m=>exact absurd hw.symm n2
  |op w=>exact absurd hw.symm (YX w (Wz h2)).1
  |many w=>rcases h2.1 with rfl|rfl;exact absurd hw.symm n4;exact absurd hw.symm n5
 |sign z=>
  cases c' with
  |yes=>exact absurd hw n1
  |sign z'=>
   have e:z=z':=jz (jm (jm h).2).1;exact⟨by rw[e],(z0 h1.1).trans (z0 h2.1).symm⟩
  |wit m=>exact absurd hw.symm n3
  |op w=>exact absurd hw.symm (YX w (Wz h2)).2.1
  |many w=>rcases h2.1 with rfl|rfl;exact absurd hw.symm n6;exact absurd hw.symm n7
 |wit m=>
  cases c' with
  |yes=>exact absurd hw n2
  |sign z=>exact absurd hw n3
  |wit m'=>
   have e:=(jm (jm h).2);exact⟨by rw[jM e.1],y0 e.2⟩
  |op w=>exact absurd hw.symm (YX w (Wz h2)).2.2.1
  |many w=>rcases h2.1 with rfl|rfl;exact absurd hw.symm n8;exact absurd hw.symm n9
 |op w=>
  have wa:=YX w (Wz h1);cases c' with
  |yes=>exact absurd hw wa.1
  |sign z=>exact absurd hw wa.2.1
  |wit m=>exact absurd hw wa.2.2.1
  |op w'=>exact⟨by rw[show w=w' from hw],y0 (jm h).2⟩
  |many w'=>rcases h2.1 with rfl|rfl;exact absurd hw wa.2.2.2.1;exact absurd hw wa.2.2.2.2
 |many w=>
  cases c' with
  |yes=>rcases h1.1 with rfl|rfl;exact absurd hw n4;exact absurd hw n5
  |sign z=>rcases h1.1 with rfl|rfl;exact absurd hw n6;exact absurd hw n7
  |wit m=>rcases h1.1 with rfl|rfl;exact absurd hw n8;exact absurd hw n9
  |op w'=>rcases h1.1 with rfl|rfl;exact absurd hw.symm (YX w' (Wz h2)).2.2.2.1;exact absurd hw.symm (YX w' (Wz h2)).2.2.2.2
  |many w'=>exact⟨by rw[show w=w' from hw],y0 (jm h).2⟩
theorem zL{ps:List Tr}(nd:ps.Nodup){i j:Nat}{t:Tr}(h1:ps[i]?=some t)(h2:ps[j]?=some t):i=j:=by
 obtain⟨a,e1⟩:=ib.mp h1;obtain⟨b,e2⟩:=ib.mp h2;have pw:=List.pairwise_iff_getElem.mp (List.nodup_iff_pairwise_ne.mp nd);rcases Nat.lt_trichotomy i j with h|h|h
 ·exact absurd (e1.trans e2.symm) (pw i j a b h)
 ·exact h
 ·exact absurd (e2.trans e1.symm) (pw j i b a h)
def YI(P R D:Addr)(H H':Hp):Prop:=∀b o,b≠P->b≠R->b≠D->H b=some o->H' b=some o
theorem YI.refl{P R D:Addr}{H:Hp}:YI P R D H H:=fun b o _ _ _ e=>e
theorem YI.trans{P R D:Addr}{H H1 H2:Hp}(a:YI P R D H H1)(b:YI P R D H1 H2):YI P R D H H2:=fun c o n1 n2 n3 e=>b c o n1 n2 n3 (a c o n1 n2 n3 e)
theorem Za.b{P R D:Addr}{H H':Hp}(s:Za H H'):YI P R D H H':=fun b o _ _ _ e=>s _ _ e
end L3
namespace L3
open PySem L2
theorem tput1(v:V):YB "parts" v []=([("parts",v)]:List (Str×V)):=by
 simp[YB]
end L3
namespace L3
open PySem PySem.Spec PyProof.Rows L2
open Classical in
theorem z7:∀{l₁ l₂:List Tr},l₁.Nodup->(∀x∈l₁,x∈l₂)->l₁.length<=l₂.length
 |[],_,_,_=>by simp
 |x::r,l₂,nd,h=>by
  obtain⟨h1,h2⟩:=jq.mp nd;have hx:=h x (by simp);have:=z7 (l₂:=l₂.erase x) h2 fun y hy=>(List.mem_erase_of_ne (fun e=>h1 (by rw[<- e];exact hy))).mpr (h y (hU _ hy));rw[List.length_erase_of_mem hx] at this;have:=List.length_pos_of_mem hx;rw[iA];omega
variable{K:W.Frag}{Pm:Params}
theorem AtL.oks{n:Nat}{H:Hp}{vs:List V}{ts:List Tr}(h:AtL K n H vs ts):∀t∈ts,Yh t.lb t.ks.length:=fun t ht=>by
 obtain⟨i,hi,e⟩:=jd ht;have hv:i<vs.length:=by rw[h.1];exact hi
 have:=h.2 i _ t (gZ hv) (by rw[<- e];exact gZ hi);cases n with
 |zero=>exact this.elim
 |succ n=>obtain⟨_,_,_,_,ok,_⟩:=this;exact ok
section
variable{X:Cx}
def rSumI(K:W.Frag):List V->Hp->VK->Prop:=fun vs H Q=>∃(a:Addr) (ns:List Int),vs=[.ref a]/\SqL K H a (ns.map V.int)/\Q (.int ns.sum) H
theorem zE(hK:X.K=K)(hc:X.calm=true):YS X (.builtin "sum") (rSumI K):=by
 subst hK;intro gE s σ H xs us Q I r h;obtain⟨a,ns,rfl,hq,q⟩:=h;obtain⟨u,rfl,ru⟩:=WN r;obtain rfl:u=Value.ref a:=ru;obtain⟨its,rits,pl,hz⟩:=I.list hq;have ia:IntsAre its ns:=qJ rits;obtain⟨ys,ey⟩:=(IntsAre.allInts ia).items;have en:ys.toList.map (·.1)=ns:=by
  rw[<- nums_intItems,<- ey];exact IntsAre.numsOf ia
 have il:=pl.isList;rw[ey] at il;refine sum_intListG (I.ok.hd hc) il fun h' tk t' hk=>?_;have e2:preSum (numAt ys) ys.size=ns.sum:=by rw[preSum_eq,jt (by simp),en]
 rw[e2];exact⟨.int ns.sum,H,I.kept (t':=tk) hk,⟨t',rfl⟩,q⟩
end
def mxTo(val:Nat->Int):Nat->Nat->Int->Int
 |0,_,b=>b
 |k+1,j,b=>mxTo val k (j+1) (if val j>b then val j else b)
section
variable{prog:Program}{w:World}{A:Around}{R:Result->Shared->Prop}{I:Addr}{fp wr:List Addr}{n:Nat}{P:Nat->Value->Prop}{St:Nat->Heap->Prop}
theorem mx_loop(W:Walks prog w A.in1 I fp wr n P St)(val:Nat->Int)(hval:∀i v,P i v->∃t,v=.int (val i) t)(S:Addr)(hSf:S∉fp)(kw:List (Str×Value)) :
  ∀(k j:Nat) (s:Shared) (b:Int) (t:Tok) (c:Nat),n-j=k->j<=n->St j s.heap ->
  s.heap.get? S=some { cls:=.type "list",dict:=none,data:=.seq #[.int b t,.int b t] c,slots:=#[] } ->
  (∀t' h' tk,(∀a o,a∉wr->a≠S->s.heap.get? a=some o->h'.get? a=some o)->R (.ok (.ret (.int (mxTo val k j b) t'))) { s with heap:=h',toks:=tk }) ->
  codeAny (model prog w) A (.builtin "max.loop" ⟨[.ref I,.none,.ref S],kw⟩) R s:=by
 have hSw:S∉wr:=fun h=>hSf (W.sub _ h);have hname:(toString "max" ++ toString ".loop" : String) = "max.loop" := by decide
 intro k
 induction k with
 |zero=>
  intro j s b t c hk hj hst hS hR;obtain rfl:j=n:=by omega
  refine codeAny_builtin F.entry_max_loop ?_;rw[Around.under_plainId jJ _]
  show wpAny _ A.in1 (seqItems? (.ref S) >>= _) _ _ s
  refine gW (jU hS rfl ?_)
  show wpAny _ A.in1 (tryCatch (pyNext (.ref I)) _ >>= _) _ _ s
  refine gW (kz (W.done s _ _ hst fun h' tk hk'=>?_));have hS':=hk' S _ hSw hS
  show wpAny _ A.in1 (updateSeq S (fun _=>#[]) >>= _) _ _ _
  refine gW (ku hS' rfl (gW (wpAny_letGo (gX ?_))));exact hR t _ tk fun a o ha hne e=>(jk _ _ (ie hne)).trans (hk' a o ha e)
 |succ k ih=>
  intro j s b t c hk hj hst hS hR;refine codeAny_builtin F.entry_max_loop ?_;rw[Around.under_plainId jJ _]
  show wpAny _ A.in1 (seqItems? (.ref S) >>= _) _ _ s
  refine gW (jU hS rfl ?_)
  show wpAny _ A.in1 (tryCatch (pyNext (.ref I)) _ >>= _) _ _ s
  refine gW (kz (W.item j s _ _ (by omega) hst fun v h' tk hP hst' hk'=>?_));have hS':=hk' S _ hSw hS;obtain⟨t2,rfl⟩:=hval j v hP
  show wpAny _ A.in1 (tryCatch (holding _ (richCompare .Gt (.int (val j) t2) (.int b t) >>= _)) _ >>= _) _ _ _
  refine gW (kz (ji (gW (CmpOf.ints_gt (P:=fun i v=>(i=0/\v=.int (val j) t2)\/(i=1/\v=.int b t)) (fun i=>if i=0 then val j else b) (fun i v h=>?_) 0 1 _ _ _ _ _ (.inl ⟨rfl,rfl⟩) (.inr ⟨rfl,rfl⟩) ?_))))
  ·rcases h with⟨rfl,rfl⟩|⟨rfl,rfl⟩
   ·exact⟨_,rfl⟩
   ·exact⟨_,rfl⟩
  refine gW (ji (i5 ?_));refine gW (wpAny_letGo (gX ?_))
  show wpAny _ A.in1 (if decide (val j>b)=true then _ else _) _ _ _
  have hR':∀t' h' tk,(∀a o,a∉wr->a≠S->s.heap.get? a=some o->h'.get? a=some o)->R (.ok (.ret (.int (mxTo val k (j+1) (if val j>b then val j else b)) t'))) { s with heap:=h',toks:=tk }:=hR
  by_cases hb:val j>b
  ·rw[if_pos (hX hb)];rw[if_pos hb] at hR';refine gW (ku hS' rfl (gW (wpAny_letGo ?_)));rw[hname];refine gX ⟨plainId_quiet jJ _,ih (j+1) _ (val j) t2 _ (by omega) (by omega) (W.frame _ _ _ hst' fun a ha o e=>?_) (kr _ hS' rfl) fun t' h2 tk2 hk2=>?_⟩
   ·exact(jk _ _ (fun h:S=a=>hSf (by rw[h];exact ha))).trans e
   ·exact hR' t' h2 tk2 fun a o ha hne e=>hk2 a o ha hne ((jk _ _ (ie hne)).trans (hk' a o ha e))
  ·rw[if_neg (by rw[im hb];exact iy)];rw[if_neg hb] at hR';refine gW (wpAny_letGo ?_);rw[hname];exact gX ⟨plainId_quiet jJ _,ih (j+1) _ b t _ (by omega) (by omega) hst' hS' fun t' h2 tk2 hk2=>hR' t' h2 tk2 fun a o ha hne e=>hk2 a o ha hne (hk' a o ha e)⟩
def mxD(val:Nat->Int):Nat->Int->Int
 |0,d=>d
 |k+1,_=>mxTo val k 1 (val 0)
theorem mx_first(W:Walks prog w A.in1 I fp wr n P St)(val:Nat->Int)(hval:∀i v,P i v->∃t,v=.int (val i) t)(S:Addr)(hSf:S∉fp){d:Int}{td:Tok}{s:Shared}{c:Nat}(hst:St 0 s.heap)
  (hS:s.heap.get? S=some { cls:=.type "list",dict:=none,data:=.seq #[] c,slots:=#[] })
  (hR:∀t' h' tk,(∀a o,a∉wr->a≠S->s.heap.get? a=some o->h'.get? a=some o)->R (.ok (.ret (.int (mxD val n d) t'))) { s with heap:=h',toks:=tk }) :
  codeAny (model prog w) A (.builtin "max.loop" ⟨[.ref I,.none,.ref S],[("default",.int d td)]⟩) R s:=by
 have hSw:S∉wr:=fun h=>hSf (W.sub _ h);have hname:(toString "max" ++ toString ".loop" : String) = "max.loop" := by decide
 refine codeAny_builtin F.entry_max_loop ?_;rw[Around.under_plainId jJ _]
 show wpAny _ A.in1 (seqItems? (.ref S) >>= _) _ _ s
 refine gW (jU hS rfl ?_)
 show wpAny _ A.in1 (tryCatch (pyNext (.ref I)) _ >>= _) _ _ s
 cases n with
 |zero=>
  refine gW (kz (W.done s _ _ hst fun h' tk hk'=>?_))
  show wpAny _ A.in1 (rule _ >>= _) _ _ _
  refine gW (wpAny_rule ?_);exact gX (hR td h' tk fun a o ha _ e=>hk' a o ha e)
 |succ n=>
  refine gW (kz (W.item 0 s _ _ (by omega) hst fun v h' tk hP hst' hk'=>?_));have hS':=hk' S _ hSw hS;obtain⟨t2,rfl⟩:=hval 0 v hP
  show wpAny _ A.in1 (updateSeq S (fun _=>#[.int (val 0) t2,.int (val 0) t2]) >>= _) _ _ _
  refine gW (ku hS' rfl ?_);rw[hname];refine gX ⟨plainId_quiet jJ _,mx_loop W val hval S hSf _ n 1 _ (val 0) t2 _ (by omega) (by omega) (W.frame _ _ _ hst' fun a ha o e=>?_) (kr _ hS' rfl) fun t' h2 tk2 hk2=>?_⟩
  ·exact(jk _ _ (fun h:S=a=>hSf (by rw[h];exact ha))).trans e
  ·exact hR t' h2 tk2 fun a o ha hne e=>hk2 a o ha hne ((jk _ _ (ie hne)).trans (hk' a o ha e))
end
section
variable{prog:Program}{w:World}{A:Around}{E:Value->Shared->Prop}{s:Shared}{l:Addr}{xs:Array (Int×Tok)}
theorem args_maxD(a d:Value):argsOk "max" ⟨[a],[("default",d)]⟩:=by unfold argsOk;kernel_rfl
theorem y8{id:String}{b:Builtin}{args:List Value}{kw:List (Str×Value)}{Q:Value->Shared->Prop}(hk:builtinKind id=none)(hp:plainId id=true)
  (hb:entryFor table id=some b) (ha:argsOk id ⟨args,kw⟩)
  (hc:wpAny (model prog w) A.in1 (b ⟨args,kw⟩) (fun fin s'=>match fin with
   |.done f=>(match (Except.ok f:Result) with|.ok (.ret v)=>Q v s'|.ok _=>False|.error e=>E e s')
   |.again c'=>c'.quiet=true/\codeAny (model prog w) A c' (fun r s'=>match r with|.ok (.ret v)=>Q v s'|.ok _=>False|.error e=>E e s') s') E s) :
  wpAny (model prog w) A (call (.builtin id) args kw) Q E s:=by
 refine wpAny_call (codeAny_call_builtin hp hb ?_);simp only[checkBuiltinCall,hk];cases hsig:Manifest.signature? id with
 |none=>exact gX hc
 |some sig=>
  have h2:Bind.checkArgs id sig ⟨args,kw⟩=pure ():=by simpa only[argsOk,hsig] using ha
  simp only[h2];exact gX hc
theorem maxD_list{Q:Value->Shared->Prop}{d:Int}{td:Tok}(hh:A.handled=none)(hl:s.heap.IsList l (intItems xs))
  (h:∀h' tk t',(∀b o,s.heap.get? b=some o->h'.get? b=some o)->Q (.int (mxD (numAt xs) xs.size d) t') { s with heap:=h',toks:=tk }) :
  wpAny (model prog w) A (call (.builtin "max") [.ref l] [("default",.int d td)]) Q E s:=by
 have hname:(toString "max" ++ toString ".loop" : String) = "max.loop" := by decide
 refine y8 F.kind_max F.plain_max F.entry_max (args_maxD _ _) ?_
 show wpAny _ A.in1 (Builtin.Builtins.bindParams "max" ["key", "default"] 0 ⟨[],[("default",.int d td)]⟩ >>= _) _ _ s
 refine gW (wpAny_of_eq (show Builtin.Builtins.bindParams "max" ["key", "default"] 0 ⟨[],[("default",.int d td)]⟩=pure [none,some (.int d td)] from rfl) ?_);refine gW (gX ?_);refine gW (iter_intList hl fun s₂ e st hfp hlI=>?_);refine gW (ja ?_);have hSf:s₂.heap.objs.size∉[s.heap.objs.size,l]:=fun hm=>jA _ (hfp _ hm);rw[hname];have W:=Walks.list (prog:=prog) (w:=w) (A:=A.in1) hh s.heap.objs.size l hlI (intItems xs);have hsz:(intItems xs).size=xs.size:=by simp[intItems]
 rw[hsz] at W;refine gX ⟨plainId_quiet jJ _,mx_first W (numAt xs) (fun _ _=>intItems_at) s₂.heap.objs.size hSf (W.frame _ _ _ st fun b _ o e=>iu _ e) (iF _ rfl) fun t' h' tk hk=>?_⟩;subst e;refine h h' tk t' (old_kept (l:=l) fun b o hb e=>?_);exact hk b o hb (iC (ii e)) (iu _ e)
end
def mxL(d:Int):List Int->Int
 |[]=>d
 |x::r=>r.foldl (fun b y=>if y>b then y else b) x
theorem mxTo_eq{val:Nat->Int}:∀(r:List Int) (j:Nat) (b:Int),(∀i y,r[i]?=some y->val (j+i)=y)->mxTo val r.length j b=r.foldl (fun b y=>if y>b then y else b) b
 |[],_,_,_=>rfl
 |x::r,j,b,h=>by
  have h0:val j=x:=h 0 x rfl;rw[iA,List.foldl_cons,<- h0];exact mxTo_eq r (j+1) _ fun i y e=>by rw[Nat.add_right_comm];exact h (i+1) y e
theorem mxD_eq{val:Nat->Int}{d:Int}(r:List Int)(h:∀i y,r[i]?=some y->val i=y):mxD val r.length d=mxL d r:=by
 cases r with
 |nil=>rfl
 |cons x r=>
  have h0:val 0=x:=h 0 x rfl
  show mxTo val r.length 1 (val 0)=r.foldl _ x
  rw[h0];exact mxTo_eq r 1 x fun i y e=>by rw[Nat.add_comm];exact h (i+1) y e
def tMaxD(K:W.Frag)(te:TE)(td:TE):TE:=fun σ H Q=>te σ H fun x H1=>td σ H1 fun y H2=>∃(a:Addr) (ns:List Int) (d:Int),x=.ref a/\y=.int d/\SqL K H2 a (ns.map V.int)/\Q (.int (mxL d ns)) H2
theorem pe_maxD{X:Cx}{K:W.Frag}{e d:Expr}{te td:TE}{p pos kp:Pos}(hK:X.K=K)(hc:X.calm=true)(hg:Gl X "max")(hm:X.mg "max" = none)(hv:bootBuiltins "max" = some (.builtin "max"))(ha:PE X e te)(hd:PE X d td)
  (hs:starEach [e] X.env=[(false,eval e X.env)]:=by rfl):PE X (.Call (.Name "max" p) [e] [⟨some "default",d,kp⟩] pos) (tMaxD K te td):=by
 subst hK;intro gE s σ H Q I h;refine jR (UK I hg hm hv ?_ (by decide) (by decide));refine callWith_kw ?_ (by rw[hs];rfl) (by rw[hs];rfl);refine thn ((Zd ha Y2 hs) pos gE s σ H (fun vs H1=>match vs with
  |[x]=>td σ H1 fun y H2=>∃(a:Addr) (ns:List Int) (d:Int),x=.ref a/\y=.int d/\SqL X.K H2 a (ns.map V.int)/\Q (.int (mxL d ns)) H2
  |_=>False) I h) fun us s1 ⟨vs,H1,I1,r1,q1⟩=>?_
 obtain⟨x,rfl⟩:∃x,vs=[x]:=by
  match vs,q1 with
  |[x],_=>exact⟨x,rfl⟩
 obtain⟨u,rfl,ru⟩:=WN r1;refine kws_cons (thn (hd gE s1 σ H1 _ I1 q1) fun v s2 ⟨y,H2,I2,r2,q2⟩=>kws_nil ?_);obtain⟨a,ns,d,rfl,rfl,hq,q⟩:=q2;obtain rfl:u=Value.ref a:=ru;obtain⟨t,rfl⟩:=r2;obtain⟨its,rits,pl,hz⟩:=I2.list hq;have ia:IntsAre its ns:=qJ rits;obtain⟨ys,ey⟩:=(IntsAre.allInts ia).items;have en:ys.toList.map (·.1)=ns:=by
  rw[<- nums_intItems,<- ey];exact IntsAre.numsOf ia
 have il:=pl.isList;rw[ey] at il
 show wpAny _ _ (call (.builtin "max") [.ref a] [("default",.int d t)]) _ _ _
 refine maxD_list (I2.ok.hd hc) il fun h' tk t' hk=>?_;have e2:mxD (numAt ys) ys.size d=mxL d ns:=by
  have hl:ys.size=ns.length:=by rw[<- en];simp
  rw[hl];refine mxD_eq ns fun i y e=>?_;rw[<- en,iJ] at e;unfold numAt;rw[kh] at e;rw[e];rfl
 rw[e2];exact⟨.int (mxL d ns),H2,I2.kept (t':=tk) hk,⟨t',rfl⟩,q⟩
def nNo:Tr:=ZO Zn
def SW:List Str:=["next", "always", "ever", "until", "within", "once", "sofar", "since"]
section
open Classical
noncomputable def Yo(w:Str)(idle strong:Tr)(ks:List Tr):Tr:=
 if strong∈ks then strong else match ZQ [] (ks.filter fun x=>decide (x≠idle)) with
  |[]=>idle
  |[x]=>x
  |x::y::r=>.node (.many w) (x::y::r)
def wdT(t:Tr):Str:=Zv t.lb
def Xj(ks:List Tr):Tr:=ks.getD 0 Zn
def WP(k:Tr)(same other:Str):Prop:=if wdT k=other then wdT (Xj k.ks)=same else wdT k=same
noncomputable def shF(c:Lb)(ks:List Tr):Tr:=
 if Zv c = "and" then Yo "and" Zn nNo ks
 else if Zv c = "or" then Yo "or" nNo Zn ks
 else if Zv c∈SW/\(ks.getLastD Zn=Zn\/ks.getLastD Zn=nNo) then ks.getLastD Zn
 else if Zv c = "not" /\ wdT (Xj ks) = "not" then Xj (Xj ks).ks
 else if Zv c = "always" /\ WP (Xj ks) "always" "ever" then Xj ks
 else if Zv c = "ever" /\ WP (Xj ks) "ever" "always" then Xj ks
 else .node c ks
def quL(c:Lb):Prop:=Zv c = "all" \/ Zv c = "some"
noncomputable def shP(c:Lb)(ps:List (Tr×Tr)):Tr×Tr:=(.node c (ps.map Prod.fst),if quL c then .node c (ps.map Prod.fst) else shF c (ps.map Prod.snd))
noncomputable def shT(t:Tr):Tr:=(Yd shP t).2
theorem shP_fst:∀(n:Nat) (t:Tr),psz t<=n->(Yd shP t).1=t
 |0,t,h=>by have:=XN t;omega
 |n+1,t,h=>by
  rw[XC]
  show Tr.node t.lb _=t
  have e:(t.ks.map (Yd shP)).map Prod.fst=t.ks:=by
   rw[iw];have:t.ks.map (Prod.fst∘Yd shP)=t.ks.map id:=jb fun k hk=>shP_fst n k (by have:=Wc hk;omega);rw[this,jw]
  rw[e];exact(Tr.eta t).symm
theorem XX(t:Tr):shT t=if quL t.lb then t else shF t.lb (t.ks.map shT):=by
 unfold shT;rw[XC]
 show(if quL t.lb then Tr.node t.lb ((t.ks.map (Yd shP)).map Prod.fst) else shF t.lb ((t.ks.map (Yd shP)).map Prod.snd))=_
 have e:(t.ks.map (Yd shP)).map Prod.fst=t.ks:=by
  rw[iw];have:t.ks.map (Prod.fst∘Yd shP)=t.ks.map id:=jb fun k hk=>shP_fst _ k (gY _);rw[this,jw]
 rw[e,<- Tr.eta t,iw];rfl
inductive NF:Tr->Prop
 |qu {c:Lb}{ks:List Tr}:quL c->NF (.node c ks)
 |nd {c:Lb}{ks:List Tr}:¬quL c->(∀k∈ks,NF k)->shF c ks=.node c ks->NF (.node c ks)
theorem NF.sh{t:Tr}(h:NF t):shT t=t:=by
 induction h with
 |qu q=>rw[XX];exact if_pos q
 |nd q _ e ih=>
  rename_i c ks _
  rw[XX]
  show(if quL c then _ else shF c (ks.map shT))=_
  rw[if_neg q];have:ks.map shT=ks.map id:=jb fun k hk=>ih k hk;rw[this,jw,e]
theorem NF.kids{c:Lb}{ks:List Tr}(h:NF (.node c ks))(q:¬quL c):(∀k∈ks,NF k)/\shF c ks=.node c ks:=by
 cases h with
 |qu h=>exact absurd h q
 |nd _ h e=>exact⟨h,e⟩
theorem zO:∀{L A:List Tr},(A++L).Nodup->ZQ A L=A++L
 |[],A,_=>by rw[Wm,iQ]
 |t::r,A,h=>by
  have hn:t∉A:=fun hm=>by
   rw[List.nodup_append] at h;exact h.2.2 t hm t (by simp) rfl
  rw[Yu,Ux hn,zO (by rw[jc];exact h),jc];rfl
theorem yes_sh:shF .yes []=Zn:=by
 have hs:("yes" : Str)∉SW:=by decide +kernel
 have h:("yes" : Str) ≠ "and" /\ ("yes" : Str) ≠ "or" /\ ("yes" : Str) ≠ "not" /\ ("yes" : Str) ≠ "always" /\ ("yes" : Str) ≠ "ever" := by decide +kernel
 unfold shF;rw[if_neg (show ¬Zv .yes = "and" from h.1),if_neg (show ¬Zv .yes = "or" from h.2.1),if_neg (fun z=>hs z.1),if_neg (fun z=>h.2.2.1 z.1),if_neg (fun z=>h.2.2.2.1 z.1),if_neg (fun z=>h.2.2.2.2 z.1)]
theorem quN{w:Str}(h:w∉(["all", "some"]:List Str))(c:Lb)(e:Zv c=w):¬quL c:=by
 subst e;rintro(z|z)<;>exact h (by rw[z];decide +kernel)
theorem NF.yes:NF Zn:=.nd (quN (w := "yes") (by decide +kernel) _ rfl) (fun k hk=>by cases hk) yes_sh
theorem yu{x:Tr}:shF (.op "not") [x]=if wdT x = "not" then Xj x.ks else ZO x:=by
 have hs:("not" : Str)∉SW:=by decide +kernel
 have h:("not" : Str) ≠ "and" /\ ("not" : Str) ≠ "or" /\ ("not" : Str) ≠ "always" /\ ("not" : Str) ≠ "ever" := by decide +kernel
 unfold shF;rw[if_neg (show ¬Zv (.op "not") = "and" from h.1),if_neg (show ¬Zv (.op "not") = "or" from h.2.1),if_neg (fun z=>hs z.1)]
 by_cases c:wdT x = "not"
 ·rw[if_pos ⟨rfl,c⟩,if_pos c];rfl
 ·rw[if_neg (fun z=>c z.2),if_neg c,if_neg (fun z=>h.2.2.1 z.1),if_neg (fun z=>h.2.2.2 z.1)]
theorem NF.no:NF nNo:=.nd (quN (w := "not") (by decide +kernel) _ rfl) (fun k hk=>by rw[iW] at hk;subst hk;exact .yes) (by
 have h:("yes" : Str) ≠ "not" := by decide +kernel
 rw[yu,if_neg (show ¬wdT Zn = "not" from h)])
theorem qO:Zn≠nNo:=fun z=>by
 have:=io wdT z;exact absurd this (show("yes" : Str) ≠ "not" by decide +kernel)
theorem YZ(w:Str)(idle strong:Tr)(ks:List Tr):(strong∈ks/\Yo w idle strong ks=strong)\/(strong∉ks/\∃few,few=ZQ [] (ks.filter fun x=>decide (x≠idle))/\((few=[]/\Yo w idle strong ks=idle)\/(∃x,few=[x]/\Yo w idle strong ks=x)\/(2<=few.length/\Yo w idle strong ks=.node (.many w) few))):=by
 by_cases c:strong∈ks
 ·exact .inl ⟨c,if_pos c⟩
 ·refine .inr ⟨c,_,rfl,?_⟩;unfold Yo;rw[if_neg c];generalize ZQ [] (ks.filter fun x=>decide (x≠idle))=few
  match few with
  |[]=>exact .inl ⟨rfl,rfl⟩
  |[x]=>exact .inr (.inl ⟨x,rfl,rfl⟩)
  |x::y::r=>exact .inr (.inr ⟨by simp,rfl⟩)
theorem Y5{idle x:Tr}{ks:List Tr}(h:x∈ZQ [] (ks.filter fun x=>decide (x≠idle))):x∈ks/\x≠idle:=by
 rcases W7.mp h with h|h
 ·cases h
 ·have:=jB.mp h;exact⟨this.1,iz this.2⟩
theorem join_few{w:Str}{idle strong:Tr}{few:List Tr}(h1:strong∉few)(h2:idle∉few)(nd:few.Nodup)(h3:2<=few.length):Yo w idle strong few=.node (.many w) few:=by
 unfold Yo;rw[if_neg h1];have e:few.filter (fun x=>decide (x≠idle))=few:=List.filter_eq_self.mpr fun x hx=>hX fun z=>h2 (by rw[<- z];exact hx);rw[e,zO (by simpa using nd)]
 match few,h3 with
 |x::y::r,_=>rfl
theorem join_NF{w:Str}{idle strong:Tr}{ks:List Tr}(hi:NF idle)(hs:NF strong)(hk:∀k∈ks,NF k)(q:w∉(["all", "some"]:List Str))(e:∀few,shF (.many w) few=Yo w idle strong few):NF (Yo w idle strong ks):=by
 rcases YZ w idle strong ks with⟨_,z⟩|⟨hn,few,ef,⟨_,z⟩|⟨x,ex,z⟩|⟨h2,z⟩⟩
 ·rw[z];exact hs
 ·rw[z];exact hi
 ·rw[z];exact hk x (Y5 (idle:=idle) (by rw[<- ef,ex];simp)).1
 ·rw[z];refine .nd (quN q _ rfl) (fun k hk'=>hk k (Y5 (idle:=idle) (by rw[<- ef];exact hk')).1) ?_;rw[e];refine join_few (fun hm=>hn (Y5 (idle:=idle) (by rw[<- ef];exact hm)).1) (fun hm=>(Y5 (idle:=idle) (by rw[<- ef];exact hm)).2 rfl) ?_ h2;rw[ef];exact WR (by simp)
end
section
open Classical
theorem yY{c:Lb}{ks:List Tr}(h:Zv c = "and"):shF c ks=Yo "and" Zn nNo ks:=if_pos h
theorem shF_or{c:Lb}{ks:List Tr}(h:Zv c = "or"):shF c ks=Yo "or" nNo Zn ks:=by
 unfold shF;rw[if_neg (by rw[h];decide +kernel),if_pos h]
theorem Wg(c:Lb)(ks:List Tr):(Zv c = "and" /\ shF c ks=Yo "and" Zn nNo ks)\/(Zv c = "or" /\ shF c ks=Yo "or" nNo Zn ks)\/((ks.getLastD Zn=Zn\/ks.getLastD Zn=nNo)/\Zv c∈SW/\shF c ks=ks.getLastD Zn)\/(Zv c = "not" /\ wdT (Xj ks) = "not" /\ shF c ks=Xj (Xj ks).ks)\/((Zv c = "always" \/ Zv c = "ever")/\shF c ks=Xj ks)\/shF c ks=.node c ks:=by
 unfold shF
 by_cases h1:Zv c = "and"
 ·exact .inl ⟨h1,if_pos h1⟩
 rw[if_neg h1]
 by_cases h2:Zv c = "or"
 ·exact .inr (.inl ⟨h2,if_pos h2⟩)
 rw[if_neg h2]
 by_cases h3:Zv c∈SW/\(ks.getLastD Zn=Zn\/ks.getLastD Zn=nNo)
 ·exact .inr (.inr (.inl ⟨h3.2,h3.1,if_pos h3⟩))
 rw[if_neg h3]
 by_cases h4:Zv c = "not" /\ wdT (Xj ks) = "not"
 ·exact .inr (.inr (.inr (.inl ⟨h4.1,h4.2,if_pos h4⟩)))
 rw[if_neg h4]
 by_cases h5:Zv c = "always" /\ WP (Xj ks) "always" "ever"
 ·exact .inr (.inr (.inr (.inr (.inl ⟨.inl h5.1,if_pos h5⟩))))
 rw[if_neg h5]
 by_cases h6:Zv c = "ever" /\ WP (Xj ks) "ever" "always"
 ·exact .inr (.inr (.inr (.inr (.inl ⟨.inr h6.1,if_pos h6⟩))))
 ·exact .inr (.inr (.inr (.inr (.inr (if_neg h6)))))
theorem Y7{ks:List Tr}:Xj ks=Zn\/Xj ks∈ks:=by
 cases ks with
 |nil=>exact .inl rfl
 |cons x r=>exact .inr (by show x∈_;simp)
theorem NF.shF{c:Lb}{ks:List Tr}(q:¬quL c)(hk:∀k∈ks,NF k):NF (shF c ks):=by
 rcases Wg c ks with⟨h,e⟩|⟨h,e⟩|⟨h,_,e⟩|⟨h,h2,e⟩|⟨h,e⟩|e
 ·rw[e];exact join_NF .yes .no hk (by decide +kernel) fun few=>yY rfl
 ·rw[e];exact join_NF .no .yes hk (by decide +kernel) fun few=>shF_or rfl
 ·rw[e];rcases h with h|h
  ·rw[h];exact .yes
  ·rw[h];exact .no
 ·rw[e];rcases Y7 (ks:=ks) with z|z
  ·rw[z] at h2;exact absurd h2 (show("yes" : Str) ≠ "not" by decide +kernel)
  ·have hn:=hk _ z;generalize Xj ks=k at h2 hn;obtain⟨c1,k1⟩:=k;have hq:¬quL c1:=quN (w := "not") (by decide +kernel) _ h2;rcases Y7 (ks:=k1) with z|z
   ·show NF (Xj k1);rw[z];exact .yes
   ·exact(hn.kids hq).1 _ z
 ·rw[e];rcases Y7 (ks:=ks) with z|z
  ·rw[z];exact .yes
  ·exact hk _ z
 ·rw[e];exact .nd q hk e
theorem NF.shT:∀(n:Nat) (t:Tr),psz t<=n->NF (shT t)
 |0,t,h=>by have:=XN t;omega
 |n+1,t,h=>by
  rw[XX]
  by_cases q:quL t.lb
  ·rw[if_pos q,Tr.eta t];exact .qu q
  ·rw[if_neg q];refine NF.shF q fun k hk=>?_;obtain⟨x,hx,rfl⟩:=ik.mp hk;exact NF.shT n x (by have:=Wc hx;omega)
theorem sh_again(t:Tr):shT (shT t)=shT t:=(NF.shT _ t (gY _)).sh
theorem Xi{c:Lb}{ks:List Tr}(q:¬quL c):shT (.node c ks)=shF c (ks.map shT):=by
 rw[XX];exact if_neg q
theorem qop{w:Str}(h:w∉(["all", "some"]:List Str)):¬quL (.op w):=quN h _ rfl
theorem qmy{w:Str}(h:w∉(["all", "some"]:List Str)):¬quL (.many w):=quN h _ rfl
theorem gm{s:Tr}(ok:Yh s.lb s.ks.length)(h:wdT s = "not"):∃x,s=ZO x:=by
 obtain⟨c,ks⟩:=s;have h':Zv c = "not" := h;have ok':Yh c ks.length:=ok;cases c with
 |yes=>exact absurd h' (show("yes" : Str) ≠ "not" by decide +kernel)
 |sign z=>exact absurd h' (show("sign" : Str) ≠ "not" by decide +kernel)
 |wit m=>exact absurd h' (show("within" : Str) ≠ "not" by decide +kernel)
 |many w=>
  have:w = "not" := h';rcases ok'.1 with z|z
  ·rw[this] at z;exact absurd z (by decide +kernel)
  ·rw[this] at z;exact absurd z (by decide +kernel)
 |op w=>
  have hw:w = "not" := h';subst hw;rcases ok' with⟨_,l⟩|⟨z,_⟩
  ·match ks,l with
   |[x],_=>exact⟨x,rfl⟩
  ·exact absurd z (by decide +kernel)
theorem a_not{s:Tr}(ok:Yh s.lb s.ks.length)(nf:NF s):shF (.op "not") [shF (.op "not") [s]]=s:=by
 by_cases c:wdT s = "not"
 ·obtain⟨x,rfl⟩:=gm ok c;have e:=(NF.kids (c:=.op "not") (ks:=[x]) nf (qop (by decide +kernel))).2;have e1:shF (.op "not") [ZO x]=x:=by rw[yu,if_pos c];rfl
  rw[e1];exact e
 ·have e1:shF (.op "not") [s]=ZO s:=by rw[yu,if_neg c]
  rw[e1,yu,if_pos (show wdT (ZO s) = "not" from rfl)];rfl
theorem xh{w:Str}{idle strong s:Tr}{ks:List Tr}(hn:idle≠strong)(h:∀x∈ks,x=s\/x=idle)(hs:s∈ks):Yo w idle strong ks=s:=by
 rcases YZ w idle strong ks with⟨hm,z⟩|⟨_,few,ef,⟨e0,z⟩|⟨x,ex,z⟩|⟨h2,z⟩⟩
 ·rw[z];rcases h _ hm with e|e
  ·exact e
  ·exact absurd e.symm hn
 ·rw[z];apply Classical.byContradiction;intro hne;have:s∈ZQ [] (ks.filter fun x=>decide (x≠idle)):=W7.mpr (.inr (jB.mpr ⟨hs,hX fun z=>hne z.symm⟩));rw[<- ef,e0] at this;cases this
 ·rw[z];obtain⟨h1,h2⟩:=Y5 (idle:=idle) (x:=x) (ks:=ks) (by rw[<- ef,ex];simp);rcases h _ h1 with e|e
  ·exact e
  ·exact absurd e h2
 ·have nd:few.Nodup:=by rw[ef];exact WR (by simp)
  have al:∀x∈few,x=s:=fun x hx=>by
   obtain⟨h1,h2⟩:=Y5 (idle:=idle) (x:=x) (ks:=ks) (by rw[<- ef];exact hx);rcases h _ h1 with e|e
   ·exact e
   ·exact absurd e h2
  match few,h2,nd,al with
  |x::y::r,_,nd,al=>
   have hx:=al x (by simp);have hy:=al y (by simp);rw[jq] at nd;exact absurd (by rw[hx,<- hy];simp) nd.1
theorem U1{w:Str}{idle strong:Tr}{ks:List Tr}(h:strong∈ks):Yo w idle strong ks=strong:=if_pos h
theorem UQ{c:Lb}{ks:List Tr}(h:Zv c∈SW)(hl:ks.getLastD Zn=Zn\/ks.getLastD Zn=nNo):shF c ks=ks.getLastD Zn:=by
 have n1:Zv c ≠ "and" := fun z=>by rw[z] at h;exact absurd h (by decide +kernel)
 have n2:Zv c ≠ "or" := fun z=>by rw[z] at h;exact absurd h (by decide +kernel)
 unfold shF;rw[if_neg n1,if_neg n2,if_pos ⟨h,hl⟩]
theorem Wk{w o:Str}{x:Tr}(hw:(w = "always" /\ o = "ever")\/(w = "ever" /\ o = "always")):shF (.op w) [x]=if x=Zn\/x=nNo then x else if WP x w o then x else .node (.op w) [x]:=by
 have fs:∀w∈(["always", "ever"]:List Str),w ≠ "and" /\ w ≠ "or" /\ w∈SW/\w ≠ "not" := by decide +kernel
 have ae:("always" : Str) ≠ "ever" := by decide +kernel
 have hm:w∈(["always", "ever"]:List Str):=by rcases hw with⟨rfl,_⟩|⟨rfl,_⟩<;>decide +kernel
 obtain⟨n1,n2,n3,n4⟩:=fs w hm
 by_cases c:x=Zn\/x=nNo
 ·rw[if_pos c,show shF (.op w) [x]=[x].getLastD Zn from UQ n3 c];rfl
 ·rw[if_neg c];unfold shF;rw[if_neg (show ¬Zv (.op w) = "and" from n1),if_neg (show ¬Zv (.op w) = "or" from n2),if_neg (fun z=>c z.2),if_neg (fun z=>n4 z.1)]
  show(if w = "always" /\ WP x "always" "ever" then x else if w = "ever" /\ WP x "ever" "always" then x else Tr.node (.op w) [x])=_
  rcases hw with⟨rfl,rfl⟩|⟨rfl,rfl⟩
  ·by_cases d:WP x "always" "ever"
   ·rw[if_pos ⟨rfl,d⟩,if_pos d]
   ·rw[if_neg (fun z=>d z.2),if_neg (fun z=>ae z.1),if_neg d]
  ·by_cases d:WP x "ever" "always"
   ·rw[if_neg (fun z=>ae z.1.symm),if_pos ⟨rfl,d⟩,if_pos d]
   ·rw[if_neg (fun z=>ae z.1.symm),if_neg (fun z=>d z.2),if_neg d]
theorem qP{w:Str}{x y:Tr}(h1:w ≠ "yes")(h2:w ≠ "not"):Tr.node (.op w) [x]≠Zn/\Tr.node (.op w) [x]≠nNo:=⟨fun z=>h1 (io wdT z),fun z=>h2 (io wdT z)⟩
theorem ae_ne{w o:Str}(hw:(w = "always" /\ o = "ever")\/(w = "ever" /\ o = "always")):w ≠ "yes" /\ w ≠ "not" /\ w≠o:=by
 rcases hw with⟨rfl,rfl⟩|⟨rfl,rfl⟩<;>decide +kernel
theorem a_twice{w o:Str}{s:Tr}(hw:(w = "always" /\ o = "ever")\/(w = "ever" /\ o = "always")):shF (.op w) [shF (.op w) [s]]=shF (.op w) [s]:=by
 obtain⟨h1,h2,h3⟩:=ae_ne hw;rw[Wk hw (x:=s)]
 by_cases c:s=Zn\/s=nNo
 ·rw[if_pos c,Wk hw,if_pos c]
 ·rw[if_neg c]
  by_cases d:WP s w o
  ·rw[if_pos d,Wk hw,if_neg c,if_pos d]
  ·rw[if_neg d,Wk hw];have ne:=qP (w:=w) (x:=s) (y:=s) h1 h2;rw[if_neg (fun z=>z.elim ne.1 ne.2),if_pos];unfold WP;rw[if_neg (show ¬wdT (.node (.op w) [s])=o from h3)];rfl
theorem a_thrice{w o:Str}{s:Tr}(hw:(w = "always" /\ o = "ever")\/(w = "ever" /\ o = "always")):shF (.op w) [shF (.op o) [shF (.op w) [s]]]=shF (.op o) [shF (.op w) [s]]:=by
 have hw':(o = "always" /\ w = "ever")\/(o = "ever" /\ w = "always"):=by rcases hw with⟨a,b⟩|⟨a,b⟩;exact .inr ⟨b,a⟩;exact .inl ⟨b,a⟩
 obtain⟨h1,h2,h3⟩:=ae_ne hw;obtain⟨g1,g2,g3⟩:=ae_ne hw';have tw:=a_twice (s:=s) hw;generalize he:shF (.op w) [s]=e at tw;rw[Wk hw' (x:=e)]
 by_cases c:e=Zn\/e=nNo
 ·rw[if_pos c];exact tw
 ·rw[if_neg c]
  by_cases d:WP e o w
  ·rw[if_pos d];exact tw
  ·rw[if_neg d,Wk hw];have ne:=qP (w:=o) (x:=e) (y:=e) g1 g2;rw[if_neg (fun z=>z.elim ne.1 ne.2),if_pos];unfold WP;rw[if_pos (show wdT (.node (.op o) [e])=o from rfl)]
   show wdT e=w
   rw[Wk hw (x:=s)] at he
   by_cases c2:s=Zn\/s=nNo
   ·rw[if_pos c2] at he;subst he;exact absurd c2 c
   ·rw[if_neg c2] at he
    by_cases d2:WP s w o
    ·rw[if_pos d2] at he;subst he;unfold WP at d2 d
     by_cases z:wdT s=o
     ·rw[if_neg (fun y=>h3 (y.symm.trans z))] at d;exact absurd z d
     ·rw[if_neg z] at d2;exact d2
    ·rw[if_neg d2] at he;subst he;rfl
end
section
open Classical
def czF(c:Lb)(zs:List Nat):Nat:=match c with
 |.yes=>1
 |.sign _=>1
 |.many w=>if w = "and" then zs.sum+(zs.length-1)+(if zs=[] then 1 else 0) else zs.sum+4*(zs.length-1)+(if zs=[] then 2 else 0)
 |.wit m=>zs.getD 1 1+m.toNat*(zs.getD 0 1+zs.getD 1 1+6)
 |.op w=>if w = "all" then zs.getD 0 1+3 else if w = "ever" then zs.getD 0 1+2 else if w = "always" then zs.getD 0 1+4 else if w = "once" then zs.getD 0 1+2 else if w = "sofar" then zs.getD 0 1+4 else zs.sum+1
theorem p1(c:Lb)(k:Tr):psz (.node c [k])=psz k+1:=by rw[Z8];simp
theorem p2(c:Lb)(k r:Tr):psz (.node c [k,r])=psz k+psz r+1:=by rw[Z8];simp
theorem pYes:psz Zn=1:=by unfold Zn;rw[Z8];simp
theorem andT_sz:∀l:List Tr,psz (Wb l)=(l.map psz).sum+(l.length-1)+(if l=[] then 1 else 0)
 |[]=>by simp[Wb,pYes]
 |[x]=>by simp[Wb]
 |x::y::r=>by
  have:=andT_sz (y::r);rw[Wb];unfold X6;rw[p2,this];simp;omega
theorem orT_sz:∀l:List Tr,psz (orT l)=(l.map psz).sum+4*(l.length-1)+(if l=[] then 2 else 0)
 |[]=>by simp[orT,ZO,p1,pYes]
 |[x]=>by simp[orT]
 |x::y::r=>by
  have:=orT_sz (y::r);rw[orT];unfold ZO X6;rw[p1,p2,p1,p1,this];simp;omega
theorem qY(f s:Tr):∀n,psz (Z5 n f s)=psz s+n*(psz f+psz s+6)
 |0=>by simp[Z5]
 |n+1=>by
  have:=qY f s n;rw[Z5];unfold ZO X6 VM;rw[p1,p2,p1,p1,p2,p1,this,ky];omega
theorem W0{cs:List Tr}{i:Nat}:(cs.map psz).getD i 1=psz (cs.getD i Zn):=by
 rw[jV,jV,iJ];cases cs[i]? with
 |none=>exact pYes.symm
 |some x=>rfl
theorem core_sz(c:Lb)(cs:List Tr)(ok:Yh c cs.length):psz (YV c cs)=czF c (cs.map psz):=by
 unfold YV czF;cases c with
 |yes=>exact pYes
 |sign z=>show psz (Tr.node _ [])=1;rw[Z8];simp
 |many w=>
  dsimp only
  split
  ·rw[andT_sz];simp
  ·rw[orT_sz];simp
 |wit m=>dsimp only;rw[qY,W0,W0]
 |op w=>
  dsimp only
  split
  ·unfold ZO nSome;rw[p1,p1,p1,W0]
  split
  ·unfold nUnt;rw[p2,pYes,W0];omega
  split
  ·unfold ZO nUnt;rw[p1,p2,p1,pYes,W0];omega
  split
  ·unfold nSin;rw[p2,pYes,W0];omega
  split
  ·unfold ZO nSin;rw[p1,p2,p1,pYes,W0];omega
  rw[Z8]
def cz(t:Tr):Nat:=psz (YF t)
theorem zj{t:Tr}(ok:Yh t.lb t.ks.length):cz t=czF t.lb (t.ks.map cz):=by
 unfold cz;rw[qw,core_sz _ _ (by rw[hJ];exact ok),iw];rfl
end
section
open Classical
theorem OkN.up1:∀{n:Nat}{t:Tr},OkN n t->OkN (n+1) t
 |0,_,h=>h.elim
 |n+1,t,h=>⟨h.1,fun k hk=>OkN.up1 (h.2 k hk)⟩
theorem UM(n:Nat):OkN (n+1) Zn:=⟨rfl,fun k hk=>by cases hk⟩
theorem gr(n:Nat):OkN (n+2) nNo:=⟨.inl ⟨by decide +kernel,rfl⟩,fun k hk=>by
 have:k=Zn:=iW.mp hk;rw[this];exact UM n⟩
theorem join_ok{w:Str}{idle strong:Tr}{ks:List Tr}{n:Nat}(hw:w = "and" \/ w = "or")(hi:OkN (n+1) idle)(hs:OkN (n+1) strong)(hk:∀k∈ks,OkN n k)(l8:ks.length<=8):OkN (n+1) (Yo w idle strong ks):=by
 rcases YZ w idle strong ks with⟨_,z⟩|⟨hn,few,ef,⟨_,z⟩|⟨x,ex,z⟩|⟨h2,z⟩⟩
 ·rw[z];exact hs
 ·rw[z];exact hi
 ·rw[z];exact(hk x (Y5 (idle:=idle) (by rw[<- ef,ex];simp)).1).up1
 ·rw[z];refine⟨⟨hw,?_⟩,fun k hk'=>hk k (Y5 (idle:=idle) (by rw[<- ef];exact hk')).1⟩
  show few.length<=8
  rw[ef];have h1:=V2 (ks.filter fun x=>decide (x≠idle)) [];have h2:=kZ (fun x=>decide (x≠idle)) ks;simp only[kN,kA] at h1;omega
theorem shF_ok{c:Lb}{ks:List Tr}{n:Nat}(ok:Yh c ks.length)(hk:∀k∈ks,OkN (n+1) k):OkN (n+2) (shF c ks):=by
 rcases Wg c ks with⟨h,e⟩|⟨h,e⟩|⟨h,_,e⟩|⟨h,h2,e⟩|⟨h,e⟩|e
 ·rw[e];refine join_ok (.inl rfl) (UM _) (gr n) hk ?_;cases c with
  |many w=>exact ok.2
  |yes=>exact absurd h (show("yes" : Str) ≠ "and" by decide +kernel)
  |sign z=>exact absurd h (show("sign" : Str) ≠ "and" by decide +kernel)
  |wit m=>exact absurd h (show("within" : Str) ≠ "and" by decide +kernel)
  |op w=>have:w = "and" := h;subst this;rcases ok with⟨z,_⟩|⟨z,_⟩<;>exact absurd z (by decide +kernel)
 ·rw[e];refine join_ok (.inr rfl) (gr n) (UM _) hk ?_;cases c with
  |many w=>exact ok.2
  |yes=>exact absurd h (show("yes" : Str) ≠ "or" by decide +kernel)
  |sign z=>exact absurd h (show("sign" : Str) ≠ "or" by decide +kernel)
  |wit m=>exact absurd h (show("within" : Str) ≠ "or" by decide +kernel)
  |op w=>have:w = "or" := h;subst this;rcases ok with⟨z,_⟩|⟨z,_⟩<;>exact absurd z (by decide +kernel)
 ·rw[e];rcases h with h|h
  ·rw[h];exact UM _
  ·rw[h];exact gr n
 ·rw[e];rcases Y7 (ks:=ks) with z|z
  ·rw[z] at h2;exact absurd h2 (show("yes" : Str) ≠ "not" by decide +kernel)
  ·have hn:=hk _ z;rcases Y7 (ks:=(Xj ks).ks) with y|y
   ·rw[y];exact UM _
   ·exact(hn.2 _ y).up1.up1
 ·rw[e];rcases Y7 (ks:=ks) with z|z
  ·rw[z];exact UM _
  ·exact(hk _ z).up1
 ·rw[e];exact⟨ok,hk⟩
theorem sh_ok:∀{n:Nat}{t:Tr},OkN n t->OkN (n+1) (shT t)
 |0,_,h=>h.elim
 |n+1,t,h=>by
  rw[XX]
  by_cases q:quL t.lb
  ·rw[if_pos q];exact h.up1
  ·rw[if_neg q];refine shF_ok (by rw[hJ];exact h.1) fun k hk=>?_;obtain⟨x,hx,rfl⟩:=ik.mp hk;exact sh_ok (h.2 x hx)
theorem VC{f:Tr->Nat}:∀{l:List Tr}{x:Tr},x∈l->f x<=(l.map f).sum
 |y::r,x,h=>by
  rw[g9,iD];rcases ic.mp h with rfl|h
  ·omega
  ·have:=VC (f:=f) h;omega
theorem VR{f:Tr->Nat}:∀(L A:List Tr),((ZQ A L).map f).sum<=(A.map f).sum+(L.map f).sum
 |[],A=>by rw[Wm];simp
 |t::r,A=>by
  rw[Yu];have h:=VR (f:=f) r (Yp A t);have h2:((Yp A t).map f).sum<=(A.map f).sum+f t:=by
   unfold Yp
   split
   ·omega
   ·rw[iZ,List.sum_append];simp
  rw[g9,iD];omega
theorem VX{f:Tr->Nat}{p:Tr->Bool}:∀(L:List Tr),((L.filter p).map f).sum<=(L.map f).sum
 |[]=>by simp
 |t::r=>by
  have:=VX (f:=f) (p:=p) r;rw[List.filter_cons]
  split
  ·rw[g9,iD,g9,iD];omega
  ·rw[g9,iD];omega
theorem cz_pos(t:Tr):1<=cz t:=XN _
theorem cz_yes:cz Zn=1:=by
 rw[zj (t:=Zn) rfl];rfl
theorem cz_no:cz nNo=2:=by
 have ok:Yh nNo.lb nNo.ks.length:=.inl ⟨by decide +kernel,rfl⟩;rw[zj ok]
 show czF (.op "not") [cz Zn]=2
 rw[cz_yes];decide +kernel
theorem join_sz{w:Str}{idle strong:Tr}{ks:List Tr}{b j:Nat}(hi:cz idle<=(if ks=[] then b else 2))(hb:∀x∈ks,1<=cz x)(hin:ks≠[]->ZQ [] (ks.filter fun x=>decide (x≠idle))=[]->cz idle<=(ks.map cz).sum)
  (hm:∀few:List Tr,few.length<=8->2<=few.length->cz (.node (.many w) few)=(few.map cz).sum+j*(few.length-1)) (l8:ks.length<=8):cz (Yo w idle strong ks)<=(ks.map cz).sum+j*(ks.length-1)+(if ks=[] then b else 0):=by
 have s1:=VX (f:=cz) (p:=fun x=>decide (x≠idle)) ks;have s2:=VR (f:=cz) (ks.filter fun x=>decide (x≠idle)) [];have s3:=V2 (ks.filter fun x=>decide (x≠idle)) [];have s4:=kZ (fun x=>decide (x≠idle)) ks;simp only[ip,je,kA,kN] at s2 s3;rcases YZ w idle strong ks with⟨hm1,z⟩|⟨hn,few,ef,⟨e0,z⟩|⟨x,ex,z⟩|⟨h2,z⟩⟩
 ·rw[z];have:=VC (f:=cz) hm1;omega
 ·rw[z]
  by_cases c:ks=[]
  ·rw[if_pos c] at hi ⊢; omega
  ·have:=hin c (by rw[<- ef];exact e0);omega
 ·rw[z];have:=VC (f:=cz) (Y5 (idle:=idle) (x:=x) (ks:=ks) (by rw[<- ef,ex];simp)).1;omega
 ·rw[z];rw[<- ef] at s2 s3;rw[hm few (by omega) h2];have:j*(few.length-1)<=j*(ks.length-1):=Nat.mul_le_mul_left _ (by omega);omega
theorem sumLe{f g:Tr->Nat}:∀{l:List Tr},(∀k∈l,f k<=g k)->(l.map f).sum<=(l.map g).sum
 |[],_=>by simp
 |x::r,h=>by
  have:=sumLe (f:=f) (g:=g) (l:=r) fun k hk=>h k (hU _ hk);have:=h x (by simp);rw[g9,iD,g9,iD];omega
theorem getLe{f g:Tr->Nat}{l:List Tr}(h:∀k∈l,f k<=g k)(i:Nat):(l.map f).getD i 1<=(l.map g).getD i 1:=by
 rw[jV,jV,iJ,iJ];cases e:l[i]? with
 |none=>exact gY _
 |some x=>exact h x (iO e)
theorem czF_mono{c:Lb}{f g:Tr->Nat}{l:List Tr}(h:∀k∈l,f k<=g k):czF c (l.map f)<=czF c (l.map g):=by
 have s:=sumLe h;have g0:=getLe h 0;have g1:=getLe h 1;unfold czF;cases c with
 |yes=>exact gY _
 |sign z=>exact gY _
 |many w=>
  dsimp only;have e1:(l.map f=[])↔(l.map g=[]):=by simp
  have e2:(if l.map f=[] then 1 else 0)=(if l.map g=[] then 1 else 0):=by
   by_cases c:l.map f=[]
   ·rw[if_pos c,if_pos (e1.mp c)]
   ·rw[if_neg c,if_neg (fun z=>c (e1.mpr z))]
  have e3:(if l.map f=[] then 2 else 0)=(if l.map g=[] then 2 else 0):=by
   by_cases c:l.map f=[]
   ·rw[if_pos c,if_pos (e1.mp c)]
   ·rw[if_neg c,if_neg (fun z=>c (e1.mpr z))]
  rw[e2,e3,hJ,hJ]
  split<;>omega
 |wit m=>
  dsimp only;have:=Nat.mul_le_mul_left m.toNat (show(l.map f).getD 0 1+(l.map f).getD 1 1+6<=(l.map g).getD 0 1+(l.map g).getD 1 1+6 by omega);omega
 |op w=>
  dsimp only
  split
  ·omega
  split
  ·omega
  split
  ·omega
  split
  ·omega
  split
  ·omega
  omega
theorem yA(w:Str)(x:Nat):x+1<=czF (.op w) [x]:=by
 unfold czF;dsimp only;have e:([x]:List Nat).getD 0 1=x:=rfl;have e2:([x]:List Nat).sum=x:=by simp
 rw[e,e2]
 split
 ·omega
 split
 ·omega
 split
 ·omega
 split
 ·omega
 split
 ·omega
 omega
theorem czF_two{w:Str}(hw:w∈W2)(x y:Nat):czF (.op w) [x,y]=x+y+1:=by
 have h:∀w∈W2,w ≠ "all" /\ w ≠ "ever" /\ w ≠ "always" /\ w ≠ "once" /\ w ≠ "sofar" := by decide +kernel
 obtain⟨h1,h2,h3,h4,h5⟩:=h w hw;unfold czF;dsimp only;rw[if_neg h1,if_neg h2,if_neg h3,if_neg h4,if_neg h5];simp
theorem czF_last{c:Lb}{ks:List Tr}(ok:Yh c ks.length)(hc:Zv c∈SW):cz (ks.getLastD Zn)<=czF c (ks.map cz):=by
 cases c with
 |yes=>exact absurd hc (show ¬(("yes" : Str)∈SW) by decide +kernel)
 |sign z=>exact absurd hc (show ¬(("sign" : Str)∈SW) by decide +kernel)
 |many w=>
  have hc':w∈SW:=hc;rcases ok.1 with rfl|rfl<;>exact absurd hc' (by decide +kernel)
 |wit m=>
  obtain⟨_,l⟩:=ok
  match ks,l with
  |[x,y],_=>
   show cz y<=cz y+m.toNat*(cz x+cz y+6)
   omega
 |op w=>
  rcases ok with⟨_,l⟩|⟨hw,l⟩
  ·match ks,l with
   |[x],_=>have:=yA w (cz x);show cz x<=czF (.op w) [cz x];omega
  ·match ks,l with
   |[x,y],_=>show cz y<=czF (.op w) [cz x,cz y];rw[czF_two hw];omega
theorem czF_op1{c:Lb}{ks:List Tr}(ok:Yh c ks.length)(hc:Zv c∈(["not", "always", "ever"]:List Str)):cz (Xj ks)+1<=czF c (ks.map cz):=by
 cases c with
 |yes=>exact absurd hc (show ¬(("yes" : Str)∈_) by decide +kernel)
 |sign z=>exact absurd hc (show ¬(("sign" : Str)∈_) by decide +kernel)
 |many w=>
  have hc':w∈(["not", "always", "ever"]:List Str):=hc;rcases ok.1 with rfl|rfl<;>exact absurd hc' (by decide +kernel)
 |wit m=>exact absurd hc (show ¬(("within" : Str)∈_) by decide +kernel)
 |op w=>
  have hc':w∈(["not", "always", "ever"]:List Str):=hc;rcases ok with⟨_,l⟩|⟨hw,l⟩
  ·match ks,l with
   |[x],_=>exact yA w (cz x)
  ·have h:∀w∈W2,w∉(["not", "always", "ever"]:List Str):=by decide +kernel
   exact absurd hc' (h w hw)
theorem gc{c:Lb}{n:Nat}{w:Str}(ok:Yh c n)(h:Zv c=w)(hw:w = "and" \/ w = "or"):c=.many w/\n<=8:=by
 cases c with
 |many v=>have:v=w:=h;subst this;exact⟨rfl,ok.2⟩
 |yes=>have:("yes" : Str)=w:=h;subst this;exact absurd hw (by decide +kernel)
 |sign z=>have:("sign" : Str)=w:=h;subst this;exact absurd hw (by decide +kernel)
 |wit m=>have:("within" : Str)=w:=h;subst this;exact absurd hw (by decide +kernel)
 |op v=>
  have:v=w:=h;subst this;have hh:∀w∈W1++W2,w ≠ "and" /\ w ≠ "or" := by decide +kernel
  have:=hh v (by rcases ok with⟨z,_⟩|⟨z,_⟩;exact iX _ z;exact iE _ z);rcases hw with z|z
  ·exact absurd z this.1
  ·exact absurd z this.2
theorem czF_and(zs:List Nat):czF (.many "and") zs=zs.sum+(zs.length-1)+(if zs=[] then 1 else 0):=by unfold czF;dsimp only;rw[if_pos rfl]
theorem czF_or(zs:List Nat):czF (.many "or") zs=zs.sum+4*(zs.length-1)+(if zs=[] then 2 else 0):=by unfold czF;dsimp only;rw[if_neg (by decide +kernel)]
theorem map_nil{ks:List Tr}:(ks.map cz=[])↔ks=[]:=by simp
theorem all_idle{idle:Tr}{ks:List Tr}(h:ZQ [] (ks.filter fun x=>decide (x≠idle))=[]):∀x∈ks,x=idle:=fun x hx=>by
 apply Classical.byContradiction;intro hne;have:x∈ZQ [] (ks.filter fun x=>decide (x≠idle)):=W7.mpr (.inr (jB.mpr ⟨hx,hX hne⟩));rw[h] at this;cases this
theorem cz_many{w:Str}{few:List Tr}(hw:w = "and" \/ w = "or")(l8:few.length<=8)(h2:2<=few.length):cz (.node (.many w) few)=(few.map cz).sum+(if w = "and" then 1 else 4)*(few.length-1):=by
 rw[zj (t:=.node (.many w) few) ⟨hw,l8⟩];have hn:few.map cz≠[]:=fun z=>by rw[map_nil.mp z] at h2;simp at h2
 show czF (.many w) (few.map cz)=_
 rcases hw with rfl|rfl
 ·rw[czF_and,if_neg hn,hJ,if_pos rfl];omega
 ·rw[czF_or,if_neg hn,hJ,if_neg (by decide +kernel)];omega
theorem shF_sz{c:Lb}{ks:List Tr}(ok:Yh c ks.length)(hk:∀k∈ks,Yh k.lb k.ks.length):cz (shF c ks)<=czF c (ks.map cz):=by
 rcases Wg c ks with⟨h,e⟩|⟨h,e⟩|⟨_,h,e⟩|⟨h,h2,e⟩|⟨h,e⟩|e
 ·obtain⟨rfl,l8⟩:=gc ok h (.inl rfl);rw[e];have:=join_sz (w := "and") (idle:=Zn) (strong:=nNo) (ks:=ks) (b:=1) (j:=1) (by rw[cz_yes];split<;>omega) (fun x _=>cz_pos x) (fun hn _=>by
   obtain⟨x,r,ex⟩:=List.exists_cons_of_ne_nil hn;have:=VC (f:=cz) (l:=ks) (x:=x) (by rw[ex];simp);have:=cz_pos x;rw[cz_yes];omega) (fun few l h=>by rw[cz_many (.inl rfl) l h,if_pos rfl]) l8
  rw[czF_and,hJ]
  by_cases cn:ks=[]
  ·rw[if_pos cn] at this;rw[if_pos (map_nil.mpr cn)];omega
  ·rw[if_neg cn] at this;rw[if_neg (fun z=>cn (map_nil.mp z))];omega
 ·obtain⟨rfl,l8⟩:=gc ok h (.inr rfl);rw[e];have:=join_sz (w := "or") (idle:=nNo) (strong:=Zn) (ks:=ks) (b:=2) (j:=4) (by rw[cz_no];split<;>omega) (fun x _=>cz_pos x) (fun hn h0=>by
   obtain⟨x,r,ex⟩:=List.exists_cons_of_ne_nil hn;have hm:x∈ks:=by rw[ex];simp
   have:=VC (f:=cz) hm;rw[all_idle h0 x hm] at this;exact this) (fun few l h=>by rw[cz_many (.inr rfl) l h,if_neg (by decide +kernel)]) l8
  rw[czF_or,hJ]
  by_cases cn:ks=[]
  ·rw[if_pos cn] at this;rw[if_pos (map_nil.mpr cn)];omega
  ·rw[if_neg cn] at this;rw[if_neg (fun z=>cn (map_nil.mp z))];omega
 ·rw[e];exact czF_last ok h
 ·rw[e];have h1:=czF_op1 ok (by rw[h];decide +kernel);rcases Y7 (ks:=ks) with z|z
  ·rw[z] at h2;exact absurd h2 (show("yes" : Str) ≠ "not" by decide +kernel)
  ·have ok1:=hk _ z;obtain⟨x,ex⟩:=gm ok1 h2;rw[ex] at h1 ok1 ⊢;have:cz x+1<=cz (ZO x):=by rw[zj ok1];exact yA "not" (cz x)
   show cz x<=_
   omega
 ·rw[e];have:=czF_op1 ok (show Zv c∈_ by rcases h with h|h<;>rw[h]<;>decide +kernel);omega
 ·rw[e,zj (t:=.node c ks) ok];exact gY _
theorem OkN.lb{n:Nat}{t:Tr}(h:OkN n t):Yh t.lb t.ks.length:=by
 cases n with
 |zero=>exact h.elim
 |succ n=>exact h.1
theorem ve:∀{n:Nat}{t:Tr},OkN n t->cz (shT t)<=cz t
 |0,_,h=>h.elim
 |n+1,t,h=>by
  rw[XX]
  by_cases q:quL t.lb
  ·rw[if_pos q];exact gY _
  ·rw[if_neg q];have h1:=shF_sz (c:=t.lb) (ks:=t.ks.map shT) (by rw[hJ];exact h.1) (fun k hk=>by
    obtain⟨x,hx,rfl⟩:=ik.mp hk;exact(sh_ok (h.2 x hx)).lb)
   have h2:=czF_mono (c:=t.lb) (f:=fun k=>cz (shT k)) (g:=cz) (l:=t.ks) fun k hk=>ve (h.2 k hk);rw[iw] at h1;rw[zj h.1];exact iq h1 h2
end
section
open Classical
noncomputable def qsP(c:Lb)(ps:List (Tr×List Tr)):Tr×List Tr:=(.node c (ps.map Prod.fst),if quL c then[.node c (ps.map Prod.fst)] else(ps.map Prod.snd).flatten)
noncomputable def qsT(t:Tr):List Tr:=(Yd qsP t).2
theorem qsP_fst:∀(n:Nat) (t:Tr),psz t<=n->(Yd qsP t).1=t
 |0,t,h=>by have:=XN t;omega
 |n+1,t,h=>by
  rw[XC]
  show Tr.node t.lb _=t
  have e:(t.ks.map (Yd qsP)).map Prod.fst=t.ks:=by
   rw[iw];have:t.ks.map (Prod.fst∘Yd qsP)=t.ks.map id:=jb fun k hk=>qsP_fst n k (by have:=Wc hk;omega);rw[this,jw]
  rw[e];exact(Tr.eta t).symm
theorem yT(t:Tr):qsT t=if quL t.lb then[t] else(t.ks.map qsT).flatten:=by
 unfold qsT;rw[XC]
 show(if quL t.lb then[Tr.node t.lb ((t.ks.map (Yd qsP)).map Prod.fst)] else((t.ks.map (Yd qsP)).map Prod.snd).flatten)=_
 have e:(t.ks.map (Yd qsP)).map Prod.fst=t.ks:=by
  rw[iw];have:t.ks.map (Prod.fst∘Yd qsP)=t.ks.map id:=jb fun k hk=>qsP_fst _ k (gY _);rw[this,jw]
 rw[e,<- Tr.eta t,iw];rfl
theorem UX{c:Lb}{ks:List Tr}(q:¬quL c){x:Tr}:x∈qsT (.node c ks)↔∃k∈ks,x∈qsT k:=by
 rw[yT]
 show x∈(if quL c then _ else(ks.map qsT).flatten)↔_
 rw[if_neg q,List.mem_flatten];constructor
 ·rintro⟨l,hl,hx⟩;obtain⟨k,hk,rfl⟩:=ik.mp hl;exact⟨k,hk,hx⟩
 ·rintro⟨k,hk,hx⟩;exact⟨_,ik.mpr ⟨k,hk,rfl⟩,hx⟩
theorem US:∀x,x∉qsT Zn:=fun x h=>by
 obtain⟨k,hk,_⟩:=(UX (c:=.yes) (ks:=[]) (quN (w := "yes") (by decide +kernel) _ rfl)).mp h;cases hk
theorem qs_no:∀x,x∉qsT nNo:=fun x h=>by
 obtain⟨k,hk,hx⟩:=(UX (c:=.op "not") (ks:=[Zn]) (qop (by decide +kernel))).mp h;rw[iW] at hk;subst hk;exact US x hx
theorem join_qs{w:Str}{idle strong:Tr}{ks:List Tr}(q:w∉(["all", "some"]:List Str))(hi:∀x,x∉qsT idle)(hs:∀x,x∉qsT strong){x:Tr}(hx:x∈qsT (Yo w idle strong ks)):∃k∈ks,x∈qsT k:=by
 rcases YZ w idle strong ks with⟨_,z⟩|⟨hn,few,ef,⟨_,z⟩|⟨y,ey,z⟩|⟨h2,z⟩⟩
 ·rw[z] at hx;exact absurd hx (hs x)
 ·rw[z] at hx;exact absurd hx (hi x)
 ·rw[z] at hx;exact⟨y,(Y5 (idle:=idle) (by rw[<- ef,ey];simp)).1,hx⟩
 ·rw[z] at hx;obtain⟨k,hk,hx⟩:=(UX (qmy q)).mp hx;exact⟨k,(Y5 (idle:=idle) (by rw[<- ef];exact hk)).1,hx⟩
theorem shF_qs{c:Lb}{ks:List Tr}(q:¬quL c){x:Tr}(hx:x∈qsT (shF c ks)):∃k∈ks,x∈qsT k:=by
 have k0:x∈qsT (Xj ks)->∃k∈ks,x∈qsT k:=fun h=>by
  rcases Y7 (ks:=ks) with z|z
  ·rw[z] at h;exact absurd h (US x)
  ·exact⟨_,z,h⟩
 rcases Wg c ks with⟨h,e⟩|⟨h,e⟩|⟨h,_,e⟩|⟨h,h2,e⟩|⟨h,e⟩|e
 ·rw[e] at hx;exact join_qs (by decide +kernel) US qs_no hx
 ·rw[e] at hx;exact join_qs (by decide +kernel) qs_no US hx
 ·rw[e] at hx;rcases h with h|h
  ·rw[h] at hx;exact absurd hx (US x)
  ·rw[h] at hx;exact absurd hx (qs_no x)
 ·rw[e] at hx;refine k0 ?_;generalize Xj ks=k at h2 hx;obtain⟨c1,k1⟩:=k;have hq:¬quL c1:=quN (w := "not") (by decide +kernel) _ h2;rcases Y7 (ks:=k1) with z|z
  ·have hx':x∈qsT (Xj k1):=hx;rw[z] at hx';exact absurd hx' (US x)
  ·exact(UX hq).mpr ⟨_,z,hx⟩
 ·rw[e] at hx;exact k0 hx
 ·rw[e] at hx;exact(UX q).mp hx
theorem sh_qs:∀(n:Nat) (t:Tr),psz t<=n->∀x∈qsT (shT t),x∈qsT t
 |0,t,h=>by have:=XN t;omega
 |n+1,t,h=>fun x hx=>by
  rw[XX] at hx
  by_cases q:quL t.lb
  ·rw[if_pos q] at hx;exact hx
  ·rw[if_neg q] at hx;obtain⟨k,hk,hx⟩:=shF_qs q hx;obtain⟨y,hy,rfl⟩:=ik.mp hk;have:=sh_qs n y (by have:=Wc hy;omega) x hx;rw[Tr.eta t];exact(UX q).mpr ⟨y,hy,this⟩
end
section
open Classical
theorem zF:∀{ks:List Tr}{s:Tr},s∈Z2 ks->∃k∈ks,s∈post k
 |[],s,h=>by rw[Z2] at h;cases h
 |t::r,s,h=>by
  rw[Z2,iH] at h;rcases h with h|h
  ·exact⟨t,by simp,h⟩
  ·obtain⟨k,hk,hs⟩:=zF h;exact⟨k,hU _ hk,hs⟩
theorem zN:∀{ks:List Tr}{s k:Tr},k∈ks->s∈post k->s∈Z2 ks
 |t::r,s,k,hk,hs=>by
  rw[Z2,iH];rcases ic.mp hk with rfl|hk
  ·exact .inl hs
  ·exact .inr (zN hk hs)
theorem pin{c:Lb}{ks:List Tr}{s:Tr}(h:s∈post (.node c ks)):s=.node c ks\/∃k∈ks,s∈post k:=by
 rw[post,iH,iW] at h;rcases h with h|h
 ·exact .inr (zF h)
 ·exact .inl h
theorem pof{t s k:Tr}(hk:k∈t.ks)(hs:s∈post k):s∈post t:=by
 rw[Vy,iH];exact .inl (zN hk hs)
theorem psz_mem{s:Tr}{ks:List Tr}(h:s∈ks):psz s<=(ks.map psz).sum:=VC h
def InS(t x:Tr):Prop:=x=Zn\/x=nNo\/x∈post t\/∃s∈post t,x=shT s
theorem InS.up{t k x:Tr}(hk:k∈t.ks)(h:InS k x):InS t x:=by
 rcases h with h|h|h|⟨s,hs,e⟩
 ·exact .inl h
 ·exact .inr (.inl h)
 ·exact .inr (.inr (.inl (pof hk h)))
 ·exact .inr (.inr (.inr ⟨s,pof hk hs,e⟩))
theorem pyes{x:Tr}(h:x∈post Zn):x=Zn:=by
 rcases pin (c:=.yes) (ks:=[]) h with e|⟨k,hk,_⟩
 ·exact e
 ·cases hk
theorem pno{x:Tr}(h:x∈post nNo):x=Zn\/x=nNo:=by
 rcases pin (c:=.op "not") (ks:=[Zn]) h with e|⟨k,hk,h⟩
 ·exact .inr e
 ·rw[iW] at hk;subst hk;exact .inl (pyes h)
theorem shF_post{c:Lb}{ks:List Tr}{x:Tr}(hx:x∈post (shF c ks)):x=Zn\/x=nNo\/x=shF c ks\/∃k∈ks,x∈post k:=by
 have k0:x∈post (Xj ks)->x=Zn\/x=nNo\/x=shF c ks\/∃k∈ks,x∈post k:=fun h=>by
  rcases Y7 (ks:=ks) with z|z
  ·rw[z] at h;exact .inl (pyes h)
  ·exact .inr (.inr (.inr ⟨_,z,h⟩))
 have jn:∀{w:Str}{idle strong:Tr},shF c ks=Yo w idle strong ks->(∀x∈post idle,x=Zn\/x=nNo)->(∀x∈post strong,x=Zn\/x=nNo)->x=Zn\/x=nNo\/x=shF c ks\/∃k∈ks,x∈post k:=fun {w idle strong} e hi hs=>by
  have two:∀{y:Tr},(y=Zn\/y=nNo)->y=Zn\/y=nNo\/y=shF c ks\/∃k∈ks,y∈post k:=fun h=>h.elim .inl fun h=>.inr (.inl h);rcases YZ w idle strong ks with⟨_,z⟩|⟨hn,few,ef,⟨_,z⟩|⟨y,ey,z⟩|⟨h2,z⟩⟩
  ·rw[e,z] at hx;exact two (hs x hx)
  ·rw[e,z] at hx;exact two (hi x hx)
  ·rw[e,z] at hx;exact .inr (.inr (.inr ⟨y,(Y5 (idle:=idle) (by rw[<- ef,ey];simp)).1,hx⟩))
  ·rw[e,z] at hx ⊢;rcases pin hx with h|⟨k,hk,h⟩
   ·exact .inr (.inr (.inl h))
   ·exact .inr (.inr (.inr ⟨k,(Y5 (idle:=idle) (by rw[<- ef];exact hk)).1,h⟩))
 rcases Wg c ks with⟨h,e⟩|⟨h,e⟩|⟨h,_,e⟩|⟨h,h2,e⟩|⟨h,e⟩|e
 ·exact jn e (fun x h=>.inl (pyes h)) (fun x h=>pno h)
 ·exact jn e (fun x h=>pno h) (fun x h=>.inl (pyes h))
 ·rw[e] at hx;rcases h with h|h
  ·rw[h] at hx;exact .inl (pyes hx)
  ·rw[h] at hx;exact(pno hx).elim .inl fun h=>.inr (.inl h)
 ·rw[e] at hx;rcases Y7 (ks:=(Xj ks).ks) with z|z
  ·rw[z] at hx;exact .inl (pyes hx)
  ·exact k0 (pof z hx)
 ·rw[e] at hx;exact k0 hx
 ·rw[e] at hx ⊢;rcases pin hx with h|h
  ·exact .inr (.inr (.inl h))
  ·exact .inr (.inr (.inr h))
theorem sh_post:∀(n:Nat) (t:Tr),psz t<=n->∀x∈post (shT t),InS t x
 |0,t,h=>by have:=XN t;omega
 |n+1,t,h=>fun x hx=>by
  by_cases q:quL t.lb
  ·rw[XX,if_pos q] at hx;exact .inr (.inr (.inl hx))
  ·have e:shT t=shF t.lb (t.ks.map shT):=by rw[XX,if_neg q]
   have hx':=hx;rw[e] at hx';rcases shF_post hx' with h1|h1|h1|⟨k,hk,h1⟩
   ·exact .inl h1
   ·exact .inr (.inl h1)
   ·exact .inr (.inr (.inr ⟨t,xN t,by rw[h1,e]⟩))
   ·obtain⟨y,hy,rfl⟩:=ik.mp hk;exact(sh_post n y (by have:=Wc hy;omega) x h1).up hy
theorem kid_psz{t k:Tr}(h:k∈t.ks):psz k<=psz t:=by have:=Wc h;omega
theorem shF_psz{c:Lb}{ks:List Tr}:psz (shF c ks)<=2\/psz (shF c ks)<=(ks.map psz).sum+1:=by
 have y1:psz Zn<=2:=by rw[pYes];decide
 have n2:psz nNo<=2:=by show psz (.node _ [Zn])<=2;rw[p1,pYes];decide
 have km:∀{k:Tr},k∈ks->psz k<=2\/psz k<=(ks.map psz).sum+1:=fun hk=>.inr (by have:=psz_mem hk;omega);have jn:∀{w:Str}{idle strong:Tr},psz idle<=2->psz strong<=2->psz (Yo w idle strong ks)<=2\/psz (Yo w idle strong ks)<=(ks.map psz).sum+1:=fun {w idle strong} hi hs=>by
  rcases YZ w idle strong ks with⟨_,z⟩|⟨hn,few,ef,⟨_,z⟩|⟨y,ey,z⟩|⟨h2,z⟩⟩
  ·rw[z];exact .inl hs
  ·rw[z];exact .inl hi
  ·rw[z];exact km (Y5 (idle:=idle) (by rw[<- ef,ey];simp)).1
  ·rw[z,Z8,ef];have h1:=VR (f:=psz) (ks.filter fun x=>decide (x≠idle)) [];have h2:=VX (f:=psz) (p:=fun x=>decide (x≠idle)) ks;have h3:(([]:List Tr).map psz).sum=0:=rfl
   right;omega
 rcases Wg c ks with⟨h,e⟩|⟨h,e⟩|⟨h,_,e⟩|⟨h,h2,e⟩|⟨h,e⟩|e
 ·rw[e];exact jn y1 n2
 ·rw[e];exact jn n2 y1
 ·rw[e];rcases h with h|h
  ·rw[h];exact .inl y1
  ·rw[h];exact .inl n2
 ·rw[e];rcases Y7 (ks:=(Xj ks).ks) with z|z
  ·rw[z];exact .inl y1
  ·have h3:=kid_psz z;rcases Y7 (ks:=ks) with u|u
   ·rw[u] at h3 ⊢; exact .inl (iq h3 y1)
   ·have:=psz_mem u;right;omega
 ·rw[e];rcases Y7 (ks:=ks) with u|u
  ·rw[u];exact .inl y1
  ·exact km u
 ·rw[e,Z8];exact .inr (gY _)
theorem sh_psz:∀(n:Nat) (t:Tr),psz t<=n->psz (shT t)<=2*psz t
 |0,t,h=>by have:=XN t;omega
 |n+1,t,h=>by
  have hp:=XN t
  by_cases q:quL t.lb
  ·rw[XX,if_pos q];omega
  ·have e:shT t=shF t.lb (t.ks.map shT):=by rw[XX,if_neg q]
   rw[e];rcases shF_psz (c:=t.lb) (ks:=t.ks.map shT) with h1|h1
   ·omega
   ·have h2:((t.ks.map shT).map psz).sum<=(t.ks.map fun k=>2*psz k).sum:=by
     rw[iw];exact sumLe fun k hk=>sh_psz n k (by have:=Wc hk;omega)
    have h3:∀l:List Tr,(l.map fun k=>2*psz k).sum=2*(l.map psz).sum:=fun l=>by
     induction l with
     |nil=>rfl
     |cons x l ih=>rw[g9,iD,g9,iD,ih];omega
    rw[h3] at h2;rw[UJ t];omega
def g8:Nat->Nat
 |0=>0
 |n+1=>8*g8 n+1
theorem lb_8{c:Lb}{n:Nat}(h:Yh c n):n<=8:=by
 cases c with
 |yes=>have:n=0:=h;omega
 |sign s=>have:=h.1;omega
 |op w=>rcases h with⟨_,h⟩|⟨_,h⟩<;>omega
 |wit m=>have:=h.2;omega
 |many w=>exact h.2
theorem psz_g8:∀{n:Nat}{t:Tr},OkN n t->psz t<=g8 n
 |0,_,h=>h.elim
 |n+1,t,⟨ok,hk⟩=>by
  have key:∀l:List Tr,(∀k∈l,OkN n k)->(l.map psz).sum<=l.length*g8 n:=fun l=>by
   induction l with
   |nil=>intro _;simp
   |cons x l ih=>
    intro h;have h1:=psz_g8 (h x (by simp));have h2:=ih fun k hk=>h k (hU _ hk);rw[g9,iD,iA,ky];omega
  rw[UJ];have h1:=key t.ks hk;have h2:=kM (g8 n) (lb_8 ok)
  show _<=8*g8 n+1
  omega
def FwT(t:Tr):Prop:=psz t<=8000000/\∃C:List Tr,C.length<=1990/\∀s∈post t,s∈C
def Fwo(w:Tr)(m k:Nat)(t:Tr):Prop:=psz t<=m+k*psz w/\∃E:List Tr,E.length<=m/\∀s∈post t,s∈post w\/s∈E
theorem Fwo.self(w:Tr):Fwo w 0 1 w:=⟨by omega,[],by simp,fun s h=>.inl h⟩
def lm:=@Fwo.self
theorem Fwo.yes(w:Tr):Fwo w 1 0 Zn:=⟨by rw[pYes];omega,[Zn],by simp,fun s h=>.inr (by rw[pyes h];simp)⟩
theorem Fwo.one{w t:Tr}{m k:Nat}(c:Lb)(h:Fwo w m k t):Fwo w (m+1) k (.node c [t]):=by
 obtain⟨h1,E,h2,h3⟩:=h;refine⟨by rw[p1];omega,.node c [t]::E,by rw[iA];omega,fun s hs=>?_⟩;rcases pin hs with e|⟨kk,hk,hz⟩
 ·exact .inr (by rw[e];simp)
 ·rw[iW] at hk;subst hk;exact(h3 s hz).imp id (hU _)
theorem Fwo.two{w t u:Tr}{m k m' k':Nat}(c:Lb)(h:Fwo w m k t)(g:Fwo w m' k' u):Fwo w (m+m'+1) (k+k') (.node c [t,u]):=by
 obtain⟨h1,E,h2,h3⟩:=h;obtain⟨g1,F,g2,g3⟩:=g;refine⟨by rw[p2,Nat.add_mul];omega,.node c [t,u]::(E++F),by rw[iA,hG];omega,fun s hs=>?_⟩;rcases pin hs with e|⟨kk,hk,hz⟩
 ·exact .inr (by rw[e];simp)
 ·simp only[ic,iK,iL] at hk;rcases hk with rfl|rfl
  ·exact(h3 s hz).imp id fun z=>hU _ (iH.mpr (.inl z))
  ·exact(g3 s hz).imp id fun z=>hU _ (iH.mpr (.inr z))
theorem Fwo.fw{w t:Tr}{m k:Nat}{C:List Tr}(h:Fwo w m k t)(hm:m<=100)(hk:k<=2)(hw:psz w<=3000000)(hC:C.length<=1000)(c:∀s∈post w,s∈C):FwT t:=by
 obtain⟨h1,E,h2,h3⟩:=h;have:=kM (psz w) hk;refine⟨by omega,C++E,by rw[hG];omega,fun s hs=>iH.mpr ((h3 s hs).imp (c s) id)⟩
theorem sh_fw{w:Tr}{C:List Tr}(hw:psz w<=3000000)(hC:C.length<=900)(c:∀s∈post w,s∈C):FwT (shT w):=by
 have h1:=sh_psz _ w (gY _);refine⟨by omega,Zn::nNo::(C++C.map shT),by simp;omega,fun s hs=>?_⟩;rcases sh_post _ w (gY _) s hs with e|e|e|⟨y,hy,e⟩
 ·rw[e];simp
 ·rw[e];simp
 ·exact hU _ (hU _ (iH.mpr (.inl (c s e))))
 ·exact hU _ (hU _ (iH.mpr (.inr (by rw[e];exact ik.mpr ⟨y,c y hy,rfl⟩))))
theorem UB:shT Zn=Zn:=NF.yes.sh
theorem yf:shT nNo=nNo:=NF.no.sh
theorem al_not{n:Nat}{w:Tr}(h:OkN n w):shT (ZO (ZO w))=shT w:=by
 show shT (.node (.op "not") [.node (.op "not") [w]])=_
 rw[Xi (qop (by decide +kernel))]
 show shF _ [shT (.node (.op "not") [w])]=_
 rw[Xi (qop (by decide +kernel))];exact a_not (sh_ok h).lb (NF.shT _ w (gY _))
theorem al_and{w x y:Tr}(hx:x=w\/x=Zn)(hy:y=w\/y=Zn)(h:x=w\/y=w):shT (.node (.many "and") [x,y])=shT w:=by
 rw[Xi (qmy (by decide +kernel)),yY rfl];refine xh qO (fun z hz=>?_) ?_
 ·obtain⟨u,hu,rfl⟩:=ik.mp hz;simp only[ic,iK,iL] at hu;have:u=w\/u=Zn:=by rcases hu with rfl|rfl<;>assumption
  rcases this with rfl|rfl
  ·exact .inl rfl
  ·exact .inr UB
 ·refine ik.mpr ⟨w,?_,rfl⟩;rcases h with rfl|rfl<;>simp
theorem al_or{w x y:Tr}(hx:x=w\/x=nNo)(hy:y=w\/y=nNo)(h:x=w\/y=w):shT (.node (.many "or") [x,y])=shT w:=by
 rw[Xi (qmy (by decide +kernel)),shF_or rfl];refine xh (fun z=>qO z.symm) (fun z hz=>?_) ?_
 ·obtain⟨u,hu,rfl⟩:=ik.mp hz;simp only[ic,iK,iL] at hu;have:u=w\/u=nNo:=by rcases hu with rfl|rfl<;>assumption
  rcases this with rfl|rfl
  ·exact .inl rfl
  ·exact .inr yf
 ·refine ik.mpr ⟨w,?_,rfl⟩;rcases h with rfl|rfl<;>simp
theorem al_andN{x y:Tr}(h:x=nNo\/y=nNo):shT (.node (.many "and") [x,y])=shT nNo:=by
 rw[Xi (qmy (by decide +kernel)),yY rfl,yf];refine U1 (ik.mpr ⟨nNo,?_,yf⟩);rcases h with rfl|rfl<;>simp
theorem al_orY{x y:Tr}(h:x=Zn\/y=Zn):shT (.node (.many "or") [x,y])=shT Zn:=by
 rw[Xi (qmy (by decide +kernel)),shF_or rfl,UB];refine U1 (ik.mpr ⟨Zn,?_,UB⟩);rcases h with rfl|rfl<;>simp
theorem vg{x y:Tr}(h:y=Zn\/y=nNo):shT (.node (.op "until") [x,y])=shT y:=by
 rw[Xi (qop (by decide +kernel)),UQ (by decide +kernel)]
 ·rfl
 ·show shT y=Zn\/shT y=nNo
  rcases h with rfl|rfl
  ·exact .inl UB
  ·exact .inr yf
theorem al_one{w:Str}{y:Tr}(hw:w∈(["next", "always", "ever"]:List Str))(h:y=Zn\/y=nNo):shT (.node (.op w) [y])=shT y:=by
 have q:w∉(["all", "some"]:List Str)/\Zv (.op w)∈SW:=by
  simp only[ic,iK,iL] at hw;rcases hw with rfl|rfl|rfl<;>exact⟨by decide +kernel,by decide +kernel⟩
 rw[Xi (qop q.1),UQ q.2]
 ·rfl
 ·show shT y=Zn\/shT y=nNo
  rcases h with rfl|rfl
  ·exact .inl UB
  ·exact .inr yf
theorem ae_q{w o:Str}(hw:(w = "always" /\ o = "ever")\/(w = "ever" /\ o = "always")):w∉(["all", "some"]:List Str)/\o∉(["all", "some"]:List Str):=by
 rcases hw with⟨rfl,rfl⟩|⟨rfl,rfl⟩<;>exact⟨by decide +kernel,by decide +kernel⟩
theorem va{w o:Str}{s:Tr}(hw:(w = "always" /\ o = "ever")\/(w = "ever" /\ o = "always")):shT (.node (.op w) [.node (.op w) [s]])=shT (.node (.op w) [s]):=by
 rw[Xi (qop (ae_q hw).1)]
 show shF _ [shT (.node (.op w) [s])]=_
 rw[Xi (qop (ae_q hw).1)];exact a_twice hw
theorem zP{w o:Str}{s:Tr}(hw:(w = "always" /\ o = "ever")\/(w = "ever" /\ o = "always")):shT (.node (.op w) [.node (.op o) [.node (.op w) [s]]])=shT (.node (.op o) [.node (.op w) [s]]):=by
 rw[Xi (qop (ae_q hw).1)]
 show shF _ [shT (.node (.op o) [.node (.op w) [s]])]=_
 rw[Xi (qop (ae_q hw).2)]
 show shF _ [shF _ [shT (.node (.op w) [s])]]=shF _ [shT (.node (.op w) [s])]
 rw[Xi (qop (ae_q hw).1)];exact a_thrice hw
end
end L3
namespace L3
open PySem PySem.Spec PyProof.Rows PySem.W
section
variable{prog:Program}{w:World}{K1 K2:Type}[DecidableEq K1][DecidableEq K2](k1:KeyKind prog w K1)(k2:KeyKind prog w K2)
def VN(h:Heap)(x:K1×List K2)(a:Addr):Prop:=∃o v b n,h.get? a=some o/\o.cls=.type "tuple" /\ o.data=.seq #[v,.ref b] n/\k1.is x.1 v=true/\IsTupleKey k2 h x.2 b
variable{k1 k2}
theorem VN.typeIs{s:Shared}{x:K1×List K2}{a:Addr}(y:VN k1 k2 s.heap x a):s.TypeIs (.ref a) "tuple" := let ⟨o,_,_,_,ho,hc,_⟩:=y; ⟨o,ho,hc⟩
theorem VN.inj{h:Heap}{a:Addr}{x y:K1×List K2}(hx:VN k1 k2 h x a)(hy:VN k1 k2 h y a):x=y:=by
 obtain⟨o,v,b,n,ho,_,hd,h1,h2⟩:=hx;obtain⟨o',v',b',n',ho',_,hd',h1',h2'⟩:=hy;obtain rfl:o=o':=iB (ho.symm.trans ho');rw[hd] at hd';injection hd' with e _;injection e with e;injection e with e1 e2;injection e2 with e2 _;injection e2 with e2;subst e1;subst e2;exact Prod.ext (k1.inj _ _ _ h1 h1') (h2.inj h2')
theorem VN.keeps{h h':Heap}{x:K1×List K2}{a d:Addr}{o:Obj}{es ep}(y:VN k1 k2 h x a)(ho:h.get? d=some o)(hd:o.data=.dict es ep)(hs:Heap.SameBut d h h'):VN k1 k2 h' x a:=by
 obtain⟨o',v,b,n,ho',hc,hd',h1,h2⟩:=y;have hne:a≠d:=by
  rintro rfl;obtain rfl:o'=o:=iB (ho'.symm.trans ho);rw[hd] at hd';exact nomatch hd'
 exact⟨o',v,b,n,(hs.2 a hne).trans ho',hc,hd',h1,h2.keeps ho hd hs⟩
def pkHash(k1:KeyKind prog w K1)(k2:KeyKind prog w K2)(x:K1×List K2):Int:=reduceHash (Builtin.Tuple.tupleHashOf [k1.hash x.1,tupleKeyHash k2 x.2])
variable{A:Around}{E:Value->Shared->Prop}{s:Shared}
theorem pyHash_pk{x:K1×List K2}{a:Addr}{Q:Int->Shared->Prop}(hu:A.units+1<cLine)(hk:VN k1 k2 s.heap x a)(h:Q (pkHash k1 k2 x) { s with toks:=s.toks+(x.2.length+3) }) :
  wpAny (model prog w) A (pyHash (.ref a)) Q E s:=by
 have hT:=hk.typeIs;obtain⟨o,v,b,n,ho,_,hd,h1,h2⟩:=hk;refine pyHash_slot (T := "tuple") hT F.slot_tuple_hash F.entry_tuple_hash (F.args_tuple_hash_1 _) (beq_builtin_none _) (.inr (by omega)) ?_
 show wpAny _ _ (Builtin.Tuple.tupleItemsOf (.ref a) >>= _) _ _ s
 refine gW (wpAny_tupleItemsOf ho hd ?_);refine gW ?_;rw[<- Array.forIn_toList]
 show wpAny _ _ (forIn [v,Value.ref b] _ _) _ _ s
 rw[jF];refine gW (gW (k1.pyHash h1 ?_))
 first
  |refine gX ?_
  |refine gW (gX (gX ?_))
 show wpAny _ _ (forIn [Value.ref b] _ _) _ _ _
 rw[jF];refine gW (gW (wpAny_pyHash_tuple (knd:=k2) (ks:=x.2) (by simp only[kB];omega) h2 ?_))
 first
  |refine gX ?_
  |refine gW (gX (gX ?_))
 show wpAny _ _ (forIn ([]:List Value) _ _) _ _ _
 rw[List.forIn_nil];refine gX ?_
 show wpAny _ _ (retInt (Builtin.Tuple.tupleHashOf [k1.hash x.1,tupleKeyHash k2 x.2])) _ _ _
 refine gW (wpAny_mkInt (gX ⟨_,_,rfl,?_⟩));have e:s.toks+(x.2.length+3)=s.toks+1+(x.2.length+1)+1:=by omega
 rw[e] at h;exact h
theorem vQ{x y:K1×List K2}{a b:Addr}{P:Fin->Shared->Prop}(hu:A.units<cLine)(hx:VN k1 k2 s.heap x a)(hy:VN k1 k2 s.heap y b)(h:P (.done (.ret (.bool (decide (x=y))))) s) :
  wpAny (model prog w) A (Builtin.«tuple.__eq__» ⟨[.ref a,.ref b],[]⟩) P E s:=by
 have hTb:=hy.typeIs;obtain⟨oa,u,p,na,hoa,_,hda,hu1,hu2⟩:=hx;obtain⟨ob,v,q,nb,hob,_,hdb,hv1,hv2⟩:=hy;have hd:decide (x=y)=(decide (x.1=y.1)&&decide (x.2=y.2)):=by
  obtain⟨x1,x2⟩:=x;obtain⟨y1,y2⟩:=y
  by_cases e1:x1=y1<;>by_cases e2:x2=y2<;>simp[e1,e2]
 show wpAny _ _ (isInstance (.ref b) (.type "tuple") >>= _) _ _ s
 refine gW (wpAny_isInstance hTb isSubtype_tuple_tuple ?_);simp only[jx,jo,iR];refine gW (wpAny_tupleItemsOf hoa hda ?_);refine gW (wpAny_tupleItemsOf hob hdb ?_);refine gW ?_
 show wpAny _ _ (forIn [(u,v),(Value.ref p,Value.ref q)] _ _) _ _ s
 rw[jF];refine gW (gW (k1.eqBool (a:=x.1) (b:=y.1) hu1 hv1 ?_))
 by_cases e1:x.1=y.1
 ·rw[hX e1];simp only[jx,jo,iR];refine gX ?_
  show wpAny _ _ (forIn [(Value.ref p,Value.ref q)] _ _) _ _ s
  rw[jF];refine gW (gW (wpAny_eqBool_tuple (knd:=k2) hu hu2 hv2 ?_))
  by_cases e2:x.2=y.2
  ·rw[hX e2];simp only[jx,jo,iR];refine gX ?_
   show wpAny _ _ (forIn ([]:List (Value×Value)) _ _) _ _ s
   rw[List.forIn_nil];refine gX (gX ?_);rw[hd,hX e1,hX e2] at h;exact h
  ·rw[im e2];simp only[Bool.not_false,jf];rw[hd,im e2,jv] at h;exact gW (gX (gX (gX (gX h))))
 ·rw[im e1];simp only[Bool.not_false,jf];rw[hd,im e1,kc] at h;exact gW (gX (gX (gX (gX h))))
theorem eqBool_pk{x y:K1×List K2}{a b:Addr}{Q:Bool->Shared->Prop}(hu:A.units+1<cLine)(hx:VN k1 k2 s.heap x a)(hy:VN k1 k2 s.heap y b)(h:Q (decide (x=y)) s) :
  wpAny (model prog w) A (eqBool (.ref a) (.ref b)) Q E s:=by
 unfold eqBool
 try with_reducible refine ji ?_
 show wpAny _ _ (if(Value.ref a==Value.ref b)=true then _ else _) Q E s
 by_cases hab:(Value.ref a==Value.ref b)=true
 ·rw[if_pos hab];have e:a=b:=by have:=eq_of_beq hab;injection this
  subst e;obtain rfl:=hx.inj hy;exact gW (wpAny_rule (gX (by simpa using h)))
 ·rw[if_neg hab];exact gW (wpAny_richCompare_same_room (op:=.Eq) hx.typeIs hy.typeIs F.slot_tuple_eq
   (kf F.slot_tuple_eq hx.typeIs F.entry_tuple_eq (vQ (by simp only[kB];omega) hx hy ⟨_,rfl,(fun e=>nomatch e),i5 h⟩) (F.args_tuple_eq_2 _ _)) (by omega))
theorem yS{ks:List K2}{a:Addr}{Q:Bool->Shared->Prop}(n:Nat)(hk:IsTupleKey k2 s.heap ks a)(h:Q true s):wpAny (model prog w) A (eqIsQuiet (n+1) (.ref a)) Q E s:=by
 have hT:=hk.typeIs;obtain⟨o,items,n,ho,_,hd,hi⟩:=hk;unfold eqIsQuiet;refine gW (wpAny_specialOf hT F.slot_tuple_eq.lookup ?_)
 show wpAny _ _ (isInstance (.ref a) (.type "tuple") >>= _) _ _ s
 refine gW (wpAny_isInstance hT isSubtype_tuple_tuple ?_);simp only[jx,jo,iR];refine gW (jU ho hd ?_);refine gW ?_
 show wpAny _ _ (forIn items _ _) _ _ s
 rw[<- Array.forIn_toList];refine wpAny_forIn_list _ (fun Wv r s'=>r.1=none/\s'=s/\∀v∈Wv,carriedByValue v=true) _ ?_ ?_ _ _ ⟨rfl,rfl,hi.byValue⟩
 ·rintro v Wv r s' ⟨hr,rfl,hall⟩;rw[eqIsQuiet_byValue _ (hall v jN)];refine gW (gX ?_);simp only[jx,jo,iR];exact gX ⟨rfl,rfl,fun u hu'=>hall u (hU _ hu')⟩
 ·rintro⟨r1,r2⟩ s' ⟨hr,rfl,_⟩;simp only at hr;subst hr;exact gX h
theorem quiet_pk{x:K1×List K2}{a:Addr}{Q:Bool->Shared->Prop}(hk:VN k1 k2 s.heap x a)(h:Q true s):wpAny (model prog w) A (eqIsQuiet 8 (.ref a)) Q E s:=by
 have hT:=hk.typeIs;obtain⟨o,v,b,n,ho,_,hd,h1,h2⟩:=hk;unfold eqIsQuiet;refine gW (wpAny_specialOf hT F.slot_tuple_eq.lookup ?_)
 show wpAny _ _ (isInstance (.ref a) (.type "tuple") >>= _) _ _ s
 refine gW (wpAny_isInstance hT isSubtype_tuple_tuple ?_);simp only[jx,jo,iR];refine gW (jU ho hd ?_);refine gW ?_;rw[<- Array.forIn_toList]
 show wpAny _ _ (forIn [v,Value.ref b] _ _) _ _ s
 rw[jF,eqIsQuiet_byValue _ (k1.byValue _ _ h1)];refine gW (gW (gX ?_));simp only[jx,jo,iR];refine gX ?_
 show wpAny _ _ (forIn [Value.ref b] _ _) _ _ s
 rw[jF];refine gW (gW (yS 6 h2 ?_));simp only[jx,jo,iR];refine gX ?_
 show wpAny _ _ (forIn ([]:List Value) _ _) _ _ s
 rw[List.forIn_nil];exact gX (gX h)
end
end L3
namespace L3
open PySem PySem.Spec PyProof.Rows L2
abbrev RK:=Sum (List Key) Str
def WJ:Key->PyData
 |.inl i=>.int i
 |.inr x=>.str x
def yt(ks:List Key):Prop:=∀x,Sum.inr x∈ks->PyData.strOk x=true
def rkD:RK->PyData
 |.inl ks=>.tuple (ks.map WJ)
 |.inr z=>.tuple [.str z,.tuple []]
section
variable{prog:Program}{w:World}
def IsRK(prog:Program)(w:World)(h:Heap):RK->Addr->Prop
 |.inl ks,a=>IsTupleKey (ZW prog w) h ks a/\yt ks
 |.inr z,a=>VN (ZW prog w) (ZW prog w) h ((Sum.inr z:Key),[]) a/\PyData.strOk z=true
theorem z9{h:Heap}{k:Key}{v:Value}(e:VI k v=true):∃as,Reads h v (WJ k) as:=by
 rcases Yb e with⟨i,t,rfl,rfl⟩|⟨x,t,rfl,rfl⟩
 ·exact⟨_,.int i t⟩
 ·exact⟨_,.str x t⟩
theorem Vh{h:Heap}:∀{ks:List Key}{vs:List Value},ItemsAre (ZW prog w) ks vs->∃as,ReadsAll h vs (ks.map WJ) as
 |_,_,.nil=>⟨_,.nil⟩
 |_,_,.cons e r=>by
  obtain⟨as,a⟩:=z9 (h:=h) e;obtain⟨bs,b⟩:=Vh (h:=h) r;exact⟨_,.cons a b⟩
theorem Uv{h:Heap}{x:RK}{a:Addr}(i:IsRK prog w h x a):∃as,Reads h (.ref a) (rkD x) as:=by
 cases x with
 |inl ks=>
  obtain⟨⟨o,items,n,ho,hc,hd,hi⟩,_⟩:=i;obtain⟨as,q⟩:=Vh (h:=h) hi;exact⟨_,.tuple ho hc hd q⟩
 |inr z=>
  obtain⟨⟨o,v,b,n,ho,hc,hd,h1,o2,items,n2,ho2,hc2,hd2,hi2⟩,_⟩:=i;obtain⟨as,q⟩:=Vh (h:=h) hi2;obtain⟨bs,q1⟩:=z9 (h:=h) (show VI (Sum.inr z) v=true from h1);exact⟨_,.tuple ho hc hd (.cons q1 (.cons (.tuple ho2 hc2 hd2 q) .nil))⟩
theorem WM:∀{ks:List Key},yt ks->PyData.canLayAll0 (ks.map WJ)=true/\PyData.depthAll (ks.map WJ)<=0
 |[],_=>⟨rfl,gY _⟩
 |.inl i::r,h=>by
  obtain⟨a,b⟩:=WM (ks:=r) fun x hx=>h x (hU _ hx);exact⟨by simp[WJ,PyData.canLayAll0,PyData.canLay0,a],by simp[WJ,PyData.depthAll,PyData.depth] at b ⊢; exact b⟩
 |.inr x::r,h=>by
  obtain⟨a,b⟩:=WM (ks:=r) fun x hx=>h x (hU _ hx);exact⟨by simp[WJ,PyData.canLayAll0,PyData.canLay0,a,h x (by simp)],by simp[WJ,PyData.depthAll,PyData.depth] at b ⊢; exact b⟩
theorem yP{h:Heap}{x:RK}{a:Addr}(i:IsRK prog w h x a):(rkD x).canLay0=true:=by
 cases x with
 |inl ks=>simp[rkD,PyData.canLay0,(WM i.2).1]
 |inr z=>simp[rkD,PyData.canLay0,PyData.canLayAll0,i.2]
theorem xL(k:Key)(ds:List PyData):PyData.eqv (WJ k) (.tuple ds)=false/\PyData.eqv (.tuple ds) (WJ k)=false:=by
 cases k<;>simp[WJ,PyData.eqv]
theorem xp(ks:List Key)(z:Str):PyData.eqv (rkD (.inl ks)) (rkD (.inr z))=false/\PyData.eqv (rkD (.inr z)) (rkD (.inl ks))=false:=by
 match ks with
 |[]=>simp[rkD,PyData.eqv,PyData.eqvAll]
 |[k]=>
  have e1:PyData.eqvAll [] [PyData.tuple []]=false:=by simp[PyData.eqvAll]
  have e2:PyData.eqvAll [PyData.tuple []] []=false:=by simp[PyData.eqvAll]
  constructor
  ·show PyData.eqv (.tuple [WJ k]) (.tuple [.str z,.tuple []])=false
   rw[PyData.eqv,PyData.eqvAll,e1,jv]
  ·show PyData.eqv (.tuple [.str z,.tuple []]) (.tuple [WJ k])=false
   rw[PyData.eqv,PyData.eqvAll,e2,jv]
 |k::k2::r=>
  constructor
  ·show PyData.eqv (.tuple (WJ k::WJ k2::r.map WJ)) (.tuple [.str z,.tuple []])=false
   rw[PyData.eqv,PyData.eqvAll,PyData.eqvAll,(xL k2 []).1,kc,jv]
  ·show PyData.eqv (.tuple [.str z,.tuple []]) (.tuple (WJ k::WJ k2::r.map WJ))=false
   rw[PyData.eqv,PyData.eqvAll,PyData.eqvAll,(xL k2 []).2,kc,jv]
theorem rk_inj{h:Heap}{a:Addr}{x y:RK}(hx:IsRK prog w h x a)(hy:IsRK prog w h y a):x=y:=by
 have cross:∀{ks:List Key}{z:Str},IsRK prog w h (.inl ks) a->IsRK prog w h (.inr z) a->False:=fun {ks z} p q=>by
  obtain⟨⟨o,items,n,ho,hc,hd,hi⟩,_⟩:=p;obtain⟨⟨o2,v,b,n2,ho2,hc2,hd2,_⟩,_⟩:=q;rw[ho] at ho2;cases ho2;rw[hd] at hd2;cases hd2;cases hi with
  |cons e r=>
   cases r with
   |@cons k2 v2 ks2 vs2 e2 r2=>
    rcases Yb (show VI k2 (Value.ref b)=true from e2) with⟨_,_,_,z⟩|⟨_,_,_,z⟩<;>cases z
 cases x with
 |inl ks=>
  cases y with
  |inl ls=>rw[hx.1.inj hy.1]
  |inr z=>exact(cross hx hy).elim
 |inr z=>
  cases y with
  |inl ls=>exact(cross hy hx).elim
  |inr z'=>
   have:=hx.1.inj hy.1;have e:(Sum.inr z:Key)=Sum.inr z':=io Prod.fst this;rw[jz e]
def rkHash(prog:Program)(w:World):RK->Int
 |.inl ks=>tupleKeyHash (ZW prog w) ks
 |.inr z=>pkHash (ZW prog w) (ZW prog w) ((Sum.inr z:Key),[])
def WQ(prog:Program)(w:World):HeapKind prog w RK where
 is:=IsRK prog w
 hash:=rkHash prog w
 draws:=fun x=>match x with|.inl ks=>ks.length+1|.inr _=>3
 room:=fun A=>A.units+3<cLine
 inj:=fun hx hy=>rk_inj hx hy
 keeps:=fun {h h' k a d o es ep} x ho hd hs=>by
  cases k with
  |inl ks=>exact⟨x.1.keeps ho hd hs,x.2⟩
  |inr z=>exact⟨x.1.keeps ho hd hs,x.2⟩
 pyHash:=fun {A E s k a Q} hu hk h=>by
  cases k with
  |inl ks=>exact wpAny_pyHash_tuple (by omega) hk.1 h
  |inr z=>exact pyHash_pk (by omega) hk.1 h
 eqBool:=fun {A E s x y a b Q} hu hx hy h=>by
  cases x with
  |inl ks=>
   cases y with
   |inl ls=>
    refine wpAny_eqBool_tuple (by omega) hx.1 hy.1 ?_;have e:decide ((Sum.inl ks:RK)=Sum.inl ls)=decide (ks=ls):=by
     by_cases q:ks=ls
     ·subst q;simp
     ·rw[im q,im fun z=>q (jM z)]
    rw[e] at h;exact h
   |inr z=>
    obtain⟨as,r1⟩:=Uv hx;obtain⟨bs,r2⟩:=Uv hy;refine SeqAt.eqBoolOverData prog w A E s _ _ _ _ as bs Q r1 r2 (yP hx) (yP hy) ?_ ?_
    ·have:(rkD (.inl ks)).depth<=1:=by have:=(WM hx.2).2;simp only[rkD,PyData.depth];omega
     have:=Nat.min_le_left (rkD (.inl ks)).depth (rkD (.inr z)).depth;omega
    ·rw[(xp ks z).1];rw[im (by simp)] at h;exact h
  |inr z=>
   cases y with
   |inl ls=>
    obtain⟨as,r1⟩:=Uv hx;obtain⟨bs,r2⟩:=Uv hy;refine SeqAt.eqBoolOverData prog w A E s _ _ _ _ as bs Q r1 r2 (yP hx) (yP hy) ?_ ?_
    ·have:(rkD (.inl ls)).depth<=1:=by have:=(WM hy.2).2;simp only[rkD,PyData.depth];omega
     have:=Nat.min_le_right (rkD (.inr z)).depth (rkD (.inl ls)).depth;omega
    ·rw[(xp ls z).2];rw[im (by simp)] at h;exact h
   |inr z'=>
    refine eqBool_pk (by omega) hx.1 hy.1 ?_;have e:decide ((Sum.inr z:RK)=Sum.inr z')=decide ((((Sum.inr z:Key),[]):Key×List Key)=((Sum.inr z':Key),[])):=by
     by_cases q:z=z'
     ·subst q;simp
     ·rw[im fun e=>q (jz e),im fun e=>q (jz (io Prod.fst e))]
    rw[e] at h;exact h
 quiet:=fun {A E s k a Q} hk h=>by
  cases k with
  |inl ks=>exact wpAny_eqIsQuiet_tuple hk.1 h
  |inr z=>exact quiet_pk hk.1 h
end
abbrev YE:=List (RK×Addr×V)
abbrev YPr:YE->List (RK×Addr×Value)->Prop:=Paired fun p q=>p.1=q.1/\p.2.1=q.2.1/\ZU p.2.2 q.2.2
def DyAt(Pm:Params)(a:Addr)(es:YE)(h:Heap):Prop:=es.length<=sizeLine/\(a==sysModules)=false/\∃(P:Program) (w:World) (xs:List (RK×Addr×Value)),w.params=Pm/\YPr es xs /\
 ∃o fs ep,h.get? a=some o/\o.ExactDict/\o.data=.dict fs ep/\fs.toList=xs.map (entryOfKey (WQ P w))/\(xs.map (·.1)).Nodup
def DyO(Pm:Params)(a:Addr)(es:YE):HO:=.ext (DyAt Pm a es)
theorem dy_ok{P:Program}{w:World}{Pm:Params}{H:Hp}{h:Heap}{a:Addr}{es:YE}(x:DyAt Pm a es h):Yx P w H h a (DyO Pm a es):=by
 refine⟨x,?_,?_⟩
 ·obtain⟨_,_,_,_,_,_,_,o,_,_,e,_⟩:=x;exact⟨o,e⟩
 ·rintro h1 h2 ⟨z,y,P',w',xs,hp,r,o,fs,ep,e,c⟩ k;exact⟨z,y,P',w',xs,hp,r,o,fs,ep,k _ e,c⟩
theorem xQ{P P':Program}{w w':World}(h:w.params=w'.params):entryOfKey (WQ P w)=entryOfKey (WQ P' w'):=by
 have hk:keyH w=keyH w':=by
  funext k
  cases k with
  |inl i=>rfl
  |inr x=>show hashStr w x=hashStr w' x;unfold hashStr;rw[h]
 have ht:∀ks:List Key,tupleKeyHash (ZW P w) ks=tupleKeyHash (ZW P' w') ks:=fun ks=>by
  unfold tupleKeyHash
  show reduceHash (Builtin.Tuple.tupleHashOf (ks.map (keyH w)))=reduceHash (Builtin.Tuple.tupleHashOf (ks.map (keyH w')))
  rw[hk]
 funext x
 unfold entryOfKey
 congr 1
 show rkHash P w x.1=rkHash P' w' x.1
 cases x.1 with
 |inl ks=>exact ht ks
 |inr z=>
  show reduceHash (Builtin.Tuple.tupleHashOf [keyH w (Sum.inr z),tupleKeyHash (ZW P w) []])=reduceHash (Builtin.Tuple.tupleHashOf [keyH w' (Sum.inr z),tupleKeyHash (ZW P' w') []])
  rw[hk,ht]
def Xm(K:W.Frag)(H:Hp)(b:Addr):RK->Prop
 |.inl ks=>SqT K H b (ks.map kV)/\yt ks
 |.inr z=>(∃e,SqT K H b [.str z,.ref e]/\SqT K H e [])/\PyData.strOk z=true
theorem Xm.mono{K:W.Frag}{H H':Hp}{b:Addr}{x:RK}(s:Yk H H')(h:Xm K H b x):Xm K H' b x:=by
 cases x with
 |inl ks=>exact⟨s _ _ _ h.1,h.2⟩
 |inr z=>obtain⟨⟨e,h1,h2⟩,h3⟩:=h;exact⟨⟨e,s _ _ _ h1,s _ _ _ h2⟩,h3⟩
def valY(es:YE)(k:RK):Option V:=Ud (es.map fun e=>(e.1,e.2.2)) k
theorem YPr.val{es:YE}{xs:List (RK×Addr×Value)}(r:YPr es xs)(k:RK):VT (valY es k) ((atKey xs k).map (·.2)):=by
 induction r with
 |nil=>exact True.intro
 |@cons p q ps qs h t ih=>
  obtain⟨h1,_,h2⟩:=h;unfold valY at ih ⊢;rw[g9]
  by_cases e:p.1=k
  ·have e':q.1=k:=h1.symm.trans e;have b:atKey (q::qs) k=some q.2:=by simp[atKey,jW,e']
   rw[qL e,b];exact h2
  ·have e':¬q.1=k:=fun z=>e (h1.trans z);have b:atKey (q::qs) k=atKey qs k:=by simp[atKey,jW,e']
   rw[zn e,b];exact ih
def YGet(K:W.Frag)(Pm:Params)(H:Hp)(a:Addr)(y:V)(r:Option V):Prop:=∃es k b,H a=some (DyO Pm a es)/\y=.ref b/\Xm K H b k/\(∀e∈es,Xm K H e.2.1 e.1)/\r=valY es k
def YPut(K:W.Frag)(Pm:Params)(H:Hp)(a:Addr)(y v:V)(H':Hp):Prop:=∃es k b,H a=some (DyO Pm a es)/\y=.ref b/\Xm K H b k/\(∀e∈es,Xm K H e.2.1 e.1)/\valY es k=none/\es.length<sizeLine/\H'=upd H a (DyO Pm a (es++[(k,b,v)]))
section
variable{X:Cx}{gE:List (Addr×Obj)}{σ:L3.St}{H:Hp}{s:Shared}{a:Addr}{y v:V}{u r:Value}{o:Option V}{A:Around}{E:Value->Shared->Prop}{Pm:Params}
theorem qj{x:RK}{b:Addr}(I:L2.Inv X gE σ H s)(e:Xm X.K H b x):(WQ X.prog X.w).is s.heap x b:=by
 have tk:∀{ks:List Key}{b:Addr},SqT X.K H b (ks.map kV)->IsTupleKey (ZW X.prog X.w) s.heap ks b:=fun {ks b} e=>by
  obtain⟨its,r,t,_⟩:=I.tuple e;obtain⟨o,h1,h2,n,h3⟩:=t;exact⟨o,its.toArray,n,h1,h2,h3,by simpa using UD r⟩
 cases x with
 |inl ks=>exact⟨tk e.1,e.2⟩
 |inr z=>
  obtain⟨⟨e1,h1,h2⟩,h3⟩:=e;obtain⟨its,r,t,_⟩:=I.tuple h1;obtain⟨o,q1,q2,n,q3⟩:=t;obtain⟨u,v,rfl,ru,rv⟩:=vals2 r;obtain rfl:v=Value.ref e1:=rv;obtain⟨tk',rfl⟩:∃t,u=Value.str z t:=ru;exact⟨⟨o,_,e1,n,q1,q2,q3,zY z tk',tk (ks:=[]) h2⟩,h3⟩
theorem dy_of{es:YE}(hw:X.w.params=Pm)(I:L2.Inv X gE σ H s)(e:H a=some (DyO Pm a es))(hk:∀e∈es,Xm X.K H e.2.1 e.1):es.length<=sizeLine/\(a==sysModules)=false/\∃xs,YPr es xs/\s.heap.DictOfH (WQ X.prog X.w) a xs:=by
 obtain⟨⟨z,y,P,w,xs,hp,r,o,fs,ep,h1,h2,h3,h4,h5⟩,_⟩:=I.hok a _ e;refine⟨z,y,xs,r,o,fs,ep,h1,h2,h3,?_,fun x hx=>?_,h5⟩
 ·rw[h4,xQ (P':=X.prog) (w':=X.w) (hp.trans hw.symm)]
 ·have all:∀{l:YE}{m:List (RK×Addr×Value)},YPr l m->(∀e∈l,Xm X.K H e.2.1 e.1)->∀x∈m,(WQ X.prog X.w).is s.heap x.1 x.2.1:=by
   intro l m q
   induction q with
   |nil=>intro _ x hx;exact nomatch hx
   |@cons p q ps qs hq t ih=>
    intro hk x hx;rcases ic.mp hx with e|hx
    ·subst e;have:=hk p (by simp);rw[hq.1,hq.2.1] at this;exact qj I this
    ·exact ih (fun e he=>hk e (hU _ he)) x hx
  exact all r hk x hx
theorem y_getItem{Q:Value->Shared->Prop}(hw:X.w.params=Pm)(hu:A.units+4<cLine)(I:L2.Inv X gE σ H s)(g:YGet X.K Pm H a y (some v))(ry:ZU y u)(h:∀w' s',L2.Inv X gE σ H s'->ZU v w'->Q w' s') :
  wpAny (model X.prog X.w) A (getItem (.ref a) u) Q E s:=by
 obtain⟨es,k,b,e,rfl,eb,hk,l⟩:=g;cases (show u=Value.ref b from ry);obtain⟨z,hd,xs,rel,dd⟩:=dy_of hw I e hk;obtain⟨w',hw',rw'⟩:=VT.some_of (v:=v) (o:=(atKey xs k).map (·.2)) (by rw[l];exact rel.val k);obtain⟨p,hp,hp2⟩:=kO.mp hw';refine wpAny_getItem_heap ((by simpa[WQ,kB] using(show A.units+1+3<cLine by omega))) (qj I eb) dd hp ?_;rw[hp2];exact h w' _ (I.tok _) rw'
theorem y_notIn{Q:Value->Shared->Prop}(hw:X.w.params=Pm)(hu:A.units+4<cLine)(I:L2.Inv X gE σ H s)(g:YGet X.K Pm H a y o)(ry:ZU y u)(h:∀s',L2.Inv X gE σ H s'->Q (.bool (!o.isSome)) s') :
  wpAny (model X.prog X.w) A (compareOp .NotIn u (.ref a)) Q E s:=by
 obtain⟨es,k,b,e,rfl,eb,hk,l⟩:=g;cases (show u=Value.ref b from ry);obtain⟨z,hd,xs,rel,dd⟩:=dy_of hw I e hk;refine wpAny_notIn_heap ((by simpa[WQ,kB] using(show A.units+1+3<cLine by omega))) (qj I eb) hd dd ?_;have q:=(rel.val k).isSome_eq;rw[Option.isSome_map] at q;rw[<- q,<- l];exact h _ (I.tok _)
theorem y_setItem{H':Hp}{Q:Unit->Shared->Prop}(hw:X.w.params=Pm)(hu:A.units+4<cLine)(I:L2.Inv X gE σ H s)(g:YPut X.K Pm H a y v H')(ry:ZU y u)(rv:ZU v r)(h:∀s',L2.Inv X gE σ H' s'->Q () s') :
  wpAny (model X.prog X.w) A (setItem (.ref a) u r) Q E s:=by
 obtain⟨es,k,b,e,rfl,eb,hk,hn,hl,rfl⟩:=g;cases (show u=Value.ref b from ry);obtain⟨z,hd,xs,rel,dd⟩:=dy_of hw I e hk;have hz:xs.length<=sizeLine:=by rw[<- j9 rel];exact z
 have hnone:atKey xs k=none:=by
  have q:=(rel.val k).isSome_eq;rw[hn,Option.isSome_map] at q;cases hh:atKey xs k with
  |none=>rfl
  |some p=>rw[hh] at q;cases q
 refine wpAny_setItem_heap (hsz:=hz) ((by simpa[WQ,kB] using(show A.units+1+3<cLine by omega))) (qj I eb) dd fun h' dd' hs=>h _ ?_;rw[storedH_new hnone] at dd';obtain⟨q,fs,ep,hq,h2,h3,h4,_,h5⟩:=dd';refine yN (ob:=DyO Pm a (es++[(k,b,v)])) I (by rw[e];exact True.intro) hs ⟨q,hq⟩ (dy_ok ⟨by rw[hG,iY];omega,hd,X.prog,X.w,_,hw,Paired.snoc rel ⟨rfl,rfl,rv⟩,q,fs,ep,hq,h2,h3,h4,h5⟩)
end
def tYGet(K:W.Frag)(Pm:Params)(td ty:TE):TE:=fun σ H Q=>td σ H fun x H1=>ty σ H1 fun y H2=>∃a v,x=.ref a/\YGet K Pm H2 a y (some v)/\Q v H2
def tYNotIn(K:W.Frag)(Pm:Params)(ty td:TE):TE:=fun σ H Q=>ty σ H fun y H1=>td σ H1 fun x H2=>∃a o,x=.ref a/\YGet K Pm H2 a y o/\Q (.bl (!o.isSome)) H2
def sYPut(K:W.Frag)(Pm:Params)(td ty tv:TE):L2.TS:=fun D σ H=>tv σ H fun v H1=>td σ H1 fun x H2=>ty σ H2 fun y H3=>∃a H4,x=.ref a/\YPut K Pm H3 a y v H4/\D.nx σ H4
def tYNew(Pm:Params):TE:=fun _ H Q=>∀p,H p=none->Q (.ref p) (upd H p (DyO Pm p []))
section
variable{X:Cx}{K:W.Frag}{o i e value:Expr}{pos pos':Pos}{td ty tv:TE}{Pm:Params}
theorem y_dict{gE:List (Addr×Obj)}{σ:L3.St}{H:Hp}{s:Shared}{a:Addr}{es:YE}(I:L2.Inv X gE σ H s)(e:H a=some (DyO Pm a es)):s.TypeIs (.ref a) "dict" := by
 obtain⟨⟨_,_,_,_,_,_,_,o,_,_,h1,h2,_⟩,_⟩:=I.hok a _ e;exact⟨o,h1,h2.1⟩
theorem pe_yget(hK:X.K=K)(hw:X.w.params=Pm)(hu:X.A.units+4<cLine)(ho:PE X o td)(hi:PE X i ty)(hs:NoSl i):PE X (.Subscript o i pos) (tYGet K Pm td ty):=by
 subst hK;intro gE s σ H Q I h;refine subD_of PySem.F.slot_dict_getitem.lookup hs (thn (ho gE s σ H _ I h) fun u s1 ⟨x,H1,I1,rx,q1⟩=>thn (hi gE s1 σ H1 _ I1 q1) fun iv s2 ⟨y,H2,I2,ry,a,v,ex,g,q2⟩=>?_);subst ex;obtain rfl:u=Value.ref a:=rx;obtain⟨es,_,_,e,_⟩:=id g;exact⟨y_dict I2 e,y_getItem hw hu I2 g ry fun w' s3 I3 rw'=>⟨v,H2,I3,rw',q2⟩⟩
theorem pc_ynotin(hK:X.K=K)(hw:X.w.params=Pm)(hu:X.A.units+4<cLine)(hi:PE X i ty)(ho:PE X o td):PC X .NotIn i o (tYNotIn K Pm ty td):=by
 subst hK;intro gE s σ H Q I h;refine thn (hi gE s σ H _ I h) fun iv s1 ⟨y,H1,I1,ry,q1⟩=>thn (ho gE s1 σ H1 _ I1 q1) fun u s2 ⟨x,H2,I2,rx,a,ov,ex,g,q2⟩=>?_;subst ex;obtain rfl:u=Value.ref a:=rx;exact y_notIn hw hu I2 g ry fun s3 I3=>⟨.bl (!ov.isSome),H2,I3,rfl,q2⟩
theorem ps_yput(hK:X.K=K)(hw:X.w.params=Pm)(hu:X.A.units+4<cLine)(ho:PE X o td)(hi:PE X i ty)(hv:PE X value tv)(hs:swapsWith value (some (.Subscript o i pos')) pos.line X.env=pure false) :
  PS X (.Assign [.Subscript o i pos'] value pos) (sYPut K Pm td ty tv):=by
 subst hK;intro gE s σ H D I h;refine wpAny_Assign_Subscript (thn (hv gE s σ H _ I h) fun r s1 ⟨v,H1,I1,rv,q1⟩=>thn (ho gE s1 σ H1 _ I1 q1) fun u s2 ⟨x,H2,I2,rx,q2⟩=>thn (hi gE s2 σ H2 _ I2 q2) fun iv s3 ⟨y,H3,I3,ry,a,H4,ex,g,q3⟩=>?_) hs;subst ex;obtain rfl:u=Value.ref a:=rx;exact y_setItem hw hu I3 g ry rv fun s4 I4=>⟨σ,H4,I4,q3⟩
theorem pe_ynew(hw:X.w.params=Pm):PE X (.Dict [] [] pos) (tYNew Pm):=fun gE s σ H Q I h=>
 wpAny_Dict_empty ⟨.ref s.heap.objs.size,_,I.laid (a:=s.heap.objs.size) (o:=DyO Pm s.heap.objs.size []) (t':=s.toks) (fun _ _ q=>iu _ q) (gY _) (dy_ok ⟨iU _,ju.mpr (ie (iC (Inv.big I))),X.prog,X.w,[],hw,.nil,_,#[],0,iF _ rfl,⟨rfl,rfl,rfl⟩,rfl,rfl,List.nodup_nil⟩),rfl,h _ (I.hok.fresh (gY _))⟩
end
def VH:Lb->List Nat->RK
 |.many w,[]=>.inr w
 |c,is=>.inl (WG c is)
theorem Wn(c:Lb)(is:List Nat):(∃w,c=.many w/\is=[]/\VH c is=.inr w)\/(VH c is=.inl (WG c is)/\∀w,c=.many w->is≠[]):=by
 cases c with
 |many w=>
  cases is with
  |nil=>exact .inl ⟨w,rfl,rfl,rfl⟩
  |cons i r=>exact .inr ⟨rfl,fun _ _ z=>by cases z⟩
 |yes=>exact .inr ⟨rfl,fun _ z=>by cases z⟩
 |sign z=>exact .inr ⟨rfl,fun _ z=>by cases z⟩
 |wit m=>exact .inr ⟨rfl,fun _ z=>by cases z⟩
 |op w=>exact .inr ⟨rfl,fun _ z=>by cases z⟩
theorem rk_injO{c c':Lb}{is is':List Nat}(h1:Yh c is.length)(h2:Yh c' is'.length)(h:VH c is=VH c' is'):c=c'/\is=is':=by
 rcases Wn c is with⟨w,rfl,rfl,e⟩|⟨e,n⟩
 ·rcases Wn c' is' with⟨w',rfl,rfl,e'⟩|⟨e',n'⟩
  ·rw[e,e'] at h;rw[jz h];exact⟨rfl,rfl⟩
  ·rw[e,e'] at h;cases h
 ·rcases Wn c' is' with⟨w',rfl,rfl,e'⟩|⟨e',n'⟩
  ·rw[e,e'] at h;cases h
  ·rw[e,e'] at h;exact key_inj h1 h2 (jM h)
def XY(ps:List Tr)(t:Tr)(x:RK):Prop:=∃is:List Nat,is.length=t.ks.length/\(∀(j:Nat) k i,t.ks[j]?=some k->is[j]?=some i->ps[i]?=some k)/\x=VH t.lb is
theorem XY.more{ps:List Tr}{t x:Tr}{ks:RK}(h:XY ps t ks):XY (ps++[x]) t ks:=by
 obtain⟨is,h1,h2,h3⟩:=h;refine⟨is,h1,fun j k i e1 e2=>?_,h3⟩;have:=h2 j k i e1 e2;rw[iI (ib.mp this).1];exact this
theorem xO{ps:List Tr}{t s:Tr}{ks:RK}(o1:Yh t.lb t.ks.length)(o2:Yh s.lb s.ks.length)(h:XY ps t ks)(g:XY ps s ks):t=s:=by
 obtain⟨is,h1,h2,h3⟩:=h;obtain⟨js,g1,g2,g3⟩:=g;obtain⟨e1,e2⟩:=rk_injO (by rw[h1];exact o1) (by rw[g1];exact o2) (h3.symm.trans g3);subst e2;rw[Tr.eta t,Tr.eta s,e1]
 congr 1
 apply List.ext_getElem?;intro j;have hl:t.ks.length=s.ks.length:=h1.symm.trans g1
 by_cases hj:j<t.ks.length
 ·have hji:j<is.length:=by rw[h1];exact hj
  have a:=h2 j _ _ (gZ hj) (gZ hji);have b:=g2 j _ _ (gZ (by rw[<- hl];exact hj)) (gZ hji);rw[gZ hj,gZ (by rw[<- hl];exact hj)];exact a.symm.trans b
 ·rw[kP (by omega),kP (by omega)]
theorem row_funY{ps:List Tr}(nd:ps.Nodup){t:Tr}{ks js:RK}(h:XY ps t ks)(g:XY ps t js):ks=js:=by
 obtain⟨is,h1,h2,h3⟩:=h;obtain⟨is',g1,g2,g3⟩:=g;have e:is=is':=by
  apply List.ext_getElem?;intro j
  by_cases hj:j<t.ks.length
  ·rw[gZ (show j<is.length by omega),gZ (show j<is'.length by omega)]
   congr 1
   exact zL nd (h2 j _ _ (gZ hj) (gZ (by omega))) (g2 j _ _ (gZ hj) (gZ (by omega)))
  ·rw[kP (by omega),kP (by omega)]
 rw[h3,g3,e]
def numS:Nat->List RK->List (RK×V)
 |_,[]=>[]
 |n,k::r=>(k,.int (n:Int))::numS (n+1) r
theorem val_noY:∀{n:Nat}{l:List RK}{k:RK},k∉l->Ud (numS n l) k=none
 |n,[],k,_=>rfl
 |n,a::r,k,h=>by
  have ha:a≠k:=fun e=>h (by rw[e];simp);have ih:=val_noY (n:=n+1) (l:=r) (k:=k) fun z=>h (hU _ z);unfold Ud at ih ⊢;rw[numS,List.find?_cons_of_neg (by simpa using ha)];exact ih
theorem yH:∀{n:Nat}{l:List RK}{k:RK}{i:Nat},l.Nodup->l[i]?=some k->Ud (numS n l) k=some (.int ((n+i:Nat):Int))
 |n,[],k,i,_,h=>by simp at h
 |n,a::r,k,0,_,h=>by
  have e:a=k:=by simpa using h
  unfold Ud;rw[numS,List.find?_cons_of_pos (by simpa using e)];rfl
 |n,a::r,k,i+1,nd,h=>by
  have hm:r[i]?=some k:=by simpa using h
  have ha:a≠k:=fun e=>(jq.mp nd).1 (by rw[e];exact iO hm);have ih:=yH (n:=n+1) (l:=r) (k:=k) (jq.mp nd).2 hm;unfold Ud at ih ⊢;rw[numS,List.find?_cons_of_neg (by simpa using ha),show n+(i+1)=n+1+i by omega];exact ih
theorem vP{ps:List Tr}{rks:List RK}(nd:ps.Nodup)(hl:rks.length=ps.length)(ok:∀t∈ps,Yh t.lb t.ks.length)(hr:∀(i:Nat) t ks,ps[i]?=some t->rks[i]?=some ks->XY ps t ks) :
  rks.Nodup/\∀{t:Tr}{ks:RK},Yh t.lb t.ks.length->XY ps t ks->(∀i:Nat,ps[i]?=some t->rks[i]?=some ks)/\(t∉ps->ks∉rks):=by
 have same:∀(i j:Nat) ks,rks[i]?=some ks->rks[j]?=some ks->i=j:=fun i j ks h1 h2=>by
  have hi:=(ib.mp h1).1;have hj:=(ib.mp h2).1;have e1:ps[i]?=some ps[i]:=gZ (by omega);have e2:ps[j]?=some ps[j]:=gZ (by omega);have e:=xO (ok _ (jr _)) (ok _ (jr _)) (hr i _ _ e1 h1) (hr j _ _ e2 h2);rw[<- e] at e2;exact zL nd e1 e2
 refine⟨?_,fun {t ks} o1 h=>⟨fun i hi=>?_,fun hn hm=>?_⟩⟩
 ·rw[List.nodup_iff_pairwise_ne,List.pairwise_iff_getElem];intro i j hi hj hij e;have:=same i j rks[i] (gZ hi) (by rw[e];exact gZ hj);omega
 ·have hi2:=(ib.mp hi).1;have e1:rks[i]?=some rks[i]:=gZ (by omega);rw[row_funY nd h (hr i t _ hi e1)];exact e1
 ·obtain⟨i,hi,e⟩:=jd hm;have e1:ps[i]?=some ps[i]:=gZ (by omega);have:=xO o1 (ok _ (jr _)) h (hr i _ _ e1 (by rw[<- e];exact gZ hi));exact hn (by rw[this];exact jr _)
def Wu:Nat->List (RK×Addr)->YE
 |_,[]=>[]
 |n,e::r=>(e.1,e.2,.int (n:Int))::Wu (n+1) r
theorem xA:∀(n:Nat) (l:List (RK×Addr)),(Wu n l).length=l.length
 |_,[]=>rfl
 |n,k::r=>by rw[Wu,iA,xA,iA]
theorem zU:∀(n:Nat) (l:List (RK×Addr)) (e:RK×Addr),Wu n (l++[e])=Wu n l++[(e.1,e.2,.int ((n+l.length:Nat):Int))]
 |n,[],e=>rfl
 |n,a::r,e=>by rw[jI,Wu,zU (n+1) r e,Wu,iA,jI,show n+1+r.length=n+(r.length+1) by omega]
theorem numY_R:∀(n:Nat) (l:List (RK×Addr)),(Wu n l).map (fun e=>(e.1,e.2.2))=numS n (l.map (·.1))
 |_,[]=>rfl
 |n,e::r=>by rw[Wu,g9,numY_R,g9,numS]
theorem yL(rows:List (RK×Addr))(k:RK):valY (Wu 0 rows) k=Ud (numS 0 (rows.map (·.1))) k:=by unfold valY;rw[numY_R]
theorem zd:∀{n:Nat}{l:List (RK×Addr)}{e:RK×Addr×V},e∈Wu n l->(e.1,e.2.1)∈l
 |_,[],e,h=>by cases h
 |n,a::r,e,h=>by
  rw[Wu] at h;rcases ic.mp h with rfl|h
  ·simp
  ·exact hU _ (zd h)
structure TbY(K:W.Frag)(Pm:Params)(C:Addr)(H:Hp)(r P R D:Addr)(ps:List Tr):Prop where
 obj:∃dx,H r=some (.ins C dx [("parts",.ref P),("rows",.ref R),("numbers",.ref D)])
 pl:∃n pv,H P=some (.lst pv)/\AtL K n H pv ps
 rl:∃rows:List (RK×Addr),H R=some (.lst (rows.map fun e=>.ref e.2))/\rows.length=ps.length/\(∀e∈rows,Xm K H e.2 e.1)/\(∀(i:Nat) t e,ps[i]?=some t->rows[i]?=some e->XY ps t e.1)/\H D=some (DyO Pm D (Wu 0 rows))
 nd:ps.Nodup
 pr:P≠R
theorem YI.tY{P R D:Addr}{H H':Hp}{pv rv:List V}{Pm:Params}{es:YE}(s:YI P R D H H')(h1:H P=some (.lst pv))(h2:H R=some (.lst rv))(h3:H D=some (DyO Pm D es)):Yk H H':=fun K b xs h=>by
 have n:∀{o:HO},H b=some o->(∀ys,o≠.lst ys)->(∀φ,o≠.ext φ)->H' b=some o:=fun e q1 q2=>s _ _ (fun z=>by rw[z,h1] at e;cases e;exact q1 _ rfl) (fun z=>by rw[z,h2] at e;cases e;exact q1 _ rfl) (fun z=>by rw[z,h3] at e;cases e;exact q2 _ rfl) e;rcases h with(h|⟨o,h⟩)|h
 ·exact .inl (.inl (n h (fun _ z=>by cases z) (fun _ z=>by cases z)))
 ·exact .inl (.inr ⟨o,n h (fun _ z=>by cases z) (fun _ z=>by cases z)⟩)
 ·exact .inr h
variable{K:W.Frag}{Pm:Params}
theorem TbY.t{C:Addr}{H H':Hp}{r P R D:Addr}{ps:List Tr}(h:TbY K Pm C H r P R D ps)(s:YI P R D H H'):Yk H H':=by
 obtain⟨n,pv,h1,_⟩:=h.pl;obtain⟨rows,h2,_,_,_,h3⟩:=h.rl;exact s.tY h1 h2 h3
theorem TbY.mono{C:Addr}{H H':Hp}{r P R D:Addr}{ps:List Tr}(s:Za H H')(h:TbY K Pm C H r P R D ps):TbY K Pm C H' r P R D ps:=by
 obtain⟨⟨dx,h0⟩,⟨n,pv,h1,h2⟩,⟨rows,g1,g2,g3,g4,g5⟩,nd,pr⟩:=h;exact⟨⟨dx,s _ _ h0⟩,⟨n,pv,s _ _ h1,h2.mono (lg s)⟩,⟨rows,s _ _ g1,g2,fun e he=>(g3 e he).mono (lg s),g4,s _ _ g5⟩,nd,pr⟩
theorem TbY.monoX{C:Addr}{H H':Hp}{r P R D F:Addr}{ps:List Tr}{xs:List V}(s:Zx F H H')(hF:H F=some (.lst xs))(n1:P≠F)(n2:R≠F)(h:TbY K Pm C H r P R D ps):TbY K Pm C H' r P R D ps:=by
 obtain⟨⟨dx,h0⟩,⟨n,pv,h1,h2⟩,⟨rows,g1,g2,g3,g4,g5⟩,nd,pr⟩:=h;have u:Yk H H':=Zx.tup s hF;exact⟨⟨dx,s _ _ (YR h0 hF (by intro z;cases z)) h0⟩,⟨n,pv,s _ _ n1 h1,h2.mono u⟩,⟨rows,s _ _ n2 g1,g2,fun e he=>(g3 e he).mono u,g4,s _ _ (YR g5 hF (by intro z;cases z)) g5⟩,nd,pr⟩
end L3
namespace L3
open PySem L2
theorem YN.units4{k:Nat}{A:Around}(r:YN k A):A.units+4<cLine:=by have:=r.un;omega
end L3
namespace L3
open PySem PySem.Spec PyProof.Rows L2
theorem Zq{H:Hp}{a:Addr}{o:HO}(h:H a=none):∃H1,upd H a o=H1/\Za H H1/\H1 a=some o:=⟨_,rfl,Zl h,Zf⟩
def XT(h:Heap)(d:Addr)(es:Array DictEntry)(ep:Nat):Prop:=∃o,h.get? d=some o/\o.ExactDict/\o.data=.dict es ep
section
variable{prog:Program}{w:World}{A:Around}{E:Value->Shared->Prop}{s:Shared}{d it:Addr}{es:Array DictEntry}{ep i:Nat}
theorem XT.ty(m:XT s.heap d es ep):s.TypeIs (.ref d) "dict" := let ⟨o,h1,h2,_⟩:=m; ⟨o,h1,h2.1⟩
theorem XT.keep{h h':Heap}(m:XT h d es ep)(k:∀o,h.get? d=some o->h'.get? d=some o):XT h' d es ep:=let ⟨o,h1,r⟩:=m; ⟨o,k _ h1,r⟩
theorem XT.lt{h:Heap}(m:XT h d es ep):d<h.objs.size:=let ⟨_,h1,_⟩:=m;ii h1
theorem iter_rows{Q:Value->Shared->Prop}(hd:(d==sysModules)=false)(m:XT s.heap d es ep)
  (q:Q (.ref s.heap.objs.size) { s with heap:=s.heap.push { cls:=.type "dict_keyiterator",data:=.fields #[.ref d,.int 0 0,.int es.size 0,.int ep 0] } }) :
  wpAny (model prog w) A (pyIter (.ref d)) Q E s:=by
 obtain⟨o,ho,hc,hdat⟩:=id m;refine wpAny_pyIter_slot m.ty F.slot_dict_iter (kf F.slot_dict_iter m.ty F.entry_dict_iter ?_ (F.args_dict_iter_1 _));unfold Builtin.«dict.__iter__» Builtin.Dict.dictSlotNone Builtin.Dict.showsAll;refine gW (gW (wpAny_notOrdered_dict m.ty (gX ?_)));refine gW (m:=Builtin.Dict.addrOf _) (wpAny_of_eq (a:=d) rfl ?_);rw[if_neg (by rw[hd];exact iy)];refine gW (gX (gW (wpAny_dictEntries ho hdat (gW (wpAny_dictEpoch ho hdat ?_)))));exact gW (ja (gX ⟨_,rfl, "dict_keyiterator",_,⟨_,iF _ rfl,rfl⟩,la.lookup,by simpa[rawInt] using q⟩))
theorem z8{Q:Option Value->Shared->Prop}(hit:s.heap.IsKeyIter it d i es.size ep)(m:XT s.heap d es ep)
  (q1:∀hi:i<es.size,∀h',h'.IsKeyIter it d (i+1) es.size ep->Heap.SameBut it s.heap h'->Q (some es[i].key) { s with heap:=h' })
  (q2:es.size<=i->A.handled=none/\∀h',Heap.ExtBut it s.heap h'->Q none { s with heap:=h' }):wpAny (model prog w) A (pyNext (.ref it)) Q E s:=by
 have ty:=hit.typeIs;obtain⟨o,ho,hc,hd⟩:=id hit;obtain⟨od,hod,_,hdd⟩:=m;have nm:∀{A':Around}{Q':String->Shared->Prop} {E'},Q' "dict_keyiterator" s->wpAny (model prog w) A' (typeNameOfWhole (.ref it)) Q' E' s:=fun h=>wpAny_typeNameOfWhole_keyiter ty h;unfold pyNext;refine gW (wpAny_attempt (wpAny_callSpecial?_slot (name:=Str.ofString "__next__") ty la (kf la ty F.entry_dict_keyiterator_next ?_ (F.args_dict_keyiterator_next_1 _))));refine gW (gX (gW (gW (gW (nm (gX (gW (wpAny_fieldsOf ho hd ?_))))))));rw[show Builtin.Dict_items.ownsTuple "dict_keyiterator" = false by decide];simp only[jo,iR]
 change wpAny _ _ (if(Value.ref d==Value.none)=true then _ else _) _ _ s
 rw[if_neg (show ¬((Value.ref d==Value.none)=true) from nofun)];refine gW (gX (gW (wpAny_dictEntries hod hdd ?_)));rw[if_neg (by simp)];refine gW (gX (gW (wpAny_dictEpoch hod hdd ?_)));rw[if_neg (by simp)];refine gX ?_;have n0:¬((i:Int)<0):=by omega
 rcases Nat.lt_or_ge i es.size with hi|hi
 ·simp only[n0,iR,kF,Array.getElem?_eq_getElem hi];refine gW (gW (nm (gX (gW (wpAny_isOneOf_keyiter ty ?_)))));refine gW (m:=setField (.ref it) 1 (rawInt ((i:Int)+1))) (ko ho hd (by simp) ?_);have st:(s.heap.update it (Obj.mapFields (·.setIfInBounds 1 (rawInt ((i:Int)+1))))).IsKeyIter it d (i+1) es.size ep:=
   ⟨_,kr _ ho (Obj.isFreed_of_fields (kq hd _)),(Obj.cls_mapFields ..).trans hc,by rw[kq hd];simp[rawInt]⟩
  have q:=q1 hi _ st (Heap.SameBut.update ..);generalize s.heap.update it (Obj.mapFields (·.setIfInBounds 1 (rawInt ((i:Int)+1))))=h' at st q ⊢;exact gW (ji (gW (wpAny_isOneOf_keyiter (s:={ s with heap:=h' }) st.typeIs (gX (gX ⟨_,rfl,gX q⟩)))))
 ·obtain⟨hh,q⟩:=q2 hi;simp only[n0,iR,kF,Array.getElem?_eq_none hi];refine gW (gW (nm (gX ?_)));refine gW (m:=setField (.ref it) 0 .none) (ko ho hd (by simp) ?_);refine gW (m:=newExc (.type "StopIteration") []) ?_;simp only[newExc,newTuple];refine gW (ja (gW (m:=firstArgMember _ _) (wpAny_of_eq (a:=Value.none) rfl (ja ?_ (by size_fits)))) (by size_fits));unfold raiseNew;refine gW (wpAny_handled ?_);rw[show A.in1.handled=none from hh];refine gW (gX (wpAny_throw ?_));exact gW (wpAny_isInstance (T := "StopIteration") (b:=true) ⟨_,iF _ rfl,rfl⟩ isSubtype_stop (gX (q _ (((Heap.SameBut.update ..).extBut.push _).push _))))
theorem next_rows{Q:Option Value->Shared->Prop}(hit:s.heap.IsKeyIter it d i es.size ep)(m:XT s.heap d es ep)(hi:i<es.size)
  (q:∀h',h'.IsKeyIter it d (i+1) es.size ep->Heap.SameBut it s.heap h'->Q (some es[i].key) { s with heap:=h' }) :
  wpAny (model prog w) A (pyNext (.ref it)) Q E s:=z8 hit m (fun _=>q) fun h=>absurd hi (by omega)
theorem last_rows{Q:Option Value->Shared->Prop}(hh:A.handled=none)(hi:es.size<=i)(hit:s.heap.IsKeyIter it d i es.size ep)(m:XT s.heap d es ep)
  (q:∀h',Heap.ExtBut it s.heap h'->Q none { s with heap:=h' }):wpAny (model prog w) A (pyNext (.ref it)) Q E s:=z8 hit m (fun h=>absurd hi (by omega)) fun _=>⟨hh,q⟩
theorem vz(hh:A.handled=none)(I d:Addr)(hne:d≠I)(es:Array DictEntry)(ep:Nat) :
  Walks prog w A I [I,d] [I] es.size (fun i v=>∃e,es[i]?=some e/\v=e.key) (fun i h=>h.IsKeyIter I d i es.size ep/\XT h d es ep) where
 sub:=fun b hb=>by simp at hb;simp[hb]
 frame:=fun _ _ _ st hk=>⟨st.1.at fun o e=>hk I (by simp) o e,st.2.keep fun o e=>hk d (by simp) o e⟩
 item:=fun i s Q E hi st hQ=>next_rows st.1 st.2 hi fun h' hit' hs'=>
  hQ _ h' s.toks ⟨es[i],Array.getElem?_eq_getElem hi,rfl⟩ ⟨hit',st.2.keep fun o e=>hs'.extBut d o hne e⟩ fun b o hb e=>hs'.extBut b o (fun h=>hb (by simp[h])) e
 done:=fun s Q E st hQ=>last_rows hh (gY _) st.1 st.2 fun h' he'=>hQ h' s.toks fun b o hb e=>he' b o (fun h=>hb (by simp[h])) e
 self:=fun _ _ _ _ st hQ=>wpAny_pyIter_keyiter st.1 hQ
theorem src_rows(lo:(d==sysModules)=false):W.KdlSrc prog w "dict" d d es.size (fun i v=>∃e,es[i]?=some e/\v=e.key) (fun h=>XT h d es ep) where
 type:=fun _ m=>m.ty
 there:=fun _ m=>⟨m.lt,m.lt⟩
 keep:=fun _ _ m hk=>m.keep fun o e=>hk d (.inl rfl) o e
 notList:=by decide
 notTuple:=by decide
 hint:=fun _ _ _ _ m hq=>W.kdl_hint_dict m.ty hq
 iter:=fun _ _ hh m=>⟨_,_,(fun _ _ hq=>iter_rows lo m hq),vz hh _ d (iC m.lt) es ep,⟨⟨_,iF _ rfl,rfl,rfl⟩,m.keep fun _ e=>iu _ e⟩⟩
end
theorem rows_eq{fs:Array DictEntry}{acc:Array Value}{ys:List Value}(e:fs.toList.map (·.key)=ys)(h:ItemsOf (fun i v=>∃e,fs[i]?=some e/\v=e.key) acc fs.size):acc.toList=ys:=by
 subst e;refine List.ext_getElem? fun j=>?_;rw[iJ,kh,kh];cases c:acc[j]? with
 |none=>
  have:acc.size<=j:=by simpa using c
  rw[Array.getElem?_eq_none (by have:=h.1;omega)];rfl
 |some v=>
  obtain⟨e,he,rfl⟩:=h.2 j v c;rw[he];rfl
abbrev TEm:=St->Hp->(St->Hp->Prop)->Prop
def PEm(X:Cx)(em:Sem Unit)(t:TEm):Prop:=
 ∀(gE:List (Addr×Obj)) (s:Shared) (σ:St) (H:Hp) (Q:St->Hp->Prop),L2.Inv X gE σ H s->t σ H Q->wpAny (model X.prog X.w) X.A em (fun _ s'=>∃σ' H',L2.Inv X gE σ' H' s'/\Q σ' H') X.xe s
def LoopW(J:It)(g:TG)(tt:TT)(em:TEm)(σ0:St)(H1:Hp)(Q:St->Hp->Prop):Prop:=
 ∃W:Nat->Nat->St->Hp->Prop,(∃m,W 0 m σ0 H1)/\∀i m σ' H',W i m σ' H'->(J.stop i H'/\Q σ' H') \/
  (J.go i H'/\∃N:St->Hp->Prop,(∀σ2 H5,N σ2 H5->∃m',m'<m/\W (i+1) m' σ2 H5)/\∀x H2,J.yld i H' x H2->g x σ' H2 fun σ2 H3=>tt σ2 H3 fun c H4=>if c=true then em σ2 H4 N else N σ2 H4)
def turnOf(p:Pos)(tg:Expr)(ifs:List Expr)(it:Value)(env:Env)(body:Sem Unit)(c:Code):Sem Fin:=do
 standAt p
 match <- pyNext it with
 |none=>pure (.done .next)
 |some v=>
  letOwnedTupleGo tg it v
  assign tg env v
  let mut ok:=true
  for c in ifs do
   if ok then ok <- isTrue c env (eval c env)
  if ok then body
  again c
theorem den_loop{prog:Program}{w:World}{e:Expr}{d:Nat}{it acc:Value}{env:Env}(h:(Code.compLoop e d it acc env).isFrame=false) :
  (model prog w).den (.compLoop e d it acc env)=(compTurn e d it acc env).onRaise (fun x=>do noteFrame x env;theTreesLotGoes x):=by
 show(if(Code.compLoop e d it acc env).isFrame then(compTurn e d it acc env).onRaise (leaving env) else(compTurn e d it acc env).onRaise (fun x=>do noteFrame x env;theTreesLotGoes x))=_
 rw[h];rfl
theorem den_start{prog:Program}{w:World}{e:Expr}{d:Nat}{it acc:Value}{env:Env}(h:(Code.compStart e d it acc env).isFrame=false) :
  (model prog w).den (.compStart e d it acc env)=(compStart e d it acc env).onRaise (fun x=>do noteFrame x env;standAt theWindowsPlace):=by
 show(if(Code.compStart e d it acc env).isFrame then(compStart e d it acc env).onRaise (leaving env) else(compStart e d it acc env).onRaise (fun x=>do noteFrame x env;standAt theWindowsPlace))=_
 rw[h];rfl
theorem start_any{prog:Program}{w:World}{A:Around}{R:Result->Shared->Prop}{s:Shared}{e tg iter:Expr}{ifs:List Expr}{d:Nat}{it acc:Value}{env:Env}(cl:(clausesOf e)[d]?=some ⟨tg,iter,ifs,0⟩)(hf:(Code.compStart e d it acc env).isFrame=false)
  (h0:codeAny (model prog w) A (.compLoop e d it acc env) R s)
  (h:wpAny (model prog w) A (pyIter it) (fun it' s'=>codeAny (model prog w) A (.compLoop e d it' acc env) R s') (fun _ _=>False) s) (hu:A.under (.compStart e d it acc env)=A:=by rfl) (hq:∀it',(Code.compLoop e d it' acc env).quiet=true:=by intro _;rfl) :
  codeAny (model prog w) A (.compStart e d it acc env) R s:=by
 refine codeAny_of_tree ?_;rw[den_start hf,hu];refine wpAny_notedAt ?_;unfold compStart;rw[cl]
 show wpAny _ A (ask >>= _) _ _ s
 refine gW (wpAny_askSetting (wpAny_ite ?_))
 split
 ·first
   |exact gW (gX (gX (And.intro (hq _) h0)))
   |exact gX (And.intro (hq _) h0)
 ·first
   |exact gW (wpAny_rule (gW (jX (gW (thnF h fun it' s' h'=>gX (And.intro (hq _) h'))))))
   | (refine gW (wpAny_rule ?_);show wpAny _ _ (standAt iter.pos >>= _) _ _ s;exact gW (jX (gW (thnF h fun it' s' h'=>gX (And.intro (hq _) h')))))
section
variable{Y:Cx}{gE:List (Addr×Obj)}{σ0:St}{H1:Hp}{s:Shared}{J:It}{fp:List Addr}{it:Addr}{tn:Nat->Heap->Prop}{tg:Expr}{ifs:List Expr}{g:TG}{tt:TT}{em:TEm}{p:Pos}{body:Sem Unit}{e:Expr}{d:Nat}{acc:Value}{Q:St->Hp->Prop}{R:Result->Shared->Prop}
theorem loop_em(hf:(Code.compLoop e d (.ref it) acc Y.env).isFrame=false)(ht:compTurn e d (.ref it) acc Y.env=turnOf p tg ifs (.ref it) Y.env body (.compLoop e d (.ref it) acc Y.env))
  (T:Turn Y.prog Y.w Y.K tg J fp it tn) (I:L2.Inv Y gE σ0 H1 s) (st:tn 0 s.heap) (hfp:∀b∈fp,VY Y gE H1 b) (hc:Y.calm=true) (hx:Y.xe=fun _ _=>False)
  (hg:PG Y tg g) (hT:PTs Y ifs tt) (he:PEm Y body em) (h:LoopW J g tt em σ0 H1 Q) (hR:∀σ' H' s',L2.Inv Y gE σ' H' s'->Q σ' H'->R (.ok .next) s')
  (hu:Y.A.under (.compLoop e d (.ref it) acc Y.env)=Y.A:=by rfl) (hq:(Code.compLoop e d (.ref it) acc Y.env).quiet=true:=by rfl) :
  codeAny (model Y.prog Y.w) Y.A (.compLoop e d (.ref it) acc Y.env) R s:=by
 obtain⟨W,⟨m0,w0⟩,turn⟩:=h;have stat:∀{H':Hp},(∀b∈fp,H' b=none)->∀b∈fp,VY Y gE H' b:=fun {H'} hn b hb=>by
  obtain⟨f0,fr⟩:=hfp b hb;exact⟨hn b hb,fr⟩
 unfold PG at hg;unfold PTs at hT;unfold PEm at he;rw[hx] at hg hT he;refine codeAny_loop hq (fun n s'=>∃i σ' H',L2.Inv Y gE σ' H' s'/\tn i s'.heap/\(∀b∈fp,H' b=none)/\W i n σ' H') ?_ m0 ⟨0,σ0,H1,I,st,fun b hb=>(hfp b hb).1,w0⟩;rintro n s5 ⟨i,σ5,H5,I5,st5,fr5,w5⟩;rw[den_loop hf,hu,ht];refine wpAny_noted ?_;unfold turnOf;have TI:=T.item Y rfl rfl rfl hc i gE s5 σ5 H5 (fun _ _=>False) I5 (stat fr5) st5;have TD:=T.done Y rfl rfl rfl hc i gE s5 σ5 H5 (fun _ _=>False) I5 (stat fr5) st5;rcases turn i n σ5 H5 w5 with⟨stop,qn⟩|⟨go,N,hN,step⟩
 ·refine gW (jX (gW (thnF (TD stop) fun r s6 ⟨hr,I6⟩=>?_)));subst hr;exact gX (hR _ _ _ I6 qn)
 ·refine gW (jX (gW (thnF (TI go) fun r s6 ⟨u,hr,h6⟩=>?_)));subst hr;refine gW (thnF h6 fun _ s7 ⟨x,H7,I7,r7,y7,st7,fr7⟩=>?_);have I7':=I7.pinned (stat fr7) (T.obj _ _ st7);refine gW (thnF (hg _ s7 σ5 H7 x u _ I7' r7 (step x H7 y7)) fun _ s8 ⟨σ8,H8,I8,q8⟩=>?_);refine gW (thnF (hT _ s8 σ8 H8 _ I8 q8) fun c s9 ⟨H9,I9,q9⟩=>?_);have back:∀{σa:St}{Ha:Hp}{sa:Shared},L2.Inv Y (gE++qU fp s7.heap) σa Ha sa->(∃m',m'<n/\W (i+1) m' σa Ha)->∃m,m<n/\∃i σ' H',L2.Inv Y gE σ' H' sa/\tn i sa.heap/\(∀b∈fp,H' b=none)/\W i m σ' H':=fun {σa Ha sa} Ia ⟨m',hm,wa⟩=>by
   refine⟨m',hm,i+1,σa,Ha,Ia.unpinned,T.keep _ _ _ st7 fun b hb o e=>(Ia.pin (b,o) (iE _ (iE _ (Vb hb e)))).1,fun b hb=>?_,wa⟩;obtain⟨o,e,d⟩:=T.obj _ _ st7 b hb;exact(Ia.pin (b,o) (iE _ (iE _ (Vb hb e)))).2.1
  cases c with
  |false=>exact gX ⟨rfl,back I9 (hN _ _ (by simpa using q9))⟩
  |true=>
   rw[if_pos rfl] at q9;exact gW (thnF (he _ s9 σ8 H9 _ I9 q9) fun _ s10 ⟨σ10,H10,I10,q10⟩=>gX ⟨rfl,back I10 (hN _ _ q10)⟩)
end
def tCompE(wi:TI)(ix:List (Option Nat))(o0:Addr->HO)(g:TG)(tt:TT)(em:Addr->TEm):TE:=fun σ H Q=>wi σ H fun J H1=>∀D,H1 D=none->LoopW J g tt (em D) (sub ix σ) (upd H1 D (o0 D)) (fun _ H'=>Q (.ref D) H')
section
variable{X:Cx}{gE:List (Addr×Obj)}{σ:St}{H:Hp}{s:Shared}{Nc:List Str}{ix:List (Option Nat)}{scope:Scope}
theorem zJ{e tg iter:Expr}{ifs:List Expr}{Wv:List Comprehension}{pos2:Pos}{nA:Sem Value}{ob:Obj}{o0:Addr->HO}{bd:Addr->Env->Sem Unit}{wi:TI}{g:TG}{tt:TT}{em:Addr->TEm}{use:Option (Value->Sem Unit)}{QV:Value->Shared->Prop}{Q:VK}
  (I:L2.Inv X gE σ H s) (h:tCompE wi ix o0 g tt em σ H Q)
  (fin:∀(D C:Addr) (H':Hp) (s':Shared) (m:Str->Option Value),L2.Inv X gE σ H' s'->VY X gE H' C->s'.heap.Ns C m->Q (.ref D) H'->compPost (model X.prog X.w) X.A X.xe use QV (.ref D) C (.ok .next) s')
  (hcl:clausesOf e=⟨tg,iter,ifs,0⟩::Wv) (hfr:∀it acc env,(Code.compLoop e 0 it acc env).isFrame=false/\(Code.compStart e 0 it acc env).isFrame=false)
  (htn:∀it D env,compTurn e 0 it (.ref D) env=turnOf iter.pos tg ifs it env (bd D env) (.compLoop e 0 it (.ref D) env))
  (hun:∀(A:Around) it acc env,A.under (.compLoop e 0 it acc env)=A/\A.under (.compStart e 0 it acc env)=A) (hqt:∀it acc env,(Code.compLoop e 0 it acc env).quiet=true)
  (hnA:∀(A:Around) (E:Value->Shared->Prop) (Q:Value->Shared->Prop) (s:Shared),Q (.ref s.heap.objs.size) { s with heap:=s.heap.push ob }->wpAny (model X.prog X.w) A nA Q E s)
  (hpl:∀s2:Shared,∀H1,L2.Inv X gE σ H1 s2->L2.Inv X gE σ (upd H1 s2.heap.objs.size (o0 s2.heap.objs.size)) { s2 with heap:=s2.heap.push ob })
  (ok:YJ X.env.scope X.N Nc ix scope) (hc:X.calm=true) (hi:PI X tg iter wi)
  (hg:∀cl C s H fp,PG (YC X Nc scope cl C s H fp) tg g) (ht:∀cl C s H fp,PTs (YC X Nc scope cl C s H fp) ifs tt) (he:∀cl C s H fp D,PEm (YC X Nc scope cl C s H fp) (bd D (compEnvC scope cl C X.env)) (em D))
  (hs:∀x,foldedSetIterable iter X.env x=pure x:=by intro _;rfl):wpAny (model X.prog X.w) X.A (comprehension e scope X.env pos2 nA false (eval iter X.env) use) QV X.xe s:=by
 refine wpAny_comprehension_free (use:=use) (cl:=XM scope X.env) hcl hs (clos_eq (UV I ok)) ok.kind ok.names (thn (hi gE s σ H _ I h) fun v s1 q1=>thn q1 fun itv s2 q2=>?_);obtain⟨it,fp,tn,J,H1,e1,I2,T,st2,f2,q⟩:=q2;subst e1;have hD:H1 s2.heap.objs.size=none:=I2.hok.fresh (gY _);have lw:=q _ hD;refine hnA _ _ _ _ ?_;have I3:=hpl s2 H1 I2;have hob2:=T.obj 0 _ st2;have f3:∀b∈fp,VY X gE (upd H1 s2.heap.objs.size (o0 s2.heap.objs.size)) b:=fun b hb=>by
  obtain⟨o,e,_⟩:=hob2 b hb;obtain⟨f0,fr⟩:=f2 b hb;exact⟨by rw[ZS (iC (ii e))];exact f0,fr⟩
 have st3:tn 0 (s2.heap.push ob):=T.keep 0 _ _ st2 fun b _ o e=>iu _ e;generalize hs3:({ s2 with heap:=s2.heap.push ob }:Shared)=s3 at I3 ⊢;have st3':tn 0 s3.heap:=by rw[<- hs3];exact st3
 refine wpAny_newFunctionEnv ok.nocell (by intro y hy;simp at hy) (fun h1 hns hsb=>?_) ok.kind;have k1:∀b o,s3.heap.get? b=some o->h1.get? b=some o:=fun b o e=>(hsb.2 b (iC (ii e))).trans (iu _ e);have hob3:∀b∈fp,∃o,s3.heap.get? b=some o:=fun b hb=>let ⟨o,e,_⟩:=T.obj 0 _ st3' b hb; ⟨o,e⟩
 have I4:L2.Inv (YC X Nc scope (XM scope X.env) s3.heap.objs.size s3 (upd H1 s2.heap.objs.size (o0 s2.heap.objs.size)) fp) gE (sub ix σ) (upd H1 s2.heap.objs.size (o0 s2.heap.objs.size)) { s3 with heap:=h1,toks:=s3.toks+([]:List (Str×Value)).length }:=
  vp I3 ok f3 hob3 hns k1
 have st4:tn 0 h1:=T.keep 0 _ _ st3' fun b _ o e=>k1 b o e;have hC:s3.heap.get? s3.heap.objs.size=none:=Heap.get?_none_of_le (gY _);have f4:∀b∈fp,VY (YC X Nc scope (XM scope X.env) s3.heap.objs.size s3 (upd H1 s2.heap.objs.size (o0 s2.heap.objs.size)) fp) gE (upd H1 s2.heap.objs.size (o0 s2.heap.objs.size)) b:=fun b hb=>by
  obtain⟨o,e⟩:=hob3 b hb;obtain⟨f0,f1,ff,f3',f4,f5⟩:=f3 b hb;have nst:b∉frs X.stack:=fun z=>by
   rcases ic.mp (I3.stkSub b z) with z|z
   ·exact f1 z
   ·exact ff z
  exact⟨f0,iC (ii e),nst,.inl hb,fun x c q=>f4 x c (XW (UV I3 ok) q),f5⟩
 have loop:=loop_em (Y:=YC X Nc scope (XM scope X.env) s3.heap.objs.size s3 (upd H1 s2.heap.objs.size (o0 s2.heap.objs.size)) fp) (e:=e) (d:=0) (acc:=.ref s2.heap.objs.size) (p:=iter.pos) (R:=compPost (model X.prog X.w) X.A X.xe use QV (.ref s2.heap.objs.size) s3.heap.objs.size)
  (hfr _ _ _).1 (htn _ _ _) T I4 st4 f4 hc rfl (hg _ _ _ _ _) (ht _ _ _ _ _) (he _ _ _ _ _ _) lw (fun σ' H' s' J' qq=>by
   obtain⟨m',hn',_⟩:=id J'.loc;have hCn:H' s3.heap.objs.size=none:=J'.free;exact fin _ _ H' s' m' (comp_end (h':=s'.heap) I3 f3 hC J' (.refl ..)) (I3.fpOk (gY _) hCn) hn' qq) (hun _ _ _ _).1 (hqt _ _ _)
 exact start_any (by rw[hcl];rfl) (hfr _ _ _).2 loop (T.self X.A 0 _ _ _ st4 loop) (hun _ _ _ _).2 (fun _=>hqt _ _ _)
end
theorem xk{J:It}{n:Nat}{g:TG}{tt:TT}{em:TEm}{σ0:St}{H0:Hp}{Q:St->Hp->Prop}(Pv:Nat->St->Hp->Prop)(h0:Pv 0 σ0 H0)
  (hgo:∀i σ H,i<n->Pv i σ H->J.go i H) (hst:∀σ H,Pv n σ H->J.stop n H)
  (hs:∀i x σ H H2,i<n->Pv i σ H->J.yld i H x H2->∀(N:St->Hp->Prop),(∀σ2 H4,Pv (i+1) σ2 H4->N σ2 H4) ->
   g x σ H2 fun σ2 H3=>tt σ2 H3 fun c H4=>if c=true then em σ2 H4 N else N σ2 H4)
  (hd:∀σ H,Pv n σ H->Q σ H):LoopW J g tt em σ0 H0 Q:=by
 refine⟨fun i m σ H=>m=n-i/\i<=n/\Pv i σ H,⟨n,by simp,iU _,h0⟩,?_⟩;rintro i m σ H ⟨rfl,hi,p⟩
 by_cases hlt:i<n
 ·refine .inr ⟨hgo i σ H hlt p,fun σ2 H4=>Pv (i+1) σ2 H4,fun σ2 H4 q=>⟨n-(i+1),by omega,rfl,hlt,q⟩,fun x H2 y=>hs i x σ H H2 hlt p y _ fun σ2 H4 q=>q⟩
 ·have:i=n:=by omega
  subst this;exact .inl ⟨hst σ H p,hd σ H p⟩
def emL(te:TE)(D:Addr):TEm:=fun σ H Q=>te σ H fun v H5=>∃xs,H5 D=some (.lst xs)/\xs.length<sizeLine/\Q σ (upd H5 D (.lst (xs++[v])))
theorem pem_list{Y:Cx}{elt:Expr}{te:TE}{D:Addr}(h:PE Y elt te):PEm Y (do let _ <- call (.builtin "list.append") [.ref D,<- eval elt Y.env]) (emL te D):=by
 intro gE s σ H Q I q;refine gW (thn (h gE s σ H _ I q) fun z s1 ⟨v,H1,I1,r1,xs,hx,hz,q1⟩=>?_);have ap:=Yv (X:=Y) gE s1 σ H1 (.ref D) [v] (.ref D) [z] (fun _ Hb=>Q σ Hb) I1 rfl (.cons r1 .nil) ⟨_,xs,v,rfl,rfl,hx,hz,q1⟩;exact gW (thn ap fun _ s11 ⟨_,H11,I11,_,q11⟩=>gX ⟨σ,H11,I11,q11⟩)
def emD(tk tv:TE)(D:Addr):TEm:=fun σ H Q=>tk σ H fun y H5=>tv σ H5 fun v H6=>∃H7,DPut H6 D y v H7/\Q σ H7
section
variable{X:Cx}{gE:List (Addr×Obj)}{σ:L2.St}{H:Hp}{s:Shared}{a:Addr}{y v:V}{u r:Value}{A:Around}{E:Value->Shared->Prop}
theorem d_put{H':Hp}{Q:Unit->Shared->Prop}(hu:A.units<cLine)(I:L2.Inv X gE σ H s)(g:DPut H a y v H')(ry:ZU y u)(rv:ZU v r)(h:∀s',L2.Inv X gE σ H' s'->Q () s') :
  wpAny (model X.prog X.w) A (dictSet a u r) Q E s:=by
 rcases g with⟨kvs,k,e,ey,l,eH⟩|⟨kvs,k,b,e,ey,eb,l,eH⟩
 ·subst ey eH;obtain⟨z,hd,vs,rel,dd⟩:=dk_of I.hok e;have hz:vs.length<=sizeLine:=by rw[<- rel.length];exact z
  have hl:(UG kvs k v).length<=sizeLine:=by have:=U4 kvs k v;omega
  refine wpAny_dictSet_pairs (hsz:=hz) (kV_is ry) dd fun h' dd' hs=>h _ ?_;have he:∃q,h'.get? a=some q:=let ⟨q,_,_,hq,_⟩:=dd'; ⟨q,hq⟩
  exact yN I (by rw[e];exact True.intro) hs he (dk_new hl hd (rel.put k rv) dd')
 ·subst ey eH;cases (show u=Value.ref b from ry);obtain⟨z,hd,xs,rel,dd⟩:=dt_of I.hok e;have hz:xs.length<=sizeLine:=by rw[<- j9 rel];exact z
  have hl:(UG kvs k v).length<=sizeLine:=by have:=U4 kvs k v;omega
  refine wpAny_dictSet_heap (hsz:=hz) hu (key_of I.hok eb) dd fun h' dd' hs=>h _ ?_;obtain⟨q,es,ep,hq,h2,h3,h4,_,h5⟩:=dd';refine yN I (by rw[e];exact True.intro) hs ⟨q,hq⟩ ⟨hl,hd,_,(rel.put k eb rv).keeps fun c ys ec=>?_,q,es,ep,hq,h2,h3,h4,h5⟩;rw[ZS (YR ec e (fun z=>nomatch z))];exact ec
end
theorem pem_dict{Y:Cx}{kx vx:Expr}{tk tv:TE}{D:Addr}(hu:Y.A.units<cLine)(hk:PE Y kx tk)(hv:PE Y vx tv):PEm Y (do
   let kv <- eval kx Y.env
   let vv <- holding [kv] (eval vx Y.env)
   standAt { kx.pos with endLine:=vx.pos.endLine,endCol:=vx.pos.endCol }
   holding [kv,vv] (dictSet D kv vv)) (emD tk tv D):=by
 intro gE s σ H Q I q;refine gW (thn (hk gE s σ H _ I q) fun z s1 ⟨y,H1,I1,r1,q1⟩=>?_);refine gW (ji (thn (hv gE s1 σ H1 _ I1 q1) fun z2 s2 ⟨v,H2,I2,r2,H3,hp,q2⟩=>?_));exact gW (jX (ji (d_put hu I2 hp r1 r2 fun s' I'=>⟨σ,H3,I',q2⟩)))
inductive xF(xs:List V)(H:Hp)(Q:VK):Prop
 |mk (a:Addr) (kvs:List (Key×V)) (h0:xs=[.ref a]) (h1:H a=some (.dK kvs)) (h2:∀l,H l=none->Q (.ref l) (upd H l (.lst (kvs.map fun p=>kV p.1)))):xF xs H Q
def rListK:List V->Hp->VK->Prop:=fun xs H Q=>xF xs H Q
theorem KV.keyV{P:Program}{w:World}{kvs:List (Key×V)}{vs:List (Key×Value)}{us:List Value}(r:KV kvs vs)(h:us.length=vs.length)(e:∀(i:Nat) u p,us[i]?=some u->vs[i]?=some p->(ZW P w).is p.1 u=true):ZN (kvs.map fun p=>kV p.1) us:=by
 have r':Paired (fun(p:Key×V) (q:Key×Value)=>p.1=q.1/\ZU p.2 q.2) kvs vs:=r;clear r
 induction r' generalizing us with
 |nil=>
  cases us with
  |nil=>exact .nil
  |cons u r=>simp at h
 |@cons p q l1 l2 hpq _ ih=>
  cases us with
  |nil=>simp at h
  |cons u r=>
   refine .cons ?_ (ih (by simpa using h) fun i u p a b=>e (i+1) u p (by simpa using a) (by simpa using b));have:=e 0 u q rfl rfl;rw[<- hpq.1] at this;have q2:VI p.1 u=true:=this;rcases Yb q2 with⟨i,t',e1,e2⟩|⟨z,t',e1,e2⟩
   ·show ZU (kV p.1) u
    rw[e1,e2];exact⟨t',rfl⟩
   ·show ZU (kV p.1) u
    rw[e1,e2];exact⟨t',rfl⟩
theorem xB{X:Cx}(hc:X.calm=true):YS X (.type "list") rListK:=by
 intro gE s σ H xs us Q I r h;obtain⟨a,kvs,rfl,g,q⟩:=h;obtain⟨u,rfl,ru⟩:=WN r;obtain rfl:u=Value.ref a:=ru;obtain⟨z,y,vs,rel,o,es,ep,h1,h2,h3,h4,h5,h6⟩:=dk_of I.hok g;have e1:=h5.length;rw[jO] at e1;have e2:=rel.length;refine W.kdl_call (src_rows (ep:=ep) (es:=es) y) (I.ok.hd hc) ⟨o,h1,h2,h3⟩ (by omega) fun h' tk acc c hk hg hacc=>?_;refine⟨.ref s.heap.objs.size,_,I.laid (o:=.lst (kvs.map fun p=>kV p.1)) (t':=tk) hk (gY _) ⟨by rw[hJ];exact z,acc.toList,c,?_,by simpa using hg⟩,rfl,q _ (I.hok.fresh (gY _))⟩;rw[rows_eq rfl hacc];refine KV.keyV (P:=X.prog) (w:=X.w) rel (by rw[hJ,jO];exact e1) fun i u p a b=>?_;rw[iJ] at a;obtain⟨e,ea,rfl⟩:=kO.mp a;exact(h5.get? ea b).1
section
variable{X:Cx}{gE:List (Addr×Obj)}{σ:St}{H:Hp}{s:Shared}{Nc:List Str}{ix:List (Option Nat)}{scope:Scope}
theorem laid_list{s2:Shared}{H1:Hp}(I2:L2.Inv X gE σ H1 s2):L2.Inv X gE σ (upd H1 s2.heap.objs.size (.lst [])) { s2 with heap:=s2.heap.push { cls:=.type "list",data:=.seq ([]:List Value).toArray } }:=
 I2.laid (t':=s2.toks) (fun b u e=>iu _ e) (gY _) ⟨iU _,[],0,.nil,iF _ rfl⟩
theorem vU{i:Nat}{x:Str}{pos':Pos}{D:Ends}{L C:Addr}{H':Hp}{s':Shared}{m:Str->Option Value}(hN:X.N.Nodup)(hi:X.N[i]?=some x)(hx:X.env.kindOf x=some .local)(I':L2.Inv X gE σ H' s')(f:VY X gE H' C)(hn:s'.heap.Ns C m)(qq:D.nx (σ.set i (some (.ref L))) H') :
  compPost (model X.prog X.w) X.A X.xe (some (assign (.Name x pos') X.env)) (fun _ s'=>SP X gE D .next s') (.ref L) C (.ok .next) s':=by
 obtain⟨f0,f1,f2,f3,f4,f5⟩:=f;refine wpAny_assign_Name (yi (v:=.ref L) I' hN hi (.inl hx) rfl (fun s2 I2 ⟨a,sb,ha⟩=>?_) (.inr hx));have hCa:C≠a:=by
  rintro rfl;rcases ha with z|z
  ·exact f1 z
  ·exact f4 _ _ z rfl
 exact⟨m,hn.sameBut sb hCa,fun h' sb'=>⟨_,H',I2.turned (t':=s2.toks) (fun b o hb e=>(sb'.2 b hb).trans e) f0 f1 f3 f4 f5,qq⟩⟩
theorem pe_dcompE{kx vx tg iter:Expr}{ifs:List Expr}{pos:Pos}{wi:TI}{g:TG}{tt:TT}{tk tv:TE}{o0:HO}(h0:o0=.dK []\/o0=.dT [])(ok:YJ X.env.scope X.N Nc ix scope)(hu:X.A.units<cLine)(hc:X.calm=true)(hi:PI X tg iter wi)
  (hg:∀cl C s H fp,PG (YC X Nc scope cl C s H fp) tg g) (ht:∀cl C s H fp,PTs (YC X Nc scope cl C s H fp) ifs tt)
  (hk:∀cl C s H fp,PE (YC X Nc scope cl C s H fp) kx tk) (hv:∀cl C s H fp,PE (YC X Nc scope cl C s H fp) vx tv)
  (hs:∀x,foldedSetIterable iter X.env x=pure x:=by intro _;rfl):PE X (.DictComp kx vx [⟨tg,iter,ifs,0⟩] scope pos) (tCompE wi ix (fun _=>o0) g tt (fun D=>emD tk tv D)):=by
 intro gE s σ H Q I h;rw[arm_eval_DictComp];refine zJ (e:=.DictComp kx vx [⟨tg,iter,ifs,0⟩] scope pos) (use:=none) (QV:=EP X gE σ Q) (ob:={ cls:=.type "dict",data:=.dict #[] }) (bd:=fun D env=>do
   let kv <- eval kx env
   let vv <- holding [kv] (eval vx env)
   standAt { kx.pos with endLine:=vx.pos.endLine,endCol:=vx.pos.endCol }
   holding [kv,vv] (dictSet D kv vv)) I h (fun D C H' s' m I' f hn qq=>?_) rfl (fun _ _ _=>⟨rfl,rfl⟩) (fun _ _ _=>rfl) (fun _ _ _ _=>⟨rfl,rfl⟩) (fun _ _ _=>rfl)
  (fun _ _ _ _ q=>ja q) (fun s2 H1 I2=>?_) ok hc hi hg ht (fun cl C s H fp D=>pem_dict (Y:=YC X Nc scope cl C s H fp) hu (hk cl C s H fp) (hv cl C s H fp)) hs
 ·obtain⟨f0,f1,f2,f3,f4,f5⟩:=f;exact⟨m,hn,fun h' sb=>⟨.ref D,H',I'.turned (t':=s'.toks) (fun b o hb e=>(sb.2 b hb).trans e) f0 f1 f3 f4 f5,rfl,qq⟩⟩
 ·rcases h0 with rfl|rfl
  ·exact I2.laid (t':=s2.toks) (fun b u e=>iu _ e) (gY _) (xt s2.heap I2.big)
  ·exact I2.laid (t':=s2.toks) (fun b u e=>iu _ e) (gY _) (dt_empty s2.heap I2.big)
end
def qZ(J:It)(D:Addr)(g:TG)(tt:TT)(te:TE)(σ0:St)(H1:Hp)(Q:VK):Prop:=LoopW J g tt (emL te D) σ0 (upd H1 D (.lst [])) (fun _ H'=>Q (.ref D) H')
def yp(wi:TI)(ix:List (Option Nat))(g:TG)(tt:TT)(te:TE):TE:=fun σ H Q=>wi σ H fun J H1=>∀D,H1 D=none->qZ J D g tt te (sub ix σ) H1 Q
section
variable{X:Cx}{gE:List (Addr×Obj)}{σ:St}{H:Hp}{s:Shared}{Nc:List Str}{ix:List (Option Nat)}{scope:Scope}
theorem yd{elt tg iter:Expr}{ifs:List Expr}{pos pos2:Pos}{wi:TI}{g:TG}{tt:TT}{te:TE}{use:Option (Value->Sem Unit)}{QV:Value->Shared->Prop}{Q:VK}(I:L2.Inv X gE σ H s)(h:yp wi ix g tt te σ H Q)
  (fin:∀(D C:Addr) (H':Hp) (s':Shared) (m:Str->Option Value),L2.Inv X gE σ H' s'->VY X gE H' C->s'.heap.Ns C m->Q (.ref D) H'->compPost (model X.prog X.w) X.A X.xe use QV (.ref D) C (.ok .next) s')
  (ok:YJ X.env.scope X.N Nc ix scope) (hc:X.calm=true) (hi:PI X tg iter wi)
  (hg:∀cl C s H fp,PG (YC X Nc scope cl C s H fp) tg g) (ht:∀cl C s H fp,PTs (YC X Nc scope cl C s H fp) ifs tt) (he:∀cl C s H fp,PE (YC X Nc scope cl C s H fp) elt te)
  (hs:∀x,foldedSetIterable iter X.env x=pure x):wpAny (model X.prog X.w) X.A (comprehension (.ListComp elt [⟨tg,iter,ifs,0⟩] scope pos) scope X.env pos2 (newList []) false (eval iter X.env) use) QV X.xe s:=
 zJ (em:=fun D=>emL te D) (o0:=fun _=>.lst []) (ob:={ cls:=.type "list",data:=.seq ([]:List Value).toArray }) (bd:=fun D env=>do let _ <- call (.builtin "list.append") [.ref D,<- eval elt env]) I h fin rfl (fun _ _ _=>⟨rfl,rfl⟩) (fun _ _ _=>rfl) (fun _ _ _ _=>⟨rfl,rfl⟩) (fun _ _ _=>rfl)
  (fun _ _ _ _ q=>ja q) (fun _ _ I2=>laid_list I2) ok hc hi hg ht (fun cl C s H fp D=>pem_list (he cl C s H fp)) hs
theorem Ws{elt tg iter:Expr}{ifs:List Expr}{pos:Pos}{wi:TI}{g:TG}{tt:TT}{te:TE}(ok:YJ X.env.scope X.N Nc ix scope)(hc:X.calm=true)(hi:PI X tg iter wi)
  (hg:∀cl C s H fp,PG (YC X Nc scope cl C s H fp) tg g) (ht:∀cl C s H fp,PTs (YC X Nc scope cl C s H fp) ifs tt) (he:∀cl C s H fp,PE (YC X Nc scope cl C s H fp) elt te)
  (hs:∀x,foldedSetIterable iter X.env x=pure x:=by intro _;rfl):PE X (.ListComp elt [⟨tg,iter,ifs,0⟩] scope pos) (yp wi ix g tt te):=by
 intro gE s σ H Q I h;rw[eval_ListComp];refine yd (use:=none) I h (fun D C H' s' m I' f hn qq=>?_) ok hc hi hg ht he hs;obtain⟨f0,f1,f2,f3,f4,f5⟩:=f;exact⟨m,hn,fun h' sb=>⟨.ref D,H',I'.turned (t':=s'.toks) (fun b o hb e=>(sb.2 b hb).trans e) f0 f1 f3 f4 f5,rfl,qq⟩⟩
theorem U7{i:Nat}{x:Str}{elt tg iter:Expr}{ifs:List Expr}{pos spos pos':Pos}{wi:TI}{g:TG}{tt:TT}{te:TE}(hN:X.N.Nodup)(hi:X.N[i]?=some x)(hx:X.env.kindOf x=some .local)
  (ok:YJ X.env.scope X.N Nc ix scope) (hc:X.calm=true) (hit:PI X tg iter wi)
  (hg:∀cl C s H fp,PG (YC X Nc scope cl C s H fp) tg g) (ht:∀cl C s H fp,PTs (YC X Nc scope cl C s H fp) ifs tt) (he:∀cl C s H fp,PE (YC X Nc scope cl C s H fp) elt te)
  (hsw:swapsWith (.ListComp elt [⟨tg,iter,ifs,0⟩] scope pos) (some (.Name x pos')) spos.line X.env=pure true:=by rfl)
  (hs:∀x,foldedSetIterable iter X.env x=pure x:=by intro _;rfl):PS X (.Assign [.Name x pos'] (.ListComp elt [⟨tg,iter,ifs,0⟩] scope pos) spos) (tAsg (yp wi ix g tt te) (Ub i)):=by
 intro gE s σ H D I h;rw[exec_Assign_Name_used _ _ _ _ hsw];refine gW (jX (gW ?_))
 show wpAny _ X.A (do let _ <- comprehension (.ListComp elt [⟨tg,iter,ifs,0⟩] scope pos) scope X.env _ (newList []) false (eval iter X.env) (some (assign (.Name x pos') X.env))) _ _ s
 refine gW (thn (yd (use:=some (assign (.Name x pos') X.env)) (QV:=fun _ s'=>SP X gE D .next s') I h (fun L C H' s' m I' f hn qq=>?_) ok hc hit hg ht he hs) fun _ s' q=>gX (gX q));exact vU hN hi hx I' f hn qq
end
theorem UC{J:It}{n:Nat}{D:Addr}{g:TG}{tt:TT}{te:TE}{σ0:St}{H0:Hp}{Q:VK}(Pv:Nat->St->Hp->Prop)(h0:Pv 0 σ0 (upd H0 D (.lst [])))
  (hgo:∀i σ H,i<n->Pv i σ H->J.go i H) (hst:∀σ H,Pv n σ H->J.stop n H)
  (hs:∀i x σ H H2,i<n->Pv i σ H->J.yld i H x H2->∀(N:V->St->Hp->Prop) (N0:St->Hp->Prop),(∀v σ2 H5 ys,H5 D=some (.lst ys)->ys.length<sizeLine->Pv (i+1) σ2 (upd H5 D (.lst (ys++[v])))->N v σ2 H5)->(∀σ2 H4,Pv (i+1) σ2 H4->N0 σ2 H4) ->
   g x σ H2 fun σ2 H3=>tt σ2 H3 fun c H4=>if c=true then te σ2 H4 fun v H5=>N v σ2 H5 else N0 σ2 H4)
  (hd:∀σ H,Pv n σ H->Q (.ref D) H):qZ J D g tt te σ0 H0 Q:=by
 refine xk (n:=n) Pv h0 hgo hst (fun i x σ H H2 hi p y N hN=>?_) hd;exact hs i x σ H H2 hi p y (fun v σ2 H5=>∃ys,H5 D=some (.lst ys)/\ys.length<sizeLine/\N σ2 (upd H5 D (.lst (ys++[v])))) N (fun v σ2 H5 ys a b c=>⟨ys,a,b,hN _ _ c⟩) hN
theorem vR{n:Nat}{D:Addr}{te:TE}{τ:St}{H0:Hp}{Q:VK}(hD:H0 D=none)(hz:n<=sizeLine)(R:Nat->V->Hp->Prop)(mono:∀i v H H',Za H H'->R i v H->R i v H')
  (step:∀i H (N:V->Hp->Prop),i<n->Za H0 H->(∀v H4,Za H H4->R i v (New H H4)->N v H4)->te (some (.int (i:Nat))::τ) H N)
  (fin:∀H' ys,H' D=some (.lst ys)->Za H0 H'->ys.length=n->(∀i v,ys[i]?=some v->R i v (New H0 H'))->Q (.ref D) H') :
  qZ (Itr 0 n) D (Ub 0) zZ te (none::τ) H0 Q:=by
 refine UC (n:=n) (fun i σ H=>∃z ys,σ=z::τ/\H D=some (.lst ys)/\ys.length=i/\Za H0 H/\∀j v,ys[j]?=some v->R j v (hide D (New H0 H))) ?_ ?_ ?_ ?_ ?_
 ·exact⟨none,[],rfl,Zf,rfl,Zl hD,fun j v e=>by simp at e⟩
 ·rintro i σ H hi _;exact hi
 ·rintro σ H _;exact gY _
 ·rintro i x σ H H2 hi ⟨z,ys,rfl,hy,hl,s,r⟩ ⟨rfl,rfl⟩ N N0 hN hN0;have ei:(0:Int)+(i:Int)=((i:Nat):Int):=Int.zero_add _;rw[ei]
  show te (some (.int (i:Nat))::τ) H2 _
  refine step i H2 _ hi s fun v H4 s4 r4=>?_;refine hN v _ H4 ys (s4 _ _ hy) (by omega) ⟨some (.int (i:Nat)),ys++[v],rfl,Zf,by rw[hG,iY,hl],?_,?_⟩
  ·exact(Zx.upd (Za.x (s.trans s4))).same hD
  ·intro j w e
   by_cases hj:j<ys.length
   ·rw[iI hj] at e;refine mono j w _ _ ?_ (r j w e);intro b o hb;obtain⟨nb,hb⟩:=hide_some hb;obtain⟨h1,h2⟩:=New.of hb;exact hide_mk nb (New.mk h1 (by rw[ZS nb];exact s4 _ _ h2))
   ·have ej:j=ys.length:=by
     have:=(ib.mp e).1;rw[hG,iY] at this;omega
    subst ej;simp at e;subst e;rw[hl];refine mono i v _ _ ?_ r4;intro b o hb;obtain⟨h1,h2⟩:=New.of hb;have nb:b≠D:=fun z=>by subst z;rw[hy] at h1;cases h1
    exact hide_mk nb (New.mk (s.free h1) (by rw[ZS nb];exact h2))
 ·rintro σ H ⟨z,ys,rfl,hy,hl,s,r⟩;exact fin H ys hy s hl fun i v e=>mono i v _ _ hide_sub (r i v e)
theorem xm{te:TE}{σ:St}{H:Hp}{N:V->Hp->Prop}{N0:Hp->Prop}(h:te σ H N):zZ σ H fun c H4=>if c=true then te σ H4 N else N0 H4:=by
 show(if true=true then te σ H N else N0 H)
 rw[if_pos rfl];exact h
theorem xw{α:Type}{J:It}{D:Addr}{tt:TT}{te:TE}{τ:St}{H0:Hp}{Q:VK}(l:List α)(φ:α->V)(p:α->Bool)(f:α->V)(hD:H0 D=none)(hz:l.length<=sizeLine)
  (hgo:∀i H,i<l.length->Za H0 H->J.go i H) (hst:∀H,Za H0 H->J.stop l.length H) (hy:∀i x H H2 (h:i<l.length),Za H0 H->J.yld i H x H2->H2=H/\x=φ l[i])
  (step:∀x∈l,∀H (N:V->Hp->Prop) (N0:Hp->Prop),Za H0 H->(∀H4,Za H H4->p x=true->N (f x) H4)->(∀H4,Za H H4->p x=false->N0 H4)->tt (some (φ x)::τ) H fun c H4=>if c=true then te (some (φ x)::τ) H4 N else N0 H4)
  (fin:∀H',H' D=some (.lst ((l.filter p).map f))->Za H0 H'->Q (.ref D) H'):qZ J D (Ub 0) tt te (none::τ) H0 Q:=by
 refine UC (n:=l.length) (fun i σ H=>∃z,σ=z::τ/\H D=some (.lst (((l.take i).filter p).map f))/\Za H0 H) ?_ ?_ ?_ ?_ ?_
 ·exact⟨none,rfl,Zf,Zl hD⟩
 ·rintro i σ H hi ⟨z,rfl,_,s⟩;exact hgo i H hi s
 ·rintro σ H ⟨z,rfl,_,s⟩;exact hst H s
 ·rintro i x σ H H2 hi ⟨z,rfl,hd,s⟩ hyl N N0 hN hN0;obtain⟨rfl,rfl⟩:=hy i x H H2 hi s hyl;have tk:(l.take (i+1)).filter p=(l.take i).filter p++[l[i]].filter p:=by rw[List.take_succ_eq_append_getElem hi,List.filter_append]
  have le:(((l.take i).filter p).map f).length<sizeLine:=by
   rw[hJ];have:=kZ p (l.take i);rw[hV] at this;omega
  refine step _ (jr hi) H2 (fun v H5=>N v (some (φ l[i])::τ) H5) (fun H4=>N0 (some (φ l[i])::τ) H4) s (fun H4 s4 hp=>?_) (fun H4 s4 hp=>?_)
  ·refine hN _ _ H4 _ (s4 _ _ hd) le ⟨_,rfl,?_,(Zx.upd (Za.x (s.trans s4))).same hD⟩;rw[Zf,tk,kW hp,iZ];rfl
  ·refine hN0 _ H4 ⟨_,rfl,?_,s.trans s4⟩;rw[s4 _ _ hd,tk,kX (by rw[hp];exact iy),List.filter_nil,iQ]
 ·rintro σ H ⟨z,rfl,hd,s⟩;rw[List.take_length] at hd;exact fin H hd s
theorem zH{α:Type}{K:W.Frag}{a D:Addr}{tt:TT}{te:TE}{τ:St}{H0:Hp}{Q:VK}(l:List α)(φ:α->V)(p:α->Bool)(f:α->V)(hD:H0 D=none)(hq:SqL K H0 a (l.map φ))(hz:l.length<=sizeLine)
  (step:∀x∈l,∀H (N:V->Hp->Prop) (N0:Hp->Prop),Za H0 H->(∀H4,Za H H4->p x=true->N (f x) H4)->(∀H4,Za H H4->p x=false->N0 H4)->tt (some (φ x)::τ) H fun c H4=>if c=true then te (some (φ x)::τ) H4 N else N0 H4)
  (fin:∀H',H' D=some (.lst ((l.filter p).map f))->Za H0 H'->Q (.ref D) H'):qZ (Itl K a) D (Ub 0) tt te (none::τ) H0 Q:=by
 refine xw l φ p f hD hz (fun i H hi s=>⟨_,φ l[i],s.seq hq,by rw[iJ,gZ hi];rfl⟩) (fun H s=>⟨_,s.seq hq,by rw[hJ];exact gY _⟩) (fun i x H H2 hi s hyl=>?_) step fin;obtain⟨rfl,hx⟩:=hyl;have e:=hx _ (s.seq hq);rw[iJ,gZ hi] at e;exact⟨rfl,(iB e).symm⟩
theorem Wj{α:Type}{K:W.Frag}{a D:Addr}{te:TE}{τ:St}{H0:Hp}{Q:VK}(l:List α)(φ:α->V)(f:α->V)(hD:H0 D=none)(hq:SqL K H0 a (l.map φ))(hz:l.length<=sizeLine)
  (step:∀x∈l,∀H (N:V->Hp->Prop),Za H0 H->(∀H4,Za H H4->N (f x) H4)->te (some (φ x)::τ) H N)
  (fin:∀H',H' D=some (.lst (l.map f))->Za H0 H'->Q (.ref D) H'):qZ (Itl K a) D (Ub 0) zZ te (none::τ) H0 Q:=by
 refine zH l φ (fun _=>true) f hD hq hz (fun x hx H N N0 s h1 _=>?_) (fun H' h s=>fin H' (by rw[h,List.filter_eq_self.mpr (fun _ _=>rfl)]) s);exact xm (step x hx H N s fun H4 s4=>h1 H4 s4 rfl)
def dTl:Lb->List PyData->List PyData
 |.yes,_=>[]
 |.sign z,_=>[.str z]
 |.op _,ds=>ds
 |.wit m,ds=>.int m::ds
 |.many _,ds=>[.tuple ds]
theorem dF_tl(c:Lb)(ds:List PyData):dF c ds=.tuple (.str (Zv c)::dTl c ds):=by cases c<;>rfl
theorem word_lb{c c':Lb}{n n':Nat}(h1:Yh c n)(h2:Yh c' n')(hw:Zv c=Zv c'):c=c'\/(∃z z',c=.sign z/\c'=.sign z')\/(∃m m',c=.wit m/\c'=.wit m'):=by
 have ny:¬(("sign" : Str) = "yes")/\¬(("within" : Str) = "yes")/\¬(("within" : Str) = "sign")/\¬(("and" : Str) = "yes")/\¬(("or" : Str) = "yes")/\¬(("and" : Str) = "sign")/\¬(("or" : Str) = "sign")/\¬(("and" : Str) = "within")/\¬(("or" : Str) = "within"):=by decide +kernel
 obtain⟨n1,n2,n3,n4,n5,n6,n7,n8,n9⟩:=ny;cases c with
 |yes=>
  cases c' with
  |yes=>exact .inl rfl
  |sign z=>exact absurd hw.symm n1
  |wit m=>exact absurd hw.symm n2
  |op w=>exact absurd hw.symm (YX w (Wz h2)).1
  |many w=>rcases h2.1 with rfl|rfl;exact absurd hw.symm n4;exact absurd hw.symm n5
 |sign z=>
  cases c' with
  |yes=>exact absurd hw n1
  |sign z'=>exact .inr (.inl ⟨z,z',rfl,rfl⟩)
  |wit m=>exact absurd hw.symm n3
  |op w=>exact absurd hw.symm (YX w (Wz h2)).2.1
  |many w=>rcases h2.1 with rfl|rfl;exact absurd hw.symm n6;exact absurd hw.symm n7
 |wit m=>
  cases c' with
  |yes=>exact absurd hw n2
  |sign z=>exact absurd hw n3
  |wit m'=>exact .inr (.inr ⟨m,m',rfl,rfl⟩)
  |op w=>exact absurd hw.symm (YX w (Wz h2)).2.2.1
  |many w=>rcases h2.1 with rfl|rfl;exact absurd hw.symm n8;exact absurd hw.symm n9
 |op w=>
  have wa:=YX w (Wz h1);cases c' with
  |yes=>exact absurd hw wa.1
  |sign z=>exact absurd hw wa.2.1
  |wit m=>exact absurd hw wa.2.2.1
  |op w'=>exact .inl (by rw[show w=w' from hw])
  |many w'=>rcases h2.1 with rfl|rfl;exact absurd hw wa.2.2.2.1;exact absurd hw wa.2.2.2.2
 |many w=>
  cases c' with
  |yes=>rcases h1.1 with rfl|rfl;exact absurd hw n4;exact absurd hw n5
  |sign z=>rcases h1.1 with rfl|rfl;exact absurd hw n6;exact absurd hw n7
  |wit m=>rcases h1.1 with rfl|rfl;exact absurd hw n8;exact absurd hw n9
  |op w'=>rcases h1.1 with rfl|rfl;exact absurd hw.symm (YX w' (Wz h2)).2.2.2.1;exact absurd hw.symm (YX w' (Wz h2)).2.2.2.2
  |many w'=>exact .inl (by rw[show w=w' from hw])
theorem x9:∀{ks js:List Tr},(∀k∈ks,∀s∈js,PyData.eqv (dTr k) (dTr s)=true->k=s)->PyData.eqvAll (ks.map dTr) (js.map dTr)=true->ks=js
 |[],[],_,_=>rfl
 |[],_::_,_,h=>by simp[PyData.eqvAll] at h
 |_::_,[],_,h=>by simp[PyData.eqvAll] at h
 |k::ks,j::js,f,h=>by
  rw[g9,g9,PyData.eqvAll,iN] at h;rw[f k (by simp) j (by simp) h.1,x9 (fun a ha b hb=>f a (hU _ ha) b (hU _ hb)) h.2]
theorem eqv_tr:∀{n m:Nat}{t s:Tr},OkN n t->OkN m s->PyData.eqv (dTr t) (dTr s)=true->t=s
 |0,_,_,_,h,_,_=>h.elim
 |_+1,0,_,_,_,h,_=>h.elim
 |n+1,m+1,t,s,⟨o1,k1⟩,⟨o2,k2⟩,h=>by
  rw[yE,yE s,dF_tl,dF_tl,PyData.eqv,PyData.eqvAll,iN] at h;obtain⟨hw,ht⟩:=h;rw[PyData.eqv] at hw;have hw':Zv t.lb=Zv s.lb:=by simpa using hw
  have kids:PyData.eqvAll (t.ks.map dTr) (s.ks.map dTr)=true->t.ks=s.ks:=x9 fun k hk j hj e=>eqv_tr (k1 k hk) (k2 j hj) e;have fin:t.lb=s.lb->t.ks=s.ks->t=s:=fun a b=>by rw[Tr.eta t,Tr.eta s,a,b]
  rcases word_lb o1 o2 hw' with e|⟨z,z',e1,e2⟩|⟨a,b,e1,e2⟩
  ·refine fin e ?_;rw[<- e] at ht o2
   revert ht o1 o2
   cases t.lb with
   |yes=>intro o1 o2 ht;exact(iG.mp o1).trans (iG.mp o2).symm
   |sign z=>intro o1 o2 ht;exact(iG.mp o1.1).trans (iG.mp o2.1).symm
   |op w=>intro o1 o2 ht;exact kids ht
   |wit a=>
    intro o1 o2 ht;have ht2:(PyData.eqv (.int a) (.int a)&&PyData.eqvAll (t.ks.map dTr) (s.ks.map dTr))=true:=ht;rw[iN] at ht2;exact kids ht2.2
   |many w=>
    intro o1 o2 ht;have ht2:(PyData.eqv (.tuple (t.ks.map dTr)) (.tuple (s.ks.map dTr))&&PyData.eqvAll [] [])=true:=ht;rw[iN,PyData.eqv] at ht2;exact kids ht2.1
  ·rw[e1] at o1;rw[e2] at o2;rw[e1,e2] at ht;have ht2:(PyData.eqv (.str z) (.str z')&&PyData.eqvAll [] [])=true:=ht;rw[iN,PyData.eqv] at ht2;have hz:z=z':=by simpa using ht2.1
   exact fin (by rw[e1,e2,hz]) ((iG.mp o1.1).trans (iG.mp o2.1).symm)
  ·rw[e1,e2] at ht;have ht2:(PyData.eqv (.int a) (.int b)&&PyData.eqvAll (t.ks.map dTr) (s.ks.map dTr))=true:=ht;rw[iN,PyData.eqv] at ht2;have hz:a=b:=by simpa using ht2.1
   exact fin (by rw[e1,e2,hz]) (kids ht2.2)
theorem qm:∀{n:Nat}{t:Tr},OkN n t->dpt t<=2*n
 |0,_,h=>h.elim
 |n+1,t,⟨ok,h⟩=>by
  rw[dpt_eq];have hk:mx (t.ks.map dpt)<=2*n:=qA.mpr fun x hx=>by
   obtain⟨k,hk,rfl⟩:=ik.mp hx;exact qm (h k hk)
  split<;>omega
theorem lay_all:∀{ts:List Tr},(∀s∈ts,∃n,OkN n s)->PyData.canLayAll0 (ts.map dTr)=true
 |[],_=>rfl
 |t::r,h=>by
  obtain⟨n,o⟩:=h t (by simp);rw[g9,PyData.canLayAll0,iN];exact⟨(OkN.fine o).1,lay_all fun s hs=>h s (hU _ hs)⟩
open Classical in
theorem any_tr:∀{ts:List Tr}{t:Tr}{m:Nat},(∀s∈ts,∃n,OkN n s)->OkN m t->((ts.map dTr).any fun z=>PyData.eqv z (dTr t))=decide (t∈ts)
 |[],t,m,_,_=>by simp
 |s::r,t,m,h,o=>by
  obtain⟨n,os⟩:=h s (by simp);rw[g9,jS,any_tr (fun x hx=>h x (hU _ hx)) o]
  by_cases e:t=s
  ·subst e;rw[xZ (OkN.fine o)];simp
  ·have:PyData.eqv (dTr s) (dTr t)=false:=by
    cases hh:PyData.eqv (dTr s) (dTr t) with
    |false=>rfl
    |true=>exact absurd (eqv_tr os o hh).symm e
   rw[this,Bool.false_or];simp[e]
theorem tl_ok{K:W.Frag}{n:Nat}{H:Hp}{vs:List V}{ts:List Tr}(h:AtL K n H vs ts):∀s∈ts,∃m,OkN m s:=fun s hs=>by
 obtain⟨i,hi,e⟩:=jd hs;have hv:i<vs.length:=by rw[h.1];exact hi
 exact⟨n,(h.2 i _ s (gZ hv) (by rw[<- e];exact gZ hi)).ok⟩
open Classical in
theorem not_in{K:W.Frag}{H:Hp}{F:Addr}{fv:List V}{ts:List Tr}{n m:Nat}{v:V}{t:Tr}{Q:VK}(hF:H F=some (.lst fv))(aF:AtL K n H fv ts)(hv:At K m H v t)(hd:dpt t<=190)(q1:t∈ts->Q (.bl false) H)(q2:t∉ts->Q (.bl true) H):rInB K true v (.ref F) H Q:=by
 have o:=hv.ok;refine⟨ts.map dTr,dTr t,.lst (ll hF) (zb aF.1 fun i u k h1 h2=>(aF.2 i u k h1 h2).dp),hv.dp,lay_all (tl_ok aF),(OkN.fine o).1,?_,?_⟩
 ·have:=(OkN.fine o).2;omega
 ·rw[if_pos rfl,any_tr (tl_ok aF) o]
  by_cases h:t∈ts
  ·rw[hX h];exact q1 h
  ·rw[im h];exact q2 h
theorem yx{n m:Nat}{t s:Tr}(h1:OkN n t)(h2:OkN m s):PyData.eqv (dTr t) (dTr s)=true↔t=s:=⟨eqv_tr h1 h2,fun e=>by subst e;exact xZ (OkN.fine h1)⟩
theorem eq_at{K:W.Frag}{H:Hp}{x y:V}{t s:Tr}{n m:Nat}{Q:VK}(h1:At K n H x t)(h2:At K m H y s)(hd:dpt t<=60)(q1:t=s->Q (.bl true) H)(q2:t≠s->Q (.bl false) H):rEqD K false x y H Q:=by
 refine⟨dTr t,dTr s,h1.dp,h2.dp,(OkN.fine h1.ok).1,(OkN.fine h2.ok).1,iq (OkN.fine h1.ok).2 hd,?_⟩
 show Q (.bl (PyData.eqv (dTr t) (dTr s))) H
 cases e:PyData.eqv (dTr t) (dTr s) with
 |true=>exact q1 ((yx h1.ok h2.ok).mp e)
 |false=>exact q2 fun z=>by rw[(yx h1.ok h2.ok).mpr z] at e;cases e
theorem neq_at{K:W.Frag}{H:Hp}{x y:V}{t s:Tr}{n m:Nat}{Q:VK}(h1:At K n H x t)(h2:At K m H y s)(hd:dpt t<=60)(q1:t=s->Q (.bl false) H)(q2:t≠s->Q (.bl true) H):rEqD K true x y H Q:=by
 refine⟨dTr t,dTr s,h1.dp,h2.dp,(OkN.fine h1.ok).1,(OkN.fine h2.ok).1,iq (OkN.fine h1.ok).2 hd,?_⟩
 show Q (.bl (!PyData.eqv (dTr t) (dTr s))) H
 cases e:PyData.eqv (dTr t) (dTr s) with
 |true=>exact q1 ((yx h1.ok h2.ok).mp e)
 |false=>exact q2 fun z=>by rw[(yx h1.ok h2.ok).mpr z] at e;cases e
theorem atI_neg{α:Type}{xs:List α}{p:Nat}(p1:1<=p)(hp:p<=xs.length):atI xs (-(p:Int))=some (xs[xs.length-p]'(by omega)):=by
 unfold atI ixN;rw[if_neg (by omega),if_pos (by omega)]
 show xs[_]?=_
 have e:(-(p:Int)+(xs.length:Nat)).toNat=xs.length-p:=by omega
 rw[e];exact gZ (by omega)
theorem zp{α:Type}{K:W.Frag}{a D:Addr}{te:TE}{τ:St}{H0:Hp}{Q:VK}(l:List α)(φ:α->V)(f:α->V)(hD:H0 D=none)(hq:SqT K H0 a (l.map φ))(hz:l.length<=sizeLine)
  (step:∀x∈l,∀H (N:V->Hp->Prop),Za H0 H->(∀H4,Za H H4->N (f x) H4)->te (some (φ x)::τ) H N)
  (fin:∀H',H' D=some (.lst (l.map f))->Za H0 H'->Q (.ref D) H'):qZ (Itt K a) D (Ub 0) zZ te (none::τ) H0 Q:=by
 refine xw l φ (fun _=>true) f hD hz (fun i H hi s=>⟨_,φ l[i],Za.seqT s hq,by rw[iJ,gZ hi];rfl⟩) (fun H s=>⟨_,Za.seqT s hq,by rw[hJ];exact gY _⟩) (fun i x H H2 hi s hyl=>?_) (fun x hx H N N0 s h1 _=>xm (step x hx H N s fun H4 s4=>h1 H4 s4 rfl)) (fun H' h s=>fin H' (by rw[h,List.filter_eq_self.mpr (fun _ _=>rfl)]) s);obtain⟨rfl,hx⟩:=hyl;have e:=hx _ (Za.seqT s hq);rw[iJ,gZ hi] at e;exact⟨rfl,(iB e).symm⟩
theorem sz1:1<=sizeLine:=by rw[gU];decide
theorem sz2:2<=sizeLine:=by rw[gU];decide
theorem sz6:6<=sizeLine:=by rw[gU];decide
theorem sz8:8<=sizeLine:=by rw[gU];decide
end L3
namespace L3
open PySem PySem.Spec L2
theorem Zc{X:Cx}{e:Expr}{te:TE}(ha:PE X e te)(hs:starEach [e] X.env=(false,eval e X.env)::starEach [] X.env):PA X [e] (Ui te tNil):=Zd ha Y2 hs
theorem Ym{X:Cx}{e:Expr}{te:TE}(ha:PE X e te)(h:starB e=false):PA X [e] (Ui te tNil):=ZD ha Y2 h
end L3
namespace KK
open PySem PySem.Spec L2 L3
def top(i:Nat):Stmt:=PySem.Challenge.pw_timecourt_k76_told_the_same.main.body.getD i (.Pass ⟨0,0,0,0⟩)
def gG:List Str:=["sentence"]
def gH:List Str:=["thing"]
def gI:List Str:=["self", "sentence", "inner"]
def gJ:List Str:=["number", "self"]
def gK:List Str:=["_law_one"]
def gL:List Str:=["sentence", "inner"]
def gM:List Str:=["self", "number"]
def gN:List Str:=["_law_k", "_law_some", "_law_x"]
def gO:List Str:=["turns", "first", "second"]
def gP:List Str:=["self", "number", "same", "other"]
def gQ:List Str:=["self", "word", "inner", "idle", "strong"]
def gR:List Str:=["_law_word", "_law_some", "_law_x"]
def gS:List Str:=["_law_x", "_law_some", "_law_words"]
def gT:List Str:=["_law_cells", "_law_words", "_law_most"]
abbrev Xq:Stmt:=top 4
abbrev Xy:Stmt:=top 5
abbrev Xf:Stmt:=top 6
abbrev Xd:Stmt:=top 14
abbrev Xp:Stmt:=top 15
abbrev YO:Stmt:=top 16
abbrev XZ:Stmt:=top 19
abbrev Xe:Stmt:=top 20
abbrev Wo:Stmt:=top 21
abbrev WV:Stmt:=top 22
abbrev Y8:Stmt:=top 23
abbrev Xs:Stmt:=top 24
abbrev YY:Stmt:=XF (top 25) 0
abbrev Ya:Stmt:=XF (top 25) 1
abbrev Yg:Stmt:=XF (top 25) 2
abbrev ZR:Stmt:=XF (top 25) 3
abbrev XU:Stmt:=top 26
abbrev X1:Stmt:=top 29
abbrev YL:Stmt:=XF (top 30) 0
abbrev ZX:Stmt:=XF (top 30) 1
abbrev Z7:Stmt:=XF (top 30) 2
abbrev Z1:Stmt:=XF (top 30) 3
abbrev Z4:Stmt:=XF (top 30) 4
abbrev Ye:Stmt:=XF (top 30) 5
abbrev Yt:Stmt:=XF (top 30) 6
abbrev Yz:Stmt:=top 32
abbrev YM:Stmt:=top 33
abbrev Xa:Stmt:=top 34
abbrev Y9:Stmt:=top 35
abbrev Xg:Stmt:=top 36
abbrev YU:Stmt:=top 37
abbrev YT:Stmt:=top 38
abbrev Yf:Stmt:=top 39
abbrev YW:Stmt:=top 40
abbrev Z9:Stmt:=top 41
abbrev Yw:Stmt:=top 42
abbrev U2:Stmt:=top 43
theorem gC{N P:List Str}{S:Scope}(a:S.kind=.function:=by rfl)(b:S.isCoroutine=false:=by rfl)(c:S.isGenerator=false:=by rfl)(d:N.take P.length=P:=by rfl)(e:N.Nodup/\(∀x∈P,S.names.lookup x=some .local\/S.names.lookup x=some .cell)/\∀y∈S.names,y.2≠.free:=by decide +kernel):ZH N P S:=⟨a,b,c,e.1,d,e.2.1,e.2.2⟩
theorem xx:ZH ["thing"] gH (Zi Xq):=gC
theorem vt:ZH ["thing"] gH (Zi Xy):=gC
theorem WT:ZH ["things", "many", "start", "taken"] ["things", "many"] (Zi Xf):=gC
theorem V8:ZH ["thing", "word"] gH (Zi Xd):=gC
theorem U6:ZH ["sentence", "word"] gG (Zi Xp):=gC
theorem Yl:ZH ["sentence", "found", "waiting", "one"] gG (Zi YO):=gC
theorem W8:ZH ["sentence", "found", "one", "inner"] gG (Zi XZ):=gC
theorem Up:ZH ["sentence", "inner", "word"] gL (Zi Xe):=gC
theorem Vv:ZH ["cores", "whole", "core"] ["cores"] (Zi Wo):=gC
theorem Uc:ZH ["cores", "whole", "core"] ["cores"] (Zi WV):=gC
theorem Wa:ZH ["turns", "first", "second", "whole", "turn"] gO (Zi Y8):=gC
theorem U3:ZH ["sentence", "inner", "head"] gL (Zi Xs):=gC
theorem zy:ZH ["self"] ["self"] (Zi YY):=gC
theorem Y1:ZH ["self", "core", "found", "part", "inner"] ["self", "core"] (Zi Ya):=gC
theorem Us:ZH ["self", "part", "row"] ["self", "part", "row"] (Zi Yg):=gC
theorem yC:ZH ["self", "number"] gM (Zi ZR):=gC
theorem vw:ZH ["core"] ["core"] (Zi XU):=gC
theorem YK:ZH ["sentence", "shorts", "found", "one", "inner"] gG (Zi X1):=gC
theorem qy:ZH ["self"] ["self"] (Zi YL):=gC
theorem WH:ZH ["self", "sentence", "inner", "stands"] gI (Zi ZX):=gC
theorem Wq:ZH ["self", "sentence", "inner", "word"] gI (Zi Z7):=gC
theorem XQ:ZH ["self", "word", "inner", "idle", "strong", "few", "parts"] gQ (Zi Z1):=gC
theorem VE:ZH ["self", "number", "same", "other"] gP (Zi Z4):=gC
theorem Ug:ZH ["self", "number"] gM (Zi Ye):=gC
theorem Vg:ZH ["self", "sentence", "inner", "parts"] gI (Zi Yt):=gC
theorem qc:ZH ["_law_script", "_law_k"] ["_law_script", "_law_k"] (Zi Yz):=gC
theorem Z6:ZH ["_law_cell", "_law_many", "_law_found", "_law_rest", "_law_number", "_law_other", "_law_k"] ["_law_cell", "_law_many"] (Zi YM):=gC
theorem yz:ZH ["_law_x"] ["_law_x"] (Zi Xa):=gC
theorem Vk:ZH ["_law_word", "_law_some", "_law_x", "_law_many", "_law_row_here"] gR (Zi Y9):=gC
theorem Wf:ZH ["_law_x", "_law_some", "_law_words", "_law_one", "_law_other", "_law_word"] gS (Zi Xg):=gC
theorem XI:ZH ["_law_sentence", "_law_word", "_law_sizes", "_law_one", "_law_other"] ["_law_sentence"] (Zi YU):=gC
theorem XJ:ZH ["_law_sentence", "_law_word", "_law_inner"] ["_law_sentence"] (Zi YT):=gC
theorem Yn:ZH ["_law_cells", "_law_words", "_law_most", "_law_some", "_law_cell", "_law_xs", "_law_one"] gT (Zi Yf):=gC
theorem ZP:ZH ["_law_w", "_law_yes", "_law_no", "_law_pairs", "_law_always", "_law_ever", "_law_word"] ["_law_w"] (Zi YW):=gC
theorem Y0:ZH ["_law_sentence", "_law_found", "_law_word", "_law_one"] ["_law_sentence", "_law_found"] (Zi Z9):=gC
theorem Z0:ZH ["_law_w", "_law_cell", "_law_bad", "_law_wrong", "_law_one", "_law_good", "e"] ["_law_w", "_law_cell"] (Zi Yw):=gC
theorem Vq:ZH ["_law_script", "_law_words", "_law_w", "_law_one", "_law_other", "_law_found", "_law_stood"] ["_law_script"] (Zi U2):=gC
set_option genInjectivity false
structure Adr where
 is_whole:Addr
 cF:FuncData
 is_name:Addr
 df:FuncData
 last_ones:Addr
 bY:FuncData
 is_formed:Addr
 bZ:FuncData
 inner_of:Addr
 cG:FuncData
 inner_ahead:Addr
 bo:FuncData
 core_of:Addr
 dg:FuncData
 core_with:Addr
 b0:FuncData
 and_of:Addr
 dJ:FuncData
 or_of:Addr
 eK:FuncData
 within_of:Addr
 b9:FuncData
 row_with:Addr
 cH:FuncData
 Table_init:Addr
 bR:FuncData
 Table_number_of:Addr
 aZ:FuncData
 Table_taken_in:Addr
 bc:FuncData
 Table_inner_numbers:Addr
 aX:FuncData
 size_of:Addr
 dh:FuncData
 shorter:Addr
 cu:FuncData
 Shorts_init:Addr
 bF:FuncData
 Shorts_both_of:Addr
 bf:FuncData
 Shorts_short_of:Addr
 ba:FuncData
 Shorts_joined:Addr
 bq:FuncData
 Shorts_is_double:Addr
 aM:FuncData
 Shorts_word_of:Addr
 bg:FuncData
 Shorts_made:Addr
 bG:FuncData
 _law_cell_at:Addr
 bu:FuncData
 _law_stream:Addr
 bH:FuncData
 _law_leaf:Addr
 cb:FuncData
 _law_row:Addr
 cI:FuncData
 _law_step:Addr
 cc:FuncData
 _law_size:Addr
 ce:FuncData
 _law_deep:Addr
 cf:FuncData
 _law_sentences:Addr
 bh:FuncData
 _law_alike:Addr
 bS:FuncData
 _law_quantified:Addr
 bb:FuncData
 _law_refused:Addr
 bv:FuncData
 law:Addr
 fX:FuncData
 C_TimeError:Addr
 C_BadSentence:Addr
 C_NoAhead:Addr
 C_Table:Addr
 C_Shorts:Addr
 D_LENGTHS:Addr
 Y_YES:Addr
 Y_STEADY_WORDS:Addr
 Pm:Params
structure Txt(K:W.Frag)(mg:Str->Option Value)(a:Adr):Prop where
 d7:Fun K "is_whole" "is_whole" Xq a.is_whole a.cF
 fi:ZV K a.cF ["thing"] []
 fj:mg "is_whole" = some (.ref a.is_whole)
 eO:Fun K "is_name" "is_name" Xy a.is_name a.df
 fF:ZV K a.df ["thing"] []
 fG:mg "is_name" = some (.ref a.is_name)
 bA:Fun K "last_ones" "last_ones" Xf a.last_ones a.bY
 bT:ZV K a.bY ["things", "many"] []
 bU:mg "last_ones" = some (.ref a.last_ones)
 cJ:Fun K "is_formed" "is_formed" Xd a.is_formed a.bZ
 du:ZV K a.bZ ["thing"] []
 dv:mg "is_formed" = some (.ref a.is_formed)
 bt:Fun K "inner_of" "inner_of" Xp a.inner_of a.cG
 bB:ZV K a.cG ["sentence"] []
 bC:mg "inner_of" = some (.ref a.inner_of)
 aG:Fun K "inner_ahead" "inner_ahead" YO a.inner_ahead a.bo
 bi:ZV K a.bo ["sentence"] []
 bj:mg "inner_ahead" = some (.ref a.inner_ahead)
 dM:Fun K "core_of" "core_of" XZ a.core_of a.dg
 eP:ZV K a.dg ["sentence"] []
 eQ:mg "core_of" = some (.ref a.core_of)
 dw:Fun K "core_with" "core_with" Xe a.core_with a.b0
 eR:ZV K a.b0 ["sentence", "inner"] []
 eS:mg "core_with" = some (.ref a.core_with)
 eN:Fun K "and_of" "and_of" Wo a.and_of a.dJ
 fo:ZV K a.dJ ["cores"] []
 fq:mg "and_of" = some (.ref a.and_of)
 ft:Fun K "or_of" "or_of" WV a.or_of a.eK
 fP:ZV K a.eK ["cores"] []
 fQ:mg "or_of" = some (.ref a.or_of)
 dy:Fun K "within_of" "within_of" Y8 a.within_of a.b9
 eT:ZV K a.b9 ["turns", "first", "second"] []
 eU:mg "within_of" = some (.ref a.within_of)
 cv:Fun K "row_with" "row_with" Xs a.row_with a.cH
 di:ZV K a.cH ["sentence", "inner"] []
 dj:mg "row_with" = some (.ref a.row_with)
 eh:Fun K "__init__" "Table.__init__" YY a.Table_init a.bR
 eo:ZV K a.bR ["self"] []
 fH:V6 K a.C_Table "__init__" a.Table_init
 cx:Fun K "number_of" "Table.number_of" Ya a.Table_number_of a.aZ
 bD:ZV K a.aZ ["self", "core"] []
 bE:V6 K a.C_Table "number_of" a.Table_number_of
 cR:Fun K "taken_in" "Table.taken_in" Yg a.Table_taken_in a.bc
 aB:ZV K a.bc ["self", "part", "row"] []
 aC:V6 K a.C_Table "taken_in" a.Table_taken_in
 cX:Fun K "inner_numbers" "Table.inner_numbers" ZR a.Table_inner_numbers a.aX
 cY:ZV K a.aX ["self", "number"] []
 cZ:V6 K a.C_Table "inner_numbers" a.Table_inner_numbers
 dN:Fun K "size_of" "size_of" XU a.size_of a.dh
 eY:ZV K a.dh ["core"] []
 eZ:mg "size_of" = some (.ref a.size_of)
 bp:Fun K "shorter" "shorter" X1 a.shorter a.cu
 bJ:ZV K a.cu ["sentence"] []
 bK:mg "shorter" = some (.ref a.shorter)
 dQ:Fun K "__init__" "Shorts.__init__" YL a.Shorts_init a.bF
 cK:ZV K a.bF ["self"] []
 fu:V6 K a.C_Shorts "__init__" a.Shorts_init
 cS:Fun K "both_of" "Shorts.both_of" ZX a.Shorts_both_of a.bf
 bN:ZV K a.bf ["self", "sentence", "inner"] []
 bO:V6 K a.C_Shorts "both_of" a.Shorts_both_of
 cy:Fun K "short_of" "Shorts.short_of" Z7 a.Shorts_short_of a.ba
 cA:ZV K a.ba ["self", "sentence", "inner"] []
 cB:V6 K a.C_Shorts "short_of" a.Shorts_short_of
 db:Fun K "joined" "Shorts.joined" Z1 a.Shorts_joined a.bq
 bV:ZV K a.bq ["self", "word", "inner", "idle", "strong"] []
 bW:V6 K a.C_Shorts "joined" a.Shorts_joined
 cg:Fun K "is_double" "Shorts.is_double" Z4 a.Shorts_is_double a.aM
 bw:ZV K a.aM ["self", "number", "same", "other"] []
 bx:V6 K a.C_Shorts "is_double" a.Shorts_is_double
 cT:Fun K "word_of" "Shorts.word_of" Ye a.Shorts_word_of a.bg
 aT:ZV K a.bg ["self", "number"] []
 aU:V6 K a.C_Shorts "word_of" a.Shorts_word_of
 dU:Fun K "made" "Shorts.made" Yt a.Shorts_made a.bG
 dX:ZV K a.bG ["self", "sentence", "inner"] []
 dY:V6 K a.C_Shorts "made" a.Shorts_made
 bI:Fun K "_law_cell_at" "_law_cell_at" Yz a._law_cell_at a.bu
 ck:ZV K a.bu ["_law_script", "_law_k"] []
 cm:mg "_law_cell_at" = some (.ref a._law_cell_at)
 cL:Fun K "_law_stream" "_law_stream" YM a._law_stream a.bH
 dZ:ZV K a.bH ["_law_cell", "_law_many"] []
 d3:mg "_law_stream" = some (.ref a._law_stream)
 cM:Fun K "_law_leaf" "_law_leaf" Xa a._law_leaf a.cb
 dz:ZV K a.cb ["_law_x"] []
 dA:mg "_law_leaf" = some (.ref a._law_leaf)
 d8:Fun K "_law_row" "_law_row" Y9 a._law_row a.cI
 fk:ZV K a.cI ["_law_word", "_law_some", "_law_x"] []
 fm:mg "_law_row" = some (.ref a._law_row)
 dB:Fun K "_law_step" "_law_step" Xg a._law_step a.cc
 fb:ZV K a.cc ["_law_x", "_law_some", "_law_words"] []
 fc:mg "_law_step" = some (.ref a._law_step)
 aj:Fun K "_law_size" "_law_size" YU a._law_size a.ce
 aq:ZV K a.ce ["_law_sentence"] []
 av:mg "_law_size" = some (.ref a._law_size)
 cN:Fun K "_law_deep" "_law_deep" YT a._law_deep a.cf
 dC:ZV K a.cf ["_law_sentence"] []
 dD:mg "_law_deep" = some (.ref a._law_deep)
 bP:Fun K "_law_sentences" "_law_sentences" Yf a._law_sentences a.bh
 cU:ZV K a.bh ["_law_cells", "_law_words", "_law_most"] []
 cW:mg "_law_sentences" = some (.ref a._law_sentences)
 dc:Fun K "_law_alike" "_law_alike" YW a._law_alike a.bS
 eC:ZV K a.bS ["_law_w"] []
 eG:mg "_law_alike" = some (.ref a._law_alike)
 ah:Fun K "_law_quantified" "_law_quantified" Z9 a._law_quantified a.bb
 ax:ZV K a.bb ["_law_sentence", "_law_found"] []
 ay:mg "_law_quantified" = some (.ref a._law_quantified)
 cp:Fun K "_law_refused" "_law_refused" Yw a._law_refused a.bv
 dk:ZV K a.bv ["_law_w", "_law_cell"] []
 dm:mg "_law_refused" = some (.ref a._law_refused)
 gv:Fun K "law" "law" U2 a.law a.fX
 gA:ZV K a.fX ["_law_script"] []
 gB:mg "law" = some (.ref a.law)
 eI:mg "ValueError" = none
 gw:mg "all" = none
 d9:mg "reversed" = none
 fz:mg "range" = none
 bL:mg "len" = none
 fI:mg "list" = none
 aH:mg "isinstance" = none
 gi:mg "int" = none
 cO:mg "tuple" = none
 gj:mg "max" = none
 gp:mg "bool" = none
 gs:mg "str" = none
 gu:mg "sum" = none
 fJ:∃u,mg "LETTERS" = some u/\ZU (.str "abcdefghijklmnopqrstuvwxyz") u
 dn:∃u,mg "MOST_LETTERS" = some u/\ZU (.int 8) u
 d5:∃u,mg "MOST_WITHIN" = some u/\ZU (.int 5) u
 fR:mg "TimeError" = some (.ref a.C_TimeError)
 fS:W.excIn K a.C_TimeError [.type "ValueError",.type "Exception",.type "BaseException",.type "object"] "ValueError.__new__" = true
 cP:mg "BadSentence" = some (.ref a.C_BadSentence)
 d6:W.excIn K a.C_BadSentence [.type "ValueError",.type "Exception",.type "BaseException",.type "object"] "ValueError.__new__" = true
 fK:mg "NoAhead" = some (.ref a.C_NoAhead)
 gd:W.excIn K a.C_NoAhead [.type "ValueError",.type "Exception",.type "BaseException",.type "object"] "ValueError.__new__" = true
 k_BadSentence:ExcK K a.C_BadSentence
 nk_signs:W.nsIn K a.D_LENGTHS "signs" = some none
 nk_Next:W.nsIn K a.D_LENGTHS "Next" = some none
 nk_never:W.nsIn K a.D_LENGTHS "never" = some none
 ex_BadSentence:W.exmOne K (.ref a.C_BadSentence) (.ref a.C_BadSentence)=some true
 nk_BadSentence_NoAhead:W.kitOne K (.ref a.C_BadSentence) (.ref a.C_NoAhead)=some false
 i3_BadSentence:W.kitOne K (.ref a.C_BadSentence) (.type "ValueError")=some true
 fA:mg "YES" = some (.ref a.Y_YES)
 y_YES:∀H:Hp,SqT K H a.Y_YES [.str "yes"]
 dq:mg "STEADY_WORDS" = some (.ref a.Y_STEADY_WORDS)
 y_STEADY_WORDS:∀H:Hp,SqT K H a.Y_STEADY_WORDS [.str "next",.str "always",.str "ever",.str "until",.str "within",.str "once",.str "sofar",.str "since"]
 fe:mg "LENGTHS" = some (.ref a.D_LENGTHS)
 cC:DicK K a.Pm a.D_LENGTHS [("all",2),("some",2),("not",2),("next",2),("always",2),("ever",2),("before",2),("once",2),("sofar",2),("until",3),("since",3)]
 ai:Cls K a.C_Table
 ge:mg "Table" = some (.ref a.C_Table)
 fY:Mk K a.C_Table a.Table_init
 ic_Table:W.kitOne K (.ref a.C_Table) (.ref a.C_Table)=some true
 t1_Table:W.findIn K (.ref a.C_Table) "__class__" = some (some (.builtin "object.__class__"))
 t2_Table:W.specialIn K (.builtin "object.__class__") "__get__" = some (some (.builtin "getset_descriptor.__get__"))
 t3_Table:W.takesIn K (.builtin "object.__class__")=some true
 t4_Table:W.mroIn K a.C_Table (.type "object")=some true
 aW:X7 K a.C_Table "parts"
 aO:X7 K a.C_Table "rows"
 aD:X7 K a.C_Table "numbers"
 aa:Cls K a.C_Shorts
 fB:mg "Shorts" = some (.ref a.C_Shorts)
 fg:Mk K a.C_Shorts a.Shorts_init
 ic_Shorts:W.kitOne K (.ref a.C_Shorts) (.ref a.C_Shorts)=some true
 t1_Shorts:W.findIn K (.ref a.C_Shorts) "__class__" = some (some (.builtin "object.__class__"))
 t2_Shorts:W.specialIn K (.builtin "object.__class__") "__get__" = some (some (.builtin "getset_descriptor.__get__"))
 t3_Shorts:W.takesIn K (.builtin "object.__class__")=some true
 t4_Shorts:W.mroIn K a.C_Shorts (.type "object")=some true
 ag:X7 K a.C_Shorts "table"
 bz:X7 K a.C_Shorts "yes"
 bM:X7 K a.C_Shorts "no"
def xC(K:W.Frag)(a:Adr):Sp:=fun vs H Q _=>∃x,vs=[x]/\Kd H x/\Q (.bl (yv x)) H
variable{P:Program}{w:World}{K:W.Frag}{mg:Str->Option Value}{base:Heap}{a:Adr}
theorem xj(T:Txt K mg a)(hw:w.params=a.Pm):Yq P w K mg base CX0 1 a.is_whole a.cF gH (xC K a):=by
 refine T.d7.ok xx (fun vs H Q E h=>?_) (fun gF A outer s H vs Q E hr h=>?_)
 ·obtain⟨x,rfl,_⟩:=h;rfl
 ·obtain⟨x,rfl,hk,k⟩:=h;refine⟨_,(@Zg _ _ _ (@Zo _ _ _ _ (Vs (ZB (Vu (K:=K) rfl "int") rfl T.aH ln (@Zd _ _ _ _ _ (pv 0) (@Zc _ _ _ (WX (v:=.ty "int") rfl T.gi lp rfl) (by rfl)) (by rfl))) (V0 (pe_not (ZB (Vu (K:=K) rfl "bool") rfl T.aH ln (@Zd _ _ _ _ _ (pv 0) (@Zc _ _ _ (WX (v:=.ty "bool") rfl T.gp PyProof.Rows.Boot.«bool» rfl) (by rfl)) (by rfl)))))))),?_⟩;cases hb:Xu H "int" x with
  |false=>
   obtain⟨t,h1,h2⟩:=U9 K (by simp) hk hb;have e:yv x=false:=by cases hk<;>first|rfl|(simp[Xu] at hb)
   rw[e] at k;exact⟨_,rfl,_,t,_,rfl,h1,h2,_,rfl,Yi k⟩
  |true=>
   obtain⟨t,h1,h2⟩:=U9 K (by simp) hk hb;obtain⟨u,h3,h4⟩:=U9 K (T := "bool") (by simp) hk rfl;have e:yv x = !Xu H "bool" x:=by
    cases hk with
    |lst e=>simp[Xu,e] at hb
    |tup e=>simp[Xu,e] at hb
    |dK e=>simp[Xu,e] at hb
    |non=>simp[Xu] at hb
    |str z hz=>simp[Xu] at hb
    |bl b=>rfl
    |int i=>rfl
   rw[e] at k;exact⟨_,rfl,_,t,_,rfl,h1,h2,_,rfl,Xh ⟨_,rfl,_,u,_,rfl,h3,h4,_,rfl,k⟩⟩
def vS(K:W.Frag)(a:Adr):Sp:=fun vs H Q _=>∃x,vs=[x]/\Kd H x/\∀H',Za H H'->Q (.bl (Wy x)) H'
theorem vK(T:Txt K mg a)(hw:w.params=a.Pm):Yq P w K mg base CX0 1 a.is_name a.df gH (vS K a):=by
 refine T.eO.ok vt (fun vs H Q E h=>?_) (fun gF A outer s H vs Q E hr h=>?_)
 ·obtain⟨x,rfl,_⟩:=h;rfl
 ·obtain⟨x,rfl,hk,k⟩:=h;refine⟨_,(@Zb _ _ _ _ _ (@ZI _ _ _ _ _ _ _ _ (PW.pt (X9 (@XO _ _ _ _ (Vj (ZB (Vu (K:=K) rfl "str") rfl T.aH ln (@Zd _ _ _ _ _ (pv 0) (@Zc _ _ _ (WX (v:=.ty "str") rfl T.gs PyProof.Rows.Boot.«str» rfl) (by rfl)) (by rfl))))) (XG (@XO _ _ _ _ (pt_chain zM zM Zh (ZB (ZK (K:=K) rfl) rfl T.bL lr (@Zc _ _ _ (pv 0) (by rfl))) (Wl rfl T.dn)))))) (@Zg _ _ _ (@Zo _ _ _ _ Vl)) Zt) (@Zg _ _ _ (@Zo _ _ _ _ (ZB (call_allK (K:=K) rfl rfl) rfl T.gw PyProof.Rows.Boot.«all» (@Zc _ _ _ (Ws (Nc:=["letter"]) (ix:=[none]) (YJ.of (by decide +kernel:Xo (Zi Xy) ["thing"] ["letter"] [none] _=true)) rfl (pi_str (pv 0)) (fun _ _ _ _ _=>(ZY (i:=0) (show List.Nodup (["letter"]:List Str) by decide +kernel) rfl (Or.inl rfl))) (fun _ _ _ _ _=>WB) (fun _ _ _ _ _=>(@Xk _ _ _ _ _ _ _ _ op_in_str (pv 0) (Wl rfl T.fJ) (by with_unfolding_all rfl)))) (by rfl)))))),?_⟩;rcases kd_str hk with⟨hb,z,rfl,hz⟩|⟨hb,e⟩
  ·obtain⟨t,h1,h2⟩:=U9 K (by simp) hk hb;refine⟨_,rfl,_,t,_,rfl,h1,h2,_,rfl,Yi ?_⟩;refine⟨_,rfl,.inr (.inl ⟨z,rfl,by rw[gU];omega,_,_,rfl,rfl,_,rfl,?_⟩)⟩;have fin:decide (1<=(z.length:Int))=true->decide ((z.length:Int)<=8)=true->Wy (.str z)=z.cps.toList.all ze:=fun a b=>by
    have a':=iz a;have b':=iz b;have a2:1<=z.length:=by omega
    have b2:z.length<=8:=by omega
    simp[Wy,Xn,a2,b2]
   have nof:¬((1:Int)<=z.length/\(z.length:Int)<=8)->Wy (.str z)=false:=fun q=>by
    have:¬(1<=z.length/\z.length<=8):=by omega
    simp only[Wy,Xn]
    by_cases h1:1<=z.length
    ·have h2:¬z.length<=8:=fun h2=>this ⟨h1,h2⟩;simp[h1,h2]
    ·simp[h1]
   refine Xv (fun c1=>?_) (fun c1=>?_)
   ·refine⟨_,_,rfl,rfl,_,rfl,?_⟩;cases c2:decide ((z.length:Int)<=8) with
    |false=>
     refine Xh ?_;have q:=k H (.refl H);rw[nof (fun q=>by have:=of_decide_eq_false c2;omega)] at q;exact q
    |true=>
     refine Yi ⟨_,rfl,z,rfl,fun D hD=>?_⟩;refine UC (J:=Its z) (n:=z.cps.size) (fun i σ H'=>Za H H'/\H' D=some (.lst ((z.cps.toList.take i).map fun c=>V.bl (ze c)))/\∃y,σ=[y]) ?_ (fun i σ H' hi _=>hi) (fun σ H' _=>gY _) ?_ ?_
     ·exact⟨Zl hD,Zf,_,rfl⟩
     ·rintro i x σ H' H2 hi ⟨sm,hl,y,rfl⟩ ⟨rfl,c,hc,rfl⟩ N N0 hN hN0;refine⟨_,rfl,_,_,rfl,rfl,?_⟩;have el:=PySem.StrLaws.found_one ("abcdefghijklmnopqrstuvwxyz" : Str) c;refine hN _ _ _ _ hl (by rw[hJ,hV,gU];have:z.cps.size=z.length:=rfl;omega) ⟨(Zx.upd (Za.x sm)).same hD,?_,_,rfl⟩;have hc':z.cps.toList[i]?=some c:=by rw[kh];exact hc
      rw[Zf,List.take_add_one,hc',iZ];refine io (fun b=>some (HO.lst (_++[V.bl b]))) ?_;rw[<- xq];exact el
     ·rintro σ H' ⟨sm,hl,y,rfl⟩;have et:z.cps.toList.take z.cps.size=z.cps.toList:=by rw[<- jO];exact List.take_length
      rw[et] at hl;have q:=k H' sm;rw[fin c1 c2,<- all_id] at q;exact⟨D,z.cps.toList.map ze,rfl,ll (by rw[hl,iw];rfl),q⟩
   ·refine⟨_,rfl,Xh ?_⟩;have q:=k H (.refl H);rw[nof (fun q=>c1 (hX q.1))] at q;exact q
  ·obtain⟨t,h1,h2⟩:=U9 K (by simp) hk hb;have q:=k H (.refl H);rw[e] at q;exact⟨_,rfl,_,t,_,rfl,h1,h2,_,rfl,Xh (Xh q)⟩
def yF(K:W.Frag)(a:Adr):Sp:=fun vs H Q _=>∃(p:Addr) (xs:List V) (m:Nat),vs=[.ref p,.int (m:Nat)]/\H p=some (.lst xs)/\m<=xs.length/\∀H' l,Zx p H H'->H' p=some (.lst (xs.take (xs.length-m)))->H l=none->H' l=some (.lst (xs.drop (xs.length-m)))->Q (.ref l) H'
theorem Wd(T:Txt K mg a)(hw:w.params=a.Pm):Yq P w K mg base CX0 1 a.last_ones a.bY ["things", "many"] (yF K a):=by
 refine T.bA.ok WT (fun vs H Q E h=>?_) (fun gF A outer s H vs Q E hr h=>?_)
 ·obtain⟨p,xs,m,rfl,_⟩:=h;rfl
 ·obtain⟨p,xs,m,rfl,hp,hm,k⟩:=h;refine⟨_,(@Zb _ _ _ _ _ (@Zr _ _ (2) _ _ _ _ WT.nd rfl (Or.inl rfl) (@ZE _ _ _ _ _ _ _ _ op_sub (ZB (ZK (K:=K) rfl) rfl T.bL lr (@Zc _ _ _ (pv 0) (by rfl))) (pv 1)) (by rfl) (.inl rfl)) (@Zb _ _ _ _ _ (@Zr _ _ (3) _ _ _ _ WT.nd rfl (Or.inl rfl) (YG (WO (K:=K) rfl) (pv 0) (YQ (pv 2)) Y6) (by rfl) (.inl rfl)) (@Zb _ _ _ _ _ (vy (pv 0) (pv 2)) (@Zg _ _ _ (@Zo _ _ _ _ (pv 3)))))),?_⟩;have e:(xs.length:Int)-(m:Int)=((xs.length-m:Nat):Int):=by omega
  refine⟨_,rfl,.inl ⟨p,_,rfl,.inl (ll hp),_,rfl,_,_,rfl,rfl,?_⟩⟩;refine⟨_,rfl,_,rfl,((xs.length-m:Nat):Int),io V.int e,p,xs,rfl,ll hp,fun l hl=>?_⟩;rw[UE _ _ (by omega)];have np:=ne_new hp hl;refine⟨_,rfl,_,rfl,p,xs,xs.length-m,rfl,io V.int e,Wh hp np,by omega,?_⟩;refine⟨_,rfl,k _ l (Za.x (Zl hl)).upd Zf hl ?_⟩;rw[ZS (ie np),Zf]
def yV(K:W.Frag)(a:Adr):Sp:=fun vs H Q _=>∃(v:V) (b:Bool),vs=[v]/\((b=true/\FmT K H v)\/(b=false/\Fm K H v))/\∀H',Za H H'->Q (.bl b) H'
theorem nw_of:∀w∈(["signs", "Next", "never"]:List Str),w ≠ "yes" /\ w ≠ "sign" /\ w∉(["and", "or"]:List Str)/\w ≠ "within" := by decide +kernel
theorem nwx{w:Str}(h:w∉NW):w ≠ "yes" /\ w ≠ "sign" /\ w∉(["and", "or"]:List Str)/\w ≠ "within" := by
 refine⟨fun e=>h (by rw[e];simp),fun e=>h (by rw[e];simp),fun e=>h ?_,fun e=>h (by rw[e];simp)⟩;simp at e;rcases e with rfl|rfl<;>simp
theorem Uz(T:Txt K mg a)(hw:w.params=a.Pm):Yq P w K mg base CX0 2 a.is_formed a.bZ gH (yV K a):=by
 have fZ:=xj (P:=P) (w:=w) (base:=base) T hw;have gf:=vK (P:=P) (w:=w) (base:=base) T hw;refine T.cJ.ok V8 (fun vs H Q E h=>?_) (fun gF A outer s H vs Q E hr h=>?_)
 ·obtain⟨v,b,rfl,_⟩:=h;rfl
 ·obtain⟨v,b,rfl,hb,k⟩:=h;refine⟨_,(@Zb _ _ _ _ _ (@ZI _ _ _ _ _ _ _ _ (PW.pt (X9 (@XO _ _ _ _ (Vj (ZB (xG (K:=K) rfl) rfl T.aH ln (@Zd _ _ _ _ _ (pv 0) (@Zc _ _ _ (WX (v:=.ty "tuple") rfl T.cO lv rfl) (by rfl)) (by rfl))))) (X9 (@Zm _ _ _ _ _ _ _ _ ZL (ZB (ZK (K:=K) rfl) rfl T.bL lr (@Zc _ _ _ (pv 0) (by rfl))) Zh (Zs _)) (XG (@XO _ _ _ _ (Vj (ZB (Vu (K:=K) rfl "str") rfl T.aH ln (@Zd _ _ _ _ _ (@ZA _ _ _ _ _ _ _ (ZJ (K:=K) rfl) (pv 0) Zh (fun _ _=>rfl)) (@Zc _ _ _ (WX (v:=.ty "str") rfl T.gs PyProof.Rows.Boot.«str» rfl) (by rfl)) (by rfl))))))))) (@Zg _ _ _ (@Zo _ _ _ _ Vl)) Zt) (@Zb _ _ _ _ _ (@Zr _ _ (1) _ _ _ _ V8.nd rfl (Or.inl rfl) (@ZA _ _ _ _ _ _ _ (ZJ (K:=K) rfl) (pv 0) Zh (fun _ _=>rfl)) (by rfl) (.inl rfl)) (@Zb _ _ _ _ _ (@ZI _ _ _ _ _ _ _ _ (@Zm _ _ _ _ _ _ _ _ ZL (pv 1) Ze (Zs _)) (@Zg _ _ _ (@Zo _ _ _ _ (@Xk _ _ _ _ _ _ _ _ ZL (ZB (ZK (K:=K) rfl) rfl T.bL lr (@Zc _ _ _ (pv 0) (by rfl))) Zh (Zs _)))) Zt) (@Zb _ _ _ _ _ (@ZI _ _ _ _ _ _ _ _ (@Zm _ _ _ _ _ _ _ _ ZL (pv 1) Ze (Zs _)) (@Zg _ _ _ (@Zo _ _ _ _ (Vs (@Xk _ _ _ _ _ _ _ _ ZL (ZB (ZK (K:=K) rfl) rfl T.bL lr (@Zc _ _ _ (pv 0) (by rfl))) Zh (Zs _)) (V0 (Zp gf (hr.mono (by decide)) rfl T.fG T.eO.kp T.fF .nil Zw (@Zc _ _ _ (@ZA _ _ _ _ _ _ _ (ZJ (K:=K) rfl) (pv 0) Zh (fun _ _=>rfl)) (by rfl))))))) Zt) (@Zb _ _ _ _ _ (@ZI _ _ _ _ _ _ _ _ (@Zm _ _ _ _ _ _ _ _ (Vf (K:=K) rfl) (pv 1) (@Zj _ _ _ _ _ (@Zd _ _ _ _ _ Ze (@Zc _ _ _ Ze (by rfl)) (by rfl))) (by with_unfolding_all rfl)) (@Zg _ _ _ (@Zo _ _ _ _ (Vs (@Xk _ _ _ _ _ _ _ _ ZL (ZB (ZK (K:=K) rfl) rfl T.bL lr (@Zc _ _ _ (pv 0) (by rfl))) Zh (Zs _)) (V0 (ZB (xG (K:=K) rfl) rfl T.aH ln (@Zd _ _ _ _ _ (@ZA _ _ _ _ _ _ _ (ZJ (K:=K) rfl) (pv 0) Zh (fun _ _=>rfl)) (@Zc _ _ _ (WX (v:=.ty "tuple") rfl T.cO lv rfl) (by rfl)) (by rfl))))))) Zt) (@Zb _ _ _ _ _ (@ZI _ _ _ _ _ _ _ _ (@Zm _ _ _ _ _ _ _ _ ZL (pv 1) Ze (Zs _)) (@Zg _ _ _ (@Zo _ _ _ _ (Vs (@Xk _ _ _ _ _ _ _ _ ZL (ZB (ZK (K:=K) rfl) rfl T.bL lr (@Zc _ _ _ (pv 0) (by rfl))) Zh (Zs _)) (Vs (Zp fZ (hr.mono (by decide)) rfl T.fj T.d7.kp T.fi .nil Zw (@Zc _ _ _ (@ZA _ _ _ _ _ _ _ (ZJ (K:=K) rfl) (pv 0) Zh (fun _ _=>rfl)) (by rfl))) (V0 (pe_chain zM zM Zh (@ZA _ _ _ _ _ _ _ (ZJ (K:=K) rfl) (pv 0) Zh (fun _ _=>rfl)) (Wl rfl T.d5))))))) Zt) (@Zg _ _ _ (@Zo _ _ _ _ (Vs (@Xk _ _ _ _ _ _ _ _ (op_inD2 (K:=K) (P:=a.Pm) rfl hw) (pv 1) (Wl (v:=.ref a.D_LENGTHS) rfl ⟨_,T.fe,rfl⟩) (by with_unfolding_all rfl)) (V0 (@Xk _ _ _ _ _ _ _ _ ZL (ZB (ZK (K:=K) rfl) rfl T.bL lr (@Zc _ _ _ (pv 0) (by rfl))) (@ZA _ _ _ _ _ _ _ (ix_dic (K:=K) (P:=a.Pm) rfl hw) (Wl (v:=.ref a.D_LENGTHS) rfl ⟨_,T.fe,rfl⟩) (pv 1) (fun _ _=>rfl)) (Zs _)))))))))))),?_⟩;rcases hb with⟨rfl,hT⟩|⟨rfl,hF⟩
  ·obtain⟨ad,us,c,rfl,sh,ok⟩:=hT;obtain⟨xs,e⟩:=sh.tup;obtain⟨ty2,c3,c4⟩:=Wr (K:=K) (H:=H) (Zv c);refine⟨_,rfl,_,rfl,.inl ⟨ad,_,rfl,e,_,rfl,Yi ?_⟩⟩;refine⟨_,rfl,.inl ⟨ad,_,rfl,.inr e,rfl,_,rfl,ZF (fun z=>by have:=V.int.inj z;simp at this<;>omega) ?_⟩⟩;refine⟨_,rfl,ad,_,_,_,rfl,rfl,e,Zk (j:=0) rfl,_,ty2,_,rfl,c3,c4,_,rfl,Yi ?_⟩;refine⟨_,rfl,ad,_,_,_,rfl,rfl,e,Zk (j:=0) rfl,?_⟩;clear e c3 c4 ty2 xs
   revert sh ok
   cases c with
   |yes=>
    intro sh ok;refine⟨_,rfl,rfl,_,rfl,YH rfl ?_⟩;exact⟨_,rfl,.inl ⟨ad,_,rfl,.inr (sh.2),rfl,qD (by rfl) (k _ (.refl _))⟩⟩
   |sign z=>
    intro sh ok;refine⟨_,rfl,rfl,_,rfl,ZF (fun z=>(by decide +kernel:¬(("sign" : Str) = "yes")) (V.str.inj z)) ?_⟩;refine⟨_,rfl,rfl,_,rfl,YH rfl ?_⟩;refine⟨_,rfl,.inl ⟨ad,_,rfl,.inr (sh.2),rfl,_,rfl,YH (by rfl) ?_⟩⟩;refine⟨_,rfl,ad,_,_,_,rfl,rfl,sh.2,Zk (j:=1) rfl,.str z,rfl,.str z (iq (vE ok.2) (by decide)),fun H' s'=>?_⟩;have e:Wy (.str z)=true:=ok.2;rw[e];exact k H' s'
   |op w=>
    intro sh ok;obtain⟨h1,h2,h3,h4,_⟩:=Vi w (by rcases ok with ok|ok;exact iX _ ok.1;exact iE _ ok.1);refine⟨_,rfl,rfl,_,rfl,ZF (fun z=>h1 (V.str.inj z)) ?_⟩;refine⟨_,rfl,rfl,_,rfl,ZF (fun z=>h2 (V.str.inj z)) ?_⟩;refine⟨_,rfl,by rw[gU];simp,fun q hq2=>⟨q,_,rfl,.inr (lh Zf),rfl,rfl,_,rfl,Xr (ss:=["and", "or"]) h3 ?_⟩⟩;have s1:=Zl (o:=.tup [.str "and",.str "or"]) hq2;have e1:=lg s1 K _ _ sh;generalize upd H q (.tup [.str "and",.str "or"])=H1 at s1 e1 ⊢;refine⟨_,rfl,rfl,_,rfl,ZF (fun z=>h4 (V.str.inj z)) ?_⟩;obtain⟨i,hm,hi⟩:∃i:Int,(w,i)∈LK/\((us.length+1:Nat):Int)=i:=by
     rcases ok with⟨ok,o2⟩|⟨ok,o2⟩
     ·exact⟨2,lk1 w ok,by omega⟩
     ·exact⟨3,lk2 w ok,by omega⟩
    refine⟨_,rfl,w,_,_,true,rfl,rfl,T.cC,.inl ⟨rfl,i,hm⟩,_,rfl,Xh ⟨_,rfl,.inl ⟨ad,_,rfl,.inr (e1),_,rfl,_,w,_,i,rfl,rfl,T.cC,hm,rfl,qD (io V.int hi) (k _ s1)⟩⟩⟩
   |wit m=>
    intro sh ok;refine⟨_,rfl,rfl,_,rfl,ZF (fun z=>(by decide +kernel:¬(("within" : Str) = "yes")) (V.str.inj z)) ?_⟩;refine⟨_,rfl,rfl,_,rfl,ZF (fun z=>(by decide +kernel:¬(("within" : Str) = "sign")) (V.str.inj z)) ?_⟩;refine⟨_,rfl,by rw[gU];simp,fun q hq2=>⟨q,_,rfl,.inr (lh Zf),rfl,rfl,_,rfl,Xr (ss:=["and", "or"]) (show("within" : Str)∉(["and", "or"]:List Str) by decide +kernel) ?_⟩⟩;have s1:=Zl (o:=.tup [.str "and",.str "or"]) hq2;have e1:=lg s1 K _ _ sh;generalize upd H q (.tup [.str "and",.str "or"])=H1 at s1 e1 ⊢;refine⟨_,rfl,rfl,_,rfl,YH rfl ?_⟩;have hu:us.length=2:=ok.2;refine⟨_,rfl,.inl ⟨ad,_,rfl,.inr (e1),rfl,_,rfl,YH (io V.int (by simp[hu])) ?_⟩⟩;refine⟨_,rfl,ad,_,_,_,rfl,rfl,e1,Zk (j:=1) rfl,.int m,rfl,.int m,_,rfl,Xh ?_⟩;exact⟨_,rfl,ad,_,_,_,rfl,rfl,e1,Zk (j:=1) rfl,_,_,rfl,rfl,_,rfl,YH ok.1.1 ⟨_,_,rfl,rfl,qD ok.1.2 (k _ s1)⟩⟩
   |many w=>
    intro sh ok;obtain⟨b,sh1,sh2⟩:=sh;have hw0:w∈(["and", "or"]:List Str):=by rcases ok.1 with rfl|rfl<;>simp
    obtain⟨h1,h2,h3,_⟩:=XR w hw0;refine⟨_,rfl,rfl,_,rfl,ZF (fun z=>h1 (V.str.inj z)) ?_⟩;refine⟨_,rfl,rfl,_,rfl,ZF (fun z=>h2 (V.str.inj z)) ?_⟩;refine⟨_,rfl,by rw[gU];simp,fun q hq2=>⟨q,_,rfl,.inr (lh Zf),rfl,rfl,_,rfl,U5 (ss:=["and", "or"]) hw0 ?_⟩⟩;have s1:=Zl (o:=.tup [.str "and",.str "or"]) hq2;have e1:=lg s1 K _ _ sh1;have e2:=lg s1 K _ _ sh2;generalize upd H q (.tup [.str "and",.str "or"])=H1 at s1 e1 e2 ⊢;exact⟨_,rfl,.inl ⟨ad,_,rfl,.inr (e1),rfl,_,rfl,YH (by rfl) ⟨_,rfl,ad,_,_,_,rfl,rfl,e1,Zk (j:=1) rfl,_,rfl,.inl ⟨b,_,rfl,e2,k _ s1⟩⟩⟩⟩
  cases hF with
  |noT hk ht=>
   obtain⟨t,h1,h2⟩:=U9 K (by simp) hk ht;exact⟨_,rfl,_,rfl,.inr ⟨t,h1,h2,_,rfl,Xh (k _ (.refl _))⟩⟩
  |@emp ad e=>
   refine⟨_,rfl,_,rfl,.inl ⟨ad,_,rfl,e,_,rfl,Yi ?_⟩⟩;exact⟨_,rfl,.inl ⟨ad,_,rfl,.inr e,rfl,_,rfl,YH rfl (k _ (.refl _))⟩⟩
  |@noS ad x xs e hk ht=>
   obtain⟨t,h1,h2⟩:=U9 K (by simp) hk ht;refine⟨_,rfl,_,rfl,.inl ⟨ad,_,rfl,e,_,rfl,Yi ?_⟩⟩;refine⟨_,rfl,.inl ⟨ad,_,rfl,.inr e,rfl,_,rfl,ZF (fun z=>by have:=V.int.inj z;simp at this<;>omega) ?_⟩⟩;exact⟨_,rfl,ad,_,_,_,rfl,rfl,e,Zk (j:=0) rfl,_,t,_,rfl,h1,h2,_,rfl,Xh (k _ (.refl _))⟩
  |@yes ad xs e hl=>
   obtain⟨ty2,c3,c4⟩:=Wr (K:=K) (H:=H) "yes";refine⟨_,rfl,_,rfl,.inl ⟨ad,_,rfl,e,_,rfl,Yi ?_⟩⟩;refine⟨_,rfl,.inl ⟨ad,_,rfl,.inr e,rfl,_,rfl,ZF (fun z=>by have:=V.int.inj z;simp at this<;>omega) ?_⟩⟩;refine⟨_,rfl,ad,_,_,_,rfl,rfl,e,Zk (j:=0) rfl,_,ty2,_,rfl,c3,c4,_,rfl,Yi ?_⟩;refine⟨_,rfl,ad,_,_,_,rfl,rfl,e,Zk (j:=0) rfl,?_⟩;refine⟨_,rfl,rfl,_,rfl,YH rfl ?_⟩;exact⟨_,rfl,.inl ⟨ad,_,rfl,.inr e,rfl,qN (fun z=>by have:=V.int.inj z;simp at this<;>omega) (k _ (.refl _))⟩⟩
  |@sgnL ad xs e hl=>
   obtain⟨ty2,c3,c4⟩:=Wr (K:=K) (H:=H) "sign";refine⟨_,rfl,_,rfl,.inl ⟨ad,_,rfl,e,_,rfl,Yi ?_⟩⟩;refine⟨_,rfl,.inl ⟨ad,_,rfl,.inr e,rfl,_,rfl,ZF (fun z=>by have:=V.int.inj z;simp at this<;>omega) ?_⟩⟩;refine⟨_,rfl,ad,_,_,_,rfl,rfl,e,Zk (j:=0) rfl,_,ty2,_,rfl,c3,c4,_,rfl,Yi ?_⟩;refine⟨_,rfl,ad,_,_,_,rfl,rfl,e,Zk (j:=0) rfl,?_⟩;refine⟨_,rfl,rfl,_,rfl,ZF (fun z=>(by decide +kernel:¬(("sign" : Str) = "yes")) (V.str.inj z)) ?_⟩;refine⟨_,rfl,rfl,_,rfl,YH rfl ?_⟩;exact⟨_,rfl,.inl ⟨ad,_,rfl,.inr e,rfl,_,rfl,ZF (fun z=>by have:=V.int.inj z;simp at this<;>omega) (k _ (.refl _))⟩⟩
  |@sgn ad x e hk hx=>
   obtain⟨ty2,c3,c4⟩:=Wr (K:=K) (H:=H) "sign";refine⟨_,rfl,_,rfl,.inl ⟨ad,_,rfl,e,_,rfl,Yi ?_⟩⟩;refine⟨_,rfl,.inl ⟨ad,_,rfl,.inr e,rfl,_,rfl,ZF (fun z=>by have:=V.int.inj z;simp at this<;>omega) ?_⟩⟩;refine⟨_,rfl,ad,_,_,_,rfl,rfl,e,Zk (j:=0) rfl,_,ty2,_,rfl,c3,c4,_,rfl,Yi ?_⟩;refine⟨_,rfl,ad,_,_,_,rfl,rfl,e,Zk (j:=0) rfl,?_⟩;refine⟨_,rfl,rfl,_,rfl,ZF (fun z=>(by decide +kernel:¬(("sign" : Str) = "yes")) (V.str.inj z)) ?_⟩;refine⟨_,rfl,rfl,_,rfl,YH rfl ?_⟩;refine⟨_,rfl,.inl ⟨ad,_,rfl,.inr e,rfl,_,rfl,YH (by rfl) ?_⟩⟩;refine⟨_,rfl,ad,_,_,_,rfl,rfl,e,Zk (j:=1) rfl,x,rfl,hk,fun H' s'=>?_⟩;rw[hx];exact k H' s'
  |@manyL ad w xs hw0 e hl=>
   obtain⟨h1,h2,h3,_⟩:=XR w hw0;obtain⟨ty2,c3,c4⟩:=Wr (K:=K) (H:=H) w;refine⟨_,rfl,_,rfl,.inl ⟨ad,_,rfl,e,_,rfl,Yi ?_⟩⟩;refine⟨_,rfl,.inl ⟨ad,_,rfl,.inr e,rfl,_,rfl,ZF (fun z=>by have:=V.int.inj z;simp at this<;>omega) ?_⟩⟩;refine⟨_,rfl,ad,_,_,_,rfl,rfl,e,Zk (j:=0) rfl,_,ty2,_,rfl,c3,c4,_,rfl,Yi ?_⟩;refine⟨_,rfl,ad,_,_,_,rfl,rfl,e,Zk (j:=0) rfl,?_⟩;refine⟨_,rfl,rfl,_,rfl,ZF (fun z=>h1 (V.str.inj z)) ?_⟩;refine⟨_,rfl,rfl,_,rfl,ZF (fun z=>h2 (V.str.inj z)) ?_⟩;refine⟨_,rfl,by rw[gU];simp,fun q hq2=>⟨q,_,rfl,.inr (lh Zf),rfl,rfl,_,rfl,U5 (ss:=["and", "or"]) hw0 ?_⟩⟩;have s1:=Zl (o:=.tup [.str "and",.str "or"]) hq2;have e1:=lg s1 K _ _ e;generalize upd H q (.tup [.str "and",.str "or"])=H1 at s1 e1 ⊢;exact⟨_,rfl,.inl ⟨ad,_,rfl,.inr (e1),rfl,_,rfl,ZF (fun z=>by have:=V.int.inj z;simp at this<;>omega) (k _ s1)⟩⟩
  |@manyN ad w x hw0 e hk ht=>
   obtain⟨h1,h2,h3,_⟩:=XR w hw0;obtain⟨ty2,c3,c4⟩:=Wr (K:=K) (H:=H) w;refine⟨_,rfl,_,rfl,.inl ⟨ad,_,rfl,e,_,rfl,Yi ?_⟩⟩;refine⟨_,rfl,.inl ⟨ad,_,rfl,.inr e,rfl,_,rfl,ZF (fun z=>by have:=V.int.inj z;simp at this<;>omega) ?_⟩⟩;refine⟨_,rfl,ad,_,_,_,rfl,rfl,e,Zk (j:=0) rfl,_,ty2,_,rfl,c3,c4,_,rfl,Yi ?_⟩;refine⟨_,rfl,ad,_,_,_,rfl,rfl,e,Zk (j:=0) rfl,?_⟩;refine⟨_,rfl,rfl,_,rfl,ZF (fun z=>h1 (V.str.inj z)) ?_⟩;refine⟨_,rfl,rfl,_,rfl,ZF (fun z=>h2 (V.str.inj z)) ?_⟩;refine⟨_,rfl,by rw[gU];simp,fun q hq2=>⟨q,_,rfl,.inr (lh Zf),rfl,rfl,_,rfl,U5 (ss:=["and", "or"]) hw0 ?_⟩⟩;have s1:=Zl (o:=.tup [.str "and",.str "or"]) hq2;have e1:=lg s1 K _ _ e;generalize upd H q (.tup [.str "and",.str "or"])=H1 at s1 e1 ⊢;obtain⟨t,h5,h6⟩:=U9 K (by simp) (hk.mono s1) ((VB s1 hk).trans ht);exact⟨_,rfl,.inl ⟨ad,_,rfl,.inr (e1),rfl,_,rfl,YH (by rfl) ⟨_,rfl,ad,_,_,_,rfl,rfl,e1,Zk (j:=1) rfl,_,rfl,.inr ⟨t,h5,h6,k _ s1⟩⟩⟩⟩
  |@witL ad xs e hl=>
   obtain⟨ty2,c3,c4⟩:=Wr (K:=K) (H:=H) "within";refine⟨_,rfl,_,rfl,.inl ⟨ad,_,rfl,e,_,rfl,Yi ?_⟩⟩;refine⟨_,rfl,.inl ⟨ad,_,rfl,.inr e,rfl,_,rfl,ZF (fun z=>by have:=V.int.inj z;simp at this<;>omega) ?_⟩⟩;refine⟨_,rfl,ad,_,_,_,rfl,rfl,e,Zk (j:=0) rfl,_,ty2,_,rfl,c3,c4,_,rfl,Yi ?_⟩;refine⟨_,rfl,ad,_,_,_,rfl,rfl,e,Zk (j:=0) rfl,?_⟩;refine⟨_,rfl,rfl,_,rfl,ZF (fun z=>(by decide +kernel:¬(("within" : Str) = "yes")) (V.str.inj z)) ?_⟩;refine⟨_,rfl,rfl,_,rfl,ZF (fun z=>(by decide +kernel:¬(("within" : Str) = "sign")) (V.str.inj z)) ?_⟩;refine⟨_,rfl,by rw[gU];simp,fun q hq2=>⟨q,_,rfl,.inr (lh Zf),rfl,rfl,_,rfl,Xr (ss:=["and", "or"]) (show("within" : Str)∉(["and", "or"]:List Str) by decide +kernel) ?_⟩⟩;have s1:=Zl (o:=.tup [.str "and",.str "or"]) hq2;have e1:=lg s1 K _ _ e;generalize upd H q (.tup [.str "and",.str "or"])=H1 at s1 e1 ⊢;refine⟨_,rfl,rfl,_,rfl,YH rfl ?_⟩;exact⟨_,rfl,.inl ⟨ad,_,rfl,.inr (e1),rfl,_,rfl,ZF (fun z=>by have:=V.int.inj z;simp at this<;>omega) (k _ s1)⟩⟩
  |@witN ad x y z e hk hx=>
   obtain⟨ty2,c3,c4⟩:=Wr (K:=K) (H:=H) "within";refine⟨_,rfl,_,rfl,.inl ⟨ad,_,rfl,e,_,rfl,Yi ?_⟩⟩;refine⟨_,rfl,.inl ⟨ad,_,rfl,.inr e,rfl,_,rfl,ZF (fun z=>by have:=V.int.inj z;simp at this<;>omega) ?_⟩⟩;refine⟨_,rfl,ad,_,_,_,rfl,rfl,e,Zk (j:=0) rfl,_,ty2,_,rfl,c3,c4,_,rfl,Yi ?_⟩;refine⟨_,rfl,ad,_,_,_,rfl,rfl,e,Zk (j:=0) rfl,?_⟩;refine⟨_,rfl,rfl,_,rfl,ZF (fun z=>(by decide +kernel:¬(("within" : Str) = "yes")) (V.str.inj z)) ?_⟩;refine⟨_,rfl,rfl,_,rfl,ZF (fun z=>(by decide +kernel:¬(("within" : Str) = "sign")) (V.str.inj z)) ?_⟩;refine⟨_,rfl,by rw[gU];simp,fun q hq2=>⟨q,_,rfl,.inr (lh Zf),rfl,rfl,_,rfl,Xr (ss:=["and", "or"]) (show("within" : Str)∉(["and", "or"]:List Str) by decide +kernel) ?_⟩⟩;have s1:=Zl (o:=.tup [.str "and",.str "or"]) hq2;have e1:=lg s1 K _ _ e;generalize upd H q (.tup [.str "and",.str "or"])=H1 at s1 e1 ⊢;refine⟨_,rfl,rfl,_,rfl,YH rfl ?_⟩;refine⟨_,rfl,.inl ⟨ad,_,rfl,.inr (e1),rfl,_,rfl,YH (by rfl) ?_⟩⟩;refine⟨_,rfl,ad,_,_,_,rfl,rfl,e1,Zk (j:=1) rfl,x,rfl,hk.mono s1,?_⟩;rw[hx];exact⟨_,rfl,Yi (k _ s1)⟩
  |@witM ad m y z e hm=>
   obtain⟨ty2,c3,c4⟩:=Wr (K:=K) (H:=H) "within";refine⟨_,rfl,_,rfl,.inl ⟨ad,_,rfl,e,_,rfl,Yi ?_⟩⟩;refine⟨_,rfl,.inl ⟨ad,_,rfl,.inr e,rfl,_,rfl,ZF (fun z=>by have:=V.int.inj z;simp at this<;>omega) ?_⟩⟩;refine⟨_,rfl,ad,_,_,_,rfl,rfl,e,Zk (j:=0) rfl,_,ty2,_,rfl,c3,c4,_,rfl,Yi ?_⟩;refine⟨_,rfl,ad,_,_,_,rfl,rfl,e,Zk (j:=0) rfl,?_⟩;refine⟨_,rfl,rfl,_,rfl,ZF (fun z=>(by decide +kernel:¬(("within" : Str) = "yes")) (V.str.inj z)) ?_⟩;refine⟨_,rfl,rfl,_,rfl,ZF (fun z=>(by decide +kernel:¬(("within" : Str) = "sign")) (V.str.inj z)) ?_⟩;refine⟨_,rfl,by rw[gU];simp,fun q hq2=>⟨q,_,rfl,.inr (lh Zf),rfl,rfl,_,rfl,Xr (ss:=["and", "or"]) (show("within" : Str)∉(["and", "or"]:List Str) by decide +kernel) ?_⟩⟩;have s1:=Zl (o:=.tup [.str "and",.str "or"]) hq2;have e1:=lg s1 K _ _ e;generalize upd H q (.tup [.str "and",.str "or"])=H1 at s1 e1 ⊢;refine⟨_,rfl,rfl,_,rfl,YH rfl ?_⟩;refine⟨_,rfl,.inl ⟨ad,_,rfl,.inr (e1),rfl,_,rfl,YH (by rfl) ?_⟩⟩;refine⟨_,rfl,ad,_,_,_,rfl,rfl,e1,Zk (j:=1) rfl,.int m,rfl,.int m,_,rfl,Xh ?_⟩;refine⟨_,rfl,ad,_,_,_,rfl,rfl,e1,Zk (j:=1) rfl,_,_,rfl,rfl,_,rfl,?_⟩
   by_cases h0:0<=m
   ·exact YH h0 ⟨_,_,rfl,rfl,qN (fun h5=>hm ⟨h0,h5⟩) (k _ s1)⟩
   ·exact ZF h0 (k _ s1)
  |@word ad w xs e hw1=>
   obtain⟨h1,h2,h3,h4⟩:=nw_of w hw1;obtain⟨ty2,c3,c4⟩:=Wr (K:=K) (H:=H) w;refine⟨_,rfl,_,rfl,.inl ⟨ad,_,rfl,e,_,rfl,Yi ?_⟩⟩;refine⟨_,rfl,.inl ⟨ad,_,rfl,.inr e,rfl,_,rfl,ZF (fun z=>by have:=V.int.inj z;simp at this<;>omega) ?_⟩⟩;refine⟨_,rfl,ad,_,_,_,rfl,rfl,e,Zk (j:=0) rfl,_,ty2,_,rfl,c3,c4,_,rfl,Yi ?_⟩;refine⟨_,rfl,ad,_,_,_,rfl,rfl,e,Zk (j:=0) rfl,?_⟩;refine⟨_,rfl,rfl,_,rfl,ZF (fun z=>h1 (V.str.inj z)) ?_⟩;refine⟨_,rfl,rfl,_,rfl,ZF (fun z=>h2 (V.str.inj z)) ?_⟩;refine⟨_,rfl,by rw[gU];simp,fun q hq2=>⟨q,_,rfl,.inr (lh Zf),rfl,rfl,_,rfl,Xr (ss:=["and", "or"]) h3 ?_⟩⟩;have s1:=Zl (o:=.tup [.str "and",.str "or"]) hq2;have e1:=lg s1 K _ _ e;generalize upd H q (.tup [.str "and",.str "or"])=H1 at s1 e1 ⊢;refine⟨_,rfl,rfl,_,rfl,ZF (fun z=>h4 (V.str.inj z)) ?_⟩;have hn:W.nsIn K a.D_LENGTHS w=some none:=by
    simp at hw1;rcases hw1 with rfl|rfl|rfl
    ·exact T.nk_signs
    ·exact T.nk_Next
    ·exact T.nk_never
   exact⟨_,rfl,w,_,_,false,rfl,rfl,T.cC,.inr ⟨rfl,hn⟩,_,rfl,Yi (k _ s1)⟩
  |@lens ad w i xs e hw1 hm hi=>
   obtain⟨h1,h2,h3,h4⟩:=nwx hw1;obtain⟨ty2,c3,c4⟩:=Wr (K:=K) (H:=H) w;refine⟨_,rfl,_,rfl,.inl ⟨ad,_,rfl,e,_,rfl,Yi ?_⟩⟩;refine⟨_,rfl,.inl ⟨ad,_,rfl,.inr e,rfl,_,rfl,ZF (fun z=>by have:=V.int.inj z;simp at this<;>omega) ?_⟩⟩;refine⟨_,rfl,ad,_,_,_,rfl,rfl,e,Zk (j:=0) rfl,_,ty2,_,rfl,c3,c4,_,rfl,Yi ?_⟩;refine⟨_,rfl,ad,_,_,_,rfl,rfl,e,Zk (j:=0) rfl,?_⟩;refine⟨_,rfl,rfl,_,rfl,ZF (fun z=>h1 (V.str.inj z)) ?_⟩;refine⟨_,rfl,rfl,_,rfl,ZF (fun z=>h2 (V.str.inj z)) ?_⟩;refine⟨_,rfl,by rw[gU];simp,fun q hq2=>⟨q,_,rfl,.inr (lh Zf),rfl,rfl,_,rfl,Xr (ss:=["and", "or"]) h3 ?_⟩⟩;have s1:=Zl (o:=.tup [.str "and",.str "or"]) hq2;have e1:=lg s1 K _ _ e;generalize upd H q (.tup [.str "and",.str "or"])=H1 at s1 e1 ⊢;refine⟨_,rfl,rfl,_,rfl,ZF (fun z=>h4 (V.str.inj z)) ?_⟩;exact⟨_,rfl,w,_,_,true,rfl,rfl,T.cC,.inl ⟨rfl,i,hm⟩,_,rfl,Xh ⟨_,rfl,.inl ⟨ad,_,rfl,.inr (e1),_,rfl,_,w,_,i,rfl,rfl,T.cC,hm,rfl,qN (fun z=>hi (V.int.inj z)) (k _ s1)⟩⟩⟩
def xP(K:W.Frag)(a:Adr):Sp:=fun vs H Q _=>∃(v:V) (ad:Addr) (us:List V) (c:Lb),vs=[v]/\v=.ref ad/\WK K H ad us c/\lbOkB c us.length/\∀H' b,Za H H'->SqT K H' b us->Q (.ref b) H'
theorem qt(x y:V)(vs:List V):Wp (x::y::vs) (some 2) none=vs:=by
 have:=UE (x::y::vs) 2 (by simp);exact this
theorem Vr(x:V)(vs:List V):Wp (x::vs) (some 1) none=vs:=by
 have:=UE (x::vs) 1 (by simp);exact this
theorem Va{n:Nat}{k:Int}(h:0<k)(hn:(k:Int)<=n):¬(HT.sIx n 0 (some k)=0/\HT.sIx n n none=n):=by
 rintro⟨h1,_⟩;have h2:¬(k<0):=by omega
 unfold HT.sIx at h1;simp only[h2,iR] at h1;omega
theorem Xz(T:Txt K mg a)(hw:w.params=a.Pm):Yq P w K mg base CX0 1 a.inner_of a.cG gG (xP K a):=by
 refine T.bt.ok U6 (fun vs H Q E h=>?_) (fun gF A outer s H vs Q E hr h=>?_)
 ·obtain⟨v,ad,us,c,rfl,_⟩:=h;rfl
 ·obtain⟨v,ad,us,c,rfl,rfl,sh,ok,k⟩:=h;refine⟨_,(@Zb _ _ _ _ _ (@Zr _ _ (1) _ _ _ _ U6.nd rfl (Or.inl rfl) (@ZA _ _ _ _ _ _ _ (ZJ (K:=K) rfl) (pv 0) Zh (fun _ _=>rfl)) (by rfl) (.inl rfl)) (@Zb _ _ _ _ _ (@ZI _ _ _ _ _ _ _ _ (@Zm _ _ _ _ _ _ _ _ (Vf (K:=K) rfl) (pv 1) (@Zj _ _ _ _ _ (@Zd _ _ _ _ _ Ze (@Zc _ _ _ Ze (by rfl)) (by rfl))) (by with_unfolding_all rfl)) (@Zg _ _ _ (@Zo _ _ _ _ (@Zj _ _ _ _ _ Y2))) Zt) (@Zb _ _ _ _ _ (@ZI _ _ _ _ _ _ _ _ (@Zm _ _ _ _ _ _ _ _ (Vf (K:=K) rfl) (pv 1) (@Zj _ _ _ _ _ (@Zd _ _ _ _ _ Ze (@Zc _ _ _ Ze (by rfl)) (by rfl))) (by with_unfolding_all rfl)) (@Zg _ _ _ (@Zo _ _ _ _ (@ZA _ _ _ _ _ _ _ (ZJ (K:=K) rfl) (pv 0) Zh (fun _ _=>rfl)))) Zt) (@Zb _ _ _ _ _ (@ZI _ _ _ _ _ _ _ _ (@Zm _ _ _ _ _ _ _ _ ZL (pv 1) Ze (Zs _)) (@Zg _ _ _ (@Zo _ _ _ _ (YG (WC (K:=K) rfl) (pv 0) (YQ Zh) Y6))) Zt) (@Zg _ _ _ (@Zo _ _ _ _ (YG (WC (K:=K) rfl) (pv 0) (YQ Zh) Y6))))))),?_⟩;obtain⟨xs,e⟩:=sh.tup;refine⟨_,rfl,ad,_,_,_,rfl,rfl,e,Zk (j:=0) rfl,?_⟩;refine⟨_,rfl,by rw[gU];simp,fun q hq2=>⟨q,_,rfl,.inr (lh Zf),rfl,rfl,_,rfl,?_⟩⟩;have s1:=Zl (o:=.tup [.str "yes",.str "sign"]) hq2;generalize upd H q (.tup [.str "yes",.str "sign"])=H1 at s1 ⊢;have sh1:=sh.mono (lg s1);clear e xs sh
  revert sh1 ok
  cases c with
  |yes=>
   intro ok sh;refine U5 (ss:=["yes", "sign"]) (by decide +kernel) ⟨by rw[gU];simp,fun r hr=>?_⟩;have h0:=sh.1;subst h0;exact k _ r (s1.trans (Zl hr)) (lh Zf)
  |sign z=>
   intro ok sh;refine U5 (ss:=["yes", "sign"]) (show("sign" : Str)∈(["yes", "sign"]:List Str) by decide +kernel) ⟨by rw[gU];simp,fun r hr=>?_⟩;have h0:=sh.1;subst h0;exact k _ r (s1.trans (Zl hr)) (lh Zf)
  |op w=>
   intro ok sh;obtain⟨h1,h2,h3,h4,h5⟩:=Vi w (by rcases ok with ok|ok;exact iX _ ok.1;exact iE _ ok.1);refine Xr (ss:=["yes", "sign"]) h5 ?_;refine⟨_,rfl,by rw[gU];simp,fun q3 hq3=>⟨q3,_,rfl,.inr (lh Zf),rfl,rfl,_,rfl,Xr (ss:=["and", "or"]) h3 ?_⟩⟩;have s2:=Zl (o:=.tup [.str "and",.str "or"]) hq3;generalize upd H1 q3 (.tup [.str "and",.str "or"])=H2 at s2 ⊢;refine⟨_,rfl,rfl,_,rfl,ZF (fun z=>h4 (V.str.inj z)) ?_⟩;refine⟨_,rfl,_,rfl,ad,_,rfl,(lg s2 K _ _ sh),Va (by decide) (by simp;omega),fun r hr=>?_⟩;rw[Vr];exact k _ r ((s1.trans s2).trans (Zl hr)) (lh Zf)
  |wit m=>
   intro ok sh;refine Xr (ss:=["yes", "sign"]) (show("within" : Str)∉(["yes", "sign"]:List Str) by decide +kernel) ?_;refine⟨_,rfl,by rw[gU];simp,fun q3 hq3=>⟨q3,_,rfl,.inr (lh Zf),rfl,rfl,_,rfl,Xr (ss:=["and", "or"]) (show("within" : Str)∉(["and", "or"]:List Str) by decide +kernel) ?_⟩⟩;have s2:=Zl (o:=.tup [.str "and",.str "or"]) hq3;generalize upd H1 q3 (.tup [.str "and",.str "or"])=H2 at s2 ⊢;refine⟨_,rfl,rfl,_,rfl,YH rfl ?_⟩;refine⟨_,rfl,_,rfl,ad,_,rfl,(lg s2 K _ _ sh),Va (by decide) (by simp;omega),fun r hr=>?_⟩;rw[qt];exact k _ r ((s1.trans s2).trans (Zl hr)) (lh Zf)
  |many w=>
   intro ok sh;have hw0:w∈(["and", "or"]:List Str):=by rcases ok.1 with rfl|rfl<;>simp
   obtain⟨h1,h2,h3,h4,_⟩:=XR w hw0;obtain⟨b,sh1,sh2⟩:=sh;refine Xr (ss:=["yes", "sign"]) h4 ?_;refine⟨_,rfl,by rw[gU];simp,fun q3 hq3=>⟨q3,_,rfl,.inr (lh Zf),rfl,rfl,_,rfl,U5 (ss:=["and", "or"]) hw0 ?_⟩⟩;have s2:=Zl (o:=.tup [.str "and",.str "or"]) hq3;generalize upd H1 q3 (.tup [.str "and",.str "or"])=H2 at s2 ⊢;exact⟨_,rfl,ad,_,_,_,rfl,rfl,(lg s2 K _ _ sh1),Zk (j:=1) rfl,k _ b (s1.trans s2) (lg s2 K _ _ sh2)⟩
theorem UI:∀ts:List Tr,ts.length<=(Z2 ts).length
 |[]=>by simp[Z2]
 |t::r=>by
  have:=UI r;rw[Z2,hG,iA,Vy t,hG];simp;omega
def qK(K:W.Frag)(a:Adr):Sp:=fun vs H Q _=>∃(v:V) (t:Tr) (n:Nat),vs=[v]/\At K n H v t/\(post t).length<=8000000/\∀H' l us,Za H H'->H l=none->H' l=some (.lst us)->AtL K n H' us (post t)->Q (.ref l) H'
theorem XL(T:Txt K mg a)(hw:w.params=a.Pm):Yq P w K mg base CX0 3 a.inner_ahead a.bo gG (qK K a):=by
 have dE:=Uz (P:=P) (w:=w) (base:=base) T hw;have aJ:=Xz (P:=P) (w:=w) (base:=base) T hw;refine T.aG.ok Yl (fun vs H Q E h=>?_) (fun gF A outer s H vs Q E hr h=>?_)
 ·obtain⟨v,t,n,rfl,_⟩:=h;rfl
 ·obtain⟨v,t,n,rfl,hat,hz,k⟩:=h;refine⟨_,(@Zb _ _ _ _ _ (@Zr _ _ (1) _ _ _ _ Yl.nd rfl (Or.inl rfl) (@ZT _ _ _ _ Y2) (by rfl) (.inl rfl)) (@Zb _ _ _ _ _ (@Zr _ _ (2) _ _ _ _ Yl.nd rfl (Or.inl rfl) (@ZT _ _ _ _ (@Zc _ _ _ (pv 0) (by rfl))) (by rfl) (.inl rfl)) (@Zb _ _ _ _ _ (qV iS (XB (K:=K) rfl (pv 2) (fun _=>rfl)) (@Zb _ _ _ _ _ (@Zr _ _ (3) _ _ _ _ Yl.nd rfl (Or.inl rfl) (pe_bm0 iT PySem.F.slot_list_pop PySem.F.type_list_pop mt_pop (pv 2)) (by rfl) (.inl rfl)) (@Zb _ _ _ _ _ (@ZI _ _ _ _ _ _ _ _ (@XO _ _ _ _ (Vj (Zp dE (hr.mono (by decide)) rfl T.dv T.cJ.kp T.du .nil Zw (@Zc _ _ _ (pv 3) (by rfl))))) (@Zg _ _ _ ps_never) Zt) (@Zb _ _ _ _ _ (@YA _ _ _ _ (Wx iT i7 i8 Yv (pv 1) (@Zc _ _ _ (pv 3) (by rfl))) (by rfl)) (@Zg _ _ _ (@YA _ _ _ _ (Wx iT PySem.F.slot_list_extend PySem.F.type_list_extend (zr (K:=K) rfl) (pv 2) (@Zc _ _ _ (Zp aJ (hr.mono (by decide)) rfl T.bC T.bt.kp T.bB .nil Zw (@Zc _ _ _ (pv 3) (by rfl))) (by rfl))) (by rfl))))))) (@Zg _ _ _ (@Zo _ _ _ _ (pe_revK (K:=K) rfl (pv 1) (YQ (VL WI Zh)))))))),?_⟩;cases n with
  |zero=>exact hat.elim
  |succ n=>
   refine⟨by decide,fun F hF=>?_⟩;have s1:=Zl (o:=.lst []) hF;have e1:(upd H F (.lst [])) F=some (.lst []):=Zf;generalize upd H F (.lst [])=H1 at s1 e1 ⊢;refine⟨_,rfl,by rw[gU];simp,fun W hW=>?_⟩;have s2:=Zl (o:=.lst [v]) hW;have e2:(upd H1 W (.lst [v])) W=some (.lst [v]):=Zf;have nFW:F≠W:=ne_new e1 hW;have e1':=s2 _ _ e1;generalize upd H1 W (.lst [v])=H2 at s2 e2 e1' ⊢;have hW0:H W=none:=s1.free hW;have at2:=hat.mono (lg (s1.trans s2));refine⟨fun m σ H'=>∃(z:Option V) (ws fs:List V) (tw tf:List Tr),σ=[some v,some (.ref F),some (.ref W),z]/\Za H H'/\H' F=some (.lst fs)/\H' W=some (.lst ws)/\AtL K (n+1) H' ws tw/\AtL K (n+1) H' fs tf/\tf++(Z2 tw).reverse=(post t).reverse/\m=(Z2 tw).length,⟨_,_,[v],[],[t],[],rfl,s1.trans s2,e1',e2,AtL.one at2,AtL.nil,by rw[ye];rfl,rfl⟩,?_⟩;rintro m σ H3 ⟨z,ws,fs,tw,tf,rfl,s3,hF3,hW3,aw,af,he,rfl⟩;have hlen:tf.length+(Z2 tw).length=(post t).length:=by have:=io List.length he;simpa using this
   have hwl:=UI tw;have hwl2:=aw.1;have hfl2:=af.1;refine⟨_,rfl,!ws.isEmpty,?tru,?_⟩
   case tru=>exact .inl ⟨_,ll hW3,rfl⟩
   cases hws:ws.isEmpty with
   |true=>
    have e0:ws=[]:=jY.mp hws;subst e0;have et:tw=[]:=iG.mp hwl2.symm;subst et;refine Yi ?_;rw[Z2,List.reverse_nil,iQ] at he;refine⟨_,rfl,_,rfl,_,rfl,F,_,rfl,rfl,ll hF3,fun p hp=>?_⟩;have ar:=af.rev;rw[he,List.reverse_reverse] at ar;exact k _ p _ (s3.trans (Zl hp)) (s3.free hp) Zf (ar.mono (lg (Zl hp)))
   |false=>
    have hne:ws≠[]:=fun e=>by rw[e] at hws;cases hws
    obtain⟨us,u,rs,r,ew,etw,aus,au⟩:=aw.last hne;subst ew etw;refine Xh ?_;refine⟨fun σ H'=>∃(z:Option V) (ws fs:List V) (tw tf:List Tr),σ=[some v,some (.ref F),some (.ref W),z]/\Za H H'/\H' F=some (.lst fs)/\H' W=some (.lst ws)/\AtL K (n+1) H' ws tw/\AtL K (n+1) H' fs tf/\tf++(Z2 tw).reverse=(post t).reverse/\(Z2 tw).length<(Z2 (rs++[r])).length,?_,?_⟩
    ·rintro σ' H' ⟨z',ws',fs',tw',tf',rfl,a1,a2,a3,a4,a5,a6,a7⟩;exact⟨_,a7,z',ws',fs',tw',tf',rfl,a1,a2,a3,a4,a5,a6,rfl⟩
    refine⟨_,rfl,.inl ⟨rfl,_,ll hW3⟩,W,_,u,rfl,rfl,hW3,by simp,?_⟩;rw[List.dropLast_concat];have x4:Zx W H3 (upd H3 W (.lst us)):=(Zx.refl H3).upd;have t4:Yk H3 (upd H3 W (.lst us)):=Zx.tup x4 hW3;have hF4:(upd H3 W (.lst us)) F=some (.lst fs):=Wh hF3 nFW;have hW4:(upd H3 W (.lst us)) W=some (.lst us):=Zf;have s4:Za H (upd H3 W (.lst us)):=((Za.x s3).upd).same hW0;generalize upd H3 W (.lst us)=H4 at x4 t4 hF4 hW4 s4 ⊢;have au4:=au.mono t4;refine⟨_,rfl,u,true,rfl,.inl ⟨rfl,au4.fmT⟩,fun H5 s5=>⟨_,rfl,Yi ?_⟩⟩;have hF5:=s5 _ _ hF4;have hW5:=s5 _ _ hW4;have tur:=post_turn rs r;have tl:=io List.length tur;simp at tl;refine⟨_,rfl,.inl ⟨rfl,_,ll hF5⟩,_,rfl,F,_,_,rfl,rfl,hF5,by rw[gU];omega,?_⟩;have x6:Zx F H5 (upd H5 F (.lst (fs++[u]))):=(Zx.refl H5).upd;have t6:Yk H5 (upd H5 F (.lst (fs++[u]))):=Zx.tup x6 hF5;have hF6:(upd H5 F (.lst (fs++[u]))) F=some (.lst (fs++[u])):=Zf;have hW6:(upd H5 F (.lst (fs++[u]))) W=some (.lst us):=Wh hW5 (ie nFW);have s6:Za H (upd H5 F (.lst (fs++[u]))):=((Za.x (s4.trans s5)).upd).same hF;generalize upd H5 F (.lst (fs++[u]))=H6 at x6 t6 hF6 hW6 s6 ⊢;have t46:Yk H3 H6:=t4.trans ((lg s5).trans t6);obtain⟨ad7,ks7,eu7,sh7,ok7,hl7,hq7⟩:=au.mono t46;refine⟨_,rfl,.inl ⟨rfl,_,ll hW6⟩,_,rfl,u,ad7,ks7,r.lb,rfl,eu7,sh7,by rw[hl7];exact ok7.b,fun H7 b s7 eb=>?_⟩;have aL:AtL K n H7 ks7 r.ks:=AtL.mono (lg s7) ⟨hl7,hq7⟩;have hW7:=s7 _ _ hW6;have hkl:=aL.1;have hll:=UI (rs++r.ks);simp at hll;have hul:=aus.1;refine⟨W,b,_,_,rfl,rfl,hW7,eb,by rw[gU];omega,?_⟩;have x8:Zx W H7 (upd H7 W (.lst (us++ks7))):=(Zx.refl H7).upd;have t8:Yk H7 (upd H7 W (.lst (us++ks7))):=Zx.tup x8 hW7;have t38:Yk H3 (upd H7 W (.lst (us++ks7))):=t46.trans ((lg s7).trans t8);refine⟨_,us++ks7,fs++[u],rs++r.ks,tf++[r],rfl,((Za.x (s6.trans s7)).upd).same hW0,Wh (s7 _ _ hF6) nFW,Zf,(aus.mono t38).app ((aL.le (jE n)).mono t8),(af.mono t38).app (AtL.one (au.mono t38)),?_,?_⟩
    ·rw[tur] at he;rw[jc];exact he
    ·omega
def gg(K:W.Frag)(a:Adr):Sp:=fun vs H Q _=>∃(p:Addr) (us:List V) (cs:List Tr) (n:Nat),vs=[.ref p]/\H p=some (.lst us)/\AtL K n H us cs/\cs.length<=8/\1<=n/\∀H' v,Za H H'->At K (n+8) H' v (Wb cs)->Q v H'
theorem yb(T:Txt K mg a)(hw:w.params=a.Pm):Yq P w K mg base CX0 1 a.and_of a.dJ ["cores"] (gg K a):=by
 refine T.eN.ok Vv (fun vs H Q E h=>?_) (fun gF A outer s H vs Q E hr h=>?_)
 ·obtain⟨p,us,cs,n,rfl,_⟩:=h;rfl
 ·obtain⟨p,us,cs,n,rfl,hp,aL,h8,hn,k⟩:=h;refine⟨_,(@Zb _ _ _ _ _ (@ZI _ _ _ _ _ _ _ _ (@XO _ _ _ _ (XB (K:=K) rfl (pv 0) (fun _=>rfl))) (@Zg _ _ _ (@Zo _ _ _ _ (Wl (v:=.ref a.Y_YES) rfl ⟨_,T.fA,rfl⟩))) Zt) (@Zb _ _ _ _ _ (@Zr _ _ (1) _ _ _ _ Vv.nd rfl (Or.inl rfl) (@ZA _ _ _ _ _ _ _ (Zz (K:=K) rfl) (pv 0) (VL WI Zh) (fun _ _=>rfl)) (by rfl) (.inl rfl)) (@Zb _ _ _ _ _ (Xw iS rfl (pi_revK (K:=K) rfl rfl T.d9 (@Zc _ _ _ (YG (WO (K:=K) rfl) (pv 0) Y6 (YQ (VL WI Zh))) (by rfl))) (ZY (i:=2) Vv.nd rfl (Or.inl rfl)) (@Zg _ _ _ (@Zr _ _ (1) _ _ _ _ Vv.nd rfl (Or.inl rfl) (@Zj _ _ _ _ _ (@Zd _ _ _ _ _ Ze (@Zc _ _ _ (@Zj _ _ _ _ _ (@Zd _ _ _ _ _ (pv 2) (@Zc _ _ _ (pv 1) (by rfl)) (by rfl))) (by rfl)) (by rfl))) (by rfl) (.inl rfl)))) (@Zg _ _ _ (@Zo _ _ _ _ (pv 1)))))),?_⟩;have hul:=aL.1;refine⟨_,rfl,!us.isEmpty,.inl ⟨_,ll hp,rfl⟩,?_⟩;cases hus:us.isEmpty with
  |true=>
   have e0:us=[]:=jY.mp hus;subst e0;have et:cs=[]:=iG.mp hul.symm;subst et;exact Xh (k H _ (.refl _) ((Xb (T.y_YES H):At K (0+1) H _ Zn).le (by omega)))
  |false=>
   have hne:us≠[]:=fun e=>by rw[e] at hus;cases hus
   obtain⟨ws,u,ds,d,ew,ed,aw,au⟩:=aL.last hne;subst ew ed;have hwl:=aw.1;refine Yi ?_;refine⟨_,rfl,1,rfl,p,_,_,u,rfl,rfl,ll hp,qH,?_⟩;refine⟨_,rfl,1,rfl,_,rfl,p,_,rfl,ll hp,fun c hc=>?_⟩;rw[xz _ (by simp)];have ec:(ws++[u]).take ((ws++[u]).length-1)=ws:=by simp
   rw[ec];have s1:=Zl (o:=.lst ws) hc;have e1:(upd H c (.lst ws)) c=some (.lst ws):=Zf;generalize upd H c (.lst ws)=H1 at s1 e1 ⊢;refine⟨c,ws,rfl,ll e1,?_⟩;refine yn (J:=Itv K c ws.length) (n:=ws.length) (fun i σ H'=>∃(z:Option V) (v:V),σ=[some (.ref p),some v,z]/\Za H1 H'/\At K (n+i) H' v (Wb (ds.drop (ws.length-i)++[d]))) ?_ ?_ ?_ ?_ ?_
   ·refine⟨_,u,rfl,.refl _,?_⟩;rw[Nat.sub_zero,hwl,List.drop_length,jH];exact(au.mono (lg s1)).le (by omega)
   ·rintro i σ H' hi ⟨z,v,rfl,s',_⟩;exact⟨hi,ws,ll (s' _ _ e1),rfl⟩
   ·rintro σ H' _;exact gY _
   ·rintro i x σ H2 H2' hi ⟨z,v,rfl,s2,at2⟩ ⟨rfl,hx⟩;have e:=hx ws (ll (s2 _ _ e1));have hj:ws.length-1-i<ds.length:=by omega
    have atk:=(aw.2 _ _ _ e (gZ hj)).mono (lg (s1.trans s2));refine⟨_,rfl,_,rfl,by rw[gU];simp,fun b hb=>?_⟩;have s3:=Zl (o:=.tup [x,v]) hb;have e3:(upd H2' b (.tup [x,v])) b=some (.tup [x,v]):=Zf;generalize upd H2' b (.tup [x,v])=H3 at s3 e3 ⊢;refine⟨by rw[gU];simp,fun t ht=>?_⟩;have s4:=Zl (o:=.tup [.str "and",.ref b]) ht;have e4:(upd H3 t (.tup [.str "and",.ref b])) t=some (.tup [.str "and",.ref b]):=Zf;generalize upd H3 t (.tup [.str "and",.ref b])=H4 at s4 e4 ⊢;refine⟨_,.ref t,rfl,s2.trans (s3.trans s4),?_⟩;have ed:ds.drop (ws.length-(i+1))=ds[ws.length-1-i]::ds.drop (ws.length-i):=by
     have e1':ws.length-(i+1)=ws.length-1-i:=by omega
     have e2':ws.length-i=ws.length-1-i+1:=by omega
     rw[e1',e2'];exact jZ hj
    rw[ed,jI,andT_cons (by simp)];have T4:=lg (s3.trans s4);exact XV (lh e4) (lh (s4 _ _ e3)) (AtL.two ((atk.le (show n<=n+i by omega)).mono T4) (at2.mono T4)) (.inl rfl) (by simp)
   rintro σ H2 ⟨z,v,rfl,s2,at2⟩;rw[jK,List.drop_zero] at at2;simp at h8;exact⟨_,rfl,k _ v (s1.trans s2) (at2.le (by omega))⟩
def gk(K:W.Frag)(a:Adr):Sp:=fun vs H Q _=>∃(p:Addr) (us:List V) (cs:List Tr) (n:Nat),vs=[.ref p]/\H p=some (.lst us)/\AtL K n H us cs/\cs.length<=8/\1<=n/\∀H' v,Za H H'->At K (n+24) H' v (orT cs)->Q v H'
theorem xU(T:Txt K mg a)(hw:w.params=a.Pm):Yq P w K mg base CX0 1 a.or_of a.eK ["cores"] (gk K a):=by
 refine T.ft.ok Uc (fun vs H Q E h=>?_) (fun gF A outer s H vs Q E hr h=>?_)
 ·obtain⟨p,us,cs,n,rfl,_⟩:=h;rfl
 ·obtain⟨p,us,cs,n,rfl,hp,aL,h8,hn,k⟩:=h;refine⟨_,(@Zb _ _ _ _ _ (@ZI _ _ _ _ _ _ _ _ (@XO _ _ _ _ (XB (K:=K) rfl (pv 0) (fun _=>rfl))) (@Zg _ _ _ (@Zo _ _ _ _ (@Zj _ _ _ _ _ (@Zd _ _ _ _ _ Ze (@Zc _ _ _ (Wl (v:=.ref a.Y_YES) rfl ⟨_,T.fA,rfl⟩) (by rfl)) (by rfl))))) Zt) (@Zb _ _ _ _ _ (@Zr _ _ (1) _ _ _ _ Uc.nd rfl (Or.inl rfl) (@ZA _ _ _ _ _ _ _ (Zz (K:=K) rfl) (pv 0) (VL WI Zh) (fun _ _=>rfl)) (by rfl) (.inl rfl)) (@Zb _ _ _ _ _ (Xw iS rfl (pi_revK (K:=K) rfl rfl T.d9 (@Zc _ _ _ (YG (WO (K:=K) rfl) (pv 0) Y6 (YQ (VL WI Zh))) (by rfl))) (ZY (i:=2) Uc.nd rfl (Or.inl rfl)) (@Zg _ _ _ (@Zr _ _ (1) _ _ _ _ Uc.nd rfl (Or.inl rfl) (@Zj _ _ _ _ _ (@Zd _ _ _ _ _ Ze (@Zc _ _ _ (@Zj _ _ _ _ _ (@Zd _ _ _ _ _ Ze (@Zc _ _ _ (@Zj _ _ _ _ _ (@Zd _ _ _ _ _ (@Zj _ _ _ _ _ (@Zd _ _ _ _ _ Ze (@Zc _ _ _ (pv 2) (by rfl)) (by rfl))) (@Zc _ _ _ (@Zj _ _ _ _ _ (@Zd _ _ _ _ _ Ze (@Zc _ _ _ (pv 1) (by rfl)) (by rfl))) (by rfl)) (by rfl))) (by rfl)) (by rfl))) (by rfl)) (by rfl))) (by rfl) (.inl rfl)))) (@Zg _ _ _ (@Zo _ _ _ _ (pv 1)))))),?_⟩;have hul:=aL.1;refine⟨_,rfl,!us.isEmpty,.inl ⟨_,ll hp,rfl⟩,?_⟩;cases hus:us.isEmpty with
  |true=>
   have e0:us=[]:=jY.mp hus;subst e0;have et:cs=[]:=iG.mp hul.symm;subst et;refine Xh ⟨by rw[gU];simp,fun t ht=>?_⟩;have s4:=Zl (o:=.tup [.str "not",.ref a.Y_YES]) ht;exact k _ _ s4 ((ZZ (lh Zf) (by decide +kernel) (Xb (T.y_YES _):At K (0+1) _ _ Zn)).le (by omega))
  |false=>
   have hne:us≠[]:=fun e=>by rw[e] at hus;cases hus
   obtain⟨ws,u,ds,d,ew,ed,aw,au⟩:=aL.last hne;subst ew ed;have hwl:=aw.1;refine Yi ?_;refine⟨_,rfl,1,rfl,p,_,_,u,rfl,rfl,ll hp,qH,?_⟩;refine⟨_,rfl,1,rfl,_,rfl,p,_,rfl,ll hp,fun c hc=>?_⟩;rw[xz _ (by simp)];have ec:(ws++[u]).take ((ws++[u]).length-1)=ws:=by simp
   rw[ec];have s1:=Zl (o:=.lst ws) hc;have e1:(upd H c (.lst ws)) c=some (.lst ws):=Zf;generalize upd H c (.lst ws)=H1 at s1 e1 ⊢;refine⟨c,ws,rfl,ll e1,?_⟩;refine yn (J:=Itv K c ws.length) (n:=ws.length) (fun i σ H'=>∃(z:Option V) (v:V),σ=[some (.ref p),some v,z]/\Za H1 H'/\At K (n+3*i) H' v (orT (ds.drop (ws.length-i)++[d]))) ?_ ?_ ?_ ?_ ?_
   ·refine⟨_,u,rfl,.refl _,?_⟩;rw[Nat.sub_zero,hwl,List.drop_length,jH];exact(au.mono (lg s1)).le (by omega)
   ·rintro i σ H' hi ⟨z,v,rfl,s',_⟩;exact⟨hi,ws,ll (s' _ _ e1),rfl⟩
   ·rintro σ H' _;exact gY _
   ·rintro i x σ H2 H2' hi ⟨z,v,rfl,s2,at2⟩ ⟨rfl,hx⟩;have e:=hx ws (ll (s2 _ _ e1));have hj:ws.length-1-i<ds.length:=by omega
    have atk:=(aw.2 _ _ _ e (gZ hj)).mono (lg (s1.trans s2));refine⟨_,rfl,by rw[gU];simp,fun t1 ht1=>?_⟩;have s3:=Zl (o:=.tup [.str "not",x]) ht1;have e3:(upd H2' t1 (.tup [.str "not",x])) t1=some (.tup [.str "not",x]):=Zf;generalize upd H2' t1 (.tup [.str "not",x])=H3 at s3 e3 ⊢;refine⟨_,rfl,by rw[gU];simp,fun t2 ht2=>?_⟩;have s4:=Zl (o:=.tup [.str "not",v]) ht2;have e4:(upd H3 t2 (.tup [.str "not",v])) t2=some (.tup [.str "not",v]):=Zf;generalize upd H3 t2 (.tup [.str "not",v])=H4 at s4 e4 ⊢;refine⟨by rw[gU];simp,fun b hb=>?_⟩;have s5:=Zl (o:=.tup [.ref t1,.ref t2]) hb;have e5:(upd H4 b (.tup [.ref t1,.ref t2])) b=some (.tup [.ref t1,.ref t2]):=Zf;generalize upd H4 b (.tup [.ref t1,.ref t2])=H5 at s5 e5 ⊢;refine⟨by rw[gU];simp,fun t3 ht3=>?_⟩;have s6:=Zl (o:=.tup [.str "and",.ref b]) ht3;have e6:(upd H5 t3 (.tup [.str "and",.ref b])) t3=some (.tup [.str "and",.ref b]):=Zf;generalize upd H5 t3 (.tup [.str "and",.ref b])=H6 at s6 e6 ⊢;refine⟨by rw[gU];simp,fun t4 ht4=>?_⟩;have s7:=Zl (o:=.tup [.str "not",.ref t3]) ht4;have e7:(upd H6 t4 (.tup [.str "not",.ref t3])) t4=some (.tup [.str "not",.ref t3]):=Zf;generalize upd H6 t4 (.tup [.str "not",.ref t3])=H7 at s7 e7 ⊢;have s47:=s5.trans (s6.trans s7);refine⟨_,.ref t4,rfl,s2.trans (s3.trans (s4.trans s47)),?_⟩;have ed:ds.drop (ws.length-(i+1))=ds[ws.length-1-i]::ds.drop (ws.length-i):=by
     have e1':ws.length-(i+1)=ws.length-1-i:=by omega
     have e2':ws.length-i=ws.length-1-i+1:=by omega
     rw[e1',e2'];exact jZ hj
    rw[ed,jI,orT_cons (by simp)];have T7:=lg (s3.trans (s4.trans s47));have wn:("not" : Str)∈W1:=by decide +kernel
    have q1:At K (n+3*i+1) H7 (.ref t1) (ZO ds[ws.length-1-i]):=ZZ (lh ((s4.trans s47) _ _ e3)) wn ((atk.le (by omega)).mono T7);have q2:At K (n+3*i+1) H7 (.ref t2) (ZO _):=ZZ (lh (s47 _ _ e4)) wn (at2.mono T7);exact ZZ (lh e7) wn (XV (lh (s7 _ _ e6)) (lh ((s6.trans s7) _ _ e5)) (AtL.two q1 q2) (.inl rfl) (by simp))
   rintro σ H2 ⟨z,v,rfl,s2,at2⟩;rw[jK,List.drop_zero] at at2;simp at h8;exact⟨_,rfl,k _ v (s1.trans s2) (at2.le (by omega))⟩
def yD(K:W.Frag)(a:Adr):Sp:=fun vs H Q _=>∃(m:Int) (f s:V) (tf ts:Tr) (n:Nat),vs=[.int m,f,s]/\(0<=m/\m<=5)/\At K n H f tf/\At K n H s ts/\∀H' v,Za H H'->At K (n+25) H' v (Z5 m.toNat tf ts)->Q v H'
theorem yI(T:Txt K mg a)(hw:w.params=a.Pm):Yq P w K mg base CX0 2 a.within_of a.b9 gO (yD K a):=by
 have fC:=yb (P:=P) (w:=w) (base:=base) T hw;have fT:=xU (P:=P) (w:=w) (base:=base) T hw;refine T.dy.ok Wa (fun vs H Q E h=>?_) (fun gF A outer s H vs Q E hr h=>?_)
 ·obtain⟨m,f,s,tf,ts,n,rfl,_⟩:=h;rfl
 ·obtain⟨m,f,s,tf,ts,n,rfl,hm,af,as,k⟩:=h;refine⟨_,(@Zb _ _ _ _ _ (@Zr _ _ (3) _ _ _ _ Wa.nd rfl (Or.inl rfl) (pv 2) (by rfl) (.inl rfl)) (@Zb _ _ _ _ _ (Xw iS rfl (UN rfl T.fz (@Zc _ _ _ (pv 0) (by rfl))) (ZY (i:=4) Wa.nd rfl (Or.inl rfl)) (@Zg _ _ _ (@Zr _ _ (3) _ _ _ _ Wa.nd rfl (Or.inl rfl) (Zp fT (hr.mono (by decide)) rfl T.fQ T.ft.kp T.fP .nil Zw (@Zc _ _ _ (@ZT _ _ _ _ (@Zd _ _ _ _ _ (pv 2) (@Zc _ _ _ (Zp fC (hr.mono (by decide)) rfl T.fq T.eN.kp T.fo .nil Zw (@Zc _ _ _ (@ZT _ _ _ _ (@Zd _ _ _ _ _ (pv 1) (@Zc _ _ _ (@Zj _ _ _ _ _ (@Zd _ _ _ _ _ Ze (@Zc _ _ _ (pv 3) (by rfl)) (by rfl))) (by rfl)) (by rfl))) (by rfl))) (by rfl)) (by rfl))) (by rfl))) (by rfl) (.inl rfl)))) (@Zg _ _ _ (@Zo _ _ _ _ (pv 3))))),?_⟩;have hf:=af.hgt_le;have hs:=as.hgt_le;have hn:1<=n:=iq (hgt_pos ts) hs;refine⟨_,rfl,_,rfl,_,rfl,by omega,by omega,?_⟩;refine for_range (fun i σ H'=>∃(z:Option V) (v:V),σ=[some (.int m),some f,some s,some v,z]/\Za H H'/\At K (n+25) H' v (Z5 i tf ts)) ?_ ?_ ?_
  ·exact⟨_,s,rfl,.refl _,as.le (by omega)⟩
  ·rintro i σ H1 hi ⟨z,v,rfl,s1,at1⟩;have hi':i<m.toNat:=hi;have T1:=lg s1;refine⟨_,rfl,_,rfl,_,rfl,by rw[gU];simp,fun t ht=>?_⟩;have s2:=Zl (o:=.tup [.str "next",v]) ht;have e2:(upd H1 t (.tup [.str "next",v])) t=some (.tup [.str "next",v]):=Zf;generalize upd H1 t (.tup [.str "next",v])=H2 at s2 e2 ⊢;refine⟨by rw[gU];simp,fun L hL=>?_⟩;have s3:=Zl (o:=.lst [f,.ref t]) hL;have e3:(upd H2 L (.lst [f,.ref t])) L=some (.lst [f,.ref t]):=Zf;generalize upd H2 L (.lst [f,.ref t])=H3 at s3 e3 ⊢;have s13:=s1.trans (s2.trans s3);have q1:At K (n+26) H3 (.ref t) (VM (Z5 i tf ts)):=ZZ (lh (s3 _ _ e2)) (by decide +kernel) (at1.mono (lg (s2.trans s3)));refine⟨L,_,[tf,VM (Z5 i tf ts)],n+26,rfl,e3,AtL.two ((af.le (by omega)).mono (lg s13)) q1,by simp,by omega,fun H4 v4 s4 at4=>?_⟩;refine⟨by rw[gU];simp,fun L2' hL2=>?_⟩;have s5:=Zl (o:=.lst [s,v4]) hL2;have e5:(upd H4 L2' (.lst [s,v4])) L2'=some (.lst [s,v4]):=Zf;generalize upd H4 L2' (.lst [s,v4])=H5 at s5 e5 ⊢;have s15:=s13.trans (s4.trans s5);refine⟨L2',_,[ts,Wb [tf,VM (Z5 i tf ts)]],n+34,rfl,e5,AtL.two ((as.le (by omega)).mono (lg s15)) (at4.mono (lg s5)),by simp,by omega,fun H6 v6 s6 at6=>?_⟩;refine⟨_,v6,rfl,s15.trans s6,?_⟩;have e6:orT [ts,Wb [tf,VM (Z5 i tf ts)]]=Z5 (i+1) tf ts:=rfl;rw[e6] at at6;refine at6.fit ?_;have:=vO hf hs (i+1);omega
  rintro σ H1 ⟨z,v,rfl,s1,at1⟩;exact⟨_,rfl,k _ v s1 at1⟩
def yG(K:W.Frag)(a:Adr):Sp:=fun vs H Q _=>∃(v:V) (c:Lb) (ks:List Tr) (n:Nat) (p:Addr) (us:List V) (cs:List Tr) (m:Nat),vs=[v,.ref p]/\At K n H v (.node c ks)/\H p=some (.lst us)/\AtL K m H us cs/\cs.length=ks.length/\1<=m/\∀H' v',Za H H'->At K (m+27) H' v' (YV c cs)->Q v' H'
theorem AtL.first{K:W.Frag}{n:Nat}{H:Hp}{us:List V}{cs:List Tr}(h:AtL K n H us cs)(hl:1<=cs.length):∃u ur c cr,us=u::ur/\cs=c::cr/\At K n H u c:=by
 have hu:=h.1
 match us,cs,h,hl,hu with
 |u::ur,c::cr,h,_,_=>exact⟨u,ur,c,cr,rfl,rfl,h.2 0 u c rfl rfl⟩
 |[],c::cr,h,_,hu=>simp at hu
theorem AtL.pair{K:W.Frag}{n:Nat}{H:Hp}{us:List V}{cs:List Tr}(h:AtL K n H us cs)(hl:cs.length=2):∃u v c d,us=[u,v]/\cs=[c,d]/\At K n H u c/\At K n H v d:=by
 have hu:=h.1
 match us,cs,h,hl,hu with
 |[u,v],[c,d],h,_,_=>exact⟨u,v,c,d,rfl,rfl,h.2 0 u c rfl rfl,h.2 1 v d rfl rfl⟩
 |[],[c,d],h,_,hu=>simp at hu
 |[u],[c,d],h,_,hu=>simp at hu
 |u::v::w::r,[c,d],h,_,hu=>simp at hu
theorem xb(T:Txt K mg a)(hw:w.params=a.Pm):Yq P w K mg base CX0 3 a.core_with a.b0 gL (yG K a):=by
 have fC:=yb (P:=P) (w:=w) (base:=base) T hw;have fT:=xU (P:=P) (w:=w) (base:=base) T hw;have fU:=yI (P:=P) (w:=w) (base:=base) T hw;refine T.dw.ok Up (fun vs H Q E h=>?_) (fun gF A outer s H vs Q E hr h=>?_)
 ·obtain⟨v,c,ks,n,p,us,cs,m,rfl,_⟩:=h;rfl
 ·obtain⟨v,c,ks,n,p,us,cs,m,rfl,hat,hp,aL,hcl,hm,k⟩:=h;refine⟨_,(@Zb _ _ _ _ _ (@Zr _ _ (2) _ _ _ _ Up.nd rfl (Or.inl rfl) (@ZA _ _ _ _ _ _ _ (ZJ (K:=K) rfl) (pv 0) Zh (fun _ _=>rfl)) (by rfl) (.inl rfl)) (@Zb _ _ _ _ _ (@ZI _ _ _ _ _ _ _ _ (@Zm _ _ _ _ _ _ _ _ (Vf (K:=K) rfl) (pv 2) (@Zj _ _ _ _ _ (@Zd _ _ _ _ _ Ze (@Zc _ _ _ Ze (by rfl)) (by rfl))) (by with_unfolding_all rfl)) (@Zg _ _ _ (@Zo _ _ _ _ (pv 0))) Zt) (@Zb _ _ _ _ _ (@ZI _ _ _ _ _ _ _ _ (@Zm _ _ _ _ _ _ _ _ ZL (pv 2) Ze (Zs _)) (@Zg _ _ _ (@Zo _ _ _ _ (Zp fC (hr.mono (by decide)) rfl T.fq T.eN.kp T.fo .nil Zw (@Zc _ _ _ (pv 1) (by rfl))))) Zt) (@Zb _ _ _ _ _ (@ZI _ _ _ _ _ _ _ _ (@Zm _ _ _ _ _ _ _ _ ZL (pv 2) Ze (Zs _)) (@Zg _ _ _ (@Zo _ _ _ _ (Zp fT (hr.mono (by decide)) rfl T.fQ T.ft.kp T.fP .nil Zw (@Zc _ _ _ (pv 1) (by rfl))))) Zt) (@Zb _ _ _ _ _ (@ZI _ _ _ _ _ _ _ _ (@Zm _ _ _ _ _ _ _ _ ZL (pv 2) Ze (Zs _)) (@Zg _ _ _ (@Zo _ _ _ _ (@Zj _ _ _ _ _ (@Zd _ _ _ _ _ Ze (@Zc _ _ _ (@Zj _ _ _ _ _ (@Zd _ _ _ _ _ Ze (@Zc _ _ _ (@Zj _ _ _ _ _ (@Zd _ _ _ _ _ Ze (@Zc _ _ _ (@ZA _ _ _ _ _ _ _ (Zz (K:=K) rfl) (pv 1) Zh (fun _ _=>rfl)) (by rfl)) (by rfl))) (by rfl)) (by rfl))) (by rfl)) (by rfl))))) Zt) (@Zb _ _ _ _ _ (@ZI _ _ _ _ _ _ _ _ (@Zm _ _ _ _ _ _ _ _ ZL (pv 2) Ze (Zs _)) (@Zg _ _ _ (@Zo _ _ _ _ (@Zj _ _ _ _ _ (@ZD _ _ _ _ _ Ze (@ZD _ _ _ _ _ (Wl (v:=.ref a.Y_YES) rfl ⟨_,T.fA,rfl⟩) (@Ym _ _ _ (@ZA _ _ _ _ _ _ _ (Zz (K:=K) rfl) (pv 1) Zh (fun _ _=>rfl)) (by rfl)) (by rfl)) (by rfl))))) Zt) (@Zb _ _ _ _ _ (@ZI _ _ _ _ _ _ _ _ (@Zm _ _ _ _ _ _ _ _ ZL (pv 2) Ze (Zs _)) (@Zg _ _ _ (@Zo _ _ _ _ (@Zj _ _ _ _ _ (@Zd _ _ _ _ _ Ze (@Zc _ _ _ (@Zj _ _ _ _ _ (@ZD _ _ _ _ _ Ze (@ZD _ _ _ _ _ (Wl (v:=.ref a.Y_YES) rfl ⟨_,T.fA,rfl⟩) (@Ym _ _ _ (@Zj _ _ _ _ _ (@Zd _ _ _ _ _ Ze (@Zc _ _ _ (@ZA _ _ _ _ _ _ _ (Zz (K:=K) rfl) (pv 1) Zh (fun _ _=>rfl)) (by rfl)) (by rfl))) (by rfl)) (by rfl)) (by rfl))) (by rfl)) (by rfl))))) Zt) (@Zb _ _ _ _ _ (@ZI _ _ _ _ _ _ _ _ (@Zm _ _ _ _ _ _ _ _ ZL (pv 2) Ze (Zs _)) (@Zg _ _ _ (@Zo _ _ _ _ (@Zj _ _ _ _ _ (@ZD _ _ _ _ _ Ze (@ZD _ _ _ _ _ (Wl (v:=.ref a.Y_YES) rfl ⟨_,T.fA,rfl⟩) (@Ym _ _ _ (@ZA _ _ _ _ _ _ _ (Zz (K:=K) rfl) (pv 1) Zh (fun _ _=>rfl)) (by rfl)) (by rfl)) (by rfl))))) Zt) (@Zb _ _ _ _ _ (@ZI _ _ _ _ _ _ _ _ (@Zm _ _ _ _ _ _ _ _ ZL (pv 2) Ze (Zs _)) (@Zg _ _ _ (@Zo _ _ _ _ (@Zj _ _ _ _ _ (@Zd _ _ _ _ _ Ze (@Zc _ _ _ (@Zj _ _ _ _ _ (@ZD _ _ _ _ _ Ze (@ZD _ _ _ _ _ (Wl (v:=.ref a.Y_YES) rfl ⟨_,T.fA,rfl⟩) (@Ym _ _ _ (@Zj _ _ _ _ _ (@Zd _ _ _ _ _ Ze (@Zc _ _ _ (@ZA _ _ _ _ _ _ _ (Zz (K:=K) rfl) (pv 1) Zh (fun _ _=>rfl)) (by rfl)) (by rfl))) (by rfl)) (by rfl)) (by rfl))) (by rfl)) (by rfl))))) Zt) (@Zb _ _ _ _ _ (@ZI _ _ _ _ _ _ _ _ (@Zm _ _ _ _ _ _ _ _ ZL (pv 2) Ze (Zs _)) (@Zg _ _ _ (@Zo _ _ _ _ (Zp fU (hr.mono (by decide)) rfl T.eU T.dy.kp T.eT .nil Zw (@ZD _ _ _ _ _ (@ZA _ _ _ _ _ _ _ (ZJ (K:=K) rfl) (pv 0) Zh (fun _ _=>rfl)) (@ZD _ _ _ _ _ (@ZA _ _ _ _ _ _ _ (Zz (K:=K) rfl) (pv 1) Zh (fun _ _=>rfl)) (@Ym _ _ _ (@ZA _ _ _ _ _ _ _ (Zz (K:=K) rfl) (pv 1) Zh (fun _ _=>rfl)) (by rfl)) (by rfl)) (by rfl))))) Zt) (@Zg _ _ _ (@Zo _ _ _ _ (@ZE _ _ _ _ _ _ _ _ (Ue (K:=K) rfl) (@Zj _ _ _ _ _ (@Zc _ _ _ (pv 2) (by rfl))) (YD (XA (K:=K) rfl) rfl T.cO lv (@Zc _ _ _ (pv 1) (by rfl)))))))))))))))),?_⟩;cases n with
  |zero=>exact hat.elim
  |succ n=>
   obtain⟨ad,us0,rfl,sh,ok,hl0,hq0⟩:=hat;have hul:=aL.1;obtain⟨xs,e⟩:=sh.tup;refine⟨_,rfl,ad,_,_,_,rfl,rfl,e,Zk (j:=0) rfl,?_⟩;refine⟨_,rfl,by rw[gU];simp,fun q hq=>⟨q,_,rfl,.inr (lh Zf),rfl,rfl,_,rfl,?_⟩⟩;have s1:=Zl (o:=.tup [.str "yes",.str "sign"]) hq;generalize upd H q (.tup [.str "yes",.str "sign"])=H1 at s1 ⊢;have sh1:=sh.mono (lg s1);have aL1:=aL.mono (lg s1);have hp1:=s1 _ _ hp;have wn:("not" : Str)∈W1:=by decide +kernel
   clear e xs sh hq0
   revert sh1 ok
   cases c with
   |yes=>
    intro ok sh;exact U5 (ss:=["yes", "sign"]) (show("yes" : Str)∈(["yes", "sign"]:List Str) by decide +kernel) ⟨_,rfl,k _ _ s1 ((Xb sh.2:At K (0+1) H1 _ Zn).le (by omega))⟩
   |sign z=>
    intro ok sh;exact U5 (ss:=["yes", "sign"]) (show("sign" : Str)∈(["yes", "sign"]:List Str) by decide +kernel) ⟨_,rfl,k _ _ s1 ((W4 sh.2 ok.2:At K (0+1) H1 _ (.node (.sign z) [])).le (by omega))⟩
   |many w=>
    intro ok sh;have hw0:w∈(["and", "or"]:List Str):=by rcases ok.1 with rfl|rfl<;>simp
    have hk8:cs.length<=8:=by rw[hcl];exact ok.2
    refine Xr (ss:=["yes", "sign"]) (XR w hw0).2.2.2.1 ?_;rcases ok.1 with rfl|rfl
    ·refine⟨_,rfl,rfl,_,rfl,YH rfl ?_⟩;exact⟨_,rfl,p,us,cs,m,rfl,hp1,aL1,hk8,hm,fun H2 v2 s2 at2=>k _ _ (s1.trans s2) (at2.le (by omega))⟩
    ·refine⟨_,rfl,rfl,_,rfl,ZF (fun z=>(by decide +kernel:¬(("or" : Str) = "and")) (V.str.inj z)) ?_⟩;refine⟨_,rfl,rfl,_,rfl,YH rfl ?_⟩;exact⟨_,rfl,p,us,cs,m,rfl,hp1,aL1,hk8,hm,fun H2 v2 s2 at2=>k _ _ (s1.trans s2) (at2.le (by omega))⟩
   |wit j=>
    intro ok sh;refine Xr (ss:=["yes", "sign"]) (show("within" : Str)∉(["yes", "sign"]:List Str) by decide +kernel) ?_;refine⟨_,rfl,rfl,_,rfl,ZF (fun z=>(by decide +kernel:¬(("within" : Str) = "and")) (V.str.inj z)) ?_⟩;refine⟨_,rfl,rfl,_,rfl,ZF (fun z=>(by decide +kernel:¬(("within" : Str) = "or")) (V.str.inj z)) ?_⟩;refine⟨_,rfl,rfl,_,rfl,ZF (fun z=>(by decide +kernel:¬(("within" : Str) = "all")) (V.str.inj z)) ?_⟩;refine⟨_,rfl,rfl,_,rfl,ZF (fun z=>(by decide +kernel:¬(("within" : Str) = "ever")) (V.str.inj z)) ?_⟩;refine⟨_,rfl,rfl,_,rfl,ZF (fun z=>(by decide +kernel:¬(("within" : Str) = "always")) (V.str.inj z)) ?_⟩;refine⟨_,rfl,rfl,_,rfl,ZF (fun z=>(by decide +kernel:¬(("within" : Str) = "once")) (V.str.inj z)) ?_⟩;refine⟨_,rfl,rfl,_,rfl,ZF (fun z=>(by decide +kernel:¬(("within" : Str) = "sofar")) (V.str.inj z)) ?_⟩;refine⟨_,rfl,rfl,_,rfl,YH rfl ?_⟩;obtain⟨u0,u1,c0,c1,rfl,rfl,a0,a1⟩:=AtL.pair aL1 (by rw[hcl];exact ok.2);exact⟨_,rfl,ad,_,_,_,rfl,rfl,sh,Zk (j:=1) rfl,_,rfl,p,_,_,u0,rfl,rfl,ll hp1,Zk (j:=0) rfl,_,rfl,p,_,_,u1,rfl,rfl,ll hp1,Zk (j:=1) rfl,j,u0,u1,c0,c1,m,rfl,ok.1,a0,a1,fun H2 v2 s2 at2=>k _ _ (s1.trans s2) (at2.le (by omega))⟩
   |op w=>
    intro ok sh;obtain⟨h1,h2,h3,h4,h5⟩:=Vi w (by rcases ok with ok|ok;exact iX _ ok.1;exact iE _ ok.1);have hlen:1<=cs.length:=by
     rw[hcl];rcases ok with o|o
     ·have h0:ks.length=1:=o.2;omega
     ·have h0:ks.length=2:=o.2;omega
    have hlen2:cs.length<=2:=by
     rw[hcl];rcases ok with o|o
     ·have h0:ks.length=1:=o.2;omega
     ·have h0:ks.length=2:=o.2;omega
    obtain⟨u0,ur,c0,cr,rfl,rfl,a0⟩:=AtL.first aL1 hlen;refine Xr (ss:=["yes", "sign"]) h5 ?_;refine⟨_,rfl,rfl,_,rfl,ZF (fun z=>h3 (by have ez:w = "and" := V.str.inj z;rw[ez];simp)) ?_⟩;refine⟨_,rfl,rfl,_,rfl,ZF (fun z=>h3 (by have ez:w = "or" := V.str.inj z;rw[ez];simp)) ?_⟩
    by_cases n1:w = "all"
    ·subst n1;refine⟨_,rfl,rfl,_,rfl,YH rfl ?_⟩;refine⟨_,rfl,p,_,_,u0,rfl,rfl,ll hp1,Zk (j:=0) rfl,by rw[gU];simp,fun t1 ht1=>?_⟩;have s2:=Zl (o:=.tup [.str "not",u0]) ht1;have e2:(upd H1 t1 (.tup [.str "not",u0])) t1=some (.tup [.str "not",u0]):=Zf;generalize upd H1 t1 (.tup [.str "not",u0])=H2 at s2 e2 ⊢;refine⟨by rw[gU];simp,fun t2 ht2=>?_⟩;have s3:=Zl (o:=.tup [.str "some",.ref t1]) ht2;have e3:(upd H2 t2 (.tup [.str "some",.ref t1])) t2=some (.tup [.str "some",.ref t1]):=Zf;generalize upd H2 t2 (.tup [.str "some",.ref t1])=H3 at s3 e3 ⊢;refine⟨by rw[gU];simp,fun t3 ht3=>?_⟩;have s4:=Zl (o:=.tup [.str "not",.ref t2]) ht3;have e4:(upd H3 t3 (.tup [.str "not",.ref t2])) t3=some (.tup [.str "not",.ref t2]):=Zf;generalize upd H3 t3 (.tup [.str "not",.ref t2])=H4 at s4 e4 ⊢;have q1:At K (m+1) H4 (.ref t1) (ZO c0):=ZZ (lh ((s3.trans s4) _ _ e2)) wn (a0.mono (lg (s2.trans (s3.trans s4))));have q2:At K (m+2) H4 (.ref t2) (nSome (ZO c0)):=ZZ (lh (s4 _ _ e3)) (by decide +kernel) q1;exact k _ _ (s1.trans (s2.trans (s3.trans s4))) ((ZZ (lh e4) wn q2:At K (m+3) H4 _ (ZO (nSome (ZO c0)))).le (by omega))
    refine⟨_,rfl,rfl,_,rfl,ZF (fun z=>n1 (V.str.inj z)) ?_⟩
    by_cases n2:w = "ever"
    ·subst n2;refine⟨_,rfl,rfl,_,rfl,YH rfl ?_⟩;refine⟨_,rfl,p,_,_,u0,rfl,rfl,ll hp1,Zk (j:=0) rfl,by rw[gU];simp,fun t1 ht1=>?_⟩;have s2:=Zl (o:=.tup [.str "until",.ref a.Y_YES,u0]) ht1;have e2:(upd H1 t1 (.tup [.str "until",.ref a.Y_YES,u0])) t1=some (.tup [.str "until",.ref a.Y_YES,u0]):=Zf;generalize upd H1 t1 (.tup [.str "until",.ref a.Y_YES,u0])=H2 at s2 e2 ⊢;exact k _ _ (s1.trans s2) ((V3 (lh e2) (by decide +kernel) ((Xb (T.y_YES _):At K (0+1) H2 _ Zn).le (show 1<=m from hm)) (a0.mono (lg s2)):At K (m+1) H2 _ (.node (.op "until") [Zn,c0])).le (by omega))
    refine⟨_,rfl,rfl,_,rfl,ZF (fun z=>n2 (V.str.inj z)) ?_⟩
    by_cases n3:w = "always"
    ·subst n3;refine⟨_,rfl,rfl,_,rfl,YH rfl ?_⟩;refine⟨_,rfl,p,_,_,u0,rfl,rfl,ll hp1,Zk (j:=0) rfl,by rw[gU];simp,fun t1 ht1=>?_⟩;have s2:=Zl (o:=.tup [.str "not",u0]) ht1;have e2:(upd H1 t1 (.tup [.str "not",u0])) t1=some (.tup [.str "not",u0]):=Zf;generalize upd H1 t1 (.tup [.str "not",u0])=H2 at s2 e2 ⊢;refine⟨by rw[gU];simp,fun t2 ht2=>?_⟩;have s3:=Zl (o:=.tup [.str "until",.ref a.Y_YES,.ref t1]) ht2;have e3:(upd H2 t2 (.tup [.str "until",.ref a.Y_YES,.ref t1])) t2=some (.tup [.str "until",.ref a.Y_YES,.ref t1]):=Zf;generalize upd H2 t2 (.tup [.str "until",.ref a.Y_YES,.ref t1])=H3 at s3 e3 ⊢;refine⟨by rw[gU];simp,fun t3 ht3=>?_⟩;have s4:=Zl (o:=.tup [.str "not",.ref t2]) ht3;have e4:(upd H3 t3 (.tup [.str "not",.ref t2])) t3=some (.tup [.str "not",.ref t2]):=Zf;generalize upd H3 t3 (.tup [.str "not",.ref t2])=H4 at s4 e4 ⊢;have q1:At K (m+1) H4 (.ref t1) (ZO c0):=ZZ (lh ((s3.trans s4) _ _ e2)) wn (a0.mono (lg (s2.trans (s3.trans s4))));have q2:At K (m+2) H4 (.ref t2) (.node (.op "until") [Zn,ZO c0]):=V3 (lh (s4 _ _ e3)) (by decide +kernel) ((Xb (T.y_YES _):At K (0+1) H4 _ Zn).le (by omega)) q1;exact k _ _ (s1.trans (s2.trans (s3.trans s4))) ((ZZ (lh e4) wn q2:At K (m+3) H4 _ (ZO (.node (.op "until") [Zn,ZO c0]))).le (by omega))
    refine⟨_,rfl,rfl,_,rfl,ZF (fun z=>n3 (V.str.inj z)) ?_⟩
    by_cases n4:w = "once"
    ·subst n4;refine⟨_,rfl,rfl,_,rfl,YH rfl ?_⟩;refine⟨_,rfl,p,_,_,u0,rfl,rfl,ll hp1,Zk (j:=0) rfl,by rw[gU];simp,fun t1 ht1=>?_⟩;have s2:=Zl (o:=.tup [.str "since",.ref a.Y_YES,u0]) ht1;have e2:(upd H1 t1 (.tup [.str "since",.ref a.Y_YES,u0])) t1=some (.tup [.str "since",.ref a.Y_YES,u0]):=Zf;generalize upd H1 t1 (.tup [.str "since",.ref a.Y_YES,u0])=H2 at s2 e2 ⊢;exact k _ _ (s1.trans s2) ((V3 (lh e2) (by decide +kernel) ((Xb (T.y_YES _):At K (0+1) H2 _ Zn).le (show 1<=m from hm)) (a0.mono (lg s2)):At K (m+1) H2 _ (.node (.op "since") [Zn,c0])).le (by omega))
    refine⟨_,rfl,rfl,_,rfl,ZF (fun z=>n4 (V.str.inj z)) ?_⟩
    by_cases n5:w = "sofar"
    ·subst n5;refine⟨_,rfl,rfl,_,rfl,YH rfl ?_⟩;refine⟨_,rfl,p,_,_,u0,rfl,rfl,ll hp1,Zk (j:=0) rfl,by rw[gU];simp,fun t1 ht1=>?_⟩;have s2:=Zl (o:=.tup [.str "not",u0]) ht1;have e2:(upd H1 t1 (.tup [.str "not",u0])) t1=some (.tup [.str "not",u0]):=Zf;generalize upd H1 t1 (.tup [.str "not",u0])=H2 at s2 e2 ⊢;refine⟨by rw[gU];simp,fun t2 ht2=>?_⟩;have s3:=Zl (o:=.tup [.str "since",.ref a.Y_YES,.ref t1]) ht2;have e3:(upd H2 t2 (.tup [.str "since",.ref a.Y_YES,.ref t1])) t2=some (.tup [.str "since",.ref a.Y_YES,.ref t1]):=Zf;generalize upd H2 t2 (.tup [.str "since",.ref a.Y_YES,.ref t1])=H3 at s3 e3 ⊢;refine⟨by rw[gU];simp,fun t3 ht3=>?_⟩;have s4:=Zl (o:=.tup [.str "not",.ref t2]) ht3;have e4:(upd H3 t3 (.tup [.str "not",.ref t2])) t3=some (.tup [.str "not",.ref t2]):=Zf;generalize upd H3 t3 (.tup [.str "not",.ref t2])=H4 at s4 e4 ⊢;have q1:At K (m+1) H4 (.ref t1) (ZO c0):=ZZ (lh ((s3.trans s4) _ _ e2)) wn (a0.mono (lg (s2.trans (s3.trans s4))));have q2:At K (m+2) H4 (.ref t2) (.node (.op "since") [Zn,ZO c0]):=V3 (lh (s4 _ _ e3)) (by decide +kernel) ((Xb (T.y_YES _):At K (0+1) H4 _ Zn).le (by omega)) q1;exact k _ _ (s1.trans (s2.trans (s3.trans s4))) ((ZZ (lh e4) wn q2:At K (m+3) H4 _ (ZO (.node (.op "since") [Zn,ZO c0]))).le (by omega))
    refine⟨_,rfl,rfl,_,rfl,ZF (fun z=>n5 (V.str.inj z)) ?_⟩;refine⟨_,rfl,rfl,_,rfl,ZF (fun z=>h4 (V.str.inj z)) ?_⟩;have hW:Zv (Tr.node (.op w) ks).lb=w:=rfl;rw[hW];refine⟨_,rfl,by rw[gU];simp,fun t1 ht1=>?_⟩;have s2:=Zl (o:=.tup [.str w]) ht1;have e2:(upd H1 t1 (.tup [.str w])) t1=some (.tup [.str w]):=Zf;generalize upd H1 t1 (.tup [.str w])=H2 at s2 e2 ⊢;refine⟨_,rfl,p,_,rfl,.inl ⟨ll (s2 _ _ hp1),fun b hb=>?_⟩⟩;have s3:=Zl (o:=.tup (u0::ur)) hb;have e3:(upd H2 b (.tup (u0::ur))) b=some (.tup (u0::ur)):=Zf;generalize upd H2 b (.tup (u0::ur))=H3 at s3 e3 ⊢;refine⟨t1,b,_,_,rfl,rfl,lh (s3 _ _ e2),lh e3,by simp,by rw[gU];simp at hul hlen2 ⊢; omega,(fun z=>by cases z),fun _ r hr=>?_⟩;have s4:=Zl (o:=.tup ([.str w]++(u0::ur))) hr;have aL4:=aL1.mono (lg (s2.trans (s3.trans s4)));have ef:YV (.op w) (c0::cr)=.node (.op w) (c0::cr):=by
     unfold YV;dsimp only;rw[if_neg n1,if_neg n2,if_neg n3,if_neg n4,if_neg n5]
    refine k _ _ (s1.trans (s2.trans (s3.trans s4))) ?_;rw[ef];refine At.le (n:=m+1) ⟨r,u0::ur,rfl,lh Zf,?_,hul,aL4.2⟩ (by omega)
    show Yh (.op w) (c0::cr).length
    rw[hcl];exact ok
theorem AtL.take{K:W.Frag}{n:Nat}{H:Hp}{us:List V}{cs:List Tr}(h:AtL K n H us cs)(m:Nat):AtL K n H (us.take m) (cs.take m):=by
 refine⟨by rw[hV,hV,h.1],fun i u k h1 h2=>?_⟩;rw[List.getElem?_take] at h1 h2
 split at h1
 ·rename_i hi
  rw[if_pos hi] at h2;exact h.2 i u k h1 h2
 ·cases h1
theorem AtL.drop{K:W.Frag}{n:Nat}{H:Hp}{us:List V}{cs:List Tr}(h:AtL K n H us cs)(m:Nat):AtL K n H (us.drop m) (cs.drop m):=by
 refine⟨by rw[jh,jh,h.1],fun i u k h1 h2=>?_⟩;rw[jy] at h1 h2;exact h.2 _ u k h1 h2
def vC(K:W.Frag)(a:Adr):Sp:=fun vs H Q _=>∃(v:V) (t:Tr) (n:Nat),vs=[v]/\At K n H v t/\(post t).length<=8000000/\∀H' v',Za H H'->At K (28*n) H' v' (YF t)->Q v' H'
theorem vm(T:Txt K mg a)(hw:w.params=a.Pm):Yq P w K mg base CX0 4 a.core_of a.dg gG (vC K a):=by
 have br:=Wd (P:=P) (w:=w) (base:=base) T hw;have aJ:=Xz (P:=P) (w:=w) (base:=base) T hw;have aQ:=XL (P:=P) (w:=w) (base:=base) T hw;have fV:=xb (P:=P) (w:=w) (base:=base) T hw;refine T.dM.ok W8 (fun vs H Q E h=>?_) (fun gF A outer s H vs Q E hr h=>?_)
 ·obtain⟨v,t,n,rfl,_⟩:=h;rfl
 ·obtain⟨v,t,n,rfl,hat,hz,k⟩:=h;refine⟨_,(@Zb _ _ _ _ _ (@Zr _ _ (1) _ _ _ _ W8.nd rfl (Or.inl rfl) (@ZT _ _ _ _ Y2) (by rfl) (.inl rfl)) (@Zb _ _ _ _ _ (Xw iS rfl (Yr (K:=K) rfl (Zp aQ (hr.mono (by decide)) rfl T.bj T.aG.kp T.bi .nil Zw (@Zc _ _ _ (pv 0) (by rfl)))) (ZY (i:=2) W8.nd rfl (Or.inl rfl)) (@Zb _ _ _ _ _ (@Zr _ _ (3) _ _ _ _ W8.nd rfl (Or.inl rfl) (Zp br (hr.mono (by decide)) rfl T.bU T.bA.kp T.bT .nil Zw (@Zd _ _ _ _ _ (pv 1) (@Zc _ _ _ (ZB (ZK (K:=K) rfl) rfl T.bL lr (@Zc _ _ _ (Zp aJ (hr.mono (by decide)) rfl T.bC T.bt.kp T.bB .nil Zw (@Zc _ _ _ (pv 2) (by rfl))) (by rfl))) (by rfl)) (by rfl))) (by rfl) (.inl rfl)) (@Zg _ _ _ (@YA _ _ _ _ (Wx iT i7 i8 Yv (pv 1) (@Zc _ _ _ (Zp fV (hr.mono (by decide)) rfl T.eS T.dw.kp T.eR .nil Zw (@Zd _ _ _ _ _ (pv 2) (@Zc _ _ _ (pv 3) (by rfl)) (by rfl))) (by rfl))) (by rfl))))) (@Zg _ _ _ (@Zo _ _ _ _ (@ZA _ _ _ _ _ _ _ (Zz (K:=K) rfl) (pv 1) Zh (fun _ _=>rfl)))))),?_⟩;cases n with
  |zero=>exact hat.elim
  |succ n=>
   refine⟨by decide,fun F hF=>?_⟩;have s1:=Zl (o:=.lst []) hF;have e1:(upd H F (.lst [])) F=some (.lst []):=Zf;generalize upd H F (.lst [])=H1 at s1 e1 ⊢;refine⟨_,rfl,v,t,n+1,rfl,hat.mono (lg s1),hz,fun H2 L us s2 L0 eL aL=>⟨L,rfl,⟨_,ll eL⟩,?_⟩⟩;have nLF:L≠F:=fun e=>by rw[e,e1] at L0;cases L0
   have hF2:=s2 _ _ e1;obtain⟨ok0,run0⟩:=yK (F:=YV) t;have hul:=aL.1;refine X3 (K:=K) (xs:=us) (fun i σ H'=>∃(z1 z2:Option V) (uv:List V) (st:List Tr),σ=[some v,some (.ref F),z1,z2]/\Zx F H2 H'/\H' F=some (.lst uv)/\AtL K (28*(n+1)) H' uv st/\Ut YV st ((post t).drop i)/\UR YV st ((post t).drop i)=[YF t]/\st.length<=i) ?_ ?_ ?_ ?_
   ·exact⟨_,_,[],[],rfl,.refl _,hF2,AtL.nil,ok0,run0,gY _⟩
   ·rintro i σ H' hi ⟨z1,z2,uv,st,rfl,x',_⟩;exact ll (x' _ _ nLF eL)
   ·rintro i x σ H3 hx ⟨z1,z2,uv,st,rfl,x3,hF3,aS,ok3,run3,hst⟩;have hi:i<us.length:=(ib.mp hx).1;have hi2:i<(post t).length:=by omega
    have t23:Yk H2 H3:=Zx.tup x3 hF2;have at3:=(aL.2 i x _ hx (gZ hi2)).mono t23;rw[jZ hi2] at ok3 run3;obtain⟨⟨okl,okd⟩,okr⟩:=ok3;have runr:UR YV (Xl YV st (post t)[i]) ((post t).drop (i+1))=[YF t]:=run3;generalize (post t)[i]=r at at3 okl okd okr runr;have hsl:=aS.1;obtain⟨ad7,ks,eu7,sh7,ok7,hl7,hq7⟩:=id at3;refine⟨_,rfl,_,rfl,x,ad7,ks,r.lb,rfl,eu7,sh7,by rw[hl7];exact ok7.b,fun H4 b s4 eb=>.inl ⟨b,_,rfl,.inr (eb),?_⟩⟩;have aK:AtL K n H4 ks r.ks:=AtL.mono (lg s4) ⟨hl7,hq7⟩;have hkl:=aK.1;have hF4:=s4 _ _ hF3;refine⟨F,uv,ks.length,rfl,hF4,by rw[hsl,hkl];exact okl,fun H5 l x5 hF5 l0 hl5=>?_⟩;have nlF:l≠F:=fun e=>by rw[e,hF4] at l0;cases l0
    have t45:Yk H4 H5:=Zx.tup x5 hF4;have t35:Yk H3 H5:=(lg s4).trans t45;rw[hsl,hkl] at hF5 hl5;have at5:=at3.mono t35;have aS5:=aS.mono t35;have aI:=AtL.drop aS5 (st.length-r.ks.length);rw[okd] at aI;have ca:=xH _ r at5.ok;have ecr:YV r.lb (r.ks.map YF)=YF r:=(qw r).symm;have at5':At K (n+1) H5 x (.node r.lb r.ks):=by rw[<- Tr.eta];exact at5
    refine⟨_,rfl,.inl ⟨rfl,_,ll hF5⟩,_,rfl,_,rfl,x,r.lb,r.ks,n+1,l,_,_,28*(n+1),rfl,at5',hl5,aI,hJ _,by omega,fun H6 v6 s6 at6=>?_⟩;rw[show Yd YV=YF from rfl,ecr] at at6;have at6:=at6.fit ca.1;have hF6:=s6 _ _ hF5;refine⟨F,_,_,rfl,rfl,hF6,by rw[hV,gU];omega,?_⟩;have x36:Zx F H3 H6:=(Za.x s4).trans (x5.trans (Za.x s6));have t6:Yk H6 (upd H6 F (.lst (uv.take (st.length-r.ks.length)++[v6]))):=Zx.tup ((Zx.refl H6).upd) hF6;refine⟨_,_,uv.take (st.length-r.ks.length)++[v6],Xl YV st r,rfl,(x3.trans x36).upd,Zf,?_,okr,runr,?_⟩
    ·unfold Xl;rw[okd,show Yd YV=YF from rfl,ecr];exact AtL.app (((AtL.take aS5 _).mono (lg s6)).mono t6) (AtL.one (at6.mono t6))
    ·unfold Xl;rw[hG,hV];simp;omega
   rintro σ H3 ⟨z1,z2,uv,st,rfl,x3,hF3,aS,ok3,run3,hst⟩;rw[lc (by omega)] at run3;have est:st=[YF t]:=run3;subst est;obtain⟨u0,ur,c0,cr,rfl,ec,a0⟩:=AtL.first aS (by simp);cases ec;exact⟨_,rfl,F,_,_,_,rfl,rfl,ll hF3,Zk (j:=0) rfl,k H3 _ (((Za.x (s1.trans s2)).trans x3).same hF) a0⟩
def iV(is:List Nat):List V:=is.map fun(i:Nat)=>V.int ((i:Nat):Int)
theorem X5(is:List Nat):(iV is).length=is.length:=hJ _
theorem nK_kV(is:List Nat):(nK is).map kV=iV is:=by unfold nK iV;rw[iw];rfl
theorem word_ok:∀w∈W1++W2++(["yes", "sign", "within", "and", "or"]:List Str),PyData.strOk w=true:=by decide +kernel
theorem xY{c:Lb}{n:Nat}(ok:Yh c n):PyData.strOk (Zv c)=true:=by
 refine word_ok _ ?_;cases c with
 |yes=>exact iE _ (show("yes" : Str)∈_ by decide +kernel)
 |sign z=>exact iE _ (show("sign" : Str)∈_ by decide +kernel)
 |wit m=>exact iE _ (show("within" : Str)∈_ by decide +kernel)
 |op w=>exact iX _ (Wz ok)
 |many w=>rcases ok.1 with rfl|rfl;exact iE _ (show("and" : Str)∈_ by decide +kernel);exact iE _ (show("or" : Str)∈_ by decide +kernel)
theorem nK_str(is:List Nat)(x:Str):(Sum.inr x:Key)∉nK is:=fun h=>by
 unfold nK at h;obtain⟨i,_,e⟩:=ik.mp h;cases e
theorem xr{c:Lb}{is:List Nat}(ok:Yh c is.length):yt (WG c is):=fun x hx=>by
 have hw:=xY ok;cases c with
 |yes=>
  have:x = "yes" := by simpa[WG] using hx
  rw[this];exact hw
 |sign z=>
  have:x = "sign" \/ x=z:=by simpa[WG] using hx
  rcases this with rfl|rfl
  ·exact hw
  ·exact qS ok.2
 |wit m=>
  have:x = "within" \/ (Sum.inr x:Key)∈nK is:=by simpa[WG] using hx
  rcases this with rfl|h
  ·exact hw
  ·exact absurd h (nK_str _ _)
 |op w=>
  have:x=w\/(Sum.inr x:Key)∈nK is:=by simpa[WG] using hx
  rcases this with rfl|h
  ·exact hw
  ·exact absurd h (nK_str _ _)
 |many w=>
  have:x=w\/(Sum.inr x:Key)∈nK is:=by simpa[WG] using hx
  rcases this with rfl|h
  ·exact hw
  ·exact absurd h (nK_str _ _)
theorem row_of{K:W.Frag}{H:Hp}{b:Addr}{c:Lb}{is:List Nat}(ok:Yh c is.length)(hn:is≠[])(h:SqT K H b ((WG c is).map kV)):Xm K H b (VH c is):=by
 rcases Wn c is with⟨_,_,e,_⟩|⟨e,_⟩
 ·exact absurd e hn
 ·rw[e];exact⟨h,xr ok⟩
theorem xn{K:W.Frag}{H:Hp}{a:Addr}{vs:List V}{c:Lb}(sh:WK K H a vs c)(hl:vs.length=0)(ok:Yh c 0):Xm K H a (VH c []):=by
 have hk:=xr (is:=[]) ok;cases c with
 |yes=>exact⟨sh.2,hk⟩
 |sign z=>exact⟨sh.2,hk⟩
 |wit m=>cases ok.2
 |op w=>rcases ok with⟨_,h⟩|⟨_,h⟩<;>cases h
 |many w=>
  obtain⟨b,h1,h2⟩:=sh;obtain rfl:=iG.mp hl;exact⟨⟨b,h1,h2⟩,xY ok⟩
theorem row_inn{K:W.Frag}{H:Hp}{a:Addr}{vs:List V}{c:Lb}{n:Nat}(sh:WK K H a vs c)(hl:vs.length=n)(ok:Yh c n)(hn:0<n) :
  (∃m x xs,c=.wit m/\SqT K H a (.str "within" :: .int m::x::xs))\/(Zv c ≠ "within" /\ (∃x xs,SqT K H a (.str (Zv c)::x::xs))/\∀is,WG c is=.inr (Zv c)::nK is):=by
 cases c with
 |yes=>have h:n=0:=ok;omega
 |sign z=>have h:n=0:=ok.1;omega
 |wit m=>
  cases vs with
  |nil=>simp at hl;omega
  |cons x xs=>exact .inl ⟨m,x,xs,rfl,sh⟩
 |op w=>
  cases vs with
  |nil=>simp at hl;omega
  |cons x xs=>exact .inr ⟨(YX w (Wz ok)).2.2.1,⟨x,xs,sh⟩,fun _=>rfl⟩
 |many w=>
  obtain⟨b,h1,h2⟩:=sh;exact .inr ⟨by rcases ok.1 with rfl|rfl<;>decide +kernel,⟨.ref b,[],h1⟩,fun _=>rfl⟩
theorem lb8{c:Lb}{n:Nat}(ok:Yh c n):n<=8:=by
 cases c with
 |yes=>have h:n=0:=ok;omega
 |sign s=>have h:n=0:=ok.1;omega
 |op w=>rcases ok with o|o;have h:n=1:=o.2;omega;have h:n=2:=o.2;omega
 |wit m=>have h:n=2:=ok.2;omega
 |many w=>exact ok.2
theorem cut_to1{n:Nat}{k:Nat}(h:k<n):¬(HT.sIx n 0 none=0/\HT.sIx n n (some (k:Int))=n):=by
 rintro⟨_,h1⟩;have h2:¬((k:Int)<0):=by omega
 unfold HT.sIx at h1;simp only[h2,iR] at h1;omega
def xc(K:W.Frag)(a:Adr):Sp:=fun vs H Q _=>∃(v:V) (t:Tr) (n:Nat) (l:Addr) (is:List Nat),vs=[v,.ref l]/\At K n H v t/\H l=some (.lst (iV is))/\is.length=t.ks.length/\∀H' b,Za H H'->Xm K H' b (VH t.lb is)->Q (.ref b) H'
theorem Vd(T:Txt K mg a)(hw:w.params=a.Pm):Yq P w K mg base CX0 1 a.row_with a.cH gL (xc K a):=by
 refine T.cv.ok U3 (fun vs H Q E h=>?_) (fun gF A outer s H vs Q E hr h=>?_)
 ·obtain⟨v,t,n,l,is,rfl,_⟩:=h;rfl
 ·obtain⟨v,t,n,l,is,rfl,hat,hl,hil,k⟩:=h;refine⟨_,(@Zb _ _ _ _ _ (@ZI _ _ _ _ _ _ _ _ (@XO _ _ _ _ (XB (K:=K) rfl (pv 1) (fun _=>rfl))) (@Zg _ _ _ (@Zo _ _ _ _ (pv 0))) Zt) (@Zb _ _ _ _ _ (@Zr _ _ (2) _ _ _ _ U3.nd rfl (Or.inl rfl) (pe_ifExp (@Zm _ _ _ _ _ _ _ _ ZL (@ZA _ _ _ _ _ _ _ (ZJ (K:=K) rfl) (pv 0) Zh (fun _ _=>rfl)) Ze (Zs _)) (YG (WC (K:=K) rfl) (pv 0) Y6 (YQ Zh)) (YG (WC (K:=K) rfl) (pv 0) Y6 (YQ Zh))) (by rfl) (.inl rfl)) (@Zg _ _ _ (@Zo _ _ _ _ (@ZE _ _ _ _ _ _ _ _ (Ue (K:=K) rfl) (pv 2) (YD (XA (K:=K) rfl) rfl T.cO lv (@Zc _ _ _ (pv 1) (by rfl)))))))),?_⟩;cases n with
  |zero=>exact hat.elim
  |succ n=>
   obtain⟨ad,us,rfl,sh,ok,hul,hq⟩:=hat;refine⟨_,rfl,!(iV is).isEmpty,.inl ⟨_,ll hl,rfl⟩,?_⟩;cases his:(iV is).isEmpty with
   |true=>
    have e0:iV is=[]:=jY.mp his;have e1:is=[]:=iG.mp (by rw[<- X5,e0];rfl);subst e1;have z0:t.ks.length=0:=hil.symm;rw[z0] at ok hul;exact Xh ⟨_,rfl,k H ad (fun _ _ e=>e) (xn sh hul ok)⟩
   |false=>
    have hn0:is≠[]:=fun e=>by rw[e] at his;cases his
    have hpos:0<t.ks.length:=by rw[<- hil];exact jT.mpr hn0
    have okI:Yh t.lb is.length:=by rw[hil];exact ok
    have h8:=lb8 ok;refine Yi ?_;have fin:∀(q:Addr) (hd:List V) (H1:Hp),Za H H1->H1 q=some (.tup hd)->hd≠[]->hd.length<=2->hd++iV is=(WG t.lb is).map kV ->
      ∀b,H1 b=none->∀c,(upd H1 b (.tup (iV is))) c=none->Q (.ref c) (upd (upd H1 b (.tup (iV is))) c (.tup (hd++iV is))):=fun q hd H1 s1 e1 hne hl2 ek b hb c hc=>by
     refine k _ c ((s1.trans (Zl hb)).trans (Zl hc)) (row_of okI hn0 ?_);rw[<- ek];exact lh Zf
    rcases row_inn sh hul ok hpos with⟨m,x,xs,ew,ea⟩|⟨hw,⟨x,xs,ea⟩,hk⟩
    ·refine⟨_,rfl,ad,_,_,_,rfl,rfl,ea,Zk (j:=0) rfl,rfl,_,rfl,YH rfl ?_⟩;refine⟨_,rfl,_,rfl,ad,_,rfl,ea,cut_to1 (k:=2) (by simp),fun q hq=>?_⟩;have ec:Wp (V.str "within" :: .int m::x::xs) none (some 2)=[V.str "within",.int m]:=yB (V.str "within" :: .int m::x::xs) 2 (by simp);rw[ec];have s1:=Zl (o:=.tup [V.str "within",.int m]) hq;have e1:(upd H q (.tup [V.str "within",.int m])) q=some (.tup [V.str "within",.int m]):=Zf;generalize upd H q (.tup [V.str "within",.int m])=H1 at s1 e1 ⊢;refine⟨_,rfl,_,rfl,l,_,rfl,.inl ⟨ll (s1 _ _ hl),fun b hb=>?_⟩⟩;refine⟨q,b,_,_,rfl,rfl,lh (Zl hb _ _ e1),lh Zf,by simp,by rw[X5,gU];simp;omega,fun z=>?_,fun _ c hc2=>fin q _ H1 s1 e1 (by simp) (by simp) (by rw[ew];show _=V.str "within" :: V.int m::(nK is).map kV;rw[nK_kV];rfl) b hb c hc2⟩;rw[z] at his;cases his
    ·refine⟨_,rfl,ad,_,_,_,rfl,rfl,ea,Zk (j:=0) rfl,rfl,_,rfl,ZF (fun z=>hw (V.str.inj z)) ?_⟩;refine⟨_,rfl,_,rfl,ad,_,rfl,ea,cut_to1 (k:=1) (by simp),fun q hq=>?_⟩;have ec:Wp (V.str (Zv t.lb)::x::xs) none (some 1)=[V.str (Zv t.lb)]:=yB (V.str (Zv t.lb)::x::xs) 1 (by simp);rw[ec];have s1:=Zl (o:=.tup [V.str (Zv t.lb)]) hq;have e1:(upd H q (.tup [V.str (Zv t.lb)])) q=some (.tup [V.str (Zv t.lb)]):=Zf;generalize upd H q (.tup [V.str (Zv t.lb)])=H1 at s1 e1 ⊢;refine⟨_,rfl,_,rfl,l,_,rfl,.inl ⟨ll (s1 _ _ hl),fun b hb=>?_⟩⟩;refine⟨q,b,_,_,rfl,rfl,lh (Zl hb _ _ e1),lh Zf,by simp,by rw[X5,gU];simp;omega,fun z=>?_,fun _ c hc2=>fin q _ H1 s1 e1 (by simp) (by simp) (by rw[hk,g9,nK_kV];rfl) b hb c hc2⟩;rw[z] at his;cases his
theorem tput2(v1 v2:V):YB "rows" v2 ([("parts",v1)]:List (Str×V))=([("parts",v1),("rows",v2)]:List (Str×V)):=by simp only[YB,if_neg (by decide +kernel:¬(("parts" : Str) = "rows"))]
theorem tput3(v1 v2 v3:V):YB "numbers" v3 ([("parts",v1),("rows",v2)]:List (Str×V))=([("parts",v1),("rows",v2),("numbers",v3)]:List (Str×V)):=by simp only[YB,if_neg (by decide +kernel:¬(("parts" : Str) = "numbers")),if_neg (by decide +kernel:¬(("rows" : Str) = "numbers"))]
def zw(K:W.Frag)(a:Adr):Sp:=fun vs H Q _=>∃r dx,vs=[.ref r]/\H r=some (.ins a.C_Table dx [])/\∀H' P R D,Zx r H H'->H P=none->H R=none->H D=none->r≠P->r≠R->r≠D->TbY K a.Pm a.C_Table H' r P R D []->Q .non H'
theorem zv(T:Txt K mg a)(hw:w.params=a.Pm):Yq P w K mg base CX0 1 a.Table_init a.bR ["self"] (zw K a):=by
 refine T.eh.ok zy (fun vs H Q E h=>?_) (fun gF A outer s H vs Q E hr h=>?_)
 ·obtain⟨r,dx,rfl,_⟩:=h;rfl
 ·obtain⟨r,dx,rfl,hr0,k⟩:=h;refine⟨_,(@Zb _ _ _ _ _ (UW (pv 0) (@ZT _ _ _ _ Y2) rfl) (@Zb _ _ _ _ _ (UW (pv 0) (@ZT _ _ _ _ Y2) rfl) (@Zg _ _ _ (UW (pv 0) (pe_ynew (Pm:=a.Pm) hw) rfl)))),?_⟩;refine⟨by decide,fun P hP=>⟨_,rfl,r,_,dx,[],rfl,Zl hP _ _ hr0,T.ai,T.aW,by decide,?_⟩⟩;have nP:P≠r:=fun z=>by rw[z,hr0] at hP;cases hP
  have s1:=Zl (o:=.lst []) hP;have e1:(upd H P (.lst [])) P=some (.lst []):=Zf;generalize upd H P (.lst [])=H1 at s1 e1 ⊢;have x2:Zx r H (upd H1 r (.ins a.C_Table dx (YB "parts" (.ref P) []))):=(Za.x s1).upd;have hr2:(upd H1 r (.ins a.C_Table dx (YB "parts" (.ref P) []))) r=some (.ins a.C_Table dx [("parts",.ref P)]):=by rw[Zf,tput1]
  have e2:(upd H1 r (.ins a.C_Table dx (YB "parts" (.ref P) []))) P=some (.lst []):=Wh e1 nP;generalize upd H1 r (.ins a.C_Table dx (YB "parts" (.ref P) []))=H2 at x2 hr2 e2 ⊢;refine⟨by decide,fun R hR=>⟨_,rfl,r,_,dx,_,rfl,Zl hR _ _ hr2,T.ai,T.aO,by simp,?_⟩⟩;have nR:R≠r:=fun z=>by rw[z,hr2] at hR;cases hR
  have nRP:R≠P:=fun z=>by rw[z,e2] at hR;cases hR
  have s3:=Zl (o:=.lst []) hR;have e3:(upd H2 R (.lst [])) R=some (.lst []):=Zf;have e3P:=s3 _ _ e2;generalize upd H2 R (.lst [])=H3 at s3 e3 e3P ⊢;have x4:Zx r H (upd H3 r (.ins a.C_Table dx (YB "rows" (.ref R) [("parts",.ref P)]))):=(x2.trans (Za.x s3)).upd;have hr4:(upd H3 r (.ins a.C_Table dx (YB "rows" (.ref R) [("parts",.ref P)]))) r=some (.ins a.C_Table dx [("parts",.ref P),("rows",.ref R)]):=by rw[Zf,tput2]
  have e4P:(upd H3 r (.ins a.C_Table dx (YB "rows" (.ref R) [("parts",.ref P)]))) P=some (.lst []):=Wh e3P nP;have e4R:(upd H3 r (.ins a.C_Table dx (YB "rows" (.ref R) [("parts",.ref P)]))) R=some (.lst []):=Wh e3 nR;generalize upd H3 r (.ins a.C_Table dx (YB "rows" (.ref R) [("parts",.ref P)]))=H4 at x4 hr4 e4P e4R ⊢;refine fun D hD=>⟨_,rfl,r,_,dx,_,rfl,Zl hD _ _ hr4,T.ai,T.aD,by simp,?_⟩;have nD:D≠r:=fun z=>by rw[z,hr4] at hD;cases hD
  have s5:=Zl (o:=DyO a.Pm D []) hD;have e5:(upd H4 D (DyO a.Pm D [])) D=some (DyO a.Pm D []):=Zf;have e5P:=s5 _ _ e4P;have e5R:=s5 _ _ e4R;generalize upd H4 D (DyO a.Pm D [])=H5 at s5 e5 e5P e5R ⊢;refine k _ P R D ((x4.trans (Za.x s5)).upd) hP (x2.free nR hR) (x4.free nD hD) (ie nP) (ie nR) (ie nD) ⟨⟨dx,by rw[Zf,tput3]⟩,⟨1,[],Wh e5P nP,AtL.nil⟩,⟨[],Wh e5R nR,rfl,fun e h=>(by cases h),fun i t e h=>(by simp at h),Wh e5 nD⟩,by simp,ie nRP⟩
def V5(K:W.Frag)(a:Adr):Sp:=fun vs H Q _=>∃r P R D ps v t n b ks,vs=[.ref r,v,.ref b]/\TbY K a.Pm a.C_Table H r P R D ps/\At K n H v t/\Xm K H b ks/\XY ps t ks/\ps.length<4000/\∀H' (i:Nat),YI P R D H H'->TbY K a.Pm a.C_Table H' r P R D (Yp ps t)->(Yp ps t)[i]?=some t->Q (.int (i:Int)) H'
theorem tat_ok{K:W.Frag}{n:Nat}{H:Hp}{v:V}{t:Tr}(h:At K n H v t):Yh t.lb t.ks.length:=by
 cases n with
 |zero=>exact h.elim
 |succ n=>obtain⟨_,_,_,_,ok,_⟩:=h;exact ok
theorem lkP{v1 v2 v3:V}:([("parts",v1),("rows",v2),("numbers",v3)]:List (Str×V)).lookup ("parts" : Str)=some v1:=rfl
theorem lkR{v1 v2 v3:V}:([("parts",v1),("rows",v2),("numbers",v3)]:List (Str×V)).lookup ("rows" : Str)=some v2:=by
 have e:(("rows" : Str) == "parts")=false:=by decide +kernel
 rw[ir,e];rfl
theorem lkD{v1 v2 v3:V}:([("parts",v1),("rows",v2),("numbers",v3)]:List (Str×V)).lookup ("numbers" : Str)=some v3:=by
 have e:(("numbers" : Str) == "parts")=false:=by decide +kernel
 have e2:(("numbers" : Str) == "rows")=false:=by decide +kernel
 rw[ir,e]
 show List.lookup _ _=_
 rw[ir,e2];rfl
theorem Y4(T:Txt K mg a)(hw:w.params=a.Pm):Yq P w K mg base CX0 1 a.Table_taken_in a.bc ["self", "part", "row"] (V5 K a):=by
 refine T.cR.ok Us (fun vs H Q E h=>?_) (fun gF A outer s H vs Q E hr h=>?_)
 ·obtain⟨r,P,R,D,ps,v,t,n,b,ks,rfl,_⟩:=h;rfl
 ·obtain⟨r,P,R,D,ps,v,t,n,b,ks,rfl,tb,hat,hb,hrow,hsz,k⟩:=h;refine⟨_,(@Zb _ _ _ _ _ (@ZI _ _ _ _ _ _ _ _ (pt_cmp (pc_ynotin (K:=K) (Pm:=a.Pm) rfl hw (YN.units4 hr) (pv 2) (ZM (K:=K) rfl (pv 0) rfl))) (@Zb _ _ _ _ _ (ps_yput (K:=K) (Pm:=a.Pm) rfl hw (YN.units4 hr) (ZM (K:=K) rfl (pv 0) rfl) (pv 2) (ZB (ZK (K:=K) rfl) rfl T.bL lr (@Zc _ _ _ (ZM (K:=K) rfl (pv 0) rfl) (by rfl))) rfl) (@Zb _ _ _ _ _ (@YA _ _ _ _ (Wx iT i7 i8 Yv (ZM (K:=K) rfl (pv 0) rfl) (@Zc _ _ _ (pv 1) (by rfl))) (by rfl)) (@Zg _ _ _ (@YA _ _ _ _ (Wx iT i7 i8 Yv (ZM (K:=K) rfl (pv 0) rfl) (@Zc _ _ _ (pv 2) (by rfl))) (by rfl))))) Zt) (@Zg _ _ _ (@Zo _ _ _ _ (pe_yget (K:=K) (Pm:=a.Pm) rfl hw (YN.units4 hr) (ZM (K:=K) rfl (pv 0) rfl) (pv 2) (fun _ _=>rfl))))),?_⟩;obtain⟨⟨dx,ho⟩,⟨np,pv,hP,aP⟩,⟨rows,hR,rl,hrt,hrr,hD⟩,nd,pr⟩:=id tb;have rkl:(rows.map (·.1)).length=ps.length:=by rw[hJ];exact rl
  obtain⟨knd,known⟩:=vP (rks:=rows.map (·.1)) nd rkl aP.oks fun i t ks h1 h2=>by
   rw[iJ] at h2;obtain⟨e,he,rfl⟩:=kO.mp h2;exact hrr i t e h1 he
  obtain⟨kin,kout⟩:=known (tat_ok hat) hrow;have hkeys:∀e∈Wu 0 rows,Xm K H e.2.1 e.1:=fun e he=>hrt _ (zd he);refine⟨_,rfl,_,rfl,r,_,dx,_,_,rfl,ho,T.ai,T.aD,lkD,D,_,rfl,⟨_,ks,b,hD,rfl,hb,hkeys,rfl⟩,?_⟩;rw[yL]
  by_cases ht:t∈ps
  ·obtain⟨i,hi,e⟩:=jd ht;have hi':ps[i]?=some t:=by rw[<- e];exact gZ hi
   have hv:=yH (n:=0) knd (kin i hi');rw[kA] at hv;rw[hv];refine⟨_,rfl,Yi ?_⟩;exact⟨_,rfl,r,_,dx,_,_,rfl,ho,T.ai,T.aD,lkD,_,rfl,D,_,rfl,⟨_,ks,b,hD,rfl,hb,hkeys,by rw[yL,hv]⟩,k H i .refl (by rw[W3 ht];exact tb) (by rw[W3 ht];exact hi')⟩
  ·have hv:=val_noY (n:=0) (kout ht);rw[hv];refine⟨_,rfl,Xh ?_⟩;have aR:=aP.1;refine⟨_,rfl,r,_,dx,_,_,rfl,ho,T.ai,T.aO,lkR,.inl ⟨R,_,rfl,.inl (ll hR),_,rfl,r,_,dx,_,_,rfl,ho,T.ai,T.aD,lkD,_,rfl,D,_,rfl,⟨_,ks,b,hD,rfl,hb,hkeys,by rw[yL];exact hv,by rw[xA,gU];omega,rfl⟩,?_⟩⟩;have ep:Wu 0 rows++[(ks,b,V.int (((rows.map fun e=>V.ref e.2).length:Nat):Int))]=Wu 0 (rows++[(ks,b)]):=by
    rw[zU,hJ,kA]
   rw[ep];have nPD:P≠D:=YR hP hD (by intro z;cases z);have nRD:R≠D:=YR hR hD (by intro z;cases z);have nrD:r≠D:=YR ho hD (by intro z;cases z);have ho1:(upd H D (DyO a.Pm D (Wu 0 (rows++[(ks,b)])))) r=_:=Wh ho nrD;have hP1:(upd H D (DyO a.Pm D (Wu 0 (rows++[(ks,b)])))) P=_:=Wh hP nPD;have hR1:(upd H D (DyO a.Pm D (Wu 0 (rows++[(ks,b)])))) R=_:=Wh hR nRD;have hD1:(upd H D (DyO a.Pm D (Wu 0 (rows++[(ks,b)])))) D=_:=Zf;have s1:YI P R D H (upd H D (DyO a.Pm D (Wu 0 (rows++[(ks,b)])))):=fun c o _ _ n3 e=>by rw[ZS n3];exact e
   generalize upd H D (DyO a.Pm D (Wu 0 (rows++[(ks,b)])))=H1 at ho1 hP1 hR1 hD1 s1 ⊢;refine⟨_,rfl,r,_,dx,_,_,rfl,ho1,T.ai,T.aW,lkP,.inl ⟨rfl,_,ll hP1⟩,_,rfl,P,_,_,rfl,rfl,hP1,by rw[gU];omega,?_⟩;have nrP:r≠P:=YR ho hP (by intro z;cases z);have ho2:(upd H1 P (.lst (pv++[v]))) r=_:=Wh ho1 nrP;have hP2:(upd H1 P (.lst (pv++[v]))) P=_:=Zf;have hR2:(upd H1 P (.lst (pv++[v]))) R=_:=Wh hR1 (ie pr);have hD2:(upd H1 P (.lst (pv++[v]))) D=_:=Wh hD1 (ie nPD);have s2:YI P R D H (upd H1 P (.lst (pv++[v]))):=fun c o n1 n2 n3 e=>by rw[ZS n1];exact s1 _ _ n1 n2 n3 e
   generalize upd H1 P (.lst (pv++[v]))=H2 at ho2 hP2 hR2 hD2 s2 ⊢;refine⟨_,rfl,r,_,dx,_,_,rfl,ho2,T.ai,T.aO,lkR,.inl ⟨rfl,_,ll hR2⟩,_,rfl,R,_,_,rfl,rfl,hR2,by rw[hJ,gU];omega,?_⟩;have nrR:r≠R:=YR ho hR (by intro z;cases z);have er:(rows.map fun e=>V.ref e.2)++[V.ref b]=(rows++[(ks,b)]).map fun e=>V.ref e.2:=by rw[iZ];rfl
   rw[er];have ho3:(upd H2 R (.lst ((rows++[(ks,b)]).map fun e=>V.ref e.2))) r=_:=Wh ho2 nrR;have hP3:(upd H2 R (.lst ((rows++[(ks,b)]).map fun e=>V.ref e.2))) P=_:=Wh hP2 pr;have hR3:(upd H2 R (.lst ((rows++[(ks,b)]).map fun e=>V.ref e.2))) R=_:=Zf;have hD3:(upd H2 R (.lst ((rows++[(ks,b)]).map fun e=>V.ref e.2))) D=_:=Wh hD2 (ie nRD);have s3:YI P R D H (upd H2 R (.lst ((rows++[(ks,b)]).map fun e=>V.ref e.2))):=fun c o n1 n2 n3 e=>by rw[ZS n2];exact s2 _ _ n1 n2 n3 e
   generalize upd H2 R (.lst ((rows++[(ks,b)]).map fun e=>V.ref e.2))=H3 at ho3 hP3 hR3 hD3 s3 ⊢;have u3:Yk H H3:=tb.t s3;have eA:Yp ps t=ps++[t]:=Ux ht;have kn2:((rows++[(ks,b)]).map (·.1)).Nodup:=by
    rw[iZ,List.nodup_append];exact⟨knd,by simp,fun x hx y hy e=>kout ht (by
     have:y=ks:=by simpa using hy
     rw[this] at e;rw[<- e];exact hx)⟩
   have rat:((rows++[(ks,b)]).map (·.1))[ps.length]?=some ks:=by rw[iZ,<- rkl,iM (gY _),jK];rfl
   have hv2:=yH (n:=0) kn2 rat;rw[kA] at hv2;have hpt:(ps++[t])[ps.length]?=some t:=by rw[iM (gY _),jK];rfl
   have hrt3:∀e∈rows++[(ks,b)],Xm K H3 e.2 e.1:=fun e he=>by
    rcases iH.mp he with he|he
    ·exact(hrt e he).mono u3
    ·rw[iW.mp he];exact hb.mono u3
   refine⟨_,rfl,r,_,dx,_,_,rfl,ho3,T.ai,T.aD,lkD,_,rfl,D,V.int ((ps.length:Nat):Int),rfl,⟨_,ks,b,hD3,rfl,hb.mono u3,fun e he=>hrt3 _ (zd he),by rw[yL];exact hv2.symm⟩,k H3 ps.length s3 ?_ (by rw[eA];exact hpt)⟩;rw[eA];have old:∀{α:Type}{xs:List α}{y x:α}{i:Nat},(xs++[y])[i]?=some x->(i<xs.length/\xs[i]?=some x)\/(i=xs.length/\x=y):=fun {α xs y x i} h=>by
    by_cases hi:i<xs.length
    ·rw[iI hi] at h;exact .inl ⟨hi,h⟩
    ·have hj:=(ib.mp h).1;rw[hG,iY] at hj;have hij:i=xs.length:=by omega
     subst hij;rw[iM (gY _),jK] at h;exact .inr ⟨rfl,by simpa using h.symm⟩
   refine⟨⟨dx,ho3⟩,⟨max np n,pv++[v],hP3,((aP.le (Nat.le_max_left _ _)).mono u3).app (AtL.one ((hat.le (Nat.le_max_right _ _)).mono u3))⟩,⟨rows++[(ks,b)],hR3,by simp[rl],hrt3,fun i x e h1 h2=>?_,hD3⟩,?_,pr⟩
   ·rcases old h1 with⟨l1,h1⟩|⟨l1,h1⟩
    ·rcases old h2 with⟨l2,h2⟩|⟨l2,h2⟩
     ·exact(hrr i x e h1 h2).more
     ·omega
    ·rcases old h2 with⟨l2,h2⟩|⟨l2,h2⟩
     ·omega
     ·subst h1 h2;exact hrow.more
   ·rw[<- eA];exact W5 nd
theorem WL:∀(n:Nat) (t:Tr),psz t<=n->Yd Tr.node t=t
 |0,t,h=>by have:=XN t;omega
 |n+1,t,h=>by
  rw[XC];have e:t.ks.map (Yd Tr.node)=t.ks:=by
   have:t.ks.map (Yd Tr.node)=t.ks.map id:=jb fun k hk=>WL n k (by have:=Wc hk;omega);rw[this,jw]
  rw[e];exact(Tr.eta t).symm
theorem lkN{v1 v2 v3:V}{m:Str}(h1:(m==("parts" : Str))=false)(h2:(m==("rows" : Str))=false)(h3:(m==("numbers" : Str))=false):([("parts",v1),("rows",v2),("numbers",v3)]:List (Str×V)).lookup m=none:=by
 rw[ir,h1]
 show List.lookup _ _=_
 rw[ir,h2]
 show List.lookup _ _=_
 rw[ir,h3];rfl
theorem xW{ps0 L:List Tr}{i:Nat}{x:Tr}(h:L[i]?=some x):ZQ ps0 (L.take (i+1))=Yp (ZQ ps0 (L.take i)) x:=by
 rw[List.take_succ,h,WU];rfl
theorem XD{ps:List Tr}{x s:Tr}{m:Nat}(h:ps[m]?=some s):(Yp ps x)[m]?=some s:=by
 obtain⟨B,e⟩:=xM ps x;rw[e,iI (ib.mp h).1];exact h
def VO(K:W.Frag)(a:Adr):Sp:=fun vs H Q _=>∃r P R D ps0 v t n,vs=[.ref r,v]/\TbY K a.Pm a.C_Table H r P R D ps0/\At K n H v t/\psz t<=8000000/\(ZQ ps0 (post t)).length<4000/\∀H' (i:Nat),YI P R D H H'->TbY K a.Pm a.C_Table H' r P R D (ZQ ps0 (post t))->(ZQ ps0 (post t))[i]?=some t->Q (.int (i:Int)) H'
theorem V1(T:Txt K mg a)(hw:w.params=a.Pm):Yq P w K mg base CX0 4 a.Table_number_of a.aZ ["self", "core"] (VO K a):=by
 have br:=Wd (P:=P) (w:=w) (base:=base) T hw;have aJ:=Xz (P:=P) (w:=w) (base:=base) T hw;have aQ:=XL (P:=P) (w:=w) (base:=base) T hw;have cD:=Vd (P:=P) (w:=w) (base:=base) T hw;have ao:=Y4 (P:=P) (w:=w) (base:=base) T hw;refine T.cx.ok Y1 (fun vs H Q E h=>?_) (fun gF A outer s H vs Q E hr h=>?_)
 ·obtain⟨r,P,R,D,ps0,v,t,n,rfl,_⟩:=h;rfl
 ·obtain⟨r,P,R,D,ps0,v,t,n,rfl,tb,hat,hz,hfew,k⟩:=h;refine⟨_,(@Zb _ _ _ _ _ (@Zr _ _ (2) _ _ _ _ Y1.nd rfl (Or.inl rfl) (@ZT _ _ _ _ Y2) (by rfl) (.inl rfl)) (@Zb _ _ _ _ _ (Xw iS rfl (Yr (K:=K) rfl (Zp aQ (hr.mono (by decide)) rfl T.bj T.aG.kp T.bi .nil Zw (@Zc _ _ _ (pv 1) (by rfl)))) (ZY (i:=3) Y1.nd rfl (Or.inl rfl)) (@Zb _ _ _ _ _ (@Zr _ _ (4) _ _ _ _ Y1.nd rfl (Or.inl rfl) (Zp br (hr.mono (by decide)) rfl T.bU T.bA.kp T.bT .nil Zw (@Zd _ _ _ _ _ (pv 2) (@Zc _ _ _ (ZB (ZK (K:=K) rfl) rfl T.bL lr (@Zc _ _ _ (Zp aJ (hr.mono (by decide)) rfl T.bC T.bt.kp T.bB .nil Zw (@Zc _ _ _ (pv 3) (by rfl))) (by rfl))) (by rfl)) (by rfl))) (by rfl) (.inl rfl)) (@Zg _ _ _ (@YA _ _ _ _ (Wx iT i7 i8 Yv (pv 2) (@Zc _ _ _ (Ys (pv 0) T.ai T.aC ao (hr.mono (by decide)) T.aB .nil Zw (@Zd _ _ _ _ _ (pv 3) (@Zc _ _ _ (Zp cD (hr.mono (by decide)) rfl T.dj T.cv.kp T.di .nil Zw (@Zd _ _ _ _ _ (pv 3) (@Zc _ _ _ (pv 4) (by rfl)) (by rfl))) (by rfl)) (by rfl))) (by rfl))) (by rfl))))) (@Zg _ _ _ (@Zo _ _ _ _ (@ZA _ _ _ _ _ _ _ (Zz (K:=K) rfl) (pv 2) Zh (fun _ _=>rfl)))))),?_⟩;cases n with
  |zero=>exact hat.elim
  |succ n=>
   refine⟨by decide,fun F hF=>?_⟩;have s1:=Zl (o:=.lst []) hF;have e1:(upd H F (.lst [])) F=some (.lst []):=Zf;generalize upd H F (.lst [])=H1 at s1 e1 ⊢;have hz':(post t).length<=8000000:=hz;refine⟨_,rfl,v,t,n+1,rfl,hat.mono (lg s1),by omega,fun H2 L us s2 L0 eL aL=>⟨L,rfl,⟨_,ll eL⟩,?_⟩⟩;have nLF:L≠F:=fun e=>by rw[e,e1] at L0;cases L0
   have hF2:=s2 _ _ e1;obtain⟨ok0,run0⟩:=yK (F:=Tr.node) t;rw[WL _ t (gY _)] at run0;have hul:=aL.1;obtain⟨n0,pv0,hP0,_⟩:=tb.pl;obtain⟨rows0,hR0,_,_,_,hD0⟩:=tb.rl;have nPF:P≠F:=Zy hP0 hF;have nRF:R≠F:=Zy hR0 hF;have nDF:D≠F:=Zy hD0 hF;have hL1:∀c o,H c=some o->c≠L:=fun c o e z=>by rw[z] at e;rw[s1 _ _ e] at L0;cases L0
   have nPL:=hL1 _ _ hP0;have nRL:=hL1 _ _ hR0;have nDL:=hL1 _ _ hD0;have tb2:=(tb.mono s1).mono s2;refine X3 (K:=K) (xs:=us) (fun i σ H'=>∃(z1 z2:Option V) (is:List Nat) (st:List Tr),σ=[some (.ref r),some v,some (.ref F),z1,z2]/\YI P R D H H'/\H' L=some (.lst us)/\AtL K (n+1) H' us (post t)/\TbY K a.Pm a.C_Table H' r P R D (ZQ ps0 ((post t).take i))/\H' F=some (.lst (iV is))/\is.length=st.length/\(∀(j:Nat) s m,st[j]?=some s->is[j]?=some m->(ZQ ps0 ((post t).take i))[m]?=some s)/\Ut Tr.node st ((post t).drop i)/\UR Tr.node st ((post t).drop i)=[t]/\st.length<=i) ?_ ?_ ?_ ?_
   ·exact⟨_,_,[],[],rfl,Za.b (s1.trans s2),eL,aL,tb2,hF2,rfl,fun j s m h=>by simp at h,ok0,run0,gY _⟩
   ·rintro i σ H' hi ⟨z1,z2,is,st,rfl,_,hL',_⟩;exact ll hL'
   ·rintro i x σ H3 hx ⟨z1,z2,is,st,rfl,b3,hL3,aL3,tb3,hF3,hil,hnum,ok3,run3,hst⟩;have hi:i<us.length:=(ib.mp hx).1;have hi2:i<(post t).length:=by omega
    have hxi:(post t)[i]?=some (post t)[i]:=gZ hi2;have at3:=aL3.2 i x _ hx hxi;have etk:=xW (ps0:=ps0) hxi;have hpl:(ZQ ps0 ((post t).take i)).length<4000:=by
     have e1:ZQ ps0 (post t)=ZQ (ZQ ps0 ((post t).take i)) ((post t).drop i):=by rw[<- WU,List.take_append_drop]
     obtain⟨B,e2⟩:=qI ((post t).drop i) (ZQ ps0 ((post t).take i));rw[e1,e2,hG] at hfew;omega
    rw[jZ hi2] at ok3 run3;obtain⟨⟨okl,okd⟩,okr⟩:=ok3;have runr:UR Tr.node (Xl Tr.node st (post t)[i]) ((post t).drop (i+1))=[t]:=run3;have kidE:(post t)[i].ks.map (Yd Tr.node)=(post t)[i].ks:=by
     have:(post t)[i].ks.map (Yd Tr.node)=(post t)[i].ks.map id:=jb fun k hk=>WL _ k (gY _);rw[this,jw]
    rw[kidE] at okd;generalize (post t)[i]=q at at3 okl okd okr runr etk hxi kidE;generalize hps:ZQ ps0 ((post t).take i)=ps at tb3 hnum etk hpl;obtain⟨ad7,ks7,eu7,sh7,ok7,hl7,hq7⟩:=id at3;refine⟨_,rfl,_,rfl,x,ad7,ks7,q.lb,rfl,eu7,sh7,by rw[hl7];exact ok7.b,fun H4 b s4 eb=>.inl ⟨b,_,rfl,.inr eb,?_⟩⟩;have hF4:=s4 _ _ hF3;have ivl:=X5 is;refine⟨F,iV is,ks7.length,rfl,hF4,by rw[ivl];omega,fun H5 l x5 hF5 l0 hl5=>?_⟩;have nlF:l≠F:=fun e=>by rw[e,hF4] at l0;cases l0
    have u45:Yk H4 H5:=Zx.tup x5 hF4;have u35:Yk H3 H5:=(lg s4).trans u45;have tb5:TbY K a.Pm a.C_Table H5 r P R D ps:=(tb3.mono s4).monoX x5 hF4 nPF nRF;rw[show(iV is).length-ks7.length=st.length-q.ks.length by omega] at hF5 hl5;have ed:(iV is).drop (st.length-q.ks.length)=iV (is.drop (st.length-q.ks.length)):=by unfold iV;rw[List.map_drop]
    have ek:(iV is).take (st.length-q.ks.length)=iV (is.take (st.length-q.ks.length)):=by unfold iV;rw[List.map_take]
    rw[ed] at hl5;rw[ek] at hF5;have at5:=at3.mono u35;obtain⟨dx5,ho5⟩:=tb5.obj;have hisl:(is.drop (st.length-q.ks.length)).length=q.ks.length:=by rw[jh];omega
    have hrow:XY ps q (VH q.lb (is.drop (st.length-q.ks.length))):=by
     refine⟨_,hisl,fun j kk m h1 h2=>?_,rfl⟩;rw[<- okd,jy] at h1;rw[jy] at h2;exact hnum _ _ _ h1 h2
    refine⟨_,rfl,.inl ⟨rfl,_,ll hF5⟩,_,rfl,r,dx5,_,rfl,ho5,lkN (by decide +kernel) (by decide +kernel) (by decide +kernel),_,rfl,_,rfl,_,rfl,x,q,n+1,l,_,rfl,at5,hl5,hisl,fun H6 b6 s6 e6=>⟨r,P,R,D,ps,x,q,n+1,b6,_,rfl,tb5.mono s6,at5.mono (lg s6),e6,hrow,by omega,fun H7 m b7 tb7 hm=>?_⟩⟩;have hF7:=b7 _ _ (ie nPF) (ie nRF) (ie nDF) (s6 _ _ hF5);refine⟨F,_,_,rfl,rfl,hF7,by rw[X5,hV,gU];omega,?_⟩;have x8:Zx F H7 (upd H7 F (.lst (iV (is.take (st.length-q.ks.length))++[.int (m:Int)]))):=(Zx.refl H7).upd;have u8:Yk H7 (upd H7 F (.lst (iV (is.take (st.length-q.ks.length))++[.int (m:Int)]))):=Zx.tup x8 hF7;have tb8:=tb7.monoX x8 hF7 nPF nRF;have e8:(upd H7 F (.lst (iV (is.take (st.length-q.ks.length))++[.int (m:Int)]))) F=some (.lst (iV (is.take (st.length-q.ks.length)++[m]))):=by
     rw[Zf];unfold iV;rw[iZ];rfl
    have b8:YI P R D H (upd H7 F (.lst (iV (is.take (st.length-q.ks.length))++[.int (m:Int)]))):=fun c o n1 n2 n3 e=>by
     have nc:c≠F:=Zy e hF;rw[ZS nc];exact b7 _ _ n1 n2 n3 (s6 _ _ (x5 _ _ nc (s4 _ _ (b3 _ _ n1 n2 n3 e))))
    have hL8:(upd H7 F (.lst (iV (is.take (st.length-q.ks.length))++[.int (m:Int)]))) L=some (.lst us):=Wh (b7 _ _ (ie nPL) (ie nRL) (ie nDL) (s6 _ _ (x5 _ _ nLF (s4 _ _ hL3)))) nLF;have u38:Yk H3 (upd H7 F (.lst (iV (is.take (st.length-q.ks.length))++[.int (m:Int)]))):=(u35.trans (lg s6)).trans (((tb5.mono s6).t b7).trans u8);generalize upd H7 F (.lst (iV (is.take (st.length-q.ks.length))++[.int (m:Int)]))=H8 at x8 u8 tb8 e8 b8 hL8 u38 ⊢;rw[<- etk] at tb8 hm;refine⟨_,_,is.take (st.length-q.ks.length)++[m],Xl Tr.node st q,rfl,b8,hL8,aL3.mono u38,tb8,e8,?_,?_,okr,runr,?_⟩
    ·unfold Xl;rw[hG,hG,hV,hV,hil];rfl
    ·intro j s m' h1 h2;unfold Xl at h1;have hll:(st.take (st.length-q.ks.length)).length=(is.take (st.length-q.ks.length)).length:=by rw[hV,hV,hil]
     by_cases hj:j<(is.take (st.length-q.ks.length)).length
     ·rw[iI (by rw[hll];exact hj)] at h1;rw[iI hj] at h2;have hj2:j<st.length-q.ks.length:=by rw[hV] at hj;omega
      rw[ke hj2] at h1 h2;rw[etk];exact XD (hnum j s m' h1 h2)
     ·rw[iM (by rw[hll];omega),hll] at h1;rw[iM (by omega)] at h2;have hj0:j-(is.take (st.length-q.ks.length)).length=0:=by
       have:=(ib.mp h2).1;rw[iY] at this;omega
      rw[hj0] at h1 h2;have e1:m=m':=by simpa using h2
      have e2:Tr.node q.lb (st.drop (st.length-q.ks.length))=s:=by simpa using h1
      rw[okd,<- Tr.eta] at e2;rw[<- e1,<- e2];exact hm
    ·unfold Xl;rw[hG,hV];simp;omega
   rintro σ H3 ⟨z1,z2,is,st,rfl,b3,hL3,aL3,tb3,hF3,hil,hnum,ok3,run3,hst⟩;rw[hul,lc (gY _)] at run3;rw[hul,jt (gY _)] at tb3 hnum;have est:st=[t]:=run3;subst est;obtain⟨m,rfl⟩:∃m,is=[m]:=by
    match is,hil with
    |[m],_=>exact⟨m,rfl⟩
   exact⟨_,rfl,F,_,_,_,rfl,rfl,ll hF3,Zk (j:=0) rfl,k H3 m b3 tb3 (hnum 0 t m rfl rfl)⟩
def vn(K:W.Frag)(a:Adr):Sp:=fun vs H Q _=>∃v t n,vs=[v]/\At K n H v t/\psz t<=8000000/\∀H',Za H H'->Q (.int ((psz t:Nat):Int)) H'
theorem vL(T:Txt K mg a)(hw:w.params=a.Pm):Yq P w K mg base CX0 4 a.size_of a.dh ["core"] (vn K a):=by
 have aQ:=XL (P:=P) (w:=w) (base:=base) T hw;refine T.dN.ok vw (fun vs H Q E h=>?_) (fun gF A outer s H vs Q E hr h=>?_)
 ·obtain⟨v,t,n,rfl,_⟩:=h;rfl
 ·obtain⟨v,t,n,rfl,hat,hz,k⟩:=h;refine⟨_,(@Zg _ _ _ (@Zo _ _ _ _ (ZB (ZK (K:=K) rfl) rfl T.bL lr (@Zc _ _ _ (Zp aQ (hr.mono (by decide)) rfl T.bj T.aG.kp T.bi .nil Zw (@Zc _ _ _ (pv 0) (by rfl))) (by rfl))))),?_⟩;refine⟨_,rfl,v,t,n,rfl,hat,hz,fun H1 L us s1 L0 hL aL=>.inl ⟨L,us,rfl,.inl (ll hL),?_⟩⟩;rw[aL.1];exact k H1 s1
structure Ww(K:W.Frag)(a:Adr)(H:Hp)(r T P R D:Addr)(ps:List Tr)(y n:Nat):Prop where
 obj:∃dx,H r=some (.ins a.C_Shorts dx [("table",.ref T),("yes",.int (y:Int)),("no",.int (n:Int))])
 tb:TbY K a.Pm a.C_Table H T P R D ps
 yes:ps[y]?=some Zn
 no:ps[n]?=some nNo
theorem lkT{v1 v2 v3:V}:([("table",v1),("yes",v2),("no",v3)]:List (Str×V)).lookup ("table" : Str)=some v1:=rfl
theorem lkYs{v1 v2 v3:V}:([("table",v1),("yes",v2),("no",v3)]:List (Str×V)).lookup ("yes" : Str)=some v2:=by
 rw[ir,(by decide +kernel:(("yes" : Str) == "table")=false)];rfl
theorem lkNo{v1 v2 v3:V}:([("table",v1),("yes",v2),("no",v3)]:List (Str×V)).lookup ("no" : Str)=some v3:=by
 rw[ir,(by decide +kernel:(("no" : Str) == "table")=false)]
 show List.lookup _ _=_
 rw[ir,(by decide +kernel:(("no" : Str) == "yes")=false)];rfl
theorem Ww.mono{K:W.Frag}{a:Adr}{H H':Hp}{r T P R D:Addr}{ps:List Tr}{y n:Nat}(s:Za H H')(h:Ww K a H r T P R D ps y n):Ww K a H' r T P R D ps y n:=
 ⟨let ⟨dx,e⟩:=h.obj; ⟨dx,s _ _ e⟩,h.tb.mono s,h.yes,h.no⟩
theorem row_head{K:W.Frag}{H:Hp}{b:Addr}{c:Lb}{is:List Nat}(h:Xm K H b (VH c is)):∃xs,SqT K H b (.str (Zv c)::xs):=by
 rcases Wn c is with⟨w,rfl,rfl,e⟩|⟨e,_⟩
 ·rw[e] at h;obtain⟨⟨q,h1,_⟩,_⟩:=h;exact⟨_,h1⟩
 ·rw[e] at h;obtain⟨r,er⟩:=qC (c:=c) (is:=is);rw[er] at h;exact⟨_,h.1⟩
theorem tb_row{K:W.Frag}{Pm:Params}{C:Addr}{H:Hp}{r P R D:Addr}{ps:List Tr}(h:TbY K Pm C H r P R D ps){i:Nat}{t:Tr}(hi:ps[i]?=some t) :
  ∃(rv:List V) (b:Addr) (is:List Nat),H R=some (.lst rv)/\rv[i]?=some (.ref b)/\Xm K H b (VH t.lb is)/\is.length=t.ks.length/\∀(j:Nat) k m,t.ks[j]?=some k->is[j]?=some m->ps[m]?=some k:=by
 obtain⟨rows,h1,h2,h3,h4,_⟩:=h.rl;have hl:=(ib.mp hi).1;have he:rows[i]?=some (rows[i]'(by omega)):=gZ (by omega);obtain⟨is,q1,q2,q3⟩:=h4 i t _ hi he;exact⟨_,(rows[i]'(by omega)).2,is,h1,by rw[iJ,he];rfl,by rw[<- q3];exact h3 _ (iO he),q1,q2⟩
def Ua(K:W.Frag)(a:Adr):Sp:=fun vs H Q _=>∃(r T P R D:Addr) (ps:List Tr) (y n i:Nat) (t:Tr),vs=[.ref r,.int (i:Nat)]/\Ww K a H r T P R D ps y n/\ps[i]?=some t/\Q (.str (wdT t)) H
theorem WE(T:Txt K mg a)(hw:w.params=a.Pm):Yq P w K mg base CX0 1 a.Shorts_word_of a.bg gM (Ua K a):=by
 refine T.cT.ok Ug (fun vs H Q E h=>?_) (fun gF A outer s H vs Q E hr h=>?_)
 ·obtain⟨r,T,P,R,D,ps,y,n,i,t,rfl,_⟩:=h;rfl
 ·obtain⟨r,S,P,R,D,ps,y,n,i,t,rfl,sh,hi,k⟩:=h;refine⟨_,(@Zg _ _ _ (@Zo _ _ _ _ (@ZA _ _ _ _ _ _ _ (ZJ (K:=K) rfl) (@ZA _ _ _ _ _ _ _ (Zz (K:=K) rfl) (ZM (K:=K) rfl (ZM (K:=K) rfl (pv 0) rfl) rfl) (pv 1) (fun _ _=>rfl)) Zh (fun _ _=>rfl)))),?_⟩;obtain⟨dx,ho⟩:=sh.obj;obtain⟨dt,ht⟩:=sh.tb.obj;obtain⟨rv,b,is,hR,hb,hrow,_,_⟩:=tb_row sh.tb hi;obtain⟨xs,hx⟩:=row_head hrow;refine⟨_,rfl,r,_,dx,_,_,rfl,ho,T.aa,T.ag,lkT,?_⟩;refine⟨S,_,dt,_,_,rfl,ht,T.ai,T.aO,lkR,_,rfl,R,_,_,_,rfl,rfl,ll hR,Zk hb,b,_,_,_,rfl,rfl,hx,Zk (j:=0) rfl,k⟩
theorem row_one{K:W.Frag}{H:Hp}{b:Addr}{t:Tr}{is:List Nat}{w:Str}(h:Xm K H b (VH t.lb is))(ok:Yh t.lb t.ks.length)(hl:is.length=t.ks.length)(hw:wdT t=w)(h1:w∈W1):∃i,is=[i]/\SqT K H b [.str w,.int (i:Nat)]/\t.lb=.op w/\∃k,t.ks=[k]:=by
 have hne:=YX w (iX _ h1);cases e:t.lb with
 |yes=>rw[wdT,e] at hw;exact absurd hw.symm hne.1
 |sign z=>rw[wdT,e] at hw;exact absurd hw.symm hne.2.1
 |wit m=>rw[wdT,e] at hw;exact absurd hw.symm hne.2.2.1
 |many v=>
  rw[wdT,e] at hw;rw[e] at ok;rcases ok.1 with rfl|rfl
  ·exact absurd hw.symm hne.2.2.2.1
  ·exact absurd hw.symm hne.2.2.2.2
 |op v=>
  rw[wdT,e] at hw;have hv:v=w:=hw;subst hv;rw[e] at ok h;have h12:∀x∈W1,x∉W2:=by decide +kernel
  rcases ok with⟨_,o⟩|⟨o2,_⟩
  ·obtain⟨k,ek⟩:∃k,t.ks=[k]:=by
    match t.ks,o with
    |[k],_=>exact⟨k,rfl⟩
   obtain⟨i,ei⟩:∃i,is=[i]:=by
    rw[o] at hl
    match is,hl with
    |[i],_=>exact⟨i,rfl⟩
   subst ei;exact⟨i,rfl,h.1,rfl,k,ek⟩
  ·exact absurd o2 (h12 _ h1)
theorem TbY_oks{K:W.Frag}{Pm:Params}{C:Addr}{H:Hp}{r P R D:Addr}{ps:List Tr}(h:TbY K Pm C H r P R D ps):∀t∈ps,Yh t.lb t.ks.length:=by
 obtain⟨n,pv,_,hp⟩:=h.pl;exact hp.oks
noncomputable def dblB(k:Tr)(same other:Str):Bool:=if wdT k=other then decide (wdT (Xj k.ks)=same) else decide (wdT k=same)
theorem UA{k:Tr}{same other:Str}:dblB k same other=true↔WP k same other:=by
 unfold dblB WP
 split<;>exact decide_eq_true_iff
def VF(K:W.Frag)(a:Adr):Sp:=fun vs H Q _=>∃(r T P R D:Addr) (ps:List Tr) (y n i:Nat) (t:Tr) (same other:Str),vs=[.ref r,.int (i:Nat),.str same,.str other]/\Ww K a H r T P R D ps y n/\ps[i]?=some t/\other∈W1/\Q (.bl (dblB t same other)) H
theorem VD(T:Txt K mg a)(hw:w.params=a.Pm):Yq P w K mg base CX0 2 a.Shorts_is_double a.aM gP (VF K a):=by
 have aV:=WE (P:=P) (w:=w) (base:=base) T hw;refine T.cg.ok VE (fun vs H Q E h=>?_) (fun gF A outer s H vs Q E hr h=>?_)
 ·obtain⟨r,T,P,R,D,ps,y,n,i,t,same,other,rfl,_⟩:=h;rfl
 ·obtain⟨r,S,P,R,D,ps,y,n,i,t,same,other,rfl,sh,hi,ho1,k⟩:=h;refine⟨_,(@Zb _ _ _ _ _ (@ZI _ _ _ _ _ _ _ _ (@Zm _ _ _ _ _ _ _ _ ZL (Ys (pv 0) T.aa T.aU aV (hr.mono (by decide)) T.aT .nil Zw (@Zc _ _ _ (pv 1) (by rfl))) (pv 3) (Zs _)) (@Zg _ _ _ (@Zo _ _ _ _ (@Xk _ _ _ _ _ _ _ _ ZL (Ys (pv 0) T.aa T.aU aV (hr.mono (by decide)) T.aT .nil Zw (@Zc _ _ _ (@ZA _ _ _ _ _ _ _ (ZJ (K:=K) rfl) (@ZA _ _ _ _ _ _ _ (Zz (K:=K) rfl) (ZM (K:=K) rfl (ZM (K:=K) rfl (pv 0) rfl) rfl) (pv 1) (fun _ _=>rfl)) Zh (fun _ _=>rfl)) (by rfl))) (pv 2) (Zs _)))) Zt) (@Zg _ _ _ (@Zo _ _ _ _ (@Xk _ _ _ _ _ _ _ _ ZL (Ys (pv 0) T.aa T.aU aV (hr.mono (by decide)) T.aT .nil Zw (@Zc _ _ _ (pv 1) (by rfl))) (pv 2) (Zs _))))),?_⟩;obtain⟨dx,ho⟩:=sh.obj;obtain⟨dt,ht⟩:=sh.tb.obj;have lkW:([("table",.ref S),("yes",.int (y:Int)),("no",.int (n:Int))]:List (Str×V)).lookup ("word_of" : Str)=none:=by
   rw[ir,(by decide +kernel:(("word_of" : Str) == "table")=false)]
   show List.lookup _ _=_
   rw[ir,(by decide +kernel:(("word_of" : Str) == "yes")=false)]
   show List.lookup _ _=_
   rw[ir,(by decide +kernel:(("word_of" : Str) == "no")=false)];rfl
  refine⟨_,rfl,r,dx,_,rfl,ho,lkW,_,rfl,r,S,P,R,D,ps,y,n,i,t,rfl,sh,hi,_,rfl,rfl,_,rfl,Xv (fun c=>?_) (fun c=>?_)⟩
  ·have cw:wdT t=other:=V.str.inj (iz c);obtain⟨rv,b,is,hR,hb,hrow,hil,hnum⟩:=tb_row sh.tb hi;obtain⟨j,rfl,hx,_,k0,ek⟩:=row_one hrow (TbY_oks sh.tb t (iO hi)) hil cw ho1;have hk0:ps[j]?=some k0:=hnum 0 k0 j (by rw[ek];rfl) rfl;refine⟨_,rfl,r,dx,_,rfl,ho,lkW,_,rfl,r,_,dx,_,_,rfl,ho,T.aa,T.ag,lkT,S,_,dt,_,_,rfl,ht,T.ai,T.aO,lkR,_,rfl,R,_,_,_,rfl,rfl,ll hR,Zk hb,b,_,_,_,rfl,rfl,hx,Zk (j:=1) rfl,r,S,P,R,D,ps,y,n,j,k0,rfl,sh,hk0,_,rfl,rfl,?_⟩;unfold dblB at k;rw[if_pos cw,ek] at k;have e:decide (V.str (wdT k0)=V.str same)=decide (wdT (Xj [k0])=same):=by
    show _=decide (wdT k0=same)
    by_cases q:wdT k0=same
    ·rw[hX q,hX (io V.str q)]
    ·rw[im q,im fun z=>q (V.str.inj z)]
   show Q (.bl _) H
   rw[e];exact k
  ·have cw:¬wdT t=other:=fun z=>c (hX (io V.str z));refine⟨_,rfl,r,dx,_,rfl,ho,lkW,_,rfl,r,S,P,R,D,ps,y,n,i,t,rfl,sh,hi,_,rfl,rfl,?_⟩;unfold dblB at k;rw[if_neg cw] at k;have e:decide (V.str (wdT t)=V.str same)=decide (wdT t=same):=by
    by_cases q:wdT t=same
    ·rw[hX q,hX (io V.str q)]
    ·rw[im q,im fun z=>q (V.str.inj z)]
   show Q (.bl _) H
   rw[e];exact k
theorem zi{H:Hp}{x dx:Addr}{o o':HO}(h1:H x=none)(h2:H dx=none):Za H (upd (upd H dx o) x o'):=fun b u e=>by
 rw[ZS (Zy e h1),ZS (Zy e h2)];exact e
theorem sput1(v:V):YB "table" v []=([("table",v)]:List (Str×V)):=by simp[YB]
theorem sput2(v1 v2:V):YB "yes" v2 ([("table",v1)]:List (Str×V))=([("table",v1),("yes",v2)]:List (Str×V)):=by simp only[YB,if_neg (by decide +kernel:¬(("table" : Str) = "yes"))]
theorem sput3(v1 v2 v3:V):YB "no" v3 ([("table",v1),("yes",v2)]:List (Str×V))=([("table",v1),("yes",v2),("no",v3)]:List (Str×V)):=by simp only[YB,if_neg (by decide +kernel:¬(("table" : Str) = "no")),if_neg (by decide +kernel:¬(("yes" : Str) = "no"))]
theorem at_YES{K:W.Frag}{mg:Str->Option Value}{a:Adr}(T:Txt K mg a)(H:Hp){n:Nat}:At K (n+1) H (.ref a.Y_YES) Zn:=Xb (T.y_YES H)
theorem xo:post Zn=[Zn]:=by rw[Vy];rfl
theorem post_no:post nNo=[Zn,nNo]:=by
 rw[Vy]
 show Z2 [Zn]++[nNo]=_
 rw[Z2,xo,Z2];rfl
theorem add_no:ZQ [Zn] (post nNo)=[Zn,nNo]:=by
 rw[post_no,Yu,W3 (by simp),Yu,Ux (by simp only[iW];exact fun z=>qO z.symm)];rfl
theorem ins_tup{H H':Hp}{r C dx:Addr}{fs:List (Str×V)}(s:Zx r H H')(hr:H r=some (.ins C dx fs)):Yk H H':=fun K b xs h=>by
 have n:∀{o:HO},H b=some o->(∀C dx fs,o≠.ins C dx fs)->H' b=some o:=fun e q=>s _ _ (fun z=>by rw[z,hr] at e;cases e;exact q _ _ _ rfl) e;rcases h with(h|⟨o,h⟩)|h
 ·exact .inl (.inl (n h (fun _ _ _ z=>by cases z)))
 ·exact .inl (.inr ⟨o,n h (fun _ _ _ z=>by cases z)⟩)
 ·exact .inr h
theorem tb_ins{K:W.Frag}{Pm:Params}{C C':Addr}{H H':Hp}{r q P R D dx:Addr}{ps:List Tr}{fs:List (Str×V)}(s:Zx q H H')(hq:H q=some (.ins C' dx fs))(n:r≠q)(h:TbY K Pm C H r P R D ps):TbY K Pm C H' r P R D ps:=by
 obtain⟨⟨d0,h0⟩,⟨m,pv,h1,h2⟩,⟨rows,g1,g2,g3,g4,g5⟩,nd,pr⟩:=h;have u:=ins_tup s hq;exact⟨⟨d0,s _ _ n h0⟩,⟨m,pv,s _ _ (YR h1 hq (by intro z;cases z)) h1,h2.mono u⟩,⟨rows,s _ _ (YR g1 hq (by intro z;cases z)) g1,g2,fun e he=>(g3 e he).mono u,g4,s _ _ (YR g5 hq (by intro z;cases z)) g5⟩,nd,pr⟩
theorem add_yes:ZQ [] (post Zn)=[Zn]:=by rw[xo];rfl
def zm(K:W.Frag)(a:Adr):Sp:=fun vs H Q _=>∃(r dx:Addr),vs=[.ref r]/\H r=some (.ins a.C_Shorts dx [])/\∀H' T P R D,Zx r H H'->H T=none->H P=none->H R=none->H D=none->Ww K a H' r T P R D [Zn,nNo] 0 1->Q .non H'
theorem Vo(T:Txt K mg a)(hw:w.params=a.Pm):Yq P w K mg base CX0 5 a.Shorts_init a.bF ["self"] (zm K a):=by
 have fL:=zv (P:=P) (w:=w) (base:=base) T hw;have cE:=V1 (P:=P) (w:=w) (base:=base) T hw;refine T.dQ.ok qy (fun vs H Q E h=>?_) (fun gF A outer s H vs Q E hr h=>?_)
 ·obtain⟨r,dx,rfl,_⟩:=h;rfl
 ·obtain⟨r,dx,rfl,hr0,k⟩:=h;refine⟨_,(@Zb _ _ _ _ _ (UW (pv 0) (za T.fY fL (hr.mono (by decide)) rfl T.ge T.eo .nil Zw) rfl) (@Zb _ _ _ _ _ (UW (pv 0) (Ys (ZM (K:=K) rfl (pv 0) rfl) T.ai T.bE cE (hr.mono (by decide)) T.bD .nil Zw (@Zc _ _ _ (Wl (v:=.ref a.Y_YES) rfl ⟨_,T.fA,rfl⟩) (by rfl))) rfl) (@Zg _ _ _ (UW (pv 0) (Ys (ZM (K:=K) rfl (pv 0) rfl) T.ai T.bE cE (hr.mono (by decide)) T.bD .nil Zw (@Zc _ _ _ (@Zj _ _ _ _ _ (@Zd _ _ _ _ _ Ze (@Zc _ _ _ (Wl (v:=.ref a.Y_YES) rfl ⟨_,T.fA,rfl⟩) (by rfl)) (by rfl))) (by rfl))) rfl)))),?_⟩;refine fun x dt nx ndt nex=>⟨x,dt,rfl,Zf,fun H1 P R D x1 hP hR hD nP nR nD tb1=>⟨rfl,?_⟩⟩;have s0:=zi (o:=.own x) (o':=.ins a.C_Table dt []) nx ndt;have s1:Za H H1:=fun b u e=>x1 _ _ (Zy e nx) (s0 _ _ e);have hr1:=s1 _ _ hr0;have fr:∀{c:Addr},(upd (upd H dt (.own x)) x (.ins a.C_Table dt [])) c=none->H c=none:=fun h=>s0.free h;have nxr:x≠r:=Zy hr0 nx |>.symm;refine⟨_,rfl,r,_,dx,[],rfl,hr1,T.aa,T.ag,by decide,?_⟩;have x2:Zx r H1 (upd H1 r (.ins a.C_Shorts dx (YB "table" (.ref x) []))):=(Zx.refl H1).upd;have hr2:(upd H1 r (.ins a.C_Shorts dx (YB "table" (.ref x) []))) r=some (.ins a.C_Shorts dx [("table",.ref x)]):=by rw[Zf,sput1]
  generalize upd H1 r (.ins a.C_Shorts dx (YB "table" (.ref x) []))=H2 at x2 hr2 ⊢;have tb2:=tb_ins x2 hr1 nxr tb1;obtain⟨d2,ho2⟩:=tb2.obj;refine⟨_,rfl,r,_,dx,_,_,rfl,hr2,T.aa,T.ag,rfl,x,d2,_,rfl,ho2,lkN (by decide +kernel) (by decide +kernel) (by decide +kernel),x,P,R,D,[],.ref a.Y_YES,Zn,1,rfl,tb2,at_YES T H2,by decide +kernel,by rw[add_yes];decide,fun H3 i b3 tb3 hi=>?_⟩;rw[add_yes] at tb3 hi;have i0:i=0:=by have:=(ib.mp hi).1;rw[iY] at this;omega
  subst i0;have nrT:∀{H:Hp}{fs:List (Str×V)}{ps:List Tr},H r=some (.ins a.C_Shorts dx fs)->TbY K a.Pm a.C_Table H x P R D ps->r≠P/\r≠R/\r≠D:=fun {H fs ps} e tb=>by
   obtain⟨_,_,h1,_⟩:=tb.pl;obtain⟨_,h2,_,_,_,h3⟩:=tb.rl;exact⟨YR e h1 (by intro z;cases z),YR e h2 (by intro z;cases z),YR e h3 (by intro z;cases z)⟩
  obtain⟨n1,n2,n3⟩:=nrT hr2 tb2;have hr3:=b3 _ _ n1 n2 n3 hr2;refine⟨_,rfl,r,_,dx,_,rfl,hr3,T.aa,T.bz,by simp,?_⟩;have x4:Zx r H3 (upd H3 r (.ins a.C_Shorts dx (YB "yes" (.int ((0:Nat):Int)) [("table",.ref x)]))):=(Zx.refl H3).upd;have hr4:(upd H3 r (.ins a.C_Shorts dx (YB "yes" (.int ((0:Nat):Int)) [("table",.ref x)]))) r=some (.ins a.C_Shorts dx [("table",.ref x),("yes",.int ((0:Nat):Int))]):=by rw[Zf,sput2]
  generalize upd H3 r (.ins a.C_Shorts dx (YB "yes" (.int ((0:Nat):Int)) [("table",.ref x)]))=H4 at x4 hr4 ⊢;have tb4:=tb_ins x4 hr3 nxr tb3;obtain⟨d4,ho4⟩:=tb4.obj;refine⟨_,rfl,r,_,dx,_,_,rfl,hr4,T.aa,T.ag,rfl,x,d4,_,rfl,ho4,lkN (by decide +kernel) (by decide +kernel) (by decide +kernel),sz2,fun q hq=>?_⟩;obtain⟨H5,qN,s5,e5⟩:=Zq (o:=.tup [.str "not",.ref a.Y_YES]) hq;rw[qN];have a5:At K 2 H5 (.ref q) nNo:=ZZ (lh e5) (by decide +kernel) (at_YES T H5);refine⟨x,P,R,D,[Zn],.ref q,nNo,2,rfl,tb4.mono s5,a5,by decide +kernel,by rw[add_no];decide,fun H6 j b6 tb6 hj=>?_⟩;rw[add_no] at tb6 hj;have j1:j=1:=by
   have:=(ib.mp hj).1;rw[iA,iY] at this;rcases(show j=0\/j=1 by omega) with rfl|rfl
   ·exact absurd (iB hj) qO
   ·rfl
  subst j1;have hr6:=b6 _ _ n1 n2 n3 (s5 _ _ hr4);refine⟨_,rfl,r,_,dx,_,rfl,hr6,T.aa,T.bM,by simp,?_⟩;have x7:Zx r H6 (upd H6 r (.ins a.C_Shorts dx (YB "no" (.int ((1:Nat):Int)) [("table",.ref x),("yes",.int ((0:Nat):Int))]))):=(Zx.refl H6).upd;have hr7:(upd H6 r (.ins a.C_Shorts dx (YB "no" (.int ((1:Nat):Int)) [("table",.ref x),("yes",.int ((0:Nat):Int))]))) r=some (.ins a.C_Shorts dx [("table",.ref x),("yes",.int ((0:Nat):Int)),("no",.int ((1:Nat):Int))]):=by rw[Zf,sput3]
  generalize upd H6 r (.ins a.C_Shorts dx (YB "no" (.int ((1:Nat):Int)) [("table",.ref x),("yes",.int ((0:Nat):Int))]))=H7 at x7 hr7 ⊢;have tb7:=tb_ins x7 hr6 nxr tb6;have hP0:=fr hP;have hR0:=fr hR;have hD0:=fr hD;refine k H7 x P R D (fun b o nb e=>x7 _ _ nb (b6 _ _ (Zy e hP0) (Zy e hR0) (Zy e hD0) (s5 _ _ (x4 _ _ nb (b3 _ _ (Zy e hP0) (Zy e hR0) (Zy e hD0) (x2 _ _ nb (s1 _ _ e))))))) nx hP0 hR0 hD0 ⟨⟨dx,hr7⟩,tb7,rfl,rfl⟩
def Vm(ps:List Tr)(is:List Nat)(ks:List Tr):Prop:=is.length=ks.length/\∀(j:Nat) k i,ks[j]?=some k->is[j]?=some i->ps[i]?=some k
theorem Ww.next{K:W.Frag}{a:Adr}{H H':Hp}{r T P R D:Addr}{ps:List Tr}{y n:Nat}{x:Tr}(h:Ww K a H r T P R D ps y n)(b:YI P R D H H')(tb:TbY K a.Pm a.C_Table H' T P R D (Yp ps x)):Ww K a H' r T P R D (Yp ps x) y n:=by
 obtain⟨dx,e⟩:=h.obj;obtain⟨_,_,h1,_⟩:=h.tb.pl;obtain⟨_,h2,_,_,_,h3⟩:=h.tb.rl;exact⟨⟨dx,b _ _ (YR e h1 (by intro z;cases z)) (YR e h2 (by intro z;cases z)) (YR e h3 (by intro z;cases z)) e⟩,tb,XD h.yes,XD h.no⟩
theorem vI{K:W.Frag}{H:Hp}{b:Addr}{us:List V}{c:Lb}(sh:WK K H b us c)(hm:∀w,c≠.many w)(hu:us≠[]):∃hd:List V,SqT K H b (hd++us)/\1<=hd.length/\hd.length<=2/\∀H' q ws,SqT K H' q (hd++ws)->WK K H' q ws c:=by
 cases c with
 |yes=>exact absurd sh.1 hu
 |sign z=>exact absurd sh.1 hu
 |op w=>exact⟨[.str w],sh,by simp,by simp,fun _ _ _ h=>h⟩
 |wit m=>exact⟨[.str "within",.int m],sh,by simp,by simp,fun _ _ _ h=>h⟩
 |many w=>exact absurd rfl (hm w)
theorem cut_neg{xs us:List V}(h:1<=us.length):Wp (xs++us) none (some (-(us.length:Int)))=xs:=by
 unfold Wp;have e:HT.sIx (xs++us).length (xs++us).length (some (-(us.length:Int)))=xs.length:=by
  show(if(-(us.length:Int))<0 then((-(us.length:Int))+((xs++us).length:Nat)).toNat else _)=_
  rw[if_pos (by omega),hG];omega
 have e0:HT.sIx (xs++us).length 0 none=0:=rfl;rw[e,e0,List.drop_zero,Nat.sub_zero,List.take_left]
def qz(K:W.Frag)(a:Adr):Sp:=fun vs H Q _=>∃(r T P R D:Addr) (ps:List Tr) (y n:Nat) (v:V) (t:Tr) (m:Nat) (l:Addr) (is:List Nat) (ks:List Tr),vs=[.ref r,v,.ref l]/\Ww K a H r T P R D ps y n/\ps.length<4000/\At K m H v t/\(∀w,t.lb≠.many w)/\H l=some (.lst (iV is))/\Vm ps is ks/\ks.length=t.ks.length/\∀H' (i:Nat),YI P R D H H'->Ww K a H' r T P R D (Yp ps (.node t.lb ks)) y n->(Yp ps (.node t.lb ks))[i]?=some (.node t.lb ks)->Q (.int (i:Int)) H'
theorem qp(T:Txt K mg a)(hw:w.params=a.Pm):Yq P w K mg base CX0 2 a.Shorts_made a.bG gI (qz K a):=by
 have cD:=Vd (P:=P) (w:=w) (base:=base) T hw;have ao:=Y4 (P:=P) (w:=w) (base:=base) T hw;refine T.dU.ok Vg (fun vs H Q E h=>?_) (fun gF A outer s H vs Q E hr h=>?_)
 ·obtain⟨r,T,P,R,D,ps,y,n,v,t,m,l,is,ks,rfl,_⟩:=h;rfl
 ·obtain⟨r,S,P,R,D,ps,y,n,v,t,m,l,is,ks,rfl,sh,few,hat,hnm,hl,⟨hil,hnum⟩,hkl,k⟩:=h;refine⟨_,(@Zb _ _ _ _ _ (@ZI _ _ _ _ _ _ _ _ (@XO _ _ _ _ (XB (K:=K) rfl (pv 2) (fun _=>rfl))) (@Zg _ _ _ (@Zo _ _ _ _ (Ys (ZM (K:=K) rfl (pv 0) rfl) T.ai T.aC ao (hr.mono (by decide)) T.aB .nil Zw (@Zd _ _ _ _ _ (pv 1) (@Zc _ _ _ (pv 1) (by rfl)) (by rfl))))) Zt) (@Zb _ _ _ _ _ (@Zr _ _ (3) _ _ _ _ Vg.nd rfl (Or.inl rfl) (YD (XA (K:=K) rfl) rfl T.cO lv (@Zc _ _ _ (Ws (Nc:=gJ) (ix:=[none,some 0]) (YJ.of (by decide +kernel:Xo (Zi Yt) ["self", "sentence", "inner", "parts"] ["number", "self"] [none,some 0] _=true)) rfl (Yr (K:=K) rfl (pv 2)) (fun _ _ _ _ _=>(ZY (i:=0) (show List.Nodup gJ by decide +kernel) rfl (Or.inl rfl))) (fun _ _ _ _ _=>WB) (fun _ _ _ _ _=>(@ZA _ _ _ _ _ _ _ (Zz (K:=K) rfl) (ZM (K:=K) rfl (ZM (K:=K) rfl (pv 1) rfl) rfl) (pv 0) (fun _ _=>rfl)))) (by rfl))) (by rfl) (.inl rfl)) (@Zg _ _ _ (@Zo _ _ _ _ (Ys (ZM (K:=K) rfl (pv 0) rfl) T.ai T.aC ao (hr.mono (by decide)) T.aB .nil Zw (@Zd _ _ _ _ _ (@ZE _ _ _ _ _ _ _ _ (Ue (K:=K) rfl) (YG (WC (K:=K) rfl) (pv 1) Y6 (YQ (VL WI (ZB (ZK (K:=K) rfl) rfl T.bL lr (@Zc _ _ _ (pv 2) (by rfl)))))) (pv 3)) (@Zc _ _ _ (Zp cD (hr.mono (by decide)) rfl T.dj T.cv.kp T.di .nil Zw (@Zd _ _ _ _ _ (pv 1) (@Zc _ _ _ (pv 2) (by rfl)) (by rfl))) (by rfl)) (by rfl))))))),?_⟩;obtain⟨dx,ho⟩:=sh.obj;obtain⟨dt,ht⟩:=sh.tb.obj;obtain⟨np,pv,hP,aP⟩:=sh.tb.pl;cases m with
  |zero=>exact hat.elim
  |succ m=>
   obtain⟨ad,us,rfl,shp,ok,hul,hq⟩:=id hat;refine⟨_,rfl,!(iV is).isEmpty,.inl ⟨_,ll hl,rfl⟩,?_⟩;have h8:=lb8 ok;have lkTk:=fun(v1 v2 v3:V)=>lkN (v1:=v1) (v2:=v2) (v3:=v3) (m := "taken_in") (by decide +kernel) (by decide +kernel) (by decide +kernel);have hrow:∀is',is'=is->XY ps (.node t.lb ks) (VH t.lb is'):=fun is' e=>⟨is,by rw[hil];rfl,hnum,by rw[e];rfl⟩;cases his:(iV is).isEmpty with
   |true=>
    have e0:iV is=[]:=jY.mp his;have e1:is=[]:=iG.mp (by rw[<- X5,e0];rfl);have e2:ks=[]:=iG.mp (by rw[<- hil,e1];rfl);have e3:t.ks=[]:=iG.mp (by rw[<- hkl,e2];rfl);have et:Tr.node t.lb ks=t:=by rw[e2,<- e3];exact(Tr.eta t).symm
    have z0:t.ks.length=0:=by rw[e3];rfl
    have rw0:Xm K H ad (VH t.lb []):=xn shp (by rw[hul,z0]) (by rw[<- z0];exact ok);rw[et] at k;refine Xh ⟨_,rfl,r,_,dx,_,_,rfl,ho,T.aa,T.ag,lkT,S,dt,_,rfl,ht,lkTk _ _ _,_,rfl,_,rfl,S,P,R,D,ps,.ref ad,t,m+1,ad,VH t.lb [],rfl,sh.tb,hat,rw0,by have:=hrow [] e1.symm;rw[et] at this;exact this,few,fun H1 i b1 tb1 hi=>k H1 i b1 (sh.next b1 tb1) hi⟩
   |false=>
    have hn0:is≠[]:=fun e=>by rw[e] at his;cases his
    have hpos:0<is.length:=jT.mpr hn0;have hun:us≠[]:=fun e=>by rw[e] at hul;simp at hul;omega
    obtain⟨hd,hs,hd1,hd2,hmk⟩:=vI shp hnm hun;refine Yi ?_;refine⟨_,rfl,l,rfl,⟨_,ll hl⟩,fun A hA=>?_⟩;refine Wj (K:=K) is (fun i=>V.int ((i:Nat):Int)) (fun i=>(pv[i]?).getD .non) hA (ll hl) (by rw[gU];omega) ?_ ?_
    ·intro x hx G N sG hN;obtain⟨j,hj,ej⟩:=jd hx;have hk:ks[j]?=some (ks[j]'(by omega)):=gZ (by omega);have hp:=hnum j _ x hk (by rw[<- ej];exact gZ hj);have hxl:x<pv.length:=by rw[aP.1];exact(ib.mp hp).1
     have hu:pv[x]?=some (pv[x]'hxl):=gZ hxl;have hN':=hN G (.refl _);rw[hu] at hN';exact⟨_,rfl,r,_,dx,_,_,rfl,sG _ _ ho,T.aa,T.ag,lkT,S,_,dt,_,_,rfl,sG _ _ ht,T.ai,T.aW,lkP,_,rfl,P,_,_,_,rfl,rfl,ll (sG _ _ hP),Zk hu,hN'⟩
    intro H1 hA1 s1;generalize hws:is.map (fun i=>(pv[i]?).getD .non)=ws at hA1;have lws:ws.length=is.length:=by rw[<- hws,hJ]
    have aws:AtL K np H ws ks:=by
     refine⟨by omega,fun j u k' h1 h2=>?_⟩;have hj:j<is.length:=by rw[<- lws];exact(ib.mp h1).1
     have hp:=hnum j k' is[j] h2 (gZ hj);have hxl:is[j]<pv.length:=by rw[aP.1];exact(ib.mp hp).1
     rw[<- hws,iJ,gZ hj] at h1;have e:u=pv[is[j]]'hxl:=by
      have:=iB h1;rw[<- this];show(pv[is[j]]?).getD .non=_;rw[gZ hxl];rfl
     rw[e];exact aP.2 _ _ _ (gZ hxl) hp
    refine⟨A,ws,rfl,.inl ⟨ll hA1,fun B hB=>?_⟩⟩;obtain⟨H2,qN,s2,eB⟩:=Zq (o:=.tup ws) hB;rw[qN];have s12:=s1.trans s2;refine⟨_,rfl,r,_,dx,_,_,rfl,s12 _ _ ho,T.aa,T.ag,lkT,S,dt,_,rfl,s12 _ _ ht,lkTk _ _ _,?_⟩;refine⟨_,rfl,_,rfl,.inl ⟨l,_,rfl,.inl (ll (s12 _ _ hl)),?_⟩⟩;rw[X5];have lu:us.length=is.length:=by omega
    refine⟨_,rfl,_,rfl,ad,_,rfl,lg s12 _ _ _ hs,?_,fun q hq=>?_⟩
    ·rintro⟨z1,z2⟩;have e:HT.sIx (hd++us).length (hd++us).length (some (-(is.length:Int)))=hd.length:=by
      show(if(-(is.length:Int))<0 then((-(is.length:Int))+((hd++us).length:Nat)).toNat else _)=_
      rw[if_pos (by omega),hG];omega
     rw[e,hG] at z2;omega
    have ec:Wp (hd++us) none (some (-(is.length:Int)))=hd:=by rw[<- lu];exact cut_neg (by omega)
    rw[ec];obtain⟨H3,qN,s3,eq⟩:=Zq (o:=.tup hd) hq;rw[qN];refine⟨_,rfl,q,B,hd,ws,rfl,rfl,lh eq,lh (s3 _ _ eB),fun z=>by rw[z] at hd1;simp at hd1,by rw[gU];omega,fun z=>absurd (io List.length z) (by rw[lws];simp;omega),fun _ c hc=>?_⟩;obtain⟨H4,qN,s4,ec4⟩:=Zq (o:=.tup (hd++ws)) hc;rw[qN];have s24:=s3.trans s4;have s14:=s12.trans s24;have at4:At K (np+1) H4 (.ref c) (.node t.lb ks):=⟨c,ws,rfl,hmk _ _ _ (lh ec4),by show Yh t.lb ks.length;rw[hkl];exact ok,by show ws.length=ks.length;omega,fun i u k' h1 h2=>(aws.2 i u k' h1 h2).mono (lg s14)⟩;refine⟨_,rfl,_,rfl,.ref ad,t,m+1,l,is,rfl,hat.mono (lg s14),s14 _ _ hl,by omega,fun H5 b5 s5 r5=>?_⟩;have s15:=s14.trans s5;refine⟨S,P,R,D,ps,.ref c,.node t.lb ks,np+1,b5,_,rfl,sh.tb.mono s15,at4.mono (lg s5),r5,hrow _ rfl,few,fun H6 i b6 tb6 hi=>?_⟩;have b16:YI P R D H H6:=(Za.b s15).trans b6;exact k H6 i b16 (sh.next b16 tb6) hi
open Classical in
theorem zV{kv:List (Key×V)}{k:Key}{v:V}:(UG kv k v).map (·.1)=if k∈kv.map (·.1) then kv.map (·.1) else kv.map (·.1)++[k]:=by
 unfold UG
 by_cases h:(kv.any fun e=>decide (e.1=k))=true
 ·have hm:k∈kv.map (·.1):=by
   obtain⟨e,he,q⟩:=kH.mp h;exact ik.mpr ⟨e,he,iz q⟩
  rw[if_pos h,if_pos hm,iw];refine jb fun e he=>?_
  show(if e.1=k then _ else e).1=e.1
  split<;>first|rfl|(rename_i q;exact q.symm)
 ·have hm:k∉kv.map (·.1):=fun z=>h (by
   obtain⟨e,he,q⟩:=ik.mp z;exact kH.mpr ⟨e,he,hX q⟩)
  rw[if_neg h,if_neg hm,iZ];rfl
def nKs(fs:List Nat):List Key:=fs.map fun(i:Nat)=>(Sum.inl ((i:Nat):Int):Key)
theorem nKs_mem{fs:List Nat}{x:Nat}:(Sum.inl ((x:Nat):Int):Key)∈nKs fs↔x∈fs:=by
 unfold nKs;rw[ik];constructor
 ·rintro⟨i,hi,e⟩;have:(i:Int)=(x:Int):=jM e;have:i=x:=by omega
  rw[<- this];exact hi
 ·exact fun h=>⟨x,h,rfl⟩
theorem Vm.mem{ps:List Tr}(nd:ps.Nodup){fs:List Nat}{ks:List Tr}(h:Vm ps fs ks){x:Nat}{k:Tr}(hx:ps[x]?=some k):x∈fs↔k∈ks:=by
 constructor
 ·intro hm;obtain⟨j,hj,e⟩:=jd hm;have hk:ks[j]?=some (ks[j]'(by rw[<- h.1];exact hj)):=gZ _;have:=h.2 j _ x hk (by rw[<- e];exact gZ hj);rw[hx] at this;rw[iB this];exact jr _
 ·intro hm;obtain⟨j,hj,e⟩:=jd hm;have hi:fs[j]?=some (fs[j]'(by rw[h.1];exact hj)):=gZ _;have:=h.2 j k _ (by rw[<- e];exact gZ hj) hi;rw[zL nd hx this];exact jr _
theorem Vm.snoc{ps:List Tr}{fs:List Nat}{ks:List Tr}(h:Vm ps fs ks){x:Nat}{k:Tr}(hx:ps[x]?=some k):Vm ps (fs++[x]) (ks++[k]):=by
 refine⟨by rw[hG,hG,h.1];rfl,fun j k' i h1 h2=>?_⟩
 by_cases cj:j<ks.length
 ·rw[iI cj] at h1;rw[iI (by rw[h.1];exact cj)] at h2;exact h.2 j k' i h1 h2
 ·have lj:=(ib.mp h1).1;rw[hG,iY] at lj;obtain rfl:j=ks.length:=by omega
  rw[iM (gY _),jK] at h1;rw[<- h.1,iM (gY _),jK] at h2;cases h1;cases h2;exact hx
def UY(K:W.Frag)(a:Adr):Sp:=fun vs H Q _=>∃(r T P R D:Addr) (ps:List Tr) (y n:Nat) (w:Str) (l:Addr) (is:List Nat) (ks:List Tr) (i0 s0:Nat) (tI tS:Tr),vs=[.ref r,.str w,.ref l,.int (i0:Nat),.int (s0:Nat)]/\(w = "and" \/ w = "or")/\Ww K a H r T P R D ps y n/\ps.length<4000/\H l=some (.lst (iV is))/\Vm ps is ks/\ks.length<=8/\ps[i0]?=some tI/\ps[s0]?=some tS/\∀H' (i:Nat),YI P R D H H'->Ww K a H' r T P R D (Yp ps (Yo w tI tS ks)) y n->(Yp ps (Yo w tI tS ks))[i]?=some (Yo w tI tS ks)->Q (.int (i:Int)) H'
theorem UF(T:Txt K mg a)(hw:w.params=a.Pm):Yq P w K mg base CX0 2 a.Shorts_joined a.bq gQ (UY K a):=by
 have ao:=Y4 (P:=P) (w:=w) (base:=base) T hw;refine T.db.ok XQ (fun vs H Q E h=>?_) (fun gF A outer s H vs Q E hr h=>?_)
 ·obtain⟨r,T,P,R,D,ps,y,n,w,l,is,ks,i0,s0,tI,tS,rfl,_⟩:=h;rfl
 ·obtain⟨r,S,P,R,D,ps,y,n,w,l,is,ks,i0,s0,tI,tS,rfl,hwd,sh,few0,hl,hN0,h8,hI,hS,k⟩:=h;refine⟨_,(@Zb _ _ _ _ _ (@ZI _ _ _ _ _ _ _ _ (@Zm _ _ _ _ _ _ _ _ (Vf (K:=K) rfl) (pv 4) (pv 2) (by with_unfolding_all rfl)) (@Zg _ _ _ (@Zo _ _ _ _ (pv 4))) Zt) (@Zb _ _ _ _ _ (@Zr _ _ (5) _ _ _ _ XQ.nd rfl (Or.inl rfl) (YD (xB rfl) rfl T.fI lx (@Zc _ _ _ (pe_dcompE (o0:=.dK []) (.inl rfl) (Nc:=["number", "idle"]) (ix:=[none,some 3]) (YJ.of (by decide +kernel:Xo (Zi Z1) ["self", "word", "inner", "idle", "strong", "few", "parts"] ["number", "idle"] [none,some 3] _=true)) (YN.units0 hr) rfl (Yr (K:=K) rfl (pv 2)) (fun _ _ _ _ _=>(ZY (i:=0) (show List.Nodup (["number", "idle"]:List Str) by decide +kernel) rfl (Or.inl rfl))) (fun _ _ _ _ _=>(pts_one (@Zm _ _ _ _ _ _ _ _ qP (pv 0) (pv 1) (Zs _)))) (fun _ _ _ _ _=>(pv 0)) (fun _ _ _ _ _=>Vl)) (by rfl))) (by rfl) (.inl rfl)) (@Zb _ _ _ _ _ (@ZI _ _ _ _ _ _ _ _ (@XO _ _ _ _ (XB (K:=K) rfl (pv 5) (fun _=>rfl))) (@Zg _ _ _ (@Zo _ _ _ _ (pv 3))) Zt) (@Zb _ _ _ _ _ (@ZI _ _ _ _ _ _ _ _ (@Zm _ _ _ _ _ _ _ _ ZL (ZB (ZK (K:=K) rfl) rfl T.bL lr (@Zc _ _ _ (pv 5) (by rfl))) Zh (Zs _)) (@Zg _ _ _ (@Zo _ _ _ _ (@ZA _ _ _ _ _ _ _ (Zz (K:=K) rfl) (pv 5) Zh (fun _ _=>rfl)))) Zt) (@Zb _ _ _ _ _ (@Zr _ _ (6) _ _ _ _ XQ.nd rfl (Or.inl rfl) (YD (XA (K:=K) rfl) rfl T.cO lv (@Zc _ _ _ (Ws (Nc:=gJ) (ix:=[none,some 0]) (YJ.of (by decide +kernel:Xo (Zi Z1) ["self", "word", "inner", "idle", "strong", "few", "parts"] ["number", "self"] [none,some 0] _=true)) rfl (Yr (K:=K) rfl (pv 5)) (fun _ _ _ _ _=>(ZY (i:=0) (show List.Nodup gJ by decide +kernel) rfl (Or.inl rfl))) (fun _ _ _ _ _=>WB) (fun _ _ _ _ _=>(@ZA _ _ _ _ _ _ _ (Zz (K:=K) rfl) (ZM (K:=K) rfl (ZM (K:=K) rfl (pv 1) rfl) rfl) (pv 0) (fun _ _=>rfl)))) (by rfl))) (by rfl) (.inl rfl)) (@Zg _ _ _ (@Zo _ _ _ _ (Ys (ZM (K:=K) rfl (pv 0) rfl) T.ai T.aC ao (hr.mono (by decide)) T.aB .nil Zw (@Zd _ _ _ _ _ (@Zj _ _ _ _ _ (@Zd _ _ _ _ _ (pv 1) (@Zc _ _ _ (pv 6) (by rfl)) (by rfl))) (@Zc _ _ _ (@ZE _ _ _ _ _ _ _ _ (Ue (K:=K) rfl) (@Zj _ _ _ _ _ (@Zc _ _ _ (pv 1) (by rfl))) (YD (XA (K:=K) rfl) rfl T.cO lv (@Zc _ _ _ (pv 5) (by rfl)))) (by rfl)) (by rfl)))))))))),?_⟩
  classical
  obtain⟨dx,ho⟩:=sh.obj;obtain⟨dt,ht⟩:=sh.tb.obj;obtain⟨np,pv,hP,aP⟩:=sh.tb.pl;have nd:=sh.tb.nd;have old:∀{x:Tr}{i:Nat}{H':Hp},ps[i]?=some x->Yo w tI tS ks=x->Za H H'->Q (.int (i:Nat)) H':=fun {x i H'} hx e s=>by
   have ex:Yp ps (Yo w tI tS ks)=ps:=by rw[e];exact W3 (iO hx)
   exact k H' i (Za.b s) (by rw[ex];exact sh.mono s) (by rw[ex,e];exact hx)
  have lis:is.length<=8:=by rw[hN0.1];exact h8
  have eV:iV is=(is.map fun(i:Nat)=>((i:Nat):Int)).map V.int:=by unfold iV;rw[iw];rfl
  refine⟨_,rfl,_,rfl,l,_,rfl,.inl (ll hl),rfl,by rw[eV];exact zK _,?_⟩;have ein:inV (.int ((s0:Nat):Int)) (iV is)=decide (tS∈ks):=by
   rw[eV,inV_int];have:((s0:Nat):Int)∈is.map (fun(i:Nat)=>((i:Nat):Int))↔s0∈is:=by
    rw[ik];exact⟨fun⟨i,hi,e⟩=>by
     have:i=s0:=by omega
     rw[<- this];exact hi,fun h=>⟨s0,h,rfl⟩⟩
   by_cases c:tS∈ks
   ·rw[hX c,hX (this.mpr ((hN0.mem nd hS).mpr c))]
   ·rw[im c,im fun z=>c ((hN0.mem nd hS).mp (this.mp z))]
  rw[show(if false=true then !inV (.int ((s0:Nat):Int)) (iV is) else inV (.int ((s0:Nat):Int)) (iV is))=decide (tS∈ks) from ein];refine⟨_,rfl,Xv (fun c=>?_) (fun c=>?_)⟩
  ·have c':tS∈ks:=iz c;rcases YZ w tI tS ks with⟨_,e⟩|⟨q,_⟩
   ·exact⟨_,rfl,old hS e (.refl _)⟩
   ·exact absurd c' q
  have c':tS∉ks:=fun z=>c (hX z);obtain⟨fw,efw,hj⟩:∃few,few=ZQ [] (ks.filter fun x=>decide (x≠tI))/\((few=[]/\Yo w tI tS ks=tI)\/(∃x,few=[x]/\Yo w tI tS ks=x)\/(2<=few.length/\Yo w tI tS ks=.node (.many w) few)):=by
   rcases YZ w tI tS ks with⟨q,_⟩|⟨_,q⟩
   ·exact absurd q c'
   ·exact q
  refine⟨_,rfl,l,rfl,⟨_,ll hl⟩,fun Dc hDc=>?_⟩;have lV:(iV is).length=is.length:=X5 is;refine xk (J:=Itl K l) (n:=is.length) (fun i σ G=>∃(z:Option V) (kv:List (Key×V)) (fs:List Nat),σ=[z,some (.int (i0:Nat))]/\Za H G/\G Dc=some (.dK kv)/\kv.map (·.1)=nKs fs/\Vm ps fs (ZQ [] ((ks.take i).filter fun x=>decide (x≠tI)))/\fs.length<=i) ?_ ?_ ?_ ?_ ?_
  ·exact⟨_,[],[],rfl,Zl hDc,Zf,rfl,⟨rfl,fun j k i _ h=>by simp at h⟩,gY _⟩
  ·rintro i σ G hi ⟨z,kv,fs,rfl,sG,_⟩;exact⟨_,_,ll (sG _ _ hl),gZ (by omega)⟩
  ·rintro σ G ⟨z,kv,fs,rfl,sG,_⟩;exact⟨_,ll (sG _ _ hl),by omega⟩
  ·rintro i x σ G0 G hi ⟨z,kv,fs,rfl,sG,gD,hkv,hnf,lf⟩ ⟨rfl,hx⟩ N hN;have ex:=hx _ (ll (sG _ _ hl));have hii:is[i]?=some is[i]:=gZ hi;have hki:ks[i]?=some (ks[i]'(by rw[<- hN0.1];exact hi)):=gZ _;have hp:=hN0.2 i _ _ hki hii;have htk:ks.take (i+1)=ks.take i++[ks[i]'(by rw[<- hN0.1];exact hi)]:=by rw[List.take_succ,hki];rfl
   generalize (ks[i]'(by rw[<- hN0.1];exact hi))=kt at hki hp htk;generalize is[i]=xi at hii hp;obtain rfl:x=.int ((xi:Nat):Int):=by
    unfold iV at ex;rw[iJ,hii] at ex;exact(iB ex).symm
   refine⟨_,rfl,_,rfl,rfl,_,rfl,Xv (fun c=>?_) (fun c=>?_)⟩
   ·have hne:kt≠tI:=fun z=>by
     rw[z] at hp;have:=zL nd hp hI;rw[this,hX rfl] at c;cases c
    have efl:(ks.take (i+1)).filter (fun x=>decide (x≠tI))=(ks.take i).filter (fun x=>decide (x≠tI))++[kt]:=by
     rw[htk,List.filter_append,kW (by simpa using hne)];rfl
    refine⟨_,rfl,_,DPut.k (k:=.inl ((xi:Nat):Int)) gD (by have:=io List.length hkv;unfold nKs at this;rw[hJ,hJ] at this;rw[gU];omega),hN _ _ ?_⟩;rw[efl]
    by_cases hm:xi∈fs
    ·have hm2:=(hnf.mem nd hp).mp hm;refine⟨_,_,fs,rfl,(Zx.upd (Za.x sG)).same hDc,Zf,?_,?_,by omega⟩
     ·rw[zV,hkv,if_pos (nKs_mem.mpr hm)]
     ·rw[WU,Yu,W3 hm2];exact hnf
    ·have hm2:kt∉_:=fun z=>hm ((hnf.mem nd hp).mpr z);refine⟨_,_,fs++[xi],rfl,(Zx.upd (Za.x sG)).same hDc,Zf,?_,?_,by rw[hG];show _+1<=_;omega⟩
     ·rw[zV,hkv,if_neg fun z=>hm (nKs_mem.mp z)];unfold nKs;rw[iZ];rfl
     ·rw[WU,Yu,Ux hm2];exact hnf.snoc hp
   ·have he:kt=tI:=by
     have:((xi:Nat):Int)=((i0:Nat):Int):=by
      by_cases q:(V.int ((xi:Nat):Int)=V.int ((i0:Nat):Int))
      ·exact V.int.inj q
      ·rw[im q] at c;exact absurd rfl c
     have e2:xi=i0:=by omega
     rw[e2,hI] at hp;exact(iB hp).symm
    have efl:(ks.take (i+1)).filter (fun x=>decide (x≠tI))=(ks.take i).filter (fun x=>decide (x≠tI)):=by
     rw[htk,List.filter_append,kX (by simp[he]),List.filter_nil,iQ]
    refine hN _ _ ⟨_,kv,fs,rfl,sG,gD,hkv,?_,by omega⟩;rw[efl];exact hnf
  rintro σ G ⟨z,kv,fs,rfl,sG,gD,hkv,hnf,lf⟩;rw[show ks.take is.length=ks by rw[hN0.1];exact List.take_length,<- efw] at hnf;refine⟨Dc,kv,rfl,gD,fun F hF=>?_⟩;have ekv:(kv.map fun p=>kV p.1)=iV fs:=by
   have:(kv.map fun p=>kV p.1)=(kv.map (·.1)).map kV:=by rw[iw];rfl
   rw[this,hkv];unfold nKs iV;rw[iw];rfl
  rw[ekv];obtain⟨G1,qN,s1,eF⟩:=Zq (o:=.lst (iV fs)) hF;rw[qN];have sG1:=sG.trans s1;have lfV:(iV fs).length=fs.length:=X5 fs;refine⟨_,rfl,!(iV fs).isEmpty,.inl ⟨_,ll eF,rfl⟩,?_⟩;have lfw:=hnf.1;cases his:(iV fs).isEmpty with
  |true=>
   have e0:iV fs=[]:=jY.mp his;have z0:fw=[]:=iG.mp (by rw[<- lfw,<- lfV,e0];rfl);rcases hj with⟨_,e⟩|⟨x,e,_⟩|⟨e,_⟩
   ·exact Xh ⟨_,rfl,old hI e sG1⟩
   ·rw[z0] at e;cases e
   ·rw[z0] at e;cases e
  |false=>
   have hn0:fs≠[]:=fun e=>by rw[e] at his;cases his
   have hpos:0<fs.length:=jT.mpr hn0;refine Yi ⟨_,rfl,.inl ⟨F,_,rfl,.inl (ll eF),rfl,_,rfl,Xv (fun c=>?_) (fun c=>?_)⟩⟩
   ·have h1:fs.length=1:=by have:=V.int.inj (iz c);omega
    obtain⟨x,rfl⟩:∃x,fs=[x]:=by
     match fs,h1 with
     |[x],_=>exact⟨x,rfl⟩
    rcases hj with⟨e,_⟩|⟨t,e,ej⟩|⟨e,_⟩
    ·rw[e] at lfw;cases lfw
    ·subst e;exact⟨_,rfl,F,_,_,_,rfl,rfl,ll eF,Zk (j:=0) rfl,old (hnf.2 0 t x rfl rfl) ej sG1⟩
    ·rw[<- lfw] at e;exact absurd e (by simp)
   ·have h2:2<=fs.length:=by
     rcases(show fs.length=1\/2<=fs.length by omega) with q|q
     ·exact absurd (hX (by show V.int _=V.int 1;rw[lfV,q];rfl)) c
     ·exact q
    obtain⟨e2,ej⟩:2<=fw.length/\Yo w tI tS ks=.node (.many w) fw:=by
     rcases hj with⟨e,_⟩|⟨t,e,_⟩|q
     ·have:=io List.length e;rw[kN] at this;omega
     ·have:=io List.length e;rw[iY] at this;omega
     ·exact q
    have lf8:fs.length<=8:=by omega
    refine⟨_,rfl,F,rfl,⟨_,ll eF⟩,fun A hA=>?_⟩;refine Wj (K:=K) fs (fun i=>V.int ((i:Nat):Int)) (fun i=>(pv[i]?).getD .non) hA (ll eF) (by rw[gU];omega) ?_ ?_
    ·intro x hx G2 N sG2 hN;obtain⟨j,hj,ej⟩:=jd hx;have hk:fw[j]?=some (fw[j]'(by omega)):=gZ (by omega);have hp:=hnf.2 j _ x hk (by rw[<- ej];exact gZ hj);have hxl:x<pv.length:=by rw[aP.1];exact(ib.mp hp).1
     have hu:pv[x]?=some (pv[x]'hxl):=gZ hxl;have hN':=hN G2 (.refl _);rw[hu] at hN';have s2:=sG1.trans sG2;exact⟨_,rfl,r,_,dx,_,_,rfl,s2 _ _ ho,T.aa,T.ag,lkT,S,_,dt,_,_,rfl,s2 _ _ ht,T.ai,T.aW,lkP,_,rfl,P,_,_,_,rfl,rfl,ll (s2 _ _ hP),Zk hu,hN'⟩
    intro H1 hA1 s1';generalize hws:fs.map (fun i=>(pv[i]?).getD .non)=ws at hA1;have lws:ws.length=fs.length:=by rw[<- hws,hJ]
    have aws:AtL K np H ws fw:=by
     refine⟨by omega,fun j u k' h1 h2=>?_⟩;have hj:j<fs.length:=by rw[<- lws];exact(ib.mp h1).1
     have hp:=hnf.2 j k' fs[j] h2 (gZ hj);have hxl:fs[j]<pv.length:=by rw[aP.1];exact(ib.mp hp).1
     rw[<- hws,iJ,gZ hj] at h1;have e:u=pv[fs[j]]'hxl:=by
      have:=iB h1;rw[<- this];show(pv[fs[j]]?).getD .non=_;rw[gZ hxl];rfl
     rw[e];exact aP.2 _ _ _ (gZ hxl) hp
    have sH1:=sG1.trans s1';refine⟨A,ws,rfl,.inl ⟨ll hA1,fun B hB=>?_⟩⟩;obtain⟨H2,qN,s2,eB⟩:=Zq (o:=.tup ws) hB;rw[qN];have sH2:=sH1.trans s2;have sz2:2<=sizeLine:=by rw[gU];decide
    refine⟨_,rfl,r,_,dx,_,_,rfl,sH2 _ _ ho,T.aa,T.ag,lkT,S,dt,_,rfl,sH2 _ _ ht,lkN (by decide +kernel) (by decide +kernel) (by decide +kernel),?_⟩;refine⟨_,rfl,_,rfl,sz2,fun c hc=>?_⟩;obtain⟨H3,qN,s3,ec⟩:=Zq (o:=.tup [.str w,.ref B]) hc;rw[qN];refine⟨_,rfl,sz1,fun q hq=>?_⟩;obtain⟨H4,qN,s4,eq⟩:=Zq (o:=.tup [.str w]) hq;rw[qN];have s24:=s3.trans s4;refine⟨_,rfl,F,_,rfl,.inl ⟨ll (s24 _ _ (s2 _ _ (s1' _ _ eF))),fun b hb=>?_⟩⟩;obtain⟨H5,qN,s5,eb⟩:=Zq (o:=.tup (iV fs)) hb;rw[qN];refine⟨q,b,_,_,rfl,rfl,lh (s5 _ _ eq),lh eb,by simp,by rw[lfV,gU];show 1+_<=_;omega,fun z=>absurd (io List.length z) (by rw[lfV];simp;omega),fun _ g hg=>?_⟩;obtain⟨H6,qN,s6,eg⟩:=Zq (o:=.tup (.str w::iV fs)) hg;have qN':upd H5 g (.tup ([.str w]++iV fs))=H6:=qN;rw[qN'];clear qN qN';have s36:=s4.trans (s5.trans s6);have sH6:=sH2.trans (s3.trans s36);have okm:Yh (.many w) fw.length:=⟨hwd,by omega⟩;have at6:At K (np+1) H6 (.ref c) (.node (.many w) fw):=⟨c,ws,rfl,⟨B,lh (s36 _ _ ec),lh ((s3.trans s36) _ _ eB)⟩,okm,by show ws.length=fw.length;omega,fun i u k' h1 h2=>(aws.2 i u k' h1 h2).mono (lg sH6)⟩;have row6:Xm K H6 g (VH (.many w) fs):=row_of (by rw[lfw];exact okm) hn0 (by
     show SqT K H6 g (V.str w::(nK fs).map kV)
     rw[nK_kV];exact lh eg)
    refine⟨S,P,R,D,ps,.ref c,.node (.many w) fw,np+1,g,_,rfl,sh.tb.mono sH6,at6,row6,⟨fs,lfw,hnf.2,rfl⟩,few0,fun H7 i b7 tb7 hi=>?_⟩;rw[<- ej] at tb7 hi;have b17:YI P R D H H7:=(Za.b sH6).trans b7;exact k H7 i b17 (sh.next b17 tb7) hi
theorem At.head{K:W.Frag}{m:Nat}{H:Hp}{v:V}{t:Tr}(h:At K m H v t):∃a xs,v=.ref a/\SqT K H a (.str (Zv t.lb)::xs):=by
 cases m with
 |zero=>exact h.elim
 |succ m=>
  obtain⟨a,vs,rfl,sh,_⟩:=h;cases e:t.lb with
  |yes=>rw[e] at sh;exact⟨a,[],rfl,sh.2⟩
  |sign z=>rw[e] at sh;exact⟨a,_,rfl,sh.2⟩
  |op w=>rw[e] at sh;exact⟨a,_,rfl,sh⟩
  |wit j=>rw[e] at sh;exact⟨a,_,rfl,sh⟩
  |many w=>rw[e] at sh;obtain⟨b,h1,_⟩:=sh;exact⟨a,_,rfl,h1⟩
theorem sw_kids{c:Lb}{n:Nat}(ok:Yh c n)(h:Zv c∈SW):1<=n:=by
 cases c with
 |yes=>exact absurd h (show("yes" : Str)∉SW by decide +kernel)
 |sign z=>exact absurd h (show("sign" : Str)∉SW by decide +kernel)
 |wit m=>have:=ok.2;omega
 |op w=>rcases ok with⟨_,o⟩|⟨_,o⟩<;>omega
 |many w=>rcases ok.1 with rfl|rfl;exact absurd h (show("and" : Str)∉SW by decide +kernel);exact absurd h (show("or" : Str)∉SW by decide +kernel)
theorem one_kid{t:Tr}{w:Str}(ok:Yh t.lb t.ks.length)(hw:Zv t.lb=w)(h1:w∈W1):t.ks.length=1/\t.lb=.op w:=by
 have hne:=YX w (iX _ h1);have h12:∀x∈W1,x∉W2:=by decide +kernel
 cases e:t.lb with
 |yes=>rw[e] at hw;exact absurd hw.symm hne.1
 |sign z=>rw[e] at hw;exact absurd hw.symm hne.2.1
 |wit m=>rw[e] at hw;exact absurd hw.symm hne.2.2.1
 |many v=>rw[e] at hw ok;rcases ok.1 with rfl|rfl;exact absurd hw.symm hne.2.2.2.1;exact absurd hw.symm hne.2.2.2.2
 |op v=>
  rw[e] at hw ok;have hv:v=w:=hw;subst hv;rcases ok with⟨_,o⟩|⟨o2,_⟩
  ·exact⟨o,rfl⟩
  ·exact absurd o2 (h12 _ h1)
theorem dS(x y:Str):decide (V.str x=V.str y)=decide (x=y):=by
 by_cases q:x=y
 ·rw[hX q,hX (io V.str q)]
 ·rw[im q,im fun z=>q (V.str.inj z)]
theorem last_num{ps:List Tr}{is:List Nat}{ks:List Tr}(h:Vm ps is ks)(hp:0<is.length):ps[is[is.length-1]'(by omega)]?=some (ks.getLastD Zn):=by
 have e1:=h.1;have hk:ks[ks.length-1]?=some (ks.getLastD Zn):=by
  rw[List.getLastD_eq_getLast?,List.getLast?_eq_getElem?];have:ks[ks.length-1]?=some (ks[ks.length-1]'(by omega)):=gZ (by omega);rw[this];rfl
 exact h.2 (ks.length-1) _ _ hk (by rw[<- e1];exact gZ (by omega))
theorem last_iV{is:List Nat}(h:0<is.length):(iV is)[(iV is).length-1]'(by rw[X5];omega)=V.int (((is[is.length-1]'(by omega)):Nat):Int):=by
 have e:(iV is)[(iV is).length-1]?=some (V.int (((is[is.length-1]'(by omega)):Nat):Int)):=by
  rw[X5];unfold iV;rw[iJ,gZ (show is.length-1<is.length by omega)];rfl
 exact(ib.mp e).2
def VV(K:W.Frag)(a:Adr):Sp:=fun vs H Q _=>∃(r T P R D:Addr) (ps:List Tr) (y n:Nat) (v:V) (t:Tr) (m:Nat) (l:Addr) (is:List Nat) (ks:List Tr),vs=[.ref r,v,.ref l]/\Ww K a H r T P R D ps y n/\ps.length<4000/\At K m H v t/\H l=some (.lst (iV is))/\Vm ps is ks/\ks.length=t.ks.length/\∀H' (i:Nat),YI P R D H H'->Ww K a H' r T P R D (Yp ps (shF t.lb ks)) y n->(Yp ps (shF t.lb ks))[i]?=some (shF t.lb ks)->Q (.int (i:Int)) H'
theorem VP(T:Txt K mg a)(hw:w.params=a.Pm):Yq P w K mg base CX0 3 a.Shorts_short_of a.ba gI (VV K a):=by
 have de:=UF (P:=P) (w:=w) (base:=base) T hw;have ci:=VD (P:=P) (w:=w) (base:=base) T hw;have aV:=WE (P:=P) (w:=w) (base:=base) T hw;have fD:=qp (P:=P) (w:=w) (base:=base) T hw;refine T.cy.ok Wq (fun vs H Q E h=>?_) (fun gF A outer s H vs Q E hr h=>?_)
 ·obtain⟨r,T,P,R,D,ps,y,n,v,t,m,l,is,ks,rfl,_⟩:=h;rfl
 ·obtain⟨r,S,P,R,D,ps,y,n,v,t,m,l,is,ks,rfl,sh,few,hat,hl,hN0,hkl,k⟩:=h;refine⟨_,(@Zb _ _ _ _ _ (@Zr _ _ (3) _ _ _ _ Wq.nd rfl (Or.inl rfl) (@ZA _ _ _ _ _ _ _ (ZJ (K:=K) rfl) (pv 1) Zh (fun _ _=>rfl)) (by rfl) (.inl rfl)) (@Zb _ _ _ _ _ (@ZI _ _ _ _ _ _ _ _ (@Zm _ _ _ _ _ _ _ _ ZL (pv 3) Ze (Zs _)) (@Zg _ _ _ (@Zo _ _ _ _ (Ys (pv 0) T.aa T.bW de (hr.mono (by decide)) T.bV .nil Zw (@ZD _ _ _ _ _ (pv 3) (@ZD _ _ _ _ _ (pv 2) (@ZD _ _ _ _ _ (ZM (K:=K) rfl (pv 0) rfl) (@Ym _ _ _ (ZM (K:=K) rfl (pv 0) rfl) (by rfl)) (by rfl)) (by rfl)) (by rfl))))) Zt) (@Zb _ _ _ _ _ (@ZI _ _ _ _ _ _ _ _ (@Zm _ _ _ _ _ _ _ _ ZL (pv 3) Ze (Zs _)) (@Zg _ _ _ (@Zo _ _ _ _ (Ys (pv 0) T.aa T.bW de (hr.mono (by decide)) T.bV .nil Zw (@ZD _ _ _ _ _ (pv 3) (@ZD _ _ _ _ _ (pv 2) (@ZD _ _ _ _ _ (ZM (K:=K) rfl (pv 0) rfl) (@Ym _ _ _ (ZM (K:=K) rfl (pv 0) rfl) (by rfl)) (by rfl)) (by rfl)) (by rfl))))) Zt) (Ve (@ZI _ _ _ _ _ _ _ _ (PW.pt (VZ (@Zm _ _ _ _ _ _ _ _ (Vf (K:=K) rfl) (pv 3) (Wl (v:=.ref a.Y_STEADY_WORDS) rfl ⟨_,T.dq,rfl⟩) (by with_unfolding_all rfl)) (WY (@Zm _ _ _ _ _ _ _ _ (Vf (K:=K) rfl) (@ZA _ _ _ _ _ _ _ (Zz (K:=K) rfl) (pv 2) (VL WI Zh) (fun _ _=>rfl)) (@Zj _ _ _ _ _ (@Zd _ _ _ _ _ (ZM (K:=K) rfl (pv 0) rfl) (@Zc _ _ _ (ZM (K:=K) rfl (pv 0) rfl) (by rfl)) (by rfl))) (by with_unfolding_all rfl))))) (@Zg _ _ _ (@Zo _ _ _ _ (@ZA _ _ _ _ _ _ _ (Zz (K:=K) rfl) (pv 2) (VL WI Zh) (fun _ _=>rfl)))) Zt) (Ve (@ZI _ _ _ _ _ _ _ _ (PW.pt (VZ (@Zm _ _ _ _ _ _ _ _ ZL (pv 3) Ze (Zs _)) (WY (@Zm _ _ _ _ _ _ _ _ ZL (Ys (pv 0) T.aa T.aU aV (hr.mono (by decide)) T.aT .nil Zw (@Zc _ _ _ (@ZA _ _ _ _ _ _ _ (Zz (K:=K) rfl) (pv 2) Zh (fun _ _=>rfl)) (by rfl))) Ze (Zs _))))) (@Zg _ _ _ (@Zo _ _ _ _ (@ZA _ _ _ _ _ _ _ (ZJ (K:=K) rfl) (@ZA _ _ _ _ _ _ _ (Zz (K:=K) rfl) (ZM (K:=K) rfl (ZM (K:=K) rfl (pv 0) rfl) rfl) (@ZA _ _ _ _ _ _ _ (Zz (K:=K) rfl) (pv 2) Zh (fun _ _=>rfl)) (fun _ _=>rfl)) Zh (fun _ _=>rfl)))) Zt) (Ve (@ZI _ _ _ _ _ _ _ _ (PW.pt (VZ (@Zm _ _ _ _ _ _ _ _ ZL (pv 3) Ze (Zs _)) (WY (Vj (Ys (pv 0) T.aa T.bx ci (hr.mono (by decide)) T.bw .nil Zw (@ZD _ _ _ _ _ (@ZA _ _ _ _ _ _ _ (Zz (K:=K) rfl) (pv 2) Zh (fun _ _=>rfl)) (@ZD _ _ _ _ _ Ze (@Ym _ _ _ Ze (by rfl)) (by rfl)) (by rfl))))))) (@Zg _ _ _ (@Zo _ _ _ _ (@ZA _ _ _ _ _ _ _ (Zz (K:=K) rfl) (pv 2) Zh (fun _ _=>rfl)))) Zt) (Ve (@ZI _ _ _ _ _ _ _ _ (PW.pt (VZ (@Zm _ _ _ _ _ _ _ _ ZL (pv 3) Ze (Zs _)) (WY (Vj (Ys (pv 0) T.aa T.bx ci (hr.mono (by decide)) T.bw .nil Zw (@ZD _ _ _ _ _ (@ZA _ _ _ _ _ _ _ (Zz (K:=K) rfl) (pv 2) Zh (fun _ _=>rfl)) (@ZD _ _ _ _ _ Ze (@Ym _ _ _ Ze (by rfl)) (by rfl)) (by rfl))))))) (@Zg _ _ _ (@Zo _ _ _ _ (@ZA _ _ _ _ _ _ _ (Zz (K:=K) rfl) (pv 2) Zh (fun _ _=>rfl)))) Zt) (@Zg _ _ _ (@Zo _ _ _ _ (Ys (pv 0) T.aa T.dY fD (hr.mono (by decide)) T.dX .nil Zw (@Zd _ _ _ _ _ (pv 1) (@Zc _ _ _ (pv 2) (by rfl)) (by rfl)))))))))))),?_⟩
  classical
  obtain⟨dx,ho⟩:=sh.obj;obtain⟨dt,ht⟩:=sh.tb.obj;have nd:=sh.tb.nd;have ok:=tat_ok hat;have h8:=lb8 ok;obtain⟨ad,xs,rfl,hw0⟩:=At.head hat;have old:∀{x:Tr}{i:Nat}{H':Hp},ps[i]?=some x->shF t.lb ks=x->Za H H'->Q (.int (i:Nat)) H':=fun {x i H'} hx e s=>by
   have ex:Yp ps (shF t.lb ks)=ps:=by rw[e];exact W3 (iO hx)
   exact k H' i (Za.b s) (by rw[ex];exact sh.mono s) (by rw[ex,e];exact hx)
  have lkS:∀{m:Str},(m==("table" : Str))=false->(m==("yes" : Str))=false->(m==("no" : Str))=false->([("table",.ref S),("yes",.int (y:Int)),("no",.int (n:Int))]:List (Str×V)).lookup m=none:=fun {m} h1 h2 h3=>by
   rw[ir,h1]
   show List.lookup _ _=_
   rw[ir,h2]
   show List.lookup _ _=_
   rw[ir,h3];rfl
  have lJ:=lkS (m := "joined") (by decide +kernel) (by decide +kernel) (by decide +kernel);have lW:=lkS (m := "word_of") (by decide +kernel) (by decide +kernel) (by decide +kernel);have lD:=lkS (m := "is_double") (by decide +kernel) (by decide +kernel) (by decide +kernel);have lM:=lkS (m := "made") (by decide +kernel) (by decide +kernel) (by decide +kernel);refine⟨_,rfl,ad,_,_,_,rfl,rfl,hw0,Zk (j:=0) rfl,?_⟩;refine⟨_,rfl,rfl,_,rfl,?_⟩;rw[dS];refine Xv (fun c=>?_) (fun c=>?_)
  ·have cw:Zv t.lb = "and" := iz c;have e:shF t.lb ks=Yo "and" Zn nNo ks:=by unfold shF;rw[if_pos cw]
   rw[e] at k;refine⟨_,rfl,r,dx,_,rfl,ho,lJ,_,rfl,_,rfl,_,rfl,r,_,dx,_,_,rfl,ho,T.aa,T.bz,lkYs,_,rfl,r,_,dx,_,_,rfl,ho,T.aa,T.bM,lkNo,r,S,P,R,D,ps,y,n, "and",l,is,ks,y,n,Zn,nNo,by rw[cw];rfl,.inl rfl,sh,few,hl,hN0,by omega,sh.yes,sh.no,k⟩
  have c1:¬Zv t.lb = "and" := fun z=>c (hX z);refine⟨_,rfl,rfl,_,rfl,?_⟩;rw[dS];refine Xv (fun c=>?_) (fun c=>?_)
  ·have cw:Zv t.lb = "or" := iz c;have e:shF t.lb ks=Yo "or" nNo Zn ks:=by unfold shF;rw[if_neg c1,if_pos cw]
   rw[e] at k;refine⟨_,rfl,r,dx,_,rfl,ho,lJ,_,rfl,_,rfl,_,rfl,r,_,dx,_,_,rfl,ho,T.aa,T.bM,lkNo,_,rfl,r,_,dx,_,_,rfl,ho,T.aa,T.bz,lkYs,r,S,P,R,D,ps,y,n, "or",l,is,ks,n,y,nNo,Zn,by rw[cw];rfl,.inr rfl,sh,few,hl,hN0,by omega,sh.no,sh.yes,k⟩
  have c2:¬Zv t.lb = "or" := fun z=>c (hX z);have lis:is.length=t.ks.length:=by rw[hN0.1];exact hkl
  have σe:∀{P':Prop}{H':Hp},Za H H'->P'->(fun σ' H'=>σ'=[some (V.ref r),some (V.ref ad),some (V.ref l),some (V.str (Zv t.lb))]/\Za H H'/\P') [some (V.ref r),some (V.ref ad),some (V.ref l),some (V.str (Zv t.lb))] H':=fun s p=>⟨rfl,s,p⟩;have inSW:inV (V.str (Zv t.lb)) (SW.map V.str)=decide (Zv t.lb∈SW):=inV_strD;refine⟨fun σ' H'=>σ'=[some (V.ref r),some (V.ref ad),some (V.ref l),some (V.str (Zv t.lb))]/\Za H H'/\¬(Zv t.lb∈SW/\(ks.getLastD Zn=Zn\/ks.getLastD Zn=nNo)),?_,?_⟩
  ·refine⟨_,rfl,a.Y_STEADY_WORDS,SW.map V.str,rfl,.inr (T.y_STEADY_WORDS H),rfl,ya _,_,rfl,?_⟩
   show if inV (V.str (Zv t.lb)) (SW.map V.str)=true then _ else _
   rw[inSW];refine Xv (fun hb=>?_) (fun hb=>Yi (σe (.refl _) fun z=>hb (hX z.1)));have w1:Zv t.lb∈SW:=iz hb;have k1:=sw_kids ok w1;have hlast:=last_num hN0 (by omega);have lpos:0<(iV is).length:=by rw[X5];omega
   have hat1:=atI_neg (xs:=iV is) (p:=1) (gY 1) lpos;rw[last_iV (by omega:0<is.length)] at hat1;refine⟨_,rfl,_,rfl,l,_,_,_,rfl,rfl,ll hl,hat1,?_⟩;refine⟨_,rfl,r,_,dx,_,_,rfl,ho,T.aa,T.bz,lkYs,_,rfl,r,_,dx,_,_,rfl,ho,T.aa,T.bM,lkNo,sz2,fun q' hq'=>?_⟩;obtain⟨H1,qN,s1,eq⟩:=Zq (o:=.tup [.int (y:Int),.int (n:Int)]) hq';rw[qN];refine⟨q',([(y:Int),(n:Int)]:List Int).map V.int,rfl,.inr (lh eq),rfl,zK _,_,rfl,?_⟩;have hx:=hlast;have e:inV (.int (((is[is.length-1]'(by omega)):Nat):Int)) (([(y:Int),(n:Int)]:List Int).map V.int)=decide (ks.getLastD Zn=Zn\/ks.getLastD Zn=nNo):=by
    rw[inV_int];generalize (is[is.length-1]'(by omega))=li at hlast;generalize ks.getLastD Zn=lt at hlast;have i1:li=y↔lt=Zn:=⟨fun z=>by rw[z,sh.yes] at hlast;exact(iB hlast).symm,fun z=>by rw[z] at hlast;exact zL nd hlast sh.yes⟩;have i2:li=n↔lt=nNo:=⟨fun z=>by rw[z,sh.no] at hlast;exact(iB hlast).symm,fun z=>by rw[z] at hlast;exact zL nd hlast sh.no⟩;have:((li:Nat):Int)∈([(y:Int),(n:Int)]:List Int)↔(lt=Zn\/lt=nNo):=by
     rw[<- i1,<- i2];simp only[ic,iK,iL];omega
    by_cases z:(lt=Zn\/lt=nNo)
    ·rw[hX z,hX (this.mpr z)]
    ·rw[im z,im fun x=>z (this.mp x)]
   show if inV (.int (((is[is.length-1]'(by omega)):Nat):Int)) (([(y:Int),(n:Int)]:List Int).map V.int)=true then _ else _
   rw[e];refine Xv (fun c=>?_) (fun c=>σe s1 fun z=>c (hX z.2));exact⟨_,rfl,_,rfl,l,_,_,_,rfl,rfl,ll (s1 _ _ hl),hat1,old hx (by unfold shF;rw[if_neg c1,if_neg c2,if_pos ⟨w1,iz c⟩]) s1⟩
  rintro σ1 H1 ⟨rfl,s1,c3⟩;have σ2:∀{P':Prop}{H':Hp},Za H H'->P'->(fun σ' H'=>σ'=[some (V.ref r),some (V.ref ad),some (V.ref l),some (V.str (Zv t.lb))]/\Za H H'/\P') [some (V.ref r),some (V.ref ad),some (V.ref l),some (V.str (Zv t.lb))] H':=fun s p=>⟨rfl,s,p⟩;have one:∀{w:Str},Zv t.lb=w->w∈W1->∃i k0,is=[i]/\ks=[k0]/\ps[i]?=some k0/\t.lb=.op w:=fun {w} hw h1=>by
   obtain⟨o1,o2⟩:=one_kid ok hw h1;obtain⟨i,rfl⟩:∃i,is=[i]:=by
    rw[o1] at lis
    match is,lis with
    |[i],_=>exact⟨i,rfl⟩
   obtain⟨k0,rfl⟩:∃k0,ks=[k0]:=by
    rw[o1] at hkl
    match ks,hkl with
    |[k0],_=>exact⟨k0,rfl⟩
   exact⟨i,k0,rfl,rfl,hN0.2 0 k0 i rfl rfl,o2⟩
  have w1:("not" : Str)∈W1/\("always" : Str)∈W1/\("ever" : Str)∈W1:=by decide +kernel
  refine⟨fun σ' H'=>σ'=[some (V.ref r),some (V.ref ad),some (V.ref l),some (V.str (Zv t.lb))]/\Za H H'/\¬(Zv t.lb = "not" /\ wdT (Xj ks) = "not"),?_,?_⟩
  ·refine⟨_,rfl,rfl,_,rfl,?_⟩
   show if decide (V.str (Zv t.lb)=V.str "not")=true then _ else _
   rw[dS];refine Xv (fun hb=>?_) (fun hb=>Yi (σ2 s1 fun z=>hb (hX z.1)));have hw:=iz hb;obtain⟨i,k0,rfl,rfl,hk0,hop⟩:=one hw w1.1;have sh1:=sh.mono s1;have hl1:=s1 _ _ hl;refine⟨_,rfl,r,dx,_,rfl,s1 _ _ ho,lW,_,rfl,l,_,_,_,rfl,rfl,ll hl1,Zk (j:=0) rfl,r,S,P,R,D,ps,y,n,i,k0,rfl,sh1,hk0,rfl,_,rfl,?_⟩
   show if decide (V.str (wdT k0)=V.str "not")=true then _ else _
   rw[dS];refine Xv (fun c=>?_) (fun c=>σ2 s1 fun z=>c (hX z.2));have hw2:=iz c;obtain⟨rv,b,is',hR,hb',hrow,hil',hnum'⟩:=tb_row sh1.tb hk0;obtain⟨j,rfl,hx,_,k1,ek⟩:=row_one hrow (TbY_oks sh1.tb k0 (iO hk0)) hil' hw2 w1.1;have hk1:ps[j]?=some k1:=hnum' 0 k1 j (by rw[ek];rfl) rfl;refine⟨_,rfl,r,_,dx,_,_,rfl,s1 _ _ ho,T.aa,T.ag,lkT,S,_,dt,_,_,rfl,s1 _ _ ht,T.ai,T.aO,lkR,_,rfl,l,_,_,_,rfl,rfl,ll hl1,Zk (j:=0) rfl,R,_,_,_,rfl,rfl,ll hR,Zk hb',b,_,_,_,rfl,rfl,hx,Zk (j:=1) rfl,?_⟩;refine old hk1 ?_ s1;unfold shF;rw[if_neg c1,if_neg c2,if_neg c3,if_pos ⟨hw,hw2⟩]
   show Xj k0.ks=k1
   rw[ek];rfl
  rintro σ3 H2 ⟨rfl,s2,c4⟩;refine⟨fun σ' H'=>σ'=[some (V.ref r),some (V.ref ad),some (V.ref l),some (V.str (Zv t.lb))]/\Za H H'/\¬(Zv t.lb = "always" /\ WP (Xj ks) "always" "ever"),?_,?_⟩
  ·refine⟨_,rfl,rfl,_,rfl,?_⟩
   show if decide (V.str (Zv t.lb)=V.str "always")=true then _ else _
   rw[dS];refine Xv (fun hb=>?_) (fun hb=>Yi (σ2 s2 fun z=>hb (hX z.1)));have hw:=iz hb;obtain⟨i,k0,rfl,rfl,hk0,hop⟩:=one hw w1.2.1;refine⟨_,rfl,r,dx,_,rfl,s2 _ _ ho,lD,_,rfl,l,_,_,_,rfl,rfl,ll (s2 _ _ hl),Zk (j:=0) rfl,r,S,P,R,D,ps,y,n,i,k0,_,_,rfl,sh.mono s2,hk0,w1.2.2,_,rfl,?_⟩;refine Xv (fun c=>?_) (fun c=>σ2 s2 fun z=>c (UA.mpr z.2));exact⟨_,rfl,l,_,_,_,rfl,rfl,ll (s2 _ _ hl),Zk (j:=0) rfl,old hk0 (by unfold shF;rw[if_neg c1,if_neg c2,if_neg c3,if_neg c4,if_pos ⟨hw,UA.mp c⟩];rfl) s2⟩
  rintro σ4 H3 ⟨rfl,s3,c5⟩;refine⟨fun σ' H'=>σ'=[some (V.ref r),some (V.ref ad),some (V.ref l),some (V.str (Zv t.lb))]/\Za H H'/\¬(Zv t.lb = "ever" /\ WP (Xj ks) "ever" "always"),?_,?_⟩
  ·refine⟨_,rfl,rfl,_,rfl,?_⟩
   show if decide (V.str (Zv t.lb)=V.str "ever")=true then _ else _
   rw[dS];refine Xv (fun hb=>?_) (fun hb=>Yi (σ2 s3 fun z=>hb (hX z.1)));have hw:=iz hb;obtain⟨i,k0,rfl,rfl,hk0,hop⟩:=one hw w1.2.2;refine⟨_,rfl,r,dx,_,rfl,s3 _ _ ho,lD,_,rfl,l,_,_,_,rfl,rfl,ll (s3 _ _ hl),Zk (j:=0) rfl,r,S,P,R,D,ps,y,n,i,k0,_,_,rfl,sh.mono s3,hk0,w1.2.1,_,rfl,?_⟩;refine Xv (fun c=>?_) (fun c=>σ2 s3 fun z=>c (UA.mpr z.2));exact⟨_,rfl,l,_,_,_,rfl,rfl,ll (s3 _ _ hl),Zk (j:=0) rfl,old hk0 (by unfold shF;rw[if_neg c1,if_neg c2,if_neg c3,if_neg c4,if_neg c5,if_pos ⟨hw,UA.mp c⟩];rfl) s3⟩
  rintro σ5 H4 ⟨rfl,s4,c6⟩;have e:shF t.lb ks=.node t.lb ks:=by unfold shF;rw[if_neg c1,if_neg c2,if_neg c3,if_neg c4,if_neg c5,if_neg c6]
  rw[e] at k;have nm:∀w,t.lb≠.many w:=fun w z=>by
   rw[z] at ok c1 c2;rcases ok.1 with rfl|rfl
   ·exact c1 rfl
   ·exact c2 rfl
  exact⟨_,rfl,r,dx,_,rfl,s4 _ _ ho,lM,_,rfl,_,rfl,r,S,P,R,D,ps,y,n,.ref ad,t,m,l,is,ks,rfl,sh.mono s4,few,hat.mono (lg s4),nm,s4 _ _ hl,hN0,hkl,fun H' i b' sh' hi=>k H' i ((Za.b s4).trans b') sh' hi⟩
def PrsAt(H:Hp)(l:Addr)(is ss:List Nat):Prop:=is.length=ss.length/\∃bs:List Addr,bs.length=is.length/\H l=some (.lst (bs.map V.ref))/\∀(j:Nat) b i s,bs[j]?=some b->is[j]?=some i->ss[j]?=some s->H b=some (.tup [.int (i:Nat),.int (s:Nat)])
theorem Vm.more{ps:List Tr}{is:List Nat}{ks:List Tr}{x:Tr}(h:Vm ps is ks):Vm (Yp ps x) is ks:=⟨h.1,fun j k i h1 h2=>XD (h.2 j k i h1 h2)⟩
theorem zip_iV{α:Type}{bs:List α}{is:List Nat}(h:bs.length=is.length):(bs.zip is).map (fun e=>V.int ((e.2:Nat):Int))=iV is:=by
 unfold iV;have:(bs.zip is).map Prod.snd=is:=List.map_snd_zip (by omega)
 conv=>rhs;rw[<- this]
 rw[iw];rfl
def V7(K:W.Frag)(a:Adr):Sp:=fun vs H Q _=>∃(r T P R D:Addr) (ps:List Tr) (y n:Nat) (v:V) (t:Tr) (m:Nat) (l:Addr) (is ss:List Nat),vs=[.ref r,v,.ref l]/\Ww K a H r T P R D ps y n/\ps.length<3999/\At K m H v t/\PrsAt H l is ss/\l≠P/\l≠R/\Vm ps is t.ks/\Vm ps ss (t.ks.map shT)/\∀H' (q:Addr) (i s:Nat),YI P R D H H'->H q=none->Ww K a H' r T P R D (Yp (Yp ps t) (shT t)) y n->(Yp (Yp ps t) (shT t))[i]?=some t->(Yp (Yp ps t) (shT t))[s]?=some (shT t)->H' q=some (.tup [.int (i:Nat),.int (s:Nat)])->Q (.ref q) H'
theorem WF(T:Txt K mg a)(hw:w.params=a.Pm):Yq P w K mg base CX0 4 a.Shorts_both_of a.bf gI (V7 K a):=by
 have cD:=Vd (P:=P) (w:=w) (base:=base) T hw;have ao:=Y4 (P:=P) (w:=w) (base:=base) T hw;have ee:=VP (P:=P) (w:=w) (base:=base) T hw;refine T.cS.ok WH (fun vs H Q E h=>?_) (fun gF A outer s H vs Q E hr h=>?_)
 ·obtain⟨r,T,P,R,D,ps,y,n,v,t,m,l,is,ss,rfl,_⟩:=h;rfl
 ·obtain⟨r,S,P,R,D,ps,y,n,v,t,m,l,is,ss,rfl,sh,few,hat,⟨hls,bs,lbs,hl,hbs⟩,lP,lR,hNi,hNs,k⟩:=h;refine⟨_,(@Zb _ _ _ _ _ (@Zr _ _ (3) _ _ _ _ WH.nd rfl (Or.inl rfl) (Ys (ZM (K:=K) rfl (pv 0) rfl) T.ai T.aC ao (hr.mono (by decide)) T.aB .nil Zw (@Zd _ _ _ _ _ (pv 1) (@Zc _ _ _ (Zp cD (hr.mono (by decide)) rfl T.dj T.cv.kp T.di .nil Zw (@Zd _ _ _ _ _ (pv 1) (@Zc _ _ _ (Ws (Nc:=["pair"]) (ix:=[none]) (YJ.of (by decide +kernel:Xo (Zi ZX) ["self", "sentence", "inner", "stands"] ["pair"] [none] _=true)) rfl (Yr (K:=K) rfl (pv 2)) (fun _ _ _ _ _=>(ZY (i:=0) (show List.Nodup (["pair"]:List Str) by decide +kernel) rfl (Or.inl rfl))) (fun _ _ _ _ _=>WB) (fun _ _ _ _ _=>(@ZA _ _ _ _ _ _ _ (ZJ (K:=K) rfl) (pv 0) Zh (fun _ _=>rfl)))) (by rfl)) (by rfl))) (by rfl)) (by rfl))) (by rfl) (.inl rfl)) (@Zb _ _ _ _ _ (@ZI _ _ _ _ _ _ _ _ (@Zm _ _ _ _ _ _ _ _ (Vf (K:=K) rfl) (@ZA _ _ _ _ _ _ _ (ZJ (K:=K) rfl) (pv 1) Zh (fun _ _=>rfl)) (@Zj _ _ _ _ _ (@Zd _ _ _ _ _ Ze (@Zc _ _ _ Ze (by rfl)) (by rfl))) (by with_unfolding_all rfl)) (@Zg _ _ _ (@Zo _ _ _ _ (@Zj _ _ _ _ _ (@Zd _ _ _ _ _ (pv 3) (@Zc _ _ _ (pv 3) (by rfl)) (by rfl))))) Zt) (@Zg _ _ _ (@Zo _ _ _ _ (@Zj _ _ _ _ _ (@Zd _ _ _ _ _ (pv 3) (@Zc _ _ _ (Ys (pv 0) T.aa T.cB ee (hr.mono (by decide)) T.cA .nil Zw (@Zd _ _ _ _ _ (pv 1) (@Zc _ _ _ (Ws (Nc:=["pair"]) (ix:=[none]) (YJ.of (by decide +kernel:Xo (Zi ZX) ["self", "sentence", "inner", "stands"] ["pair"] [none] _=true)) rfl (Yr (K:=K) rfl (pv 2)) (fun _ _ _ _ _=>(ZY (i:=0) (show List.Nodup (["pair"]:List Str) by decide +kernel) rfl (Or.inl rfl))) (fun _ _ _ _ _=>WB) (fun _ _ _ _ _=>(@ZA _ _ _ _ _ _ _ (ZJ (K:=K) rfl) (pv 0) Zh (fun _ _=>rfl)))) (by rfl)) (by rfl))) (by rfl)) (by rfl))))))),?_⟩;obtain⟨dx,ho⟩:=sh.obj;obtain⟨dt,ht⟩:=sh.tb.obj;have ok:=tat_ok hat;have h8:=lb8 ok;have li:is.length=t.ks.length:=hNi.1;obtain⟨ad,xs,rfl,hw0⟩:=At.head hat;have lkTk:=fun(v1 v2 v3:V)=>lkN (v1:=v1) (v2:=v2) (v3:=v3) (m := "taken_in") (by decide +kernel) (by decide +kernel) (by decide +kernel);refine⟨_,rfl,r,_,dx,_,_,rfl,ho,T.aa,T.ag,lkT,S,dt,_,rfl,ht,lkTk _ _ _,_,rfl,_,rfl,_,rfl,l,rfl,⟨_,ll hl⟩,fun A hA=>?_⟩;have zf:∀(js:List Nat),bs.length=js.length->(bs.zip js).map (fun e=>V.ref e.1)=bs.map V.ref:=fun js e=>by
   have:(bs.zip js).map Prod.fst=bs:=kQ (by omega)
   conv=>rhs;rw[<- this]
   rw[iw];rfl
  refine Wj (K:=K) (bs.zip is) (fun e=>V.ref e.1) (fun e=>V.int ((e.2:Nat):Int)) hA (by rw[zf is (by omega)];exact ll hl) (by rw[j0,gU];omega) ?_ ?_
  ·rintro⟨b,i⟩ hx G N sG hN;obtain⟨j,hj⟩:=jL.mp hx;rw[jG] at hj;have hjl:=(ib.mp hj.2).1;have hb:=hbs j b i _ hj.1 hj.2 (gZ (show j<ss.length by omega));exact⟨_,rfl,b,_,_,_,rfl,rfl,lh (sG _ _ hb),Zk (j:=0) rfl,hN _ (.refl _)⟩
  intro H1 hA1 s1;rw[zip_iV (by omega)] at hA1;refine⟨.ref ad,t,m,A,is,rfl,hat.mono (lg s1),hA1,li,fun H2 b2 s2 r2=>?_⟩;have s12:=s1.trans s2;refine⟨S,P,R,D,ps,.ref ad,t,m,b2,_,rfl,sh.tb.mono s12,hat.mono (lg s12),r2,⟨is,hNi.1,hNi.2,rfl⟩,by omega,fun H3 i b3 tb3 hi=>?_⟩;have b13:YI P R D H H3:=(Za.b s12).trans b3;have sh3:=sh.next b13 tb3;have u3:Yk H H3:=sh.tb.t b13;obtain⟨dx3,ho3⟩:=sh3.obj;have hw3:=u3 _ _ _ hw0;refine⟨_,rfl,ad,_,_,_,rfl,rfl,hw3,Zk (j:=0) rfl,sz2,fun q2 hq2=>?_⟩;obtain⟨H4,qN,s4,e4⟩:=Zq (o:=.tup (([("all" : Str), "some"]:List Str).map V.str)) hq2;have qN':upd H3 q2 (.tup [V.str "all",.str "some"])=H4:=qN;rw[qN'];clear qN qN';refine⟨q2,_,rfl,.inr (lh e4),rfl,ya _,_,rfl,?_⟩
  show if inV (V.str (Zv t.lb)) (([("all" : Str), "some"]:List Str).map V.str)=true then _ else _
  have b14:YI P R D H H4:=b13.trans (Za.b s4);have sh4:=sh3.mono s4;have fr:∀{c:Addr}{G:Hp},YI P R D H G->G c=none->(∀o,H c≠some o)\/c=P\/c=R\/c=D:=fun {c G} b h=>by
   by_cases z:c=P\/c=R\/c=D
   ·exact .inr z
   ·refine .inl fun o e=>?_;rw[not_or,not_or] at z;rw[b c o z.1 z.2.1 z.2.2 e] at h;cases h
  have fresh:∀{c:Addr}{G:Hp}{ps':List Tr},YI P R D H G->TbY K a.Pm a.C_Table G S P R D ps'->G c=none->H c=none:=fun {c G ps'} b tb h=>by
   obtain⟨_,_,h1,_⟩:=tb.pl;obtain⟨_,h2,_,_,_,h3⟩:=tb.rl;rcases fr b h with z|z|z|z
   ·cases e:H c with
    |none=>rfl
    |some o=>exact absurd e (z o)
   ·rw[z,h1] at h;cases h
   ·rw[z,h2] at h;cases h
   ·rw[z,h3] at h;cases h
  have qu:inV (V.str (Zv t.lb)) (([("all" : Str), "some"]:List Str).map V.str)=true↔quL t.lb:=by
   rw[qi];simp only[ic,iK,iL];exact Iff.rfl
  refine Xv (fun c=>?_) (fun c=>?_)
  ·have cq:=qu.mp c;have et:shT t=t:=by rw[XX,if_pos cq]
   have ea:Yp (Yp ps t) (shT t)=Yp ps t:=by rw[et];exact W3 (iO hi)
   refine⟨_,rfl,_,rfl,sz2,fun q hq=>?_⟩;obtain⟨H5,qN,s5,e5⟩:=Zq (o:=.tup [.int (i:Nat),.int (i:Nat)]) hq;rw[qN];exact k H5 q i i (b14.trans (Za.b s5)) (fresh b14 sh4.tb hq) (by rw[ea];exact sh4.mono s5) (by rw[ea];exact hi) (by rw[ea,et];exact hi) e5
  ·have cq:¬quL t.lb:=fun z=>c (qu.mpr z);have et:shT t=shF t.lb (t.ks.map shT):=by rw[XX,if_neg cq]
   rw[et] at k;have lkSo:([("table",.ref S),("yes",.int (y:Int)),("no",.int (n:Int))]:List (Str×V)).lookup ("short_of" : Str)=none:=by
    rw[ir,(by decide +kernel:(("short_of" : Str) == "table")=false)]
    show List.lookup _ _=_
    rw[ir,(by decide +kernel:(("short_of" : Str) == "yes")=false)]
    show List.lookup _ _=_
    rw[ir,(by decide +kernel:(("short_of" : Str) == "no")=false)];rfl
   obtain⟨dx4,ho4⟩:=sh4.obj;have lD:l≠D:=fun z=>by obtain⟨_,_,_,_,_,h3⟩:=sh.tb.rl;rw[z,h3] at hl;cases hl
   have hl4:=b14 l _ lP lR lD hl;have u4:Yk H H4:=sh.tb.t b14;refine⟨_,rfl,_,rfl,r,dx4,_,rfl,ho4,lkSo,_,rfl,_,rfl,l,rfl,⟨_,ll hl4⟩,fun A' hA'=>?_⟩;refine Wj (K:=K) (bs.zip ss) (fun e=>V.ref e.1) (fun e=>V.int ((e.2:Nat):Int)) hA' (by rw[zf ss (by omega)];exact ll hl4) (by rw[j0,gU];omega) ?_ ?_
   ·rintro⟨b,s⟩ hx G N sG hN;obtain⟨j,hj⟩:=jL.mp hx;rw[jG] at hj;have hjl:=(ib.mp hj.2).1;have hb:=hbs j b _ s hj.1 (gZ (show j<is.length by omega)) hj.2;exact⟨_,rfl,b,_,_,_,rfl,rfl,lg sG _ _ _ (u4 _ _ _ (lh hb)),Zk (j:=1) rfl,hN _ (.refl _)⟩
   intro H5 hA5 s5;rw[zip_iV (by omega)] at hA5;have b15:YI P R D H H5:=b14.trans (Za.b s5);have fw:(Yp ps t).length<4000:=by unfold Yp;split<;>(try rw[hG])<;>(try (have:[t].length=1:=rfl))<;>omega
   refine⟨r,S,P,R,D,Yp ps t,y,n,.ref ad,t,m,A',ss,t.ks.map shT,rfl,sh4.mono s5,fw,hat.mono (sh.tb.t b15),hA5,hNs.more,by rw[hJ],fun H6 s b6 sh6 hs=>?_⟩;have b16:=b15.trans b6;refine⟨sz2,fun q hq=>?_⟩;obtain⟨H7,qN,s7,e7⟩:=Zq (o:=.tup [.int (i:Nat),.int (s:Nat)]) hq;rw[qN];exact k H7 q i s (b16.trans (Za.b s7)) (fresh b16 sh6.tb hq) (sh6.mono s7) (XD hi) hs e7
noncomputable def V9(ps:List Tr):List Tr->List Tr
 |[]=>ps
 |q::L=>V9 (Yp (Yp ps q) (shT q)) L
theorem addS_app{ps:List Tr}:∀(A B:List Tr),V9 ps (A++B)=V9 (V9 ps A) B:=by
 intro A
 induction A generalizing ps with
 |nil=>intro B;rfl
 |cons q A ih=>intro B;exact ih B
theorem addS_take{ps0 L:List Tr}{i:Nat}{x:Tr}(h:L[i]?=some x):V9 ps0 (L.take (i+1))=Yp (Yp (V9 ps0 (L.take i)) x) (shT x):=by
 rw[List.take_succ,h,addS_app];rfl
theorem addS_nd{ps:List Tr}(L:List Tr)(h:ps.Nodup):(V9 ps L).Nodup:=by
 induction L generalizing ps with
 |nil=>exact h
 |cons q L ih=>exact ih (W5 (W5 h))
theorem addS_mem{ps:List Tr}{x:Tr}(L:List Tr)(h:x∈V9 ps L):x∈ps\/∃q∈L,x=q\/x=shT q:=by
 induction L generalizing ps with
 |nil=>exact .inl h
 |cons q L ih=>
  rcases ih (ps:=Yp (Yp ps q) (shT q)) h with h|⟨y,hy,h⟩
  ·rcases qR.mp h with h|h
   ·rcases qR.mp h with h|h
    ·exact .inl h
    ·exact .inr ⟨q,by simp,.inl h⟩
   ·exact .inr ⟨q,by simp,.inr h⟩
  ·exact .inr ⟨y,hU _ hy,h⟩
theorem addS_few{C:List Tr}(L:List Tr)(h:∀s∈L,s∈C):(V9 [Zn,nNo] L).length<=2*C.length+2:=by
 have n0:([Zn,nNo]:List Tr).Nodup:=by
  rw[jq];exact⟨fun z=>qO (iW.mp z),by simp⟩
 have:=z7 (l₂:=Zn::nNo::(C++C.map shT)) (addS_nd L n0) fun x hx=>by
  rcases addS_mem L hx with h1|⟨q,hq,h1|h1⟩
  ·simp only[ic,iK,iL] at h1;rcases h1 with rfl|rfl<;>simp
  ·exact hU _ (hU _ (iH.mpr (.inl (by rw[h1];exact h q hq))))
  ·exact hU _ (hU _ (iH.mpr (.inr (by rw[h1];exact ik.mpr ⟨q,h q hq,rfl⟩))))
 simp at this;omega
theorem Ww.monoX{K:W.Frag}{a:Adr}{H H':Hp}{r T P R D F:Addr}{ps:List Tr}{y n:Nat}{xs:List V}(x:Zx F H H')(hF:H F=some (.lst xs))(nP:P≠F)(nR:R≠F)(h:Ww K a H r T P R D ps y n):Ww K a H' r T P R D ps y n:=by
 obtain⟨⟨dx,ho⟩,tb,hy,hn⟩:=h;exact⟨⟨dx,x _ _ (YR ho hF (by intro z;cases z)) ho⟩,tb.monoX x hF nP nR,hy,hn⟩
def vh(K:W.Frag)(a:Adr):Sp:=fun vs H Q _=>∃(v:V) (t:Tr) (n:Nat),vs=[v]/\At K n H v t/\FwT t/\∀H' v' m,Za H H'->At K m H' v' (shT t)->Q v' H'
theorem zo(T:Txt K mg a)(hw:w.params=a.Pm):Yq P w K mg base CX0 7 a.shorter a.cu gG (vh K a):=by
 have br:=Wd (P:=P) (w:=w) (base:=base) T hw;have aJ:=Xz (P:=P) (w:=w) (base:=base) T hw;have aQ:=XL (P:=P) (w:=w) (base:=base) T hw;have cQ:=Vo (P:=P) (w:=w) (base:=base) T hw;have bQ:=WF (P:=P) (w:=w) (base:=base) T hw;refine T.bp.ok YK (fun vs H Q E h=>?_) (fun gF A outer s H vs Q E hr h=>?_)
 ·obtain⟨v,t,n,rfl,_⟩:=h;rfl
 ·obtain⟨v,t,n,rfl,hat,⟨hz,C,lC,hC⟩,k⟩:=h;refine⟨_,(@Zb _ _ _ _ _ (@Zr _ _ (1) _ _ _ _ YK.nd rfl (Or.inl rfl) (za T.fg cQ (hr.mono (by decide)) rfl T.fB T.cK .nil Zw) (by rfl) (.inl rfl)) (@Zb _ _ _ _ _ (@Zr _ _ (2) _ _ _ _ YK.nd rfl (Or.inl rfl) (@ZT _ _ _ _ Y2) (by rfl) (.inl rfl)) (@Zb _ _ _ _ _ (Xw iS rfl (Yr (K:=K) rfl (Zp aQ (hr.mono (by decide)) rfl T.bj T.aG.kp T.bi .nil Zw (@Zc _ _ _ (pv 0) (by rfl)))) (ZY (i:=3) YK.nd rfl (Or.inl rfl)) (@Zb _ _ _ _ _ (@Zr _ _ (4) _ _ _ _ YK.nd rfl (Or.inl rfl) (Zp br (hr.mono (by decide)) rfl T.bU T.bA.kp T.bT .nil Zw (@Zd _ _ _ _ _ (pv 2) (@Zc _ _ _ (ZB (ZK (K:=K) rfl) rfl T.bL lr (@Zc _ _ _ (Zp aJ (hr.mono (by decide)) rfl T.bC T.bt.kp T.bB .nil Zw (@Zc _ _ _ (pv 3) (by rfl))) (by rfl))) (by rfl)) (by rfl))) (by rfl) (.inl rfl)) (@Zg _ _ _ (@YA _ _ _ _ (Wx iT i7 i8 Yv (pv 2) (@Zc _ _ _ (Ys (pv 1) T.aa T.bO bQ (hr.mono (by decide)) T.bN .nil Zw (@Zd _ _ _ _ _ (pv 3) (@Zc _ _ _ (pv 4) (by rfl)) (by rfl))) (by rfl))) (by rfl))))) (@Zg _ _ _ (@Zo _ _ _ _ (@ZA _ _ _ _ _ _ _ (Zz (K:=K) rfl) (ZM (K:=K) rfl (ZM (K:=K) rfl (pv 1) rfl) rfl) (@ZA _ _ _ _ _ _ _ (ZJ (K:=K) rfl) (@ZA _ _ _ _ _ _ _ (Zz (K:=K) rfl) (pv 2) Zh (fun _ _=>rfl)) Zh (fun _ _=>rfl)) (fun _ _=>rfl))))))),?_⟩;cases n with
  |zero=>exact hat.elim
  |succ n=>
   refine fun x dt nx ndt nex=>⟨x,dt,rfl,Zf,fun H0 S P R D x0 S0 P0 R0 D0 sh0=>⟨rfl,?_⟩⟩;have s00:=zi (o:=.own x) (o':=.ins a.C_Shorts dt []) nx ndt;have s0:Za H H0:=fun b u e=>x0 _ _ (Zy e nx) (s00 _ _ e);have hP0:=s00.free P0;have hR0:=s00.free R0;have hD0:=s00.free D0;refine⟨by decide,fun F hF=>?_⟩;have s1:=Zl (o:=.lst []) hF;have e1:(upd H0 F (.lst [])) F=some (.lst []):=Zf;generalize upd H0 F (.lst [])=H1 at s1 e1 ⊢;have hFH:=s0.free hF;have hz':(post t).length<=8000000:=hz;refine⟨_,rfl,v,t,n+1,rfl,hat.mono (lg (s0.trans s1)),by omega,fun H2 L us s2 L0 eL aL=>⟨L,rfl,⟨_,ll eL⟩,?_⟩⟩;have nLF:L≠F:=fun e=>by rw[e,e1] at L0;cases L0
   have hF2:=s2 _ _ e1;obtain⟨ok0,run0⟩:=yK (F:=Tr.node) t;rw[WL _ t (gY _)] at run0;have hul:=aL.1;obtain⟨n0,pv0,hPP,_⟩:=sh0.tb.pl;obtain⟨rows0,hRR,_,_,_,hDD⟩:=sh0.tb.rl;have nPF:P≠F:=Zy hPP hF;have nRF:R≠F:=Zy hRR hF;have nDF:D≠F:=Zy hDD hF;have hL1:∀c o,H0 c=some o->c≠L:=fun c o e z=>by rw[z] at e;rw[s1 _ _ e] at L0;cases L0
   have nPL:=hL1 _ _ hPP;have nRL:=hL1 _ _ hRR;have nDL:=hL1 _ _ hDD;have sh2:=(sh0.mono s1).mono s2;refine X3 (K:=K) (xs:=us) (fun i σ H'=>∃(z1 z2:Option V) (bs:List Addr) (is ss:List Nat) (st:List Tr),σ=[some v,some (.ref x),some (.ref F),z1,z2]/\Za H H'/\H' L=some (.lst us)/\AtL K (n+1) H' us (post t)/\Ww K a H' x S P R D (V9 [Zn,nNo] ((post t).take i)) 0 1/\H' F=some (.lst (bs.map V.ref))/\bs.length=st.length/\is.length=st.length/\ss.length=st.length/\(∀(j:Nat) b i s,bs[j]?=some b->is[j]?=some i->ss[j]?=some s->H' b=some (.tup [.int (i:Nat),.int (s:Nat)]))/\(∀(j:Nat) u m,st[j]?=some u->is[j]?=some m->(V9 [Zn,nNo] ((post t).take i))[m]?=some u)/\(∀(j:Nat) u m,st[j]?=some u->ss[j]?=some m->(V9 [Zn,nNo] ((post t).take i))[m]?=some (shT u))/\Ut Tr.node st ((post t).drop i)/\UR Tr.node st ((post t).drop i)=[t]/\st.length<=i) ?_ ?_ ?_ ?_
   ·exact⟨_,_,[],[],[],[],rfl,s0.trans (s1.trans s2),eL,aL,sh2,hF2,rfl,rfl,rfl,(fun j b i s h=>by simp at h),(fun j s m h=>by simp at h),(fun j s m h=>by simp at h),ok0,run0,gY _⟩
   ·rintro i σ H' hi ⟨z1,z2,bs,is,ss,st,rfl,_,hL',_⟩;exact ll hL'
   ·rintro i xv σ H3 hx ⟨z1,z2,bs,is,ss,st,rfl,b3,hL3,aL3,sh3,hF3,hbl,hil,hsl,hprs,hnum,hnus,ok3,run3,hst⟩;have hi:i<us.length:=(ib.mp hx).1;have hi2:i<(post t).length:=by omega
    have hxi:(post t)[i]?=some (post t)[i]:=gZ hi2;have at3:=aL3.2 i xv _ hx hxi;have etk:=addS_take (ps0:=[Zn,nNo]) hxi;have hpl:(V9 [Zn,nNo] ((post t).take i)).length<3999:=by
     have h1:=addS_few (C:=C) ((post t).take i) fun s hs=>hC s (List.mem_of_mem_take hs);omega
    rw[jZ hi2] at ok3 run3;obtain⟨⟨okl,okd⟩,okr⟩:=ok3;have runr:UR Tr.node (Xl Tr.node st (post t)[i]) ((post t).drop (i+1))=[t]:=run3;have kidE:(post t)[i].ks.map (Yd Tr.node)=(post t)[i].ks:=by
     have:(post t)[i].ks.map (Yd Tr.node)=(post t)[i].ks.map id:=jb fun k hk=>WL _ k (gY _);rw[this,jw]
    rw[kidE] at okd;generalize (post t)[i]=q at at3 okl okd okr runr etk hxi kidE;generalize hps:V9 [Zn,nNo] ((post t).take i)=ps at sh3 hnum hnus etk hpl;obtain⟨ad7,ks7,eu7,sh7,ok7,hl7,hq7⟩:=id at3;refine⟨_,rfl,_,rfl,xv,ad7,ks7,q.lb,rfl,eu7,sh7,by rw[hl7];exact ok7.b,fun H4 b s4 eb=>.inl ⟨b,_,rfl,.inr eb,?_⟩⟩;have hF4:=s4 _ _ hF3;have ivl:(bs.map V.ref).length=bs.length:=hJ ..;refine⟨F,bs.map V.ref,ks7.length,rfl,hF4,by rw[ivl];omega,fun H5 l x5 hF5 l0 hl5=>?_⟩;have nlF:l≠F:=fun e=>by rw[e,hF4] at l0;cases l0
    have u45:Yk H4 H5:=Zx.tup x5 hF4;have u35:Yk H3 H5:=(lg s4).trans u45;have sh4:=sh3.mono s4;have sh5:Ww K a H5 x S P R D ps 0 1:=sh4.monoX x5 hF4 nPF nRF;have lP:l≠P:=fun z=>by obtain⟨_,_,e,_⟩:=sh4.tb.pl;rw[z,e] at l0;cases l0
    have lR:l≠R:=fun z=>by obtain⟨_,e,_⟩:=sh4.tb.rl;rw[z,e] at l0;cases l0
    rw[show(bs.map V.ref).length-ks7.length=st.length-q.ks.length by omega] at hF5 hl5;generalize hw':st.length-q.ks.length=w' at hF5 hl5 okd;rw[<- List.map_drop] at hl5;rw[<- List.map_take] at hF5;have at5:=at3.mono u35;obtain⟨dx5,ho5⟩:=sh5.obj;have hisl:(is.drop w').length=q.ks.length:=by rw[jh];omega
    have hssl:(ss.drop w').length=q.ks.length:=by rw[jh];omega
    have prs5:PrsAt H5 l (is.drop w') (ss.drop w'):=by
     refine⟨by omega,bs.drop w',by rw[jh];omega,hl5,fun j b i' s' h1 h2 h3=>?_⟩;rw[jy] at h1 h2 h3;have e:=s4 _ _ (hprs _ _ _ _ h1 h2 h3);exact x5 _ _ (YR e hF4 (by intro z;cases z)) e
    have hNi:Vm ps (is.drop w') q.ks:=⟨hisl,fun j kk m h1 h2=>by
     rw[<- okd,jy] at h1;rw[jy] at h2;exact hnum _ _ _ h1 h2⟩
    have hNs:Vm ps (ss.drop w') (q.ks.map shT):=⟨by rw[hJ];exact hssl,fun j kk m h1 h2=>by
     rw[iJ] at h1;obtain⟨u,hu,rfl⟩:=kO.mp h1;rw[<- okd,jy] at hu;rw[jy] at h2;exact hnus _ _ _ hu h2⟩
    have lkBo:([("table",.ref S),("yes",.int ((0:Nat):Int)),("no",.int ((1:Nat):Int))]:List (Str×V)).lookup ("both_of" : Str)=none:=by
     rw[ir,(by decide +kernel:(("both_of" : Str) == "table")=false)]
     show List.lookup _ _=_
     rw[ir,(by decide +kernel:(("both_of" : Str) == "yes")=false)]
     show List.lookup _ _=_
     rw[ir,(by decide +kernel:(("both_of" : Str) == "no")=false)];rfl
    refine⟨_,rfl,.inl ⟨rfl,_,ll hF5⟩,_,rfl,x,dx5,_,rfl,ho5,lkBo,_,rfl,_,rfl,x,S,P,R,D,ps,0,1,xv,q,n+1,l,_,_,rfl,sh5,hpl,at5,prs5,lP,lR,hNi,hNs,fun H6 pq m s b6 pq0 sh6 hm hs e6=>?_⟩;have hF6:=b6 _ _ (ie nPF) (ie nRF) (ie nDF) hF5;refine⟨F,_,_,rfl,rfl,hF6,by rw[hJ,hV,gU];omega,?_⟩;have ev:((bs.take w').map V.ref++[V.ref pq])=(bs.take w'++[pq]).map V.ref:=by rw[iZ];rfl
    rw[ev];have x8:Zx F H6 (upd H6 F (.lst ((bs.take w'++[pq]).map V.ref))):=(Zx.refl H6).upd;have u8:Yk H6 (upd H6 F (.lst ((bs.take w'++[pq]).map V.ref))):=Zx.tup x8 hF6;have sh8:=sh6.monoX x8 hF6 nPF nRF;have e8:(upd H6 F (.lst ((bs.take w'++[pq]).map V.ref))) F=some (.lst ((bs.take w'++[pq]).map V.ref)):=Zf;generalize upd H6 F (.lst ((bs.take w'++[pq]).map V.ref))=H8 at x8 u8 sh8 e8 ⊢;have tup8:∀c xs,H3 c=some (.tup xs)->H8 c=some (.tup xs):=fun c xs e=>by
     have e4:=s4 _ _ e;have e5:=x5 _ _ (YR e4 hF4 (by intro z;cases z)) e4;obtain⟨_,_,h1,_⟩:=sh5.tb.pl;obtain⟨_,h2,_,_,_,h3⟩:=sh5.tb.rl;have e6':=b6 _ _ (YR e5 h1 (by intro z;cases z)) (YR e5 h2 (by intro z;cases z)) (YR e5 h3 (by intro z;cases z)) e5;exact x8 _ _ (YR e6' hF6 (by intro z;cases z)) e6'
    have e68:=x8 _ _ (YR e6 hF6 (by intro z;cases z)) e6;have b8:Za H H8:=fun c o e=>x8 _ _ (Zy e hFH) (b6 _ _ (Zy e hP0) (Zy e hR0) (Zy e hD0) (x5 _ _ (Zy e hFH) (s4 _ _ (b3 _ _ e))));have hL8:H8 L=some (.lst us):=x8 _ _ nLF (b6 _ _ (ie nPL) (ie nRL) (ie nDL) (x5 _ _ nLF (s4 _ _ hL3)));have u38:Yk H3 H8:=u35.trans ((sh5.tb.t b6).trans u8);rw[<- etk] at sh8 hm hs;refine⟨_,_,bs.take w'++[pq],is.take w'++[m],ss.take w'++[s],Xl Tr.node st q,rfl,b8,hL8,aL3.mono u38,sh8,e8,?_,?_,?_,?_,?_,?_,okr,runr,?_⟩
    ·unfold Xl;rw[hG,hG,hV,hV,hbl,hw'];rfl
    ·unfold Xl;rw[hG,hG,hV,hV,hil,hw'];rfl
    ·unfold Xl;rw[hG,hG,hV,hV,hsl,hw'];rfl
    ·intro j b' i' s' h1 h2 h3
     by_cases hj:j<w'
     ·rw[iI (by rw[hV];omega),ke hj] at h1 h2 h3;exact tup8 _ _ (hprs _ _ _ _ h1 h2 h3)
     ·have hlt:=(ib.mp h1).1;rw[hG,hV,iY] at hlt;have ej:j=w':=by omega
      rw[iM (by rw[hV];omega),hV,show j-min w' bs.length=0 by omega] at h1;rw[iM (by rw[hV];omega),hV,show j-min w' is.length=0 by omega] at h2;rw[iM (by rw[hV];omega),hV,show j-min w' ss.length=0 by omega] at h3;cases h1;cases h2;cases h3;exact e68
    ·intro j u m' h1 h2;unfold Xl at h1;rw[hw'] at h1
     by_cases hj:j<w'
     ·rw[iI (by rw[hV];omega),ke hj] at h1 h2;rw[etk];exact XD (XD (hnum _ _ _ h1 h2))
     ·have hlt:=(ib.mp h2).1;rw[hG,hV,iY] at hlt;rw[iM (by rw[hV];omega),hV,show j-min w' st.length=0 by omega] at h1;rw[iM (by rw[hV];omega),hV,show j-min w' is.length=0 by omega] at h2;cases h2;have e2:Tr.node q.lb (st.drop w')=u:=by simpa using h1
      rw[okd,<- Tr.eta] at e2;rw[<- e2];exact hm
    ·intro j u m' h1 h2;unfold Xl at h1;rw[hw'] at h1
     by_cases hj:j<w'
     ·rw[iI (by rw[hV];omega),ke hj] at h1 h2;rw[etk];exact XD (XD (hnus _ _ _ h1 h2))
     ·have hlt:=(ib.mp h2).1;rw[hG,hV,iY] at hlt;rw[iM (by rw[hV];omega),hV,show j-min w' st.length=0 by omega] at h1;rw[iM (by rw[hV];omega),hV,show j-min w' ss.length=0 by omega] at h2;cases h2;have e2:Tr.node q.lb (st.drop w')=u:=by simpa using h1
      rw[okd,<- Tr.eta] at e2;rw[<- e2];exact hs
    ·unfold Xl;rw[hG,hV];simp;omega
   rintro σ H3 ⟨z1,z2,bs,is,ss,st,rfl,b3,hL3,aL3,sh3,hF3,hbl,hil,hsl,hprs,hnum,hnus,ok3,run3,hst⟩;rw[hul,lc (gY _)] at run3;rw[hul,jt (gY _)] at sh3 hnum hnus;have est:st=[t]:=run3;subst est;obtain⟨b,rfl⟩:∃b,bs=[b]:=by
    match bs,hbl with
    |[m],_=>exact⟨m,rfl⟩
   obtain⟨m,rfl⟩:∃m,is=[m]:=by
    match is,hil with
    |[m],_=>exact⟨m,rfl⟩
   obtain⟨s,rfl⟩:∃s,ss=[s]:=by
    match ss,hsl with
    |[m],_=>exact⟨m,rfl⟩
   have hb:=hprs 0 b m s rfl rfl rfl;have hs:=hnus 0 t s rfl rfl;obtain⟨dx,ho⟩:=sh3.obj;obtain⟨dt',ht⟩:=sh3.tb.obj;obtain⟨n1,pv,hP3,aP⟩:=sh3.tb.pl;have hsl':=(ib.mp hs).1;have hu:pv[s]?=some (pv[s]'(by rw[aP.1];exact hsl')):=gZ _;have ats:=aP.2 s _ _ hu hs;refine⟨_,rfl,x,_,dx,_,_,rfl,ho,T.aa,T.ag,lkT,S,_,dt',_,_,rfl,ht,T.ai,T.aW,lkP,_,rfl,F,_,_,_,rfl,rfl,ll hF3,Zk (j:=0) rfl,b,_,_,_,rfl,rfl,lh hb,Zk (j:=1) rfl,P,_,_,_,rfl,rfl,ll hP3,Zk hu,k H3 _ _ b3 ats⟩
def qa(K:W.Frag)(a:Adr):Sp:=fun vs H Q _=>∃(p:Addr) (ns:List Int) (j:Nat),vs=[.ref p,.int (j:Nat)]/\SqL K H p (ns.map V.int)/\∀n:Int,Q (.int n) H
theorem qf(T:Txt K mg a)(hw:w.params=a.Pm):Yq P w K mg base CX0 1 a._law_cell_at a.bu ["_law_script", "_law_k"] (qa K a):=by
 refine T.bI.ok qc (fun vs H Q E h=>?_) (fun gF A outer s H vs Q E hr h=>?_)
 ·obtain⟨p,ns,j,rfl,_⟩:=h;rfl
 ·obtain⟨p,ns,j,rfl,hq,k⟩:=h;refine⟨_,(@Zb _ _ _ _ _ (@ZI _ _ _ _ _ _ _ _ (@Zm _ _ _ _ _ _ _ _ op_lt (pv 1) (ZB (ZK (K:=K) rfl) rfl T.bL lr (@Zc _ _ _ (pv 0) (by rfl))) (Zs _)) (@Zg _ _ _ (@Zo _ _ _ _ (@ZA _ _ _ _ _ _ _ (Zz (K:=K) rfl) (pv 0) (pv 1) (fun _ _=>rfl)))) Zt) (@Zg _ _ _ (@Zo _ _ _ _ Zh))),?_⟩;refine⟨_,rfl,_,rfl,.inl ⟨p,_,rfl,.inl hq,_,_,rfl,rfl,_,rfl,?_⟩⟩;refine Xv (fun c=>?_) (fun _=>k 0);have hj:j<ns.length:=by have:=iz c;rw[hJ] at this;omega
  exact⟨_,rfl,_,rfl,p,_,_,_,rfl,rfl,hq,Zk (at_of hj),k _⟩
def qx(K:W.Frag)(a:Adr):Sp:=fun vs H Q _=>∃(c:Int) (m:Nat),vs=[.int c,.int (m:Int)]/\m<=1000/\∀H' p (ns:List Int),Za H H'->H p=none->H' p=some (.lst (ns.map V.int))->ns.length=m->Q (.ref p) H'
theorem qB(T:Txt K mg a)(hw:w.params=a.Pm):Yq P w K mg base CX0 1 a._law_stream a.bH ["_law_cell", "_law_many"] (qx K a):=by
 refine T.cL.ok Z6 (fun vs H Q E h=>?_) (fun gF A outer s H vs Q E hr h=>?_)
 ·obtain⟨c,m,rfl,_⟩:=h;rfl
 ·obtain⟨c,m,rfl,hm,k⟩:=h;refine⟨_,(@Zb _ _ _ _ _ (@Zr _ _ (2) _ _ _ _ Z6.nd rfl (Or.inl rfl) (@ZT _ _ _ _ Y2) (by rfl) (.inl rfl)) (Ve (@ZI _ _ _ _ _ _ _ _ (@Zm _ _ _ _ _ _ _ _ ZL (@ZE _ _ _ _ _ _ _ _ Xx (pv 0) Zh) Zh (Zs _)) (@Zb _ _ _ _ _ (@Zr _ _ (3) _ _ _ _ Z6.nd rfl (Or.inl rfl) (@ZE _ _ _ _ _ _ _ _ WA (pv 0) Zh) (by rfl) (.inl rfl)) (@Zg _ _ _ (qV iS (PW.pt (VZ (@Zm _ _ _ _ _ _ _ _ op_gt (pv 3) Zh (Zs _)) (WY (@Zm _ _ _ _ _ _ _ _ op_lt (ZB (ZK (K:=K) rfl) rfl T.bL lr (@Zc _ _ _ (pv 2) (by rfl))) (pv 1) (Zs _))))) (@Zb _ _ _ _ _ (@YA _ _ _ _ (Wx iT i7 i8 Yv (pv 2) (@Zc _ _ _ (@ZE _ _ _ _ _ _ _ _ Xx (pv 3) Zh) (by rfl))) (by rfl)) (@Zg _ _ _ (@Zr _ _ (3) _ _ _ _ Z6.nd rfl (Or.inl rfl) (@ZE _ _ _ _ _ _ _ _ WA (pv 3) Zh) (by rfl) (.inl rfl))))))) Zt) (@Zb _ _ _ _ _ (@Zr _ _ (4) _ _ _ _ Z6.nd rfl (Or.inl rfl) (@ZE _ _ _ _ _ _ _ _ Yy (@ZE _ _ _ _ _ _ _ _ Xx (pv 0) (@ZE _ _ _ _ _ _ _ _ Yy (@ZE _ _ _ _ _ _ _ _ op_pow Zh Zh) Zh)) Zh) (by rfl) (.inl rfl)) (@Zb _ _ _ _ _ (@Zr _ _ (5) _ _ _ _ Z6.nd rfl (Or.inl rfl) (@ZE _ _ _ _ _ _ _ _ Yy (@ZE _ _ _ _ _ _ _ _ Xx (pv 0) Zh) Zh) (by rfl) (.inl rfl)) (@Zb _ _ _ _ _ (Xw iS rfl (UN rfl T.fz (@Zc _ _ _ (@ZE _ _ _ _ _ _ _ _ Yy (pv 1) Zh) (by rfl))) (ZY (i:=6) Z6.nd rfl (Or.inl rfl)) (@Zb _ _ _ _ _ (@Zr _ _ (4) _ _ _ _ Z6.nd rfl (Or.inl rfl) (@ZE _ _ _ _ _ _ _ _ Xx (@ZE _ _ _ _ _ _ _ _ Yy (@ZE _ _ _ _ _ _ _ _ Yy (@ZE _ _ _ _ _ _ _ _ VQ (pv 4) (pv 4)) (@ZE _ _ _ _ _ _ _ _ VQ Zh (pv 4))) (pv 6)) (@ZE _ _ _ _ _ _ _ _ Yy (@ZE _ _ _ _ _ _ _ _ op_pow Zh Zh) Zh)) (by rfl) (.inl rfl)) (@Zb _ _ _ _ _ (@Zr _ _ (5) _ _ _ _ Z6.nd rfl (Or.inl rfl) (@ZE _ _ _ _ _ _ _ _ Xx (@ZE _ _ _ _ _ _ _ _ VQ (pv 5) Zh) Zh) (by rfl) (.inl rfl)) (@Zg _ _ _ (@YA _ _ _ _ (Wx iT i7 i8 Yv (pv 2) (@Zc _ _ _ (@ZE _ _ _ _ _ _ _ _ Yy (pv 4) (pv 5)) (by rfl))) (by rfl)))))) (@Zg _ _ _ (@Zo _ _ _ _ (YG (WO (K:=K) rfl) (pv 2) Y6 (YQ (pv 1)))))))))),?_⟩;refine⟨by decide,fun D hD=>?_⟩;refine⟨fun σ H'=>∃(ns:List Int) (r:Option V),σ=[some (.int c),some (.int m),some (.ref D),r,none,none,none]/\H' D=some (.lst (ns.map V.int))/\Za H H'/\ns.length<=m,?_,?_⟩
  ·refine⟨_,rfl,_,_,rfl,rfl,by decide,rfl,_,rfl,Xv (fun c1=>?_) (fun c1=>?_)⟩
   ·refine⟨_,rfl,_,_,rfl,rfl,⟨by decide,by decide⟩,?_⟩;refine⟨fun n σ H'=>∃(ns:List Int) (r:Int),σ=[some (.int c),some (.int m),some (.ref D),some (.int r),none,none,none]/\H' D=some (.lst (ns.map V.int))/\Za H H'/\ns.length<=m/\n=m-ns.length,⟨m,[],_,rfl,Zf,Zl hD,iU _,rfl⟩,?_⟩;rintro n σ H1 ⟨ns,r,rfl,h1,s1,hl,rfl⟩;refine⟨_,rfl,_,_,rfl,rfl,_,rfl,Xv (fun c2=>⟨_,rfl,.inl ⟨D,_,rfl,.inl (ll h1),_,rfl,_,_,rfl,rfl,_,rfl,Xv (fun c3=>?body) (fun c3=>?Wv)⟩⟩) (fun c2=>Yi ?rest2)⟩
    case Wv=>exact⟨ns,_,rfl,h1,s1,hl⟩
    case rest2=>exact⟨ns,_,rfl,h1,s1,hl⟩
    case body=>
     have c4:ns.length<m:=by have:=iz c3;rw[hJ] at this;omega
     refine⟨fun σ H'=>∃(ns':List Int) (r:Int),σ=[some (.int c),some (.int m),some (.ref D),some (.int r),none,none,none]/\H' D=some (.lst (ns'.map V.int))/\Za H H'/\ns'.length=ns.length+1,?_,?_⟩
     ·rintro σ' H' ⟨ns',r',rfl,a1,a2,a3⟩;exact⟨m-ns'.length,by omega,ns',r',rfl,a1,a2,by omega,rfl⟩
     ·refine⟨_,rfl,.inl ⟨rfl,_,ll h1⟩,_,rfl,_,_,rfl,rfl,by decide,D,_,_,rfl,rfl,h1,by rw[hJ,gU];omega,?_⟩;refine⟨_,rfl,_,_,rfl,rfl,⟨by decide,by decide⟩,?_⟩;exact⟨ns++[_],_,rfl,by rw[Zf,iZ];rfl,(Zx.upd (Za.x s1)).same hD,by simp⟩
   ·exact⟨[],_,rfl,Zf,Zl hD,iU _⟩
  rintro σ H1 ⟨ns,r,rfl,h1,s1,hl⟩;have e18:((10:Int) ^ (18:Int).toNat+9)=1000000000000000009:=by decide
  refine⟨_,rfl,_,_,rfl,rfl,⟨by decide,by decide,by decide⟩,_,_,rfl,rfl,_,_,rfl,rfl,by decide,_,_,rfl,rfl,?_⟩;refine⟨_,rfl,_,_,rfl,rfl,by decide,_,_,rfl,rfl,?_⟩;refine⟨_,rfl,_,_,rfl,rfl,_,rfl,by omega,by omega,?_⟩;have e0:((m:Int)+2).toNat=m+2:=by omega
  rw[e0];have r0:=kl c (show(1000000000000000009:Int)≠0 by decide);have r1:=kn c (show(0:Int)<1000000000000000009 by decide);refine yn (J:=Itr 0 (m+2)) (n:=m+2) (fun i σ H'=>∃(ns':List Int) (num oth:Int) (z:Option V),σ=[some (.int c),some (.int m),some (.ref D),r,some (.int num),some (.int oth),z]/\(0<=num/\num<1000000000000100000)/\H' D=some (.lst (ns'.map V.int))/\Za H H'/\ns'.length=ns.length+i) ?_ (fun i σ H' hi _=>hi) (fun σ H' _=>gY _) ?_ ?_
  ·exact⟨ns,c%1000000000000000009+48271,_,none,rfl,⟨by omega,by omega⟩,h1,s1,by simp⟩
  ·rintro i x σ H2 H3 hi ⟨ns',num,oth,z,rfl,⟨n0,n1⟩,g1,g2,g3⟩ ⟨rfl,rfl⟩;refine⟨_,rfl,_,rfl,_,_,rfl,rfl,.inl ⟨by omega,by omega⟩,_,rfl,_,_,rfl,rfl,.inl ⟨by decide,by decide⟩,_,_,rfl,rfl,_,rfl,_,_,rfl,rfl,_,_,rfl,rfl,⟨by decide,by decide,by decide⟩,_,_,rfl,rfl,_,_,rfl,rfl,by decide,?_⟩;have m0:=kl (num*num+48271*num+(0+(i:Int))) (show((10:Int) ^ (18:Int).toNat+9)≠0 by decide);have m1:=kn (num*num+48271*num+(0+(i:Int))) (show(0:Int)<((10:Int) ^ (18:Int).toNat+9) by decide);have m2:((10:Int) ^ (18:Int).toNat+9)<1000000000000100000:=by decide
   refine⟨_,rfl,_,_,rfl,rfl,.inr ⟨by decide,by decide⟩,_,_,rfl,rfl,by decide,?_⟩;refine⟨_,rfl,.inl ⟨rfl,_,ll g1⟩,_,rfl,_,rfl,_,_,rfl,rfl,D,_,_,rfl,rfl,g1,by rw[hJ,gU];omega,?_⟩;exact⟨ns'++[_],_,_,_,rfl,⟨m0,Int.lt_trans m1 m2⟩,by rw[Zf,iZ];rfl,(Zx.upd (Za.x g2)).same hD,by rw[hG,g3];rfl⟩
  ·rintro σ H2 ⟨ns',num,oth,z,rfl,_,g1,g2,g3⟩;refine⟨_,rfl,_,rfl,m,rfl,D,_,rfl,ll g1,fun p hp=>?_⟩;refine k _ p (ns'.take m) (g2.trans (Zl hp)) (g2.free hp) ?_ (by rw[hV];omega);rw[Zf,yB _ m (by rw[hJ];omega),List.map_take]
def LF:List Tr:=[.node (.sign "zeta") [],.node (.sign "b") [],.node (.sign "am") [],Zn,nNo]
theorem V4{t s:Tr}(h:s∈post t)(ht:t∈LF):s∈LF:=by
 have lf:∀{c:Lb},s∈post (.node c [])->s=.node c []:=fun h=>by
  rcases pin h with e|⟨k,hk,_⟩
  ·exact e
  ·cases hk
 simp only[LF,ic,iK,iL] at ht;rcases ht with rfl|rfl|rfl|rfl|rfl
 ·rw[lf h];simp[LF]
 ·rw[lf h];simp[LF]
 ·rw[lf h];simp[LF]
 ·rw[pyes h];simp[LF]
 ·rcases pno h with e|e<;>rw[e]<;>simp[LF]
def yq(K:W.Frag)(a:Adr):Sp:=fun vs H Q _=>∃(x:Int),vs=[.int x]/\∀H' v t,Za H H'->At K 2 H' v t->psz t<=2->(∀s∈post t,s∈LF)->Q v H'
theorem Uk(T:Txt K mg a)(hw:w.params=a.Pm):Yq P w K mg base CX0 1 a._law_leaf a.cb ["_law_x"] (yq K a):=by
 refine T.cM.ok yz (fun vs H Q E h=>?_) (fun gF A outer s H vs Q E hr h=>?_)
 ·obtain⟨x,rfl,_⟩:=h;rfl
 ·obtain⟨x,rfl,k⟩:=h;refine⟨_,(@Zg _ _ _ (@Zo _ _ _ _ (@ZA _ _ _ _ _ _ _ (Zz (K:=K) rfl) (@ZT _ _ _ _ (@ZD _ _ _ _ _ (@Zj _ _ _ _ _ (@Zd _ _ _ _ _ Ze (@Zc _ _ _ Ze (by rfl)) (by rfl))) (@ZD _ _ _ _ _ (@Zj _ _ _ _ _ (@Zd _ _ _ _ _ Ze (@Zc _ _ _ Ze (by rfl)) (by rfl))) (@ZD _ _ _ _ _ (@Zj _ _ _ _ _ (@Zd _ _ _ _ _ Ze (@Zc _ _ _ Ze (by rfl)) (by rfl))) (@ZD _ _ _ _ _ (@Zj _ _ _ _ _ (@Zc _ _ _ Ze (by rfl))) (@ZD _ _ _ _ _ (@Zj _ _ _ _ _ (@Zd _ _ _ _ _ Ze (@Zc _ _ _ (@Zj _ _ _ _ _ (@Zc _ _ _ Ze (by rfl))) (by rfl)) (by rfl))) (@Ym _ _ _ (@Zj _ _ _ _ _ (@Zd _ _ _ _ _ Ze (@Zc _ _ _ Ze (by rfl)) (by rfl))) (by rfl)) (by rfl)) (by rfl)) (by rfl)) (by rfl)) (by rfl))) (@ZE _ _ _ _ _ _ _ _ Xx (pv 0) Zh) (fun _ _=>rfl)))),?_⟩;have sz2:2<=sizeLine:=by rw[gU];decide
  have sz1:1<=sizeLine:=by rw[gU];decide
  refine⟨sz2,fun a1 h1=>?_⟩;obtain⟨G1,qN,g1,e1⟩:=Zq (o:=.tup [.str "sign",.str "zeta"]) h1;rw[qN];refine⟨sz2,fun a2 h2=>?_⟩;obtain⟨G2,qN,g2,e2⟩:=Zq (o:=.tup [.str "sign",.str "b"]) h2;rw[qN];refine⟨sz2,fun a3 h3=>?_⟩;obtain⟨G3,qN,g3,e3⟩:=Zq (o:=.tup [.str "sign",.str "am"]) h3;rw[qN];refine⟨sz1,fun a4 h4=>?_⟩;obtain⟨G4,qN,g4,e4⟩:=Zq (o:=.tup [.str "yes"]) h4;rw[qN];refine⟨sz1,fun a5 h5=>?_⟩;obtain⟨G5,qN,g5,e5⟩:=Zq (o:=.tup [.str "yes"]) h5;rw[qN];refine⟨sz2,fun a6 h6=>?_⟩;obtain⟨G6,qN,g6,e6⟩:=Zq (o:=.tup [.str "not",.ref a5]) h6;rw[qN];refine⟨sz2,fun a7 h7=>?_⟩;obtain⟨G7,qN,g7,e7⟩:=Zq (o:=.tup [.str "sign",.str "b"]) h7;rw[qN];refine⟨sz6,fun L hL=>?_⟩;obtain⟨G8,qN,g8,e8⟩:=Zq (o:=.lst [.ref a1,.ref a2,.ref a3,.ref a4,.ref a6,.ref a7]) hL;rw[qN];have hi0:=kl x (show(6:Int)≠0 by decide);have hi1:=kn x (show(0:Int)<6 by decide);obtain⟨i,ei⟩:∃i:Nat,x%6=((i:Nat):Int):=⟨(x%6).toNat,by omega⟩;have g78:=g7.trans g8;have g68:=g6.trans g78;have g58:=g5.trans g68;have g48:=g4.trans g58;have g38:=g3.trans g48;have g28:=g2.trans g38;have g18:=g1.trans g28;have all6:∀v∈[V.ref a1,.ref a2,.ref a3,.ref a4,.ref a6,.ref a7],∃t,At K 2 G8 v t/\psz t<=2/\∀s∈post t,s∈LF:=fun v hv=>by
   simp only[ic,iK,iL] at hv;rcases hv with rfl|rfl|rfl|rfl|rfl|rfl
   ·exact⟨_,W4 (lh (g28 _ _ e1)) (by decide +kernel),by decide +kernel,fun s hs=>V4 hs (by unfold LF nNo ZO;simp)⟩
   ·exact⟨_,W4 (lh (g38 _ _ e2)) (by decide +kernel),by decide +kernel,fun s hs=>V4 hs (by unfold LF nNo ZO;simp)⟩
   ·exact⟨_,W4 (lh (g48 _ _ e3)) (by decide +kernel),by decide +kernel,fun s hs=>V4 hs (by unfold LF nNo ZO;simp)⟩
   ·exact⟨_,Xb (lh (g58 _ _ e4)),by decide +kernel,fun s hs=>V4 hs (by unfold LF nNo ZO;simp)⟩
   ·exact⟨_,ZZ (lh (g78 _ _ e6)) (by decide +kernel) (Xb (lh (g68 _ _ e5))),by decide +kernel,fun s hs=>V4 hs (by unfold LF nNo ZO;simp)⟩
   ·exact⟨_,W4 (lh (g8 _ _ e7)) (by decide +kernel),by decide +kernel,fun s hs=>V4 hs (by unfold LF nNo ZO;simp)⟩
  have l6:[V.ref a1,.ref a2,.ref a3,.ref a4,.ref a6,.ref a7].length=6:=rfl;generalize [V.ref a1,.ref a2,.ref a3,.ref a4,.ref a6,.ref a7]=xs at e8 all6 l6;have hi:i<xs.length:=by omega
  obtain⟨t,at8,sz,slf⟩:=all6 _ (jr hi);refine⟨_,rfl,_,_,rfl,rfl,by decide,L,xs,_,xs[i],rfl,rfl,ll e8,by rw[ei];exact Zk (gZ hi),k G8 _ t g18 at8 sz slf⟩
theorem pickL{α β:Type}{R:α->β->Prop}:∀{ys:List α},(∀y∈ys,∃z,R y z)->∃zs:List β,zs.length=ys.length/\∀(i:Nat) y z,ys[i]?=some y->zs[i]?=some z->R y z
 |[],_=>⟨[],rfl,fun i y z h=>by simp at h⟩
 |y::ys,h=>by
  obtain⟨z,hz⟩:=h y (by simp);obtain⟨zs,h1,h2⟩:=pickL (ys:=ys) fun y hy=>h y (hU _ hy);refine⟨z::zs,by rw[iA,iA,h1],fun i y' z' e1 e2=>?_⟩;cases i with
  |zero=>cases e1;cases e2;exact hz
  |succ i=>exact h2 i y' z' e1 e2
def vd(K:W.Frag)(a:Adr):Sp:=fun vs H Q _=>∃(w:Str) (l:Addr) (x:Int) (us:List V) (n:Nat) (P:Tr->Prop),vs=[.str w,.ref l,.int x]/\H l=some (.lst us)/\us≠[]/\us.length<=100/\(w = "and" \/ w = "or")/\(∀u∈us,∃t,At K n H u t/\P t)/\∀H' q t,Za H H'->At K (n+1) H' (.ref q) t->(∀k∈t.ks,P k)->Q (.ref q) H'
theorem xf(T:Txt K mg a)(hw:w.params=a.Pm):Yq P w K mg base CX0 1 a._law_row a.cI gR (vd K a):=by
 refine T.d8.ok Vk (fun vs H Q E h=>?_) (fun gF A outer s H vs Q E hr h=>?_)
 ·obtain⟨w,l,x,us,n,P,rfl,_⟩:=h;rfl
 ·obtain⟨w,l,x,us,n,P,rfl,hl,hne,hul,hw2,hat,k⟩:=h;refine⟨_,(@Zb _ _ _ _ _ (@Zr _ _ (3) _ _ _ _ Vk.nd rfl (Or.inl rfl) (@ZA _ _ _ _ _ _ _ (Zz (K:=K) rfl) (@ZT _ _ _ _ (@ZD _ _ _ _ _ Zh (@ZD _ _ _ _ _ Zh (@ZD _ _ _ _ _ Zh (@ZD _ _ _ _ _ Zh (@ZD _ _ _ _ _ Zh (@ZD _ _ _ _ _ Zh (@ZD _ _ _ _ _ Zh (@Ym _ _ _ Zh (by rfl)) (by rfl)) (by rfl)) (by rfl)) (by rfl)) (by rfl)) (by rfl)) (by rfl))) (@ZE _ _ _ _ _ _ _ _ Xx (pv 2) Zh) (fun _ _=>rfl)) (by rfl) (.inl rfl)) (@Zb _ _ _ _ _ (U7 (i:=4) Vk.nd rfl rfl (Nc:=gN) (ix:=[none,some 1,some 2]) (YJ.of (by decide +kernel:Xo (Zi Y9) ["_law_word", "_law_some", "_law_x", "_law_many", "_law_row_here"] ["_law_k", "_law_some", "_law_x"] [none,some 1,some 2] _=true)) rfl (UN rfl T.fz (@Zc _ _ _ (pv 3) (by rfl))) (fun _ _ _ _ _=>(ZY (i:=0) (show List.Nodup gN by decide +kernel) rfl (Or.inl rfl))) (fun _ _ _ _ _=>WB) (fun _ _ _ _ _=>(@ZA _ _ _ _ _ _ _ (Zz (K:=K) rfl) (pv 1) (@ZE _ _ _ _ _ _ _ _ Xx (@ZE _ _ _ _ _ _ _ _ WA (pv 2) (@ZE _ _ _ _ _ _ _ _ Yy Zh (@ZE _ _ _ _ _ _ _ _ VQ Zh (pv 0)))) (ZB (ZK (K:=K) rfl) rfl T.bL lr (@Zc _ _ _ (pv 1) (by rfl)))) (fun _ _=>rfl)))) (@Zg _ _ _ (@Zo _ _ _ _ (@Zj _ _ _ _ _ (@Zd _ _ _ _ _ (pv 0) (@Zc _ _ _ (YD (XA (K:=K) rfl) rfl T.cO lv (@Zc _ _ _ (pv 4) (by rfl))) (by rfl)) (by rfl))))))),?_⟩;have sz2:2<=sizeLine:=by rw[gU];decide
  refine⟨sz8,fun A hA=>?_⟩;obtain⟨H1,qN,s1,e1⟩:=Zq (o:=.lst [.int 0,.int 1,.int 2,.int 3,.int 2,.int 4,.int 6,.int 8]) hA;rw[qN];have all8:∀v∈[V.int 0,.int 1,.int 2,.int 3,.int 2,.int 4,.int 6,.int 8],∃m:Nat,v=.int (m:Nat)/\m<=8:=fun v hv=>by
   simp only[ic,iK,iL] at hv;rcases hv with rfl|rfl|rfl|rfl|rfl|rfl|rfl|rfl
   ·exact⟨0,rfl,by decide⟩
   ·exact⟨1,rfl,by decide⟩
   ·exact⟨2,rfl,by decide⟩
   ·exact⟨3,rfl,by decide⟩
   ·exact⟨2,rfl,by decide⟩
   ·exact⟨4,rfl,by decide⟩
   ·exact⟨6,rfl,by decide⟩
   ·exact⟨8,rfl,by decide⟩
  have l8:[V.int 0,.int 1,.int 2,.int 3,.int 2,.int 4,.int 6,.int 8].length=8:=rfl;generalize [V.int 0,.int 1,.int 2,.int 3,.int 2,.int 4,.int 6,.int 8]=xs at e1 all8 l8;obtain⟨_,v0,hv0,hm0⟩:=UT (ts:=xs) x (by intro z;rw[z] at l8;cases l8);rw[l8] at hv0;obtain⟨m,rfl,hm8⟩:=all8 _ hm0;refine⟨_,rfl,_,_,rfl,rfl,by decide,A,xs,_,_,rfl,rfl,ll e1,hv0,?_⟩;refine⟨_,rfl,_,rfl,by omega,by omega,fun D hD=>?_⟩;rw[kF];refine vR hD (by rw[gU];omega) (fun _ v _=>v∈us) (fun _ v _ _ _ q=>q) ?_ ?_
  ·intro j G N hj sG hN;have hlG:=(s1.trans sG) _ _ hl;obtain⟨u0,vj,hvj,hmj⟩:=UT (ts:=us) (x/(8+5*(j:Nat))) hne;refine⟨_,rfl,_,rfl,_,rfl,_,_,rfl,rfl,.inl ⟨by decide,by decide⟩,_,_,rfl,rfl,_,_,rfl,rfl,⟨by omega,by omega⟩,_,rfl,.inl ⟨l,_,rfl,.inl (ll hlG),_,_,rfl,rfl,by omega,l,us,_,_,rfl,rfl,ll hlG,hvj,hN _ _ (.refl _) hmj⟩⟩
  intro G ys eD sG ly r;have r':∀y∈ys,∃t,At K n G y t/\P t:=fun y hy=>by
   obtain⟨i,hi⟩:=jL.mp hy;obtain⟨t,ht⟩:=hat y (r i y hi);exact⟨t,ht.1.mono (lg (s1.trans sG)),ht.2⟩
  obtain⟨ks,lk,hk⟩:=pickL r';refine⟨_,rfl,_,rfl,D,_,rfl,.inl ⟨ll eD,fun tt htt=>?_⟩⟩;obtain⟨G1,qN,g1,e2⟩:=Zq (o:=.tup ys) htt;rw[qN];refine⟨sz2,fun q hq=>?_⟩;obtain⟨G2,qN,g2,e3⟩:=Zq (o:=.tup [.str w,.ref tt]) hq;rw[qN];exact k G2 q _ (s1.trans (sG.trans (g1.trans g2))) (XV (ks:=ks) (lh e3) (lh (g2 _ _ e2)) ⟨lk.symm,fun i u kk h1 h2=>(hk i u kk h1 h2).1.mono (lg (g1.trans g2))⟩ hw2 (by omega)) fun kk hkk=>by
   obtain⟨i,hi,e⟩:=jd hkk;have hi':i<ks.length:=hi;have e':ks[i]?=some kk:=by rw[<- e];exact gZ hi'
   exact(hk i _ kk (gZ (by omega)) e').2
def WS:List Str:=["not", "and", "or", "next", "until", "always", "ever", "within", "before", "since", "once", "sofar", "all", "some"]
def yO(K:W.Frag)(a:Adr):Sp:=fun vs H Q _=>∃(x:Int) (l wl:Addr) (us:List V) (n:Nat) (P:Tr->Prop),vs=[.int x,.ref l,.ref wl]/\H l=some (.lst us)/\us≠[]/\us.length<=100/\H wl=some (.lst (WS.map V.str))/\(∀u∈us,∃t,At K n H u t/\P t)/\∀H' q t,Za H H'->At K (n+1) H' (.ref q) t->(∀k∈t.ks,P k)->Q (.ref q) H'
theorem y9(T:Txt K mg a)(hw:w.params=a.Pm):Yq P w K mg base CX0 2 a._law_step a.cc gS (yO K a):=by
 have gb:=xf (P:=P) (w:=w) (base:=base) T hw;refine T.dB.ok Wf (fun vs H Q E h=>?_) (fun gF A outer s H vs Q E hr h=>?_)
 ·obtain⟨x,l,wl,us,n,P,rfl,_⟩:=h;rfl
 ·obtain⟨x,l,wl,us,n,P,rfl,hl,hne,hul,hwl,hat,k⟩:=h;refine⟨_,(@Zb _ _ _ _ _ (@Zr _ _ (3) _ _ _ _ Wf.nd rfl (Or.inl rfl) (@ZA _ _ _ _ _ _ _ (Zz (K:=K) rfl) (pv 1) (@ZE _ _ _ _ _ _ _ _ Xx (@ZE _ _ _ _ _ _ _ _ WA (pv 0) Zh) (ZB (ZK (K:=K) rfl) rfl T.bL lr (@Zc _ _ _ (pv 1) (by rfl)))) (fun _ _=>rfl)) (by rfl) (.inl rfl)) (@Zb _ _ _ _ _ (@Zr _ _ (4) _ _ _ _ Wf.nd rfl (Or.inl rfl) (@ZA _ _ _ _ _ _ _ (Zz (K:=K) rfl) (pv 1) (@ZE _ _ _ _ _ _ _ _ Xx (@ZE _ _ _ _ _ _ _ _ WA (pv 0) Zh) (ZB (ZK (K:=K) rfl) rfl T.bL lr (@Zc _ _ _ (pv 1) (by rfl)))) (fun _ _=>rfl)) (by rfl) (.inl rfl)) (@Zb _ _ _ _ _ (@Zr _ _ (5) _ _ _ _ Wf.nd rfl (Or.inl rfl) (@ZA _ _ _ _ _ _ _ (Zz (K:=K) rfl) (pv 2) (@ZE _ _ _ _ _ _ _ _ Xx (pv 0) (ZB (ZK (K:=K) rfl) rfl T.bL lr (@Zc _ _ _ (pv 2) (by rfl)))) (fun _ _=>rfl)) (by rfl) (.inl rfl)) (@Zb _ _ _ _ _ (@ZI _ _ _ _ _ _ _ _ (PW.pt (X9 (@Zm _ _ _ _ _ _ _ _ ZL (pv 5) Ze (Zs _)) (XG (@Zm _ _ _ _ _ _ _ _ ZL (pv 5) Ze (Zs _))))) (@Zg _ _ _ (@Zo _ _ _ _ (@Zj _ _ _ _ _ (@ZD _ _ _ _ _ (pv 5) (@ZD _ _ _ _ _ (pv 3) (@Ym _ _ _ (pv 4) (by rfl)) (by rfl)) (by rfl))))) Zt) (@Zb _ _ _ _ _ (@ZI _ _ _ _ _ _ _ _ (@Zm _ _ _ _ _ _ _ _ ZL (pv 5) Ze (Zs _)) (@Zg _ _ _ (@Zo _ _ _ _ (@Zj _ _ _ _ _ (@ZD _ _ _ _ _ (pv 5) (@ZD _ _ _ _ _ (@ZE _ _ _ _ _ _ _ _ Xx (@ZE _ _ _ _ _ _ _ _ WA (pv 0) Zh) Zh) (@ZD _ _ _ _ _ (pv 3) (@Ym _ _ _ (pv 4) (by rfl)) (by rfl)) (by rfl)) (by rfl))))) Zt) (@Zb _ _ _ _ _ (@ZI _ _ _ _ _ _ _ _ (PW.pt (X9 (@Zm _ _ _ _ _ _ _ _ ZL (pv 5) Ze (Zs _)) (XG (@Zm _ _ _ _ _ _ _ _ ZL (pv 5) Ze (Zs _))))) (@Zg _ _ _ (@Zo _ _ _ _ (Zp gb (hr.mono (by decide)) rfl T.fm T.d8.kp T.fk .nil Zw (@ZD _ _ _ _ _ (pv 5) (@ZD _ _ _ _ _ (pv 1) (@Ym _ _ _ (@ZE _ _ _ _ _ _ _ _ WA (pv 0) Zh) (by rfl)) (by rfl)) (by rfl))))) Zt) (@Zg _ _ _ (@Zo _ _ _ _ (@Zj _ _ _ _ _ (@Zd _ _ _ _ _ (pv 5) (@Zc _ _ _ (pv 3) (by rfl)) (by rfl))))))))))),?_⟩;have sz2:2<=sizeLine:=by rw[gU];decide
  have sz3:3<=sizeLine:=by rw[gU];decide
  have sz4:4<=sizeLine:=by rw[gU];decide
  obtain⟨u0,v1,hv1,hm1⟩:=UT (ts:=us) (x/64) hne;obtain⟨_,v2,hv2,hm2⟩:=UT (ts:=us) (x/1024) hne;obtain⟨_,v3,hv3,hm3⟩:=UT (ts:=WS.map V.str) x (by decide +kernel);obtain⟨w,hw3,rfl⟩:=ik.mp hm3;obtain⟨t1,at1,p1'⟩:=hat _ hm1;obtain⟨t2,at2,p2'⟩:=hat _ hm2;refine⟨_,rfl,_,rfl,_,_,rfl,rfl,⟨by decide,by decide⟩,_,rfl,.inl ⟨l,_,rfl,.inl (ll hl),_,_,rfl,rfl,by omega,l,us,_,_,rfl,rfl,ll hl,hv1,?_⟩⟩;refine⟨_,rfl,_,rfl,_,_,rfl,rfl,⟨by decide,by decide⟩,_,rfl,.inl ⟨l,_,rfl,.inl (ll hl),_,_,rfl,rfl,by omega,l,us,_,_,rfl,rfl,ll hl,hv2,?_⟩⟩;refine⟨_,rfl,_,rfl,_,rfl,.inl ⟨wl,_,rfl,.inl (ll hwl),_,_,rfl,rfl,by decide +kernel,wl,_,_,_,rfl,rfl,ll hwl,hv3,?_⟩⟩;have ew:∀{z:Str},decide (V.str w=V.str z)=true->w=z:=fun c=>V.str.inj (iz c);have nw:∀{z:Str},¬decide (V.str w=V.str z)=true->w≠z:=fun c e=>c (by rw[e];exact hX rfl);have pq:∀kk∈[t1,t2],P kk:=fun kk hkk=>by
   simp only[ic,iK,iL] at hkk;rcases hkk with rfl|rfl<;>assumption
  have row3:∀q,H q=none->w∈W2->Q (.ref q) (upd H q (.tup [.str w,v1,v2])):=fun q hq hw=>by
   obtain⟨H1,qN,s1,e1⟩:=Zq (o:=.tup [.str w,v1,v2]) hq;rw[qN];exact k H1 q _ s1 (V3 (lh e1) hw (at1.mono (lg s1)) (at2.mono (lg s1))) pq
  refine⟨_,rfl,rfl,_,rfl,Xv (fun c=>?_) (fun c=>?_)⟩
  ·refine Xh ⟨_,rfl,_,rfl,_,rfl,sz3,fun q hq=>row3 q hq ?_⟩;rw[ew c];decide +kernel
  refine⟨_,rfl,rfl,_,rfl,Xv (fun c'=>?_) (fun c'=>?_)⟩
  ·refine⟨_,rfl,_,rfl,_,rfl,sz3,fun q hq=>row3 q hq ?_⟩;rw[ew c'];decide +kernel
  refine⟨_,rfl,rfl,_,rfl,Xv (fun c3=>?_) (fun c3=>?_)⟩
  ·have e:=ew c3;subst e;have h0:=kl (x/16384) (show(4:Int)≠0 by decide);have h1:=kn (x/16384) (show(0:Int)<4 by decide);refine⟨_,rfl,_,rfl,_,_,rfl,rfl,⟨by decide,by decide⟩,_,_,rfl,rfl,by decide,_,rfl,_,rfl,sz4,fun q hq=>?_⟩;obtain⟨H1,qN,s1,e1⟩:=Zq (o:=.tup [.str "within",.int (x/16384%4),v1,v2]) hq;rw[qN];exact k H1 q _ s1 (at_wit (lh e1) ⟨by omega,by omega⟩ (at1.mono (lg s1)) (at2.mono (lg s1))) pq
  have rowN:(w = "and" \/ w = "or")->∃(w':Str) (l':Addr) (x':Int) (us':List V) (n':Nat) (P':Tr->Prop),([.str w,.ref l,.int (x/64)]:List V)=[.str w',.ref l',.int x']/\H l'=some (.lst us')/\us'≠[]/\us'.length<=100/\(w' = "and" \/ w' = "or")/\(∀u∈us',∃t,At K n' H u t/\P' t)/\∀H' q t,Za H H'->At K (n'+1) H' (.ref q) t->(∀k∈t.ks,P' k)->Q (.ref q) H':=fun h=>⟨w,l,x/64,us,n,P,rfl,hl,hne,hul,h,hat,k⟩;refine⟨_,rfl,rfl,_,rfl,Xv (fun c4=>?_) (fun c4=>?_)⟩
  ·exact Xh ⟨_,rfl,_,rfl,_,rfl,_,_,rfl,rfl,⟨by decide,by decide⟩,rowN (.inl (ew c4))⟩
  refine⟨_,rfl,rfl,_,rfl,Xv (fun c5=>?_) (fun c5=>?_)⟩
  ·exact⟨_,rfl,_,rfl,_,rfl,_,_,rfl,rfl,⟨by decide,by decide⟩,rowN (.inr (ew c5))⟩
  refine⟨_,rfl,_,rfl,sz2,fun q hq=>?_⟩;obtain⟨H1,qN,s1,e1⟩:=Zq (o:=.tup [.str w,v1]) hq;rw[qN];refine k H1 q _ s1 (ZZ (lh e1) ?_ (at1.mono (lg s1))) (fun kk hkk=>by rw[iW.mp hkk];exact p1');have n1:=nw c;have n2:=nw c';have n3:=nw c3;have n4:=nw c4;have n5:=nw c5;simp only[WS,ic,iK,iL] at hw3;rcases hw3 with rfl|rfl|rfl|rfl|rfl|rfl|rfl|rfl|rfl|rfl|rfl|rfl|rfl|rfl<;>first|exact absurd rfl n1|exact absurd rfl n2|exact absurd rfl n3|exact absurd rfl n4|exact absurd rfl n5|decide +kernel
theorem qr:∀z:List Nat,(z.map fun n:Nat=>(n:Int)).sum=((z.sum:Nat):Int)
 |[]=>rfl
 |x::z=>by
  rw[g9,iD,iD,qr z];omega
theorem xI{L:Int}{n:Nat}(h:L=n):(if L-1>0 then L-1 else 0)=((n-1:Nat):Int):=by
 split<;>omega
def W9(n:Nat)(K:W.Frag)(a:Adr):Sp:=fun vs H Q _=>∃v t m,vs=[v]/\m<n/\At K m H v t/\∀H',Za H H'->Q (.int ((cz t:Nat):Int)) H'
theorem Uy{K:W.Frag}{a:Adr}{vs:List V}{H:Hp}{Q:VK}{E:XK}(h:W9 0 K a vs H Q E):False:=by
 obtain⟨_,_,m,_,hm,_⟩:=h;omega
theorem Uo(T:Txt K mg a)(hw:w.params=a.Pm):∀n:Nat,Yq P w K mg base CX0 (1+n) a._law_size a.ce ["_law_sentence"] (W9 n K a):=by
 intro n
 induction n with
 |zero=>exact⟨fun _ _ _ _ h=>(Uy h).elim,fun _ _ _ _ _ _ _ _ _ _ _ _ _ h=>(Uy h).elim⟩
 |succ n ak=>
  refine T.aj.ok XI (fun vs H Q E h=>?_) (fun gF A outer s H vs Q E hr h=>?_)
  ·obtain⟨v,t,m,rfl,_⟩:=h;rfl
  ·obtain⟨v,t,m,rfl,hm,hat,k⟩:=h;refine⟨_,(@Zb _ _ _ _ _ (@Zr _ _ (1) _ _ _ _ XI.nd rfl (Or.inl rfl) (@ZA _ _ _ _ _ _ _ (ZJ (K:=K) rfl) (pv 0) Zh (fun _ _=>rfl)) (by rfl) (.inl rfl)) (@Zb _ _ _ _ _ (@ZI _ _ _ _ _ _ _ _ (PW.pt (X9 (@Zm _ _ _ _ _ _ _ _ ZL (pv 1) Ze (Zs _)) (XG (@Zm _ _ _ _ _ _ _ _ ZL (pv 1) Ze (Zs _))))) (@Zg _ _ _ (@Zo _ _ _ _ Zh)) Zt) (@Zb _ _ _ _ _ (@ZI _ _ _ _ _ _ _ _ (PW.pt (X9 (@Zm _ _ _ _ _ _ _ _ ZL (pv 1) Ze (Zs _)) (XG (@Zm _ _ _ _ _ _ _ _ ZL (pv 1) Ze (Zs _))))) (@Zb _ _ _ _ _ (U7 (i:=2) XI.nd rfl rfl (Nc:=gK) (ix:=[none]) (YJ.of (by decide +kernel:Xo (Zi YU) ["_law_sentence", "_law_word", "_law_sizes", "_law_one", "_law_other"] ["_law_one"] [none] _=true)) rfl (pi_tup (@ZA _ _ _ _ _ _ _ (ZJ (K:=K) rfl) (pv 0) Zh (fun _ _=>rfl))) (fun _ _ _ _ _=>(ZY (i:=0) (show List.Nodup gK by decide +kernel) rfl (Or.inl rfl))) (fun _ _ _ _ _=>WB) (fun _ _ _ _ _=>(Zp ak hr rfl T.av T.aj.kp T.aq .nil Zw (@Zc _ _ _ (pv 0) (by rfl))))) (@Zb _ _ _ _ _ (@ZI _ _ _ _ _ _ _ _ (@Zm _ _ _ _ _ _ _ _ ZL (pv 1) Ze (Zs _)) (@Zg _ _ _ (@Zo _ _ _ _ (@ZE _ _ _ _ _ _ _ _ Yy (@ZE _ _ _ _ _ _ _ _ Yy (ZB (zE (K:=K) rfl rfl) rfl T.gu PyProof.Rows.Boot.«sum» (@Zc _ _ _ (pv 2) (by rfl))) (ZB (yg rfl) rfl T.gj lz (@Zd _ _ _ _ _ Zh (@Zc _ _ _ (@ZE _ _ _ _ _ _ _ _ op_sub (ZB (ZK (K:=K) rfl) rfl T.bL lr (@Zc _ _ _ (pv 2) (by rfl))) Zh) (by rfl)) (by rfl)))) (YD (zQ) rfl T.gi lp (@Zc _ _ _ (@Xk _ _ _ _ _ _ _ _ (ql (K:=K) rfl (YN.units hr)) (pv 2) (@ZT _ _ _ _ Y2) (Zs _)) (by rfl)))))) Zt) (@Zg _ _ _ (@Zo _ _ _ _ (@ZE _ _ _ _ _ _ _ _ Yy (@ZE _ _ _ _ _ _ _ _ Yy (ZB (zE (K:=K) rfl rfl) rfl T.gu PyProof.Rows.Boot.«sum» (@Zc _ _ _ (pv 2) (by rfl))) (@ZE _ _ _ _ _ _ _ _ VQ Zh (ZB (yg rfl) rfl T.gj lz (@Zd _ _ _ _ _ Zh (@Zc _ _ _ (@ZE _ _ _ _ _ _ _ _ op_sub (ZB (ZK (K:=K) rfl) rfl T.bL lr (@Zc _ _ _ (pv 2) (by rfl))) Zh) (by rfl)) (by rfl))))) (@ZE _ _ _ _ _ _ _ _ VQ Zh (YD (zQ) rfl T.gi lp (@Zc _ _ _ (@Xk _ _ _ _ _ _ _ _ (ql (K:=K) rfl (YN.units hr)) (pv 2) (@ZT _ _ _ _ Y2) (Zs _)) (by rfl))))))))) Zt) (@Zb _ _ _ _ _ (@ZI _ _ _ _ _ _ _ _ (@Zm _ _ _ _ _ _ _ _ ZL (pv 1) Ze (Zs _)) (@Zb _ _ _ _ _ (@Zr _ _ (3) _ _ _ _ XI.nd rfl (Or.inl rfl) (Zp ak hr rfl T.av T.aj.kp T.aq .nil Zw (@Zc _ _ _ (@ZA _ _ _ _ _ _ _ (ZJ (K:=K) rfl) (pv 0) Zh (fun _ _=>rfl)) (by rfl))) (by rfl) (.inl rfl)) (@Zb _ _ _ _ _ (@Zr _ _ (4) _ _ _ _ XI.nd rfl (Or.inl rfl) (Zp ak hr rfl T.av T.aj.kp T.aq .nil Zw (@Zc _ _ _ (@ZA _ _ _ _ _ _ _ (ZJ (K:=K) rfl) (pv 0) Zh (fun _ _=>rfl)) (by rfl))) (by rfl) (.inl rfl)) (@Zg _ _ _ (@Zo _ _ _ _ (@ZE _ _ _ _ _ _ _ _ Yy (pv 4) (@ZE _ _ _ _ _ _ _ _ VQ (@ZA _ _ _ _ _ _ _ (ZJ (K:=K) rfl) (pv 0) Zh (fun _ _=>rfl)) (@ZE _ _ _ _ _ _ _ _ Yy (@ZE _ _ _ _ _ _ _ _ Yy (pv 3) (pv 4)) Zh))))))) Zt) (@Zb _ _ _ _ _ (@ZI _ _ _ _ _ _ _ _ (PW.pt (X9 (@Zm _ _ _ _ _ _ _ _ ZL (pv 1) Ze (Zs _)) (XG (@Zm _ _ _ _ _ _ _ _ ZL (pv 1) Ze (Zs _))))) (@Zg _ _ _ (@Zo _ _ _ _ (@ZE _ _ _ _ _ _ _ _ Yy (@ZE _ _ _ _ _ _ _ _ Yy Zh (Zp ak hr rfl T.av T.aj.kp T.aq .nil Zw (@Zc _ _ _ (@ZA _ _ _ _ _ _ _ (ZJ (K:=K) rfl) (pv 0) Zh (fun _ _=>rfl)) (by rfl)))) (Zp ak hr rfl T.av T.aj.kp T.aq .nil Zw (@Zc _ _ _ (@ZA _ _ _ _ _ _ _ (ZJ (K:=K) rfl) (pv 0) Zh (fun _ _=>rfl)) (by rfl)))))) Zt) (@Zb _ _ _ _ _ (@ZI _ _ _ _ _ _ _ _ (PW.pt (X9 (@Zm _ _ _ _ _ _ _ _ ZL (pv 1) Ze (Zs _)) (XG (@Zm _ _ _ _ _ _ _ _ ZL (pv 1) Ze (Zs _))))) (@Zg _ _ _ (@Zo _ _ _ _ (@ZE _ _ _ _ _ _ _ _ Yy Zh (Zp ak hr rfl T.av T.aj.kp T.aq .nil Zw (@Zc _ _ _ (@ZA _ _ _ _ _ _ _ (ZJ (K:=K) rfl) (pv 0) Zh (fun _ _=>rfl)) (by rfl)))))) Zt) (@Zb _ _ _ _ _ (@ZI _ _ _ _ _ _ _ _ (PW.pt (X9 (@Zm _ _ _ _ _ _ _ _ ZL (pv 1) Ze (Zs _)) (XG (@Zm _ _ _ _ _ _ _ _ ZL (pv 1) Ze (Zs _))))) (@Zg _ _ _ (@Zo _ _ _ _ (@ZE _ _ _ _ _ _ _ _ Yy Zh (Zp ak hr rfl T.av T.aj.kp T.aq .nil Zw (@Zc _ _ _ (@ZA _ _ _ _ _ _ _ (ZJ (K:=K) rfl) (pv 0) Zh (fun _ _=>rfl)) (by rfl)))))) Zt) (@Zb _ _ _ _ _ (@ZI _ _ _ _ _ _ _ _ (@Zm _ _ _ _ _ _ _ _ ZL (pv 1) Ze (Zs _)) (@Zg _ _ _ (@Zo _ _ _ _ (@ZE _ _ _ _ _ _ _ _ Yy Zh (Zp ak hr rfl T.av T.aj.kp T.aq .nil Zw (@Zc _ _ _ (@ZA _ _ _ _ _ _ _ (ZJ (K:=K) rfl) (pv 0) Zh (fun _ _=>rfl)) (by rfl)))))) Zt) (@Zg _ _ _ (@Zo _ _ _ _ (@ZE _ _ _ _ _ _ _ _ Yy Zh (Zp ak hr rfl T.av T.aj.kp T.aq .nil Zw (@Zc _ _ _ (@ZA _ _ _ _ _ _ _ (ZJ (K:=K) rfl) (pv 0) Zh (fun _ _=>rfl)) (by rfl)))))))))))))),?_⟩;cases m with
   |zero=>exact hat.elim
   |succ m=>
    obtain⟨ad,us,rfl,sh,ok,hl,hq⟩:=hat;have ecz:=zj ok;have kk:∀z:Int,z=((cz t:Nat):Int)->∀H',Za H H'->Q (.int z) H':=fun z e=>by subst e;exact k
    rw[ecz] at kk;clear k ecz;obtain⟨c,ks⟩:=t;simp only[Tr.lb,Tr.ks] at sh ok hl hq kk;cases c with
    |yes=>
     refine⟨_,rfl,ad,_,_,_,rfl,rfl,sh.2,Zk (j:=0) rfl,?_⟩;exact⟨_,rfl,rfl,_,rfl,YH rfl (Xh (kk _ rfl H (.refl _)))⟩
    |sign z=>
     refine⟨_,rfl,ad,_,_,_,rfl,rfl,sh.2,Zk (j:=0) rfl,?_⟩;exact⟨_,rfl,rfl,_,rfl,ZF (fun z=>absurd (V.str.inj z) (by decide +kernel)) ⟨_,rfl,rfl,_,rfl,YH rfl (kk _ rfl H (.refl _))⟩⟩
    |op w=>
     refine⟨_,rfl,ad,_,_,_,rfl,rfl,sh,Zk (j:=0) rfl,?_⟩;rcases ok with⟨hw,h1⟩|⟨hw,h2⟩
     ·obtain⟨kd,rfl⟩:∃kd,ks=[kd]:=by
       match ks,h1 with
       |[m],_=>exact⟨m,rfl⟩
      obtain⟨u,rfl⟩:∃u,us=[u]:=by
       match us,hl with
       |[m],_=>exact⟨m,rfl⟩
      have hu:=hq 0 u kd rfl rfl;simp only[W1,ic,iK,iL] at hw;rcases hw with rfl|rfl|rfl|rfl|rfl|rfl|rfl|rfl|rfl<;>(repeat (refine⟨_,rfl,rfl,_,rfl,ZF (fun z=>absurd (V.str.inj z) (by decide +kernel)) ?_⟩))<;>(try refine⟨_,rfl,rfl,_,rfl,YH rfl ?_⟩)<;>(try refine Xh ?_)<;>refine⟨_,rfl,ad,_,_,_,rfl,rfl,sh,Zk (j:=1) rfl,u,kd,m,rfl,by omega,hu,fun H' s'=>⟨_,_,rfl,rfl,kk _ ?_ H' s'⟩⟩<;>(unfold czF;dsimp only[List.map];repeat (first|rw[if_pos rfl]|rw[if_neg (by decide +kernel)]))<;>simp<;>omega
     ·obtain⟨k1,k2,rfl⟩:∃k1 k2,ks=[k1,k2]:=by
       match ks,h2 with
       |[m,n],_=>exact⟨m,n,rfl⟩
      obtain⟨u1,u2,rfl⟩:∃u1 u2,us=[u1,u2]:=by
       match us,hl with
       |[m,n],_=>exact⟨m,n,rfl⟩
      have hu1:=hq 0 u1 k1 rfl rfl;have hu2:=hq 1 u2 k2 rfl rfl;simp only[W2,ic,iK,iL] at hw;rcases hw with rfl|rfl<;>(repeat (refine⟨_,rfl,rfl,_,rfl,ZF (fun z=>absurd (V.str.inj z) (by decide +kernel)) ?_⟩))<;>refine⟨_,rfl,rfl,_,rfl,YH rfl ?_⟩<;>(try refine Xh ?_)<;>refine⟨_,rfl,ad,_,_,_,rfl,rfl,sh,Zk (j:=1) rfl,u1,k1,m,rfl,by omega,hu1,fun H1 s1=>⟨_,_,rfl,rfl,_,rfl,ad,_,_,_,rfl,rfl,lg s1 _ _ _ sh,Zk (j:=2) rfl,u2,k2,m,rfl,by omega,hu2.mono (lg s1),fun H2 s2=>⟨_,_,rfl,rfl,kk _ ?_ H2 (s1.trans s2)⟩⟩⟩<;>(unfold czF;dsimp only[List.map];repeat (first|rw[if_pos rfl]|rw[if_neg (by decide +kernel)]))<;>simp<;>omega
    |wit d=>
     obtain⟨hd,h2⟩:=ok;obtain⟨k1,k2,rfl⟩:∃k1 k2,ks=[k1,k2]:=by
      match ks,h2 with
      |[m,n],_=>exact⟨m,n,rfl⟩
     obtain⟨u1,u2,rfl⟩:∃u1 u2,us=[u1,u2]:=by
      match us,hl with
      |[m,n],_=>exact⟨m,n,rfl⟩
     have hu1:=hq 0 u1 k1 rfl rfl;have hu2:=hq 1 u2 k2 rfl rfl;refine⟨_,rfl,ad,_,_,_,rfl,rfl,sh,Zk (j:=0) rfl,?_⟩;refine⟨_,rfl,rfl,_,rfl,ZF (fun z=>absurd (V.str.inj z) (by decide +kernel)) ⟨_,rfl,rfl,_,rfl,ZF (fun z=>absurd (V.str.inj z) (by decide +kernel)) ⟨_,rfl,rfl,_,rfl,ZF (fun z=>absurd (V.str.inj z) (by decide +kernel)) ⟨_,rfl,rfl,_,rfl,ZF (fun z=>absurd (V.str.inj z) (by decide +kernel)) ⟨_,rfl,rfl,_,rfl,YH rfl ?_⟩⟩⟩⟩⟩;refine⟨_,rfl,ad,_,_,_,rfl,rfl,sh,Zk (j:=2) rfl,u1,k1,m,rfl,by omega,hu1,fun H1 s1=>?_⟩;refine⟨_,rfl,ad,_,_,_,rfl,rfl,lg s1 _ _ _ sh,Zk (j:=3) rfl,u2,k2,m,rfl,by omega,hu2.mono (lg s1),fun H2 s2=>?_⟩;have sh2:=lg (s1.trans s2) _ _ _ sh;obtain⟨d,rfl⟩:=Int.eq_ofNat_of_zero_le hd.1;refine⟨_,rfl,_,rfl,ad,_,_,_,rfl,rfl,sh2,Zk (j:=1) rfl,_,rfl,_,rfl,_,_,rfl,rfl,_,_,rfl,rfl,_,_,rfl,rfl,.inl ⟨by omega,by omega⟩,_,_,rfl,rfl,kk _ ?_ H2 (s1.trans s2)⟩;unfold czF;dsimp only[List.map,List.getD_cons_zero,List.getD_cons_succ];simp
    |many w=>
     obtain⟨b,sh1,shb⟩:=sh;refine⟨_,rfl,ad,_,_,_,rfl,rfl,sh1,Zk (j:=0) rfl,?_⟩;have zf:(us.zip ks).map (fun e=>e.1)=us:=kQ (by omega);have zs:(us.zip ks).map (fun e=>V.int ((cz e.2:Nat):Int))=(ks.map cz).map (fun z:Nat=>V.int (z:Int)):=by
      have:(us.zip ks).map Prod.snd=ks:=List.map_snd_zip (by omega)
      conv=>rhs;rw[<- this]
      rw[iw,iw];rfl
     refine⟨_,rfl,rfl,_,rfl,ZF (fun z=>absurd (V.str.inj z) (by rcases ok.1 with rfl|rfl<;>decide +kernel)) ⟨_,rfl,rfl,_,rfl,ZF (fun z=>absurd (V.str.inj z) (by rcases ok.1 with rfl|rfl<;>decide +kernel)) ?_⟩⟩;rcases ok with⟨rfl|rfl,h8⟩
     ·refine⟨_,rfl,rfl,_,rfl,YH rfl (Xh ?_)⟩;refine⟨_,rfl,ad,_,_,_,rfl,rfl,sh1,Zk (j:=1) rfl,b,rfl,⟨_,shb⟩,fun D hD=>?_⟩;refine zp (K:=K) (us.zip ks) (fun e=>e.1) (fun e=>V.int ((cz e.2:Nat):Int)) hD (by rw[zf];exact shb) (by rw[j0,gU];omega) ?_ ?_
      ·rintro⟨u,kd⟩ hx G N sG hN;obtain⟨j,hj⟩:=jL.mp hx;rw[jG] at hj;exact⟨_,rfl,u,kd,m,rfl,by omega,(hq j u kd hj.1 hj.2).mono (lg sG),fun H' s'=>hN H' s'⟩
      intro G eD sG;rw[zs] at eD;refine⟨_,rfl,rfl,_,rfl,YH rfl ?_⟩;have eDs:SqL K G D (((ks.map cz).map fun z:Nat=>(z:Int)).map V.int):=by rw[iw];exact ll eD
      refine⟨_,rfl,D,_,rfl,eDs,_,rfl,.inl ⟨D,_,rfl,.inl (ll eD),_,_,rfl,rfl,_,_,rfl,_,_,rfl,rfl,_,rfl,by decide,fun E hE=>?_⟩⟩;obtain⟨G1,qN,g1,eE⟩:=Zq (o:=.lst []) hE;rw[qN];have eDn:G1 D=some (.lst (((ks.map cz).map fun z:Nat=>(z:Int)).map V.int)):=by rw[iw];exact g1 _ _ eD
      refine eqD_nil eDn eE fun c hc=>.inr ⟨c,rfl,_,_,rfl,rfl,kk _ ?_ G1 (sG.trans g1)⟩;unfold czF;dsimp only;rw[if_pos rfl,qr,xI (n:=(ks.map cz).length) (by rw[hJ])]
      by_cases hn:ks.map cz=[]
      ·rw[hn] at hc ⊢;rw[hc.mpr rfl];rfl
      ·rw[if_neg hn,if_neg (fun z=>hn (List.map_eq_nil_iff.mp (hc.mp z)))];omega
     ·refine⟨_,rfl,rfl,_,rfl,ZF (fun z=>absurd (V.str.inj z) (by decide +kernel)) ⟨_,rfl,rfl,_,rfl,YH rfl ?_⟩⟩;refine⟨_,rfl,ad,_,_,_,rfl,rfl,sh1,Zk (j:=1) rfl,b,rfl,⟨_,shb⟩,fun D hD=>?_⟩;refine zp (K:=K) (us.zip ks) (fun e=>e.1) (fun e=>V.int ((cz e.2:Nat):Int)) hD (by rw[zf];exact shb) (by rw[j0,gU];omega) ?_ ?_
      ·rintro⟨u,kd⟩ hx G N sG hN;obtain⟨j,hj⟩:=jL.mp hx;rw[jG] at hj;exact⟨_,rfl,u,kd,m,rfl,by omega,(hq j u kd hj.1 hj.2).mono (lg sG),fun H' s'=>hN H' s'⟩
      intro G eD sG;rw[zs] at eD;refine⟨_,rfl,rfl,_,rfl,ZF (fun z=>absurd (V.str.inj z) (by decide +kernel)) ?_⟩;have eDs:SqL K G D (((ks.map cz).map fun z:Nat=>(z:Int)).map V.int):=by rw[iw];exact ll eD
      refine⟨_,rfl,D,_,rfl,eDs,_,rfl,.inl ⟨D,_,rfl,.inl (ll eD),_,_,rfl,rfl,_,_,rfl,_,_,rfl,rfl,.inl ⟨by decide,by decide⟩,_,_,rfl,rfl,_,rfl,by decide,fun E hE=>?_⟩⟩;obtain⟨G1,qN,g1,eE⟩:=Zq (o:=.lst []) hE;rw[qN];have eDn:G1 D=some (.lst (((ks.map cz).map fun z:Nat=>(z:Int)).map V.int)):=by rw[iw];exact g1 _ _ eD
      refine eqD_nil eDn eE fun c hc=>.inr ⟨c,rfl,_,_,rfl,rfl,.inl ⟨by decide,by decide⟩,_,_,rfl,rfl,kk _ ?_ G1 (sG.trans g1)⟩;unfold czF;dsimp only;rw[qr,xI (n:=(ks.map cz).length) (by rw[hJ]),if_neg (show ¬(("or" : Str) = "and") by decide +kernel)]
      by_cases hn:ks.map cz=[]
      ·rw[hn] at hc ⊢;rw[hc.mpr rfl];rfl
      ·rw[if_neg hn,if_neg (fun z=>hn (List.map_eq_nil_iff.mp (hc.mp z)))];omega
theorem mxf_le:∀(l:List Nat) (b:Nat),((l.map fun n:Nat=>(n:Int)).foldl (fun b y=>if y>b then y else b) (b:Int))=((max b (mx l):Nat):Int)
 |[],b=>by simp[mx]
 |x::l,b=>by
  rw[g9,List.foldl_cons];have e:(if((x:Nat):Int)>(b:Int) then((x:Nat):Int) else(b:Int))=((max b x:Nat):Int):=by
   split<;>omega
  rw[e,mxf_le l (max b x)]
  show _=((max b (max x (mx l)):Nat):Int)
  omega
theorem mxL_hgt(l:List Nat):mxL 0 (l.map fun n:Nat=>(n:Int))=((mx l:Nat):Int):=by
 cases l with
 |nil=>rfl
 |cons x l=>exact mxf_le l x
def We(n:Nat)(K:W.Frag)(a:Adr):Sp:=fun vs H Q _=>∃v t m,vs=[v]/\m<n/\At K m H v t/\∀H',Za H H'->Q (.int ((hgt t:Nat):Int)) H'
theorem Uw{K:W.Frag}{a:Adr}{vs:List V}{H:Hp}{Q:VK}{E:XK}(h:We 0 K a vs H Q E):False:=by
 obtain⟨_,_,m,_,hm,_⟩:=h;omega
theorem yJ(T:Txt K mg a)(hw:w.params=a.Pm):∀n:Nat,Yq P w K mg base CX0 (1+n) a._law_deep a.cf ["_law_sentence"] (We n K a):=by
 intro n
 induction n with
 |zero=>exact⟨fun _ _ _ _ h=>(Uw h).elim,fun _ _ _ _ _ _ _ _ _ _ _ _ _ h=>(Uw h).elim⟩
 |succ n dG=>
  refine T.cN.ok XJ (fun vs H Q E h=>?_) (fun gF A outer s H vs Q E hr h=>?_)
  ·obtain⟨v,t,m,rfl,_⟩:=h;rfl
  ·obtain⟨v,t,m,rfl,hm,hat,k⟩:=h;refine⟨_,(@Zb _ _ _ _ _ (@Zr _ _ (1) _ _ _ _ XJ.nd rfl (Or.inl rfl) (@ZA _ _ _ _ _ _ _ (ZJ (K:=K) rfl) (pv 0) Zh (fun _ _=>rfl)) (by rfl) (.inl rfl)) (@Zb _ _ _ _ _ (@ZI _ _ _ _ _ _ _ _ (PW.pt (X9 (@Zm _ _ _ _ _ _ _ _ ZL (pv 1) Ze (Zs _)) (XG (@Zm _ _ _ _ _ _ _ _ ZL (pv 1) Ze (Zs _))))) (@Zg _ _ _ (@Zo _ _ _ _ Zh)) Zt) (@Zb _ _ _ _ _ (@Zr _ _ (2) _ _ _ _ XJ.nd rfl (Or.inl rfl) (YD (VS (K:=K) rfl rfl) rfl T.fI lx (@Zc _ _ _ (YG (WC (K:=K) rfl) (pv 0) (YQ Zh) Y6) (by rfl))) (by rfl) (.inl rfl)) (@Zb _ _ _ _ _ (@ZI _ _ _ _ _ _ _ _ (PW.pt (X9 (@Zm _ _ _ _ _ _ _ _ ZL (pv 1) Ze (Zs _)) (XG (@Zm _ _ _ _ _ _ _ _ ZL (pv 1) Ze (Zs _))))) (@Zg _ _ _ (@Zr _ _ (2) _ _ _ _ XJ.nd rfl (Or.inl rfl) (YD (VS (K:=K) rfl rfl) rfl T.fI lx (@Zc _ _ _ (@ZA _ _ _ _ _ _ _ (ZJ (K:=K) rfl) (pv 0) Zh (fun _ _=>rfl)) (by rfl))) (by rfl) (.inl rfl))) Zt) (@Zb _ _ _ _ _ (@ZI _ _ _ _ _ _ _ _ (@Zm _ _ _ _ _ _ _ _ ZL (pv 1) Ze (Zs _)) (@Zg _ _ _ (@Zr _ _ (2) _ _ _ _ XJ.nd rfl (Or.inl rfl) (YD (VS (K:=K) rfl rfl) rfl T.fI lx (@Zc _ _ _ (YG (WC (K:=K) rfl) (pv 0) (YQ Zh) Y6) (by rfl))) (by rfl) (.inl rfl))) Zt) (@Zg _ _ _ (@Zo _ _ _ _ (@ZE _ _ _ _ _ _ _ _ Yy Zh (pe_maxD (K:=K) rfl rfl rfl T.gj lz (Ws (Nc:=gK) (ix:=[none]) (YJ.of (by decide +kernel:Xo (Zi YT) ["_law_sentence", "_law_word", "_law_inner"] ["_law_one"] [none] _=true)) rfl (Yr (K:=K) rfl (pv 2)) (fun _ _ _ _ _=>(ZY (i:=0) (show List.Nodup gK by decide +kernel) rfl (Or.inl rfl))) (fun _ _ _ _ _=>WB) (fun _ _ _ _ _=>(Zp dG hr rfl T.dD T.cN.kp T.dC .nil Zw (@Zc _ _ _ (pv 0) (by rfl))))) Zh))))))))),?_⟩;cases m with
   |zero=>exact hat.elim
   |succ m=>
    obtain⟨ad,us,rfl,sh,ok,hl,hq⟩:=hat;have ecz:=UP t;have kk:∀z:Int,z=((hgt t:Nat):Int)->∀H',Za H H'->Q (.int z) H':=fun z e=>by subst e;exact k
    rw[ecz] at kk;clear k ecz;obtain⟨c,ks⟩:=t;simp only[Tr.lb,Tr.ks] at sh ok hl hq kk;have tail:∀(w:Str) (L:Addr) (G:Hp),Za H G->G L=some (.lst us)->tRet (tOp (rI0 fun i j=>V.int (i+j)) (tC (V.int 1)) (tMaxD K (yp (iList K (qe 2)) [none] (Ub 0) zZ (tCall (We n K a) [] E0 (Ui (qe 0) tNil))) (tC (V.int 0)))) { nx:=fun x H'=>Q V.non H',rt:=Q } [some (.ref ad),some (.str w),some (.ref L)] G:=fun w L G g0 eL=>by
     have zf:(us.zip ks).map (fun e=>e.1)=us:=kQ (by omega);have zs:(us.zip ks).map (fun e=>V.int ((hgt e.2:Nat):Int))=((ks.map hgt).map fun z:Nat=>(z:Int)).map V.int:=by
      have:(us.zip ks).map Prod.snd=ks:=List.map_snd_zip (by omega)
      conv=>rhs;rw[<- this]
      rw[iw,iw,iw];rfl
     have l8:=lb_8 ok;refine⟨_,rfl,L,rfl,⟨_,ll eL⟩,fun D hD=>?_⟩;refine Wj (K:=K) (us.zip ks) (fun e=>e.1) (fun e=>V.int ((hgt e.2:Nat):Int)) hD (by rw[zf];exact ll eL) (by rw[j0,gU];omega) ?_ ?_
     ·rintro⟨u,kd⟩ hx G1 N sG hN;obtain⟨j,hj⟩:=jL.mp hx;rw[jG] at hj;exact⟨_,rfl,u,kd,m,rfl,by omega,(hq j u kd hj.1 hj.2).mono (lg (g0.trans sG)),fun H' s'=>hN H' s'⟩
     intro G1 eD sG;rw[zs] at eD;refine⟨D,_,0,rfl,rfl,ll eD,?_⟩;refine⟨_,_,rfl,rfl,kk _ ?_ G1 (g0.trans sG)⟩;rw[mxL_hgt];omega
    cases c with
    |yes=>
     refine⟨_,rfl,ad,_,_,_,rfl,rfl,sh.2,Zk (j:=0) rfl,?_⟩;obtain rfl:ks=[]:=iG.mp ok;exact⟨_,rfl,rfl,_,rfl,YH rfl (Xh (kk _ rfl H (.refl _)))⟩
    |sign z=>
     refine⟨_,rfl,ad,_,_,_,rfl,rfl,sh.2,Zk (j:=0) rfl,?_⟩;obtain rfl:ks=[]:=iG.mp ok.1;exact⟨_,rfl,rfl,_,rfl,ZF (fun z=>absurd (V.str.inj z) (by decide +kernel)) ⟨_,rfl,rfl,_,rfl,YH rfl (kk _ rfl H (.refl _))⟩⟩
    |op w=>
     refine⟨_,rfl,ad,_,_,_,rfl,rfl,sh,Zk (j:=0) rfl,?_⟩;obtain⟨h1,h2,h3,h4,h5⟩:=Vi w (by rcases ok with ok|ok;exact iX _ ok.1;exact iE _ ok.1);have nz:∀{z:Str}{l:List Str},w∉l->z∈l->V.str w≠V.str z:=fun h hz e=>h (by rw[V.str.inj e];exact hz);refine⟨_,rfl,rfl,_,rfl,ZF (nz h5 (by simp)) ⟨_,rfl,rfl,_,rfl,ZF (nz h5 (by simp)) ?_⟩⟩;refine⟨_,rfl,_,rfl,ad,_,rfl,sh,Va (by decide) (by rcases ok with ok|ok<;>simp<;>omega),fun r hr=>?_⟩;rw[Vr];obtain⟨H1,qN,s1,e1⟩:=Zq (o:=.tup us) hr;rw[qN];refine .inl ⟨r,_,rfl,.inr (lh e1),fun L hL=>?_⟩;obtain⟨H2,qN,s2,e2⟩:=Zq (o:=.lst us) hL;rw[qN];refine⟨_,rfl,rfl,_,rfl,ZF (nz h3 (by simp)) ⟨_,rfl,rfl,_,rfl,ZF (nz h3 (by simp)) ?_⟩⟩;exact⟨_,rfl,rfl,_,rfl,ZF (fun z=>h4 (V.str.inj z)) (tail w L H2 (s1.trans s2) e2)⟩
    |wit d=>
     obtain⟨hd,h2⟩:=ok;refine⟨_,rfl,ad,_,_,_,rfl,rfl,sh,Zk (j:=0) rfl,?_⟩;refine⟨_,rfl,rfl,_,rfl,ZF (fun z=>absurd (V.str.inj z) (by decide +kernel)) ⟨_,rfl,rfl,_,rfl,ZF (fun z=>absurd (V.str.inj z) (by decide +kernel)) ?_⟩⟩;refine⟨_,rfl,_,rfl,ad,_,rfl,sh,Va (by decide) (by simp<;>omega),fun r hr=>?_⟩;rw[Vr];obtain⟨H1,qN,s1,e1⟩:=Zq (o:=.tup (.int d::us)) hr;rw[qN];refine .inl ⟨r,_,rfl,.inr (lh e1),fun L hL=>?_⟩;obtain⟨H2,qN,s2,e2⟩:=Zq (o:=.lst (.int d::us)) hL;rw[qN];have s12:=s1.trans s2;refine⟨_,rfl,rfl,_,rfl,ZF (fun z=>absurd (V.str.inj z) (by decide +kernel)) ⟨_,rfl,rfl,_,rfl,ZF (fun z=>absurd (V.str.inj z) (by decide +kernel)) ?_⟩⟩;refine⟨_,rfl,rfl,_,rfl,YH rfl ?_⟩;refine⟨_,rfl,_,rfl,ad,_,rfl,lg s12 _ _ _ sh,Va (by decide) (by simp;omega),fun r2 hr2=>?_⟩;rw[qt];obtain⟨H3,qN,s3,e3⟩:=Zq (o:=.tup us) hr2;rw[qN];refine .inl ⟨r2,_,rfl,.inr (lh e3),fun L2 hL2=>?_⟩;obtain⟨H4,qN,s4,e4⟩:=Zq (o:=.lst us) hL2;rw[qN];exact tail _ L2 H4 (s12.trans (s3.trans s4)) e4
    |many w=>
     obtain⟨b,sh1,shb⟩:=sh;have hw0:w∈(["and", "or"]:List Str):=by rcases ok.1 with rfl|rfl<;>simp
     obtain⟨h1,h2,h3,h4,_⟩:=XR w hw0;have nz:∀{z:Str}{l:List Str},w∉l->z∈l->V.str w≠V.str z:=fun h hz e=>h (by rw[V.str.inj e];exact hz);refine⟨_,rfl,ad,_,_,_,rfl,rfl,sh1,Zk (j:=0) rfl,?_⟩;refine⟨_,rfl,rfl,_,rfl,ZF (nz h4 (by simp)) ⟨_,rfl,rfl,_,rfl,ZF (nz h4 (by simp)) ?_⟩⟩;refine⟨_,rfl,_,rfl,ad,_,rfl,sh1,Va (by decide) (by simp<;>omega),fun r hr=>?_⟩;rw[Vr];obtain⟨H1,qN,s1,e1⟩:=Zq (o:=.tup [.ref b]) hr;rw[qN];refine .inl ⟨r,_,rfl,.inr (lh e1),fun L hL=>?_⟩;obtain⟨H2,qN,s2,e2⟩:=Zq (o:=.lst [.ref b]) hL;rw[qN];have s12:=s1.trans s2;have wn:V.str w≠V.str "within" := by rcases ok.1 with rfl|rfl<;>exact fun z=>absurd (V.str.inj z) (by decide +kernel)
     rcases ok.1 with rfl|rfl
     ·refine⟨_,rfl,rfl,_,rfl,YH rfl (Xh ?_)⟩;refine⟨_,rfl,ad,_,_,_,rfl,rfl,lg s12 _ _ _ sh1,Zk (j:=1) rfl,.inl ⟨b,_,rfl,.inr (lg s12 _ _ _ shb),fun L2 hL2=>?_⟩⟩;obtain⟨H4,qN,s4,e4⟩:=Zq (o:=.lst us) hL2;rw[qN];exact⟨_,rfl,rfl,_,rfl,ZF wn (tail _ L2 H4 (s12.trans s4) e4)⟩
     ·refine⟨_,rfl,rfl,_,rfl,ZF (fun z=>absurd (V.str.inj z) (by decide +kernel)) ⟨_,rfl,rfl,_,rfl,YH rfl ?_⟩⟩;refine⟨_,rfl,ad,_,_,_,rfl,rfl,lg s12 _ _ _ sh1,Zk (j:=1) rfl,.inl ⟨b,_,rfl,.inr (lg s12 _ _ _ shb),fun L2 hL2=>?_⟩⟩;obtain⟨H4,qN,s4,e4⟩:=Zq (o:=.lst us) hL2;rw[qN];exact⟨_,rfl,rfl,_,rfl,ZF wn (tail _ L2 H4 (s12.trans s4) e4)⟩
def KpT(K:W.Frag)(H:Hp)(C:List Tr)(u:V):Prop:=∃t,At K 8 H u t/\cz t<=60/\∀s∈post t,s∈C
def Ul(K:W.Frag)(a:Adr):Sp:=fun vs H Q _=>∃(cl wl:Addr) (ns:List Int),vs=[.ref cl,.ref wl,.int 60]/\H cl=some (.lst (ns.map V.int))/\ns.length<=12/\H wl=some (.lst (WS.map V.str))/\∀H' q us C,Za H H'->H q=none->H' q=some (.lst us)->us.length<=12->(∀u∈us,KpT K H' C u)->C.length<=20->Q (.ref q) H'
theorem Um(T:Txt K mg a)(hw:w.params=a.Pm):Yq P w K mg base CX0 22 a._law_sentences a.bh gT (Ul K a):=by
 have fE:=qB (P:=P) (w:=w) (base:=base) T hw;have dH:=Uk (P:=P) (w:=w) (base:=base) T hw;have fW:=y9 (P:=P) (w:=w) (base:=base) T hw;have ak:=Uo (P:=P) (w:=w) (base:=base) T hw 20;have dG:=yJ (P:=P) (w:=w) (base:=base) T hw 20;refine T.bP.ok Yn (fun vs H Q E h=>?_) (fun gF A outer s H vs Q E hr h=>?_)
 ·obtain⟨cl,wl,ns,rfl,_⟩:=h;rfl
 ·obtain⟨cl,wl,ns,rfl,hcl,hnl,hwl,k⟩:=h;refine⟨_,(@Zb _ _ _ _ _ (@Zr _ _ (3) _ _ _ _ Yn.nd rfl (Or.inl rfl) (@ZT _ _ _ _ (@Zd _ _ _ _ _ (@Zj _ _ _ _ _ (@Zd _ _ _ _ _ Ze (@Zc _ _ _ Ze (by rfl)) (by rfl))) (@Zc _ _ _ (@Zj _ _ _ _ _ (@Zd _ _ _ _ _ Ze (@Zc _ _ _ Ze (by rfl)) (by rfl))) (by rfl)) (by rfl))) (by rfl) (.inl rfl)) (@Zb _ _ _ _ _ (Xw iS rfl (Yr (K:=K) rfl (pv 0)) (ZY (i:=4) Yn.nd rfl (Or.inl rfl)) (@Zb _ _ _ _ _ (@Zr _ _ (5) _ _ _ _ Yn.nd rfl (Or.inl rfl) (Zp fE (hr.mono (by decide)) rfl T.d3 T.cL.kp T.dZ .nil Zw (@Zd _ _ _ _ _ (pv 4) (@Zc _ _ _ Zh (by rfl)) (by rfl))) (by rfl) (.inl rfl)) (@Zb _ _ _ _ _ (@Zr _ _ (6) _ _ _ _ Yn.nd rfl (Or.inl rfl) (Zp dH (hr.mono (by decide)) rfl T.dA T.cM.kp T.dz .nil Zw (@Zc _ _ _ (@ZA _ _ _ _ _ _ _ (Zz (K:=K) rfl) (pv 5) Zh (fun _ _=>rfl)) (by rfl))) (by rfl) (.inl rfl)) (@Zb _ _ _ _ _ (@ZI _ _ _ _ _ _ _ _ (@Zm _ _ _ _ _ _ _ _ op_gt (@ZE _ _ _ _ _ _ _ _ Xx (@ZE _ _ _ _ _ _ _ _ WA (@ZA _ _ _ _ _ _ _ (Zz (K:=K) rfl) (pv 5) Zh (fun _ _=>rfl)) Zh) Zh) Zh (Zs _)) (@Zg _ _ _ (@Zr _ _ (6) _ _ _ _ Yn.nd rfl (Or.inl rfl) (Zp fW (hr.mono (by decide)) rfl T.fc T.dB.kp T.fb .nil Zw (@ZD _ _ _ _ _ (@ZA _ _ _ _ _ _ _ (Zz (K:=K) rfl) (pv 5) Zh (fun _ _=>rfl)) (@ZD _ _ _ _ _ (pv 3) (@Ym _ _ _ (pv 1) (by rfl)) (by rfl)) (by rfl))) (by rfl) (.inl rfl))) Zt) (@Zg _ _ _ (@ZI _ _ _ _ _ _ _ _ (PW.pt (VZ (@Zm _ _ _ _ _ _ _ _ zM (Zp ak (hr.mono (by decide)) rfl T.av T.aj.kp T.aq .nil Zw (@Zc _ _ _ (pv 6) (by rfl))) (pv 2) (Zs _)) (WY (@Zm _ _ _ _ _ _ _ _ zM (Zp dG (hr.mono (by decide)) rfl T.dD T.cN.kp T.dC .nil Zw (@Zc _ _ _ (pv 6) (by rfl))) Zh (Zs _))))) (@Zg _ _ _ (@YA _ _ _ _ (Wx iT i7 i8 Yv (pv 3) (@Zc _ _ _ (pv 6) (by rfl))) (by rfl))) Zt)))))) (@Zg _ _ _ (@Zo _ _ _ _ (YG (WO (K:=K) rfl) (pv 3) (YQ Zh) Y6))))),?_⟩;have sz2:2<=sizeLine:=by rw[gU];decide
  refine⟨sz2,fun b1 hb1=>?_⟩;obtain⟨G1,qN,g1,e1⟩:=Zq (o:=.tup [.str "sign",.str "b"]) hb1;rw[qN];refine⟨sz2,fun b2 hb2=>?_⟩;obtain⟨G2,qN,g2,e2⟩:=Zq (o:=.tup [.str "sign",.str "am"]) hb2;rw[qN];refine⟨sz2,fun S hS=>?_⟩;obtain⟨G3,qN,g3,e3⟩:=Zq (o:=.lst [.ref b1,.ref b2]) hS;rw[qN];have g23:=g2.trans g3;have g13:=g1.trans g23;have S0:H S=none:=(g1.trans g2).free hS;refine⟨_,rfl,cl,rfl,⟨_,ll (g13 _ _ hcl)⟩,?_⟩;refine X3 (K:=K) (xs:=ns.map V.int) (fun i σ H'=>∃(z1 z2 z3:Option V) (us:List V) (C:List Tr),σ=[some (.ref cl),some (.ref wl),some (.int 60),some (.ref S),z1,z2,z3]/\Za H H'/\H' S=some (.lst us)/\2<=us.length/\us.length<=i+2/\(∀u∈us,KpT K H' C u)/\C.length<=i+5/\∀s∈LF,s∈C) ?_ ?_ ?_ ?_
  ·refine⟨_,_,_,[.ref b1,.ref b2],LF,rfl,g13,e3,by simp,by simp,fun u hu=>?_,by simp[LF],fun s h=>h⟩;simp only[ic,iK,iL] at hu;rcases hu with rfl|rfl
   ·exact⟨_,(W4 (n:=7) (lh (g23 _ _ e1)) (by decide +kernel)),by decide +kernel,fun s hs=>V4 hs (by simp[LF])⟩
   ·exact⟨_,(W4 (n:=7) (lh (g3 _ _ e2)) (by decide +kernel)),by decide +kernel,fun s hs=>V4 hs (by simp[LF])⟩
  ·rintro i σ H' hi ⟨z1,z2,z3,us,C,rfl,s',_⟩;exact ll (s' _ _ hcl)
  ·rintro i xv σ H1 hx ⟨z1,z2,z3,us,C,rfl,s1,hS1,l2,lu,kp,lC,hLF⟩;have li:i<ns.length:=by have:=(ib.mp hx).1;rw[hJ] at this;exact this
   obtain⟨nv,hnv,rfl⟩:=ik.mp (iO hx);have tail:∀(z4 z5:Option V) (v:V) (t:Tr) (G:Hp),Za H1 G->At K 9 G v t->(∀s∈post t,s=t\/s∈C)->∀D':Ends,(∀σ H',(∃(z1 z2 z3:Option V) (us:List V) (C:List Tr),σ=[some (.ref cl),some (.ref wl),some (.int 60),some (.ref S),z1,z2,z3]/\Za H H'/\H' S=some (.lst us)/\2<=us.length/\us.length<=i+1+2/\(∀u∈us,KpT K H' C u)/\C.length<=i+1+5/\∀s∈LF,s∈C)->D'.nx σ H')->tIfS (tAnd (tTest (tOp (rI0 fun i j=>V.bl (decide (i<=j))) (tCall (W9 20 K a) [] E0 (Ui (qe 6) tNil)) (qe 2))) (tTest (tOp (rI0 fun i j=>V.bl (decide (i<=j))) (tCall (We 20 K a) [] E0 (Ui (qe 6) tNil)) (tC (V.int 8))))) (tDrop (tBM K "list" yZ (qe 3) (Ui (qe 6) tNil))) tNext D' [some (.ref cl),some (.ref wl),some (.int 60),some (.ref S),z4,z5,some v] G:=fun z4 z5 v t G sG hat hin D' kD=>by
    refine⟨_,rfl,v,t,9,rfl,by decide,hat,fun G1 g1=>⟨_,rfl,_,_,rfl,rfl,_,rfl,Xv (fun c=>?_) (fun c=>?_)⟩⟩
    ·refine⟨_,rfl,v,t,9,rfl,by decide,hat.mono (lg g1),fun G2 g2=>⟨_,_,rfl,rfl,_,rfl,Xv (fun c'=>?_) (fun c'=>?_)⟩⟩
     ·have h60:cz t<=60:=by have:=iz c;omega
      have h8:hgt t<=8:=by have:=iz c';omega
      have s2:=(sG.trans g1).trans g2;have hS2:=s2 _ _ hS1;refine⟨_,rfl,.inl ⟨rfl,_,ll hS2⟩,_,rfl,S,_,_,rfl,rfl,hS2,by rw[gU];omega,?_⟩;have x3:Zx S G2 (upd G2 S (.lst (us++[v]))):=(Zx.refl G2).upd;have u3:Yk G2 (upd G2 S (.lst (us++[v]))):=Zx.tup x3 hS2;have e3:(upd G2 S (.lst (us++[v]))) S=some (.lst (us++[v])):=Zf;have s3:Za H (upd G2 S (.lst (us++[v]))):=((Za.x (s1.trans s2)).upd).same S0;generalize upd G2 S (.lst (us++[v]))=G3 at x3 u3 e3 s3 ⊢;refine kD _ _ ⟨_,_,_,us++[v],t::C,rfl,s3,e3,by simp;omega,by simp;omega,fun u hu=>?_,by simp;omega,fun s hs=>hU _ (hLF s hs)⟩;rcases iH.mp hu with hu|hu
      ·obtain⟨t',h1,h2,h3⟩:=kp u hu;exact⟨t',h1.mono ((lg s2).trans u3),h2,fun s hs=>hU _ (h3 s hs)⟩
      ·rw[iW.mp hu];exact⟨t,(hat.mono ((lg (g1.trans g2)).trans u3)).fit h8,h60,fun s hs=>by
        rcases hin s hs with e|e
        ·rw[e];simp
        ·exact hU _ e⟩
     ·have s2:=(sG.trans g1).trans g2;exact kD _ _ ⟨_,_,_,us,C,rfl,s1.trans s2,s2 _ _ hS1,l2,by omega,fun u hu=>by
       obtain⟨t',h1,h2,h3⟩:=kp u hu;exact⟨t',h1.mono (lg s2),h2,h3⟩,by omega,hLF⟩
    ·have s2:=sG.trans g1;exact Yi (kD _ _ ⟨_,_,_,us,C,rfl,s1.trans s2,s2 _ _ hS1,l2,by omega,fun u hu=>by
       obtain⟨t',h1,h2,h3⟩:=kp u hu;exact⟨t',h1.mono (lg s2),h2,h3⟩,by omega,hLF⟩)
   refine⟨_,rfl,nv,2,rfl,by decide,fun H2 X ms s2 X0 eX lX=>?_⟩;obtain⟨m0,m1,rfl⟩:∃m0 m1,ms=[m0,m1]:=by
    match ms,lX with
    |[x,y],_=>exact⟨x,y,rfl⟩
   refine⟨_,rfl,X,_,_,_,rfl,rfl,ll eX,Zk (j:=1) rfl,m1,rfl,fun H3 v3 t3 s3 at3 z3 lf3=>?_⟩;refine⟨_,rfl,X,_,_,_,rfl,rfl,ll (s3 _ _ eX),Zk (j:=1) rfl,_,_,rfl,rfl,⟨by decide,by decide⟩,_,_,rfl,rfl,by decide,_,_,rfl,rfl,_,rfl,Xv (fun c=>?_) (fun c=>?_)⟩
   ·have s13:=s2.trans s3;refine⟨_,rfl,X,_,_,_,rfl,rfl,ll (s3 _ _ eX),Zk (j:=0) rfl,_,rfl,_,rfl,m0,S,wl,us,8,(fun t=>∀s∈post t,s∈C),rfl,s13 _ _ hS1,fun z=>by rw[z] at l2;simp at l2,by omega,s13 _ _ (s1 _ _ hwl),fun u hu=>?_,fun H4 q t s4 at4 kid=>?_⟩
    ·obtain⟨t',h1,h2,h3⟩:=kp u hu;exact⟨t',h1.mono (lg s13),h3⟩
    ·refine tail _ _ _ t H4 (s13.trans s4) at4 (fun s hs=>?_) _ fun σ H' h=>h;rw[Tr.eta t] at hs;rcases pin hs with e|⟨kk,hk,h⟩
     ·exact .inl (by rw[e,<- Tr.eta t])
     ·exact .inr (kid kk hk s h)
   ·exact tail _ _ _ t3 H3 (s2.trans s3) (at3.le (by decide)) (fun s hs=>.inr (hLF s (lf3 s hs))) _ fun σ H' h=>h
  rintro σ H1 ⟨z1,z2,z3,us,C,rfl,s1,hS1,l2,lu,kp,lC,hLF⟩;rw[hJ] at lu lC;refine⟨_,rfl,_,rfl,S,_,rfl,ll hS1,fun q hq=>?_⟩;obtain⟨H2,qN,s2,e2⟩:=Zq (o:=.lst (Wp us (some 2) none)) hq;rw[qN];have ec:Wp us (some 2) none=us.drop 2:=by
   match us,l2 with
   |x::y::r,_=>exact qt x y r
  rw[ec] at e2;exact k H2 q (us.drop 2) C (s1.trans s2) (s1.free hq) e2 (by rw[jh];omega) (fun u hu=>by
   obtain⟨t',h1,h2,h3⟩:=kp u (List.mem_of_mem_drop hu);exact⟨t',h1.mono (lg s2),h2,h3⟩) (by omega)
theorem y6:∀(n:Nat) (t:Tr),psz t<=n->(qsT t).length<=psz t
 |0,t,h=>by have:=XN t;omega
 |n+1,t,h=>by
  have hp:=XN t;rw[yT]
  split
  ·simpa using hp
  ·rw[List.length_flatten,iw];have:(t.ks.map (List.length∘qsT)).sum<=(t.ks.map psz).sum:=sumLe fun k hk=>y6 n k (by have:=Wc hk;omega);rw[UJ t];omega
theorem yQ{ks:List Tr}{i:Nat}{kd:Tr}(h:ks[i]?=some kd):(((ks.take i).map qsT).flatten).length+psz kd<=(ks.map psz).sum:=by
 have h1:(((ks.take i).map qsT).flatten).length<=((ks.take i).map psz).sum:=by
  rw[List.length_flatten,iw];exact sumLe fun k hk=>y6 _ k (gY _)
 have h2:(ks.map psz).sum=((ks.take i).map psz).sum+((ks.drop i).map psz).sum:=by
  conv=>lhs;rw[<- List.take_append_drop i ks]
  rw[iZ,List.sum_append]
 have hi:=(ib.mp h).1;have h3:ks.drop i=kd::ks.drop (i+1):=by
  rw[jZ hi];have:=(ib.mp h).2;rw[this]
 rw[h3,g9,iD] at h2;omega
theorem yR{ks:List Tr}{i:Nat}{kd:Tr}(h:ks[i]?=some kd):((ks.take (i+1)).map qsT).flatten=((ks.take i).map qsT).flatten++qsT kd:=by
 rw[List.take_succ,h];simp
theorem VA{c:Lb}{ks:List Tr}(h:¬quL c):qsT (.node c ks)=(ks.map qsT).flatten:=by
 rw[yT];exact if_neg h
def Wt(n:Nat)(K:W.Frag)(a:Adr):Sp:=fun vs H Q _=>∃(v:V) (F:Addr) (t:Tr) (m:Nat) (fs:List V),vs=[v,.ref F]/\m<n/\At K m H v t/\H F=some (.lst fs)/\fs.length+psz t<=16000000/\∀H' us,Zx F H H'->H' F=some (.lst (fs++us))->AtL K m H' us (qsT t)->Q (.ref F) H'
theorem Wi{K:W.Frag}{a:Adr}{vs:List V}{H:Hp}{Q:VK}{E:XK}(h:Wt 0 K a vs H Q E):False:=by
 obtain⟨_,_,_,m,_,_,hm,_⟩:=h;omega
theorem VW(T:Txt K mg a)(hw:w.params=a.Pm):∀n:Nat,Yq P w K mg base CX0 (1+n) a._law_quantified a.bb ["_law_sentence", "_law_found"] (Wt n K a):=by
 intro n
 induction n with
 |zero=>exact⟨fun _ _ _ _ h=>(Wi h).elim,fun _ _ _ _ _ _ _ _ _ _ _ _ _ h=>(Wi h).elim⟩
 |succ n az=>
  refine T.ah.ok Y0 (fun vs H Q E h=>?_) (fun gF A outer s H vs Q E hr h=>?_)
  ·obtain⟨v,F,t,m,fs,rfl,_⟩:=h;rfl
  ·obtain⟨v,F,t,m,fs,rfl,hm,hat,hF,hz,k⟩:=h;refine⟨_,(@Zb _ _ _ _ _ (@Zr _ _ (2) _ _ _ _ Y0.nd rfl (Or.inl rfl) (@ZA _ _ _ _ _ _ _ (ZJ (K:=K) rfl) (pv 0) Zh (fun _ _=>rfl)) (by rfl) (.inl rfl)) (@Zb _ _ _ _ _ (@ZI _ _ _ _ _ _ _ _ (PW.pt (X9 (@Zm _ _ _ _ _ _ _ _ ZL (pv 2) Ze (Zs _)) (XG (@Zm _ _ _ _ _ _ _ _ ZL (pv 2) Ze (Zs _))))) (@Zg _ _ _ (@YA _ _ _ _ (Wx iT i7 i8 Yv (pv 1) (@Zc _ _ _ (pv 0) (by rfl))) (by rfl))) (@Zg _ _ _ (@ZI _ _ _ _ _ _ _ _ (PW.pt (X9 (@Zm _ _ _ _ _ _ _ _ ZL (pv 2) Ze (Zs _)) (XG (@Zm _ _ _ _ _ _ _ _ ZL (pv 2) Ze (Zs _))))) (@Zg _ _ _ (Xw iS rfl (pi_tup (@ZA _ _ _ _ _ _ _ (ZJ (K:=K) rfl) (pv 0) Zh (fun _ _=>rfl))) (ZY (i:=3) Y0.nd rfl (Or.inl rfl)) (@Zg _ _ _ (@YA _ _ _ _ (Zp az hr rfl T.ay T.ah.kp T.ax .nil Zw (@Zd _ _ _ _ _ (pv 3) (@Zc _ _ _ (pv 1) (by rfl)) (by rfl))) (by rfl))))) (@Zg _ _ _ (@ZI _ _ _ _ _ _ _ _ (@Zm _ _ _ _ _ _ _ _ ZL (pv 2) Ze (Zs _)) (@Zb _ _ _ _ _ (@YA _ _ _ _ (Zp az hr rfl T.ay T.ah.kp T.ax .nil Zw (@Zd _ _ _ _ _ (@ZA _ _ _ _ _ _ _ (ZJ (K:=K) rfl) (pv 0) Zh (fun _ _=>rfl)) (@Zc _ _ _ (pv 1) (by rfl)) (by rfl))) (by rfl)) (@Zg _ _ _ (@YA _ _ _ _ (Zp az hr rfl T.ay T.ah.kp T.ax .nil Zw (@Zd _ _ _ _ _ (@ZA _ _ _ _ _ _ _ (ZJ (K:=K) rfl) (pv 0) Zh (fun _ _=>rfl)) (@Zc _ _ _ (pv 1) (by rfl)) (by rfl))) (by rfl)))) (@Zg _ _ _ (@ZI _ _ _ _ _ _ _ _ (PW.pt (VZ (@Zm _ _ _ _ _ _ _ _ qP (pv 2) Ze (Zs _)) (WY (@Zm _ _ _ _ _ _ _ _ qP (pv 2) Ze (Zs _))))) (@Zg _ _ _ (Xw iS rfl (pi_tup (YG (WC (K:=K) rfl) (pv 0) (YQ Zh) Y6)) (ZY (i:=3) Y0.nd rfl (Or.inl rfl)) (@Zg _ _ _ (@YA _ _ _ _ (Zp az hr rfl T.ay T.ah.kp T.ax .nil Zw (@Zd _ _ _ _ _ (pv 3) (@Zc _ _ _ (pv 1) (by rfl)) (by rfl))) (by rfl))))) Zt))))))) (@Zg _ _ _ (@Zo _ _ _ _ (pv 1))))),?_⟩;cases m with
   |zero=>exact hat.elim
   |succ m=>
    obtain⟨ad,us,rfl,sh,ok,hl,hq⟩:=id hat;obtain⟨c,ks⟩:=t;simp only[Tr.lb,Tr.ks] at sh ok hl hq;rw[Z8] at hz;cases c with
    |yes=>
     obtain rfl:ks=[]:=iG.mp ok;have nq:¬quL .yes:=quN (w := "yes") (by decide +kernel) _ rfl;refine⟨_,rfl,ad,_,_,_,rfl,rfl,sh.2,Zk (j:=0) rfl,?_⟩;have no:∀{z:Str},("yes" : Str)≠z->V.str "yes" ≠ V.str z:=fun h e=>h (V.str.inj e);refine⟨_,rfl,rfl,_,rfl,ZF (no (by decide +kernel)) ⟨_,rfl,rfl,_,rfl,ZF (no (by decide +kernel)) ⟨_,rfl,rfl,_,rfl,ZF (no (by decide +kernel)) ⟨_,rfl,rfl,_,rfl,ZF (no (by decide +kernel)) ⟨_,rfl,rfl,_,rfl,ZF (no (by decide +kernel)) ?_⟩⟩⟩⟩⟩;refine⟨_,rfl,rfl,_,rfl,?_⟩;rw[hX rfl];exact Yi ⟨_,rfl,k H [] (Zx.refl H) (by rw[iQ];exact hF) (by rw[VA nq];exact AtL.nil)⟩
    |sign y=>
     obtain rfl:ks=[]:=iG.mp ok.1;have nq:¬quL (.sign y):=quN (w := "sign") (by decide +kernel) _ rfl;refine⟨_,rfl,ad,_,_,_,rfl,rfl,sh.2,Zk (j:=0) rfl,?_⟩;have no:∀{z:Str},("sign" : Str)≠z->V.str "sign" ≠ V.str z:=fun h e=>h (V.str.inj e);refine⟨_,rfl,rfl,_,rfl,ZF (no (by decide +kernel)) ⟨_,rfl,rfl,_,rfl,ZF (no (by decide +kernel)) ⟨_,rfl,rfl,_,rfl,ZF (no (by decide +kernel)) ⟨_,rfl,rfl,_,rfl,ZF (no (by decide +kernel)) ⟨_,rfl,rfl,_,rfl,ZF (no (by decide +kernel)) ?_⟩⟩⟩⟩⟩;refine⟨_,rfl,rfl,_,rfl,?_⟩;rw[im (no (z := "yes") (by decide +kernel))];refine Xh ⟨_,rfl,rfl,_,rfl,?_⟩;rw[hX rfl];exact Yi ⟨_,rfl,k H [] (Zx.refl H) (by rw[iQ];exact hF) (by rw[VA nq];exact AtL.nil)⟩
    |op w=>
     refine⟨_,rfl,ad,_,_,_,rfl,rfl,sh,Zk (j:=0) rfl,?_⟩;obtain⟨h1,h2,h3,h4,h5⟩:=Vi w (by rcases ok with ok|ok;exact iX _ ok.1;exact iE _ ok.1);have nz:∀{z:Str}{l:List Str},w∉l->z∈l->V.str w≠V.str z:=fun h hz e=>h (by rw[V.str.inj e];exact hz);have app:quL (.op w)->tDrop (tBM K "list" yZ (qe 1) (Ui (qe 0) tNil)) { nx:=tRet (qe 1) { nx:=fun x H'=>Q V.non H',rt:=Q },rt:=Q } [some (.ref ad),some (.ref F),some (.str w),none] H:=fun q=>by
      have x3:Zx F H (upd H F (.lst (fs++[.ref ad]))):=(Zx.refl H).upd;refine⟨_,rfl,.inl ⟨rfl,_,ll hF⟩,_,rfl,F,_,_,rfl,rfl,hF,by rw[gU];omega,_,rfl,k _ [.ref ad] x3 Zf ?_⟩;have e:qsT (.node (.op w) ks)=[.node (.op w) ks]:=by rw[yT];exact if_pos q
      rw[e];exact AtL.one (hat.mono (Zx.tup x3 hF))
     refine⟨_,rfl,rfl,_,rfl,Xv (fun c=>?_) (fun c=>?_)⟩
     ·exact Xh (app (.inl (V.str.inj (iz c))))
     refine⟨_,rfl,rfl,_,rfl,Xv (fun c'=>?_) (fun c'=>?_)⟩
     ·exact app (.inr (V.str.inj (iz c')))
     have nq:¬quL (.op w):=fun z=>by
      rcases z with z|z
      ·exact c (hX (by rw[show w = "all" from z]))
      ·exact c' (hX (by rw[show w = "some" from z]))
     refine⟨_,rfl,rfl,_,rfl,ZF (nz h3 (by simp)) ⟨_,rfl,rfl,_,rfl,ZF (nz h3 (by simp)) ?_⟩⟩;refine⟨_,rfl,rfl,_,rfl,ZF (fun z=>h4 (V.str.inj z)) ?_⟩;have ny:decide (V.str w=V.str "yes")=false:=im (nz h5 (by simp));have ns:decide (V.str w=V.str "sign")=false:=im (nz h5 (by simp));refine⟨_,rfl,rfl,_,rfl,?_⟩;rw[ny];refine Xh ⟨_,rfl,rfl,_,rfl,?_⟩;rw[ns];refine Xh ?_;refine⟨_,rfl,_,rfl,ad,_,rfl,sh,Va (by decide) (by rcases ok with ok|ok<;>simp<;>omega),fun r hr=>?_⟩;rw[Vr];obtain⟨H0,qN,s0,e0⟩:=Zq (o:=.tup us) hr;rw[qN];refine⟨r,rfl,⟨_,lh e0⟩,?_⟩;refine ym (K:=K) (xs:=us) (fun i σ H'=>∃(z:Option V) (rs:List V),σ=[some (.ref ad),some (.ref F),some (.str w),z]/\Zx F H H'/\H' F=some (.lst (fs++rs))/\SqT K H' r us/\AtL K (m+1) H' rs ((ks.take i).map qsT).flatten) ?_ ?_ ?_ ?_
     ·exact⟨_,[],rfl,Za.x s0,by rw[iQ];exact s0 _ _ hF,lh e0,AtL.nil⟩
     ·rintro i σ H' hi ⟨z,rs,rfl,_,_,hb,_⟩;exact hb
     ·rintro i u σ H1 hu ⟨z,rs,rfl,x1,hF1,hb1,a1⟩;have hi:i<us.length:=(ib.mp hu).1;have hk:ks[i]?=some (ks[i]'(by omega)):=gZ (by omega);have hrm:=yQ hk;have htk:=yR hk;have a1l:=a1.1;generalize (ks[i]'(by omega))=kd at hk hrm htk;refine⟨_,rfl,_,rfl,u,F,kd,m,fs++rs,rfl,by omega,(hq i u kd hu hk).mono (Zx.tup x1 hF),hF1,by rw[hG];omega,fun H2 us2 x2 hF2 a2=>⟨_,rs++us2,rfl,x1.trans x2,by rw[<- jc];exact hF2,(Zx.tup x2 hF1) _ _ _ hb1,?_⟩⟩;rw[htk];exact(a1.mono (Zx.tup x2 hF1)).app (a2.le (jE m))
     ·rintro σ H1 ⟨z,rs,rfl,x1,hF1,hb1,a1⟩;rw[hl,jt (gY _),<- VA nq] at a1;exact⟨_,rfl,k H1 rs x1 hF1 a1⟩
    |wit d=>
     have nq:¬quL (.wit d):=quN (w := "within") (by decide +kernel) _ rfl;obtain⟨hd,h2⟩:=ok;obtain⟨k1,k2,rfl⟩:∃k1 k2,ks=[k1,k2]:=by
      match ks,h2 with
      |[x,y],_=>exact⟨x,y,rfl⟩
     obtain⟨u1,u2,rfl⟩:∃u1 u2,us=[u1,u2]:=by
      match us,hl with
      |[x,y],_=>exact⟨x,y,rfl⟩
     have hu1:=hq 0 u1 k1 rfl rfl;have hu2:=hq 1 u2 k2 rfl rfl;refine⟨_,rfl,ad,_,_,_,rfl,rfl,sh,Zk (j:=0) rfl,?_⟩;have no:∀{z:Str},("within" : Str)≠z->V.str "within" ≠ V.str z:=fun h e=>h (V.str.inj e);refine⟨_,rfl,rfl,_,rfl,ZF (no (by decide +kernel)) ⟨_,rfl,rfl,_,rfl,ZF (no (by decide +kernel)) ⟨_,rfl,rfl,_,rfl,ZF (no (by decide +kernel)) ⟨_,rfl,rfl,_,rfl,ZF (no (by decide +kernel)) ⟨_,rfl,rfl,_,rfl,YH rfl ?_⟩⟩⟩⟩⟩;simp only[g9,ip,iD,je] at hz;have q1:=y6 _ k1 (gY _);refine⟨_,rfl,ad,_,_,_,rfl,rfl,sh,Zk (j:=2) rfl,_,rfl,u1,F,k1,m,fs,rfl,by omega,hu1,hF,by omega,fun H1 r1 x1 hF1 a1=>?_⟩;have l1:=a1.1;refine⟨_,rfl,ad,_,_,_,rfl,rfl,(Zx.tup x1 hF) _ _ _ sh,Zk (j:=3) rfl,_,rfl,u2,F,k2,m,fs++r1,rfl,by omega,hu2.mono (Zx.tup x1 hF),hF1,by rw[hG];omega,fun H2 r2 x2 hF2 a2=>?_⟩;refine⟨_,rfl,k H2 (r1++r2) (x1.trans x2) (by rw[<- jc];exact hF2) ?_⟩;rw[VA nq]
     show AtL K _ H2 _ (qsT k1++(qsT k2++[]))
     rw[iQ];exact((a1.mono (Zx.tup x2 hF1)).app a2).le (jE m)
    |many w=>
     obtain⟨b,sh1,shb⟩:=sh;have hw0:w∈(["and", "or"]:List Str):=by rcases ok.1 with rfl|rfl<;>simp
     have nq:¬quL (.many w):=quN (w:=w) (by rcases ok.1 with rfl|rfl<;>decide +kernel) _ rfl;refine⟨_,rfl,ad,_,_,_,rfl,rfl,sh1,Zk (j:=0) rfl,?_⟩;have no:∀{z:Str},w≠z->V.str w≠V.str z:=fun h e=>h (V.str.inj e);refine⟨_,rfl,rfl,_,rfl,ZF (no (by rcases ok.1 with rfl|rfl<;>decide +kernel)) ⟨_,rfl,rfl,_,rfl,ZF (no (by rcases ok.1 with rfl|rfl<;>decide +kernel)) ?_⟩⟩;refine⟨_,rfl,rfl,_,rfl,Xv (fun c=>?_) (fun c=>?_)⟩
     ·refine Xh ⟨_,rfl,ad,_,_,_,rfl,rfl,sh1,Zk (j:=1) rfl,b,rfl,⟨_,shb⟩,?_⟩;refine ym (K:=K) (xs:=us) (fun i σ H'=>∃(z:Option V) (rs:List V),σ=[some (.ref ad),some (.ref F),some (.str w),z]/\Zx F H H'/\H' F=some (.lst (fs++rs))/\SqT K H' b us/\AtL K (m+1) H' rs ((ks.take i).map qsT).flatten) ?_ ?_ ?_ ?_
      ·exact⟨_,[],rfl,Zx.refl H,by rw[iQ];exact hF,shb,AtL.nil⟩
      ·rintro i σ H' hi ⟨z,rs,rfl,_,_,hb,_⟩;exact hb
      ·rintro i u σ H1 hu ⟨z,rs,rfl,x1,hF1,hb1,a1⟩;have hi:i<us.length:=(ib.mp hu).1;have hk:ks[i]?=some (ks[i]'(by omega)):=gZ (by omega);have hrm:=yQ hk;have htk:=yR hk;have a1l:=a1.1;generalize (ks[i]'(by omega))=kd at hk hrm htk;refine⟨_,rfl,_,rfl,u,F,kd,m,fs++rs,rfl,by omega,(hq i u kd hu hk).mono (Zx.tup x1 hF),hF1,by rw[hG];omega,fun H2 us2 x2 hF2 a2=>⟨_,rs++us2,rfl,x1.trans x2,by rw[<- jc];exact hF2,(Zx.tup x2 hF1) _ _ _ hb1,?_⟩⟩;rw[htk];exact(a1.mono (Zx.tup x2 hF1)).app (a2.le (jE m))
      ·rintro σ H1 ⟨z,rs,rfl,x1,hF1,hb1,a1⟩;rw[hl,jt (gY _),<- VA nq] at a1;exact⟨_,rfl,k H1 rs x1 hF1 a1⟩
     ·refine⟨_,rfl,rfl,_,rfl,YH (by rcases ok.1 with rfl|rfl;exact absurd (hX rfl) c;rfl) ?_⟩;refine⟨_,rfl,ad,_,_,_,rfl,rfl,sh1,Zk (j:=1) rfl,b,rfl,⟨_,shb⟩,?_⟩;refine ym (K:=K) (xs:=us) (fun i σ H'=>∃(z:Option V) (rs:List V),σ=[some (.ref ad),some (.ref F),some (.str w),z]/\Zx F H H'/\H' F=some (.lst (fs++rs))/\SqT K H' b us/\AtL K (m+1) H' rs ((ks.take i).map qsT).flatten) ?_ ?_ ?_ ?_
      ·exact⟨_,[],rfl,Zx.refl H,by rw[iQ];exact hF,shb,AtL.nil⟩
      ·rintro i σ H' hi ⟨z,rs,rfl,_,_,hb,_⟩;exact hb
      ·rintro i u σ H1 hu ⟨z,rs,rfl,x1,hF1,hb1,a1⟩;have hi:i<us.length:=(ib.mp hu).1;have hk:ks[i]?=some (ks[i]'(by omega)):=gZ (by omega);have hrm:=yQ hk;have htk:=yR hk;have a1l:=a1.1;generalize (ks[i]'(by omega))=kd at hk hrm htk;refine⟨_,rfl,_,rfl,u,F,kd,m,fs++rs,rfl,by omega,(hq i u kd hu hk).mono (Zx.tup x1 hF),hF1,by rw[hG];omega,fun H2 us2 x2 hF2 a2=>⟨_,rs++us2,rfl,x1.trans x2,by rw[<- jc];exact hF2,(Zx.tup x2 hF1) _ _ _ hb1,?_⟩⟩;rw[htk];exact(a1.mono (Zx.tup x2 hF1)).app (a2.le (jE m))
      ·rintro σ H1 ⟨z,rs,rfl,x1,hF1,hb1,a1⟩;rw[hl,jt (gY _),<- VA nq] at a1;exact⟨_,rfl,k H1 rs x1 hF1 a1⟩
def PrOk(K:W.Frag)(w:Tr)(H:Hp)(u:V):Prop:=∃(b:Addr) (x y:V) (t1 t2:Tr) (m1 k1 m2 k2:Nat),u=.ref b/\H b=some (.tup [x,y])/\At K 11 H x t1/\At K 11 H y t2/\shT t1=shT t2/\Fwo w m1 k1 t1/\Fwo w m2 k2 t2/\m1<=100/\k1<=2/\m2<=100/\k2<=2
theorem PrOk.mono{K:W.Frag}{w:Tr}{H H':Hp}{u:V}(h:PrOk K w H u)(s:Za H H'):PrOk K w H' u:=by
 obtain⟨b,x,y,t1,t2,m1,k1,m2,k2,rfl,e,a1,a2,r⟩:=h;exact⟨b,x,y,t1,t2,m1,k1,m2,k2,rfl,s _ _ e,a1.mono (lg s),a2.mono (lg s),r⟩
def PL(K:W.Frag)(w:Tr)(H:Hp)(us:List V):Prop:=∀u∈us,PrOk K w H u
theorem PL.mono{K:W.Frag}{w:Tr}{H H':Hp}{us:List V}(h:PL K w H us)(s:Za H H'):PL K w H' us:=fun u hu=>(h u hu).mono s
theorem PL.nil{K:W.Frag}{w:Tr}{H:Hp}:PL K w H []:=fun u hu=>by cases hu
theorem PL.add{K:W.Frag}{w:Tr}{H:Hp}{us:List V}{v:V}(h:PL K w H us)(g:PrOk K w H v):PL K w H (us++[v]):=fun u hu=>by
 rcases iH.mp hu with hu|hu
 ·exact h u hu
 ·rw[iW.mp hu];exact g
theorem PL.app{K:W.Frag}{w:Tr}{H:Hp}{us vs:List V}(h:PL K w H us)(g:PL K w H vs):PL K w H (us++vs):=fun u hu=>by
 rcases iH.mp hu with hu|hu
 ·exact h u hu
 ·exact g u hu
theorem XE{K:W.Frag}{w t1 t2:Tr}{H:Hp}{b:Addr}{x y:V}{n1 n2 m1 k1 m2 k2:Nat}(e:H b=some (.tup [x,y]))(a1:At K n1 H x t1)(a2:At K n2 H y t2)(hs:shT t1=shT t2)(f1:Fwo w m1 k1 t1)(f2:Fwo w m2 k2 t2)(c:n1<=11/\n2<=11/\m1<=100/\k1<=2/\m2<=100/\k2<=2:=by decide):PrOk K w H (.ref b):=
 ⟨b,x,y,t1,t2,m1,k1,m2,k2,rfl,e,a1.le c.1,a2.le c.2.1,hs,f1,f2,c.2.2⟩
def zu(K:W.Frag)(a:Adr):Sp:=fun vs H Q _=>∃(v:V) (w:Tr),vs=[v]/\At K 8 H v w/\∀H' q us,Za H H'->H' q=some (.lst us)->us.length<=100->PL K w H' us->Q (.ref q) H'
theorem zx(T:Txt K mg a)(hw:w.params=a.Pm):Yq P w K mg base CX0 1 a._law_alike a.bS ["_law_w"] (zu K a):=by
 refine T.dc.ok ZP (fun vs H Q E h=>?_) (fun gF A outer s H vs Q E hr h=>?_)
 ·obtain⟨v,w,rfl,_⟩:=h;rfl
 ·obtain⟨v,w,rfl,hat,k⟩:=h;refine⟨_,(@Zb _ _ _ _ _ (@Zr _ _ (1) _ _ _ _ ZP.nd rfl (Or.inl rfl) (@Zj _ _ _ _ _ (@Zc _ _ _ Ze (by rfl))) (by rfl) (.inl rfl)) (@Zb _ _ _ _ _ (@Zr _ _ (2) _ _ _ _ ZP.nd rfl (Or.inl rfl) (@Zj _ _ _ _ _ (@Zd _ _ _ _ _ Ze (@Zc _ _ _ (pv 1) (by rfl)) (by rfl))) (by rfl) (.inl rfl)) (@Zb _ _ _ _ _ (@Zr _ _ (3) _ _ _ _ ZP.nd rfl (Or.inl rfl) (@ZT _ _ _ _ (@ZD _ _ _ _ _ (@Zj _ _ _ _ _ (@Zd _ _ _ _ _ (@Zj _ _ _ _ _ (@Zd _ _ _ _ _ Ze (@Zc _ _ _ (@Zj _ _ _ _ _ (@Zd _ _ _ _ _ Ze (@Zc _ _ _ (pv 0) (by rfl)) (by rfl))) (by rfl)) (by rfl))) (@Zc _ _ _ (pv 0) (by rfl)) (by rfl))) (@ZD _ _ _ _ _ (@Zj _ _ _ _ _ (@Zd _ _ _ _ _ (@Zj _ _ _ _ _ (@Zd _ _ _ _ _ Ze (@Zc _ _ _ (@Zj _ _ _ _ _ (@Zd _ _ _ _ _ (pv 0) (@Zc _ _ _ (pv 0) (by rfl)) (by rfl))) (by rfl)) (by rfl))) (@Zc _ _ _ (pv 0) (by rfl)) (by rfl))) (@ZD _ _ _ _ _ (@Zj _ _ _ _ _ (@Zd _ _ _ _ _ (@Zj _ _ _ _ _ (@Zd _ _ _ _ _ Ze (@Zc _ _ _ (@Zj _ _ _ _ _ (@Zd _ _ _ _ _ (pv 0) (@Zc _ _ _ (pv 0) (by rfl)) (by rfl))) (by rfl)) (by rfl))) (@Zc _ _ _ (pv 0) (by rfl)) (by rfl))) (@Ym _ _ _ (@Zj _ _ _ _ _ (@Zd _ _ _ _ _ (@Zj _ _ _ _ _ (@Zd _ _ _ _ _ Ze (@Zc _ _ _ (@Zj _ _ _ _ _ (@Zd _ _ _ _ _ (pv 0) (@Zc _ _ _ (pv 1) (by rfl)) (by rfl))) (by rfl)) (by rfl))) (@Zc _ _ _ (pv 0) (by rfl)) (by rfl))) (by rfl)) (by rfl)) (by rfl)) (by rfl))) (by rfl) (.inl rfl)) (@Zb _ _ _ _ _ (@Zr _ _ (3) _ _ _ _ ZP.nd rfl (Or.inl rfl) (@ZE _ _ _ _ _ _ _ _ WZ (pv 3) (@ZT _ _ _ _ (@ZD _ _ _ _ _ (@Zj _ _ _ _ _ (@Zd _ _ _ _ _ (@Zj _ _ _ _ _ (@Zd _ _ _ _ _ Ze (@Zc _ _ _ (@Zj _ _ _ _ _ (@Zd _ _ _ _ _ (pv 1) (@Zc _ _ _ (pv 0) (by rfl)) (by rfl))) (by rfl)) (by rfl))) (@Zc _ _ _ (pv 0) (by rfl)) (by rfl))) (@ZD _ _ _ _ _ (@Zj _ _ _ _ _ (@Zd _ _ _ _ _ (@Zj _ _ _ _ _ (@Zd _ _ _ _ _ Ze (@Zc _ _ _ (@Zj _ _ _ _ _ (@Zd _ _ _ _ _ (pv 0) (@Zc _ _ _ (pv 2) (by rfl)) (by rfl))) (by rfl)) (by rfl))) (@Zc _ _ _ (pv 0) (by rfl)) (by rfl))) (@Ym _ _ _ (@Zj _ _ _ _ _ (@Zd _ _ _ _ _ (@Zj _ _ _ _ _ (@Zd _ _ _ _ _ Ze (@Zc _ _ _ (@Zj _ _ _ _ _ (@Zd _ _ _ _ _ (pv 2) (@Zc _ _ _ (pv 0) (by rfl)) (by rfl))) (by rfl)) (by rfl))) (@Zc _ _ _ (pv 0) (by rfl)) (by rfl))) (by rfl)) (by rfl)) (by rfl)))) (by rfl) (.inl rfl)) (@Zb _ _ _ _ _ (@Zr _ _ (4) _ _ _ _ ZP.nd rfl (Or.inl rfl) (@Zj _ _ _ _ _ (@Zd _ _ _ _ _ Ze (@Zc _ _ _ (pv 0) (by rfl)) (by rfl))) (by rfl) (.inl rfl)) (@Zb _ _ _ _ _ (@Zr _ _ (5) _ _ _ _ ZP.nd rfl (Or.inl rfl) (@Zj _ _ _ _ _ (@Zd _ _ _ _ _ Ze (@Zc _ _ _ (pv 0) (by rfl)) (by rfl))) (by rfl) (.inl rfl)) (@Zb _ _ _ _ _ (@Zr _ _ (3) _ _ _ _ ZP.nd rfl (Or.inl rfl) (@ZE _ _ _ _ _ _ _ _ WZ (pv 3) (@ZT _ _ _ _ (@Zd _ _ _ _ _ (@Zj _ _ _ _ _ (@Zd _ _ _ _ _ (@Zj _ _ _ _ _ (@Zd _ _ _ _ _ Ze (@Zc _ _ _ (pv 4) (by rfl)) (by rfl))) (@Zc _ _ _ (pv 4) (by rfl)) (by rfl))) (@Zc _ _ _ (@Zj _ _ _ _ _ (@Zd _ _ _ _ _ (@Zj _ _ _ _ _ (@Zd _ _ _ _ _ Ze (@Zc _ _ _ (pv 5) (by rfl)) (by rfl))) (@Zc _ _ _ (pv 5) (by rfl)) (by rfl))) (by rfl)) (by rfl)))) (by rfl) (.inl rfl)) (@Zb _ _ _ _ _ (@Zr _ _ (3) _ _ _ _ ZP.nd rfl (Or.inl rfl) (@ZE _ _ _ _ _ _ _ _ WZ (pv 3) (@ZT _ _ _ _ (@Zd _ _ _ _ _ (@Zj _ _ _ _ _ (@Zd _ _ _ _ _ (@Zj _ _ _ _ _ (@Zd _ _ _ _ _ Ze (@Zc _ _ _ (@Zj _ _ _ _ _ (@Zd _ _ _ _ _ Ze (@Zc _ _ _ (pv 5) (by rfl)) (by rfl))) (by rfl)) (by rfl))) (@Zc _ _ _ (@Zj _ _ _ _ _ (@Zd _ _ _ _ _ Ze (@Zc _ _ _ (pv 5) (by rfl)) (by rfl))) (by rfl)) (by rfl))) (@Zc _ _ _ (@Zj _ _ _ _ _ (@Zd _ _ _ _ _ (@Zj _ _ _ _ _ (@Zd _ _ _ _ _ Ze (@Zc _ _ _ (@Zj _ _ _ _ _ (@Zd _ _ _ _ _ Ze (@Zc _ _ _ (pv 4) (by rfl)) (by rfl))) (by rfl)) (by rfl))) (@Zc _ _ _ (@Zj _ _ _ _ _ (@Zd _ _ _ _ _ Ze (@Zc _ _ _ (pv 4) (by rfl)) (by rfl))) (by rfl)) (by rfl))) (by rfl)) (by rfl)))) (by rfl) (.inl rfl)) (@Zb _ _ _ _ _ (@Zr _ _ (3) _ _ _ _ ZP.nd rfl (Or.inl rfl) (@ZE _ _ _ _ _ _ _ _ WZ (pv 3) (@ZT _ _ _ _ (@ZD _ _ _ _ _ (@Zj _ _ _ _ _ (@Zd _ _ _ _ _ (@Zj _ _ _ _ _ (@ZD _ _ _ _ _ Ze (@ZD _ _ _ _ _ (pv 0) (@Ym _ _ _ (pv 1) (by rfl)) (by rfl)) (by rfl))) (@Zc _ _ _ (pv 1) (by rfl)) (by rfl))) (@ZD _ _ _ _ _ (@Zj _ _ _ _ _ (@Zd _ _ _ _ _ (@Zj _ _ _ _ _ (@Zd _ _ _ _ _ Ze (@Zc _ _ _ (@Zj _ _ _ _ _ (@Zd _ _ _ _ _ (pv 0) (@Zc _ _ _ (pv 1) (by rfl)) (by rfl))) (by rfl)) (by rfl))) (@Zc _ _ _ (pv 1) (by rfl)) (by rfl))) (@Ym _ _ _ (@Zj _ _ _ _ _ (@Zd _ _ _ _ _ (@Zj _ _ _ _ _ (@Zd _ _ _ _ _ Ze (@Zc _ _ _ (@Zj _ _ _ _ _ (@Zd _ _ _ _ _ (pv 1) (@Zc _ _ _ (pv 0) (by rfl)) (by rfl))) (by rfl)) (by rfl))) (@Zc _ _ _ (pv 1) (by rfl)) (by rfl))) (by rfl)) (by rfl)) (by rfl)))) (by rfl) (.inl rfl)) (@Zb _ _ _ _ _ (@Zr _ _ (3) _ _ _ _ ZP.nd rfl (Or.inl rfl) (@ZE _ _ _ _ _ _ _ _ WZ (pv 3) (@ZT _ _ _ _ (@ZD _ _ _ _ _ (@Zj _ _ _ _ _ (@Zd _ _ _ _ _ (@Zj _ _ _ _ _ (@ZD _ _ _ _ _ Ze (@ZD _ _ _ _ _ (pv 0) (@Ym _ _ _ (pv 2) (by rfl)) (by rfl)) (by rfl))) (@Zc _ _ _ (pv 2) (by rfl)) (by rfl))) (@ZD _ _ _ _ _ (@Zj _ _ _ _ _ (@Zd _ _ _ _ _ (@Zj _ _ _ _ _ (@Zd _ _ _ _ _ Ze (@Zc _ _ _ (@Zj _ _ _ _ _ (@Zd _ _ _ _ _ (pv 0) (@Zc _ _ _ (pv 2) (by rfl)) (by rfl))) (by rfl)) (by rfl))) (@Zc _ _ _ (pv 2) (by rfl)) (by rfl))) (@Ym _ _ _ (@Zj _ _ _ _ _ (@Zd _ _ _ _ _ (@Zj _ _ _ _ _ (@Zd _ _ _ _ _ Ze (@Zc _ _ _ (@Zj _ _ _ _ _ (@Zd _ _ _ _ _ (pv 2) (@Zc _ _ _ (pv 0) (by rfl)) (by rfl))) (by rfl)) (by rfl))) (@Zc _ _ _ (pv 2) (by rfl)) (by rfl))) (by rfl)) (by rfl)) (by rfl)))) (by rfl) (.inl rfl)) (@Zb _ _ _ _ _ (Xw iS rfl (Yr (K:=K) rfl (@ZT _ _ _ _ (@ZD _ _ _ _ _ Ze (@ZD _ _ _ _ _ Ze (@Ym _ _ _ Ze (by rfl)) (by rfl)) (by rfl)))) (ZY (i:=6) ZP.nd rfl (Or.inl rfl)) (@Zg _ _ _ (@Zr _ _ (3) _ _ _ _ ZP.nd rfl (Or.inl rfl) (@ZE _ _ _ _ _ _ _ _ WZ (pv 3) (@ZT _ _ _ _ (@Zd _ _ _ _ _ (@Zj _ _ _ _ _ (@Zd _ _ _ _ _ (@Zj _ _ _ _ _ (@Zd _ _ _ _ _ (pv 6) (@Zc _ _ _ (pv 1) (by rfl)) (by rfl))) (@Zc _ _ _ (pv 1) (by rfl)) (by rfl))) (@Zc _ _ _ (@Zj _ _ _ _ _ (@Zd _ _ _ _ _ (@Zj _ _ _ _ _ (@Zd _ _ _ _ _ (pv 6) (@Zc _ _ _ (pv 2) (by rfl)) (by rfl))) (@Zc _ _ _ (pv 2) (by rfl)) (by rfl))) (by rfl)) (by rfl)))) (by rfl) (.inl rfl)))) (@Zg _ _ _ (@Zo _ _ _ _ (pv 3)))))))))))))),?_⟩;have S:Za H H:=.refl _;have okw:=hat.ok;have aw:=hat;refine⟨by rw[gU];simp,fun t1 h1=>?_⟩;obtain⟨G1,qN,s,e1⟩:=Zq (o:=(.tup [.str "yes"])) h1;rw[qN];clear qN h1
  replace S:=S.trans s
  replace aw:=aw.mono (lg s)
  clear s;have aY:At K 8 G1 (.ref t1) Zn:=(Xb (n:=7) (lh e1));refine⟨_,rfl,?_⟩;refine⟨by rw[gU];simp,fun t2 h2=>?_⟩;obtain⟨G2,qN,s,e2⟩:=Zq (o:=(.tup [(.str "not"),(.ref t1)])) h2;rw[qN];clear qN h2
  replace S:=S.trans s
  replace aw:=aw.mono (lg s)
  replace aY:=aY.mono (lg s)
  replace e1:=s _ _ e1
  clear s;have aN:At K 8 G2 (.ref t2) nNo:=(ZZ (lh e2) (by decide +kernel) (Xb (n:=6) (lh e1)));clear e1;clear e2;have gn:PL K w G2 []:=PL.nil;refine⟨_,rfl,?_⟩;refine⟨by rw[gU];simp,fun t3 h3=>?_⟩;obtain⟨G3,qN,s,e3⟩:=Zq (o:=(.tup [(.str "not"),v])) h3;rw[qN];clear qN h3
  replace S:=S.trans s
  replace aw:=aw.mono (lg s)
  replace aY:=aY.mono (lg s)
  replace aN:=aN.mono (lg s)
  replace gn:=gn.mono s
  clear s;refine⟨by rw[gU];simp,fun t4 h4=>?_⟩;obtain⟨G4,qN,s,e4⟩:=Zq (o:=(.tup [(.str "not"),(.ref t3)])) h4;rw[qN];clear qN h4
  replace S:=S.trans s
  replace aw:=aw.mono (lg s)
  replace aY:=aY.mono (lg s)
  replace aN:=aN.mono (lg s)
  replace gn:=gn.mono s
  replace e3:=s _ _ e3
  clear s;refine⟨_,rfl,?_⟩;refine⟨by rw[gU];simp,fun t5 h5=>?_⟩;obtain⟨G5,qN,s,e5⟩:=Zq (o:=(.tup [(.ref t4),v])) h5;rw[qN];clear qN h5
  replace S:=S.trans s
  replace aw:=aw.mono (lg s)
  replace aY:=aY.mono (lg s)
  replace aN:=aN.mono (lg s)
  replace gn:=gn.mono s
  replace e3:=s _ _ e3
  replace e4:=s _ _ e4
  clear s
  replace gn:PL K w G5 [(.ref t5)]:=PL.add gn (XE (t1:=(.node (.op "not") [(.node (.op "not") [w])])) (t2:=w) e5 (ZZ (lh e4) (by decide +kernel) (ZZ (lh e3) (by decide +kernel) aw)) aw (al_not okw) (Fwo.one (.op "not") (Fwo.one (.op "not") (lm w))) (lm w))
  clear e3;clear e4;clear e5;refine⟨_,rfl,?_⟩;refine⟨_,rfl,?_⟩;refine⟨by rw[gU];simp,fun t6 h6=>?_⟩;obtain⟨G6,qN,s,e6⟩:=Zq (o:=(.tup [v,v])) h6;rw[qN];clear qN h6
  replace S:=S.trans s
  replace aw:=aw.mono (lg s)
  replace aY:=aY.mono (lg s)
  replace aN:=aN.mono (lg s)
  replace gn:=gn.mono s
  clear s;refine⟨by rw[gU];simp,fun t7 h7=>?_⟩;obtain⟨G7,qN,s,e7⟩:=Zq (o:=(.tup [(.str "and"),.ref t6])) h7;rw[qN];clear qN h7
  replace S:=S.trans s
  replace aw:=aw.mono (lg s)
  replace aY:=aY.mono (lg s)
  replace aN:=aN.mono (lg s)
  replace gn:=gn.mono s
  replace e6:=s _ _ e6
  clear s;refine⟨_,rfl,?_⟩;refine⟨by rw[gU];simp,fun t8 h8=>?_⟩;obtain⟨G8,qN,s,e8⟩:=Zq (o:=(.tup [(.ref t7),v])) h8;rw[qN];clear qN h8
  replace S:=S.trans s
  replace aw:=aw.mono (lg s)
  replace aY:=aY.mono (lg s)
  replace aN:=aN.mono (lg s)
  replace gn:=gn.mono s
  replace e6:=s _ _ e6
  replace e7:=s _ _ e7
  clear s
  replace gn:PL K w G8 [(.ref t5),(.ref t8)]:=PL.add gn (XE (t1:=(.node (.many "and") [w,w])) (t2:=w) e8 (XV (lh e7) (lh e6) (AtL.two aw aw) (.inl rfl) (by simp)) aw (al_and (.inl rfl) (.inl rfl) (.inl rfl)) (Fwo.two (.many "and") (lm w) (lm w)) (lm w))
  clear e6;clear e7;clear e8;refine⟨_,rfl,?_⟩;refine⟨_,rfl,?_⟩;refine⟨by rw[gU];simp,fun t9 h9=>?_⟩;obtain⟨G9,qN,s,e9⟩:=Zq (o:=(.tup [v,v])) h9;rw[qN];clear qN h9
  replace S:=S.trans s
  replace aw:=aw.mono (lg s)
  replace aY:=aY.mono (lg s)
  replace aN:=aN.mono (lg s)
  replace gn:=gn.mono s
  clear s;refine⟨by rw[gU];simp,fun t10 h10=>?_⟩;obtain⟨G10,qN,s,e10⟩:=Zq (o:=(.tup [(.str "or"),.ref t9])) h10;rw[qN];clear qN h10
  replace S:=S.trans s
  replace aw:=aw.mono (lg s)
  replace aY:=aY.mono (lg s)
  replace aN:=aN.mono (lg s)
  replace gn:=gn.mono s
  replace e9:=s _ _ e9
  clear s;refine⟨_,rfl,?_⟩;refine⟨by rw[gU];simp,fun t11 h11=>?_⟩;obtain⟨G11,qN,s,e11⟩:=Zq (o:=(.tup [(.ref t10),v])) h11;rw[qN];clear qN h11
  replace S:=S.trans s
  replace aw:=aw.mono (lg s)
  replace aY:=aY.mono (lg s)
  replace aN:=aN.mono (lg s)
  replace gn:=gn.mono s
  replace e9:=s _ _ e9
  replace e10:=s _ _ e10
  clear s
  replace gn:PL K w G11 [(.ref t5),(.ref t8),(.ref t11)]:=PL.add gn (XE (t1:=(.node (.many "or") [w,w])) (t2:=w) e11 (XV (lh e10) (lh e9) (AtL.two aw aw) (.inr rfl) (by simp)) aw (al_or (.inl rfl) (.inl rfl) (.inl rfl)) (Fwo.two (.many "or") (lm w) (lm w)) (lm w))
  clear e9;clear e10;clear e11;refine⟨_,rfl,?_⟩;refine⟨_,rfl,?_⟩;refine⟨by rw[gU];simp,fun t12 h12=>?_⟩;obtain⟨G12,qN,s,e12⟩:=Zq (o:=(.tup [v,(.ref t1)])) h12;rw[qN];clear qN h12
  replace S:=S.trans s
  replace aw:=aw.mono (lg s)
  replace aY:=aY.mono (lg s)
  replace aN:=aN.mono (lg s)
  replace gn:=gn.mono s
  clear s;refine⟨by rw[gU];simp,fun t13 h13=>?_⟩;obtain⟨G13,qN,s,e13⟩:=Zq (o:=(.tup [(.str "and"),.ref t12])) h13;rw[qN];clear qN h13
  replace S:=S.trans s
  replace aw:=aw.mono (lg s)
  replace aY:=aY.mono (lg s)
  replace aN:=aN.mono (lg s)
  replace gn:=gn.mono s
  replace e12:=s _ _ e12
  clear s;refine⟨_,rfl,?_⟩;refine⟨by rw[gU];simp,fun t14 h14=>?_⟩;obtain⟨G14,qN,s,e14⟩:=Zq (o:=(.tup [(.ref t13),v])) h14;rw[qN];clear qN h14
  replace S:=S.trans s
  replace aw:=aw.mono (lg s)
  replace aY:=aY.mono (lg s)
  replace aN:=aN.mono (lg s)
  replace gn:=gn.mono s
  replace e12:=s _ _ e12
  replace e13:=s _ _ e13
  clear s
  replace gn:PL K w G14 [(.ref t5),(.ref t8),(.ref t11),(.ref t14)]:=PL.add gn (XE (t1:=(.node (.many "and") [w,Zn])) (t2:=w) e14 (XV (lh e13) (lh e12) (AtL.two aw aY) (.inl rfl) (by simp)) aw (al_and (.inl rfl) (.inr rfl) (.inl rfl)) (Fwo.two (.many "and") (lm w) (Fwo.yes w)) (lm w))
  clear e12;clear e13;clear e14;have xl:([(.ref t5),(.ref t8),(.ref t11),(.ref t14)]:List V).length=4:=rfl;refine⟨by rw[gU];simp,fun l0 hl0=>?_⟩;generalize ([(.ref t5),(.ref t8),(.ref t11),(.ref t14)]:List V)=ys0 at gn xl ⊢;obtain⟨J0,qN,s,eM⟩:=Zq (o:=.lst ys0) hl0;rw[qN];clear qN hl0
  replace S:=S.trans s
  replace aw:=aw.mono (lg s)
  replace aY:=aY.mono (lg s)
  replace aN:=aN.mono (lg s)
  replace gn:=gn.mono s
  clear s;have gl:=gn;have eL:=eM;have al:=xl;clear gn eM xl;refine⟨_,rfl,?_⟩;have gn:PL K w J0 []:=PL.nil;refine⟨_,rfl,?_⟩;refine⟨_,rfl,?_⟩;refine⟨by rw[gU];simp,fun t15 h15=>?_⟩;obtain⟨G15,qN,s,e15⟩:=Zq (o:=(.tup [(.ref t1),v])) h15;rw[qN];clear qN h15
  replace S:=S.trans s
  replace aw:=aw.mono (lg s)
  replace aY:=aY.mono (lg s)
  replace aN:=aN.mono (lg s)
  replace gl:=gl.mono s
  replace gn:=gn.mono s
  replace eL:=s _ _ eL
  clear s;refine⟨by rw[gU];simp,fun t16 h16=>?_⟩;obtain⟨G16,qN,s,e16⟩:=Zq (o:=(.tup [(.str "and"),.ref t15])) h16;rw[qN];clear qN h16
  replace S:=S.trans s
  replace aw:=aw.mono (lg s)
  replace aY:=aY.mono (lg s)
  replace aN:=aN.mono (lg s)
  replace gl:=gl.mono s
  replace gn:=gn.mono s
  replace eL:=s _ _ eL
  replace e15:=s _ _ e15
  clear s;refine⟨_,rfl,?_⟩;refine⟨by rw[gU];simp,fun t17 h17=>?_⟩;obtain⟨G17,qN,s,e17⟩:=Zq (o:=(.tup [(.ref t16),v])) h17;rw[qN];clear qN h17
  replace S:=S.trans s
  replace aw:=aw.mono (lg s)
  replace aY:=aY.mono (lg s)
  replace aN:=aN.mono (lg s)
  replace gl:=gl.mono s
  replace gn:=gn.mono s
  replace eL:=s _ _ eL
  replace e15:=s _ _ e15
  replace e16:=s _ _ e16
  clear s
  replace gn:PL K w G17 [(.ref t17)]:=PL.add gn (XE (t1:=(.node (.many "and") [Zn,w])) (t2:=w) e17 (XV (lh e16) (lh e15) (AtL.two aY aw) (.inl rfl) (by simp)) aw (al_and (.inr rfl) (.inl rfl) (.inr rfl)) (Fwo.two (.many "and") (Fwo.yes w) (lm w)) (lm w))
  clear e15;clear e16;clear e17;refine⟨_,rfl,?_⟩;refine⟨_,rfl,?_⟩;refine⟨by rw[gU];simp,fun t18 h18=>?_⟩;obtain⟨G18,qN,s,e18⟩:=Zq (o:=(.tup [v,(.ref t2)])) h18;rw[qN];clear qN h18
  replace S:=S.trans s
  replace aw:=aw.mono (lg s)
  replace aY:=aY.mono (lg s)
  replace aN:=aN.mono (lg s)
  replace gl:=gl.mono s
  replace gn:=gn.mono s
  replace eL:=s _ _ eL
  clear s;refine⟨by rw[gU];simp,fun t19 h19=>?_⟩;obtain⟨G19,qN,s,e19⟩:=Zq (o:=(.tup [(.str "or"),.ref t18])) h19;rw[qN];clear qN h19
  replace S:=S.trans s
  replace aw:=aw.mono (lg s)
  replace aY:=aY.mono (lg s)
  replace aN:=aN.mono (lg s)
  replace gl:=gl.mono s
  replace gn:=gn.mono s
  replace eL:=s _ _ eL
  replace e18:=s _ _ e18
  clear s;refine⟨_,rfl,?_⟩;refine⟨by rw[gU];simp,fun t20 h20=>?_⟩;obtain⟨G20,qN,s,e20⟩:=Zq (o:=(.tup [(.ref t19),v])) h20;rw[qN];clear qN h20
  replace S:=S.trans s
  replace aw:=aw.mono (lg s)
  replace aY:=aY.mono (lg s)
  replace aN:=aN.mono (lg s)
  replace gl:=gl.mono s
  replace gn:=gn.mono s
  replace eL:=s _ _ eL
  replace e18:=s _ _ e18
  replace e19:=s _ _ e19
  clear s
  replace gn:PL K w G20 [(.ref t17),(.ref t20)]:=PL.add gn (XE (t1:=(.node (.many "or") [w,nNo])) (t2:=w) e20 (XV (lh e19) (lh e18) (AtL.two aw aN) (.inr rfl) (by simp)) aw (al_or (.inl rfl) (.inr rfl) (.inl rfl)) (Fwo.two (.many "or") (lm w) (Fwo.one (.op "not") (Fwo.yes w))) (lm w))
  clear e18;clear e19;clear e20;refine⟨_,rfl,?_⟩;refine⟨_,rfl,?_⟩;refine⟨by rw[gU];simp,fun t21 h21=>?_⟩;obtain⟨G21,qN,s,e21⟩:=Zq (o:=(.tup [(.ref t2),v])) h21;rw[qN];clear qN h21
  replace S:=S.trans s
  replace aw:=aw.mono (lg s)
  replace aY:=aY.mono (lg s)
  replace aN:=aN.mono (lg s)
  replace gl:=gl.mono s
  replace gn:=gn.mono s
  replace eL:=s _ _ eL
  clear s;refine⟨by rw[gU];simp,fun t22 h22=>?_⟩;obtain⟨G22,qN,s,e22⟩:=Zq (o:=(.tup [(.str "or"),.ref t21])) h22;rw[qN];clear qN h22
  replace S:=S.trans s
  replace aw:=aw.mono (lg s)
  replace aY:=aY.mono (lg s)
  replace aN:=aN.mono (lg s)
  replace gl:=gl.mono s
  replace gn:=gn.mono s
  replace eL:=s _ _ eL
  replace e21:=s _ _ e21
  clear s;refine⟨_,rfl,?_⟩;refine⟨by rw[gU];simp,fun t23 h23=>?_⟩;obtain⟨G23,qN,s,e23⟩:=Zq (o:=(.tup [(.ref t22),v])) h23;rw[qN];clear qN h23
  replace S:=S.trans s
  replace aw:=aw.mono (lg s)
  replace aY:=aY.mono (lg s)
  replace aN:=aN.mono (lg s)
  replace gl:=gl.mono s
  replace gn:=gn.mono s
  replace eL:=s _ _ eL
  replace e21:=s _ _ e21
  replace e22:=s _ _ e22
  clear s
  replace gn:PL K w G23 [(.ref t17),(.ref t20),(.ref t23)]:=PL.add gn (XE (t1:=(.node (.many "or") [nNo,w])) (t2:=w) e23 (XV (lh e22) (lh e21) (AtL.two aN aw) (.inr rfl) (by simp)) aw (al_or (.inr rfl) (.inl rfl) (.inr rfl)) (Fwo.two (.many "or") (Fwo.one (.op "not") (Fwo.yes w)) (lm w)) (lm w))
  clear e21;clear e22;clear e23;have xl:([(.ref t17),(.ref t20),(.ref t23)]:List V).length=3:=rfl;refine⟨by rw[gU];simp,fun l1 hl1=>?_⟩;generalize ([(.ref t17),(.ref t20),(.ref t23)]:List V)=ys1 at gn xl ⊢;obtain⟨J1,qN,s,eM⟩:=Zq (o:=.lst ys1) hl1;rw[qN];clear qN hl1
  replace S:=S.trans s
  replace aw:=aw.mono (lg s)
  replace aY:=aY.mono (lg s)
  replace aN:=aN.mono (lg s)
  replace gl:=gl.mono s
  replace gn:=gn.mono s
  replace eL:=s _ _ eL
  clear s;refine⟨_,_,_,_,rfl,rfl,eL,eM,by rw[gU];omega,fun m1 hm1=>?_⟩
  replace gl:=gl.app gn
  have bl:(ys0++ys1).length=7:=by rw[hG];omega
  generalize ys0++ys1=zs1 at gl bl ⊢;clear eL;obtain⟨M1,qN,s,eL⟩:=Zq (o:=.lst zs1) hm1;rw[qN];clear qN hm1
  replace S:=S.trans s
  replace aw:=aw.mono (lg s)
  replace aY:=aY.mono (lg s)
  replace aN:=aN.mono (lg s)
  replace gl:=gl.mono s
  clear s gn eM xl al;have al:=bl;clear bl;refine⟨_,rfl,?_⟩;refine⟨by rw[gU];simp,fun t24 h24=>?_⟩;obtain⟨G24,qN,s,e24⟩:=Zq (o:=(.tup [(.str "always"),v])) h24;rw[qN];clear qN h24
  replace S:=S.trans s
  replace aw:=aw.mono (lg s)
  replace aY:=aY.mono (lg s)
  replace aN:=aN.mono (lg s)
  replace gl:=gl.mono s
  replace eL:=s _ _ eL
  clear s;have aA:At K 9 G24 (.ref t24) (.node (.op "always") [w]):=(ZZ (lh e24) (by decide +kernel) aw);clear e24;refine⟨_,rfl,?_⟩;refine⟨by rw[gU];simp,fun t25 h25=>?_⟩;obtain⟨G25,qN,s,e25⟩:=Zq (o:=(.tup [(.str "ever"),v])) h25;rw[qN];clear qN h25
  replace S:=S.trans s
  replace aw:=aw.mono (lg s)
  replace aY:=aY.mono (lg s)
  replace aN:=aN.mono (lg s)
  replace aA:=aA.mono (lg s)
  replace gl:=gl.mono s
  replace eL:=s _ _ eL
  clear s;have aE:At K 9 G25 (.ref t25) (.node (.op "ever") [w]):=(ZZ (lh e25) (by decide +kernel) aw);clear e25;refine⟨_,rfl,?_⟩;have gn:PL K w G25 []:=PL.nil;refine⟨_,rfl,?_⟩;refine⟨by rw[gU];simp,fun t26 h26=>?_⟩;obtain⟨G26,qN,s,e26⟩:=Zq (o:=(.tup [(.str "always"),(.ref t24)])) h26;rw[qN];clear qN h26
  replace S:=S.trans s
  replace aw:=aw.mono (lg s)
  replace aY:=aY.mono (lg s)
  replace aN:=aN.mono (lg s)
  replace aA:=aA.mono (lg s)
  replace aE:=aE.mono (lg s)
  replace gl:=gl.mono s
  replace gn:=gn.mono s
  replace eL:=s _ _ eL
  clear s;refine⟨_,rfl,?_⟩;refine⟨by rw[gU];simp,fun t27 h27=>?_⟩;obtain⟨G27,qN,s,e27⟩:=Zq (o:=(.tup [(.ref t26),(.ref t24)])) h27;rw[qN];clear qN h27
  replace S:=S.trans s
  replace aw:=aw.mono (lg s)
  replace aY:=aY.mono (lg s)
  replace aN:=aN.mono (lg s)
  replace aA:=aA.mono (lg s)
  replace aE:=aE.mono (lg s)
  replace gl:=gl.mono s
  replace gn:=gn.mono s
  replace eL:=s _ _ eL
  replace e26:=s _ _ e26
  clear s
  replace gn:PL K w G27 [(.ref t27)]:=PL.add gn (XE (t1:=(.node (.op "always") [(.node (.op "always") [w])])) (t2:=(.node (.op "always") [w])) e27 (ZZ (lh e26) (by decide +kernel) aA) aA (va (.inl ⟨rfl,rfl⟩)) (Fwo.one (.op "always") (Fwo.one (.op "always") (lm w))) (Fwo.one (.op "always") (lm w)))
  clear e26;clear e27;refine⟨_,rfl,?_⟩;refine⟨by rw[gU];simp,fun t28 h28=>?_⟩;obtain⟨G28,qN,s,e28⟩:=Zq (o:=(.tup [(.str "ever"),(.ref t25)])) h28;rw[qN];clear qN h28
  replace S:=S.trans s
  replace aw:=aw.mono (lg s)
  replace aY:=aY.mono (lg s)
  replace aN:=aN.mono (lg s)
  replace aA:=aA.mono (lg s)
  replace aE:=aE.mono (lg s)
  replace gl:=gl.mono s
  replace gn:=gn.mono s
  replace eL:=s _ _ eL
  clear s;refine⟨_,rfl,?_⟩;refine⟨by rw[gU];simp,fun t29 h29=>?_⟩;obtain⟨G29,qN,s,e29⟩:=Zq (o:=(.tup [(.ref t28),(.ref t25)])) h29;rw[qN];clear qN h29
  replace S:=S.trans s
  replace aw:=aw.mono (lg s)
  replace aY:=aY.mono (lg s)
  replace aN:=aN.mono (lg s)
  replace aA:=aA.mono (lg s)
  replace aE:=aE.mono (lg s)
  replace gl:=gl.mono s
  replace gn:=gn.mono s
  replace eL:=s _ _ eL
  replace e28:=s _ _ e28
  clear s
  replace gn:PL K w G29 [(.ref t27),(.ref t29)]:=PL.add gn (XE (t1:=(.node (.op "ever") [(.node (.op "ever") [w])])) (t2:=(.node (.op "ever") [w])) e29 (ZZ (lh e28) (by decide +kernel) aE) aE (va (.inr ⟨rfl,rfl⟩)) (Fwo.one (.op "ever") (Fwo.one (.op "ever") (lm w))) (Fwo.one (.op "ever") (lm w)))
  clear e28;clear e29;have xl:([(.ref t27),(.ref t29)]:List V).length=2:=rfl;refine⟨by rw[gU];simp,fun l2 hl2=>?_⟩;generalize ([(.ref t27),(.ref t29)]:List V)=ys2 at gn xl ⊢;obtain⟨J2,qN,s,eM⟩:=Zq (o:=.lst ys2) hl2;rw[qN];clear qN hl2
  replace S:=S.trans s
  replace aw:=aw.mono (lg s)
  replace aY:=aY.mono (lg s)
  replace aN:=aN.mono (lg s)
  replace aA:=aA.mono (lg s)
  replace aE:=aE.mono (lg s)
  replace gl:=gl.mono s
  replace gn:=gn.mono s
  replace eL:=s _ _ eL
  clear s;refine⟨_,_,_,_,rfl,rfl,eL,eM,by rw[gU];omega,fun m2 hm2=>?_⟩
  replace gl:=gl.app gn
  have bl:(zs1++ys2).length=9:=by rw[hG];omega
  generalize zs1++ys2=zs2 at gl bl ⊢;clear eL;obtain⟨M2,qN,s,eL⟩:=Zq (o:=.lst zs2) hm2;rw[qN];clear qN hm2
  replace S:=S.trans s
  replace aw:=aw.mono (lg s)
  replace aY:=aY.mono (lg s)
  replace aN:=aN.mono (lg s)
  replace aA:=aA.mono (lg s)
  replace aE:=aE.mono (lg s)
  replace gl:=gl.mono s
  clear s gn eM xl al;have al:=bl;clear bl;refine⟨_,rfl,?_⟩;have gn:PL K w M2 []:=PL.nil;refine⟨_,rfl,?_⟩;refine⟨by rw[gU];simp,fun t30 h30=>?_⟩;obtain⟨G30,qN,s,e30⟩:=Zq (o:=(.tup [(.str "always"),(.ref t25)])) h30;rw[qN];clear qN h30
  replace S:=S.trans s
  replace aw:=aw.mono (lg s)
  replace aY:=aY.mono (lg s)
  replace aN:=aN.mono (lg s)
  replace aA:=aA.mono (lg s)
  replace aE:=aE.mono (lg s)
  replace gl:=gl.mono s
  replace gn:=gn.mono s
  replace eL:=s _ _ eL
  clear s;refine⟨by rw[gU];simp,fun t31 h31=>?_⟩;obtain⟨G31,qN,s,e31⟩:=Zq (o:=(.tup [(.str "ever"),(.ref t30)])) h31;rw[qN];clear qN h31
  replace S:=S.trans s
  replace aw:=aw.mono (lg s)
  replace aY:=aY.mono (lg s)
  replace aN:=aN.mono (lg s)
  replace aA:=aA.mono (lg s)
  replace aE:=aE.mono (lg s)
  replace gl:=gl.mono s
  replace gn:=gn.mono s
  replace eL:=s _ _ eL
  replace e30:=s _ _ e30
  clear s;refine⟨_,rfl,?_⟩;refine⟨by rw[gU];simp,fun t32 h32=>?_⟩;obtain⟨G32,qN,s,e32⟩:=Zq (o:=(.tup [(.str "always"),(.ref t25)])) h32;rw[qN];clear qN h32
  replace S:=S.trans s
  replace aw:=aw.mono (lg s)
  replace aY:=aY.mono (lg s)
  replace aN:=aN.mono (lg s)
  replace aA:=aA.mono (lg s)
  replace aE:=aE.mono (lg s)
  replace gl:=gl.mono s
  replace gn:=gn.mono s
  replace eL:=s _ _ eL
  replace e30:=s _ _ e30
  replace e31:=s _ _ e31
  clear s;refine⟨by rw[gU];simp,fun t33 h33=>?_⟩;obtain⟨G33,qN,s,e33⟩:=Zq (o:=(.tup [(.ref t31),(.ref t32)])) h33;rw[qN];clear qN h33
  replace S:=S.trans s
  replace aw:=aw.mono (lg s)
  replace aY:=aY.mono (lg s)
  replace aN:=aN.mono (lg s)
  replace aA:=aA.mono (lg s)
  replace aE:=aE.mono (lg s)
  replace gl:=gl.mono s
  replace gn:=gn.mono s
  replace eL:=s _ _ eL
  replace e30:=s _ _ e30
  replace e31:=s _ _ e31
  replace e32:=s _ _ e32
  clear s
  replace gn:PL K w G33 [(.ref t33)]:=PL.add gn (XE (t1:=(.node (.op "ever") [(.node (.op "always") [(.node (.op "ever") [w])])])) (t2:=(.node (.op "always") [(.node (.op "ever") [w])])) e33 (ZZ (lh e31) (by decide +kernel) (ZZ (lh e30) (by decide +kernel) aE)) (ZZ (lh e32) (by decide +kernel) aE) (zP (.inr ⟨rfl,rfl⟩)) (Fwo.one (.op "ever") (Fwo.one (.op "always") (Fwo.one (.op "ever") (lm w)))) (Fwo.one (.op "always") (Fwo.one (.op "ever") (lm w))))
  clear e30;clear e31;clear e32;clear e33;refine⟨_,rfl,?_⟩;refine⟨by rw[gU];simp,fun t34 h34=>?_⟩;obtain⟨G34,qN,s,e34⟩:=Zq (o:=(.tup [(.str "ever"),(.ref t24)])) h34;rw[qN];clear qN h34
  replace S:=S.trans s
  replace aw:=aw.mono (lg s)
  replace aY:=aY.mono (lg s)
  replace aN:=aN.mono (lg s)
  replace aA:=aA.mono (lg s)
  replace aE:=aE.mono (lg s)
  replace gl:=gl.mono s
  replace gn:=gn.mono s
  replace eL:=s _ _ eL
  clear s;refine⟨by rw[gU];simp,fun t35 h35=>?_⟩;obtain⟨G35,qN,s,e35⟩:=Zq (o:=(.tup [(.str "always"),(.ref t34)])) h35;rw[qN];clear qN h35
  replace S:=S.trans s
  replace aw:=aw.mono (lg s)
  replace aY:=aY.mono (lg s)
  replace aN:=aN.mono (lg s)
  replace aA:=aA.mono (lg s)
  replace aE:=aE.mono (lg s)
  replace gl:=gl.mono s
  replace gn:=gn.mono s
  replace eL:=s _ _ eL
  replace e34:=s _ _ e34
  clear s;refine⟨_,rfl,?_⟩;refine⟨by rw[gU];simp,fun t36 h36=>?_⟩;obtain⟨G36,qN,s,e36⟩:=Zq (o:=(.tup [(.str "ever"),(.ref t24)])) h36;rw[qN];clear qN h36
  replace S:=S.trans s
  replace aw:=aw.mono (lg s)
  replace aY:=aY.mono (lg s)
  replace aN:=aN.mono (lg s)
  replace aA:=aA.mono (lg s)
  replace aE:=aE.mono (lg s)
  replace gl:=gl.mono s
  replace gn:=gn.mono s
  replace eL:=s _ _ eL
  replace e34:=s _ _ e34
  replace e35:=s _ _ e35
  clear s;refine⟨by rw[gU];simp,fun t37 h37=>?_⟩;obtain⟨G37,qN,s,e37⟩:=Zq (o:=(.tup [(.ref t35),(.ref t36)])) h37;rw[qN];clear qN h37
  replace S:=S.trans s
  replace aw:=aw.mono (lg s)
  replace aY:=aY.mono (lg s)
  replace aN:=aN.mono (lg s)
  replace aA:=aA.mono (lg s)
  replace aE:=aE.mono (lg s)
  replace gl:=gl.mono s
  replace gn:=gn.mono s
  replace eL:=s _ _ eL
  replace e34:=s _ _ e34
  replace e35:=s _ _ e35
  replace e36:=s _ _ e36
  clear s
  replace gn:PL K w G37 [(.ref t33),(.ref t37)]:=PL.add gn (XE (t1:=(.node (.op "always") [(.node (.op "ever") [(.node (.op "always") [w])])])) (t2:=(.node (.op "ever") [(.node (.op "always") [w])])) e37 (ZZ (lh e35) (by decide +kernel) (ZZ (lh e34) (by decide +kernel) aA)) (ZZ (lh e36) (by decide +kernel) aA) (zP (.inl ⟨rfl,rfl⟩)) (Fwo.one (.op "always") (Fwo.one (.op "ever") (Fwo.one (.op "always") (lm w)))) (Fwo.one (.op "ever") (Fwo.one (.op "always") (lm w))))
  clear e34;clear e35;clear e36;clear e37;have xl:([(.ref t33),(.ref t37)]:List V).length=2:=rfl;refine⟨by rw[gU];simp,fun l3 hl3=>?_⟩;generalize ([(.ref t33),(.ref t37)]:List V)=ys3 at gn xl ⊢;obtain⟨J3,qN,s,eM⟩:=Zq (o:=.lst ys3) hl3;rw[qN];clear qN hl3
  replace S:=S.trans s
  replace aw:=aw.mono (lg s)
  replace aY:=aY.mono (lg s)
  replace aN:=aN.mono (lg s)
  replace aA:=aA.mono (lg s)
  replace aE:=aE.mono (lg s)
  replace gl:=gl.mono s
  replace gn:=gn.mono s
  replace eL:=s _ _ eL
  clear s;refine⟨_,_,_,_,rfl,rfl,eL,eM,by rw[gU];omega,fun m3 hm3=>?_⟩
  replace gl:=gl.app gn
  have bl:(zs2++ys3).length=11:=by rw[hG];omega
  generalize zs2++ys3=zs3 at gl bl ⊢;clear eL;obtain⟨M3,qN,s,eL⟩:=Zq (o:=.lst zs3) hm3;rw[qN];clear qN hm3
  replace S:=S.trans s
  replace aw:=aw.mono (lg s)
  replace aY:=aY.mono (lg s)
  replace aN:=aN.mono (lg s)
  replace aA:=aA.mono (lg s)
  replace aE:=aE.mono (lg s)
  replace gl:=gl.mono s
  clear s gn eM xl al;have al:=bl;clear bl;refine⟨_,rfl,?_⟩;have gn:PL K w M3 []:=PL.nil;refine⟨_,rfl,?_⟩;refine⟨_,rfl,?_⟩;refine⟨by rw[gU];simp,fun t38 h38=>?_⟩;obtain⟨G38,qN,s,e38⟩:=Zq (o:=(.tup [(.str "until"),v,(.ref t1)])) h38;rw[qN];clear qN h38
  replace S:=S.trans s
  replace aw:=aw.mono (lg s)
  replace aY:=aY.mono (lg s)
  replace aN:=aN.mono (lg s)
  replace aA:=aA.mono (lg s)
  replace aE:=aE.mono (lg s)
  replace gl:=gl.mono s
  replace gn:=gn.mono s
  replace eL:=s _ _ eL
  clear s;refine⟨_,rfl,?_⟩;refine⟨by rw[gU];simp,fun t39 h39=>?_⟩;obtain⟨G39,qN,s,e39⟩:=Zq (o:=(.tup [(.ref t38),(.ref t1)])) h39;rw[qN];clear qN h39
  replace S:=S.trans s
  replace aw:=aw.mono (lg s)
  replace aY:=aY.mono (lg s)
  replace aN:=aN.mono (lg s)
  replace aA:=aA.mono (lg s)
  replace aE:=aE.mono (lg s)
  replace gl:=gl.mono s
  replace gn:=gn.mono s
  replace eL:=s _ _ eL
  replace e38:=s _ _ e38
  clear s
  replace gn:PL K w G39 [(.ref t39)]:=PL.add gn (XE (t1:=(.node (.op "until") [w,Zn])) (t2:=Zn) e39 (V3 (lh e38) (by decide +kernel) aw aY) aY (vg (.inl rfl)) (Fwo.two (.op "until") (lm w) (Fwo.yes w)) (Fwo.yes w))
  clear e38;clear e39;refine⟨_,rfl,?_⟩;refine⟨_,rfl,?_⟩;refine⟨by rw[gU];simp,fun t40 h40=>?_⟩;obtain⟨G40,qN,s,e40⟩:=Zq (o:=(.tup [v,(.ref t1)])) h40;rw[qN];clear qN h40
  replace S:=S.trans s
  replace aw:=aw.mono (lg s)
  replace aY:=aY.mono (lg s)
  replace aN:=aN.mono (lg s)
  replace aA:=aA.mono (lg s)
  replace aE:=aE.mono (lg s)
  replace gl:=gl.mono s
  replace gn:=gn.mono s
  replace eL:=s _ _ eL
  clear s;refine⟨by rw[gU];simp,fun t41 h41=>?_⟩;obtain⟨G41,qN,s,e41⟩:=Zq (o:=(.tup [(.str "or"),.ref t40])) h41;rw[qN];clear qN h41
  replace S:=S.trans s
  replace aw:=aw.mono (lg s)
  replace aY:=aY.mono (lg s)
  replace aN:=aN.mono (lg s)
  replace aA:=aA.mono (lg s)
  replace aE:=aE.mono (lg s)
  replace gl:=gl.mono s
  replace gn:=gn.mono s
  replace eL:=s _ _ eL
  replace e40:=s _ _ e40
  clear s;refine⟨_,rfl,?_⟩;refine⟨by rw[gU];simp,fun t42 h42=>?_⟩;obtain⟨G42,qN,s,e42⟩:=Zq (o:=(.tup [(.ref t41),(.ref t1)])) h42;rw[qN];clear qN h42
  replace S:=S.trans s
  replace aw:=aw.mono (lg s)
  replace aY:=aY.mono (lg s)
  replace aN:=aN.mono (lg s)
  replace aA:=aA.mono (lg s)
  replace aE:=aE.mono (lg s)
  replace gl:=gl.mono s
  replace gn:=gn.mono s
  replace eL:=s _ _ eL
  replace e40:=s _ _ e40
  replace e41:=s _ _ e41
  clear s
  replace gn:PL K w G42 [(.ref t39),(.ref t42)]:=PL.add gn (XE (t1:=(.node (.many "or") [w,Zn])) (t2:=Zn) e42 (XV (lh e41) (lh e40) (AtL.two aw aY) (.inr rfl) (by simp)) aY (al_orY (.inr rfl)) (Fwo.two (.many "or") (lm w) (Fwo.yes w)) (Fwo.yes w))
  clear e40;clear e41;clear e42;refine⟨_,rfl,?_⟩;refine⟨_,rfl,?_⟩;refine⟨by rw[gU];simp,fun t43 h43=>?_⟩;obtain⟨G43,qN,s,e43⟩:=Zq (o:=(.tup [(.ref t1),v])) h43;rw[qN];clear qN h43
  replace S:=S.trans s
  replace aw:=aw.mono (lg s)
  replace aY:=aY.mono (lg s)
  replace aN:=aN.mono (lg s)
  replace aA:=aA.mono (lg s)
  replace aE:=aE.mono (lg s)
  replace gl:=gl.mono s
  replace gn:=gn.mono s
  replace eL:=s _ _ eL
  clear s;refine⟨by rw[gU];simp,fun t44 h44=>?_⟩;obtain⟨G44,qN,s,e44⟩:=Zq (o:=(.tup [(.str "or"),.ref t43])) h44;rw[qN];clear qN h44
  replace S:=S.trans s
  replace aw:=aw.mono (lg s)
  replace aY:=aY.mono (lg s)
  replace aN:=aN.mono (lg s)
  replace aA:=aA.mono (lg s)
  replace aE:=aE.mono (lg s)
  replace gl:=gl.mono s
  replace gn:=gn.mono s
  replace eL:=s _ _ eL
  replace e43:=s _ _ e43
  clear s;refine⟨_,rfl,?_⟩;refine⟨by rw[gU];simp,fun t45 h45=>?_⟩;obtain⟨G45,qN,s,e45⟩:=Zq (o:=(.tup [(.ref t44),(.ref t1)])) h45;rw[qN];clear qN h45
  replace S:=S.trans s
  replace aw:=aw.mono (lg s)
  replace aY:=aY.mono (lg s)
  replace aN:=aN.mono (lg s)
  replace aA:=aA.mono (lg s)
  replace aE:=aE.mono (lg s)
  replace gl:=gl.mono s
  replace gn:=gn.mono s
  replace eL:=s _ _ eL
  replace e43:=s _ _ e43
  replace e44:=s _ _ e44
  clear s
  replace gn:PL K w G45 [(.ref t39),(.ref t42),(.ref t45)]:=PL.add gn (XE (t1:=(.node (.many "or") [Zn,w])) (t2:=Zn) e45 (XV (lh e44) (lh e43) (AtL.two aY aw) (.inr rfl) (by simp)) aY (al_orY (.inl rfl)) (Fwo.two (.many "or") (Fwo.yes w) (lm w)) (Fwo.yes w))
  clear e43;clear e44;clear e45;have xl:([(.ref t39),(.ref t42),(.ref t45)]:List V).length=3:=rfl;refine⟨by rw[gU];simp,fun l4 hl4=>?_⟩;generalize ([(.ref t39),(.ref t42),(.ref t45)]:List V)=ys4 at gn xl ⊢;obtain⟨J4,qN,s,eM⟩:=Zq (o:=.lst ys4) hl4;rw[qN];clear qN hl4
  replace S:=S.trans s
  replace aw:=aw.mono (lg s)
  replace aY:=aY.mono (lg s)
  replace aN:=aN.mono (lg s)
  replace aA:=aA.mono (lg s)
  replace aE:=aE.mono (lg s)
  replace gl:=gl.mono s
  replace gn:=gn.mono s
  replace eL:=s _ _ eL
  clear s;refine⟨_,_,_,_,rfl,rfl,eL,eM,by rw[gU];omega,fun m4 hm4=>?_⟩
  replace gl:=gl.app gn
  have bl:(zs3++ys4).length=14:=by rw[hG];omega
  generalize zs3++ys4=zs4 at gl bl ⊢;clear eL;obtain⟨M4,qN,s,eL⟩:=Zq (o:=.lst zs4) hm4;rw[qN];clear qN hm4
  replace S:=S.trans s
  replace aw:=aw.mono (lg s)
  replace aY:=aY.mono (lg s)
  replace aN:=aN.mono (lg s)
  replace aA:=aA.mono (lg s)
  replace aE:=aE.mono (lg s)
  replace gl:=gl.mono s
  clear s gn eM xl al;have al:=bl;clear bl;refine⟨_,rfl,?_⟩;have gn:PL K w M4 []:=PL.nil;refine⟨_,rfl,?_⟩;refine⟨_,rfl,?_⟩;refine⟨by rw[gU];simp,fun t46 h46=>?_⟩;obtain⟨G46,qN,s,e46⟩:=Zq (o:=(.tup [(.str "until"),v,(.ref t2)])) h46;rw[qN];clear qN h46
  replace S:=S.trans s
  replace aw:=aw.mono (lg s)
  replace aY:=aY.mono (lg s)
  replace aN:=aN.mono (lg s)
  replace aA:=aA.mono (lg s)
  replace aE:=aE.mono (lg s)
  replace gl:=gl.mono s
  replace gn:=gn.mono s
  replace eL:=s _ _ eL
  clear s;refine⟨_,rfl,?_⟩;refine⟨by rw[gU];simp,fun t47 h47=>?_⟩;obtain⟨G47,qN,s,e47⟩:=Zq (o:=(.tup [(.ref t46),(.ref t2)])) h47;rw[qN];clear qN h47
  replace S:=S.trans s
  replace aw:=aw.mono (lg s)
  replace aY:=aY.mono (lg s)
  replace aN:=aN.mono (lg s)
  replace aA:=aA.mono (lg s)
  replace aE:=aE.mono (lg s)
  replace gl:=gl.mono s
  replace gn:=gn.mono s
  replace eL:=s _ _ eL
  replace e46:=s _ _ e46
  clear s
  replace gn:PL K w G47 [(.ref t47)]:=PL.add gn (XE (t1:=(.node (.op "until") [w,nNo])) (t2:=nNo) e47 (V3 (lh e46) (by decide +kernel) aw aN) aN (vg (.inr rfl)) (Fwo.two (.op "until") (lm w) (Fwo.one (.op "not") (Fwo.yes w))) (Fwo.one (.op "not") (Fwo.yes w)))
  clear e46;clear e47;refine⟨_,rfl,?_⟩;refine⟨_,rfl,?_⟩;refine⟨by rw[gU];simp,fun t48 h48=>?_⟩;obtain⟨G48,qN,s,e48⟩:=Zq (o:=(.tup [v,(.ref t2)])) h48;rw[qN];clear qN h48
  replace S:=S.trans s
  replace aw:=aw.mono (lg s)
  replace aY:=aY.mono (lg s)
  replace aN:=aN.mono (lg s)
  replace aA:=aA.mono (lg s)
  replace aE:=aE.mono (lg s)
  replace gl:=gl.mono s
  replace gn:=gn.mono s
  replace eL:=s _ _ eL
  clear s;refine⟨by rw[gU];simp,fun t49 h49=>?_⟩;obtain⟨G49,qN,s,e49⟩:=Zq (o:=(.tup [(.str "and"),.ref t48])) h49;rw[qN];clear qN h49
  replace S:=S.trans s
  replace aw:=aw.mono (lg s)
  replace aY:=aY.mono (lg s)
  replace aN:=aN.mono (lg s)
  replace aA:=aA.mono (lg s)
  replace aE:=aE.mono (lg s)
  replace gl:=gl.mono s
  replace gn:=gn.mono s
  replace eL:=s _ _ eL
  replace e48:=s _ _ e48
  clear s;refine⟨_,rfl,?_⟩;refine⟨by rw[gU];simp,fun t50 h50=>?_⟩;obtain⟨G50,qN,s,e50⟩:=Zq (o:=(.tup [(.ref t49),(.ref t2)])) h50;rw[qN];clear qN h50
  replace S:=S.trans s
  replace aw:=aw.mono (lg s)
  replace aY:=aY.mono (lg s)
  replace aN:=aN.mono (lg s)
  replace aA:=aA.mono (lg s)
  replace aE:=aE.mono (lg s)
  replace gl:=gl.mono s
  replace gn:=gn.mono s
  replace eL:=s _ _ eL
  replace e48:=s _ _ e48
  replace e49:=s _ _ e49
  clear s
  replace gn:PL K w G50 [(.ref t47),(.ref t50)]:=PL.add gn (XE (t1:=(.node (.many "and") [w,nNo])) (t2:=nNo) e50 (XV (lh e49) (lh e48) (AtL.two aw aN) (.inl rfl) (by simp)) aN (al_andN (.inr rfl)) (Fwo.two (.many "and") (lm w) (Fwo.one (.op "not") (Fwo.yes w))) (Fwo.one (.op "not") (Fwo.yes w)))
  clear e48;clear e49;clear e50;refine⟨_,rfl,?_⟩;refine⟨_,rfl,?_⟩;refine⟨by rw[gU];simp,fun t51 h51=>?_⟩;obtain⟨G51,qN,s,e51⟩:=Zq (o:=(.tup [(.ref t2),v])) h51;rw[qN];clear qN h51
  replace S:=S.trans s
  replace aw:=aw.mono (lg s)
  replace aY:=aY.mono (lg s)
  replace aN:=aN.mono (lg s)
  replace aA:=aA.mono (lg s)
  replace aE:=aE.mono (lg s)
  replace gl:=gl.mono s
  replace gn:=gn.mono s
  replace eL:=s _ _ eL
  clear s;refine⟨by rw[gU];simp,fun t52 h52=>?_⟩;obtain⟨G52,qN,s,e52⟩:=Zq (o:=(.tup [(.str "and"),.ref t51])) h52;rw[qN];clear qN h52
  replace S:=S.trans s
  replace aw:=aw.mono (lg s)
  replace aY:=aY.mono (lg s)
  replace aN:=aN.mono (lg s)
  replace aA:=aA.mono (lg s)
  replace aE:=aE.mono (lg s)
  replace gl:=gl.mono s
  replace gn:=gn.mono s
  replace eL:=s _ _ eL
  replace e51:=s _ _ e51
  clear s;refine⟨_,rfl,?_⟩;refine⟨by rw[gU];simp,fun t53 h53=>?_⟩;obtain⟨G53,qN,s,e53⟩:=Zq (o:=(.tup [(.ref t52),(.ref t2)])) h53;rw[qN];clear qN h53
  replace S:=S.trans s
  replace aw:=aw.mono (lg s)
  replace aY:=aY.mono (lg s)
  replace aN:=aN.mono (lg s)
  replace aA:=aA.mono (lg s)
  replace aE:=aE.mono (lg s)
  replace gl:=gl.mono s
  replace gn:=gn.mono s
  replace eL:=s _ _ eL
  replace e51:=s _ _ e51
  replace e52:=s _ _ e52
  clear s
  replace gn:PL K w G53 [(.ref t47),(.ref t50),(.ref t53)]:=PL.add gn (XE (t1:=(.node (.many "and") [nNo,w])) (t2:=nNo) e53 (XV (lh e52) (lh e51) (AtL.two aN aw) (.inl rfl) (by simp)) aN (al_andN (.inl rfl)) (Fwo.two (.many "and") (Fwo.one (.op "not") (Fwo.yes w)) (lm w)) (Fwo.one (.op "not") (Fwo.yes w)))
  clear e51;clear e52;clear e53;have xl:([(.ref t47),(.ref t50),(.ref t53)]:List V).length=3:=rfl;refine⟨by rw[gU];simp,fun l5 hl5=>?_⟩;generalize ([(.ref t47),(.ref t50),(.ref t53)]:List V)=ys5 at gn xl ⊢;obtain⟨J5,qN,s,eM⟩:=Zq (o:=.lst ys5) hl5;rw[qN];clear qN hl5
  replace S:=S.trans s
  replace aw:=aw.mono (lg s)
  replace aY:=aY.mono (lg s)
  replace aN:=aN.mono (lg s)
  replace aA:=aA.mono (lg s)
  replace aE:=aE.mono (lg s)
  replace gl:=gl.mono s
  replace gn:=gn.mono s
  replace eL:=s _ _ eL
  clear s;refine⟨_,_,_,_,rfl,rfl,eL,eM,by rw[gU];omega,fun m5 hm5=>?_⟩
  replace gl:=gl.app gn
  have bl:(zs4++ys5).length=17:=by rw[hG];omega
  generalize zs4++ys5=zs5 at gl bl ⊢;clear eL;obtain⟨M5,qN,s,eL⟩:=Zq (o:=.lst zs5) hm5;rw[qN];clear qN hm5
  replace S:=S.trans s
  replace aw:=aw.mono (lg s)
  replace aY:=aY.mono (lg s)
  replace aN:=aN.mono (lg s)
  replace aA:=aA.mono (lg s)
  replace aE:=aE.mono (lg s)
  replace gl:=gl.mono s
  clear s gn eM xl al;have al:=bl;clear bl;refine⟨by rw[gU];simp,fun L hL=>?_⟩;obtain⟨J,qN,s,eW⟩:=Zq (o:=.lst [.str "next",.str "always",.str "ever"]) hL;rw[qN];clear qN hL
  replace S:=S.trans s
  replace aw:=aw.mono (lg s)
  replace aY:=aY.mono (lg s)
  replace aN:=aN.mono (lg s)
  replace aA:=aA.mono (lg s)
  replace aE:=aE.mono (lg s)
  replace gl:=gl.mono s
  replace eL:=s _ _ eL
  clear s;refine⟨L,rfl,⟨_,ll eW⟩,?_⟩;refine X3 (K:=K) (xs:=[V.str "next",V.str "always",V.str "ever"]) (fun i σ H'=>∃(z6:Option V) (p:Addr) (us:List V),σ=[some v,some (.ref t1),some (.ref t2),some (.ref p),some (.ref t24),some (.ref t25),z6]/\Za H H'/\H' L=some (.lst [V.str "next",V.str "always",V.str "ever"])/\At K 8 H' (.ref t1) Zn/\At K 8 H' (.ref t2) nNo/\H' p=some (.lst us)/\us.length=17+2*i/\PL K w H' us) ?_ ?_ ?_ ?_
  ·exact⟨_,_,_,rfl,S,eW,aY,aN,eL,al,gl⟩
  ·rintro i σ H' hi ⟨_,_,_,rfl,_,h,_⟩;exact ll h
  ·rintro i u σ H1 hu ⟨z6,p,us,rfl,s1,eW,aY,aN,eL,al,gl⟩;clear S;have S:=s1;clear s1;obtain⟨wd,rfl,hW3⟩:∃wd,u=V.str wd/\wd∈(["next", "always", "ever"]:List Str):=by
    have:=iO hu;simp only[ic,iK,iL] at this;rcases this with rfl|rfl|rfl<;>exact⟨_,rfl,by simp⟩
   have hW1:wd∈W1:=by
    simp only[ic,iK,iL] at hW3;rcases hW3 with rfl|rfl|rfl<;>decide +kernel
   have hi3:i<3:=(ib.mp hu).1;refine⟨_,rfl,?_⟩;have gn:PL K w H1 []:=PL.nil;refine⟨_,rfl,?_⟩;refine⟨_,rfl,?_⟩;refine⟨by rw[gU];simp,fun t54 h54=>?_⟩;obtain⟨G54,qN,s,e54⟩:=Zq (o:=(.tup [(.str wd),(.ref t1)])) h54;rw[qN];clear qN h54
   replace S:=S.trans s
   replace aY:=aY.mono (lg s)
   replace aN:=aN.mono (lg s)
   replace gl:=gl.mono s
   replace gn:=gn.mono s
   replace eL:=s _ _ eL
   replace eW:=s _ _ eW
   clear s;refine⟨_,rfl,?_⟩;refine⟨by rw[gU];simp,fun t55 h55=>?_⟩;obtain⟨G55,qN,s,e55⟩:=Zq (o:=(.tup [(.ref t54),(.ref t1)])) h55;rw[qN];clear qN h55
   replace S:=S.trans s
   replace aY:=aY.mono (lg s)
   replace aN:=aN.mono (lg s)
   replace gl:=gl.mono s
   replace gn:=gn.mono s
   replace eL:=s _ _ eL
   replace eW:=s _ _ eW
   replace e54:=s _ _ e54
   clear s
   replace gn:PL K w G55 [(.ref t55)]:=PL.add gn (XE (t1:=(.node (.op wd) [Zn])) (t2:=Zn) e55 (ZZ (lh e54) hW1 aY) aY (al_one hW3 (.inl rfl)) (Fwo.one (.op wd) (Fwo.yes w)) (Fwo.yes w))
   clear e54;clear e55;refine⟨_,rfl,?_⟩;refine⟨_,rfl,?_⟩;refine⟨by rw[gU];simp,fun t56 h56=>?_⟩;obtain⟨G56,qN,s,e56⟩:=Zq (o:=(.tup [(.str wd),(.ref t2)])) h56;rw[qN];clear qN h56
   replace S:=S.trans s
   replace aY:=aY.mono (lg s)
   replace aN:=aN.mono (lg s)
   replace gl:=gl.mono s
   replace gn:=gn.mono s
   replace eL:=s _ _ eL
   replace eW:=s _ _ eW
   clear s;refine⟨_,rfl,?_⟩;refine⟨by rw[gU];simp,fun t57 h57=>?_⟩;obtain⟨G57,qN,s,e57⟩:=Zq (o:=(.tup [(.ref t56),(.ref t2)])) h57;rw[qN];clear qN h57
   replace S:=S.trans s
   replace aY:=aY.mono (lg s)
   replace aN:=aN.mono (lg s)
   replace gl:=gl.mono s
   replace gn:=gn.mono s
   replace eL:=s _ _ eL
   replace eW:=s _ _ eW
   replace e56:=s _ _ e56
   clear s
   replace gn:PL K w G57 [(.ref t55),(.ref t57)]:=PL.add gn (XE (t1:=(.node (.op wd) [nNo])) (t2:=nNo) e57 (ZZ (lh e56) hW1 aN) aN (al_one hW3 (.inr rfl)) (Fwo.one (.op wd) (Fwo.one (.op "not") (Fwo.yes w))) (Fwo.one (.op "not") (Fwo.yes w)))
   clear e56;clear e57;have xl:([(.ref t55),(.ref t57)]:List V).length=2:=rfl;refine⟨by rw[gU];simp,fun l6 hl6=>?_⟩;generalize ([(.ref t55),(.ref t57)]:List V)=ys6 at gn xl ⊢;obtain⟨J6,qN,s,eM⟩:=Zq (o:=.lst ys6) hl6;rw[qN];clear qN hl6
   replace S:=S.trans s
   replace aY:=aY.mono (lg s)
   replace aN:=aN.mono (lg s)
   replace gl:=gl.mono s
   replace gn:=gn.mono s
   replace eL:=s _ _ eL
   replace eW:=s _ _ eW
   clear s;refine⟨_,_,_,_,rfl,rfl,eL,eM,by rw[gU];omega,fun m6 hm6=>?_⟩
   replace gl:=gl.app gn
   have bl:(us++ys6).length=17+2*(i+1):=by rw[hG];omega
   generalize us++ys6=zs6 at gl bl ⊢;clear eL;obtain⟨M6,qN,s,eL⟩:=Zq (o:=.lst zs6) hm6;rw[qN];clear qN hm6
   replace S:=S.trans s
   replace aY:=aY.mono (lg s)
   replace aN:=aN.mono (lg s)
   replace gl:=gl.mono s
   replace eW:=s _ _ eW
   clear s gn eM xl al;have al:=bl;clear bl;exact⟨_,_,_,rfl,S,eW,aY,aN,eL,al,gl⟩
  rintro σ H1 ⟨z6,p,us,rfl,s1,eW,aY,aN,eL,al,gl⟩;exact⟨_,rfl,k H1 p us s1 eL (by simp at al;omega) gl⟩
def Uu(K:W.Frag)(a:Adr):Sp:=fun vs H Q E=>∃(v:V) (b:Bt) (n:Nat),vs=[v]/\BAt K n H v b/\X8 b=true/\bsz b<=1000000/\∀H' e,Za H H'->E (.ref e) (some a.C_BadSentence) H'
theorem qM(T:Txt K mg a)(hw:w.params=a.Pm):Yq P w K mg base (CXe P w) 3 a.inner_ahead a.bo ["sentence"] (Uu K a):=by
 have dE:=Uz (P:=P) (w:=w) (base:=base) T hw;have aJ:=Xz (P:=P) (w:=w) (base:=base) T hw;refine fun_okX T.aG Yl (fun vs H Q E h=>?_) (fun gF A outer s H vs Q E hr h=>?_)
 ·obtain⟨v,b,n,rfl,_⟩:=h;rfl
 ·obtain⟨v,b,n,rfl,hat,hbad,hz,k⟩:=h;refine⟨_,(@Zb _ _ _ _ _ (@Zr _ _ (1) _ _ _ _ Yl.nd rfl (Or.inl rfl) (@ZT _ _ _ _ Y2) (by rfl) (.inl rfl)) (@Zb _ _ _ _ _ (@Zr _ _ (2) _ _ _ _ Yl.nd rfl (Or.inl rfl) (@ZT _ _ _ _ (@Zc _ _ _ (pv 0) (by rfl))) (by rfl) (.inl rfl)) (@Zb _ _ _ _ _ (qV PassesOwn.leaving (XB (K:=K) rfl (pv 2) (fun _=>rfl)) (@Zb _ _ _ _ _ (@Zr _ _ (3) _ _ _ _ Yl.nd rfl (Or.inl rfl) (pe_bm0 iT PySem.F.slot_list_pop PySem.F.type_list_pop mt_pop (pv 2)) (by rfl) (.inl rfl)) (@Zb _ _ _ _ _ (@ZI _ _ _ _ _ _ _ _ (@XO _ _ _ _ (Vj (Zp dE (hr.mono (by decide)) rfl T.dv T.cJ.kp T.du .nil Zw (@Zc _ _ _ (pv 3) (by rfl))))) (@Zg _ _ _ (ps_raise raises_cx rfl rfl T.cP T.d6 PySem.F.excBase_ValueError (@Zc _ _ _ Ze (by rfl)))) Zt) (@Zb _ _ _ _ _ (@YA _ _ _ _ (Wx iT i7 i8 Yv (pv 1) (@Zc _ _ _ (pv 3) (by rfl))) (by rfl)) (@Zg _ _ _ (@YA _ _ _ _ (Wx iT PySem.F.slot_list_extend PySem.F.type_list_extend (zr (K:=K) rfl) (pv 2) (@Zc _ _ _ (Zp aJ (hr.mono (by decide)) rfl T.bC T.bt.kp T.bB .nil Zw (@Zc _ _ _ (pv 3) (by rfl))) (by rfl))) (by rfl))))))) (@Zg _ _ _ (@Zo _ _ _ _ (pe_revK (K:=K) rfl (pv 1) (YQ (VL WI Zh)))))))),?_⟩;cases n with
  |zero=>exact hat.elim
  |succ n=>
   refine⟨by decide,fun F hF=>?_⟩;have s1:=Zl (o:=.lst []) hF;have e1:(upd H F (.lst [])) F=some (.lst []):=Zf;generalize upd H F (.lst [])=H1 at s1 e1 ⊢;refine⟨_,rfl,by rw[gU];simp,fun W hW=>?_⟩;have s2:=Zl (o:=.lst [v]) hW;have e2:(upd H1 W (.lst [v])) W=some (.lst [v]):=Zf;have nFW:F≠W:=ne_new e1 hW;have e1':=s2 _ _ e1;generalize upd H1 W (.lst [v])=H2 at s2 e2 e1' ⊢;have hW0:H W=none:=s1.free hW;have hb1:Yj [b]=true:=by simp[Yj,hbad]
   refine⟨fun m σ H'=>∃(z:Option V) (ws fs:List V) (tw:List Bt),σ=[some v,some (.ref F),some (.ref W),z]/\Za H H'/\H' F=some (.lst fs)/\H' W=some (.lst ws)/\XH K (n+1) H ws tw/\Yj tw=true/\fs.length+Xt tw<=1000000/\m=Xt tw,⟨_,_,[v],[],[b],rfl,s1.trans s2,e1',e2,XH.one hat,hb1,by simp[Xt];omega,rfl⟩,?_⟩;rintro m σ H3 ⟨z,ws,fs,tw,rfl,s3,hF3,hW3,aw,hbw,hsz,rfl⟩;have hwl:=Uf tw;have hwl2:=aw.1;have hne:ws≠[]:=fun e=>by
    subst e;have et:tw=[]:=iG.mp hwl2.symm;subst et;simp[Yj] at hbw
   refine⟨_,rfl,!ws.isEmpty,?tru,?_⟩
   case tru=>exact .inl ⟨_,ll hW3,rfl⟩
   have hws:ws.isEmpty=false:=by cases ws with|nil=>exact absurd rfl hne|cons x r=>rfl
   rw[hws];obtain⟨us,u,rs,r,ew,etw,aus,au⟩:=aw.last hne;subst ew etw;refine Xh ?_;refine⟨fun σ H'=>∃(z:Option V) (ws fs:List V) (tw:List Bt),σ=[some v,some (.ref F),some (.ref W),z]/\Za H H'/\H' F=some (.lst fs)/\H' W=some (.lst ws)/\XH K (n+1) H ws tw/\Yj tw=true/\fs.length+Xt tw<=1000000/\Xt tw<Xt (rs++[r]),?_,?_⟩
   ·rintro σ' H' ⟨z',ws',fs',tw',rfl,a1,a2,a3,a4,a5,a6,a7⟩;exact⟨_,a7,z',ws',fs',tw',rfl,a1,a2,a3,a4,a5,a6,rfl⟩
   refine⟨_,rfl,.inl ⟨rfl,_,ll hW3⟩,W,_,u,rfl,rfl,hW3,by simp,?_⟩;rw[List.dropLast_concat];have hF4:(upd H3 W (.lst us)) F=some (.lst fs):=Wh hF3 nFW;have hW4:(upd H3 W (.lst us)) W=some (.lst us):=Zf;have s4:Za H (upd H3 W (.lst us)):=((Za.x s3).upd).same hW0;generalize upd H3 W (.lst us)=H4 at hF4 hW4 s4 ⊢;rw[Vp] at hsz;rw[Vn] at hbw;cases r with
   |lf=>
    refine⟨_,rfl,u,false,rfl,.inr ⟨rfl,Fm.mono s4 au⟩,fun H5 s5=>⟨_,rfl,Xh ?_⟩⟩;exact⟨by decide,fun e=>k H5 e (s4.trans s5)⟩
   |nd c ks=>
    obtain⟨ad,vs7,eu,sh,ok,hl,hq⟩:=au;subst eu;have ok':lbOkB c vs7.length:=by rw[hl];exact ok
    refine⟨_,rfl,.ref ad,true,rfl,.inl ⟨rfl,ad,vs7,c,rfl,sh.mono (lg s4),ok'⟩,fun H5 s5=>⟨_,rfl,Yi ?_⟩⟩;have hF5:=s5 _ _ hF4;have hW5:=s5 _ _ hW4;have e7:Xt [Bt.nd c ks]=Xt ks+1:=by simp[Xt,bsz]
    have e8:Yj [Bt.nd c ks]=Yj ks:=by simp[Yj,X8]
    rw[e7] at hsz;rw[e8] at hbw;refine⟨_,rfl,.inl ⟨rfl,_,ll hF5⟩,_,rfl,F,_,_,rfl,rfl,hF5,by rw[gU];omega,?_⟩;have hF6:(upd H5 F (.lst (fs++[.ref ad]))) F=some (.lst (fs++[.ref ad])):=Zf;have hW6:(upd H5 F (.lst (fs++[.ref ad]))) W=some (.lst us):=Wh hW5 (ie nFW);have s6:Za H (upd H5 F (.lst (fs++[.ref ad]))):=((Za.x (s4.trans s5)).upd).same hF;generalize upd H5 F (.lst (fs++[.ref ad]))=H6 at hF6 hW6 s6 ⊢;refine⟨_,rfl,.inl ⟨rfl,_,ll hW6⟩,_,rfl,.ref ad,ad,vs7,c,rfl,rfl,sh.mono (lg s6),ok',fun H7 b7 s7 eb=>?_⟩;have hW7:=s7 _ _ hW6;have hul:=aus.1;have hl1:=Uf rs;have hl2:=Uf ks;refine⟨W,b7,_,_,rfl,rfl,hW7,eb,by rw[gU];omega,?_⟩;refine⟨_,us++vs7,fs++[.ref ad],rs++ks,rfl,((Za.x (s6.trans s7)).upd).same hW0,Wh (s7 _ _ hF6) nFW,Zf,aus.app (XH.le ⟨hl,hq⟩ (jE n)),?_,?_,?_⟩
    ·rw[Vn];exact hbw
    ·rw[Vp,hG,iY];omega
    ·rw[Vp,Vp,e7];omega
def zB(K:W.Frag)(a:Adr):Sp:=fun vs H Q E=>∃(v:V) (b:Bt) (n:Nat),vs=[v]/\BAt K n H v b/\X8 b=true/\bsz b<=1000000/\∀H' e,Za H H'->E (.ref e) (some a.C_BadSentence) H'
theorem vF(T:Txt K mg a)(hw:w.params=a.Pm):Yq P w K mg base (CXe P w) 7 a.shorter a.cu ["sentence"] (zB K a):=by
 have br:=Wd (P:=P) (w:=w) (base:=base) T hw;have aJ:=Xz (P:=P) (w:=w) (base:=base) T hw;have cQ:=Vo (P:=P) (w:=w) (base:=base) T hw;have bQ:=WF (P:=P) (w:=w) (base:=base) T hw;have Z_inner_ahead:=qM (P:=P) (w:=w) (base:=base) T hw;refine fun_okX T.bp YK (fun vs H Q E h=>?_) (fun gF A outer s H vs Q E hr h=>?_)
 ·obtain⟨v,b,n,rfl,_⟩:=h;rfl
 ·obtain⟨v,b,n,rfl,hat,hbad,hz,k⟩:=h;refine⟨_,(@Zb _ _ _ _ _ (@Zr _ _ (1) _ _ _ _ YK.nd rfl (Or.inl rfl) (za T.fg cQ (hr.mono (by decide)) rfl T.fB T.cK .nil Zw) (by rfl) (.inl rfl)) (@Zb _ _ _ _ _ (@Zr _ _ (2) _ _ _ _ YK.nd rfl (Or.inl rfl) (@ZT _ _ _ _ Y2) (by rfl) (.inl rfl)) (@Zb _ _ _ _ _ (Xw PassesOwn.leaving rfl (Yr (K:=K) rfl (Zp Z_inner_ahead (hr.mono (by decide)) rfl T.bj T.aG.kp T.bi .nil passes_cx (@Zc _ _ _ (pv 0) (by rfl)))) (ZY (i:=3) YK.nd rfl (Or.inl rfl)) (@Zb _ _ _ _ _ (@Zr _ _ (4) _ _ _ _ YK.nd rfl (Or.inl rfl) (Zp br (hr.mono (by decide)) rfl T.bU T.bA.kp T.bT .nil Zw (@Zd _ _ _ _ _ (pv 2) (@Zc _ _ _ (ZB (ZK (K:=K) rfl) rfl T.bL lr (@Zc _ _ _ (Zp aJ (hr.mono (by decide)) rfl T.bC T.bt.kp T.bB .nil Zw (@Zc _ _ _ (pv 3) (by rfl))) (by rfl))) (by rfl)) (by rfl))) (by rfl) (.inl rfl)) (@Zg _ _ _ (@YA _ _ _ _ (Wx iT i7 i8 Yv (pv 2) (@Zc _ _ _ (Ys (pv 1) T.aa T.bO bQ (hr.mono (by decide)) T.bN .nil Zw (@Zd _ _ _ _ _ (pv 3) (@Zc _ _ _ (pv 4) (by rfl)) (by rfl))) (by rfl))) (by rfl))))) (@Zg _ _ _ (@Zo _ _ _ _ (@ZA _ _ _ _ _ _ _ (Zz (K:=K) rfl) (ZM (K:=K) rfl (ZM (K:=K) rfl (pv 1) rfl) rfl) (@ZA _ _ _ _ _ _ _ (ZJ (K:=K) rfl) (@ZA _ _ _ _ _ _ _ (Zz (K:=K) rfl) (pv 2) Zh (fun _ _=>rfl)) Zh (fun _ _=>rfl)) (fun _ _=>rfl))))))),?_⟩;refine fun x dt nx ndt nex=>⟨x,dt,rfl,Zf,fun H0 S P R D x0 S0 P0 R0 D0 sh0=>⟨rfl,?_⟩⟩;have s00:=zi (o:=.own x) (o':=.ins a.C_Shorts dt []) nx ndt;have s0:Za H H0:=fun b u e=>x0 _ _ (Zy e nx) (s00 _ _ e);refine⟨by decide,fun F hF=>?_⟩;have s1:=s0.trans (Zl (o:=.lst []) hF);exact⟨_,rfl,v,b,n,rfl,hat.mono s1,hbad,hz,fun H' e s'=>k H' e (s1.trans s')⟩
theorem ty_lst{H:Hp}{a:Addr}{xs:List V}(e:H a=some (.lst xs)){T:String}(h:(T == "list")=false:=by rfl):Xu H T (.ref a)=false:=by
 simp only[Xu,e];exact h
def Gd(K:W.Frag)(G:Hp)(x:V):Prop:=∃b,BAt K 4 G x b/\X8 b=true/\bsz b<=10
theorem Gd.mono{K:W.Frag}{G G':Hp}{x:V}(h:Gd K G x)(s:Za G G'):Gd K G' x:=let ⟨b,h1,h2⟩:=h; ⟨b,h1.mono s,h2⟩
def GL(K:W.Frag)(G:Hp)(xs:List V):Prop:=∀x∈xs,Gd K G x
theorem GL.mono{K:W.Frag}{G G':Hp}{xs:List V}(h:GL K G xs)(s:Za G G'):GL K G' xs:=fun x hx=>(h x hx).mono s
theorem GL.nil{K:W.Frag}{G:Hp}:GL K G []:=fun x hx=>by cases hx
theorem GL.add{K:W.Frag}{G:Hp}{xs:List V}{v:V}(h:GL K G xs)(g:Gd K G v):GL K G (xs++[v]):=fun x hx=>by
 rcases iH.mp hx with hx|hx
 ·exact h x hx
 ·rw[iW.mp hx];exact g
theorem GL.app{K:W.Frag}{G:Hp}{xs ys:List V}(h:GL K G xs)(g:GL K G ys):GL K G (xs++ys):=fun x hx=>by
 rcases iH.mp hx with hx|hx
 ·exact h x hx
 ·exact g x hx
theorem X2{K:W.Frag}{G:Hp}{x:V}(h:Fm K G x):Gd K G x:=⟨.lf,h,rfl,by decide⟩
theorem b_lf{K:W.Frag}{G:Hp}{x:V}(n:Nat)(h:Fm K G x):BAt K (n+1) G x .lf:=h
theorem gd_op1{K:W.Frag}{G:Hp}{t:Addr}{w:Str}{u:V}(h:SqT K G t [.str w,u])(hw:w∈W1)(g:Fm K G u):Gd K G (.ref t):=
 ⟨.nd (.op w) [.lf],⟨t,[u],rfl,h,.inl ⟨hw,rfl⟩,rfl,(XH.one (b_lf 2 g)).2⟩,rfl,by simp[bsz,Xt]⟩
theorem lf_sz{t:Tr}(h:t∈LF):bsz (bOf t)<=2:=by
 rw[bsz_of];simp only[LF,ic,iK,iL] at h;rcases h with rfl|rfl|rfl|rfl|rfl<;>decide +kernel
theorem gd_since{K:W.Frag}{G:Hp}{t:Addr}{v:V}{u:Tr}(h:SqT K G t [.str "since",v,.non])(aw:At K 2 G v u)(hu:u∈LF):Gd K G (.ref t):=
 ⟨.nd (.op "since") [bOf u,.lf],⟨t,[v,.non],rfl,h,.inr ⟨by decide +kernel,rfl⟩,rfl,((XH.one ((aw.bat).le (by decide))).app (XH.one (b_lf 2 (.noT .non rfl)))).2⟩,by simp[X8,Yj],by have:=lf_sz hu;simp[bsz,Xt];omega⟩
theorem gd_or{K:W.Frag}{G:Hp}{t:Addr}{v:V}{u:Tr}(h:SqT K G t [.str "or",v])(aw:At K 2 G v u)(hu:u∈LF):Gd K G (.ref t):=by
 have st:∀z:Str,z.length<=1000->BAt K 3 G (.str z) .lf:=fun z hz=>b_lf 2 (.noT (.str _ hz) rfl);obtain⟨b,us,rfl,sh,ok,hl,hq⟩:=aw;simp only[LF,ic,iK,iL] at hu;have sg:∀z:Str,z.length<=1000->SqT K G b [.str "sign",.str z]->Gd K G (.ref t):=fun z hz hb=>⟨.nd (.many "or") [.lf,.lf],⟨t,[.str "sign",.str z],rfl,⟨b,h,hb⟩,⟨.inr rfl,by decide⟩,rfl,((XH.one (st _ (by decide +kernel))).app (XH.one (st _ hz))).2⟩,rfl,by simp[bsz,Xt]⟩;rcases hu with rfl|rfl|rfl|rfl|rfl
 ·exact sg _ (by decide +kernel) sh.2
 ·exact sg _ (by decide +kernel) sh.2
 ·exact sg _ (by decide +kernel) sh.2
 ·exact⟨.nd (.many "or") [.lf],⟨t,[.str "yes"],rfl,⟨b,h,sh.2⟩,⟨.inr rfl,by decide⟩,rfl,(XH.one (st _ (by decide +kernel))).2⟩,rfl,by simp[bsz,Xt]⟩
 ·have hl':us.length=1:=hl;obtain⟨y,rfl⟩:∃y,us=[y]:=by
   match us,hl' with
   |[y],_=>exact⟨y,rfl⟩
  have hy:=(hq 0 y Zn rfl rfl).bat;exact⟨.nd (.many "or") [.lf,bOf Zn],⟨t,[.str "not",y],rfl,⟨b,h,sh⟩,⟨.inr rfl,by decide⟩,rfl,((XH.one (st _ (by decide +kernel))).app (XH.one (hy.le (by decide)))).2⟩,by simp[X8,Yj],by
   have:bsz (bOf Zn)<=2:=lf_sz (by simp[LF]);simp[bsz,Xt];omega⟩
def Bd(K:W.Frag)(n s:Nat)(G:Hp)(x:V):Prop:=∃b,BAt K n G x b/\X8 b=true/\bsz b<=s
theorem Gd.b{K:W.Frag}{G:Hp}{x:V}(h:Gd K G x):Bd K 4 10 G x:=h
theorem Bd.op1{K:W.Frag}{n s:Nat}{G:Hp}{x:V}{t:Addr}{w:Str}(g:Bd K n s G x)(h:SqT K G t [.str w,x])(hw:w∈W1):Bd K (n+1) (s+1) G (.ref t):=by
 obtain⟨b,h1,h2,h3⟩:=g;exact⟨.nd (.op w) [b],⟨t,[x],rfl,h,.inl ⟨hw,rfl⟩,rfl,(XH.one h1).2⟩,by simp[X8,Yj,h2],by simp[bsz,Xt];omega⟩
theorem Bd.op2{K:W.Frag}{n s:Nat}{G:Hp}{x y:V}{u:Tr}{t:Addr}{w:Str}(g:Bd K (n+2) s G x)(h:SqT K G t [.str w,x,y])(hw:w∈W2)(aw:At K 2 G y u)(hu:psz u<=2:=by decide +kernel):Bd K (n+3) (s+3) G (.ref t):=by
 obtain⟨b,h1,h2,h3⟩:=g;have e:=bsz_of u;have hu':(post u).length<=2:=hu;exact⟨.nd (.op w) [b,bOf u],⟨t,[x,y],rfl,h,.inr ⟨hw,rfl⟩,rfl,((XH.one h1).app (XH.one ((aw.bat).le (by omega)))).2⟩,by simp[X8,Yj,h2],by simp[bsz,Xt];omega⟩
theorem Bd.mny{K:W.Frag}{n s:Nat}{G:Hp}{x y:V}{u:Tr}{t c:Addr}(g:Bd K (n+2) s G x)(h:SqT K G t [.str "and",.ref c])(hc:SqT K G c [y,x])(aw:At K 2 G y u)(hu:u∈LF):Bd K (n+3) (s+3) G (.ref t):=by
 obtain⟨b,h1,h2,h3⟩:=g;have e:=lf_sz hu;exact⟨.nd (.many "and") [bOf u,b],⟨t,[y,x],rfl,⟨c,h,hc⟩,⟨.inl rfl,by simp⟩,rfl,((XH.one ((aw.bat).le (by omega))).app (XH.one h1)).2⟩,by simp[X8,Yj,h2],by simp[bsz,Xt];omega⟩
def BL(K:W.Frag)(G:Hp)(xs:List V):Prop:=∀x∈xs,∃b n,BAt K n G x b/\X8 b=true/\bsz b<=1000000
theorem BL.mono{K:W.Frag}{G G':Hp}{xs:List V}(h:BL K G xs)(s:Za G G'):BL K G' xs:=fun x hx=>let ⟨b,n,h1,h2⟩:=h x hx; ⟨b,n,h1.mono s,h2⟩
theorem BL.nil{K:W.Frag}{G:Hp}:BL K G []:=fun x hx=>by cases hx
theorem BL.add{K:W.Frag}{G:Hp}{xs:List V}{v:V}{n s:Nat}(h:BL K G xs)(g:Bd K n s G v)(hs:s<=1000000:=by decide):BL K G (xs++[v]):=fun x hx=>by
 rcases iH.mp hx with hx|hx
 ·exact h x hx
 ·rw[iW.mp hx];obtain⟨b,h1,h2,h3⟩:=g;exact⟨b,n,h1,h2,by omega⟩
def qh(K:W.Frag)(a:Adr):Sp:=fun vs H Q _=>∃(v:V) (c:Int) (t:Tr),vs=[v,.int c]/\At K 2 H v t/\t∈LF/\∀H',Za H H'->Q (.bl true) H'
theorem qb(T:Txt K mg a)(hw:w.params=a.Pm):Yq P w K mg base CX0 8 a._law_refused a.bv ["_law_w", "_law_cell"] (qh K a):=by
 have bX:=zo (P:=P) (w:=w) (base:=base) T hw;have Z_shorter:=vF (P:=P) (w:=w) (base:=base) T hw;refine T.cp.ok Z0 (fun vs H Q E h=>?_) (fun gF A outer s H vs Q E hr h=>?_)
 ·obtain⟨v,c,t,rfl,_⟩:=h;rfl
 ·obtain⟨v,c,t,rfl,hat,htl,k⟩:=h;refine⟨_,(@Zb _ _ _ _ _ (@Zr _ _ (2) _ _ _ _ Z0.nd rfl (Or.inl rfl) (@ZT _ _ _ _ (@ZD _ _ _ _ _ pe_non (@ZD _ _ _ _ _ (@Zj _ _ _ _ _ Y2) (@ZD _ _ _ _ _ (@Zj _ _ _ _ _ (@Zd _ _ _ _ _ Ze (@Zc _ _ _ Zh (by rfl)) (by rfl))) (@ZD _ _ _ _ _ (@Zj _ _ _ _ _ (@Zd _ _ _ _ _ Ze (@Zc _ _ _ (pv 0) (by rfl)) (by rfl))) (@ZD _ _ _ _ _ (@Zj _ _ _ _ _ (@ZD _ _ _ _ _ Ze (@ZD _ _ _ _ _ Zh (@ZD _ _ _ _ _ (pv 0) (@Ym _ _ _ (pv 0) (by rfl)) (by rfl)) (by rfl)) (by rfl))) (@ZD _ _ _ _ _ (@Zj _ _ _ _ _ (@ZD _ _ _ _ _ Ze (@ZD _ _ _ _ _ Vl (@ZD _ _ _ _ _ (pv 0) (@Ym _ _ _ (pv 0) (by rfl)) (by rfl)) (by rfl)) (by rfl))) (@Ym _ _ _ (@Zj _ _ _ _ _ (@ZD _ _ _ _ _ Ze (@ZD _ _ _ _ _ (VL WI Zh) (@ZD _ _ _ _ _ (pv 0) (@Ym _ _ _ (pv 0) (by rfl)) (by rfl)) (by rfl)) (by rfl))) (by rfl)) (by rfl)) (by rfl)) (by rfl)) (by rfl)) (by rfl)) (by rfl))) (by rfl) (.inl rfl)) (@Zb _ _ _ _ _ (@Zr _ _ (2) _ _ _ _ Z0.nd rfl (Or.inl rfl) (@ZE _ _ _ _ _ _ _ _ WZ (pv 2) (@ZT _ _ _ _ (@ZD _ _ _ _ _ (@Zj _ _ _ _ _ (@Zd _ _ _ _ _ Ze (@Zc _ _ _ Ze (by rfl)) (by rfl))) (@ZD _ _ _ _ _ (@ZT _ _ _ _ (@Zc _ _ _ Ze (by rfl))) (@ZD _ _ _ _ _ (@Zj _ _ _ _ _ (@Zd _ _ _ _ _ Ze (@Zc _ _ _ (@ZT _ _ _ _ (@Zc _ _ _ (pv 0) (by rfl))) (by rfl)) (by rfl))) (@ZD _ _ _ _ _ (@Zj _ _ _ _ _ (@Zd _ _ _ _ _ Ze (@Zc _ _ _ (pv 0) (by rfl)) (by rfl))) (@ZD _ _ _ _ _ (@Zj _ _ _ _ _ (@Zd _ _ _ _ _ Ze (@Zc _ _ _ Ze (by rfl)) (by rfl))) (@ZD _ _ _ _ _ (@Zj _ _ _ _ _ (@Zc _ _ _ Ze (by rfl))) (@ZD _ _ _ _ _ Ze (@Ym _ _ _ (@Zj _ _ _ _ _ (@ZD _ _ _ _ _ Ze (@ZD _ _ _ _ _ (pv 0) (@Ym _ _ _ (pv 0) (by rfl)) (by rfl)) (by rfl))) (by rfl)) (by rfl)) (by rfl)) (by rfl)) (by rfl)) (by rfl)) (by rfl)) (by rfl)))) (by rfl) (.inl rfl)) (@Zb _ _ _ _ _ (@Zr _ _ (2) _ _ _ _ Z0.nd rfl (Or.inl rfl) (@ZE _ _ _ _ _ _ _ _ WZ (pv 2) (@ZT _ _ _ _ (@ZD _ _ _ _ _ (@Zj _ _ _ _ _ (@Zd _ _ _ _ _ Ze (@Zc _ _ _ Ze (by rfl)) (by rfl))) (@ZD _ _ _ _ _ (@Zj _ _ _ _ _ (@Zd _ _ _ _ _ Ze (@Zc _ _ _ (pv 0) (by rfl)) (by rfl))) (@ZD _ _ _ _ _ (@Zj _ _ _ _ _ (@Zd _ _ _ _ _ Zh (@Zc _ _ _ (pv 0) (by rfl)) (by rfl))) (@ZD _ _ _ _ _ (@Zj _ _ _ _ _ (@ZD _ _ _ _ _ Ze (@ZD _ _ _ _ _ (pv 0) (@Ym _ _ _ pe_non (by rfl)) (by rfl)) (by rfl))) (@Ym _ _ _ (@Zj _ _ _ _ _ (@Zd _ _ _ _ _ Ze (@Zc _ _ _ Ze (by rfl)) (by rfl))) (by rfl)) (by rfl)) (by rfl)) (by rfl)) (by rfl)))) (by rfl) (.inl rfl)) (@Zb _ _ _ _ _ (@Zr _ _ (3) _ _ _ _ Z0.nd rfl (Or.inl rfl) (@ZA _ _ _ _ _ _ _ (Zz (K:=K) rfl) (pv 2) (@ZE _ _ _ _ _ _ _ _ Xx (pv 1) (ZB (ZK (K:=K) rfl) rfl T.bL lr (@Zc _ _ _ (pv 2) (by rfl)))) (fun _ _=>rfl)) (by rfl) (.inl rfl)) (@Zb _ _ _ _ _ (Xw iS rfl (Yr (K:=K) rfl (@ZT _ _ _ _ (@ZD _ _ _ _ _ (pv 3) (@ZD _ _ _ _ _ (@Zj _ _ _ _ _ (@Zd _ _ _ _ _ Ze (@Zc _ _ _ (pv 3) (by rfl)) (by rfl))) (@ZD _ _ _ _ _ (@Zj _ _ _ _ _ (@Zd _ _ _ _ _ Ze (@Zc _ _ _ (@Zj _ _ _ _ _ (@Zd _ _ _ _ _ (pv 0) (@Zc _ _ _ (pv 3) (by rfl)) (by rfl))) (by rfl)) (by rfl))) (@ZD _ _ _ _ _ (@Zj _ _ _ _ _ (@Zd _ _ _ _ _ Ze (@Zc _ _ _ (@Zj _ _ _ _ _ (@Zd _ _ _ _ _ Ze (@Zc _ _ _ (pv 3) (by rfl)) (by rfl))) (by rfl)) (by rfl))) (@Ym _ _ _ (@Zj _ _ _ _ _ (@ZD _ _ _ _ _ Ze (@ZD _ _ _ _ _ (pv 3) (@Ym _ _ _ (@Zj _ _ _ _ _ (@Zc _ _ _ Ze (by rfl))) (by rfl)) (by rfl)) (by rfl))) (by rfl)) (by rfl)) (by rfl)) (by rfl)) (by rfl)))) (ZY (i:=4) Z0.nd rfl (Or.inl rfl)) (@Zb _ _ _ _ _ (@Zr _ _ (5) _ _ _ _ Z0.nd rfl (Or.inl rfl) Vl (by rfl) (.inl rfl)) (@Zb _ _ _ _ _ (ps_try (i:=6) rfl rfl Z0.nd rfl rfl rfl T.cP (psx_expr (pex_call Z_shorter (hr.mono (by decide)) rfl T.bK T.bp.kp T.bJ (@Zc _ _ _ (pv 4) (by rfl)))) (fun _=>(@Zg _ _ _ (@Zr _ _ (5) _ _ _ _ Z0.nd rfl (Or.inl rfl) (Vs (ZB (xX (K:=K) rfl (c:=.ty "ValueError") (.inr ⟨_,rfl⟩)) rfl T.aH ln (@Zd _ _ _ _ _ (pv 6) (@Zc _ _ _ (WX (v:=.ty "ValueError") rfl T.eI PyProof.Rows.Boot.«ValueError» rfl) (by rfl)) (by rfl))) (V0 (pe_not (ZB (xX (K:=K) rfl (c:=.ref a.C_NoAhead) (.inl ⟨_,rfl⟩)) rfl T.aH ln (@Zd _ _ _ _ _ (pv 6) (@Zc _ _ _ (Wl (v:=.ref a.C_NoAhead) rfl ⟨_,T.fK,rfl⟩) (by rfl)) (by rfl)))))) (by rfl) (.inl rfl))))) (@Zg _ _ _ (@ZI _ _ _ _ _ _ _ _ (@XO _ _ _ _ (XB (K:=K) rfl (pv 5) (fun _=>rfl))) (@Zg _ _ _ (@Zo _ _ _ _ Vl)) Zt))))) (@Zg _ _ _ (@Zo _ _ _ _ Vl))))))),?_⟩;have S:Za H H:=.refl _;have aw:=hat;have gn:GL K H []:=GL.nil
  replace gn:GL K H [.non]:=GL.add gn (X2 (.noT .non rfl))
  refine⟨by rw[gU];simp,fun t1 h1=>?_⟩;obtain⟨G1,qN,s1,e1⟩:=Zq (o:=(.tup [])) h1;rw[qN];clear qN h1
  replace S:=S.trans s1
  replace aw:=aw.mono (lg s1)
  replace gn:=gn.mono s1
  clear s1
  replace gn:GL K G1 [.non,(.ref t1)]:=GL.add gn (X2 (.emp (lh e1)))
  clear e1;refine⟨by rw[gU];simp,fun t2 h2=>?_⟩;obtain⟨G2,qN,s2,e2⟩:=Zq (o:=(.tup [(.str "yes"),(.int 1)])) h2;rw[qN];clear qN h2
  replace S:=S.trans s2
  replace aw:=aw.mono (lg s2)
  replace gn:=gn.mono s2
  clear s2
  replace gn:GL K G2 [.non,(.ref t1),(.ref t2)]:=GL.add gn (X2 (.yes (lh e2) (by simp)))
  clear e2;refine⟨_,rfl,?_⟩;refine⟨by rw[gU];simp,fun t3 h3=>?_⟩;obtain⟨G3,qN,s3,e3⟩:=Zq (o:=(.tup [(.str "until"),v])) h3;rw[qN];clear qN h3
  replace S:=S.trans s3
  replace aw:=aw.mono (lg s3)
  replace gn:=gn.mono s3
  clear s3
  replace gn:GL K G3 [.non,(.ref t1),(.ref t2),(.ref t3)]:=GL.add gn (X2 (.lens (i:=3) (lh e3) (by decide +kernel) (by decide +kernel) (by simp)))
  clear e3;refine⟨_,rfl,?_⟩;refine⟨_,rfl,?_⟩;refine⟨by rw[gU];simp,fun t4 h4=>?_⟩;obtain⟨G4,qN,s4,e4⟩:=Zq (o:=(.tup [(.str "within"),(.int 6),v,v])) h4;rw[qN];clear qN h4
  replace S:=S.trans s4
  replace aw:=aw.mono (lg s4)
  replace gn:=gn.mono s4
  clear s4
  replace gn:GL K G4 [.non,(.ref t1),(.ref t2),(.ref t3),(.ref t4)]:=GL.add gn (X2 (.witM (lh e4) (by decide)))
  clear e4;refine⟨_,rfl,?_⟩;refine⟨_,rfl,?_⟩;refine⟨by rw[gU];simp,fun t5 h5=>?_⟩;obtain⟨G5,qN,s5,e5⟩:=Zq (o:=(.tup [(.str "within"),(.bl true),v,v])) h5;rw[qN];clear qN h5
  replace S:=S.trans s5
  replace aw:=aw.mono (lg s5)
  replace gn:=gn.mono s5
  clear s5
  replace gn:GL K G5 [.non,(.ref t1),(.ref t2),(.ref t3),(.ref t4),(.ref t5)]:=GL.add gn (X2 (.witN (lh e5) (.bl _) rfl))
  clear e5;refine⟨_,rfl,?_⟩;refine⟨_,rfl,?_⟩;refine⟨_,rfl,?_⟩;refine⟨by rw[gU];simp,fun t6 h6=>?_⟩;obtain⟨G6,qN,s6,e6⟩:=Zq (o:=(.tup [(.str "within"),(.int (-1)),v,v])) h6;rw[qN];clear qN h6
  replace S:=S.trans s6
  replace aw:=aw.mono (lg s6)
  replace gn:=gn.mono s6
  clear s6
  replace gn:GL K G6 [.non,(.ref t1),(.ref t2),(.ref t3),(.ref t4),(.ref t5),(.ref t6)]:=GL.add gn (X2 (.witM (lh e6) (by decide)))
  clear e6;have xl:([.non,(.ref t1),(.ref t2),(.ref t3),(.ref t4),(.ref t5),(.ref t6)]:List V).length=7:=rfl;refine⟨by rw[gU];simp,fun l0 hl0=>?_⟩;generalize ([.non,(.ref t1),(.ref t2),(.ref t3),(.ref t4),(.ref t5),(.ref t6)]:List V)=ys0 at gn xl ⊢;obtain⟨J0,qN,s,eM⟩:=Zq (o:=.lst ys0) hl0;rw[qN];clear qN hl0
  replace S:=S.trans s
  replace aw:=aw.mono (lg s)
  replace gn:=gn.mono s
  clear s;have gl:=gn;have eL:=eM;have al:=xl;clear gn eM xl;refine⟨_,rfl,?_⟩;have gn:GL K J0 []:=GL.nil;refine⟨by rw[gU];simp,fun t7 h7=>?_⟩;obtain⟨G7,qN,s7,e7⟩:=Zq (o:=(.tup [(.str "sign"),(.str "Ab")])) h7;rw[qN];clear qN h7
  replace S:=S.trans s7
  replace aw:=aw.mono (lg s7)
  replace gl:=gl.mono s7
  replace gn:=gn.mono s7
  replace eL:=s7 _ _ eL
  clear s7
  replace gn:GL K G7 [(.ref t7)]:=GL.add gn (X2 (.sgn (lh e7) (.str _ (by decide +kernel)) (by decide +kernel)))
  clear e7;refine⟨by rw[gU];simp,fun t8 h8=>?_⟩;obtain⟨G8,qN,s8,e8⟩:=Zq (o:=(.lst [(.str "yes")])) h8;rw[qN];clear qN h8
  replace S:=S.trans s8
  replace aw:=aw.mono (lg s8)
  replace gl:=gl.mono s8
  replace gn:=gn.mono s8
  replace eL:=s8 _ _ eL
  clear s8
  replace gn:GL K G8 [(.ref t7),(.ref t8)]:=GL.add gn (X2 (.noT (.lst e8) (ty_lst e8)))
  clear e8;refine⟨_,rfl,?_⟩;refine⟨by rw[gU];simp,fun t9 h9=>?_⟩;obtain⟨G9,qN,s9,e9⟩:=Zq (o:=(.lst [v])) h9;rw[qN];clear qN h9
  replace S:=S.trans s9
  replace aw:=aw.mono (lg s9)
  replace gl:=gl.mono s9
  replace gn:=gn.mono s9
  replace eL:=s9 _ _ eL
  clear s9;refine⟨by rw[gU];simp,fun t10 h10=>?_⟩;obtain⟨G10,qN,s10,e10⟩:=Zq (o:=(.tup [(.str "and"),(.ref t9)])) h10;rw[qN];clear qN h10
  replace S:=S.trans s10
  replace aw:=aw.mono (lg s10)
  replace gl:=gl.mono s10
  replace gn:=gn.mono s10
  replace eL:=s10 _ _ eL
  replace e9:=s10 _ _ e9
  clear s10
  replace gn:GL K G10 [(.ref t7),(.ref t8),(.ref t10)]:=GL.add gn (X2 (.manyN (by decide +kernel) (lh e10) (.lst e9) (ty_lst e9)))
  clear e9;clear e10;refine⟨_,rfl,?_⟩;refine⟨by rw[gU];simp,fun t11 h11=>?_⟩;obtain⟨G11,qN,s11,e11⟩:=Zq (o:=(.tup [(.str "or"),v])) h11;rw[qN];clear qN h11
  replace S:=S.trans s11
  replace aw:=aw.mono (lg s11)
  replace gl:=gl.mono s11
  replace gn:=gn.mono s11
  replace eL:=s11 _ _ eL
  clear s11
  replace gn:GL K G11 [(.ref t7),(.ref t8),(.ref t10),(.ref t11)]:=GL.add gn (gd_or (lh e11) aw htl)
  clear e11;refine⟨by rw[gU];simp,fun t12 h12=>?_⟩;obtain⟨G12,qN,s12,e12⟩:=Zq (o:=(.tup [(.str "sign"),(.str "")])) h12;rw[qN];clear qN h12
  replace S:=S.trans s12
  replace aw:=aw.mono (lg s12)
  replace gl:=gl.mono s12
  replace gn:=gn.mono s12
  replace eL:=s12 _ _ eL
  clear s12
  replace gn:GL K G12 [(.ref t7),(.ref t8),(.ref t10),(.ref t11),(.ref t12)]:=GL.add gn (X2 (.sgn (lh e12) (.str _ (by decide +kernel)) (by decide +kernel)))
  clear e12;refine⟨by rw[gU];simp,fun t13 h13=>?_⟩;obtain⟨G13,qN,s13,e13⟩:=Zq (o:=(.tup [(.str "all")])) h13;rw[qN];clear qN h13
  replace S:=S.trans s13
  replace aw:=aw.mono (lg s13)
  replace gl:=gl.mono s13
  replace gn:=gn.mono s13
  replace eL:=s13 _ _ eL
  clear s13
  replace gn:GL K G13 [(.ref t7),(.ref t8),(.ref t10),(.ref t11),(.ref t12),(.ref t13)]:=GL.add gn (X2 (.lens (i:=2) (lh e13) (by decide +kernel) (by decide +kernel) (by simp)))
  clear e13
  replace gn:GL K G13 [(.ref t7),(.ref t8),(.ref t10),(.ref t11),(.ref t12),(.ref t13),(.str "yes")]:=GL.add gn (X2 (.noT (.str _ (by decide +kernel)) rfl))
  refine⟨_,rfl,?_⟩;refine⟨_,rfl,?_⟩;refine⟨by rw[gU];simp,fun t14 h14=>?_⟩;obtain⟨G14,qN,s14,e14⟩:=Zq (o:=(.tup [(.str "next"),v,v])) h14;rw[qN];clear qN h14
  replace S:=S.trans s14
  replace aw:=aw.mono (lg s14)
  replace gl:=gl.mono s14
  replace gn:=gn.mono s14
  replace eL:=s14 _ _ eL
  clear s14
  replace gn:GL K G14 [(.ref t7),(.ref t8),(.ref t10),(.ref t11),(.ref t12),(.ref t13),(.str "yes"),(.ref t14)]:=GL.add gn (X2 (.lens (i:=2) (lh e14) (by decide +kernel) (by decide +kernel) (by simp)))
  clear e14;have xl:([(.ref t7),(.ref t8),(.ref t10),(.ref t11),(.ref t12),(.ref t13),(.str "yes"),(.ref t14)]:List V).length=8:=rfl;refine⟨by rw[gU];simp,fun l1 hl1=>?_⟩;generalize ([(.ref t7),(.ref t8),(.ref t10),(.ref t11),(.ref t12),(.ref t13),(.str "yes"),(.ref t14)]:List V)=ys1 at gn xl ⊢;obtain⟨J1,qN,s,eM⟩:=Zq (o:=.lst ys1) hl1;rw[qN];clear qN hl1
  replace S:=S.trans s
  replace aw:=aw.mono (lg s)
  replace gn:=gn.mono s
  replace eL:=s _ _ eL
  replace gl:=gl.mono s
  clear s;refine⟨_,_,_,_,rfl,rfl,eL,eM,by rw[al,xl,gU];simp,fun m1 hm1=>?_⟩;have bl:(ys0++ys1).length=15:=by rw[hG,al,xl]
  replace gl:=gl.app gn
  generalize ys0++ys1=zs1 at gl bl ⊢;obtain⟨M1,qN,s,eL⟩:=Zq (o:=.lst zs1) hm1;rw[qN];clear qN hm1
  replace S:=S.trans s
  replace aw:=aw.mono (lg s)
  replace gl:=gl.mono s
  clear s gn eM xl al;have al:=bl;clear bl;refine⟨_,rfl,?_⟩;have gn:GL K M1 []:=GL.nil;refine⟨by rw[gU];simp,fun t15 h15=>?_⟩;obtain⟨G15,qN,s15,e15⟩:=Zq (o:=(.tup [(.str "sign"),(.str "abcdefghi")])) h15;rw[qN];clear qN h15
  replace S:=S.trans s15
  replace aw:=aw.mono (lg s15)
  replace gl:=gl.mono s15
  replace gn:=gn.mono s15
  replace eL:=s15 _ _ eL
  clear s15
  replace gn:GL K G15 [(.ref t15)]:=GL.add gn (X2 (.sgn (lh e15) (.str _ (by decide +kernel)) (by decide +kernel)))
  clear e15;refine⟨_,rfl,?_⟩;refine⟨by rw[gU];simp,fun t16 h16=>?_⟩;obtain⟨G16,qN,s16,e16⟩:=Zq (o:=(.tup [(.str "never"),v])) h16;rw[qN];clear qN h16
  replace S:=S.trans s16
  replace aw:=aw.mono (lg s16)
  replace gl:=gl.mono s16
  replace gn:=gn.mono s16
  replace eL:=s16 _ _ eL
  clear s16
  replace gn:GL K G16 [(.ref t15),(.ref t16)]:=GL.add gn (X2 (.word (lh e16) (by decide +kernel)))
  clear e16;refine⟨_,rfl,?_⟩;refine⟨by rw[gU];simp,fun t17 h17=>?_⟩;obtain⟨G17,qN,s17,e17⟩:=Zq (o:=(.tup [(.int 5),v])) h17;rw[qN];clear qN h17
  replace S:=S.trans s17
  replace aw:=aw.mono (lg s17)
  replace gl:=gl.mono s17
  replace gn:=gn.mono s17
  replace eL:=s17 _ _ eL
  clear s17
  replace gn:GL K G17 [(.ref t15),(.ref t16),(.ref t17)]:=GL.add gn (X2 (.noS (lh e17) (.int _) rfl))
  clear e17;refine⟨_,rfl,?_⟩;refine⟨by rw[gU];simp,fun t18 h18=>?_⟩;obtain⟨G18,qN,s18,e18⟩:=Zq (o:=(.tup [(.str "since"),v,.non])) h18;rw[qN];clear qN h18
  replace S:=S.trans s18
  replace aw:=aw.mono (lg s18)
  replace gl:=gl.mono s18
  replace gn:=gn.mono s18
  replace eL:=s18 _ _ eL
  clear s18
  replace gn:GL K G18 [(.ref t15),(.ref t16),(.ref t17),(.ref t18)]:=GL.add gn (gd_since (lh e18) aw htl)
  clear e18;refine⟨by rw[gU];simp,fun t19 h19=>?_⟩;obtain⟨G19,qN,s19,e19⟩:=Zq (o:=(.tup [(.str "some"),(.str "yes")])) h19;rw[qN];clear qN h19
  replace S:=S.trans s19
  replace aw:=aw.mono (lg s19)
  replace gl:=gl.mono s19
  replace gn:=gn.mono s19
  replace eL:=s19 _ _ eL
  clear s19
  replace gn:GL K G19 [(.ref t15),(.ref t16),(.ref t17),(.ref t18),(.ref t19)]:=GL.add gn (gd_op1 (lh e19) (by decide +kernel) (.noT (.str _ (by decide +kernel)) rfl))
  clear e19;have xl:([(.ref t15),(.ref t16),(.ref t17),(.ref t18),(.ref t19)]:List V).length=5:=rfl;refine⟨by rw[gU];simp,fun l2 hl2=>?_⟩;generalize ([(.ref t15),(.ref t16),(.ref t17),(.ref t18),(.ref t19)]:List V)=ys2 at gn xl ⊢;obtain⟨J2,qN,s,eM⟩:=Zq (o:=.lst ys2) hl2;rw[qN];clear qN hl2
  replace S:=S.trans s
  replace aw:=aw.mono (lg s)
  replace gn:=gn.mono s
  replace eL:=s _ _ eL
  replace gl:=gl.mono s
  clear s;refine⟨_,_,_,_,rfl,rfl,eL,eM,by rw[al,xl,gU];simp,fun m2 hm2=>?_⟩;have bl:(zs1++ys2).length=20:=by rw[hG,al,xl]
  replace gl:=gl.app gn
  generalize zs1++ys2=zs2 at gl bl ⊢;obtain⟨M2,qN,s,eL⟩:=Zq (o:=.lst zs2) hm2;rw[qN];clear qN hm2
  replace S:=S.trans s
  replace aw:=aw.mono (lg s)
  replace gl:=gl.mono s
  clear s gn eM xl al;have al:=bl;clear bl;obtain⟨_,x,hx,hm⟩:=UT (ts:=zs2) c (by intro z;rw[z] at al;cases al);refine⟨_,rfl,_,rfl,_,rfl,.inl ⟨_,_,rfl,.inl (ll eL),_,_,rfl,rfl,by rw[al];decide,_,_,_,_,rfl,rfl,ll eL,hx,?_⟩⟩;have gx:=gl x hm;clear gl eL hx hm al;have bn:BL K M2 []:=BL.nil;refine⟨_,rfl,?_⟩
  replace bn:BL K M2 [x]:=BL.add bn (gx.b)
  refine⟨_,rfl,?_⟩;refine⟨by rw[gU];simp,fun t20 h20=>?_⟩;obtain⟨G20,qN,s20,e20⟩:=Zq (o:=(.tup [(.str "not"),x])) h20;rw[qN];clear qN h20
  replace S:=S.trans s20
  replace aw:=aw.mono (lg s20)
  replace gx:=gx.mono s20
  replace bn:=bn.mono s20
  clear s20
  replace bn:BL K G20 [x,(.ref t20)]:=BL.add bn (gx.b.op1 (lh e20) (by decide +kernel))
  clear e20;refine⟨_,rfl,?_⟩;refine⟨_,rfl,?_⟩;refine⟨by rw[gU];simp,fun t21 h21=>?_⟩;obtain⟨G21,qN,s21,e21⟩:=Zq (o:=(.tup [v,x])) h21;rw[qN];clear qN h21
  replace S:=S.trans s21
  replace aw:=aw.mono (lg s21)
  replace gx:=gx.mono s21
  replace bn:=bn.mono s21
  clear s21;refine⟨by rw[gU];simp,fun t22 h22=>?_⟩;obtain⟨G22,qN,s22,e22⟩:=Zq (o:=(.tup [(.str "and"),(.ref t21)])) h22;rw[qN];clear qN h22
  replace S:=S.trans s22
  replace aw:=aw.mono (lg s22)
  replace gx:=gx.mono s22
  replace bn:=bn.mono s22
  replace e21:=s22 _ _ e21
  clear s22
  replace bn:BL K G22 [x,(.ref t20),(.ref t22)]:=BL.add bn (gx.b.mny (lh e22) (lh e21) aw htl)
  clear e21;clear e22;refine⟨_,rfl,?_⟩;refine⟨by rw[gU];simp,fun t23 h23=>?_⟩;obtain⟨G23,qN,s23,e23⟩:=Zq (o:=(.tup [(.str "all"),x])) h23;rw[qN];clear qN h23
  replace S:=S.trans s23
  replace aw:=aw.mono (lg s23)
  replace gx:=gx.mono s23
  replace bn:=bn.mono s23
  clear s23;refine⟨by rw[gU];simp,fun t24 h24=>?_⟩;obtain⟨G24,qN,s24,e24⟩:=Zq (o:=(.tup [(.str "always"),(.ref t23)])) h24;rw[qN];clear qN h24
  replace S:=S.trans s24
  replace aw:=aw.mono (lg s24)
  replace gx:=gx.mono s24
  replace bn:=bn.mono s24
  replace e23:=s24 _ _ e23
  clear s24
  replace bn:BL K G24 [x,(.ref t20),(.ref t22),(.ref t24)]:=BL.add bn ((gx.b.op1 (lh e23) (by decide +kernel)).op1 (lh e24) (by decide +kernel))
  clear e23;clear e24;refine⟨_,rfl,?_⟩;refine⟨by rw[gU];simp,fun t25 h25=>?_⟩;obtain⟨G25,qN,s25,e25⟩:=Zq (o:=(.tup [(.str "yes")])) h25;rw[qN];clear qN h25
  replace S:=S.trans s25
  replace aw:=aw.mono (lg s25)
  replace gx:=gx.mono s25
  replace bn:=bn.mono s25
  clear s25;refine⟨by rw[gU];simp,fun t26 h26=>?_⟩;obtain⟨G26,qN,s26,e26⟩:=Zq (o:=(.tup [(.str "until"),x,(.ref t25)])) h26;rw[qN];clear qN h26
  replace S:=S.trans s26
  replace aw:=aw.mono (lg s26)
  replace gx:=gx.mono s26
  replace bn:=bn.mono s26
  replace e25:=s26 _ _ e25
  clear s26
  replace bn:BL K G26 [x,(.ref t20),(.ref t22),(.ref t24),(.ref t26)]:=BL.add bn (gx.b.op2 (lh e26) (by decide +kernel) (Xb (n:=1) (lh e25)))
  clear e25;clear e26;refine⟨by rw[gU];simp,fun L hL=>?_⟩;have xl:([x,(.ref t20),(.ref t22),(.ref t24),(.ref t26)]:List V).length=5:=rfl;generalize ([x,(.ref t20),(.ref t22),(.ref t24),(.ref t26)]:List V)=us at bn xl ⊢;obtain⟨J,qN,s,eL⟩:=Zq (o:=.lst us) hL;rw[qN];clear qN hL
  replace S:=S.trans s
  replace bn:=bn.mono s
  clear s aw gx;refine⟨L,rfl,⟨_,ll eL⟩,?_⟩;refine X3 (K:=K) (xs:=us) (fun i σ H'=>∃(z4 z5 z6:Option V),σ=[some v,some (.int c),some (.ref m2),some x,z4,z5,z6]/\Za H H'/\H' L=some (.lst us)/\BL K H' us) ?_ ?_ ?_ ?_
  ·exact⟨_,_,_,rfl,S,eL,bn⟩
  ·rintro i σ H' hi ⟨_,_,_,rfl,_,h,_⟩;exact ll h
  ·rintro i u σ H1 hu ⟨z4,z5,z6,rfl,s1,e1,b1⟩;obtain⟨b,n,h1,h2,h3⟩:=b1 u (iO hu);refine⟨_,rfl,u,b,n,rfl,h1,h2,h3,fun H2 e s2=>?_⟩;refine⟨e,a.C_BadSentence,rfl,rfl,T.ex_BadSentence,fun he=>?_⟩;have s3:Za H1 (upd H2 e (XcO e a.C_BadSentence)):=s2.trans (Zl he);generalize hH3:upd H2 e (XcO e a.C_BadSentence)=H3 at s3 ⊢;have h3:H3 e=some (XcO e a.C_BadSentence):=by rw[<- hH3,Zf]
   refine⟨.ref e,rfl,e,a.C_BadSentence,_,true,rfl,h3,T.k_BadSentence,rfl,T.i3_BadSentence,true,rfl,Xh ⟨.ref e,rfl,e,a.C_BadSentence,_,false,rfl,h3,T.k_BadSentence,rfl,T.nk_BadSentence_NoAhead,false,rfl,?_⟩⟩;refine⟨_,rfl,true,rfl,Yi ⟨_,_,_,rfl,s1.trans s3,s3 _ _ e1,b1.mono s3⟩⟩
  rintro σ H1 ⟨z4,z5,z6,rfl,s1,e1,b1⟩;exact k H1 s1
theorem gq:∀{n:Nat}{t:Tr},OkN n t->hgt t<=n
 |0,_,h=>h.elim
 |n+1,t,⟨_,hk⟩=>by
  rw[UP];have:mx (t.ks.map hgt)<=n:=qA.mpr fun x hx=>by
   obtain⟨k,hk',rfl⟩:=ik.mp hx;exact gq (hk k hk')
  omega
theorem cut12(ns:List Int):Wp (ns.map V.int) none (some 12)=(ns.take 12).map V.int:=by
 unfold Wp;have e0:HT.sIx (ns.map V.int).length 0 none=0:=rfl;have e:HT.sIx (ns.map V.int).length (ns.map V.int).length (some 12)=min 12 ns.length:=by
  show(if(12:Int)<0 then((12:Int)+((ns.map V.int).length:Nat)).toNat else min (12:Int).toNat (ns.map V.int).length)=_
  rw[if_neg (by decide),hJ];rfl
 rw[e,e0,List.drop_zero,Nat.sub_zero,<- List.map_take]
 congr 1
 rcases Nat.le_total 12 ns.length with h|h
 ·rw[Nat.min_eq_left h]
 ·rw[Nat.min_eq_right h,jt (gY _),jt h]
theorem neD_nil2{K:W.Frag}{H:Hp}{a b:Addr}{Q:VK}(h1:H a=some (.lst []))(h2:H b=some (.lst []))(q:Q (.bl false) H):rEqD K true (.ref a) (.ref b) H Q:=
 ⟨.list [],.list [],.lst (ll h1) .nil,.lst (ll h2) .nil,by simp[PyData.canLay0,PyData.canLayAll0],by simp[PyData.canLay0,PyData.canLayAll0],by decide +kernel,by
  have e:PyData.eqv (.list []) (.list [])=true:=by simp[PyData.eqv,PyData.eqvAll]
  rw[if_pos rfl,e];exact q⟩
def gy(K:W.Frag)(a:Adr):Sp:=fun vs H Q _=>∃(p:Addr) (ns:List Int),vs=[.ref p]/\SqL K H p (ns.map V.int)/\ns.length<=63/\∀H',Q (.bl true) H'
theorem gz(T:Txt K mg a)(hw:w.params=a.Pm):Yq P w K mg base CX0 23 a.law a.fX ["_law_script"] (gy K a):=by
 have fM:=vm (P:=P) (w:=w) (base:=base) T hw;have fN:=vL (P:=P) (w:=w) (base:=base) T hw;have bX:=zo (P:=P) (w:=w) (base:=base) T hw;have dr:=qf (P:=P) (w:=w) (base:=base) T hw;have dH:=Uk (P:=P) (w:=w) (base:=base) T hw;have ak:=Uo (P:=P) (w:=w) (base:=base) T hw 20;have eJ:=Um (P:=P) (w:=w) (base:=base) T hw;have fO:=zx (P:=P) (w:=w) (base:=base) T hw;have az:=VW (P:=P) (w:=w) (base:=base) T hw 20;have fh:=qb (P:=P) (w:=w) (base:=base) T hw;refine T.gv.ok Vq (fun vs H Q E h=>?_) (fun gF A outer s H vs Q E hr h=>?_)
 ·obtain⟨p,ns,rfl,_⟩:=h;rfl
 ·obtain⟨p,ns,rfl,hq,hz,k⟩:=h;refine⟨_,(@Zb _ _ _ _ _ (@Zr _ _ (1) _ _ _ _ Vq.nd rfl (Or.inl rfl) (@ZT _ _ _ _ (@ZD _ _ _ _ _ Ze (@ZD _ _ _ _ _ Ze (@ZD _ _ _ _ _ Ze (@ZD _ _ _ _ _ Ze (@ZD _ _ _ _ _ Ze (@ZD _ _ _ _ _ Ze (@ZD _ _ _ _ _ Ze (@Ym _ _ _ Ze (by rfl)) (by rfl)) (by rfl)) (by rfl)) (by rfl)) (by rfl)) (by rfl)) (by rfl))) (by rfl) (.inl rfl)) (@Zb _ _ _ _ _ (@Zr _ _ (1) _ _ _ _ Vq.nd rfl (Or.inl rfl) (@ZE _ _ _ _ _ _ _ _ WZ (pv 1) (@ZT _ _ _ _ (@ZD _ _ _ _ _ Ze (@ZD _ _ _ _ _ Ze (@ZD _ _ _ _ _ Ze (@ZD _ _ _ _ _ Ze (@ZD _ _ _ _ _ Ze (@Ym _ _ _ Ze (by rfl)) (by rfl)) (by rfl)) (by rfl)) (by rfl)) (by rfl)))) (by rfl) (.inl rfl)) (@Zb _ _ _ _ _ (Xw iS rfl (Yr (K:=K) rfl (Zp eJ (hr.mono (by decide)) rfl T.cW T.bP.kp T.cU .nil Zw (@ZD _ _ _ _ _ (YG (WO (K:=K) rfl) (pv 0) Y6 (YQ Zh)) (@ZD _ _ _ _ _ (pv 1) (@Ym _ _ _ Zh (by rfl)) (by rfl)) (by rfl)))) (ZY (i:=2) Vq.nd rfl (Or.inl rfl)) (@Zb _ _ _ _ _ (Xw iS rfl (Yr (K:=K) rfl (Zp fO (hr.mono (by decide)) rfl T.eG T.dc.kp T.eC .nil Zw (@Zc _ _ _ (pv 2) (by rfl)))) (pg_tupK (K:=K) (n:=2) rfl rfl (xV (ZY (i:=3) Vq.nd rfl (Or.inl rfl)) (xV (ZY (i:=4) Vq.nd rfl (Or.inl rfl)) pgs_nil))) (@Zg _ _ _ (@ZI _ _ _ _ _ _ _ _ (@Zm _ _ _ _ _ _ _ _ (yw (K:=K) rfl (YN.units hr)) (Zp bX (hr.mono (by decide)) rfl T.bK T.bp.kp T.bJ .nil Zw (@Zc _ _ _ (pv 3) (by rfl))) (Zp bX (hr.mono (by decide)) rfl T.bK T.bp.kp T.bJ .nil Zw (@Zc _ _ _ (pv 4) (by rfl))) (Zs _)) (@Zg _ _ _ (@Zo _ _ _ _ Vl)) Zt))) (@Zb _ _ _ _ _ (@Zr _ _ (5) _ _ _ _ Vq.nd rfl (Or.inl rfl) (Zp bX (hr.mono (by decide)) rfl T.bK T.bp.kp T.bJ .nil Zw (@Zc _ _ _ (pv 2) (by rfl))) (by rfl) (.inl rfl)) (@Zb _ _ _ _ _ (@ZI _ _ _ _ _ _ _ _ (PW.pt (X9 (@Zm _ _ _ _ _ _ _ _ op_gt (Zp fN (hr.mono (by decide)) rfl T.eZ T.dN.kp T.eY .nil Zw (@Zc _ _ _ (Zp fM (hr.mono (by decide)) rfl T.eQ T.dM.kp T.eP .nil Zw (@Zc _ _ _ (pv 5) (by rfl))) (by rfl))) (Zp ak (hr.mono (by decide)) rfl T.av T.aj.kp T.aq .nil Zw (@Zc _ _ _ (pv 2) (by rfl))) (Zs _)) (X9 (@Zm _ _ _ _ _ _ _ _ (yw (K:=K) rfl (YN.units hr)) (Zp bX (hr.mono (by decide)) rfl T.bK T.bp.kp T.bJ .nil Zw (@Zc _ _ _ (pv 5) (by rfl))) (pv 5) (Zs _)) (XG (@Zm _ _ _ _ _ _ _ _ qP (Zp fN (hr.mono (by decide)) rfl T.eZ T.dN.kp T.eY .nil Zw (@Zc _ _ _ (Zp fM (hr.mono (by decide)) rfl T.eQ T.dM.kp T.eP .nil Zw (@Zc _ _ _ (pv 2) (by rfl))) (by rfl))) (Zp ak (hr.mono (by decide)) rfl T.av T.aj.kp T.aq .nil Zw (@Zc _ _ _ (pv 2) (by rfl))) (Zs _)))))) (@Zg _ _ _ (@Zo _ _ _ _ Vl)) Zt) (@Zb _ _ _ _ _ (@Zr _ _ (6) _ _ _ _ Vq.nd rfl (Or.inr rfl) (Zp az (hr.mono (by decide)) rfl T.ay T.ah.kp T.ax .nil Zw (@Zd _ _ _ _ _ (pv 2) (@Zc _ _ _ (@ZT _ _ _ _ Y2) (by rfl)) (by rfl))) (by rfl) (.inl rfl)) (@Zg _ _ _ (@ZI _ _ _ _ _ _ _ _ (@Zm _ _ _ _ _ _ _ _ (yw (K:=K) rfl (YN.units hr)) (Ws (Nc:=["_law_one", "_law_stood"]) (ix:=[none,some 6]) (YJ.of (by decide +kernel:Xo (Zi U2) ["_law_script", "_law_words", "_law_w", "_law_one", "_law_other", "_law_found", "_law_stood"] ["_law_one", "_law_stood"] [none,some 6] _=true)) rfl (Yr (K:=K) rfl (Zp az (hr.mono (by decide)) rfl T.ay T.ah.kp T.ax .nil Zw (@Zd _ _ _ _ _ (pv 5) (@Zc _ _ _ (@ZT _ _ _ _ Y2) (by rfl)) (by rfl)))) (fun _ _ _ _ _=>(ZY (i:=0) (show List.Nodup (["_law_one", "_law_stood"]:List Str) by decide +kernel) rfl (Or.inl rfl))) (fun _ _ _ _ _=>(pts_one (@Zm _ _ _ _ _ _ _ _ (op_notInB (K:=K) rfl (YN.units2 hr)) (pv 0) (pv 1) (by with_unfolding_all rfl)))) (fun _ _ _ _ _=>(pv 0))) (@ZT _ _ _ _ Y2) (Zs _)) (@Zg _ _ _ (@Zo _ _ _ _ Vl)) Zt))))))) (@Zb _ _ _ _ _ (@ZI _ _ _ _ _ _ _ _ (@XO _ _ _ _ (Vj (Zp fh (hr.mono (by decide)) rfl T.dm T.cp.kp T.dk .nil Zw (@Zd _ _ _ _ _ (Zp dH (hr.mono (by decide)) rfl T.dA T.cM.kp T.dz .nil Zw (@Zc _ _ _ (Zp dr (hr.mono (by decide)) rfl T.cm T.bI.kp T.ck .nil Zw (@Zd _ _ _ _ _ (pv 0) (@Zc _ _ _ Zh (by rfl)) (by rfl))) (by rfl))) (@Zc _ _ _ (Zp dr (hr.mono (by decide)) rfl T.cm T.bI.kp T.ck .nil Zw (@Zd _ _ _ _ _ (pv 0) (@Zc _ _ _ Zh (by rfl)) (by rfl))) (by rfl)) (by rfl))))) (@Zg _ _ _ (@Zo _ _ _ _ Vl)) Zt) (@Zg _ _ _ (@Zo _ _ _ _ (Vs (@Xk _ _ _ _ _ _ _ _ (ql (K:=K) rfl (YN.units hr)) (Zp bX (hr.mono (by decide)) rfl T.bK T.bp.kp T.bJ .nil Zw (@Zc _ _ _ (@Zj _ _ _ _ _ (@Zc _ _ _ Ze (by rfl))) (by rfl))) (@Zj _ _ _ _ _ (@Zc _ _ _ Ze (by rfl))) (Zs _)) (V0 (@Xk _ _ _ _ _ _ _ _ (ql (K:=K) rfl (YN.units hr)) (Zp bX (hr.mono (by decide)) rfl T.bK T.bp.kp T.bJ .nil Zw (@Zc _ _ _ (@Zj _ _ _ _ _ (@Zd _ _ _ _ _ Ze (@Zc _ _ _ (@Zj _ _ _ _ _ (@Zc _ _ _ Ze (by rfl))) (by rfl)) (by rfl))) (by rfl))) (@Zj _ _ _ _ _ (@Zd _ _ _ _ _ Ze (@Zc _ _ _ (@Zj _ _ _ _ _ (@Zc _ _ _ Ze (by rfl))) (by rfl)) (by rfl))) (Zs _)))))))))),?_⟩;have sz1:1<=sizeLine:=by rw[gU];decide
  have sz2:2<=sizeLine:=by rw[gU];decide
  refine⟨by rw[gU];simp,fun w1 hw1=>?_⟩;obtain⟨G1,qN,g1,e1⟩:=Zq (o:=.lst [.str "not",.str "and",.str "or",.str "next",.str "until",.str "always",.str "ever",.str "within"]) hw1;rw[qN];refine⟨_,rfl,by rw[gU];simp,fun w2 hw2=>?_⟩;obtain⟨G2,qN,g2,e2⟩:=Zq (o:=.lst [.str "before",.str "since",.str "once",.str "sofar",.str "all",.str "some"]) hw2;rw[qN];refine⟨_,_,_,_,rfl,rfl,g2 _ _ e1,e2,by rw[gU];simp,fun wl hwl=>?_⟩;obtain⟨G3,qN,g3,e3⟩:=Zq (o:=.lst (WS.map V.str)) hwl;rw[show upd G2 wl (HO.lst ([V.str "not",V.str "and",V.str "or",V.str "next",V.str "until",V.str "always",V.str "ever",V.str "within"]++[V.str "before",V.str "since",V.str "once",V.str "sofar",V.str "all",V.str "some"]))=upd G2 wl (.lst (WS.map V.str)) from rfl,qN];have g13:=g1.trans (g2.trans g3);refine⟨_,rfl,_,rfl,p,_,rfl,g13.seq hq,fun cl hcl=>?_⟩;rw[cut12];obtain⟨G4,qN,g4,e4⟩:=Zq (o:=.lst ((ns.take 12).map V.int)) hcl;rw[qN];have g14:=g13.trans g4;refine⟨_,rfl,cl,wl,ns.take 12,rfl,e4,by rw[hV];omega,g4 _ _ e3,fun G5 L us C g5 L0 eL lu kp lC=>⟨L,rfl,⟨_,ll eL⟩,?_⟩⟩;refine X3 (K:=K) (xs:=us) (fun i σ H'=>∃(z2 z3 z4 z5 z6:Option V),σ=[some (.ref p),some (.ref wl),z2,z3,z4,z5,z6]/\Za H H'/\H' L=some (.lst us)/\∀u∈us,KpT K H' C u) ?_ ?_ ?_ ?_
  ·exact⟨_,_,_,_,_,rfl,g14.trans g5,eL,kp⟩
  ·rintro i σ H' hi ⟨_,_,_,_,_,rfl,_,h,_⟩;exact ll h
  ·rintro i u σ H1 hu ⟨z2,z3,z4,z5,z6,rfl,s1,eL1,kp1⟩;obtain⟨t,at1,cz1,inC⟩:=kp1 u (iO hu);have ok1:=at1.ok;have pz:psz t<=3000000:=iq (psz_g8 ok1) (by decide);have fw:∀{m k:Nat}{x:Tr},Fwo t m k x->m<=100->k<=2->FwT x:=fun h h1 h2=>h.fw h1 h2 pz (by omega) inC;refine⟨_,rfl,u,t,rfl,at1,fun H2 q prs s2 eq lq pl=>⟨q,rfl,⟨_,ll eq⟩,?_⟩⟩;refine X3 (K:=K) (xs:=prs) (fun i σ H'=>∃(z3 z4:Option V),σ=[some (.ref p),some (.ref wl),some u,z3,z4,z5,z6]/\Za H1 H'/\H' q=some (.lst prs)/\PL K t H' prs) ?_ ?_ ?_ ?_
   ·exact⟨_,_,rfl,s2,eq,pl⟩
   ·rintro i σ H' hi ⟨_,_,rfl,_,h,_⟩;exact ll h
   ·rintro j b σ H3 hb ⟨z3,z4,rfl,s3,eq3,pl3⟩;obtain⟨b,x,y,t1,t2,m1,k1,m2,k2,rfl,eb,a1,a2,hs,f1,f2,c1,c2,c3,c4⟩:=pl3 b (iO hb);refine⟨b,[x,y],rfl,lh eb,rfl,x,[y],rfl,y,[],rfl,rfl,?_⟩;refine⟨_,rfl,x,t1,11,rfl,a1,fw f1 c1 c2,fun H4 v4 n4 s4 at4=>?_⟩;refine⟨_,rfl,y,t2,11,rfl,a2.mono (lg s4),fw f2 c3 c4,fun H5 v5 n5 s5 at5=>?_⟩;have dp:dpt (shT t1)<=60:=iq (qm (sh_ok a1.ok)) (by decide);refine neq_at (at4.mono (lg s5)) at5 dp (fun _=>?_) (fun ne=>absurd hs ne);exact⟨_,rfl,Yi ⟨_,_,rfl,s3.trans (s4.trans s5),(s4.trans s5) _ _ eq3,pl3.mono (s4.trans s5)⟩⟩
   rintro σ H3 ⟨z3,z4,rfl,s3,_,_⟩;have at3:=at1.mono (lg s3);refine⟨_,rfl,u,t,8,rfl,at3,fw (.self t) (by decide) (by decide),fun H4 vf mf s4 atf=>?_⟩;have okf:=sh_ok ok1;have atf:=atf.fit (gq okf);have at4:=at3.mono (lg s4);have pzf:psz (shT t)<=6000000:=iq (sh_psz _ t (gY _)) (by omega);have czf:=ve ok1;refine⟨_,rfl,vf,shT t,9,rfl,atf,iq pzf (by decide),fun H5 vc s5 atc=>⟨vc,_,_,rfl,atc,iq (iq czf cz1) (by decide),fun H6 s6=>?_⟩⟩;have at6:=at4.mono (lg (s5.trans s6));refine⟨_,rfl,u,t,8,rfl,by decide,at6,fun H7 s7=>⟨_,_,rfl,rfl,_,rfl,?_⟩⟩;rw[im (show ¬(((cz t:Nat):Int)<((psz (YF (shT t)):Nat):Int)) by have:psz (YF (shT t))=cz (shT t):=rfl;omega)];refine Yi ?_;have s57:=s5.trans (s6.trans s7);refine⟨_,rfl,vf,shT t,9,rfl,atf.mono (lg s57),sh_fw pz (by omega) inC,fun H8 v8 n8 s8 at8=>?_⟩;rw[sh_again] at at8;have dpf:dpt (shT t)<=60:=iq (qm okf) (by decide);refine⟨_,rfl,neq_at at8 (atf.mono (lg (s57.trans s8))) dpf (fun _=>?_) (fun ne=>absurd rfl ne)⟩;refine⟨_,rfl,Yi ?_⟩;have s48:=s57.trans s8;refine⟨_,rfl,u,t,8,rfl,at4.mono (lg s48),iq pz (by decide),fun H9 vc9 s9 atc9=>⟨vc9,_,_,rfl,atc9,iq cz1 (by decide),fun H10 s10=>?_⟩⟩;have s410:=s48.trans (s9.trans s10);refine⟨_,rfl,u,t,8,rfl,by decide,at4.mono (lg s410),fun H11 s11=>?_⟩;have s411:=s410.trans s11;refine⟨rfl,_,rfl,?_⟩;rw[hX (show V.int ((psz (YF t):Nat):Int)=V.int ((cz t:Nat):Int) from rfl)];refine Yi ?_;refine⟨_,rfl,by rw[gU];simp,fun F1 hF1=>?_⟩;obtain⟨J1,qN,j1,f1⟩:=Zq (o:=.lst []) hF1;rw[qN];refine⟨u,F1,t,8,[],rfl,by decide,at4.mono (lg (s411.trans j1)),f1,iq (by simpa using pz) (by decide),fun J2 qs1 x2 f2 aq1=>?_⟩;rw[jH] at f2;have j2:Za H11 J2:=((Za.x j1).trans x2).same hF1;have s4J:=s411.trans j2;refine⟨_,rfl,by rw[gU];simp,fun F2 hF2=>?_⟩;obtain⟨J3,qN,j3,f3⟩:=Zq (o:=.lst []) hF2;rw[qN];refine⟨vf,F2,shT t,9,[],rfl,by decide,atf.mono (lg (s4J.trans j3)),f3,iq (by simpa using pzf) (by decide),fun J4 qs2 x4 f4 aq2=>?_⟩;rw[jH] at f4;have j4:Za J2 J4:=((Za.x j3).trans x4).same hF2;have nF:F1≠F2:=fun z=>by rw[<- z,f2] at hF2;cases hF2
   have l2:=aq2.1;have q2l:=y6 _ (shT t) (gY _);refine⟨F2,rfl,⟨_,ll f4⟩,fun D hD=>?_⟩;have zf:(qs2.zip (qsT (shT t))).map (fun e=>e.1)=qs2:=kQ (by omega);refine zH (K:=K) (qs2.zip (qsT (shT t))) (fun e=>e.1) (fun _=>false) (fun e=>e.1) hD (by rw[zf];exact ll f4) (by rw[j0,gU];omega) ?_ ?_
   ·rintro⟨x,y⟩ hxy G N N0 sG _ hN0;obtain⟨jj,hj⟩:=jL.mp hxy;rw[jG] at hj;have hat:=aq2.2 jj x y hj.1 hj.2;have hmem:y∈qsT t:=sh_qs _ t (gY _) y (iO hj.2);refine⟨_,rfl,_,rfl,not_in ((j4.trans sG) _ _ f2) ((aq1.mono (lg j4)).mono (lg sG)) (hat.mono (lg sG)) (iq (qm hat.ok) (by decide)) (fun _=>?_) (fun n=>absurd hmem n)⟩;exact⟨_,rfl,Yi (hN0 G (.refl _) rfl)⟩
   intro J5 eD j5;rw[List.filter_eq_nil_iff.mpr (fun _ _ h=>by cases h)] at eD;refine⟨by rw[gU];simp,fun Z hZ=>?_⟩;obtain⟨J6,qN,j6,f6⟩:=Zq (o:=.lst []) hZ;rw[qN];have j26:=j4.trans (j5.trans j6);have sH:Za H1 J6:=s3.trans (s4.trans (s4J.trans j26));refine neD_nil2 (j6 _ _ eD) f6 ⟨_,rfl,Yi ⟨_,_,_,_,_,rfl,s1.trans sH,sH _ _ eL1,fun u' hu'=>?_⟩⟩;obtain⟨t',h1,h2,h3⟩:=kp1 u' hu';exact⟨t',h1.mono (lg sH),h2,h3⟩
  rintro σ H1 ⟨z2,z3,z4,z5,z6,rfl,s1,eL1,kp1⟩;refine⟨_,rfl,p,ns,12,rfl,s1.seq hq,fun n1=>⟨n1,rfl,fun H2 v t s2 at2 z2' lf2=>⟨_,rfl,p,ns,13,rfl,(s1.trans s2).seq hq,fun n2=>⟨v,n2,t,rfl,at2,lf2 t (xN t),fun H3 s3=>?_⟩⟩⟩⟩;refine⟨_,rfl,Yi ?_⟩;refine⟨sz1,fun b1 hb1=>?_⟩;obtain⟨J1,qN,j1,f1⟩:=Zq (o:=.tup [.str "yes"]) hb1;rw[qN];have lfw:∀{t:Tr},t∈LF->psz t<=8000000->FwT t:=fun h hz=>⟨hz,LF,by decide,fun s hs=>V4 hs h⟩;refine⟨.ref b1,Zn,1,rfl,Xb (lh f1),lfw (by simp[LF]) (by decide +kernel),fun J2 v2 m2 j2 a2=>?_⟩;rw[UB] at a2;refine⟨sz1,fun b2 hb2=>?_⟩;obtain⟨J3,qN,j3,f3⟩:=Zq (o:=.tup [.str "yes"]) hb2;rw[qN];refine eq_at (a2.mono (lg j3)) (Xb (n:=0) (lh f3)) (by decide +kernel) (fun _=>?_) (fun ne=>absurd rfl ne);refine⟨true,rfl,Xh ?_⟩;refine⟨sz1,fun b4 hb4=>?_⟩;obtain⟨J4,qN,j4,f4⟩:=Zq (o:=.tup [.str "yes"]) hb4;rw[qN];refine⟨sz2,fun b5 hb5=>?_⟩;obtain⟨J5,qN,j5,f5⟩:=Zq (o:=.tup [.str "not",.ref b4]) hb5;rw[qN];refine⟨.ref b5,nNo,2,rfl,ZZ (lh f5) (by decide +kernel) (Xb (lh (j5 _ _ f4))),lfw (by simp[LF]) (by decide +kernel),fun J6 v6 m6 j6 a6=>?_⟩;rw[yf] at a6;refine⟨sz1,fun b7 hb7=>?_⟩;obtain⟨J7,qN,j7,f7⟩:=Zq (o:=.tup [.str "yes"]) hb7;rw[qN];refine⟨sz2,fun b8 hb8=>?_⟩;obtain⟨J8,qN,j8,f8⟩:=Zq (o:=.tup [.str "not",.ref b7]) hb8;rw[qN];exact eq_at (a6.mono (lg (j7.trans j8))) (show At K 2 J8 (.ref b8) nNo from ZZ (lh f8) (by decide +kernel) (Xb (lh (j8 _ _ f7)))) (by decide +kernel) (fun _=>k J8) (fun ne=>absurd rfl ne)
theorem ar1{α:Type}{P:List α->Prop}(h:∀a,P [a]):∀us:List α,us.length=1->P us
 |[a],_=>h a
theorem ar2{α:Type}{P:List α->Prop}(h:∀a b,P [a,b]):∀us:List α,us.length=2->P us
 |[a,b],_=>h a b
theorem ar3{α:Type}{P:List α->Prop}(h:∀a b c,P [a,b,c]):∀us:List α,us.length=3->P us
 |[a,b,c],_=>h a b c
theorem ar4{α:Type}{P:List α->Prop}(h:∀a b c d,P [a,b,c,d]):∀us:List α,us.length=4->P us
 |[a,b,c,d],_=>h a b c d
theorem ar5{α:Type}{P:List α->Prop}(h:∀a b c d e,P [a,b,c,d,e]):∀us:List α,us.length=5->P us
 |[a,b,c,d,e],_=>h a b c d e
def spL(K:W.Frag):Sp:=fun vs H Q _=>∃(p:Addr) (ns:List Int),vs=[.ref p]/\SqL K H p (ns.map V.int)/\ns.length<=63/\∀H',Q (.bl true) H'
theorem all_mk{l:W.OpenLaw}{w:World}{K:W.Frag}{h:Heap}{mg:Str->Option Value}{fa:Addr}(X:K.In h)(G:h.Ns mainGlobals mg)(hfa:mg "law" = some (.ref fa))
  {f0 f1 f2 f3 f4 f5 f6 f7 f8 f9 f10 f11 f12 f13 f14 f15 f16 f17 f18 f19 f20 f21 f22 f23 f24 f25 f26 f27 f28 f29 f30 f31 f32 f33 f34 f35 f36:Addr}
  {C_Table C_Shorts C_TimeError C_BadSentence C_NoAhead:Addr}
  {od0 an0 od1 an1 od2 an2 od3 an3 od4 an4 od5 an5 od6 an6 od7 an7 od8 an8 od9 an9 od10 an10 od11 an11 od12 an12 od13 an13 od14 an14 od15 an15 od16 an16 od17 an17 od18 an18 od19 an19 od20 an20 od21 an21 od22 an22 od23 an23 od24 an24 od25 an25 od26 an26 od27 an27 od28 an28 od29 an29 od30 an30 od31 an31 od32 an32 od33 an33 od34 an34 od35 an35 od36 an36:Option Addr}
  {sl0 sl1 sl2 sl3 sl4 sl5 sl6 sl7 sl8 sl9 sl10 sl11 sl12 sl13 sl14 sl15 sl16 sl17 sl18 sl19 sl20 sl21 sl22 sl23 sl24 sl25 sl26 sl27 sl28 sl29 sl30 sl31 sl32 sl33 sl34 sl35 sl36:Array (Option Value)}
  {oc0 kV0 dc0 pm0 cd0 ct0 oc1 kV1 dc1 pm1 cd1 ct1 oc2 kV2 dc2 pm2 cd2 ct2 oc3 kV3 dc3 pm3 cd3 ct3 oc4 kV4 dc4 pm4 cd4 ct4 oc5 kV5 dc5 pm5 cd5 ct5 oc6 kV6 dc6 pm6 cd6 ct6 oc7 kV7 dc7 pm7 cd7 ct7 oc8 kV8 dc8 pm8 cd8 ct8 oc9 kV9 dc9 pm9 cd9 ct9 oc10 kV10 dc10 pm10 cd10 ct10 oc11 kV11 dc11 pm11 cd11 ct11 oc12 kV12 dc12 pm12 cd12 ct12 oc13 kV13 dc13 pm13 cd13 ct13 oc14 kV14 dc14 pm14 cd14 ct14 oc15 kV15 dc15 pm15 cd15 ct15 oc16 kV16 dc16 pm16 cd16 ct16 oc17 kV17 dc17 pm17 cd17 ct17 oc18 kV18 dc18 pm18 cd18 ct18 oc19 kV19 dc19 pm19 cd19 ct19 oc20 kV20 dc20 pm20 cd20 ct20 oc21 kV21 dc21 pm21 cd21 ct21 oc22 kV22 dc22 pm22 cd22 ct22 oc23 kV23 dc23 pm23 cd23 ct23 oc24 kV24 dc24 pm24 cd24 ct24 oc25 kV25 dc25 pm25 cd25 ct25 oc26 kV26 dc26 pm26 cd26 ct26 oc27 kV27 dc27 pm27 cd27 ct27 oc28 kV28 dc28 pm28 cd28 ct28 oc29 kV29 dc29 pm29 cd29 ct29 oc30 kV30 dc30 pm30 cd30 ct30 oc31 kV31 dc31 pm31 cd31 ct31 oc32 kV32 dc32 pm32 cd32 ct32 oc33 kV33 dc33 pm33 cd33 ct33 oc34 kV34 dc34 pm34 cd34 ct34 oc35 kV35 dc35 pm35 cd35 ct35 oc36 kV36 dc36 pm36 cd36 ct36:Value}
  {D_LENGTHS:Addr}{es_LENGTHS:Array DictEntry}{nn_LENGTHS:Nat}{dt_LENGTHS_0 dt_LENGTHS_1 dt_LENGTHS_2 dt_LENGTHS_3 dt_LENGTHS_4 dt_LENGTHS_5 dt_LENGTHS_6 dt_LENGTHS_7 dt_LENGTHS_8 dt_LENGTHS_9 dt_LENGTHS_10:Tok}
  {tk_LETTERS tk_MOST_LETTERS tk_MOST_WITHIN:Tok}
  {Y_YES:Addr}{yd_YES:Option Addr}{yl_YES:Array (Option Value)}{yn_YES:Nat}{yt_YES_0:Tok}
  {Y_STEADY_WORDS:Addr}{yd_STEADY_WORDS:Option Addr}{yl_STEADY_WORDS:Array (Option Value)}{yn_STEADY_WORDS:Nat}{yt_STEADY_WORDS_0 yt_STEADY_WORDS_1 yt_STEADY_WORDS_2 yt_STEADY_WORDS_3 yt_STEADY_WORDS_4 yt_STEADY_WORDS_5 yt_STEADY_WORDS_6 yt_STEADY_WORDS_7:Tok}
  (v55:W.nsIn K mainGlobals "Table" = some (some (.ref C_Table)))
  (v43:W.nsIn K mainGlobals "Shorts" = some (some (.ref C_Shorts)))
  (v18:W.nsIn K mainGlobals "TimeError" = some (some (.ref C_TimeError)))
  (v10:W.nsIn K mainGlobals "BadSentence" = some (some (.ref C_BadSentence)))
  (v36:W.nsIn K mainGlobals "NoAhead" = some (some (.ref C_NoAhead)))
  (a0:W.nsIn K mainGlobals "is_whole" = some (some (.ref f0)))
  (l0:K.lookup f0=some ⟨oc0,od0,.func (W.fnOf "is_whole" "is_whole" (ZG Xq) (ZC Xq) (Zi Xq) .none kV0 dc0 pm0 an0 cd0 ct0),sl0⟩)
  (c0:W.codeIn K cd0 "is_whole" = true)
  (k0:W.keepIn K (.ref f0)=true)
  (a1:W.nsIn K mainGlobals "is_name" = some (some (.ref f1)))
  (l1:K.lookup f1=some ⟨oc1,od1,.func (W.fnOf "is_name" "is_name" (ZG Xy) (ZC Xy) (Zi Xy) .none kV1 dc1 pm1 an1 cd1 ct1),sl1⟩)
  (c1:W.codeIn K cd1 "is_name" = true)
  (k1:W.keepIn K (.ref f1)=true)
  (a2:W.nsIn K mainGlobals "last_ones" = some (some (.ref f2)))
  (l2:K.lookup f2=some ⟨oc2,od2,.func (W.fnOf "last_ones" "last_ones" (ZG Xf) (ZC Xf) (Zi Xf) .none kV2 dc2 pm2 an2 cd2 ct2),sl2⟩)
  (c2:W.codeIn K cd2 "last_ones" = true)
  (k2:W.keepIn K (.ref f2)=true)
  (a3:W.nsIn K mainGlobals "is_formed" = some (some (.ref f3)))
  (l3:K.lookup f3=some ⟨oc3,od3,.func (W.fnOf "is_formed" "is_formed" (ZG Xd) (ZC Xd) (Zi Xd) .none kV3 dc3 pm3 an3 cd3 ct3),sl3⟩)
  (c3:W.codeIn K cd3 "is_formed" = true)
  (k3:W.keepIn K (.ref f3)=true)
  (a4:W.nsIn K mainGlobals "inner_of" = some (some (.ref f4)))
  (l4:K.lookup f4=some ⟨oc4,od4,.func (W.fnOf "inner_of" "inner_of" (ZG Xp) (ZC Xp) (Zi Xp) .none kV4 dc4 pm4 an4 cd4 ct4),sl4⟩)
  (c4:W.codeIn K cd4 "inner_of" = true)
  (k4:W.keepIn K (.ref f4)=true)
  (a5:W.nsIn K mainGlobals "inner_ahead" = some (some (.ref f5)))
  (l5:K.lookup f5=some ⟨oc5,od5,.func (W.fnOf "inner_ahead" "inner_ahead" (ZG YO) (ZC YO) (Zi YO) .none kV5 dc5 pm5 an5 cd5 ct5),sl5⟩)
  (c5:W.codeIn K cd5 "inner_ahead" = true)
  (k5:W.keepIn K (.ref f5)=true)
  (a6:W.nsIn K mainGlobals "core_of" = some (some (.ref f6)))
  (l6:K.lookup f6=some ⟨oc6,od6,.func (W.fnOf "core_of" "core_of" (ZG XZ) (ZC XZ) (Zi XZ) .none kV6 dc6 pm6 an6 cd6 ct6),sl6⟩)
  (c6:W.codeIn K cd6 "core_of" = true)
  (k6:W.keepIn K (.ref f6)=true)
  (a7:W.nsIn K mainGlobals "core_with" = some (some (.ref f7)))
  (l7:K.lookup f7=some ⟨oc7,od7,.func (W.fnOf "core_with" "core_with" (ZG Xe) (ZC Xe) (Zi Xe) .none kV7 dc7 pm7 an7 cd7 ct7),sl7⟩)
  (c7:W.codeIn K cd7 "core_with" = true)
  (k7:W.keepIn K (.ref f7)=true)
  (a8:W.nsIn K mainGlobals "and_of" = some (some (.ref f8)))
  (l8:K.lookup f8=some ⟨oc8,od8,.func (W.fnOf "and_of" "and_of" (ZG Wo) (ZC Wo) (Zi Wo) .none kV8 dc8 pm8 an8 cd8 ct8),sl8⟩)
  (c8:W.codeIn K cd8 "and_of" = true)
  (k8:W.keepIn K (.ref f8)=true)
  (a9:W.nsIn K mainGlobals "or_of" = some (some (.ref f9)))
  (l9:K.lookup f9=some ⟨oc9,od9,.func (W.fnOf "or_of" "or_of" (ZG WV) (ZC WV) (Zi WV) .none kV9 dc9 pm9 an9 cd9 ct9),sl9⟩)
  (c9:W.codeIn K cd9 "or_of" = true)
  (k9:W.keepIn K (.ref f9)=true)
  (a10:W.nsIn K mainGlobals "within_of" = some (some (.ref f10)))
  (l10:K.lookup f10=some ⟨oc10,od10,.func (W.fnOf "within_of" "within_of" (ZG Y8) (ZC Y8) (Zi Y8) .none kV10 dc10 pm10 an10 cd10 ct10),sl10⟩)
  (c10:W.codeIn K cd10 "within_of" = true)
  (k10:W.keepIn K (.ref f10)=true)
  (a11:W.nsIn K mainGlobals "row_with" = some (some (.ref f11)))
  (l11:K.lookup f11=some ⟨oc11,od11,.func (W.fnOf "row_with" "row_with" (ZG Xs) (ZC Xs) (Zi Xs) .none kV11 dc11 pm11 an11 cd11 ct11),sl11⟩)
  (c11:W.codeIn K cd11 "row_with" = true)
  (k11:W.keepIn K (.ref f11)=true)
  (a12:W.findIn K (.ref C_Table) "__init__" = some (some (.ref f12)))
  (i12:W.isFn K (.ref f12)=true)
  (l12:K.lookup f12=some ⟨oc12,od12,.func (W.fnOf "__init__" "Table.__init__" (ZG YY) (ZC YY) (Zi YY) .none kV12 dc12 pm12 an12 cd12 ct12),sl12⟩)
  (c12:W.codeIn K cd12 "Table.__init__" = true)
  (k12:W.keepIn K (.ref f12)=true)
  (a13:W.findIn K (.ref C_Table) "number_of" = some (some (.ref f13)))
  (i13:W.isFn K (.ref f13)=true)
  (l13:K.lookup f13=some ⟨oc13,od13,.func (W.fnOf "number_of" "Table.number_of" (ZG Ya) (ZC Ya) (Zi Ya) .none kV13 dc13 pm13 an13 cd13 ct13),sl13⟩)
  (c13:W.codeIn K cd13 "Table.number_of" = true)
  (k13:W.keepIn K (.ref f13)=true)
  (a14:W.findIn K (.ref C_Table) "taken_in" = some (some (.ref f14)))
  (i14:W.isFn K (.ref f14)=true)
  (l14:K.lookup f14=some ⟨oc14,od14,.func (W.fnOf "taken_in" "Table.taken_in" (ZG Yg) (ZC Yg) (Zi Yg) .none kV14 dc14 pm14 an14 cd14 ct14),sl14⟩)
  (c14:W.codeIn K cd14 "Table.taken_in" = true)
  (k14:W.keepIn K (.ref f14)=true)
  (a15:W.findIn K (.ref C_Table) "inner_numbers" = some (some (.ref f15)))
  (i15:W.isFn K (.ref f15)=true)
  (l15:K.lookup f15=some ⟨oc15,od15,.func (W.fnOf "inner_numbers" "Table.inner_numbers" (ZG ZR) (ZC ZR) (Zi ZR) .none kV15 dc15 pm15 an15 cd15 ct15),sl15⟩)
  (c15:W.codeIn K cd15 "Table.inner_numbers" = true)
  (k15:W.keepIn K (.ref f15)=true)
  (a16:W.nsIn K mainGlobals "size_of" = some (some (.ref f16)))
  (l16:K.lookup f16=some ⟨oc16,od16,.func (W.fnOf "size_of" "size_of" (ZG XU) (ZC XU) (Zi XU) .none kV16 dc16 pm16 an16 cd16 ct16),sl16⟩)
  (c16:W.codeIn K cd16 "size_of" = true)
  (k16:W.keepIn K (.ref f16)=true)
  (a17:W.nsIn K mainGlobals "shorter" = some (some (.ref f17)))
  (l17:K.lookup f17=some ⟨oc17,od17,.func (W.fnOf "shorter" "shorter" (ZG X1) (ZC X1) (Zi X1) .none kV17 dc17 pm17 an17 cd17 ct17),sl17⟩)
  (c17:W.codeIn K cd17 "shorter" = true)
  (k17:W.keepIn K (.ref f17)=true)
  (a18:W.findIn K (.ref C_Shorts) "__init__" = some (some (.ref f18)))
  (i18:W.isFn K (.ref f18)=true)
  (l18:K.lookup f18=some ⟨oc18,od18,.func (W.fnOf "__init__" "Shorts.__init__" (ZG YL) (ZC YL) (Zi YL) .none kV18 dc18 pm18 an18 cd18 ct18),sl18⟩)
  (c18:W.codeIn K cd18 "Shorts.__init__" = true)
  (k18:W.keepIn K (.ref f18)=true)
  (a19:W.findIn K (.ref C_Shorts) "both_of" = some (some (.ref f19)))
  (i19:W.isFn K (.ref f19)=true)
  (l19:K.lookup f19=some ⟨oc19,od19,.func (W.fnOf "both_of" "Shorts.both_of" (ZG ZX) (ZC ZX) (Zi ZX) .none kV19 dc19 pm19 an19 cd19 ct19),sl19⟩)
  (c19:W.codeIn K cd19 "Shorts.both_of" = true)
  (k19:W.keepIn K (.ref f19)=true)
  (a20:W.findIn K (.ref C_Shorts) "short_of" = some (some (.ref f20)))
  (i20:W.isFn K (.ref f20)=true)
  (l20:K.lookup f20=some ⟨oc20,od20,.func (W.fnOf "short_of" "Shorts.short_of" (ZG Z7) (ZC Z7) (Zi Z7) .none kV20 dc20 pm20 an20 cd20 ct20),sl20⟩)
  (c20:W.codeIn K cd20 "Shorts.short_of" = true)
  (k20:W.keepIn K (.ref f20)=true)
  (a21:W.findIn K (.ref C_Shorts) "joined" = some (some (.ref f21)))
  (i21:W.isFn K (.ref f21)=true)
  (l21:K.lookup f21=some ⟨oc21,od21,.func (W.fnOf "joined" "Shorts.joined" (ZG Z1) (ZC Z1) (Zi Z1) .none kV21 dc21 pm21 an21 cd21 ct21),sl21⟩)
  (c21:W.codeIn K cd21 "Shorts.joined" = true)
  (k21:W.keepIn K (.ref f21)=true)
  (a22:W.findIn K (.ref C_Shorts) "is_double" = some (some (.ref f22)))
  (i22:W.isFn K (.ref f22)=true)
  (l22:K.lookup f22=some ⟨oc22,od22,.func (W.fnOf "is_double" "Shorts.is_double" (ZG Z4) (ZC Z4) (Zi Z4) .none kV22 dc22 pm22 an22 cd22 ct22),sl22⟩)
  (c22:W.codeIn K cd22 "Shorts.is_double" = true)
  (k22:W.keepIn K (.ref f22)=true)
  (a23:W.findIn K (.ref C_Shorts) "word_of" = some (some (.ref f23)))
  (i23:W.isFn K (.ref f23)=true)
  (l23:K.lookup f23=some ⟨oc23,od23,.func (W.fnOf "word_of" "Shorts.word_of" (ZG Ye) (ZC Ye) (Zi Ye) .none kV23 dc23 pm23 an23 cd23 ct23),sl23⟩)
  (c23:W.codeIn K cd23 "Shorts.word_of" = true)
  (k23:W.keepIn K (.ref f23)=true)
  (a24:W.findIn K (.ref C_Shorts) "made" = some (some (.ref f24)))
  (i24:W.isFn K (.ref f24)=true)
  (l24:K.lookup f24=some ⟨oc24,od24,.func (W.fnOf "made" "Shorts.made" (ZG Yt) (ZC Yt) (Zi Yt) .none kV24 dc24 pm24 an24 cd24 ct24),sl24⟩)
  (c24:W.codeIn K cd24 "Shorts.made" = true)
  (k24:W.keepIn K (.ref f24)=true)
  (a25:W.nsIn K mainGlobals "_law_cell_at" = some (some (.ref f25)))
  (l25:K.lookup f25=some ⟨oc25,od25,.func (W.fnOf "_law_cell_at" "_law_cell_at" (ZG Yz) (ZC Yz) (Zi Yz) .none kV25 dc25 pm25 an25 cd25 ct25),sl25⟩)
  (c25:W.codeIn K cd25 "_law_cell_at" = true)
  (k25:W.keepIn K (.ref f25)=true)
  (a26:W.nsIn K mainGlobals "_law_stream" = some (some (.ref f26)))
  (l26:K.lookup f26=some ⟨oc26,od26,.func (W.fnOf "_law_stream" "_law_stream" (ZG YM) (ZC YM) (Zi YM) .none kV26 dc26 pm26 an26 cd26 ct26),sl26⟩)
  (c26:W.codeIn K cd26 "_law_stream" = true)
  (k26:W.keepIn K (.ref f26)=true)
  (a27:W.nsIn K mainGlobals "_law_leaf" = some (some (.ref f27)))
  (l27:K.lookup f27=some ⟨oc27,od27,.func (W.fnOf "_law_leaf" "_law_leaf" (ZG Xa) (ZC Xa) (Zi Xa) .none kV27 dc27 pm27 an27 cd27 ct27),sl27⟩)
  (c27:W.codeIn K cd27 "_law_leaf" = true)
  (k27:W.keepIn K (.ref f27)=true)
  (a28:W.nsIn K mainGlobals "_law_row" = some (some (.ref f28)))
  (l28:K.lookup f28=some ⟨oc28,od28,.func (W.fnOf "_law_row" "_law_row" (ZG Y9) (ZC Y9) (Zi Y9) .none kV28 dc28 pm28 an28 cd28 ct28),sl28⟩)
  (c28:W.codeIn K cd28 "_law_row" = true)
  (k28:W.keepIn K (.ref f28)=true)
  (a29:W.nsIn K mainGlobals "_law_step" = some (some (.ref f29)))
  (l29:K.lookup f29=some ⟨oc29,od29,.func (W.fnOf "_law_step" "_law_step" (ZG Xg) (ZC Xg) (Zi Xg) .none kV29 dc29 pm29 an29 cd29 ct29),sl29⟩)
  (c29:W.codeIn K cd29 "_law_step" = true)
  (k29:W.keepIn K (.ref f29)=true)
  (a30:W.nsIn K mainGlobals "_law_size" = some (some (.ref f30)))
  (l30:K.lookup f30=some ⟨oc30,od30,.func (W.fnOf "_law_size" "_law_size" (ZG YU) (ZC YU) (Zi YU) .none kV30 dc30 pm30 an30 cd30 ct30),sl30⟩)
  (c30:W.codeIn K cd30 "_law_size" = true)
  (k30:W.keepIn K (.ref f30)=true)
  (a31:W.nsIn K mainGlobals "_law_deep" = some (some (.ref f31)))
  (l31:K.lookup f31=some ⟨oc31,od31,.func (W.fnOf "_law_deep" "_law_deep" (ZG YT) (ZC YT) (Zi YT) .none kV31 dc31 pm31 an31 cd31 ct31),sl31⟩)
  (c31:W.codeIn K cd31 "_law_deep" = true)
  (k31:W.keepIn K (.ref f31)=true)
  (a32:W.nsIn K mainGlobals "_law_sentences" = some (some (.ref f32)))
  (l32:K.lookup f32=some ⟨oc32,od32,.func (W.fnOf "_law_sentences" "_law_sentences" (ZG Yf) (ZC Yf) (Zi Yf) .none kV32 dc32 pm32 an32 cd32 ct32),sl32⟩)
  (c32:W.codeIn K cd32 "_law_sentences" = true)
  (k32:W.keepIn K (.ref f32)=true)
  (a33:W.nsIn K mainGlobals "_law_alike" = some (some (.ref f33)))
  (l33:K.lookup f33=some ⟨oc33,od33,.func (W.fnOf "_law_alike" "_law_alike" (ZG YW) (ZC YW) (Zi YW) .none kV33 dc33 pm33 an33 cd33 ct33),sl33⟩)
  (c33:W.codeIn K cd33 "_law_alike" = true)
  (k33:W.keepIn K (.ref f33)=true)
  (a34:W.nsIn K mainGlobals "_law_quantified" = some (some (.ref f34)))
  (l34:K.lookup f34=some ⟨oc34,od34,.func (W.fnOf "_law_quantified" "_law_quantified" (ZG Z9) (ZC Z9) (Zi Z9) .none kV34 dc34 pm34 an34 cd34 ct34),sl34⟩)
  (c34:W.codeIn K cd34 "_law_quantified" = true)
  (k34:W.keepIn K (.ref f34)=true)
  (a35:W.nsIn K mainGlobals "_law_refused" = some (some (.ref f35)))
  (l35:K.lookup f35=some ⟨oc35,od35,.func (W.fnOf "_law_refused" "_law_refused" (ZG Yw) (ZC Yw) (Zi Yw) .none kV35 dc35 pm35 an35 cd35 ct35),sl35⟩)
  (c35:W.codeIn K cd35 "_law_refused" = true)
  (k35:W.keepIn K (.ref f35)=true)
  (a36:W.nsIn K mainGlobals "law" = some (some (.ref f36)))
  (l36:K.lookup f36=some ⟨oc36,od36,.func (W.fnOf "law" "law" (ZG U2) (ZC U2) (Zi U2) .none kV36 dc36 pm36 an36 cd36 ct36),sl36⟩)
  (c36:W.codeIn K cd36 "law" = true)
  (k36:W.keepIn K (.ref f36)=true)
  (v56:W.plainGet K C_Table Str.empty=true)
  (v57:W.hasDictIn K C_Table=true)
  (v58:W.plainOver K C_Table=true)
  (v59:W.findIn K (.ref C_Table) "__setattr__" = some (some (.builtin "object.__setattr__")))
  (v60:W.makesIn K C_Table=true)
  (v61:W.keepIn K (.ref C_Table)=true)
  (v62:W.findIn K (.ref C_Table) "__class__" = some (some (.builtin "object.__class__")))
  (v63:W.specialIn K (.builtin "object.__class__") "__get__" = some (some (.builtin "getset_descriptor.__get__")))
  (v64:W.takesIn K (.builtin "object.__class__")=some true)
  (v65:W.mroIn K C_Table (.type "object")=some true)
  (v16:W.findIn K (.ref C_Table) "parts" = some none)
  (v19:W.findIn K (.ref C_Table) "rows" = some none)
  (v1:W.findIn K (.ref C_Table) "numbers" = some none)
  (v44:W.plainGet K C_Shorts Str.empty=true)
  (v45:W.hasDictIn K C_Shorts=true)
  (v46:W.plainOver K C_Shorts=true)
  (v47:W.findIn K (.ref C_Shorts) "__setattr__" = some (some (.builtin "object.__setattr__")))
  (v48:W.makesIn K C_Shorts=true)
  (v49:W.keepIn K (.ref C_Shorts)=true)
  (v50:W.findIn K (.ref C_Shorts) "__class__" = some (some (.builtin "object.__class__")))
  (v51:W.specialIn K (.builtin "object.__class__") "__get__" = some (some (.builtin "getset_descriptor.__get__")))
  (v52:W.takesIn K (.builtin "object.__class__")=some true)
  (v53:W.mroIn K C_Shorts (.type "object")=some true)
  (v11:W.findIn K (.ref C_Shorts) "table" = some none)
  (v20:W.findIn K (.ref C_Shorts) "yes" = some none)
  (v25:W.findIn K (.ref C_Shorts) "no" = some none)
  (v21:W.nsIn K mainGlobals "ValueError" = some none)
  (v75:W.nsIn K mainGlobals "all" = some none)
  (v37:W.nsIn K mainGlobals "reversed" = some none)
  (v68:W.nsIn K mainGlobals "range" = some none)
  (v76:W.nsIn K mainGlobals "len" = some none)
  (v71:W.nsIn K mainGlobals "list" = some none)
  (v22:W.nsIn K mainGlobals "isinstance" = some none)
  (v77:W.nsIn K mainGlobals "int" = some none)
  (v69:W.nsIn K mainGlobals "tuple" = some none)
  (v78:W.nsIn K mainGlobals "max" = some none)
  (v72:W.nsIn K mainGlobals "bool" = some none)
  (v79:W.nsIn K mainGlobals "str" = some none)
  (v80:W.nsIn K mainGlobals "sum" = some none)
  (v54:W.nsIn K mainGlobals "LETTERS" = some (some (.str "abcdefghijklmnopqrstuvwxyz" tk_LETTERS)))
  (v12:W.nsIn K mainGlobals "MOST_LETTERS" = some (some (.int 8 tk_MOST_LETTERS)))
  (v17:W.nsIn K mainGlobals "MOST_WITHIN" = some (some (.int 5 tk_MOST_WITHIN)))
  (v38:W.nsIn K mainGlobals "LENGTHS" = some (some (.ref D_LENGTHS)))
  (v39:K.lookup D_LENGTHS=some ⟨.type "dict",none,.dict es_LENGTHS nn_LENGTHS,#[]⟩)
  (v40:W.KeysLit w.params es_LENGTHS.toList)
  (v26:W.nsIn K D_LENGTHS "all" = some (some (.int 2 dt_LENGTHS_0)))
  (v27:W.nsIn K D_LENGTHS "some" = some (some (.int 2 dt_LENGTHS_1)))
  (v28:W.nsIn K D_LENGTHS "not" = some (some (.int 2 dt_LENGTHS_2)))
  (v29:W.nsIn K D_LENGTHS "next" = some (some (.int 2 dt_LENGTHS_3)))
  (v30:W.nsIn K D_LENGTHS "always" = some (some (.int 2 dt_LENGTHS_4)))
  (v31:W.nsIn K D_LENGTHS "ever" = some (some (.int 2 dt_LENGTHS_5)))
  (v32:W.nsIn K D_LENGTHS "before" = some (some (.int 2 dt_LENGTHS_6)))
  (v33:W.nsIn K D_LENGTHS "once" = some (some (.int 2 dt_LENGTHS_7)))
  (v34:W.nsIn K D_LENGTHS "sofar" = some (some (.int 2 dt_LENGTHS_8)))
  (v35:W.nsIn K D_LENGTHS "until" = some (some (.int 3 dt_LENGTHS_9)))
  (v23:W.nsIn K D_LENGTHS "since" = some (some (.int 3 dt_LENGTHS_10)))
  (v41:(D_LENGTHS==sysModules)=false)
  (v73:W.nsIn K mainGlobals "YES" = some (some (.ref Y_YES)))
  (v74:K.lookup Y_YES=some ⟨.type "tuple",yd_YES,.seq #[.str "yes" yt_YES_0] yn_YES,yl_YES⟩)
  (v2:W.nsIn K mainGlobals "STEADY_WORDS" = some (some (.ref Y_STEADY_WORDS)))
  (v3:K.lookup Y_STEADY_WORDS=some ⟨.type "tuple",yd_STEADY_WORDS,.seq #[.str "next" yt_STEADY_WORDS_0,.str "always" yt_STEADY_WORDS_1,.str "ever" yt_STEADY_WORDS_2,.str "until" yt_STEADY_WORDS_3,.str "within" yt_STEADY_WORDS_4,.str "once" yt_STEADY_WORDS_5,.str "sofar" yt_STEADY_WORDS_6,.str "since" yt_STEADY_WORDS_7] yn_STEADY_WORDS,yl_STEADY_WORDS⟩)
  (v24:W.excIn K C_TimeError [.type "ValueError",.type "Exception",.type "BaseException",.type "object"] "ValueError.__new__" = true)
  (v13:W.excIn K C_BadSentence [.type "ValueError",.type "Exception",.type "BaseException",.type "object"] "ValueError.__new__" = true)
  (v42:W.excIn K C_NoAhead [.type "ValueError",.type "Exception",.type "BaseException",.type "object"] "ValueError.__new__" = true)
  (xgt:W.specialIn K (.builtin "object.__class__") "__get__" = some (some (.builtin "getset_descriptor.__get__")))
  (xtk:W.takesIn K (.builtin "object.__class__")=some true)
  (v4:W.findIn K (.ref C_BadSentence) "__getattribute__" = some (some (.builtin "BaseException.__getattribute__")))
  (v5:W.findIn K (.ref C_BadSentence) "__getattr__" = some none)
  (v6:W.mroIn K C_BadSentence (.type "object")=some true)
  (v7:W.mroIn K C_BadSentence (.type "BaseException")=some true)
  (v8:W.findIn K (.ref C_BadSentence) "__class__" = some (some (.builtin "object.__class__")))
  (v9:W.hasDictIn K C_BadSentence=true)
  (v66:W.nsIn K D_LENGTHS "signs" = some none)
  (v70:W.nsIn K D_LENGTHS "Next" = some none)
  (v67:W.nsIn K D_LENGTHS "never" = some none)
  (v14:W.exmOne K (.ref C_BadSentence) (.ref C_BadSentence)=some true)
  (v0:W.kitOne K (.ref C_BadSentence) (.ref C_NoAhead)=some false)
  (v15:W.kitOne K (.ref C_BadSentence) (.type "ValueError")=some true) :
  ∃fd:FuncData,(∀(s:Shared) (v:Value),BindsTo s fd ⟨[v],[]⟩ [("_law_script",v)])/\∀base:Heap,K.In base->base.Ns mainGlobals mg->Yq l.prog w K mg base CX0 23 fa fd ["_law_script"] (spL K):=by
 have e:=hfa.symm.trans (ig X G a36);cases e;have T:Txt K mg { is_whole:=f0,cF:=_,is_name:=f1,df:=_,last_ones:=f2,bY:=_,is_formed:=f3,bZ:=_,inner_of:=f4,cG:=_,inner_ahead:=f5,bo:=_,core_of:=f6,dg:=_,core_with:=f7,b0:=_,and_of:=f8,dJ:=_,or_of:=f9,eK:=_,within_of:=f10,b9:=_,row_with:=f11,cH:=_,Table_init:=f12,bR:=_,Table_number_of:=f13,aZ:=_,Table_taken_in:=f14,bc:=_,Table_inner_numbers:=f15,aX:=_,size_of:=f16,dh:=_,shorter:=f17,cu:=_,Shorts_init:=f18,bF:=_,Shorts_both_of:=f19,bf:=_,Shorts_short_of:=f20,ba:=_,Shorts_joined:=f21,bq:=_,Shorts_is_double:=f22,aM:=_,Shorts_word_of:=f23,bg:=_,Shorts_made:=f24,bG:=_,_law_cell_at:=f25,bu:=_,_law_stream:=f26,bH:=_,_law_leaf:=f27,cb:=_,_law_row:=f28,cI:=_,_law_step:=f29,cc:=_,_law_size:=f30,ce:=_,_law_deep:=f31,cf:=_,_law_sentences:=f32,bh:=_,_law_alike:=f33,bS:=_,_law_quantified:=f34,bb:=_,_law_refused:=f35,bv:=_,law:=fa,fX:=_,C_TimeError:=C_TimeError,C_BadSentence:=C_BadSentence,C_NoAhead:=C_NoAhead,C_Table:=C_Table,C_Shorts:=C_Shorts,D_LENGTHS:=D_LENGTHS,Pm:=w.params,Y_YES:=Y_YES,Y_STEADY_WORDS:=Y_STEADY_WORDS }:={
  fA:=ig X G v73,
  y_YES:=fun H=>.inr ⟨_,_,_,v74,rfl,rfl,(by rw[gU];simp),.cons ⟨_,rfl⟩ (.nil)⟩,
  dq:=ig X G v2,
  y_STEADY_WORDS:=fun H=>.inr ⟨_,_,_,v3,rfl,rfl,(by rw[gU];simp),.cons ⟨_,rfl⟩ (.cons ⟨_,rfl⟩ (.cons ⟨_,rfl⟩ (.cons ⟨_,rfl⟩ (.cons ⟨_,rfl⟩ (.cons ⟨_,rfl⟩ (.cons ⟨_,rfl⟩ (.cons ⟨_,rfl⟩ (.nil))))))))⟩,
  fe:=ig X G v38,
  cC:=⟨⟨_,_,v39,v40⟩,fun p hp=>by
   simp only[ic,iK,iL] at hp;rcases hp with rfl|rfl|rfl|rfl|rfl|rfl|rfl|rfl|rfl|rfl|rfl
   ·exact⟨_,v26⟩
   ·exact⟨_,v27⟩
   ·exact⟨_,v28⟩
   ·exact⟨_,v29⟩
   ·exact⟨_,v30⟩
   ·exact⟨_,v31⟩
   ·exact⟨_,v32⟩
   ·exact⟨_,v33⟩
   ·exact⟨_,v34⟩
   ·exact⟨_,v35⟩
   ·exact⟨_,v23⟩,v41⟩,
  d7:=Zu (st:=Xq) l0 c0 k0,
  fi:=(Zu (st:=Xq) l0 c0 k0).binds (ps:=["thing"]) (fun _ _ _ _ _ _=>ar1 fun _=>rfl),
  fj:=ig X G a0,
  eO:=Zu (st:=Xy) l1 c1 k1,
  fF:=(Zu (st:=Xy) l1 c1 k1).binds (ps:=["thing"]) (fun _ _ _ _ _ _=>ar1 fun _=>rfl),
  fG:=ig X G a1,
  bA:=Zu (st:=Xf) l2 c2 k2,
  bT:=(Zu (st:=Xf) l2 c2 k2).binds (ps:=["things", "many"]) (fun _ _ _ _ _ _=>ar2 fun _ _=>rfl),
  bU:=ig X G a2,
  cJ:=Zu (st:=Xd) l3 c3 k3,
  du:=(Zu (st:=Xd) l3 c3 k3).binds (ps:=["thing"]) (fun _ _ _ _ _ _=>ar1 fun _=>rfl),
  dv:=ig X G a3,
  bt:=Zu (st:=Xp) l4 c4 k4,
  bB:=(Zu (st:=Xp) l4 c4 k4).binds (ps:=["sentence"]) (fun _ _ _ _ _ _=>ar1 fun _=>rfl),
  bC:=ig X G a4,
  aG:=Zu (st:=YO) l5 c5 k5,
  bi:=(Zu (st:=YO) l5 c5 k5).binds (ps:=["sentence"]) (fun _ _ _ _ _ _=>ar1 fun _=>rfl),
  bj:=ig X G a5,
  dM:=Zu (st:=XZ) l6 c6 k6,
  eP:=(Zu (st:=XZ) l6 c6 k6).binds (ps:=["sentence"]) (fun _ _ _ _ _ _=>ar1 fun _=>rfl),
  eQ:=ig X G a6,
  dw:=Zu (st:=Xe) l7 c7 k7,
  eR:=(Zu (st:=Xe) l7 c7 k7).binds (ps:=["sentence", "inner"]) (fun _ _ _ _ _ _=>ar2 fun _ _=>rfl),
  eS:=ig X G a7,
  eN:=Zu (st:=Wo) l8 c8 k8,
  fo:=(Zu (st:=Wo) l8 c8 k8).binds (ps:=["cores"]) (fun _ _ _ _ _ _=>ar1 fun _=>rfl),
  fq:=ig X G a8,
  ft:=Zu (st:=WV) l9 c9 k9,
  fP:=(Zu (st:=WV) l9 c9 k9).binds (ps:=["cores"]) (fun _ _ _ _ _ _=>ar1 fun _=>rfl),
  fQ:=ig X G a9,
  dy:=Zu (st:=Y8) l10 c10 k10,
  eT:=(Zu (st:=Y8) l10 c10 k10).binds (ps:=["turns", "first", "second"]) (fun _ _ _ _ _ _=>ar3 fun _ _ _=>rfl),
  eU:=ig X G a10,
  cv:=Zu (st:=Xs) l11 c11 k11,
  di:=(Zu (st:=Xs) l11 c11 k11).binds (ps:=["sentence", "inner"]) (fun _ _ _ _ _ _=>ar2 fun _ _=>rfl),
  dj:=ig X G a11,
  eh:=Zu (st:=YY) l12 c12 k12,
  eo:=(Zu (st:=YY) l12 c12 k12).binds (ps:=["self"]) (fun _ _ _ _ _ _=>ar1 fun _=>rfl),
  fH:=⟨a12,i12,k12⟩,
  cx:=Zu (st:=Ya) l13 c13 k13,
  bD:=(Zu (st:=Ya) l13 c13 k13).binds (ps:=["self", "core"]) (fun _ _ _ _ _ _=>ar2 fun _ _=>rfl),
  bE:=⟨a13,i13,k13⟩,
  cR:=Zu (st:=Yg) l14 c14 k14,
  aB:=(Zu (st:=Yg) l14 c14 k14).binds (ps:=["self", "part", "row"]) (fun _ _ _ _ _ _=>ar3 fun _ _ _=>rfl),
  aC:=⟨a14,i14,k14⟩,
  cX:=Zu (st:=ZR) l15 c15 k15,
  cY:=(Zu (st:=ZR) l15 c15 k15).binds (ps:=["self", "number"]) (fun _ _ _ _ _ _=>ar2 fun _ _=>rfl),
  cZ:=⟨a15,i15,k15⟩,
  dN:=Zu (st:=XU) l16 c16 k16,
  eY:=(Zu (st:=XU) l16 c16 k16).binds (ps:=["core"]) (fun _ _ _ _ _ _=>ar1 fun _=>rfl),
  eZ:=ig X G a16,
  bp:=Zu (st:=X1) l17 c17 k17,
  bJ:=(Zu (st:=X1) l17 c17 k17).binds (ps:=["sentence"]) (fun _ _ _ _ _ _=>ar1 fun _=>rfl),
  bK:=ig X G a17,
  dQ:=Zu (st:=YL) l18 c18 k18,
  cK:=(Zu (st:=YL) l18 c18 k18).binds (ps:=["self"]) (fun _ _ _ _ _ _=>ar1 fun _=>rfl),
  fu:=⟨a18,i18,k18⟩,
  cS:=Zu (st:=ZX) l19 c19 k19,
  bN:=(Zu (st:=ZX) l19 c19 k19).binds (ps:=["self", "sentence", "inner"]) (fun _ _ _ _ _ _=>ar3 fun _ _ _=>rfl),
  bO:=⟨a19,i19,k19⟩,
  cy:=Zu (st:=Z7) l20 c20 k20,
  cA:=(Zu (st:=Z7) l20 c20 k20).binds (ps:=["self", "sentence", "inner"]) (fun _ _ _ _ _ _=>ar3 fun _ _ _=>rfl),
  cB:=⟨a20,i20,k20⟩,
  db:=Zu (st:=Z1) l21 c21 k21,
  bV:=(Zu (st:=Z1) l21 c21 k21).binds (ps:=["self", "word", "inner", "idle", "strong"]) (fun _ _ _ _ _ _=>ar5 fun _ _ _ _ _=>rfl),
  bW:=⟨a21,i21,k21⟩,
  cg:=Zu (st:=Z4) l22 c22 k22,
  bw:=(Zu (st:=Z4) l22 c22 k22).binds (ps:=["self", "number", "same", "other"]) (fun _ _ _ _ _ _=>ar4 fun _ _ _ _=>rfl),
  bx:=⟨a22,i22,k22⟩,
  cT:=Zu (st:=Ye) l23 c23 k23,
  aT:=(Zu (st:=Ye) l23 c23 k23).binds (ps:=["self", "number"]) (fun _ _ _ _ _ _=>ar2 fun _ _=>rfl),
  aU:=⟨a23,i23,k23⟩,
  dU:=Zu (st:=Yt) l24 c24 k24,
  dX:=(Zu (st:=Yt) l24 c24 k24).binds (ps:=["self", "sentence", "inner"]) (fun _ _ _ _ _ _=>ar3 fun _ _ _=>rfl),
  dY:=⟨a24,i24,k24⟩,
  bI:=Zu (st:=Yz) l25 c25 k25,
  ck:=(Zu (st:=Yz) l25 c25 k25).binds (ps:=["_law_script", "_law_k"]) (fun _ _ _ _ _ _=>ar2 fun _ _=>rfl),
  cm:=ig X G a25,
  cL:=Zu (st:=YM) l26 c26 k26,
  dZ:=(Zu (st:=YM) l26 c26 k26).binds (ps:=["_law_cell", "_law_many"]) (fun _ _ _ _ _ _=>ar2 fun _ _=>rfl),
  d3:=ig X G a26,
  cM:=Zu (st:=Xa) l27 c27 k27,
  dz:=(Zu (st:=Xa) l27 c27 k27).binds (ps:=["_law_x"]) (fun _ _ _ _ _ _=>ar1 fun _=>rfl),
  dA:=ig X G a27,
  d8:=Zu (st:=Y9) l28 c28 k28,
  fk:=(Zu (st:=Y9) l28 c28 k28).binds (ps:=["_law_word", "_law_some", "_law_x"]) (fun _ _ _ _ _ _=>ar3 fun _ _ _=>rfl),
  fm:=ig X G a28,
  dB:=Zu (st:=Xg) l29 c29 k29,
  fb:=(Zu (st:=Xg) l29 c29 k29).binds (ps:=["_law_x", "_law_some", "_law_words"]) (fun _ _ _ _ _ _=>ar3 fun _ _ _=>rfl),
  fc:=ig X G a29,
  aj:=Zu (st:=YU) l30 c30 k30,
  aq:=(Zu (st:=YU) l30 c30 k30).binds (ps:=["_law_sentence"]) (fun _ _ _ _ _ _=>ar1 fun _=>rfl),
  av:=ig X G a30,
  cN:=Zu (st:=YT) l31 c31 k31,
  dC:=(Zu (st:=YT) l31 c31 k31).binds (ps:=["_law_sentence"]) (fun _ _ _ _ _ _=>ar1 fun _=>rfl),
  dD:=ig X G a31,
  bP:=Zu (st:=Yf) l32 c32 k32,
  cU:=(Zu (st:=Yf) l32 c32 k32).binds (ps:=["_law_cells", "_law_words", "_law_most"]) (fun _ _ _ _ _ _=>ar3 fun _ _ _=>rfl),
  cW:=ig X G a32,
  dc:=Zu (st:=YW) l33 c33 k33,
  eC:=(Zu (st:=YW) l33 c33 k33).binds (ps:=["_law_w"]) (fun _ _ _ _ _ _=>ar1 fun _=>rfl),
  eG:=ig X G a33,
  ah:=Zu (st:=Z9) l34 c34 k34,
  ax:=(Zu (st:=Z9) l34 c34 k34).binds (ps:=["_law_sentence", "_law_found"]) (fun _ _ _ _ _ _=>ar2 fun _ _=>rfl),
  ay:=ig X G a34,
  cp:=Zu (st:=Yw) l35 c35 k35,
  dk:=(Zu (st:=Yw) l35 c35 k35).binds (ps:=["_law_w", "_law_cell"]) (fun _ _ _ _ _ _=>ar2 fun _ _=>rfl),
  dm:=ig X G a35,
  gv:=Zu (st:=U2) l36 c36 k36,
  gA:=(Zu (st:=U2) l36 c36 k36).binds (ps:=["_law_script"]) (fun _ _ _ _ _ _=>ar1 fun _=>rfl),
  gB:=ig X G a36,
  eI:=i3 X G v21,
  gw:=i3 X G v75,
  d9:=i3 X G v37,
  fz:=i3 X G v68,
  bL:=i3 X G v76,
  fI:=i3 X G v71,
  aH:=i3 X G v22,
  gi:=i3 X G v77,
  cO:=i3 X G v69,
  gj:=i3 X G v78,
  gp:=i3 X G v72,
  gs:=i3 X G v79,
  gu:=i3 X G v80,
  fJ:=⟨_,ig X G v54,⟨_,rfl⟩⟩,
  dn:=⟨_,ig X G v12,⟨_,rfl⟩⟩,
  d5:=⟨_,ig X G v17,⟨_,rfl⟩⟩,
  ai:=⟨v56,v57,v58,v59⟩,
  ge:=ig X G v55,
  fY:=⟨v60,a12,i12,v61⟩,
  t1_Table:=v62,
  t2_Table:=v63,
  t3_Table:=v64,
  t4_Table:=v65,
  ic_Table:=(by unfold W.kitOne;rw[if_pos (beq_self_eq_true _)]),
  aW:=v16,
  aO:=v19,
  aD:=v1,
  aa:=⟨v44,v45,v46,v47⟩,
  fB:=ig X G v43,
  fg:=⟨v48,a18,i18,v49⟩,
  t1_Shorts:=v50,
  t2_Shorts:=v51,
  t3_Shorts:=v52,
  t4_Shorts:=v53,
  ic_Shorts:=(by unfold W.kitOne;rw[if_pos (beq_self_eq_true _)]),
  ag:=v11,
  bz:=v20,
  bM:=v25,
  fR:=ig X G v18,
  fS:=v24,
  cP:=ig X G v10,
  d6:=v13,
  fK:=ig X G v36,
  gd:=v42,
  k_BadSentence:=⟨v4,v5,v6,v7,v8,xgt,xtk,v9⟩,
  nk_signs:=v66,
  nk_Next:=v70,
  nk_never:=v67,
  ex_BadSentence:=v14,
  nk_BadSentence_NoAhead:=v0,
  i3_BadSentence:=v15 }
 refine⟨_,?_,fun base _ _=>gz T rfl⟩;exact fun s v=>.of_eq rfl
theorem walk{l:W.OpenLaw}{q:Program}{loose:List Str}{XP:(Str->Option Value)->Heap->Prop}{YP:World->Heap->Prop}{d:DefRec}{K:Params->W.Frag}(hn:l.most=some 63)(hdf:d.params.defaults=[])
  (hY:∀(w:World) (h:Heap),YP w h->(K w.params).In h)
  (F:∀(w:World) (mg:Str->Option Value) (fa:Addr) (h:Heap),(K w.params).In h->h.Ns mainGlobals mg->mg d.name=some (.ref fa) ->
   ∃fd:FuncData,(∀(s:Shared) (u:Value),BindsTo s fd ⟨[u],[]⟩ [("_law_script",u)])/\∀base:Heap,(K w.params).In base->base.Ns mainGlobals mg->Yq l.prog w (K w.params) mg base CX0 23 fa fd ["_law_script"] (spL (K w.params))) :
  W.WalkO q loose XP YP l.row.toRowW d [] (fun f vs=>PySem.call f vs):=
 L2.walk_of (n:=63) (k:=23) (x := "_law_script") (CX:=fun _=>CX0) (sp:=fun w=>spL (K w.params)) hn (by decide) hdf ⟨rfl,by decide,by decide⟩ hY F (fun _ _ a ns hl _ hS=>⟨a,ns,rfl,hS,hl,fun _=>rfl⟩) fun _ _ _ _ _ z=>z
end KK
open PySem PySem.W PyProof.Rows
namespace PySem.W.Fast
def tw1074742419370386757:=0
def tw4199468738941891933:=0
def tw7419391882390622584:=0
def tw12162416228821347582:=0
def tw2240744086171309761:=0
def tw8588658783591444809:=0
def tw15222893084464471674:=0
def tw14149104019803294941:=0
def tw1687640030457607298:=0
def tw5733338998392899417:=0
def tw4516571883423658371:=0
def tw12561173261192715240:=0
def tw9559184118511466012:=0
def tw13572559475647046786:=0
def tw17969550312334478011:=0
def tw6383111891379348038:=0
def tw12210864685231781772:=0
def tw14833383812303600712:=0
def tw16954904701103737973:=0
def tw8012549421989518376:=0
def tw1248937497865613362:=0
def tw8115315425002054531:=0
def tw10758360338791105327:=0
def tw15975008151421445249:=0
def tw6684087325643046090:=0
def tw3813110641560395482:=0
def tw9050471268582860059:=0
def tw6285964406023047056:=0
def tw20967454411458008:=0
def tw5744900877481650347:=0
def tw2238920265850150352:=0
def tw11745813660675254326:=0
def tw6184570571205655236:=0
def tw6761137131334857500:=0
def tw14289686475057328918:=0
def tw7038248388990623177:=0
def tw7989190741683104455:=0
def tw2292481175697517245:=0
def tw4590935534326976923:=0
def tw17839044960164809537:=0
def tw9908955421406541152:=0
def tw4410373200617006044:=0
def tw14393344539024465710:=0
def tw16936282351282485354:=0
def tw6549414198750848001:=0
def tw14711909639054793225:=0
def tw12359662272006751868:=0
def tw11138858387376566379:=0
def tw16631615552111687516:=0
def tw7648551325702818848:=0
def tw7789044767198283577:=0
def tw5440100176153228593:=0
def tw10373401810207401642:=0
def tw15113810094635856674:=0
def tw11429356162645472994:=0
def tw14580358433267543185:=0
def tw2865584765815585271:=0
def tw7188347163846155030:=0
def tw9153394200174046881:=0
def tw12038366786262714045:=0
def tw5533208406560049686:=0
def tw8130451808502250497:=0
def tw3267387556933279133:=0
def tw2966767305836351113:=0
def tw13194827552440342626:=0
def tw12067779861318501249:=0
def tw3949879782123202370:=0
def tw6274158407578004856:=0
def tw5207073123007192452:=0
def tw14162395990962315717:=0
end PySem.W.Fast
set_option maxRecDepth 100000 in
set_option maxHeartbeats 0 in
theorem PySem.Challenge.cw_timecourt_k76_told_the_same_holds : PySem.Challenge.rw_timecourt_k76_told_the_same.Holds := by
 w_on; o_law; k_head; (case hw => w_witness2)
 k_fill
 refine KK.walk (l := PySem.Challenge.rw_timecourt_k76_told_the_same) rfl rfl (fun w h Y => PySem.W.kIn_of Y) ?F
 case F =>
  intro w mg fa h KX G hmg
  have hmg2 : mg "law" = some (.ref fa) := hmg
  clear hmg
  refine' KK.all_mk KX G hmg2 ?v55 ?v43 ?v18 ?v10 ?v36 ?a0 ?l0 ?c0 ?k0 ?a1 ?l1 ?c1 ?k1 ?a2 ?l2 ?c2 ?k2 ?a3 ?l3 ?c3 ?k3 ?a4 ?l4 ?c4 ?k4 ?a5 ?l5 ?c5 ?k5 ?a6 ?l6 ?c6 ?k6 ?a7 ?l7 ?c7 ?k7 ?a8 ?l8 ?c8 ?k8 ?a9 ?l9 ?c9 ?k9 ?a10 ?l10 ?c10 ?k10 ?a11 ?l11 ?c11 ?k11 ?a12 ?i12 ?l12 ?c12 ?k12 ?a13 ?i13 ?l13 ?c13 ?k13 ?a14 ?i14 ?l14 ?c14 ?k14 ?a15 ?i15 ?l15 ?c15 ?k15 ?a16 ?l16 ?c16 ?k16 ?a17 ?l17 ?c17 ?k17 ?a18 ?i18 ?l18 ?c18 ?k18 ?a19 ?i19 ?l19 ?c19 ?k19 ?a20 ?i20 ?l20 ?c20 ?k20 ?a21 ?i21 ?l21 ?c21 ?k21 ?a22 ?i22 ?l22 ?c22 ?k22 ?a23 ?i23 ?l23 ?c23 ?k23 ?a24 ?i24 ?l24 ?c24 ?k24 ?a25 ?l25 ?c25 ?k25 ?a26 ?l26 ?c26 ?k26 ?a27 ?l27 ?c27 ?k27 ?a28 ?l28 ?c28 ?k28 ?a29 ?l29 ?c29 ?k29 ?a30 ?l30 ?c30 ?k30 ?a31 ?l31 ?c31 ?k31 ?a32 ?l32 ?c32 ?k32 ?a33 ?l33 ?c33 ?k33 ?a34 ?l34 ?c34 ?k34 ?a35 ?l35 ?c35 ?k35 ?a36 ?l36 ?c36 ?k36 ?v56 ?v57 ?v58 ?v59 ?v60 ?v61 ?v62 ?v63 ?v64 ?v65 ?v16 ?v19 ?v1 ?v44 ?v45 ?v46 ?v47 ?v48 ?v49 ?v50 ?v51 ?v52 ?v53 ?v11 ?v20 ?v25 ?v21 ?v75 ?v37 ?v68 ?v76 ?v71 ?v22 ?v77 ?v69 ?v78 ?v72 ?v79 ?v80 ?v54 ?v12 ?v17 ?v38 ?v39 ?v40 ?v26 ?v27 ?v28 ?v29 ?v30 ?v31 ?v32 ?v33 ?v34 ?v35 ?v23 ?v41 ?v73 ?v74 ?v2 ?v3 ?v24 ?v13 ?v42 ?xgt ?xtk ?v4 ?v5 ?v6 ?v7 ?v8 ?v9 ?v66 ?v70 ?v67 ?v14 ?v0 ?v15
  (case v55 | v43 | v18 | v10 | v36 | a0 | l0 | c0 | k0 | a1 | l1 | c1 | k1 | a2 | l2 | c2 | k2 | a3 | l3 | c3 | k3 | a4 | l4 | c4 | k4 | a5 | l5 | c5 | k5 | a6 | l6 | c6 | k6 | a7 | l7 | c7 | k7 | a8 | l8 | c8 => k_is)
  (case k8 | a9 | l9 | c9 | k9 | a10 | l10 | c10 | k10 | a11 | l11 | c11 | k11 | a12 | i12 | l12 | c12 | k12 | a13 | i13 | l13 | c13 | k13 | a14 | i14 | l14 | c14 | k14 | a15 | i15 | l15 | c15 | k15 | a16 | l16 | c16 | k16 | a17 | l17 | c17 => k_is)
  (case k17 | a18 | i18 | l18 | c18 | k18 | a19 | i19 | l19 | c19 | k19 | a20 | i20 | l20 | c20 | k20 | a21 | i21 | l21 | c21 | k21 | a22 | i22 | l22 | c22 | k22 | a23 | i23 | l23 | c23 | k23 | a24 | i24 | l24 | c24 | k24 | a25 | l25 | c25 | k25 => k_is)
  (case a26 | l26 | c26 | k26 | a27 | l27 | c27 | k27 | a28 | l28 | c28 | k28 | a29 | l29 | c29 | k29 | a30 | l30 | c30 | k30 | a31 | l31 | c31 | k31 | a32 | l32 | c32 | k32 | a33 | l33 | c33 | k33 | a34 | l34 | c34 | k34 | a35 | l35 | c35 | k35 => k_is)
  (case a36 | l36 | c36 | k36 | v56 | v57 | v58 | v59 | v60 | v61 | v62 | v63 | v64 | v65 | v16 | v19 | v1 | v44 | v45 | v46 | v47 | v48 | v49 | v50 | v51 | v52 | v53 | v11 | v20 | v25 | v21 | v75 | v37 | v68 | v76 | v71 | v22 | v77 | v69 | v78 => k_is)
  (case v72 | v79 | v80 | v54 | v12 | v17 | v38 | v39 => k_is)
  (case v40 => exact ⟨⟨_, _, rfl, rfl⟩, ⟨_, _, rfl, rfl⟩, ⟨_, _, rfl, rfl⟩, ⟨_, _, rfl, rfl⟩, ⟨_, _, rfl, rfl⟩, ⟨_, _, rfl, rfl⟩, ⟨_, _, rfl, rfl⟩, ⟨_, _, rfl, rfl⟩, ⟨_, _, rfl, rfl⟩, ⟨_, _, rfl, rfl⟩, ⟨_, _, rfl, rfl⟩, trivial⟩)
  (case v26 | v27 | v28 | v29 | v30 | v31 | v32 | v33 | v34 | v35 | v23 => k_is)
  (case v41 => rfl)
  (case v73 | v74 | v2 | v3 => k_is)
  (case v24 | v13 | v42 => k_exc)
  (case xgt | xtk | v4 | v5 | v6 | v7 | v8 | v9 | v66 | v70 | v67 => k_is)
  (case v14 => kts_exm)
  (case v0 | v15 => kit_is)
