import PyProof.Rows.All
import Wide.All
import OpenK.AllK
import Wide.FinOn
import Lean
import PyProof.EqAt
import PyProof.EqKinds
import PyProof.TupleCall
import KE.KRevIter
import KE.KItemsList
import PySem.Challenge.RW_timecourt_k22_whole_runs_told_otherwise
set_option linter.all false
def lO:=@PySem.wpAny_bind
def lQ:=@List.length_map
def lS:=@Nat.le_refl
def lT:=@PySem.wpAny_pure
def lU:=@List.getElem?_eq_getElem
def lV:=@PySem.sizeLine_eq
def lW:=@List.length_append
def lX:=@List.map_cons
def lY:=@PySem.W.mg_of
def lZ:=@PySem.Heap.get?_push_of_some
def md:=@PySem.Heap.lt_size
def me:=@Nat.ne_of_lt
def mf:=@List.length_take
def mh:=@List.getElem?_map
def mi:=@List.mem_cons_of_mem
def mj:=@Ne.symm
def ml:=@List.mem_append
def mn:=@List.size_toArray
def mo:=@List.getElem?_eq_some_iff
def mr:=@List.mem_singleton
def mv:=@Option.some.inj
def mw:=@List.mem_cons
def my:=@congrArg
def mB:=@List.map_append
def mC:=@Nat.le_trans
def mD:=@PySem.Heap.get?_push_size
def mE:=@List.mem_map
def mF:=@List.map_nil
def mG:=@PyProof.Rows.wpS_bind
def mH:=@List.getElem_mem
def mI:=@Bool.false_ne_true
def mJ:=@List.length_cons
def mK:=@if_false
def mL:=@List.length_drop
def mM:=@List.mem_of_getElem?
def mN:=@Nat.zero_le
def mO:=@of_decide_eq_true
def mP:=@List.mem_append_right
def mQ:=@List.getElem?_append_left
def mR:=@Bool.and_eq_true
def mS:=@List.lookup_cons
def mT:=@Bool.false_eq_true
def mU:=@Nat.lt_of_lt_of_le
def mV:=@PyProof.Rows.wpS_pure
def mW:=@List.getElem?_append_right
def mX:=@List.mem_append_left
def mY:=@Nat.ne_of_gt
def mZ:=@List.length_range
def m5:=@PySem.F.plainAttrs_list
def m6:=@Int.toNat_natCast
def m7:=@List.getElem_of_mem
def m8:=@PySem.PassesOwn.never
def m9:=@if_true
def ng:=@List.length_singleton
def nh:=@PySem.F.slot_list_append
def ni:=@PySem.F.type_list_append
def nj:=@PySem.wpAny_holding
def nk:=@decide_eq_true
def nn:=@PySem.F.called_set
def nr:=@decide_eq_false
def nt:=@Nat.lt_of_le_of_lt
def nu:=@List.map_map
def nv:=@PySem.W.mg_none_of
def nz:=@PySem.wpAny_field
def nB:=@List.getD_eq_getElem?_getD
def nC:=@Array.length_toList
def nE:=@PySem.wpAny_call_entry
def nF:=@PySem.wpAny_newObj_type
def nG:=@PySem.Heap.get?_update_other
def nH:=@List.all_eq_true
def nI:=@Nat.le_of_lt
def nJ:=@PySem.W.kia_one
def nM:=@List.nil_append
def nN:=@List.sum_cons
def nO:=@List.length_eq_zero_iff
def nQ:=@PySem.wpAny_setState_of
def nU:=@Nat.sub_self
def nV:=@PySem.wpAny_truthy_bool
def nW:=@List.append_nil
def nX:=@PySem.mem_of_lookup
def nY:=@List.append_assoc
def nZ:=@PySem.codeAny_builtin
def og:=@Nat.lt_succ_of_lt
def oh:=@PySem.Heap.get?_update_self
def oi:=@Nat.lt_irrefl
def oj:=@List.cons.inj
def om:=@Option.map_eq_some_iff
def oq:=@List.getElem_map
def ot:=@List.map_take
def ou:=@PySem.Heap.size_push
def ox:=@PySem.wpAny_Call_Name_kw
def oy:=@Nat.le_succ
def oz:=@List.nodup_cons
def oA:=@List.of_mem_zip
def oB:=@PySem.Around.under_plainId
def oC:=@PySem.plainId_quiet
def oE:=@PySem.wpAny_rule
def oF:=@List.sum_nil
def oH:=@List.getElem?_eq_none
def oI:=@List.not_mem_nil
def oJ:=@or_false
def oK:=@Nat.zero_add
def oM:=@PySem.Heap.size_update
def oN:=@beq_eq_false_iff_ne
def oO:=@List.mem_cons_self
def oP:=@PySem.wpAny_mono
def oQ:=@Bool.eq_iff_iff
def oR:=@Nat.lt_succ_self
def oS:=@PySem.codeAny_mono
def oU:=@PySem.wpAny_callSpecial?_slot
def oV:=@List.flatten_cons
def oW:=@Array.getElem?_toList
def oX:=@PySem.wpAny_updateSeq
def oY:=@List.length_pos_iff
def oZ:=@List.find?_cons
def o5:=@PySem.Obj.data_mapFields
def o6:=@List.eq_nil_of_length_eq_zero
def o7:=@List.length_zip
def o8:=@List.getElem_inj
def o9:=@PySem.wpAny_passesOwn
def pb:=@Bool.false_and
def pc:=@beq_iff_eq
def pd:=@List.all_cons
def pf:=@List.replicate_succ
def pi:=@Nat.succ_mul
def pj:=@PyProof.Rows.F.plain_set_update_loop
def pq:=@List.take_length
def px:=@Bool.false_or
def py:=@List.mem_flatten
def pz:=@getElem?_pos
def pA:=@PySem.wpAny_attempt
def pB:=@Nat.pos_of_ne_zero
def pC:=@Nat.le_add_right
def pD:=@Bool.true_and
def pE:=@List.map_drop
def pF:=@PySem.Paired.length
def pG:=@List.mem_range
def pH:=@PyProof.Rows.callWith_type1
def pI:=@List.reverse_cons
def pJ:=@List.nodup_append
def pK:=@List.map_congr_left
def pL:=@List.length_reverse
def pM:=@decide_eq_decide
def pN:=@decide_eq_true_iff
def pO:=@PySem.wpAny_seqItems
def pP:=@List.cons_append
def pQ:=@PySem.tupleKind_room_in1
def pR:=@List.pairwise_iff_getElem
def pS:=@List.getElem_take
def pT:=@PySem.wpAny_setField
def pU:=@PySem.wpAny_standAt
def pV:=@PySem.F.plain_extend_loop
def pW:=@of_decide_eq_false
def pX:=@Nat.add_assoc
def pY:=@List.any_cons
def pZ:=@Bool.or_eq_true
def p0:=@List.all_map
def p6:=@List.take_of_length_le
def p8:=@PySem.wpAny_specialOf
def p9:=@List.mem_map_of_mem
def rb:=@Nat.mul_le_mul_right
def rc:=@List.ext_getElem?
def re:=@List.getElem?_drop
def rf:=@PySem.typeLookup_type
def rg:=@PySem.builtinLookup_eq_fast
def rh:=@PySem.wpAny_askSetting
def ri:=@List.getElem_zip
def rj:=@List.take_succ
def ro:=@List.getElem?_range
def rp:=@Int.emod_nonneg
def rq:=@Int.emod_lt_of_pos
def rz:=@Nat.pow_succ
def rA:=@Nat.one_le_pow
def rB:=@List.mem_filter
def rC:=@List.filterMap_cons
def rD:=@PySem.wpAny_pyIter_list
def rE:=@PySem.W.callWith_K
def rF:=@Option.isSome_iff_exists
def rG:=@List.getElem?_take_of_lt
def rH:=@List.filter_cons_of_pos
def rJ:=@List.filter_cons_of_neg
def rK:=@PyProof.Rows.F.entry_set_update_loop
def rL:=@decide_eq_false_iff_not
def rM:=@decide_eq_true_eq
def rN:=@Nat.min_eq_left
def rO:=@Option.map_some
def rP:=@PySem.Heap.get?_push_ne
def rQ:=@bne_self_eq_false
def rR:=@Array.getElem?_eq_none
def rS:=@List.countP_cons
def rT:=@Array.toList_push
def rV:=@PySem.Obj.isFreed_of_fields
def rW:=@PySem.F.slot_zip_next
def rX:=@List.isEmpty_iff
def rY:=@List.drop_eq_getElem_cons
def rZ:=@Array.mem_of_getElem?
def r6:=@Nat.pow_le_pow_right
def r8:=@PySem.W.methodCall_KW
def r9:=@PyProof.Rows.slot_tuple_getitem
def sd:=@List.length_dropLast
def se:=@Int.eq_ofNat_of_zero_le
def sf:=@Array.getElem?_eq_getElem
def si:=@List.getElem?_reverse
def sk:=@PySem.F.slot_dict_get
def sq:=@List.length_pos_of_mem
def sr:=@List.exists_cons_of_ne_nil
def su:=@List.mem_of_mem_take
def sv:=@List.mem_of_mem_drop
def sw:=@PyProof.Rows.Boot.«list»
def sy:=@PyProof.Rows.Boot.«isinstance»
def sA:=@PyProof.Rows.Boot.«len»
def sC:=@PyProof.Rows.Boot.«all»
def sD:=@PyProof.Rows.Boot.«tuple»
def sI:=@PyProof.Rows.Boot.«set»
def sJ:=@PyProof.Rows.Boot.«sorted»
set_option Elab.async false
set_option linter.all false
set_option maxRecDepth 100000
namespace L2
open PySem PySem.Spec PyProof.Rows
abbrev Key:=Sum Int Str
def Ut:Key->Value->Bool
 |.inl k,v=>Value.isInt k v
 |.inr x,v=>Value.isStrOf x v
def keyH(w:World):Key->Int
 |.inl k=>hashInt k
 |.inr x=>hashStr w x
theorem Yv:∀{k:Key}{v:Value},Ut k v=true->(∃i t,k=Sum.inl i/\v=Value.int i t)\/(∃x t,k=Sum.inr x/\v=Value.str x t)
 |.inl i,v,h=>by
  obtain⟨t,e⟩:=Value.isInt_shape (k:=i) (v:=v) h;exact .inl ⟨i,t,rfl,e⟩
 |.inr x,v,h=>by
  obtain⟨t,e⟩:=Value.isStrOf_shape (x:=x) (v:=v) h;exact .inr ⟨x,t,rfl,e⟩
theorem VJ(i:Int)(t:Tok):Ut (.inl i) (.int i t)=true:=by simp[Ut,Value.isInt]
theorem xZ(x:Str)(t:Tok):Ut (.inr x) (.str x t)=true:=by simp[Ut,Value.isStrOf]
theorem key_ll(a b:Int):decide ((Sum.inl a:Key)=Sum.inl b)=(a==b):=by
 by_cases e:a=b
 ·subst e;simp
 ·have h:¬(Sum.inl a:Key)=Sum.inl b:=fun q=>e (Sum.inl.inj q);rw[nr h];exact(oN.mpr e).symm
theorem key_rr(a b:Str):decide ((Sum.inr a:Key)=Sum.inr b)=decide (a=b):=by
 by_cases e:a=b
 ·subst e;simp
 ·have h:¬(Sum.inr a:Key)=Sum.inr b:=fun q=>e (Sum.inr.inj q);rw[nr h,nr e]
theorem key_lr(a:Int)(b:Str):decide ((Sum.inl a:Key)=Sum.inr b)=false:=nr (fun q=>nomatch q)
theorem key_rl(a:Str)(b:Int):decide ((Sum.inr a:Key)=Sum.inl b)=false:=nr (fun q=>nomatch q)
def ZC(prog:Program)(w:World):PySem.KeyKind prog w Key where
 is:=Ut
 hash:=keyH w
 inj:=fun v a b ha hb=>by
  rcases Yv ha with⟨i,t,rfl,rfl⟩|⟨x,t,rfl,rfl⟩
  ·rcases Yv hb with⟨j,u,rfl,e⟩|⟨y,u,rfl,e⟩
   ·injection e with e1 _;rw[e1]
   ·exact nomatch e
  ·rcases Yv hb with⟨j,u,rfl,e⟩|⟨y,u,rfl,e⟩
   ·exact nomatch e
   ·injection e with e1 _;rw[e1]
 byValue:=fun k v h=>by
  rcases Yv h with⟨i,t,rfl,rfl⟩|⟨x,t,rfl,rfl⟩<;>rfl
 pyHash:=fun hv h=>by
  rcases Yv hv with⟨i,t,rfl,rfl⟩|⟨x,t,rfl,rfl⟩
  ·exact wpAny_pyHash_int h
  ·exact wpAny_pyHash_str h
 eqBool:=fun hu hv h=>by
  rcases Yv hu with⟨i,t,rfl,rfl⟩|⟨x,t,rfl,rfl⟩
  ·rcases Yv hv with⟨j,u,rfl,rfl⟩|⟨y,u,rfl,rfl⟩
   ·rw[key_ll] at h;exact wpAny_eqBool_int h
   ·rw[key_lr] at h;exact SeqAt.EqAt.int_str i t y u _ _ _ _ h
  ·rcases Yv hv with⟨j,u,rfl,rfl⟩|⟨y,u,rfl,rfl⟩
   ·rw[key_rl] at h;exact SeqAt.EqAt.str_int x t j u _ _ _ _ h
   ·rw[key_rr] at h;exact wpAny_eqBool_str h
 «strs» := fun k x t v h=>by
  rcases Yv h with⟨i,u,rfl,e⟩|⟨y,u,rfl,e⟩
  ·exact nomatch e
  ·injection e with e1 _;subst e1;cases v<;>rfl
theorem kX(prog:Program)(w:World)(i:Int)(t:Tok):(ZC prog w).is (.inl i) (.int i t)=true:=VJ i t
theorem kh(prog:Program)(w:World)(x:Str)(t:Tok):(ZC prog w).is (.inr x) (.str x t)=true:=xZ x t
inductive V where
 |non|bl (b:Bool)|int (i:Int)|str (x:Str)|byt (b:Array UInt8)|flt (b:UInt64)|ref (a:Addr)|ty (n:String)
 deriving DecidableEq
def ZQ:V->Value->Prop
 |.non,u=>u=Value.none
 |.bl b,u=>u=Value.bool b
 |.int i,u=>∃t,u=Value.int i t
 |.str x,u=>∃t,u=Value.str x t
 |.byt b,u=>∃t,u=Value.bytes b t
 |.flt b,u=>∃t,u=Value.float b t
 |.ref a,u=>u=Value.ref a
 |.ty n,u=>u=Value.type n
abbrev ZH:List V->List Value->Prop:=Paired ZQ
theorem ZH.length{xs:List V}{us:List Value}(r:ZH xs us):xs.length=us.length:=pF r
theorem ZH.get:∀{xs:List V}{us:List Value}{i:Nat}{x:V},ZH xs us->xs[i]?=some x->∃u,us[i]?=some u/\ZQ x u
 |_,_,_,_,.nil,e=>by simp at e
 |_,_,0,_,.cons r _,e=>by simp at e;subst e;exact⟨_,rfl,r⟩
 |_,_,i+1,x,.cons _ t,e=>by
  obtain⟨u,h1,h2⟩:=ZH.get (i:=i) (x:=x) t (by simpa using e);exact⟨u,by simpa using h1,h2⟩
theorem ZH.set{x:V}{u:Value}(r:ZQ x u):∀{xs:List V}{us:List Value} (i:Nat),ZH xs us->ZH (xs.set i x) (us.set i u)
 |_,_,_,.nil=>.nil
 |_,_,0,.cons _ t=>.cons r t
 |_,_,i+1,.cons q t=>.cons q (ZH.set r i t)
theorem ZH.append:∀{xs ys:List V}{us ws:List Value},ZH xs us->ZH ys ws->ZH (xs++ys) (us++ws)
 |_,_,_,_,.nil,s=>s
 |_,_,_,_,.cons r t,s=>.cons r (ZH.append t s)
theorem ZH.take:∀{xs:List V}{us:List Value} (n:Nat),ZH xs us->ZH (xs.take n) (us.take n)
 |_,_,0,_=>.nil
 |_,_,_+1,.nil=>.nil
 |_,_,n+1,.cons r t=>.cons r (ZH.take n t)
theorem ZH.drop:∀{xs:List V}{us:List Value} (n:Nat),ZH xs us->ZH (xs.drop n) (us.drop n)
 |_,_,0,r=>r
 |_,_,_+1,.nil=>.nil
 |_,_,n+1,.cons _ t=>ZH.drop n t
def VF:Option V->Option Value->Prop
 |some v,some u=>ZQ v u
 |none,none=>True
 |_,_=>False
def KV{κ:Type}:List (κ×V)->List (κ×Value)->Prop:=Paired fun(p:κ×V) (q:κ×Value)=>p.1=q.1/\ZQ p.2 q.2
def kV:Key->V
 |.inl i=>.int i
 |.inr x=>.str x
inductive HO where
 |lst (xs:List V)
 |tup (xs:List V)
 |dK (kvs:List (Key×V))|dT (kvs:List (List Key×V))
 |set (S:Int->Bool) (n:Nat)
 |ins (C dx:Addr) (fs:List (Str×V))
 |own (x:Addr)
 |xd (fs:List (Str×V))
 |met (f x:Addr)
 |rng (lo hi:Int)
 |frz (o:Obj) (u:HO)
 |tbl (ps:Array Value)
 |ext (φ:Heap->Prop)
abbrev Hp:=Addr->Option HO
def upd(H:Hp)(a:Addr)(o:HO):Hp:=fun b=>if b=a then some o else H b
theorem Zb{H:Hp}{a:Addr}{o:HO}:upd H a o a=some o:=by unfold upd;rw[if_pos rfl]
theorem ZB{H:Hp}{a b:Addr}{o:HO}(h:b≠a):upd H a o b=H b:=by unfold upd;rw[if_neg h]
theorem Vw{H:Hp}{a b:Addr}{o u:HO}(h:H a=some o)(h':H b=some u)(d:o≠u):a≠b:=by
 intro e;subst e;rw[h] at h';exact d (mv h')
theorem ZL{H:Hp}{a b:Addr}{o:HO}(h:H a=some o)(h':H b=none):a≠b:=by
 intro e;subst e;rw[h] at h';cases h'
section
variable(P:Program)(w:World)
def YH(H:Hp)(h:Heap)(a:Addr):HO->Prop
 |.lst xs=>xs.length<=sizeLine/\∃(its:List Value) (n:Nat),ZH xs its/\h.get? a=some { cls:=.type "list",data:=.seq its.toArray n }
 |.tup xs=>xs.length<=sizeLine/\∃its:List Value,ZH xs its/\IsTup h a its.toArray
 |.dK kvs=>kvs.length<=sizeLine/\(a==sysModules)=false/\∃vs,KV kvs vs/\h.DictOf (ZC P w) a vs
 |.dT kvs=>kvs.length<=sizeLine/\(a==sysModules)=false/\∃xs:List (List Key×Addr×Value),
   Paired (fun(p:List Key×V) (q:List Key×Addr×Value)=>p.1=q.1/\H q.2.1=some (.tup (p.1.map kV))/\ZQ p.2 q.2.2) kvs xs /\
   ∃o es ep,h.get? a=some o/\o.ExactDict/\o.data=.dict es ep/\es.toList=xs.map (entryOfKey (tupleKind (ZC P w)))/\(xs.map (·.1)).Nodup
 |.set S n=>h.SetOf (intKind P w) a S n
 |.ins C dx fs=>H dx=some (.own a)/\fs.length<=1000/\dx≠a/\h.get? a=some (W.instObj C dx) /\
   ∃mA,h.Ns1 dx mA/\(∀f,VF (fs.lookup f) (mA f))/\PySem.Within mA (fs.map (·.1))
 |.own _=>∃o,h.get? a=some o
 |.xd fs=>∃mA,h.Ns1 a mA/\∀f,VF (fs.lookup f) (mA f)
 |.rng lo hi=>∃t u v,h.get? a=some { cls:=.type "range",data:=.fields #[.int lo t,.int hi u,.int 1 v] }
 |.frz o u=>h.get? a=some o/\YH H h a u
 |.tbl ps=>h.get? a=some { cls:=.none,data:=.fields ps }
 |.met f x=>h.get? a=some (W.methodObj (.ref f) (.ref x))
 |.ext φ=>φ h/\(∃o,h.get? a=some o)/\∀h1 h2:Heap,φ h1->(∀o,h1.get? a=some o->h2.get? a=some o)->φ h2
def HOk(H:Hp)(h:Heap):Prop:=∀a o,H a=some o->YH P w H h a o
end
section
variable{P:Program}{w:World}{H H':Hp}{h h':Heap}{a:Addr}{o:HO}
theorem YH.lt(x:YH P w H h a o):a<h.objs.size:=by
 cases o with
 |lst xs=>obtain⟨_,_,_,_,e⟩:=x;exact md e
 |tup xs=>obtain⟨_,_,_,p⟩:=x;exact p.lt
 |dK kvs=>obtain⟨_,_,_,_,o,_,_,e,_⟩:=x;exact md e
 |dT kvs=>obtain⟨_,_,_,_,o,_,_,e,_⟩:=x;exact md e
 |set S n=>obtain⟨o,_,_,_,e,_⟩:=x;exact md e
 |ins C dx fs=>obtain⟨_,_,_,e,_⟩:=x;exact md e
 |own y=>obtain⟨_,e⟩:=x;exact md e
 |xd fs=>obtain⟨_,⟨_,_,_,e,_⟩,_⟩:=x;exact md e
 |rng lo hi=>obtain⟨_,_,_,e⟩:=x;exact md e
 |frz ob u=>obtain⟨e,_⟩:=x;exact md e
 |tbl ps=>exact md (show h.get? a=some _ from x)
 |met f y=>exact md (show h.get? a=some _ from x)
 |ext φ=>obtain⟨_,⟨_,e⟩,_⟩:=x;exact md e
theorem Paired.mapP{α β:Type}{F G:α->β->Prop}:∀{l₁:List α}{l₂:List β},Paired F l₁ l₂->(∀a b,F a b->G a b)->Paired G l₁ l₂
 |_,_,.nil,_=>.nil
 |_,_,.cons r t,f=>.cons (f _ _ r) (Paired.mapP t f)
theorem YH.stay(x:YH P w H h a o)(k:∀b u,(b=a\/H b=some (.own a))->h.get? b=some u->h'.get? b=some u)
  (ho:∀b,H b=some (.own a)->H' b=some (.own a)) (ht:∀b xs,H b=some (.tup xs)->H' b=some (.tup xs)):YH P w H' h' a o:=by
 induction o with
 |lst xs=>obtain⟨z,its,n,r,e⟩:=x;exact⟨z,its,n,r,k _ _ (.inl rfl) e⟩
 |tup xs=>obtain⟨z,its,r,ob,e,c⟩:=x;exact⟨z,its,r,ob,k _ _ (.inl rfl) e,c⟩
 |dK kvs=>obtain⟨z,y,vs,r,ob,es,ep,e,c⟩:=x;exact⟨z,y,vs,r,ob,es,ep,k _ _ (.inl rfl) e,c⟩
 |dT kvs=>
  obtain⟨z,y,xs,r,ob,es,ep,e,c⟩:=x;exact⟨z,y,xs,Paired.mapP r fun p q z=>⟨z.1,ht _ _ z.2.1,z.2.2⟩,ob,es,ep,k _ _ (.inl rfl) e,c⟩
 |set S n=>obtain⟨ob,es,ep,t,e,c⟩:=x;exact⟨ob,es,ep,t,k _ _ (.inl rfl) e,c⟩
 |ins C dx fs=>
  obtain⟨d,z,ne,e,mA,⟨od,es,ep,e2,c⟩,r⟩:=x;exact⟨ho _ d,z,ne,k _ _ (.inl rfl) e,mA,⟨od,es,ep,k _ _ (.inr d) e2,c⟩,r⟩
 |own y=>obtain⟨ob,e⟩:=x;exact⟨ob,k _ _ (.inl rfl) e⟩
 |xd fs=>obtain⟨mA,⟨od,es,ep,e,c⟩,r⟩:=x;exact⟨mA,⟨od,es,ep,k _ _ (.inl rfl) e,c⟩,r⟩
 |rng lo hi=>obtain⟨t,u,v,e⟩:=x;exact⟨t,u,v,k _ _ (.inl rfl) e⟩
 |frz ob u ih=>obtain⟨e,q⟩:=x;exact⟨k _ _ (.inl rfl) e,ih q⟩
 |tbl ps=>
  have e:h.get? a=some { cls:=.none,data:=.fields ps }:=x
  show h'.get? a=some { cls:=.none,data:=.fields ps }
  exact k a _ (.inl rfl) e
 |met f y=>
  have e:h.get? a=some (W.methodObj (.ref f) (.ref y)):=x
  show h'.get? a=some (W.methodObj (.ref f) (.ref y))
  exact k a _ (.inl rfl) e
 |ext φ=>obtain⟨p,⟨o,e⟩,st⟩:=x;exact⟨st _ _ p fun o q=>k _ _ (.inl rfl) q,⟨o,k _ _ (.inl rfl) e⟩,st⟩
theorem HOk.lt(x:HOk P w H h)(e:H a=some o):a<h.objs.size:=(x a o e).lt
theorem HOk.fresh(x:HOk P w H h)(e:h.objs.size<=a):H a=none:=by
 cases q:H a with
 |none=>rfl
 |some u=>exact absurd (mU (x.lt q) e) (oi _)
theorem HOk.kept(x:HOk P w H h)(k:∀b u,h.get? b=some u->h'.get? b=some u):HOk P w H h':=fun a o e=>
 (x a o e).stay (fun b u _ q=>k b u q) (fun _ q=>q) fun _ _ q=>q
theorem HOk.laid(x:HOk P w H h)(k:∀b u,h.get? b=some u->h'.get? b=some u)(hp:h.objs.size<=a)(new:YH P w (upd H a o) h' a o):HOk P w (upd H a o) h':=fun b u e=>by
 have hn:=x.fresh hp
 by_cases hb:b=a
 ·subst hb;rw[Zb] at e;cases e;exact new
 ·rw[ZB hb] at e;exact(x b u e).stay (fun c v _ q=>k c v q) (fun c q=>by rw[ZB (ZL q hn)];exact q) fun c xs q=>by rw[ZB (ZL q hn)];exact q
end
def Rd(H:Hp)(a:Addr)(u:HO):Prop:=H a=some u\/∃o,H a=some (.frz o u)
theorem Rd.ok{P:Program}{w:World}{H:Hp}{h:Heap}{a:Addr}{u:HO}(r:Rd H a u)(x:HOk P w H h):YH P w H h a u:=by
 rcases r with r|⟨o,r⟩
 ·exact x a u r
 ·obtain⟨_,q⟩:=x a _ r;exact q
def Mut:Option HO->Prop
 |some (.lst _)=>True
 |some (.dK _)=>True
 |some (.dT _)=>True
 |some (.set _ _)=>True
 |some (.ins _ _ _)=>True
 |some (.ext _)=>True
 |_=>False
section
variable{P:Program}{w:World}{H:Hp}{h h':Heap}{x e:Addr}{o':HO}
theorem HOk.write(ok:HOk P w H h)(mu:Mut (H x))(he:e=x\/H e=some (.own x))(k:∀b u,b≠e->h.get? b=some u->h'.get? b=some u)(heo:∃u,h'.get? e=some u)
  (new:YH P w (upd H x o') h' x o'):HOk P w (upd H x o') h':=fun b u q=>by
 have nown:∀c y,H c=some (.own y)->c≠x:=fun c y r z=>by subst z;rw[r] at mu;exact mu
 have ntup:∀c xs,H c=some (.tup xs)->c≠x:=fun c xs r z=>by subst z;rw[r] at mu;exact mu
 by_cases hb:b=x
 ·subst hb;rw[Zb] at q;cases q;exact new
 ·rw[ZB hb] at q
  by_cases hbe:b=e
  ·have q':H b=some (.own x):=by
    rcases he with z|z
    ·exact absurd (hbe.trans z) hb
    ·rw[hbe];exact z
   rw[q] at q';cases q';obtain⟨v,hv⟩:=heo;exact⟨v,by rw[hbe];exact hv⟩
  ·refine(ok b u q).stay (fun c v hc r=>k c v ?_ r) (fun c r=>by rw[ZB (nown c b r)];exact r) fun c xs r=>by rw[ZB (ntup c xs r)];exact r
   rcases hc with rfl|hc
   ·exact hbe
   ·rintro rfl;rcases he with z|z
    ·exact nown c b hc z
    ·rw[hc] at z;cases z;exact hb rfl
end
structure Un(fs ex:List Addr)(H H':Hp)(h h':Heap):Prop where
 keep:∀b o,h.get? b=some o->H b=none->b∉fs->b∉ex->h'.get? b=some o
 slot:∀b o,h.get? b=some o->H b=none->b∈fs->b∉ex->∃sl,h'.get? b=some { o with slots:=sl }
 free:∀b o,h.get? b=some o->H b=none->b∉ex->H' b=none
 there:∀b o,h.get? b=some o->b∉ex->∃o',h'.get? b=some o'
 tups:∀b xs,H b=some (.tup xs)->H' b=some (.tup xs)
 frzs:∀b o u,H b=some (.frz o u)->H' b=some (.frz o u)
 tbls:∀b ps,H b=some (.tbl ps)->∃more,H' b=some (.tbl (ps++more))
section
variable{fs fs' ex ex':List Addr}{H H1 H2:Hp}{h h1 h2 h':Heap}{a x e:Addr}{o:HO}
theorem Un.any(u:Un fs ex H H1 h h1){b:Addr}{ob:Obj}(q:h.get? b=some ob)(n:H b=none)(hx:b∉ex):∃sl,h1.get? b=some { ob with slots:=sl }:=by
 by_cases hb:b∈fs
 ·exact u.slot b ob q n hb hx
 ·exact⟨ob.slots,u.keep b ob q n hb hx⟩
theorem Un.kept(k:∀b u,h.get? b=some u->h'.get? b=some u):Un fs ex H H h h':=
 ⟨fun b ob q _ _ _=>k b ob q,fun b ob q _ _ _=>⟨ob.slots,k b ob q⟩,fun _ _ _ n _=>n,fun b ob q _=>⟨ob,k b ob q⟩,fun _ _ q=>q,fun _ _ _ q=>q,fun _ ps q=>⟨#[],by rw[q];simp⟩⟩
theorem Un.refl:Un fs ex H H h h:=Un.kept fun _ _ q=>q
theorem Un.laid(k:∀b u,h.get? b=some u->h'.get? b=some u)(hp:h.objs.size<=a)(hn:H a=none):Un fs ex H (upd H a o) h h' where
 keep:=fun b u q _ _ _=>k b u q
 slot:=fun b u q _ _ _=>⟨u.slots,k b u q⟩
 free:=fun b u q n _=>by rw[ZB (me (mU (md q) hp))];exact n
 there:=fun b u q _=>⟨u,k b u q⟩
 tups:=fun b xs q=>by rw[ZB (ZL q hn)];exact q
 frzs:=fun b u xs q=>by rw[ZB (ZL q hn)];exact q
 tbls:=fun b ps q=>⟨#[],by rw[ZB (ZL q hn),q];simp⟩
theorem Un.write(mu:Mut (H x))(he:e=x\/H e=some (.own x))(k:∀b u,b≠e->h.get? b=some u->h'.get? b=some u)(heo:∃u,h'.get? e=some u):Un fs ex H (upd H x o) h h':=by
 have hx:∀b,H b=none->b≠x:=fun b n z=>by subst z;rw[n] at mu;exact mu
 have hb:∀b,H b=none->b≠e:=fun b n z=>by
  subst z;rcases he with r|r
  ·exact hx b n r
  ·rw[n] at r;cases r
 have hm:∀b u,H b=some u->¬Mut (some u)->b≠x:=fun b u q nm z=>by subst z;rw[q] at mu;exact nm mu
 refine⟨fun b u q n _ _=>k b u (hb b n) q,fun b u q n _ _=>⟨u.slots,k b u (hb b n) q⟩,fun b u q n _=>by rw[ZB (hx b n)];exact n,fun b u q _=>?_,
  fun b xs q=>by rw[ZB (hm b _ q fun z=>z)];exact q,fun b u xs q=>by rw[ZB (hm b _ q fun z=>z)];exact q,fun b ps q=>⟨#[],by rw[ZB (hm b _ q fun z=>z),q];simp⟩⟩
 by_cases hbe:b=e
 ·subst hbe;exact heo
 ·exact⟨u,k b u hbe q⟩
end
def trk(h:Heap)(H:Hp):List Addr:=(List.range h.objs.size).filter fun a=>(H a).isSome
def hidT(h:Heap)(H:Hp):Heap:=W.hideAll h (trk h H)
theorem hidT_size(h:Heap)(H:Hp):(hidT h H).objs.size=h.objs.size:=W.hideAll_size _ _
theorem hidT_get{h:Heap}{H:Hp}{b:Addr}{o:Obj}(e:h.get? b=some o)(n:H b=none):(hidT h H).get? b=some o:=
 W.hideAll_get _ e fun hm=>by
  have q:(H b).isSome=true:=(rB.mp hm).2;rw[n] at q;simp at q
theorem of_hidT{h:Heap}{H:Hp}{b:Addr}{o:Obj}(e:(hidT h H).get? b=some o):h.get? b=some o/\H b=none:=by
 have e':h.get? b=some o:=W.of_hideAll (trk h H) e;refine⟨e',?_⟩;cases q:H b with
 |none=>rfl
 |some x=>
  have hm:b∈trk h H:=rB.mpr ⟨pG.mpr (md e'),by simp[q]⟩;have z:(hidT h H).get? b=none:=W.hideAll_none (trk h H) hm;rw[z] at e;cases e
def allNews(g h:Heap)(L:Addr):List (Addr×Obj):=(List.range h.objs.size).filterMap fun a=>if a=L\/(g.get? a).isSome=true then none else(h.get? a).map fun o=>(a,o)
def X5(g h:Heap)(L d:Addr):List (Addr×Obj):=(allNews g h L).filter fun p=>decide (p.1≠d)
structure Mod(K:W.Frag)(mg:Str->Option Value)(base:Heap):Prop where
 kin:K.In base
 glob:base.Ns mainGlobals mg
 blt:∃mb,base.Ns builtinsNs mb/\∀x:Str,x ≠ "__name__" -> mb x=bootBuiltins x
 nolimit:base.NoLimit
structure Cx where
 prog:Program
 w:World
 K:W.Frag
 mg:Str->Option Value
 base:Heap
 A:Around
 N:List Str
 s₀:Shared
 H₀:Hp
 env:Env
 outer:List Env
 stack:List Env
 ex:List Addr
 fn:Str->Bool
 calm:Bool
 pn:List (Addr×Obj)
 xe:Value->Shared->Prop
def frs(l:List Env):List Addr:=l.filterMap (·.frame)
abbrev Cx.fs(X:Cx):List Addr:=frs X.outer
def Vis(sc:Scope)(x:Str):Prop:=sc.names.lookup x=some .local\/sc.names.lookup x=some .cell\/sc.names.lookup x=some .free
def Loc(sc:Scope)(x:Str):Prop:=sc.names.lookup x=some .local\/sc.names.lookup x=some .cell
def Look(env:Env)(h:Heap)(m:Str->Option Value)(x:Str)(u:Value):Prop:=
 (env.kindOf x=some .local/\m x=some u)\/((env.kindOf x=some .cell\/env.kindOf x=some .free)/\∃c,env.cells.lookup x=some c/\h.IsCell c (some u))
structure Cx.Ok(X:Cx):Prop where
 mod:Mod X.K X.mg X.base
 kind:X.env.scope.kind=.function
 glob:X.env.globals=mainGlobals
 blt:X.env.builtins=builtinsNs
 above:X.s₀.heap.objs.size<=X.env.locals
 inj:∀x y c,X.env.cells.lookup x=some c->X.env.cells.lookup y=some c->x=y
 has:∀x,(X.env.kindOf x=some .cell\/X.env.kindOf x=some .free)->∃c,X.env.cells.lookup x=some c
 cab:∀x c,X.fn x=true->X.env.cells.lookup x=some c->X.s₀.heap.objs.size<=c
 hd:X.calm=true->X.A.handled=none
 frames:X.A.frames=some X.stack
 stk:X.stack=X.outer\/(X.stack=X.env::X.outer/\X.env.frame=some X.env.locals)
 exf:∀b∈X.ex,b≠X.env.locals/\∀x c,X.env.cells.lookup x=some c->c≠b
 bs:∀b o,X.base.get? b=some o->X.s₀.heap.get? b=some o/\X.H₀ b=none
 bsz:X.base.objs.size<=X.s₀.heap.objs.size
 noex:∀b o,X.base.get? b=some o->b∉X.ex
 exfs:∀b∈X.ex,b∉X.fs
 funs:X.s₀.heap.FunFrames X.base X.outer
 frf:∀b∈X.fs,X.H₀ b=none
structure Inv(X:Cx)(lL:List (Addr×Obj))(σ:List (Option V))(H:Hp)(s:Shared):Prop where
 ok:X.Ok
 os:s.os=X.s₀.os
 bare:AllBare s.gens
 base:Un X.fs X.ex X.H₀ H X.s₀.heap s.heap
 loc:∃m,s.heap.Ns X.env.locals m/\∀(i:Nat) (x:Str) (v:V),X.N[i]?=some x->σ[i]?=some (some v)->Vis X.env.scope x->∃u,ZQ v u/\Look X.env s.heap m x u
 cell:∀x c,X.env.cells.lookup x=some c->∃v,s.heap.IsCell c v
 free:H X.env.locals=none
 freeC:∀x c,X.env.cells.lookup x=some c->H c=none
 pin:∀p∈X.pn++lL,s.heap.get? p.1=some p.2/\H p.1=none/\p.1≠X.env.locals/\p.1∉X.fs/\∀v,p.2.data≠.cell v
 hok:HOk X.prog X.w H s.heap
 len:σ.length=X.N.length
section
variable{X:Cx}{lL:List (Addr×Obj)}{σ:List (Option V)}{H H':Hp}{s:Shared}{h':Heap}
theorem Cx.Ok.nofr(ok:X.Ok){b:Addr}{o:Obj}(e:X.base.get? b=some o):b∉X.fs:=fun hb=>by
 have:=(ok.funs.mem hb).1;rw[e] at this;cases this
theorem Inv.bs(I:Inv X lL σ H s):∀b o,X.base.get? b=some o->s.heap.get? b=some o/\H b=none:=fun b o e=>
 ⟨I.base.keep b o (I.ok.bs b o e).1 (I.ok.bs b o e).2 (I.ok.nofr e) (I.ok.noex b o e),I.base.free b o (I.ok.bs b o e).1 (I.ok.bs b o e).2 (I.ok.noex b o e)⟩
theorem Inv.bk(I:Inv X lL σ H s):∀b o,X.base.get? b=some o->s.heap.get? b=some o:=fun b o e=>(I.bs b o e).1
theorem Inv.mod(I:Inv X lL σ H s):Mod X.K X.mg X.base:=I.ok.mod
theorem Inv.kIn(I:Inv X lL σ H s):X.K.In s.heap:=I.ok.mod.kin.keeps I.bk
theorem Inv.fr(I:Inv X lL σ H s):∃m,Fr X.base X.env.locals s.heap m:=
 let ⟨m,hn,_⟩:=I.loc
 ⟨m,hn,I.bk,mC I.ok.bsz I.ok.above⟩
theorem Inv.lt(I:Inv X lL σ H s):X.env.locals<s.heap.objs.size:=let ⟨_,hn,_⟩:=I.loc;hn.lt
theorem Inv.sz(I:Inv X lL σ H s):X.s₀.heap.objs.size<=s.heap.objs.size:=mC I.ok.above (nI I.lt)
theorem Inv.nofs(I:Inv X lL σ H s){a:Addr}(h:s.heap.objs.size<=a):a∉X.fs:=fun hb=>by
 obtain⟨_,o,ho,_⟩:=I.ok.funs.mem hb;exact absurd (mU (md ho) (mC I.sz h)) (oi _)
theorem Inv.cne(I:Inv X lL σ H s):∀x c,X.env.cells.lookup x=some c->c≠X.env.locals:=fun x c e z=>by
 obtain⟨v,o,ho,hd⟩:=I.cell x c e;obtain⟨m,⟨o',es,ep,ho',hd',_⟩,_⟩:=I.loc;rw[z,ho'] at ho;cases ho;rw[hd'] at hd;cases hd
theorem Inv.funs(I:Inv X lL σ H s):s.heap.FunFrames X.base X.outer:=by
 have all:∀(l:List Env),(∀b∈frs l,b∈X.fs)->X.s₀.heap.FunFrames X.base l->s.heap.FunFrames X.base l:=by
  intro l
  induction l with
  |nil=>intro _ _;trivial
  |cons env r ih=>
   intro hs hl;obtain⟨hk,⟨L,o,hf,hn,ho,hd⟩,hr⟩:=hl;have hL:L∈X.fs:=hs L (by unfold frs;rw[rC,hf];exact oO);obtain⟨sl,e⟩:=I.base.slot L o ho (I.ok.frf L hL) hL fun z=>I.ok.exfs L z hL;exact⟨hk,⟨L,_,hf,hn,e,hd⟩,ih (fun b hb=>hs b (by unfold frs;rw[rC,hf];exact mi _ hb)) hr⟩
 exact all X.outer (fun _ hb=>hb) I.ok.funs
theorem Inv.stack(I:Inv X lL σ H s):s.heap.FunFrames X.base X.stack:=by
 rcases I.ok.stk with e|⟨e,hf⟩
 ·rw[e];exact I.funs
 ·rw[e];obtain⟨m,hn,_⟩:=I.loc;refine .cons (by rw[I.ok.kind];decide) hf hn ?_ I.funs;exact Heap.get?_none_of_le (mC I.ok.bsz I.ok.above)
theorem Inv.stkSub(I:Inv X lL σ H s):∀b∈frs X.stack,b∈X.env.locals::X.fs:=fun b hb=>by
 rcases I.ok.stk with e|⟨e,hf⟩
 ·rw[e] at hb;exact mi _ hb
 ·rw[e] at hb;unfold frs at hb;rw[rC,hf] at hb;exact hb
theorem Inv.stkFree(I:Inv X lL σ H s):∀b∈frs X.stack,H b=none:=fun b hb=>by
 rcases mw.mp (I.stkSub b hb) with e|hb
 ·rw[e];exact I.free
 ·obtain⟨_,o,ho,_⟩:=I.ok.funs.mem hb;exact I.base.free b o ho (I.ok.frf b hb) fun z=>I.ok.exfs b z hb
theorem Inv.step{g':Array GenState}{t':Nat}{d':Drawn}{ch:List Addr}(I:Inv X lL σ H s)
  (hch:∀b∈ch,(b∈X.ex\/X.s₀.heap.objs.size<=b)/\b≠X.env.locals/\(∀x c,X.env.cells.lookup x=some c->c≠b)/\∀p∈X.pn++lL,p.1≠b)
  (keep:∀b o,b≠X.env.locals->b∉X.fs->b∉ch->s.heap.get? b=some o->H b=none->h'.get? b=some o)
  (slot:∀b o,b≠X.env.locals->b∈X.fs->b∉ch->s.heap.get? b=some o->H b=none->∃sl,h'.get? b=some { o with slots:=sl }) (free:∀b o,b∉ch->s.heap.get? b=some o->H b=none->H' b=none)
  (there:∀b o,b∉ch->s.heap.get? b=some o->∃o',h'.get? b=some o')
  (tups:∀b xs,H b=some (.tup xs)->H' b=some (.tup xs)) (frzs:∀b o u,H b=some (.frz o u)->H' b=some (.frz o u)) (tbls:∀b ps,H b=some (.tbl ps)->∃more,H' b=some (.tbl (ps++more)))
  (ns:∀m,s.heap.Ns X.env.locals m->h'.Ns X.env.locals m) (hok:HOk X.prog X.w H' h') (hg:AllBare g') :
  Inv X lL σ H' { s with heap:=h',gens:=g',drawn:=d',toks:=t' }:=by
 have neL:∀b o,X.s₀.heap.get? b=some o->b≠X.env.locals:=fun b o e=>me (mU (md e) I.ok.above);have neC:∀b o,X.s₀.heap.get? b=some o->b∉X.ex->b∉ch:=fun b o e hx hb=>by
  rcases(hch b hb).1 with z|z
  ·exact hx z
  ·exact absurd (mU (md e) z) (oi _)
 have cellK:∀x c,X.env.cells.lookup x=some c->∀v,s.heap.IsCell c v->h'.IsCell c v:=fun x c e v ⟨o,ho,hd⟩=>by
  have nch:c∉ch:=fun z=>(hch c z).2.2.1 x c e rfl
  by_cases hc:c∈X.fs
  ·obtain⟨sl,q⟩:=slot c o (I.cne x c e) hc nch ho (I.freeC x c e);exact⟨_,q,hd⟩
  ·exact⟨o,keep c o (I.cne x c e) hc nch ho (I.freeC x c e),hd⟩
 refine⟨I.ok,I.os,hg,⟨fun b o e n hb hx=>?_,fun b o e n hb hx=>?_,fun b o e n hx=>?_,fun b o e hx=>?_,fun b xs e=>tups b xs (I.base.tups b xs e),fun b o xs e=>frzs b o xs (I.base.frzs b o xs e),fun b ps e=>?_⟩,?_,fun x c e=>?_,?_,fun x c e=>?_,fun p hp=>?_,hok,I.len⟩
 ·exact keep b o (neL b o e) hb (neC b o e hx) (I.base.keep b o e n hb hx) (I.base.free b o e n hx)
 ·obtain⟨sl,e1⟩:=I.base.slot b o e n hb hx;obtain⟨sl',e2⟩:=slot b _ (neL b o e) hb (neC b o e hx) e1 (I.base.free b o e n hx);exact⟨sl',e2⟩
 ·obtain⟨o',e1⟩:=I.base.there b o e hx;exact free b o' (neC b o e hx) e1 (I.base.free b o e n hx)
 ·obtain⟨o',e1⟩:=I.base.there b o e hx;exact there b o' (neC b o e hx) e1
 ·obtain⟨m1,e1⟩:=I.base.tbls b ps e;obtain⟨m2,e2⟩:=tbls b _ e1;exact⟨m1++m2,by rw[e2,Array.append_assoc]⟩
 ·obtain⟨m,hn,hl⟩:=I.loc;refine⟨m,ns m hn,fun i x v e1 e2 e3=>?_⟩;obtain⟨u,r,l⟩:=hl i x v e1 e2 e3;refine⟨u,r,?_⟩;rcases l with l|⟨k,c,e,z⟩
  ·exact .inl l
  ·exact .inr ⟨k,c,e,cellK x c e _ z⟩
 ·obtain⟨v,z⟩:=I.cell x c e;exact⟨v,cellK x c e v z⟩
 ·obtain⟨m,⟨o,_,_,ho,_⟩,_⟩:=I.loc;exact free _ o (fun z=>(hch _ z).2.1 rfl) ho I.free
 ·obtain⟨v,o,ho,hd⟩:=I.cell x c e;exact free c o (fun z=>(hch c z).2.2.1 x c e rfl) ho (I.freeC x c e)
 ·obtain⟨e,n,ne,nf,d⟩:=I.pin p hp;have nch:p.1∉ch:=fun z=>(hch p.1 z).2.2.2 p hp rfl;exact⟨keep p.1 p.2 ne nf nch e n,free p.1 p.2 nch e n,ne,nf,d⟩
theorem Inv.un{t':Nat}(I:Inv X lL σ H s)(u:Un X.fs [] H H' s.heap h')(hok:HOk X.prog X.w H' h'):Inv X lL σ H' { s with heap:=h',toks:=t' }:=by
 obtain⟨m,⟨o,es,ep,ho,r⟩,_⟩:=id I.loc;obtain⟨sl,hL⟩:=u.any ho I.free (by simp);exact I.step (g':=s.gens) (d':=s.drawn) (ch:=[]) (fun _ z=>nomatch z) (fun b o _ hb _ e n=>u.keep b o e n hb (by simp)) (fun b o _ hb _ e n=>u.slot b o e n hb (by simp)) (fun b o _ e n=>u.free b o e n (by simp)) (fun b o _ e=>u.there b o e (by simp)) u.tups u.frzs u.tbls (fun m' hm=>by
  obtain⟨o',es',ep',ho',r'⟩:=hm;rw[ho] at ho';cases ho';exact⟨_,es',ep',hL,r'⟩) hok I.bare
theorem Inv.call{g':Array GenState}{t':Nat}{d':Drawn}{ch:List Addr}(I:Inv X lL σ H s)(u:Un (frs X.stack) ch H H' s.heap h')(hok:HOk X.prog X.w H' h')(hg:AllBare g')
  (hch:∀b∈ch,(b∈X.ex\/X.s₀.heap.objs.size<=b)/\b≠X.env.locals/\(∀x c,X.env.cells.lookup x=some c->c≠b)/\∀p∈X.pn++lL,p.1≠b) :
  Inv X lL σ H' { s with heap:=h',gens:=g',drawn:=d',toks:=t' }:=by
 obtain⟨m,⟨o,es,ep,ho,r⟩,_⟩:=id I.loc;obtain⟨sl,hL⟩:=u.any ho I.free fun z=>(hch _ z).2.1 rfl;exact I.step (ch:=ch) hch (fun b o hL hb hc e n=>u.keep b o e n (fun z=>(mw.mp (I.stkSub b z)).elim hL hb) hc) (fun b o _ _ hc e n=>u.any e n hc) (fun b o hc e n=>u.free b o e n hc) (fun b o hc e=>u.there b o e hc) u.tups u.frzs u.tbls (fun m' hm=>by
  obtain⟨o',es',ep',ho',r'⟩:=hm;rw[ho] at ho';cases ho';exact⟨_,es',ep',hL,r'⟩) hok hg
theorem Inv.turned{t':Nat}{it:Addr}(I:Inv X lL σ H s)(k:∀b o,b≠it->s.heap.get? b=some o->h'.get? b=some o)(hn:H it=none)(hL:it≠X.env.locals)
  (h1:it∈X.ex\/X.s₀.heap.objs.size<=it) (h2:∀x c,X.env.cells.lookup x=some c->c≠it) (h3:∀p∈X.pn++lL,p.1≠it):Inv X lL σ H { s with heap:=h',toks:=t' }:=by
 have nit:∀b u,H b=some u->b≠it:=fun b u e z=>by rw[z,hn] at e;cases e
 refine I.step (g':=s.gens) (d':=s.drawn) (ch:=[it]) (fun b hb=>?_) (fun b o _ _ hc e _=>k b o (fun z=>hc (by simp[z])) e) (fun b o _ _ hc e _=>⟨o.slots,k b o (fun z=>hc (by simp[z])) e⟩) (fun _ _ _ _ n=>n)
  (fun b o hc e=>⟨o,k b o (fun z=>hc (by simp[z])) e⟩) (fun _ _ e=>e) (fun _ _ _ e=>e) (fun b ps e=>⟨#[],by rw[e];simp⟩) (fun m hm=>?_) (fun b u e=>?_) I.bare
 ·have e:b=it:=by simpa using hb
  subst e;exact⟨h1,hL,h2,h3⟩
 ·obtain⟨o,es,ep,ho,r⟩:=hm;exact⟨o,es,ep,k _ o (mj hL) ho,r⟩
 ·refine(I.hok b u e).stay (fun c v hc q=>k c v ?_ q) (fun _ q=>q) fun _ _ q=>q;rcases hc with z|z
  ·rw[z];exact nit b u e
  ·exact nit c _ z
theorem Inv.tok(I:Inv X lL σ H s)(t:Nat):Inv X lL σ H { s with toks:=t }:=I.un (h':=s.heap) (t':=t) Un.refl I.hok
theorem Inv.kept{t':Nat}(I:Inv X lL σ H s)(k:∀b u,s.heap.get? b=some u->h'.get? b=some u):Inv X lL σ H { s with heap:=h',toks:=t' }:=I.un (Un.kept k) (I.hok.kept k)
theorem Inv.laid{a:Addr}{o:HO}{t':Nat}(I:Inv X lL σ H s)(k:∀b u,s.heap.get? b=some u->h'.get? b=some u)(hp:s.heap.objs.size<=a)(new:YH X.prog X.w (upd H a o) h' a o) :
  Inv X lL σ (upd H a o) { s with heap:=h',toks:=t' }:=I.un (Un.laid k hp (I.hok.fresh hp)) (I.hok.laid k hp new)
theorem Inv.write{x e:Addr}{o:HO}{t':Nat}(I:Inv X lL σ H s)(mu:Mut (H x))(he:e=x\/H e=some (.own x))(k:∀b u,b≠e->s.heap.get? b=some u->h'.get? b=some u)(heo:∃u,h'.get? e=some u)
  (new:YH X.prog X.w (upd H x o) h' x o):Inv X lL σ (upd H x o) { s with heap:=h',toks:=t' }:=I.un (Un.write mu he k heo) (I.hok.write mu he k heo new)
theorem Inv.pins_of{pins':List (Addr×Obj)}(I:Inv X lL σ H s)(h:∀p∈pins',s.heap.get? p.1=some p.2/\H p.1=none/\p.1≠X.env.locals/\p.1∉X.fs/\∀v,p.2.data≠.cell v):Inv X pins' σ H s:=
 ⟨I.ok,I.os,I.bare,I.base,I.loc,I.cell,I.free,I.freeC,fun p hp=>(ml.mp hp).elim (fun z=>I.pin p (mX _ z)) (h p),I.hok,I.len⟩
theorem kK{N:List Str}(hN:N.Nodup){i j:Nat}{x:Str}(a:N[i]?=some x)(b:N[j]?=some x):i=j:=by
 obtain⟨h1,e1⟩:=mo.mp a;obtain⟨h2,e2⟩:=mo.mp b;exact(o8 hN).mp (e1.trans e2.symm)
theorem xW{M:Model}{A:Around}{E:Value->Shared->Prop}{i:Nat}{x:Str}{v:V}{u:Value}{Q:Unit->Shared->Prop}(I:Inv X lL σ H s)(hN:X.N.Nodup)(hi:X.N[i]?=some x)(hx:Loc X.env.scope x)(r:ZQ v u)
  (h:∀s',Inv X lL (σ.set i (some v)) H s'->(∃a,Heap.SameBut a s.heap s'.heap/\(a=X.env.locals\/X.env.cells.lookup x=some a))->Q () s') (hf:X.fn x=true\/X.env.scope.names.lookup x=some .local:=by first|exact .inl rfl|exact .inr rfl|assumption):wpAny M A (storeName X.env x u) Q E s:=by
 obtain⟨m,hn,hl⟩:=id I.loc;have hcls:(X.env.scope.kind==.class||(X.env.scope.kind==.module&&X.env.locals != X.env.globals))=false:=by rw[I.ok.kind];rfl
 have hiσ:i<σ.length:=by rw[I.len];exact(mo.mp hi).1
 have cne:=I.cne;have tracked:∀{a:Addr}{h':Heap},(∃o,s.heap.get? a=some o/\H a=none)->Heap.SameBut a s.heap h'->HOk X.prog X.w H h':=fun {a h'} ha hs b ob e=>by
  obtain⟨_,_,hfree⟩:=ha;refine(I.hok b ob e).stay (fun c w' hc q=>(hs.2 c ?_).trans q) (fun _ q=>q) fun _ _ q=>q;rintro rfl;rcases hc with rfl|hc
  ·rw[hfree] at e;cases e
  ·rw[hfree] at hc;cases hc
 rcases hx with hk|hk
 ·refine wpAny_storeName_local hk hn (fun h' hn' hs=>?_) hcls;obtain⟨oL,_,_,hoL,_⟩:=id hn;refine h _ ⟨I.ok,I.os,I.bare,⟨fun b o e n hb hx=>?_,fun b o e n hb hx=>?_,I.base.free,fun b o e hx=>?_,I.base.tups,I.base.frzs,I.base.tbls⟩,⟨_,hn',fun j y v' e1 e2 e3=>?_⟩,fun y c e=>?_,I.free,I.freeC,fun p hp=>?_,tracked ⟨oL,hoL,I.free⟩ hs,by simpa using I.len⟩ ⟨_,hs,.inl rfl⟩
  ·exact(hs.2 b (me (mU (md e) I.ok.above))).trans (I.base.keep b o e n hb hx)
  ·obtain⟨sl,e1⟩:=I.base.slot b o e n hb hx;exact⟨sl,(hs.2 b (me (mU (md e) I.ok.above))).trans e1⟩
  ·obtain⟨o',e1⟩:=I.base.there b o e hx;exact⟨o',(hs.2 b (me (mU (md e) I.ok.above))).trans e1⟩
  ·by_cases hj:j=i
   ·subst hj;rw[hi] at e1;cases e1;rw[List.getElem?_set_self hiσ] at e2;cases e2;exact⟨u,r,.inl ⟨hk,by simp⟩⟩
   ·rw[List.getElem?_set_ne (mj hj)] at e2;obtain⟨u',r',q⟩:=hl j y v' e1 e2 e3;refine⟨u',r',?_⟩;rcases q with⟨k,e⟩|⟨k,c,e,z⟩
    ·refine .inl ⟨k,?_⟩;have:y≠x:=fun e=>hj (kK hN e1 (e▸hi));simp[this,e]
    ·exact .inr ⟨k,c,e,z.sameBut hs (cne y c e)⟩
  ·obtain⟨w',z⟩:=I.cell y c e;exact⟨w',z.sameBut hs (cne y c e)⟩
  ·obtain⟨e,n,ne,nf,d⟩:=I.pin p hp;exact⟨(hs.2 p.1 ne).trans e,n,ne,nf,d⟩
 ·have hfn:X.fn x=true:=by
   rcases hf with z|z
   ·exact z
   ·rw[z] at hk;cases hk
  obtain⟨c,hc⟩:=I.ok.has x (.inl hk);obtain⟨w',z⟩:=I.cell x c hc;refine wpAny_storeName_cell I.ok.kind hk hc z (fun h' hc' hs=>?_);obtain⟨oc,hoc,hocd⟩:=id z;refine h { s with heap:=h' } ⟨I.ok,I.os,I.bare,⟨fun b o e n hb hx=>?_,fun b o e n hb hx=>?_,I.base.free,fun b o e hx=>?_,I.base.tups,I.base.frzs,I.base.tbls⟩,⟨m,hn.sameBut hs (mj (cne x c hc)),fun j y v' e1 e2 e3=>?_⟩,fun y c' e=>?_,I.free,I.freeC,fun p hp=>?_,tracked ⟨oc,hoc,I.freeC x c hc⟩ hs,by simpa using I.len⟩ ⟨c,hs,.inr hc⟩
  ·exact(hs.2 b (me (mU (md e) (I.ok.cab x c hfn hc)))).trans (I.base.keep b o e n hb hx)
  ·obtain⟨sl,e1⟩:=I.base.slot b o e n hb hx;exact⟨sl,(hs.2 b (me (mU (md e) (I.ok.cab x c hfn hc)))).trans e1⟩
  ·obtain⟨o',e1⟩:=I.base.there b o e hx;exact⟨o',(hs.2 b (me (mU (md e) (I.ok.cab x c hfn hc)))).trans e1⟩
  ·by_cases hj:j=i
   ·subst hj;rw[hi] at e1;cases e1;rw[List.getElem?_set_self hiσ] at e2;cases e2;exact⟨u,r,.inr ⟨.inl hk,c,hc,hc'⟩⟩
   ·rw[List.getElem?_set_ne (mj hj)] at e2;obtain⟨u',r',q⟩:=hl j y v' e1 e2 e3;refine⟨u',r',?_⟩;rcases q with q|⟨k,c',e,z'⟩
    ·exact .inl q
    ·refine .inr ⟨k,c',e,z'.sameBut hs ?_⟩;rintro rfl;exact hj (kK hN e1 (I.ok.inj _ _ _ e hc▸hi))
  ·by_cases hcc:c'=c
   ·subst hcc;exact⟨_,hc'⟩
   ·obtain⟨w2,z2⟩:=I.cell y c' e;exact⟨w2,z2.sameBut hs hcc⟩
  ·obtain⟨e,n,ne,nf,d⟩:=I.pin p hp;refine⟨(hs.2 p.1 ?_).trans e,n,ne,nf,d⟩;intro q;rw[q,hoc] at e;have q':oc=p.2:=mv e;exact d w' (by rw[<- q'];exact hocd)
theorem yV{M:Model}{A:Around}{E:Value->Shared->Prop}{i:Nat}{x:Str}{v:V}{u:Value}{Q:Unit->Shared->Prop}(I:Inv X lL σ H s)(hN:X.N.Nodup)(hi:X.N[i]?=some x)(hx:Loc X.env.scope x)(r:ZQ v u)
  (h:∀s',Inv X lL (σ.set i (some v)) H s'->Q () s') (hf:X.fn x=true\/X.env.scope.names.lookup x=some .local:=by first|exact .inl rfl|exact .inr rfl|assumption):wpAny M A (storeName X.env x u) Q E s:=
 xW I hN hi hx r (fun s' I' _=>h s' I') hf
theorem Inv.call'{s':Shared}{ch:List Addr}(I:Inv X lL σ H s)(ho:s'.os=s.os)(u:Un (frs X.stack) ch H H' s.heap s'.heap)(hok:HOk X.prog X.w H' s'.heap)(hg:AllBare s'.gens)
  (hch:∀b∈ch,(b∈X.ex\/X.s₀.heap.objs.size<=b)/\b≠X.env.locals/\(∀x c,X.env.cells.lookup x=some c->c≠b)/\∀p∈X.pn++lL,p.1≠b):Inv X lL σ H' s':=by
 obtain⟨h',g',d',t',o'⟩:=s';have e:o'=s.os:=ho;subst e;exact I.call (g':=g') (t':=t') (d':=d') u hok hg hch
end
abbrev XK:=Value->Option Addr->Hp->Prop
abbrev St:=List (Option V)
abbrev VK:=V->Hp->Prop
abbrev TE:=St->Hp->VK->Prop
abbrev TT:=St->Hp->(Bool->Hp->Prop)->Prop
abbrev TA:=St->Hp->(List V->Hp->Prop)->Prop
structure Ends where
 nx:St->Hp->Prop
 rt:VK
 bk:St->Hp->Prop:=fun _ _=>False
 ct:St->Hp->Prop:=fun _ _=>False
abbrev TS:=Ends->St->Hp->Prop
def EP(X:Cx)(lL:List (Addr×Obj))(σ:St)(Q:VK)(u:Value)(s':Shared):Prop:=∃v H',Inv X lL σ H' s'/\ZQ v u/\Q v H'
def TP(X:Cx)(lL:List (Addr×Obj))(σ:St)(Q:Bool->Hp->Prop)(b:Bool)(s':Shared):Prop:=∃H',Inv X lL σ H' s'/\Q b H'
def AP(X:Cx)(lL:List (Addr×Obj))(σ:St)(Q:List V->Hp->Prop)(us:List Value)(s':Shared):Prop:=∃vs H',Inv X lL σ H' s'/\ZH vs us/\Q vs H'
def SP(X:Cx)(lL:List (Addr×Obj))(D:Ends)(f:Flow)(s':Shared):Prop:=
 match f with
 |.next=>∃σ' H',Inv X lL σ' H' s'/\D.nx σ' H'
 |.brk=>∃σ' H',Inv X lL σ' H' s'/\D.bk σ' H'
 |.cont=>∃σ' H',Inv X lL σ' H' s'/\D.ct σ' H'
 |.ret u=>∃v σ' H',Inv X lL σ' H' s'/\ZQ v u/\D.rt v H'
def PE(X:Cx)(e:Expr)(t:TE):Prop:=
 ∀(lL:List (Addr×Obj)) (s:Shared) (σ:St) (H:Hp) (Q:VK),Inv X lL σ H s->t σ H Q->wpAny (model X.prog X.w) X.A (eval e X.env) (EP X lL σ Q) X.xe s
def PT(X:Cx)(e:Expr)(t:TT):Prop:=
 ∀(lL:List (Addr×Obj)) (s:Shared) (σ:St) (H:Hp) (Q:Bool->Hp->Prop),Inv X lL σ H s->t σ H Q->wpAny (model X.prog X.w) X.A (isTrue e X.env (eval e X.env)) (TP X lL σ Q) X.xe s
def PW(X:Cx)(e:Expr)(t:TT):Prop:=
 ∀(whole:Sem Value) (lL:List (Addr×Obj)) (s:Shared) (σ:St) (H:Hp) (Q:Bool->Hp->Prop),Inv X lL σ H s->t σ H Q->wpAny (model X.prog X.w) X.A (isTrue e X.env whole) (TP X lL σ Q) X.xe s
theorem PW.pt{X:Cx}{e:Expr}{t:TT}(h:PW X e t):PT X e t:=h _
def PA(X:Cx)(es:List Expr)(t:TA):Prop:=
 ∀(pos:Pos) (lL:List (Addr×Obj)) (s:Shared) (σ:St) (H:Hp) (Q:List V->Hp->Prop),Inv X lL σ H s->t σ H Q->wpAny (model X.prog X.w) X.A (spliced (backTo pos (starEach es X.env))) (AP X lL σ Q) X.xe s
def PS(X:Cx)(st:Stmt)(t:TS):Prop:=
 ∀(lL:List (Addr×Obj)) (s:Shared) (σ:St) (H:Hp) (D:Ends),Inv X lL σ H s->t D σ H->wpAny (model X.prog X.w) X.A (exec st X.env) (SP X lL D) X.xe s
def PSs(X:Cx)(st:List Stmt)(t:TS):Prop:=
 ∀(lL:List (Addr×Obj)) (s:Shared) (σ:St) (H:Hp) (D:Ends),Inv X lL σ H s->t D σ H->wpAny (model X.prog X.w) X.A (execs st X.env) (SP X lL D) X.xe s
theorem thn{α:Type}{t:Sem α}{Q Q':α->Shared->Prop}{M:Model}{A:Around}{E:Value->Shared->Prop}{s:Shared}(h:wpAny M A t Q E s)(hQ:∀a s,Q a s->Q' a s):wpAny M A t Q' E s:=oP h hQ fun _ _ x=>x
section
variable{X:Cx}
theorem bin{a b:Expr}{ta tb:TE}(ha:PE X a ta)(hb:PE X b tb){lL:List (Addr×Obj)}{s:Shared}{σ:St}{H:Hp}{R:V->V->Hp->Prop}(I:Inv X lL σ H s)(h:ta σ H fun x H1=>tb σ H1 fun y H2=>R x y H2)
  {α:Type}{Q:α->Shared->Prop}{f:Value->Value->Sem α}
  (hf:∀v u s2 x y H2,Inv X lL σ H2 s2->ZQ x v->ZQ y u->R x y H2->wpAny (model X.prog X.w) X.A (f v u) Q X.xe s2) :
  wpAny (model X.prog X.w) X.A (eval a X.env) (fun v s₁=>wpAny (model X.prog X.w) X.A (eval b X.env) (fun u s₂=>wpAny (model X.prog X.w) X.A (f v u) Q X.xe s₂) X.xe s₁) X.xe s:=by
 refine thn (ha lL s σ H _ I h) fun v s1 ⟨x,H1,I1,r1,q1⟩=>?_;refine thn (hb lL s1 σ H1 _ I1 q1) fun u s2 ⟨y,H2,I2,r2,q2⟩=>?_;exact hf v u s2 x y H2 I2 r1 r2 q2
inductive VarR(i:Nat)(σ:St)(H:Hp)(Q:VK):Prop
 |mk (v:V) (h:σ[i]?=some (some v)) (k:Q v H):VarR i σ H Q
def tVar(i:Nat):TE:=fun σ H Q=>VarR i σ H Q
def tC(v:V):TE:=fun _ H Q=>Q v H
theorem pe_var{i:Nat}{x:Str}{pos:Pos}(hN:X.N[i]?=some x)(hv:Vis X.env.scope x)(hd:(x==("__debug__" : Str))=false:=by decide)(hcd:(x==("__classdict__" : Str))=false:=by decide):PE X (.Name x pos) (tVar i):=by
 intro lL s σ H Q I h;obtain⟨v,e,h⟩:=h;obtain⟨m,hn,hl⟩:=I.loc;obtain⟨u,r,l⟩:=hl i x v hN e hv;have fin:EP X lL σ Q u s:=⟨v,H,I,r,h⟩;rcases l with⟨hk,hm⟩|⟨hk,c,hc,hcell⟩
 ·exact wpAny_Name (wpAny_loadName_local I.ok.kind hk hn hm fin) hd
 ·rcases hk with hk|hk
  ·exact wpAny_Name (wpAny_loadName_cell I.ok.kind hk hc hcell fin) hd
  ·exact wpAny_Name (wpAny_loadName_free I.ok.kind hk hc hcell fin hcd) hd
theorem Zf{i j pos}:PE X (.Constant (.int i) j pos) (tC (.int i)):=fun _ _ _ H _ I h=>wpAny_Constant_int ⟨.int i,H,I.tok _,⟨_,rfl⟩,h⟩
theorem Vj{b j pos}:PE X (.Constant (.bool b) j pos) (tC (.bl b)):=fun _ _ _ H _ I h=>Constant_bool ⟨.bl b,H,I,rfl,h⟩
theorem Zt{x j pos}:PE X (.Constant (.str x) j pos) (tC (.str x)):=fun _ _ _ H _ I h=>Calls.Constant_str ⟨.str x,H,I.tok _,⟨_,rfl⟩,h⟩
def Gl(X:Cx)(x:Str):Prop:=X.env.kindOf x=some .globalImplicit
theorem zM{E:Value->Shared->Prop}{lL:List (Addr×Obj)}{s:Shared}{σ:St}{H:Hp}{x:Str}{u:Value}{pos:Pos}{Q:Value->Shared->Prop}(I:Inv X lL σ H s)(hg:Gl X x)(hm:X.mg x=some u)(h:Q u s)
  (hd:(x==("__debug__" : Str))=false:=by decide):wpAny (model X.prog X.w) X.A (eval (.Name x pos) X.env) Q E s:=
 Calls.Name_function_global I.ok.kind hg (Calls.loadGlobal_global (by rw[I.ok.glob];exact I.mod.glob.keeps I.bk) hm h) hd
theorem VS{E:Value->Shared->Prop}{lL:List (Addr×Obj)}{s:Shared}{σ:St}{H:Hp}{x:Str}{u:Value}{pos:Pos}{Q:Value->Shared->Prop}(I:Inv X lL σ H s)(hg:Gl X x)(hm:X.mg x=none)(hv:bootBuiltins x=some u)(h:Q u s)
  (hn:x ≠ "__name__" := by decide) (hd:(x==("__debug__" : Str))=false:=by decide):wpAny (model X.prog X.w) X.A (eval (.Name x pos) X.env) Q E s:=by
 obtain⟨mb,h1,h2⟩:=I.mod.blt;exact Calls.Name_function_global I.ok.kind hg (Calls.loadGlobal_builtin (by rw[I.ok.glob];exact I.mod.glob.keeps I.bk) hm (by rw[I.ok.blt];exact h1.keeps I.bk) ((h2 x hn).trans hv) h) hd
theorem pe_glob{x:Str}{v:V}{u:Value}{pos:Pos}(hg:Gl X x)(hm:X.mg x=some u)(r:ZQ v u)(hd:(x==("__debug__" : Str))=false:=by decide):PE X (.Name x pos) (tC v):=
 fun _ _ _ H _ I h=>zM I hg hm ⟨v,H,I,r,h⟩ hd
theorem WJ{x:Str}{v:V}{u:Value}{pos:Pos}(hg:Gl X x)(hm:X.mg x=none)(hv:bootBuiltins x=some u)(r:ZQ v u)(hn:x ≠ "__name__" := by decide)(hd:(x==("__debug__" : Str))=false:=by decide):PE X (.Name x pos) (tC v):=
 fun _ _ _ H _ I h=>VS I hg hm hv ⟨v,H,I,r,h⟩ hn hd
variable{a b:Expr}{ta tb:TE}{pos:Pos}
def PC(X:Cx)(op:CmpOp)(a b:Expr)(t:TE):Prop:=
 ∀(lL:List (Addr×Obj)) (s:Shared) (σ:St) (H:Hp) (Q:VK),Inv X lL σ H s->t σ H Q ->
  wpAny (model X.prog X.w) X.A (eval a X.env) (fun v s₁=>wpAny (model X.prog X.w) X.A (eval b X.env) (fun u s₂=>wpAny (model X.prog X.w) X.A (compareOp op v u) (EP X lL σ Q) X.xe s₂) X.xe s₁) X.xe s
theorem nobehind(b:Expr){op:CmpOp}(h:op≠.In)(h2:op≠.NotIn):behindInMarks op b=false:=by
 have e1:(op==CmpOp.In)=false:=by cases op<;>first|rfl|exact absurd rfl h
 have e2:(op==CmpOp.NotIn)=false:=by cases op<;>first|rfl|exact absurd rfl h2
 cases b<;>simp[behindInMarks,e1,e2]
inductive BoolR(x:V)(H:Hp)(Q:Bool->Hp->Prop):Prop
 |mk (c:Bool) (h:x=.bl c) (k:Q c H):BoolR x H Q
def tB(t:TE):TT:=fun σ H Q=>t σ H fun x H1=>BoolR x H1 Q
theorem pt_cmp{op:CmpOp}{t:TE}(h:PC X op a b t)(h1:behindInMarks op b=false:=by first|exact nobehind _ (by decide) (by decide)|rfl):PT X (.Compare a [op] [b] pos) (tB t):=by
 intro lL s σ H Q I hw;refine wpAny_isTrue_Compare1 (thn (h lL s σ H _ I hw) fun v s1 h1=>thn h1 fun u s2 h2=>thn h2 fun c s3 ⟨x,H1,I1,r1,q1⟩=>?_) h1;obtain⟨d,rfl,q⟩:=q1;cases r1;exact nV ⟨H1,I1,q⟩
theorem WT{e:Expr}{t:TE}(h:PE X e t)(he:∀whole,isTrue e X.env whole=(do let v <- whole;standAt e.pos;holding [v] (truthy v)):=by intro _;rfl):PT X e (tB t):=by
 intro lL s σ H Q I hw;refine isTrue_plain (thn (h lL s σ H _ I hw) fun v s1 ⟨x,H1,I1,r1,q1⟩=>?_) (he _);obtain⟨d,rfl,q⟩:=q1;cases r1;exact nV ⟨H1,I1,q⟩
variable{tA tB':TT}{X5:List Expr}
def tAnd(t u:TT):TT:=fun σ H Q=>t σ H fun c H1=>if c=true then u σ H1 Q else Q false H1
def tOr(t u:TT):TT:=fun σ H Q=>t σ H fun c H1=>if c=true then Q true H1 else u σ H1 Q
def tNot(t:TT):TT:=fun σ H Q=>t σ H fun c H1=>Q (!c) H1
theorem zU(ha:PT X a tA):PW X (.BoolOp .And [a] pos) tA:=by
 intro wh lL s σ H Q I h;refine isTrue_and (thn (ha lL s σ H Q I h) fun c s1 e=>?_);cases c with
 |true=>exact isTrue_and_nil e
 |false=>exact e
theorem V2(ha:PT X a tA):PW X (.BoolOp .Or [a] pos) tA:=by
 intro wh lL s σ H Q I h;refine isTrue_or (thn (ha lL s σ H Q I h) fun c s1 e=>?_);cases c with
 |false=>exact isTrue_or_nil e
 |true=>exact e
theorem vX(ha:PT X a tA)(hb:PW X (.BoolOp .And (b::X5) pos) tB'):PW X (.BoolOp .And (a::b::X5) pos) (tAnd tA tB'):=by
 intro wh lL s σ H Q I h;refine isTrue_and (thn (ha lL s σ H _ I h) fun c s1 ⟨H1,I1,q1⟩=>?_);cases c with
 |true=>exact hb wh lL s1 σ H1 Q I1 q1
 |false=>exact⟨H1,I1,q1⟩
theorem UJ(ha:PT X a tA)(hb:PW X (.BoolOp .Or (b::X5) pos) tB'):PW X (.BoolOp .Or (a::b::X5) pos) (tOr tA tB'):=by
 intro wh lL s σ H Q I h;refine isTrue_or (thn (ha lL s σ H _ I h) fun c s1 ⟨H1,I1,q1⟩=>?_);cases c with
 |true=>exact⟨H1,I1,q1⟩
 |false=>exact hb wh lL s1 σ H1 Q I1 q1
theorem Xy(ha:PT X a tA):PT X (.UnaryOp .Not a pos) (tNot tA):=by
 intro lL s σ H Q I h;exact isTrue_not (ha lL s σ H (fun c H1=>Q (!c) H1) I h)
def tAndV(ta tb:TE):TE:=fun σ H Q=>ta σ H fun x H1=>∃c,x=.bl c/\if c=true then tb σ H1 Q else Q (.bl false) H1
def tOrV(ta tb:TE):TE:=fun σ H Q=>ta σ H fun x H1=>∃c,x=.bl c/\if c=true then Q (.bl true) H1 else tb σ H1 Q
def tNotV(ta:TE):TE:=fun σ H Q=>ta σ H fun x H1=>∃c,x=.bl c/\Q (.bl (!c)) H1
theorem Wa{op}{t:TE}(h:PE X a t):PE X (.BoolOp op [a] pos) t:=fun lL s σ H Q I hw=>BoolOp_one (h lL s σ H Q I hw)
theorem Wl(ha:PE X a ta)(hb:PE X (.BoolOp .And (b::X5) pos) tb):PE X (.BoolOp .And (a::b::X5) pos) (tAndV ta tb):=by
 intro lL s σ H Q I h;refine BoolOp_and (thn (ha lL s σ H _ I h) fun v s1 ⟨x,H1,I1,r1,q1⟩=>?_);obtain⟨c,rfl,q1⟩:=q1;cases r1;refine nV ?_;cases c with
 |true=>exact hb lL s1 σ H1 Q I1 q1
 |false=>exact⟨.bl false,H1,I1,rfl,q1⟩
theorem pe_or(ha:PE X a ta)(hb:PE X (.BoolOp .Or (b::X5) pos) tb):PE X (.BoolOp .Or (a::b::X5) pos) (tOrV ta tb):=by
 intro lL s σ H Q I h;refine BoolOp_or (thn (ha lL s σ H _ I h) fun v s1 ⟨x,H1,I1,r1,q1⟩=>?_);obtain⟨c,rfl,q1⟩:=q1;cases r1;refine nV ?_;cases c with
 |false=>exact hb lL s1 σ H1 Q I1 q1
 |true=>exact⟨.bl true,H1,I1,rfl,q1⟩
theorem pe_not(ha:PE X a ta):PE X (.UnaryOp .Not a pos) (tNotV ta):=by
 intro lL s σ H Q I h;refine UnaryOp_ (thn (ha lL s σ H _ I h) fun v s1 ⟨x,H1,I1,r1,q1⟩=>?_);obtain⟨c,rfl,q1⟩:=q1;cases r1;exact not_of (nV ⟨.bl (!c),H1,I1,rfl,q1⟩)
def tIf(t:TT)(ta tb:TE):TE:=fun σ H Q=>t σ H fun c H1=>if c=true then ta σ H1 Q else tb σ H1 Q
theorem kZ{c:Expr}(hc:PT X c tA)(ha:PE X a ta)(hb:PE X b tb):PE X (.IfExp c a b pos) (tIf tA ta tb):=by
 intro lL s σ H Q I h;refine wpAny_IfExp (thn (hc lL s σ H _ I h) fun d s1 ⟨H1,I1,q1⟩=>?_);cases d with
 |true=>exact ha lL s1 σ H1 Q I1 q1
 |false=>exact hb lL s1 σ H1 Q I1 q1
end
def SqL(K:W.Frag)(H:Hp)(a:Addr)(xs:List V):Prop:=
 Rd H a (.lst xs) \/
  ∃(o:Obj) (its:Array Value) (n:Nat),K.lookup a=some o/\o.cls=.type "list" /\ o.dict=none/\o.data=.seq its n/\its.size<=sizeLine/\ZH xs its.toList
def SqT(K:W.Frag)(H:Hp)(a:Addr)(xs:List V):Prop:=
 Rd H a (.tup xs) \/
  ∃(o:Obj) (its:Array Value) (n:Nat),K.lookup a=some o/\o.cls=.type "tuple" /\ o.data=.seq its n/\its.size<=sizeLine/\ZH xs its.toList
def absV:Value->Option V
 |.none=>some .non
 |.bool b=>some (.bl b)
 |.int i _=>some (.int i)
 |.str x _=>some (.str x)
 |.bytes b _=>some (.byt b)
 |.float b _=>some (.flt b)
 |.ref a=>some (.ref a)
 |.type n=>some (.ty n)
 |_=>none
theorem ZQ.abs{x:V}{u:Value}(r:ZQ x u):absV u=some x:=by
 cases x with
 |non=>cases r;rfl
 |bl _=>cases r;rfl
 |int _=>obtain⟨t,rfl⟩:=r;rfl
 |str _=>obtain⟨t,rfl⟩:=r;rfl
 |byt _=>obtain⟨t,rfl⟩:=r;rfl
 |flt _=>obtain⟨t,rfl⟩:=r;rfl
 |ref _=>cases r;rfl
 |ty _=>cases r;rfl
theorem ZQ.inj{x y:V}{u:Value}(r:ZQ x u)(q:ZQ y u):x=y:=mv (r.abs.symm.trans q.abs)
theorem ZH.inj:∀{xs ys:List V}{us:List Value},ZH xs us->ZH ys us->xs=ys
 |_,_,_,.nil,.nil=>rfl
 |_,_,_,.cons r t,.cons r' t'=>by rw[r.inj r',ZH.inj t t']
section
variable{X:Cx}{lL:List (Addr×Obj)}{σ:St}{H:Hp}{s:Shared}{a:Addr}{xs ys:List V}
theorem SqL.of{K:W.Frag}(h:H a=some (.lst xs)):SqL K H a xs:=.inl (.inl h)
theorem SqT.of{K:W.Frag}(h:H a=some (.tup xs)):SqT K H a xs:=.inl (.inl h)
theorem Inv.list(I:Inv X lL σ H s)(h:SqL X.K H a xs):∃its:List Value,ZH xs its/\PlainL s.heap a its.toArray/\xs.length<=sizeLine:=by
 rcases h with h|⟨o,its,n,hk,hc,hd,hs,hz,r⟩
 ·obtain⟨z,its,n,r,e⟩:=h.ok I.hok;exact⟨its,r,⟨_,n,e,rfl,rfl,rfl⟩,z⟩
 ·refine⟨its.toList,r,⟨o,n,I.kIn a o hk,hc,hd,by simpa using hs⟩,?_⟩;have e:=r.length;simp only[nC] at e;omega
theorem Inv.tuple(I:Inv X lL σ H s)(h:SqT X.K H a xs):∃its:List Value,ZH xs its/\IsTup s.heap a its.toArray/\xs.length<=sizeLine:=by
 rcases h with h|⟨o,its,n,hk,hc,hs,hz,r⟩
 ·obtain⟨z,its,r,p⟩:=h.ok I.hok;exact⟨its,r,p,z⟩
 ·refine⟨its.toList,r,⟨o,I.kIn a o hk,hc,n,by simpa using hs⟩,?_⟩;have e:=r.length;simp only[nC] at e;omega
theorem Inv.list_inj(I:Inv X lL σ H s)(h:SqL X.K H a xs)(h':SqL X.K H a ys):xs=ys:=by
 obtain⟨its,r,⟨o,n,e,_,_,d⟩,_⟩:=I.list h;obtain⟨its',r',⟨o',n',e',_,_,d'⟩,_⟩:=I.list h';rw[e] at e';cases e';rw[d] at d';injection d' with d1 _;have:its=its':=by simpa using my Array.toList d1
 subst this;exact r.inj r'
theorem Inv.tuple_inj(I:Inv X lL σ H s)(h:SqT X.K H a xs)(h':SqT X.K H a ys):xs=ys:=by
 obtain⟨its,r,⟨o,e,_,n,d⟩,_⟩:=I.tuple h;obtain⟨its',r',⟨o',e',_,n',d'⟩,_⟩:=I.tuple h';rw[e] at e';cases e';rw[d] at d';injection d' with d1 _;have:its=its':=by simpa using my Array.toList d1
 subst this;exact r.inj r'
end
abbrev Cx.wish(X:Cx)(E:Value->Shared->Prop):Cx:={ X with xe:=E }
abbrev Cx.nox(X:Cx):Cx:=X.wish fun _ _=>False
theorem Cx.Ok.wish{X:Cx}(ok:X.Ok)(E:Value->Shared->Prop):(X.wish E).Ok:=
 ⟨ok.mod,ok.kind,ok.glob,ok.blt,ok.above,ok.inj,ok.has,ok.cab,ok.hd,ok.frames,ok.stk,ok.exf,ok.bs,ok.bsz,ok.noex,ok.exfs,ok.funs,ok.frf⟩
theorem Cx.Ok.unwish{X:Cx}{E:Value->Shared->Prop}(ok:(X.wish E).Ok):X.Ok:=
 ⟨ok.mod,ok.kind,ok.glob,ok.blt,ok.above,ok.inj,ok.has,ok.cab,ok.hd,ok.frames,ok.stk,ok.exf,ok.bs,ok.bsz,ok.noex,ok.exfs,ok.funs,ok.frf⟩
section
variable{X:Cx}{lL:List (Addr×Obj)}{σ:St}{H:Hp}{s:Shared}{E:Value->Shared->Prop}
theorem Inv.wish(I:Inv X lL σ H s)(E:Value->Shared->Prop):Inv (X.wish E) lL σ H s:=⟨I.ok.wish E,I.os,I.bare,I.base,I.loc,I.cell,I.free,I.freeC,I.pin,I.hok,I.len⟩
theorem Inv.unwish(I:Inv (X.wish E) lL σ H s):Inv X lL σ H s:=⟨I.ok.unwish,I.os,I.bare,I.base,I.loc,I.cell,I.free,I.freeC,I.pin,I.hok,I.len⟩
theorem SP.unwish{D:Ends}{f:Flow}{s':Shared}(h:SP (X.wish E) lL D f s'):SP X lL D f s':=by
 cases f with
 |next=>obtain⟨σ',H',I,q⟩:=h;exact⟨σ',H',I.unwish,q⟩
 |brk=>obtain⟨σ',H',I,q⟩:=h;exact⟨σ',H',I.unwish,q⟩
 |cont=>obtain⟨σ',H',I,q⟩:=h;exact⟨σ',H',I.unwish,q⟩
 |ret u=>obtain⟨v,σ',H',I,r,q⟩:=h;exact⟨v,σ',H',I.unwish,r,q⟩
theorem PSs.nox{st:List Stmt}{t:TS}(h:PSs X.nox st t):PSs X st t:=fun lL s σ H D I hw=>
 oP (h lL s σ H D (I.wish _) hw) (fun _ _ q=>q.unwish) fun _ _ z=>False.elim z
end
section
variable{X:Cx}{st:Stmt}{X5:List Stmt}{t u:TS}{e:Expr}{te:TE}{pos:Pos}
def tNext:TS:=fun D σ H=>D.nx σ H
def tSeq(t u:TS):TS:=fun D σ H=>t { D with nx:=u D } σ H
theorem ZD:PSs X [] tNext:=fun _ _ σ H _ I h=>wpAny_execs_nil ⟨σ,H,I,h⟩
theorem Za(h1:PS X st t)(h2:PSs X X5 u):PSs X (st::X5) (tSeq t u):=by
 intro lL s σ H D I h;refine wpAny_execs_cons (thn (h1 lL s σ H { D with nx:=u D } I h) fun f s1 q=>?_);cases f with
 |next=>
  obtain⟨σ',H',I',q⟩:=q;exact h2 lL s1 σ' H' D I' q
 |ret v=>exact q
 |brk=>exact q
 |cont=>exact q
theorem Zg(h1:PS X st t):PSs X [st] t:=by
 intro lL s σ H D I h;refine wpAny_execs_cons (thn (h1 lL s σ H D I h) fun f s1 q=>?_);cases f with
 |next=>exact wpAny_execs_nil q
 |ret v=>exact q
 |brk=>exact q
 |cont=>exact q
theorem Inv.quiet{lL:List (Addr×Obj)}{σ:St}{H:Hp}{s:Shared}(I:Inv X lL σ H s):interactive X.env=false:=by simp[interactive,I.ok.kind]
def tDrop(te:TE):TS:=fun D σ H=>te σ H fun _ H1=>D.nx σ H1
theorem YE(he:PE X e te)(hs:swapsWith e none pos.line X.env=pure false:=by rfl):PS X (.Expr e pos) (tDrop te):=by
 intro lL s σ H D I h;exact wpAny_Expr_any (thn (he lL s σ H _ I h) fun v s1 ⟨x,H1,I1,r1,q1⟩=>⟨σ,H1,I1,q1⟩) I.quiet hs
def tRet(te:TE):TS:=fun D σ H=>te σ H D.rt
theorem Zm(he:PE X e te):PS X (.Return (some e) pos) (tRet te):=by
 intro lL s σ H D I h;exact wpAny_Return_some (thn (he lL s σ H _ I h) fun v s1 ⟨x,H1,I1,r1,q1⟩=>⟨x,σ,H1,I1,r1,q1⟩)
def tIfS(c:TT)(t u:TS):TS:=fun D σ H=>c σ H fun b H1=>if b=true then t D σ H1 else u D σ H1
theorem ZV{c:Expr}{a b:List Stmt}{tc:TT}(hc:PT X c tc)(ha:PSs X a t)(hb:PSs X b u):PS X (.If c a b pos) (tIfS tc t u):=by
 intro lL s σ H D I h;refine wpAny_If (thn (hc lL s σ H _ I h) fun d s1 ⟨H1,I1,q1⟩=>?_);cases d with
 |true=>exact ha lL s1 σ H1 D I1 q1
 |false=>exact hb lL s1 σ H1 D I1 q1
def tNever:TS:=fun _ _ _=>False
theorem j0:PS X st tNever:=fun _ _ _ _ _ _ h=>h.elim
end
abbrev TG:=V->St->Hp->(St->Hp->Prop)->Prop
abbrev TGs:=List V->St->Hp->(St->Hp->Prop)->Prop
def PG(X:Cx)(target:Expr)(t:TG):Prop:=
 ∀(lL:List (Addr×Obj)) (s:Shared) (σ:St) (H:Hp) (v:V) (u:Value) (Q:St->Hp->Prop),Inv X lL σ H s->ZQ v u->t v σ H Q ->
  wpAny (model X.prog X.w) X.A (assign target X.env u) (fun _ s'=>∃σ' H',Inv X lL σ' H' s'/\Q σ' H') X.xe s
def PGs(X:Cx)(ts:List Expr)(t:TGs):Prop:=
 ∀(lL:List (Addr×Obj)) (s:Shared) (σ:St) (H:Hp) (vs:List V) (us:List Value) (Q:St->Hp->Prop),Inv X lL σ H s->ZH vs us->t vs σ H Q ->
  wpAny (model X.prog X.w) X.A (assignInOrder ((assignEach ts X.env).map (·.2)) us) (fun _ s'=>∃σ' H',Inv X lL σ' H' s'/\Q σ' H') X.xe s
abbrev TIp:=V->V->Hp->VK->Prop
def PIp(X:Cx)(op:Operator)(t:TIp):Prop:=
 ∀(lL:List (Addr×Obj)) (s:Shared) (σ:St) (H:Hp) (x y:V) (v u:Value) (Q:VK),Inv X lL σ H s->ZQ x v->ZQ y u->t x y H Q ->
  wpAny (model X.prog X.w) X.A (inplaceOp op v u) (EP X lL σ Q) X.xe s
section
variable{X:Cx}{pos:Pos}
def Vy(i:Nat):TG:=fun v σ H Q=>Q (σ.set i (some v)) H
theorem ZA{i:Nat}{x:Str}(hN:X.N.Nodup)(hi:X.N[i]?=some x)(hx:Loc X.env.scope x)(hf:X.fn x=true\/X.env.scope.names.lookup x=some .local:=by first|exact .inl rfl|exact .inr rfl|assumption):PG X (.Name x pos) (Vy i):=by
 intro lL s σ H v u Q I r h;exact wpAny_assign_Name (yV I hN hi hx r (fun s' I'=>⟨_,H,I',h⟩) hf)
def gNil:TGs:=fun vs σ H Q=>vs=[]/\Q σ H
def gCons(t:TG)(u:TGs):TGs:=fun vs σ H Q=>∃v r,vs=v::r/\t v σ H fun σ' H'=>u r σ' H' Q
theorem VQ:PGs X [] gNil:=by
 intro lL s σ H vs us Q I r h;obtain⟨e,h⟩:=h;subst e;cases r;exact assignInOrder_nil ⟨σ,H,I,h⟩
theorem YV{e:Expr}{es:List Expr}{t:TG}{u:TGs}(h1:PG X e t)(h2:PGs X es u)
  (hs:(assignEach (e::es) X.env).map (·.2)=assign e X.env::(assignEach es X.env).map (·.2):=by rfl):PGs X (e::es) (gCons t u):=by
 intro lL s σ H vs us Q I r h;obtain⟨v,vr,e1,h⟩:=h;subst e1;cases r with
 |cons r rr=>
  rw[hs];refine assignInOrder_cons (thn (h1 lL s σ H _ _ _ I r h) fun _ s1 ⟨σ1,H1,I1,q1⟩=>?_);exact h2 lL s1 σ1 H1 _ _ Q I1 rr q1
def gTup(K:W.Frag)(n:Nat)(t:TGs):TG:=fun v σ H Q=>∃a xs,v=.ref a/\SqT K H a xs/\xs.length=n/\t xs σ H Q
theorem pg_tup{es:List Expr}{k:Nat}{t:TGs}{n:Nat}(hc:X.calm=true)(h:PGs X es t)
  (hn:(assignEach es X.env).length=n:=by rfl) (hst:(assignEach es X.env).findIdx? (·.1)=none:=by rfl):PG X (.Tuple es k pos) (gTup X.K n t):=by
 intro lL s σ H v u Q I r hw;obtain⟨a,xs,e1,hq,hl,hw⟩:=hw;subst e1;cases r;obtain⟨its,rv,ht,hz⟩:=I.tuple hq;refine assign_Tuple_tuple (I.ok.hd hc) ht (by simp[hn,<- hl,rv.length]) hst fun h' hx=>?_;have I1:Inv X lL σ H { s with heap:=h' }:=I.kept (t':=s.toks) fun b o e=>hx b o (me (md e)) e;exact h lL _ σ H xs _ Q I1 (by simpa using rv) hw
def tAsg(te:TE)(g:TG):TS:=fun D σ H=>te σ H fun x H1=>g x σ H1 D.nx
theorem ps_asg{tg e:Expr}{te:TE}{g:TG}(he:PE X e te)(hg:PG X tg g)(hs:swapsWithSole [tg] e pos.line X.env=pure false:=by rfl)(hw:swappedStores [tg] e X.env=pure none:=by rfl)
  (h1:(assignEach [tg] X.env).map (·.2)=[assign tg X.env]:=by rfl):PS X (.Assign [tg] e pos) (tAsg te g):=by
 intro lL s σ H D I h;refine wpAny_Assign_stores (thn (he lL s σ H _ I h) fun v s1 ⟨x,H1,I1,r1,q1⟩=>?_) hs hw;rw[h1];exact thn (hg lL s1 σ H1 x v _ I1 r1 q1) fun _ s2 q=>q
theorem Zp{i:Nat}{x:Str}{e:Expr}{te:TE}{pos':Pos}(hN:X.N.Nodup)(hi:X.N[i]?=some x)(hx:Loc X.env.scope x)(he:PE X e te)(hs:swapsWith e (some (.Name x pos')) pos.line X.env=pure false:=by rfl)(hf:X.fn x=true\/X.env.scope.names.lookup x=some .local:=by first|exact .inl rfl|exact .inr rfl|assumption) :
  PS X (.Assign [.Name x pos'] e pos) (tAsg te (Vy i)):=by
 intro lL s σ H D I h;refine wpAny_Assign_Name (thn (he lL s σ H _ I h) fun v s1 ⟨y,H1,I1,r1,q1⟩=>?_) hs;exact yV I1 hN hi hx r1 (fun s2 I2=>⟨_,H1,I2,q1⟩) hf
def tAug(i:Nat)(te:TE)(ti:TIp):TS:=fun D σ H=>∃x,σ[i]?=some (some x)/\te σ H fun y H1=>ti x y H1 fun z H2=>D.nx (σ.set i (some z)) H2
theorem ps_aug{i:Nat}{x:Str}{e:Expr}{te:TE}{op:Operator}{ti:TIp}{pos':Pos}(hN:X.N.Nodup)(hi:X.N[i]?=some x)(hx:Loc X.env.scope x)(he:PE X e te)(ho:PIp X op ti)(hf:X.fn x=true\/X.env.scope.names.lookup x=some .local:=by first|exact .inl rfl|exact .inr rfl|assumption) :
  PS X (.AugAssign (.Name x pos') op e pos) (tAug i te ti):=by
 intro lL s σ H D I h;obtain⟨v,e1,h⟩:=h;obtain⟨m,hn,hl⟩:=I.loc;have vis:Vis X.env.scope x:=by rcases hx with k|k;exact .inl k;exact .inr (.inl k)
 obtain⟨u,r,l⟩:=hl i x v hi e1 vis;refine wpAny_AugAssign_Name ?_;have go:wpAny (model X.prog X.w) X.A (eval e X.env) (fun w s₂=>wpAny (model X.prog X.w) X.A (inplaceOp op u w) (fun r s₃=>wpAny (model X.prog X.w) X.A (storeName X.env x r) (fun _=>SP X lL D .next) X.xe s₃) X.xe s₂) X.xe s:=by
  refine thn (he lL s σ H _ I h) fun w s1 ⟨y,H1,I1,r1,q1⟩=>?_;refine thn (ho lL s1 σ H1 v y u w _ I1 r r1 q1) fun z s2 ⟨zv,H2,I2,r2,q2⟩=>?_;exact yV I2 hN hi hx r2 (fun s3 I3=>⟨_,H2,I3,q2⟩) hf
 rcases l with⟨hk,hm⟩|⟨hk,c,hc,hcell⟩
 ·exact wpAny_loadName_local I.ok.kind hk hn hm go
 ·rcases hk with hk|hk
  ·exact wpAny_loadName_cell I.ok.kind hk hc hcell go
  ·rcases hx with k|k
   ·have:X.env.scope.names.lookup x=some .free:=hk;rw[k] at this;cases this
   ·have:X.env.scope.names.lookup x=some .free:=hk;rw[k] at this;cases this
def ipI(f:Int->Int->Int):TIp:=fun x y H Q=>∃i j,x=.int i/\y=.int j/\Q (.int (f i j)) H
theorem ip_sub:PIp X .Sub (ipI fun i j=>i-j):=by
 intro lL s σ H x y v u Q I r1 r2 h;obtain⟨i,j,e1,e2,q⟩:=h;subst e1;subst e2;obtain⟨t,rfl⟩:=r1;obtain⟨t',rfl⟩:=r2;exact isub_int ⟨.int _,H,I.tok _,⟨_,rfl⟩,q⟩
end
section
variable{X:Cx}{pos:Pos}
def tWhile(c:TT)(tb:TS):TS:=fun D σ H=>∃W:Nat->St->Hp->Prop,(∃m,W m σ H)/\∀m σ H,W m σ H ->
 c σ H fun b H1=>if b=true then ∃N:St->Hp->Prop,(∀σ' H',N σ' H'->∃m',m'<m/\W m' σ' H')/\tb { D with nx:=N,ct:=N,bk:=D.nx } σ H1 else D.nx σ H1
theorem qr{c:Expr}{body:List Stmt}{tc:TT}{tb:TS}(hp:PassesOwn (model X.prog X.w) X.A X.env X.xe)(hc:PT X c tc)(hb:PSs X body tb):PS X (.While c body [] pos) (tWhile tc tb):=by
 intro lL s σ H D I h;obtain⟨W,⟨m0,w0⟩,turn⟩:=h;refine wpAny_While (codeAny_whileLoop (fun n s'=>∃σ' H',Inv X lL σ' H' s'/\W n σ' H') ?_ m0 ⟨σ,H,I,w0⟩);rintro n s1 ⟨σ1,H1,I1,w1⟩;refine o9 hp (thn (hc lL s1 σ1 H1 _ I1 (turn n σ1 H1 w1)) fun b s2 ⟨H2,I2,q2⟩=>?_);cases b with
 |true=>
  obtain⟨N,hN,q2⟩:=q2;rw[if_pos rfl];refine o9 hp (thn (hb lL s2 σ1 H2 _ I2 q2) fun f s3 q3=>?_);cases f with
  |next=>
   obtain⟨σ3,H3,I3,n3⟩:=q3;obtain⟨m',hm,w3⟩:=hN σ3 H3 n3;exact⟨m',hm,σ3,H3,I3,w3⟩
  |cont=>
   obtain⟨σ3,H3,I3,n3⟩:=q3;obtain⟨m',hm,w3⟩:=hN σ3 H3 n3;exact⟨m',hm,σ3,H3,I3,w3⟩
  |brk=>exact q3
  |ret v=>exact q3
 |false=>
  rw[if_neg mI];exact wpAny_execs_nil ⟨σ1,H2,I2,q2⟩
end
structure It where
 go:Nat->Hp->Prop
 yld:Nat->Hp->V->Hp->Prop
 stop:Nat->Hp->Prop
def UD(X:Cx)(lL:List (Addr×Obj))(H:Hp)(b:Addr):Prop:=
 H b=none/\b≠X.env.locals/\b∉X.fs/\(b∈X.ex\/X.s₀.heap.objs.size<=b)/\(∀x c,X.env.cells.lookup x=some c->c≠b)/\∀p∈X.pn++lL,p.1≠b
theorem Inv.fpOk{X:Cx}{lL:List (Addr×Obj)}{σ:St}{H H':Hp}{s:Shared}{b:Addr}(I:Inv X lL σ H s)(hb:s.heap.objs.size<=b)(hn:H' b=none):UD X lL H' b:=by
 refine⟨hn,mY (mU I.lt hb),I.nofs hb,.inr (mC I.sz hb),fun x c e z=>?_,fun p hp z=>?_⟩
 ·obtain⟨v,q⟩:=I.cell x c e;exact absurd (mU q.lt (by rw[z];exact hb)) (oi _)
 ·exact absurd (mU (md (I.pin p hp).1) (by rw[z];exact hb)) (oi _)
structure Turn(P:Program)(w:World)(K:W.Frag)(tg:Expr)(J:It)(fp:List Addr)(it:Addr)(tn:Nat->Heap->Prop):Prop where
 mem:it∈fp
 obj:∀i h,tn i h->∀b∈fp,∃o,h.get? b=some o/\∀v,o.data≠.cell v
 keep:∀i h h',tn i h->(∀b∈fp,∀o,h.get? b=some o->h'.get? b=some o)->tn i h'
 item:∀(X:Cx),X.prog=P->X.w=w->X.K=K->X.calm=true->∀(i:Nat) (lL:List (Addr×Obj)) (s:Shared) (σ:St) (H:Hp) (E:Value->Shared->Prop),Inv X lL σ H s->(∀b∈fp,UD X lL H b)->tn i s.heap->J.go i H ->
  wpAny (model P w) X.A (pyNext (.ref it)) (fun r s1=>∃u,r=some u /\
   wpAny (model P w) X.A (letOwnedTupleGo tg (.ref it) u) (fun _ s2=>∃x H',Inv X lL σ H' s2/\ZQ x u/\J.yld i H x H'/\tn (i+1) s2.heap/\∀b∈fp,H' b=none) E s1) E s
 done:∀(X:Cx),X.prog=P->X.w=w->X.K=K->X.calm=true->∀(i:Nat) (lL:List (Addr×Obj)) (s:Shared) (σ:St) (H:Hp) (E:Value->Shared->Prop),Inv X lL σ H s->(∀b∈fp,UD X lL H b)->tn i s.heap->J.stop i H ->
  wpAny (model P w) X.A (pyNext (.ref it)) (fun r s1=>r=none/\Inv X lL σ H s1) E s
 self:∀(A:Around) (i:Nat) (s:Shared) (Q:Value->Shared->Prop) (E:Value->Shared->Prop),tn i s.heap->Q (.ref it) s->wpAny (model P w) A (pyIter (.ref it)) Q E s
abbrev TI:=St->Hp->(It->Hp->Prop)->Prop
def PIE(X:Cx)(lL:List (Addr×Obj))(σ:St)(tg:Expr)(R:It->Hp->Prop)(itv:Value)(s2:Shared):Prop:=
 ∃(it:Addr) (fp:List Addr) (tn:Nat->Heap->Prop) (J:It) (H':Hp),itv=.ref it/\Inv X lL σ H' s2/\Turn X.prog X.w X.K tg J fp it tn/\tn 0 s2.heap/\(∀b∈fp,UD X lL H' b)/\R J H'
def PI(X:Cx)(tg iter:Expr)(wi:TI):Prop:=
 ∀(lL:List (Addr×Obj)) (s:Shared) (σ:St) (H:Hp) (R:It->Hp->Prop),Inv X lL σ H s->wi σ H R ->
  wpAny (model X.prog X.w) X.A (eval iter X.env) (fun v s1=>wpAny (model X.prog X.w) X.A (pyIter v) (PIE X lL σ tg R) X.xe s1) X.xe s
theorem go_of{M:Model}{A:Around}{E:Value->Shared->Prop}{s:Shared}{tg:Expr}{it:Addr}{u:Value}{o:Obj}{n:String}{vs:Array Value}{Q:Unit->Shared->Prop}(ho:s.heap.get? it=some o)(hc:o.cls=.type n)(hd:o.data=.fields vs)
    (hn:["enumerate", "zip", "dict_itemiterator", "dict_reverseitemiterator", "odict_iterator", "itertools.zip_longest", "itertools.pairwise"].contains n=false) (hQ:Q () s):wpAny M A (letOwnedTupleGo tg (.ref it) u) Q E s:=by
  unfold letOwnedTupleGo;cases tg<;>first
    |exact lT hQ
    | (cases u<;>first
        |exact lT hQ
        | (refine lO (wpAny_load ho ?_)
           rw[hc,hd]
           show wpAny M A (if(["enumerate", "zip", "dict_itemiterator", "dict_reverseitemiterator", "odict_iterator", "itertools.zip_longest", "itertools.pairwise"].contains n&&vs[0]?==some (rawInt _))=true then _ else _) Q E s
           rw[if_neg (by intro h;rw[hn,pb] at h;cases h)];exact lT hQ))
def Itl(K:W.Frag)(a:Addr):It:=
 ⟨fun i H=>∃xs x,SqL K H a xs/\xs[i]?=some x,fun i H x H'=>H'=H/\∀xs,SqL K H a xs->xs[i]?=some x,fun i H=>∃xs,SqL K H a xs/\xs.length<=i⟩
def Itt(K:W.Frag)(a:Addr):It:=
 ⟨fun i H=>∃xs x,SqT K H a xs/\xs[i]?=some x,fun i H x H'=>H'=H/\∀xs,SqT K H a xs->xs[i]?=some x,fun i H=>∃xs,SqT K H a xs/\xs.length<=i⟩
def Itr(lo:Int)(n:Nat):It:=⟨fun i _=>i<n,fun i H x H'=>H'=H/\x=.int (lo+i),fun i _=>n<=i⟩
theorem turn_list{P:Program}{w:World}{K:W.Frag}{tg:Expr}(a it:Addr):Turn P w K tg (Itl K a) [it] it (fun i h=>h.IsListIter it a i) where
 mem:=by simp
 obj:=fun i h st b hb=>by
  have e:b=it:=by simpa using hb
  subst e;obtain⟨o,e,c,d⟩:=st;exact⟨o,e,fun v z=>by rw[d] at z;cases z⟩
 keep:=fun i h h' st k=>st.at fun o e=>k it (by simp) o e
 item:=by
  intro X hP hw hK hc i lL s σ H E I hf st hg;subst hP hw hK;obtain⟨xs,x,hq,hx⟩:=hg;obtain⟨its,rv,p,hz⟩:=I.list hq;obtain⟨u,hu,ru⟩:=rv.get hx;obtain⟨f0,f1,f2,f3,f4,f5⟩:=hf it (by simp);refine wpAny_pyNext_list_item st p.isList (x:=u) (by simpa using hu) fun h' st' sb=>?_;have I1:Inv X lL σ H { s with heap:=h' }:=I.turned (t':=s.toks) (fun b o hb e=>(sb.2 b hb).trans e) f0 f1 f3 f4 f5;obtain⟨o,e,c,d⟩:=id st';exact⟨u,rfl,go_of (s:={ s with heap:=h' }) e c d (by decide) ⟨x,H,I1,ru,⟨rfl,fun ys hy=>by rw[I.list_inj hy hq];exact hx⟩,st',fun b hb=>(hf b hb).1⟩⟩
 done:=by
  intro X hP hw hK hc i lL s σ H E I hf st hg;subst hP hw hK;obtain⟨xs,hq,hx⟩:=hg;obtain⟨its,rv,p,hz⟩:=I.list hq;obtain⟨f0,f1,f2,f3,f4,f5⟩:=hf it (by simp);have hl:=rv.length;exact wpAny_pyNext_list_end (I.ok.hd hc) st p.isList (by simp;omega) fun h' eb=>⟨rfl,I.turned (t':=s.toks) (fun b o hb e=>eb b o hb e) f0 f1 f3 f4 f5⟩
 self:=fun _ _ _ _ _ st h=>wpAny_pyIter_listiter st h
theorem Jv{P:Program}{w:World}{K:W.Frag}{tg:Expr}(a it:Addr):Turn P w K tg (Itt K a) [it] it (fun i h=>h.IsTupleIter it a i) where
 mem:=by simp
 obj:=fun i h st b hb=>by
  have e:b=it:=by simpa using hb
  subst e;obtain⟨o,e,c,d⟩:=st;exact⟨o,e,fun v z=>by rw[d] at z;cases z⟩
 keep:=fun i h h' st k=>st.at fun o e=>k it (by simp) o e
 item:=by
  intro X hP hw hK hc i lL s σ H E I hf st hg;subst hP hw hK;obtain⟨xs,x,hq,hx⟩:=hg;obtain⟨its,rv,p,hz⟩:=I.tuple hq;obtain⟨u,hu,ru⟩:=rv.get hx;obtain⟨f0,f1,f2,f3,f4,f5⟩:=hf it (by simp);refine wpAny_pyNext_tuple_item st (show s.heap.IsTuple a its.toArray from p) (x:=u) (by simpa using hu) fun h' st' sb=>?_;have I1:Inv X lL σ H { s with heap:=h' }:=I.turned (t':=s.toks) (fun b o hb e=>(sb.2 b hb).trans e) f0 f1 f3 f4 f5;obtain⟨o,e,c,d⟩:=id st';exact⟨u,rfl,go_of (s:={ s with heap:=h' }) e c d (by decide) ⟨x,H,I1,ru,⟨rfl,fun ys hy=>by rw[I.tuple_inj hy hq];exact hx⟩,st',fun b hb=>(hf b hb).1⟩⟩
 done:=by
  intro X hP hw hK hc i lL s σ H E I hf st hg;subst hP hw hK;obtain⟨xs,hq,hx⟩:=hg;obtain⟨its,rv,p,hz⟩:=I.tuple hq;obtain⟨f0,f1,f2,f3,f4,f5⟩:=hf it (by simp);have hl:=rv.length;exact wpAny_pyNext_tuple_end (I.ok.hd hc) st (show s.heap.IsTuple a its.toArray from p) (by simp;omega) fun h' eb=>⟨rfl,I.turned (t':=s.toks) (fun b o hb e=>eb b o hb e) f0 f1 f3 f4 f5⟩
 self:=fun _ _ _ _ _ st h=>wpAny_pyIter_tupleiter st h
theorem Jr{P:Program}{w:World}{K:W.Frag}{tg:Expr}(it:Addr)(lo:Int)(n:Nat):Turn P w K tg (Itr lo n) [it] it (fun i h=>IsRangeIter h it (lo+(i:Nat)*1) ((n:Int)-(i:Nat)) 1) where
 mem:=by simp
 obj:=fun i h st b hb=>by
  have e:b=it:=by simpa using hb
  subst e;exact⟨_,st,fun v z=>by
   have z':Data.fields _=Data.cell v:=z;cases z'⟩
 keep:=fun i h h' st k=>k it (by simp) _ st
 item:=by
  intro X hP hw hK hc i lL s σ H E I hf st hg;subst hP hw hK;obtain⟨f0,f1,f2,f3,f4,f5⟩:=hf it (by simp);have W:=Walks.range (prog:=X.prog) (w:=X.w) (I.ok.hd hc) it lo 1 n;refine W.item i s _ _ hg st fun v h' tk hv st' kk=>?_;obtain⟨t,rfl⟩:=hv;have I1:Inv X lL σ H { s with heap:=h',toks:=tk }:=I.turned (fun b o hb e=>kk b o (by simpa using hb) e) f0 f1 f3 f4 f5;refine⟨_,rfl,go_of (s:={ s with heap:=h',toks:=tk }) (n := "range_iterator") st' rfl rfl (by decide) ⟨.int (lo+i),H,I1,⟨t,?_⟩,⟨rfl,rfl⟩,st',fun b hb=>(hf b hb).1⟩⟩;rw[Int.mul_one]
 done:=by
  intro X hP hw hK hc i lL s σ H E I hf st hg;subst hP hw hK;obtain⟨f0,f1,f2,f3,f4,f5⟩:=hf it (by simp);exact wpAny_pyNext_range_end (I.ok.hd hc) st (by have:n<=i:=hg;omega) fun h' eb=>⟨rfl,I.turned (t':=s.toks) (fun b o hb e=>eb b o hb e) f0 f1 f3 f4 f5⟩
 self:=fun _ _ _ _ _ st h=>wpAny_pyIter_rangeiter st h
section
variable{X:Cx}{tg:Expr}
inductive ItlR(K:W.Frag)(x:V)(H:Hp)(R:It->Hp->Prop):Prop
 |mk (a:Addr) (h:x=.ref a) (h2:∃xs,SqL K H a xs) (k:R (Itl K a) H):ItlR K x H R
def iList(K:W.Frag)(tl:TE):TI:=fun σ H R=>tl σ H fun x H1=>ItlR K x H1 R
def iTup(K:W.Frag)(tl:TE):TI:=fun σ H R=>tl σ H fun x H1=>∃a,x=.ref a/\(∃xs,SqT K H1 a xs)/\R (Itt K a) H1
theorem pi_list{l:Expr}{tl:TE}(hl:PE X l tl):PI X tg l (iList X.K tl):=by
 intro lL s σ H R I h;refine thn (hl lL s σ H _ I h) fun v s1 ⟨x,H1,I1,r1,q1⟩=>?_;obtain⟨a,e,⟨xs,hq⟩,q⟩:=q1;subst e;cases r1;obtain⟨its,rv,p,hz⟩:=I1.list hq;refine rD p.isList ?_;refine⟨s1.heap.objs.size,[s1.heap.objs.size],_,_,H1,rfl,I1.kept (t':=s1.toks) fun b o e=>lZ _ e,turn_list a _,⟨_,mD _ rfl,rfl,rfl⟩,fun b hb=>?_,q⟩;have e:b=s1.heap.objs.size:=by simpa using hb
 subst e;exact I1.fpOk (lS _) (I1.hok.fresh (lS _))
theorem pi_tup{l:Expr}{tl:TE}(hl:PE X l tl):PI X tg l (iTup X.K tl):=by
 intro lL s σ H R I h;refine thn (hl lL s σ H _ I h) fun v s1 ⟨x,H1,I1,r1,q1⟩=>?_;obtain⟨a,e,⟨xs,hq⟩,q⟩:=q1;subst e;cases r1;obtain⟨its,rv,p,hz⟩:=I1.tuple hq;refine wpAny_pyIter_tuple (show s1.heap.IsTuple a its.toArray from p) ?_;refine⟨s1.heap.objs.size,[s1.heap.objs.size],_,_,H1,rfl,I1.kept (t':=s1.toks) fun b o e=>lZ _ e,Jv a _,⟨_,mD _ rfl,rfl,rfl⟩,fun b hb=>?_,q⟩;have e:b=s1.heap.objs.size:=by simpa using hb
 subst e;exact I1.fpOk (lS _) (I1.hok.fresh (lS _))
theorem jY{lL:List (Addr×Obj)}{σ:St}{H:Hp}{s:Shared}{R:It->Hp->Prop}{E:Value->Shared->Prop}{lo hi:Int}{t u v:Tok}{tk:Nat}(I:Inv X lL σ H s)(h1:-(2 ^ 62)<=lo)(h2:lo<2 ^ 62)(h3:-(2 ^ 62)<=hi)(h4:hi<2 ^ 62)
  (q:R (Itr lo (hi-lo).toNat) H):wpAny (model X.prog X.w) X.A (pyIter (.ref s.heap.objs.size)) (PIE X lL σ tg R) E { s with heap:=s.heap.push { cls:=.type "range",data:=.fields #[.int lo t,.int hi u,.int 1 v] },toks:=tk }:=by
 refine wpAny_pyIter_range (IsRange.new ..) (small_one h1 h2 h3 h4) ?_;have I1:Inv X lL σ H { s with heap:=s.heap.push { cls:=.type "range",data:=.fields #[.int lo t,.int hi u,.int 1 v] },toks:=tk }:=I.kept fun b o e=>lZ _ e;refine⟨(s.heap.push { cls:=.type "range",data:=.fields #[.int lo t,.int hi u,.int 1 v] }).objs.size,[(s.heap.push { cls:=.type "range",data:=.fields #[.int lo t,.int hi u,.int 1 v] }).objs.size],_,_,H,rfl,
  I1.kept (t':=tk) fun b o e=>lZ _ e,Jr _ lo (hi-lo).toNat,?_,fun b hb=>?_,q⟩
 ·have e1:lo+((0:Nat):Int)*1=lo:=by simp
  have e2:(((hi-lo).toNat:Nat):Int)-((0:Nat):Int)=Builtin.Range.rangeSize lo hi 1:=by rw[rangeSize_one];split<;>omega
  show IsRangeIter _ _ (lo+((0:Nat):Int)*1) ((((hi-lo).toNat:Nat):Int)-((0:Nat):Int)) 1
  rw[e1,e2];exact mD _ rfl
 ·have e:b=(s.heap.push { cls:=.type "range",data:=.fields #[.int lo t,.int hi u,.int 1 v] }).objs.size:=by simpa using hb
  subst e;exact I1.fpOk (lS _) (I1.hok.fresh (lS _))
def iRng1(ta:TA):TI:=fun σ H R=>ta σ H fun vs H1=>∃j:Int,vs=[.int j]/\-(2 ^ 62)<=j/\j<2 ^ 62/\R (Itr 0 j.toNat) H1
def iRng2(ta:TA):TI:=fun σ H R=>ta σ H fun vs H1=>∃i j:Int,vs=[.int i,.int j]/\(-(2 ^ 62)<=i/\i<2 ^ 62/\-(2 ^ 62)<=j/\j<2 ^ 62)/\R (Itr i (j-i).toNat) H1
theorem Xt{a:Expr}{ta:TA}{p pos:Pos}(hg:Gl X "range")(hm:X.mg "range" = none)(ha:PA X [a] ta)(hs:starEach [a] X.env=[(false,eval a X.env)]:=by rfl):PI X tg (.Call (.Name "range" p) [a] [] pos) (iRng1 ta):=by
 intro lL s σ H R I h;refine Call_ (VS I hg hm boot_range (pH (thn (ha pos lL s σ H _ I h) fun us s1 ⟨vs,H1,I1,r1,q1⟩=>?_) hs rfl));obtain⟨j,e,q1,q2,q⟩:=q1;subst e;cases r1 with
 |cons r rr=>
  cases rr;obtain⟨t,rfl⟩:=r;exact call_range_1 (jY I1 (by omega) (by omega) q1 q2 (by simpa using q))
theorem pi_range2{a b:Expr}{ta:TA}{p pos:Pos}(hg:Gl X "range")(hm:X.mg "range" = none)(ha:PA X [a,b] ta)(hs:starEach [a,b] X.env=[(false,eval a X.env),(false,eval b X.env)]:=by rfl)(hs2:starEach [b] X.env=[(false,eval b X.env)]:=by rfl) :
  PI X tg (.Call (.Name "range" p) [a,b] [] pos) (iRng2 ta):=by
 intro lL s σ H R I h;refine Call_ (VS I hg hm boot_range (pH (thn (ha pos lL s σ H _ I h) fun us s1 ⟨vs,H1,I1,r1,q1⟩=>?_) (by rw[hs,hs2]) (by rw[hs2];rfl)));obtain⟨i,j,e,⟨q1,q2,q3,q4⟩,q⟩:=q1;subst e;cases r1 with
 |cons r rr=>
  cases rr with
  |cons r' rr=>
   cases rr;obtain⟨t,rfl⟩:=r;obtain⟨t',rfl⟩:=r';exact call_range_2 (jY I1 q1 q2 q3 q4 q)
def tFor(wi:TI)(g:TG)(tb:TS):TS:=fun D σ H=>wi σ H fun J H1=>∃W:Nat->Nat->St->Hp->Prop,(∃m,W 0 m σ H1)/\∀i m σ H,W i m σ H ->
 (J.stop i H/\D.nx σ H)\/(J.go i H/\∃N:St->Hp->Prop,(∀σ' H',N σ' H'->∃m',m'<m/\W (i+1) m' σ' H')/\∀x H',J.yld i H x H'->g x σ H' fun σ2 H2=>tb { D with nx:=N,ct:=N,bk:=D.nx } σ2 H2)
def yC(fp:List Addr)(h:Heap):List (Addr×Obj):=fp.filterMap fun b=>(h.get? b).map fun o=>(b,o)
theorem V4{fp:List Addr}{h:Heap}{b:Addr}{o:Obj}(hb:b∈fp)(e:h.get? b=some o):(b,o)∈yC fp h:=List.mem_filterMap.mpr ⟨b,hb,by rw[e];rfl⟩
theorem of_pinsAt{fp:List Addr}{h:Heap}{p:Addr×Obj}(hp:p∈yC fp h):p.1∈fp/\h.get? p.1=some p.2:=by
 obtain⟨b,hb,e⟩:=List.mem_filterMap.mp hp;cases q:h.get? b with
 |none=>rw[q] at e;cases e
 |some o=>
  rw[q] at e;have e':(b,o)=p:=mv e;subst e';exact⟨hb,q⟩
theorem Inv.pinned{lL:List (Addr×Obj)}{σ:St}{H:Hp}{s:Shared}{fp:List Addr}(I:Inv X lL σ H s)(hf:∀b∈fp,UD X lL H b)(ho:∀b∈fp,∃o,s.heap.get? b=some o/\∀v,o.data≠.cell v):Inv X (lL++yC fp s.heap) σ H s:=
 I.pins_of fun p hp=>(ml.mp hp).elim (fun z=>I.pin p (mP _ z)) fun z=>by
  obtain⟨hb,e⟩:=of_pinsAt z;obtain⟨f0,f1,f2,_⟩:=hf p.1 hb;obtain⟨o,e',d⟩:=ho p.1 hb;rw[e] at e';cases e';exact⟨e,f0,f1,f2,d⟩
theorem Inv.unpinned{lL pl:List (Addr×Obj)}{σ:St}{H:Hp}{s:Shared}(I:Inv X (lL++pl) σ H s):Inv X lL σ H s:=I.pins_of fun p hp=>I.pin p (mP _ (mX _ hp))
theorem X8{iter:Expr}{body:List Stmt}{wi:TI}{g:TG}{tb:TS}{pos:Pos}(hp:PassesOwn (model X.prog X.w) X.A X.env X.xe)(hc:X.calm=true)(hi:PI X tg iter wi)(hg:PG X tg g)(hb:PSs X body tb)
  (hs:∀x,foldedSetIterable iter X.env x=pure x:=by intro _;rfl):PS X (.For tg iter body [] pos) (tFor wi g tb):=by
 intro lL s σ H D I h;refine wpAny_For (thn (hi lL s σ H _ I h) fun v s1 h1=>thn h1 fun itv s2 h2=>?_) hs;obtain⟨it,fp,tn,J,H2,e,I2,T,st2,f2,W,⟨m0,w0⟩,turn⟩:=h2;subst e;have stat:∀{H':Hp},(∀b∈fp,H' b=none)->∀b∈fp,UD X lL H' b:=fun hn b hb=>⟨hn b hb,(f2 b hb).2⟩;refine codeAny_forLoop_any (fun n s'=>∃i σ' H',Inv X lL σ' H' s'/\tn i s'.heap/\(∀b∈fp,H' b=none)/\W i n σ' H') ?_ m0 ⟨0,σ,H2,I2,st2,fun b hb=>(f2 b hb).1,w0⟩;rintro n s3 ⟨i,σ3,H3,I3,st3,fr3,w3⟩;rcases turn i n σ3 H3 w3 with⟨stop,qn⟩|⟨go,N,hN,step⟩
 ·refine o9 hp (thn (T.done X rfl rfl rfl hc i lL s3 σ3 H3 X.xe I3 (stat fr3) st3 stop) fun r s4 ⟨hr,I4⟩=>?_);subst hr;exact wpAny_execs_nil ⟨σ3,H3,I4,qn⟩
 ·refine o9 hp (thn (T.item X rfl rfl rfl hc i lL s3 σ3 H3 X.xe I3 (stat fr3) st3 go) fun r s4 ⟨u,hr,h4⟩=>?_);subst hr;refine o9 hp (thn h4 fun _ s5 ⟨x,H5,I5,r5,y5,st5,fr5⟩=>?_);have I5':=I5.pinned (stat fr5) (T.obj _ _ st5);refine o9 hp (thn (hg _ s5 σ3 H5 x u _ I5' r5 (step x H5 y5)) fun _ s6 ⟨σ6,H6,I6,q6⟩=>?_);refine o9 hp (thn (hb _ s6 σ6 H6 _ I6 q6) fun f s7 q7=>?_);have again:∀{σ7:St}{H7:Hp},Inv X (lL++yC fp s5.heap) σ7 H7 s7->N σ7 H7->∃m,m<n/\∃i σ' H',Inv X lL σ' H' s7/\tn i s7.heap/\(∀b∈fp,H' b=none)/\W i m σ' H':=fun {σ7 H7} I7 n7=>by
   obtain⟨m',hm,w7⟩:=hN σ7 H7 n7;refine⟨m',hm,i+1,σ7,H7,I7.unpinned,T.keep _ _ _ st5 fun b hb o e=>(I7.pin (b,o) (mP _ (mP _ (V4 hb e)))).1,fun b hb=>?_,w7⟩;obtain⟨o,e,d⟩:=T.obj _ _ st5 b hb;exact(I7.pin (b,o) (mP _ (mP _ (V4 hb e)))).2.1
  cases f with
  |next=>obtain⟨σ7,H7,I7,n7⟩:=q7;exact again I7 n7
  |cont=>obtain⟨σ7,H7,I7,n7⟩:=q7;exact again I7 n7
  |brk=>obtain⟨σ7,H7,I7,q7⟩:=q7;exact⟨σ7,H7,I7.unpinned,q7⟩
  |ret v=>obtain⟨x7,σ7,H7,I7,r7,q7⟩:=q7;exact⟨x7,σ7,H7,I7.unpinned,r7,q7⟩
end
theorem kr{K:W.Frag}{a:Addr}{xs:List V}{g:TG}{tb:TS}{D:Ends}{σ:St}{H:Hp}(Pv:Nat->St->Hp->Prop)(h0:Pv 0 σ H)(hl:∀i σ H,i<=xs.length->Pv i σ H->SqL K H a xs)
  (hs:∀i x σ H,xs[i]?=some x->Pv i σ H->g x σ H fun σ2 H2=>tb { D with nx:=Pv (i+1),ct:=Pv (i+1),bk:=D.nx } σ2 H2) (hd:∀σ H,Pv xs.length σ H->D.nx σ H) :
  ∃W:Nat->Nat->St->Hp->Prop,(∃m,W 0 m σ H)/\∀i m σ H,W i m σ H ->
   ((Itl K a).stop i H/\D.nx σ H)\/((Itl K a).go i H/\∃N:St->Hp->Prop,(∀σ' H',N σ' H'->∃m',m'<m/\W (i+1) m' σ' H')/\∀x H',(Itl K a).yld i H x H'->g x σ H' fun σ2 H2=>tb { D with nx:=N,ct:=N,bk:=D.nx } σ2 H2):=by
 refine⟨fun i m σ H=>m=xs.length-i/\i<=xs.length/\Pv i σ H,⟨xs.length,by simp,mN _,h0⟩,?_⟩;rintro i m σ H ⟨rfl,hi,p⟩;have q:=hl i σ H hi p
 by_cases hlt:i<xs.length
 ·refine .inr ⟨⟨xs,xs[i],q,by simp[hlt]⟩,Pv (i+1),fun σ' H' p'=>⟨xs.length-(i+1),by omega,rfl,hlt,p'⟩,fun x H' y=>?_⟩;obtain⟨e,y⟩:=y;subst e;exact hs i x σ _ (y xs q) p
 ·have e:i=xs.length:=by omega
  subst e;exact .inl ⟨⟨xs,q,lS _⟩,hd σ H p⟩
theorem for_range{lo:Int}{n:Nat}{g:TG}{tb:TS}{D:Ends}{σ:St}{H:Hp}(Pv:Nat->St->Hp->Prop)(h0:Pv 0 σ H)
  (hs:∀i σ H,i<n->Pv i σ H->g (.int (lo+i)) σ H fun σ2 H2=>tb { D with nx:=Pv (i+1),ct:=Pv (i+1),bk:=D.nx } σ2 H2) (hd:∀σ H,Pv n σ H->D.nx σ H) :
  ∃W:Nat->Nat->St->Hp->Prop,(∃m,W 0 m σ H)/\∀i m σ H,W i m σ H ->
   ((Itr lo n).stop i H/\D.nx σ H)\/((Itr lo n).go i H/\∃N:St->Hp->Prop,(∀σ' H',N σ' H'->∃m',m'<m/\W (i+1) m' σ' H')/\∀x H',(Itr lo n).yld i H x H'->g x σ H' fun σ2 H2=>tb { D with nx:=N,ct:=N,bk:=D.nx } σ2 H2):=by
 refine⟨fun i m σ H=>m=n-i/\i<=n/\Pv i σ H,⟨n,by simp,mN _,h0⟩,?_⟩;rintro i m σ H ⟨rfl,hi,p⟩
 by_cases hlt:i<n
 ·refine .inr ⟨hlt,Pv (i+1),fun σ' H' p'=>⟨n-(i+1),by omega,rfl,hlt,p'⟩,fun x H' y=>?_⟩;obtain⟨e,y⟩:=y;subst e y;exact hs i σ _ hlt p
 ·have e:i=n:=by omega
  subst e;exact .inl ⟨lS _,hd σ H p⟩
abbrev R2:=V->V->Hp->VK->Prop
def OpR(X:Cx)(f:Value->Value->Sem Value)(r:R2):Prop:=
 ∀(lL:List (Addr×Obj)) (s:Shared) (σ:St) (H:Hp) (x y:V) (v u:Value) (Q:VK),Inv X lL σ H s->ZQ x v->ZQ y u->r x y H Q ->
  wpAny (model X.prog X.w) X.A (f v u) (EP X lL σ Q) X.xe s
def UnR(X:Cx)(f:Value->Sem Value)(r:V->Hp->VK->Prop):Prop:=
 ∀(lL:List (Addr×Obj)) (s:Shared) (σ:St) (H:Hp) (x:V) (v:Value) (Q:VK),Inv X lL σ H s->ZQ x v->r x H Q ->
  wpAny (model X.prog X.w) X.A (f v) (EP X lL σ Q) X.xe s
def YB(X:Cx)(f:Value)(r:List V->Hp->VK->Prop):Prop:=
 ∀(lL:List (Addr×Obj)) (s:Shared) (σ:St) (H:Hp) (xs:List V) (us:List Value) (Q:VK),Inv X lL σ H s->ZH xs us->r xs H Q ->
  wpAny (model X.prog X.w) X.A (call f us) (EP X lL σ Q) X.xe s
def TruR(X:Cx)(r:V->Hp->(Bool->Hp->Prop)->Prop):Prop:=
 ∀(lL:List (Addr×Obj)) (s:Shared) (σ:St) (H:Hp) (x:V) (v:Value) (Q:Bool->Hp->Prop),Inv X lL σ H s->ZQ x v->r x H Q ->
  wpAny (model X.prog X.w) X.A (truthy v) (TP X lL σ Q) X.xe s
def tOp(r:R2)(ta tb:TE):TE:=fun σ H Q=>ta σ H fun x H1=>tb σ H1 fun y H2=>r x y H2 Q
def tUn(r:V->Hp->VK->Prop)(ta:TE):TE:=fun σ H Q=>ta σ H fun x H1=>r x H1 Q
inductive rI_R(C:Int->Int->Prop)(g:Int->Int->V)(x:V)(y:V)(H:Hp)(Q:VK):Prop
 |mk (i:_) (j:_) (h0:x=.int i) (h1:y=.int j) (h2:C i j) (h3:Q (g i j) H):rI_R C g x y H Q
def rI(C:Int->Int->Prop)(g:Int->Int->V):R2:=fun x y H Q=>rI_R C g x y H Q
inductive rI0_R(g:Int->Int->V)(x:V)(y:V)(H:Hp)(Q:VK):Prop
 |mk (i:_) (j:_) (h0:x=.int i) (h1:y=.int j) (h2:Q (g i j) H):rI0_R g x y H Q
def rI0(g:Int->Int->V):R2:=fun x y H Q=>rI0_R g x y H Q
inductive rU_R(g:Int->V)(x:V)(H:Hp)(Q:VK):Prop
 |mk (i:_) (h0:x=.int i) (h1:Q (g i) H):rU_R g x H Q
def rU(g:Int->V):V->Hp->VK->Prop:=fun x H Q=>rU_R g x H Q
section
variable{X:Cx}{a b c:Expr}{ta tb tc:TE}{pos:Pos}
theorem binT(ha:PE X a ta)(hb:PE X b tb){lL:List (Addr×Obj)}{s:Shared}{σ:St}{H:Hp}{R:V->V->Hp->Prop}(I:Inv X lL σ H s)
  (h:ta σ H fun x H1=>tb σ H1 fun y H2=>R x y H2) {Q:Value->Shared->Prop}{f:Value->Value->Sem Value}
  (hf:∀v u s2 x y H2,Inv X lL σ H2 s2->ZQ x v->ZQ y u->R x y H2->wpAny (model X.prog X.w) X.A (f v u) Q X.xe s2) :
  wpAny (model X.prog X.w) X.A (eval a X.env) (fun v s₁=>wpAny (model X.prog X.w) X.A (eval b X.env) (fun u s₂=>wpAny (model X.prog X.w) X.A (f v u) Q X.xe s₂) X.xe s₁) X.xe s:=by
 refine thn (ha lL s σ H _ I h) fun v s1 ⟨x,H1,I1,r1,q1⟩=>?_;refine thn (hb lL s1 σ H1 _ I1 q1) fun u s2 ⟨y,H2,I2,r2,q2⟩=>?_;exact hf v u s2 x y H2 I2 r1 r2 q2
theorem ZO{op:Operator}{r:R2}(ho:OpR X (binaryOp op) r)(ha:PE X a ta)(hb:PE X b tb):PE X (.BinOp a op b pos) (tOp r ta tb):=by
 intro lL s σ H Q I h;exact wpAny_BinOp (binT ha hb I h fun v u s2 x y H2 I2 rx ry q=>ho lL s2 σ H2 x y v u Q I2 rx ry q)
theorem Us{op:UnaryOp}{r:V->Hp->VK->Prop}(ho:UnR X (unaryOp op) r)(ha:PE X a ta):PE X (.UnaryOp op a pos) (tUn r ta):=by
 intro lL s σ H Q I h;exact UnaryOp_ (thn (ha lL s σ H _ I h) fun v s1 ⟨x,H1,I1,r1,q1⟩=>ho lL s1 σ H1 x v Q I1 r1 q1)
theorem opI{f:Value->Value->Sem Value}{C:Int->Int->Prop}{g:Int->Int->Int}
  (rule:∀(i j:Int) (t u:Tok) (s:Shared) (Q:Value->Shared->Prop) (E:Value->Shared->Prop),C i j->Q (.int (g i j) s.toks) { s with toks:=s.toks+1 }->wpAny (model X.prog X.w) X.A (f (.int i t) (.int j u)) Q E s) :
  OpR X f (rI C fun i j=>.int (g i j)):=by
 intro lL s σ H x y v u Q I rx ry h;obtain⟨i,j,rfl,rfl,hc,q⟩:=h;obtain⟨t,rfl⟩:=rx;obtain⟨t',rfl⟩:=ry;exact rule i j t t' s _ _ hc ⟨.int (g i j),H,I.tok _,⟨_,rfl⟩,q⟩
theorem opI0{f:Value->Value->Sem Value}{g:Int->Int->Int}
  (rule:∀(i j:Int) (t u:Tok) (s:Shared) (Q:Value->Shared->Prop) (E:Value->Shared->Prop),Q (.int (g i j) s.toks) { s with toks:=s.toks+1 }->wpAny (model X.prog X.w) X.A (f (.int i t) (.int j u)) Q E s) :
  OpR X f (rI0 fun i j=>.int (g i j)):=by
 intro lL s σ H x y v u Q I rx ry h;obtain⟨i,j,rfl,rfl,q⟩:=h;obtain⟨t,rfl⟩:=rx;obtain⟨t',rfl⟩:=ry;exact rule i j t t' s _ _ ⟨.int (g i j),H,I.tok _,⟨_,rfl⟩,q⟩
theorem opB0{f:Value->Value->Sem Value}{g:Int->Int->Bool}
  (rule:∀(i j:Int) (t u:Tok) (s:Shared) (Q:Value->Shared->Prop) (E:Value->Shared->Prop),Q (.bool (g i j)) s->wpAny (model X.prog X.w) X.A (f (.int i t) (.int j u)) Q E s) :
  OpR X f (rI0 fun i j=>.bl (g i j)):=by
 intro lL s σ H x y v u Q I rx ry h;obtain⟨i,j,rfl,rfl,q⟩:=h;obtain⟨t,rfl⟩:=rx;obtain⟨t',rfl⟩:=ry;exact rule i j t t' s _ _ ⟨.bl (g i j),H,I,rfl,q⟩
def CDiv(i j:Int):Prop:=0<j/\j<1073741824
def CPow(i j:Int):Prop:=0<=j/\j<=1000000/\i.natAbs<2 ^ 64
def CMul(i j:Int):Prop:=(-(2 ^ 64)<i/\i<2 ^ 64)\/(-(2 ^ 64)<j/\j<2 ^ 64)
theorem CMul.ok{i j:Int}(h:CMul i j):IntMulOk i j:=by
 rcases h with⟨h1,h2⟩|⟨h1,h2⟩
 ·exact .of_left (intBits_le_64 h1 h2)
 ·exact .of_right (intBits_le_64 h1 h2)
theorem WA:OpR X (binaryOp .Add) (rI0 fun i j=>.int (i+j)):=opI0 fun _ _ _ _ _ _ _ q=>add_int q
theorem Uo:OpR X (binaryOp .Sub) (rI0 fun i j=>.int (i-j)):=opI0 fun _ _ _ _ _ _ _ q=>sub_int q
theorem yP:OpR X (binaryOp .Mult) (rI CMul fun i j=>.int (i*j)):=opI fun _ _ _ _ _ _ _ hc q=>mul_int q hc.ok
theorem zS:OpR X (binaryOp .FloorDiv) (rI CDiv fun i j=>.int (i/j)):=opI fun i j _ _ _ _ _ hc q=>by
 have h1:(0:Int)<j:=hc.1;have h2:j<1073741824:=hc.2;exact floordiv_int (by omega) (by rw[Int.fdiv_eq_ediv_of_nonneg i (by omega)];exact q) (.inl (PyProof.noPylong_small (by omega)))
theorem U1:OpR X (binaryOp .Mod) (rI (fun _ j=>0<j) fun i j=>.int (i%j)):=opI fun i j _ _ _ _ _ hc q=>by
 have h1:(0:Int)<j:=hc;exact mod_int' (by omega) (by rw[Int.fmod_eq_emod_of_nonneg i (by omega)];exact q)
theorem op_pow:OpR X (binaryOp .Pow) (rI CPow fun i j=>.int (i ^ j.toNat)):=opI fun _ _ _ _ _ _ _ hc q=>pow_int_small hc.1 hc.2.1 hc.2.2 q
theorem unI{f:Value->Sem Value}{g:Int->Int}
  (rule:∀(i:Int) (t:Tok) (s:Shared) (Q:Value->Shared->Prop) (E:Value->Shared->Prop),Q (.int (g i) s.toks) { s with toks:=s.toks+1 }->wpAny (model X.prog X.w) X.A (f (.int i t)) Q E s) :
  UnR X f (rU fun i=>.int (g i)):=by
 intro lL s σ H x v Q I rx h;obtain⟨i,rfl,q⟩:=h;obtain⟨t,rfl⟩:=rx;exact rule i t s _ _ ⟨.int (g i),H,I.tok _,⟨_,rfl⟩,q⟩
theorem Vg:UnR X (unaryOp .USub) (rU fun i=>.int (-i)):=unI fun _ _ _ _ _ q=>neg_int q
end
def scal:V->V->Bool
 |.non,.non=>true|.non,.int _=>true|.int _,.non=>true|.non,.bl _=>true|.bl _,.non=>true|.non,.str _=>true|.str _,.non=>true
 |.int _,.int _=>true|.bl _,.bl _=>true|.str _,.str _=>true|.byt _,.byt _=>true
 |.int _,.str _=>true|.str _,.int _=>true|.bl _,.str _=>true|.str _,.bl _=>true
 |_,_=>false
inductive rEq_R(x y:V)(H:Hp)(Q:VK):Prop
 |mk (h:scal x y=true) (k:Q (.bl (decide (x=y))) H):rEq_R x y H Q
inductive rNe_R(x y:V)(H:Hp)(Q:VK):Prop
 |mk (h:scal x y=true) (k:Q (.bl (!decide (x=y))) H):rNe_R x y H Q
def rEq:R2:=fun x y H Q=>rEq_R x y H Q
def rNe:R2:=fun x y H Q=>rNe_R x y H Q
theorem dec_int{i j:Int}:decide (V.int i=V.int j)=(i==j):=by
 rw[oQ];simp
theorem dec_bl{i j:Bool}:decide (V.bl i=V.bl j)=(i==j):=by
 rw[oQ];simp
theorem dec_str{i j:Str}:decide (V.str i=V.str j)=(i==j):=by
 rw[oQ];simp
theorem dec_byt{i j:Array UInt8}:decide (V.byt i=V.byt j)=(i.toList==j.toList):=by
 rw[oQ];cases i;cases j;simp
section
variable{X:Cx}{a b c:Expr}{ta tb tc:TE}{pos:Pos}
theorem Z6{lL:List (Addr×Obj)}{σ:St}{H:Hp}{s:Shared}{Q:VK}{k k':Bool}(I:Inv X lL σ H s)(q:Q (.bl k) H)(e:k=k'):EP X lL σ Q (.bool k') s:=by
 subst e;exact⟨.bl k,H,I,rfl,q⟩
theorem Yw:OpR X (compareOp .Eq) rEq:=by
 intro lL s σ H x y v u Q I rx ry h;obtain⟨hs,q⟩:=h;cases x with
 |non=>
  cases rx;cases y with
  |non=>cases ry;exact PySem.EqNone.eq_none_none (Z6 I q (by simp))
  |bl j=>cases ry;exact PySem.EqNone.eq_none_bool (Z6 I q (by simp))
  |int j=>obtain⟨t',rfl⟩:=ry;exact PySem.EqNone.eq_none_int (Z6 I q (by simp))
  |str j=>obtain⟨t',rfl⟩:=ry;exact PySem.EqNone.eq_none_str (Z6 I q (by simp))
  |_=>exact absurd (show false=true from hs) mI
 |bl i=>
  cases rx;cases y with
  |non=>cases ry;exact PySem.EqNone.eq_bool_none (Z6 I q (by simp))
  |bl j=>cases ry;exact eq_bool (Z6 I q dec_bl)
  |str j=>obtain⟨t',rfl⟩:=ry;exact PySem.EqMixed.eq_bool_str (Z6 I q (by simp))
  |_=>exact absurd (show false=true from hs) mI
 |int i=>
  obtain⟨t,rfl⟩:=rx;cases y with
  |non=>cases ry;exact PySem.EqNone.eq_int_none (Z6 I q (by simp))
  |int j=>obtain⟨t',rfl⟩:=ry;exact eq_int (Z6 I q dec_int)
  |str j=>obtain⟨t',rfl⟩:=ry;exact PySem.EqMixed.eq_int_str (Z6 I q (by simp))
  |_=>exact absurd (show false=true from hs) mI
 |str i=>
  obtain⟨t,rfl⟩:=rx;cases y with
  |non=>cases ry;exact PySem.EqNone.eq_str_none (Z6 I q (by simp))
  |bl j=>cases ry;exact PySem.EqMixed.eq_str_bool (Z6 I q (by simp))
  |int j=>obtain⟨t',rfl⟩:=ry;exact PySem.EqMixed.eq_str_int (Z6 I q (by simp))
  |str j=>obtain⟨t',rfl⟩:=ry;exact eq_str (Z6 I q dec_str)
  |_=>exact absurd (show false=true from hs) mI
 |byt i=>
  obtain⟨t,rfl⟩:=rx;cases y with
  |byt j=>obtain⟨t',rfl⟩:=ry;exact W.eq_bytes (Z6 I q dec_byt)
  |_=>exact absurd (show false=true from hs) mI
 |_=>cases y<;>exact absurd (show false=true from hs) mI
theorem op_ne:OpR X (compareOp .NotEq) rNe:=by
 intro lL s σ H x y v u Q I rx ry h;obtain⟨hs,q⟩:=h;cases x with
 |non=>
  cases rx;cases y with
  |non=>cases ry;exact PySem.EqNone.ne_none_none (Z6 I q (by simp))
  |bl j=>cases ry;exact PySem.EqNone.ne_none_bool (Z6 I q (by simp))
  |int j=>obtain⟨t',rfl⟩:=ry;exact PySem.EqNone.ne_none_int (Z6 I q (by simp))
  |str j=>obtain⟨t',rfl⟩:=ry;exact PySem.EqNone.ne_none_str (Z6 I q (by simp))
  |_=>exact absurd (show false=true from hs) mI
 |bl i=>
  cases rx;cases y with
  |non=>cases ry;exact PySem.EqNone.ne_bool_none (Z6 I q (by simp))
  |bl j=>cases ry;exact ne_bool (Z6 I q (my not dec_bl))
  |str j=>obtain⟨t',rfl⟩:=ry;exact PySem.EqMixed.ne_bool_str (Z6 I q (by simp))
  |_=>exact absurd (show false=true from hs) mI
 |int i=>
  obtain⟨t,rfl⟩:=rx;cases y with
  |non=>cases ry;exact PySem.EqNone.ne_int_none (Z6 I q (by simp))
  |int j=>obtain⟨t',rfl⟩:=ry;exact ne_int (Z6 I q (my not dec_int))
  |str j=>obtain⟨t',rfl⟩:=ry;exact PySem.EqMixed.ne_int_str (Z6 I q (by simp))
  |_=>exact absurd (show false=true from hs) mI
 |str i=>
  obtain⟨t,rfl⟩:=rx;cases y with
  |non=>cases ry;exact PySem.EqNone.ne_str_none (Z6 I q (by simp))
  |bl j=>cases ry;exact PySem.EqMixed.ne_str_bool (Z6 I q (by simp))
  |int j=>obtain⟨t',rfl⟩:=ry;exact PySem.EqMixed.ne_str_int (Z6 I q (by simp))
  |str j=>obtain⟨t',rfl⟩:=ry;exact ne_str (Z6 I q (my not dec_str))
  |_=>exact absurd (show false=true from hs) mI
 |byt i=>
  obtain⟨t,rfl⟩:=rx;cases y with
  |byt j=>obtain⟨t',rfl⟩:=ry;exact W.ne_bytes (Z6 I q (my not dec_byt))
  |_=>exact absurd (show false=true from hs) mI
 |_=>cases y<;>exact absurd (show false=true from hs) mI
theorem zA:OpR X (compareOp .Lt) (rI0 fun i j=>.bl (decide (i<j))):=opB0 fun _ _ _ _ _ _ _ q=>lt_int q
theorem zy:OpR X (compareOp .LtE) (rI0 fun i j=>.bl (decide (i<=j))):=opB0 fun _ _ _ _ _ _ _ q=>le_int q
theorem op_gt:OpR X (compareOp .Gt) (rI0 fun i j=>.bl (decide (j<i))):=opB0 fun _ _ _ _ _ _ _ q=>gt_int q
theorem op_in_str:OpR X (compareOp .In) (fun x y H Q=>∃i j,x=.str i/\y=.str j/\Q (.bl (!(Builtin.Str.occurrences j i 0 j.length 1).isEmpty)) H):=by
 intro lL s σ H x y v u Q I rx ry h;obtain⟨i,j,rfl,rfl,q⟩:=h;obtain⟨t,rfl⟩:=rx;obtain⟨t',rfl⟩:=ry;exact in_str (Z6 I q rfl)
theorem ZF(b:Expr){op:CmpOp}(h:op≠.In:=by decide)(h2:op≠.NotIn:=by decide):behindInMarks op b=false:=by
 have e1:(op==CmpOp.In)=false:=by cases op<;>first|rfl|exact absurd rfl h
 have e2:(op==CmpOp.NotIn)=false:=by cases op<;>first|rfl|exact absurd rfl h2
 cases b<;>simp[behindInMarks,e1,e2]
theorem XR{op:CmpOp}{r:R2}(ho:OpR X (compareOp op) r)(ha:PE X a ta)(hb:PE X b tb)(hm:behindInMarks op b=false):PE X (.Compare a [op] [b] pos) (tOp r ta tb):=by
 intro lL s σ H Q I h;exact wpAny_Compare1 (binT ha hb I h fun v u s2 x y H2 I2 rx ry q=>ho lL s2 σ H2 x y v u Q I2 rx ry q) hm
def tTest(t:TE):TT:=fun σ H Q=>t σ H fun x H'=>BoolR x H' Q
theorem Zx{op:CmpOp}{r:R2}(ho:OpR X (compareOp op) r)(ha:PE X a ta)(hb:PE X b tb)(hm:behindInMarks op b=false):PT X (.Compare a [op] [b] pos) (tTest (tOp r ta tb)):=by
 intro lL s σ H Q I h;refine wpAny_isTrue_Compare1 (thn (ha lL s σ H _ I h) fun v s1 ⟨x,H1,I1,r1,q1⟩=>thn (hb lL s1 σ H1 _ I1 q1) fun u s2 ⟨y,H2,I2,r2,q2⟩=>
  thn (ho lL s2 σ H2 x y v u _ I2 r1 r2 q2) fun c s3 ⟨z,H3,I3,r3,k,e,q3⟩=>?_) hm
 subst e;cases r3;exact nV ⟨H3,I3,q3⟩
def tChain(r r':R2)(ta tb tc:TE):TE:=fun σ H Q=>ta σ H fun x H1=>tb σ H1 fun y H2=>r x y H2 fun z H3=>∃k,z=.bl k /\
 (if k=true then tc σ H3 fun w' H4=>r' y w' H4 Q else Q (.bl false) H3)
theorem jW{op op':CmpOp}{r r':R2}(ho:OpR X (compareOp op) r)(ho':OpR X (compareOp op') r')(ha:PE X a ta)(hb:PE X b tb)(hc:PE X c tc)
  (hm:lastMarks [op,op'] [b,c]=false:=by with_unfolding_all rfl):PE X (.Compare a [op,op'] [b,c] pos) (tChain r r' ta tb tc):=by
 intro lL s σ H Q I h;refine Compare_chain (thn (ha lL s σ H _ I h) fun v s1 ⟨x,H1,I1,r1,q1⟩=>chain_link (thn (hb lL s1 σ H1 _ I1 q1) fun u s2 ⟨y,H2,I2,r2,q2⟩=>
  thn (ho lL s2 σ H2 x y v u _ I2 r1 r2 q2) fun d s3 ⟨z,H3,I3,r3,k,e,q3⟩=>?_)) hm
 subst e;cases r3;refine nV ?_;cases k with
 |false=>exact ite_ff ⟨.bl false,H3,I3,rfl,q3⟩
 |true=>exact ite_tt (chain_last (thn (hc lL s3 σ H3 _ I3 q3) fun w' s4 ⟨z',H4,I4,r4,q4⟩=>ho' lL s4 σ H4 y z' u w' Q I4 r2 r4 q4))
theorem jS{op op':CmpOp}{r r':R2}(ho:OpR X (compareOp op) r)(ho':OpR X (compareOp op') r')(ha:PE X a ta)(hb:PE X b tb)(hc:PE X c tc)
  (hm:lastMarks [op,op'] [b,c]=false:=by with_unfolding_all rfl):PT X (.Compare a [op,op'] [b,c] pos) (tTest (tChain r r' ta tb tc)):=by
 intro lL s σ H Q I h;refine isTrue_chain (thn (ha lL s σ H _ I h) fun v s1 ⟨x,H1,I1,r1,q1⟩=>test_link (thn (hb lL s1 σ H1 _ I1 q1) fun u s2 ⟨y,H2,I2,r2,q2⟩=>
  thn (ho lL s2 σ H2 x y v u _ I2 r1 r2 q2) fun d s3 ⟨z,H3,I3,r3,k,e,q3⟩=>?_)) hm
 subst e;cases r3;refine nV ?_;cases k with
 |false=>
  obtain⟨k',e',q'⟩:=q3;cases e';exact ite_ff ⟨H3,I3,q'⟩
 |true=>
  refine ite_tt (test_last (thn (hc lL s3 σ H3 _ I3 q3) fun w' s4 ⟨z',H4,I4,r4,q4⟩=>thn (ho' lL s4 σ H4 y z' u w' _ I4 r2 r4 q4) fun d' s5 ⟨z2,H5,I5,r5,k2,e2,q5⟩=>?_));subst e2;cases r5;exact nV ⟨H5,I5,q5⟩
def TruV(K:W.Frag)(x:V)(H:Hp)(k:Bool):Prop:=
 match x with
 |.non=>k=false
 |.bl b=>k=b
 |.int i=>k=(i != 0)
 |.str y=>y.length<=sizeLine/\k=((y.length:Int) != 0)
 |.byt y=>y.size<=sizeLine/\k=((y.size:Int) != 0)
 |.ref p=>(∃xs,SqL K H p xs/\k = !xs.isEmpty)\/(∃xs,SqT K H p xs/\k = !xs.isEmpty)\/∃kvs,H p=some (.dK kvs)/\k = !kvs.isEmpty
 |_=>False
theorem JG{κ:Type}{kvs:List (κ×V)}{vs:List (κ×Value)}(r:KV kvs vs):(!vs.isEmpty) = !kvs.isEmpty:=by
 cases r<;>rfl
theorem yk{xs:List V}{its:List Value}(r:ZH xs its):(!its.toArray.isEmpty) = !xs.isEmpty:=by
 cases r<;>simp
theorem yW:(sizeLine:Nat)<2 ^ 63:=by rw[lV];decide
theorem tru_ok:TruR X (fun x H Q=>∃k,TruV X.K x H k/\Q k H):=by
 intro lL s σ H x v Q I rx h;obtain⟨k,e,q⟩:=h;have hl:=yW;have hs:sizeLine=16777216:=lV;cases x with
 |non=>
  cases rx;have e':k=false:=e;subst e';exact truthy_none ⟨H,I,q⟩
 |bl b=>
  cases rx;have e':k=b:=e;subst e';exact nV ⟨H,I,q⟩
 |int i=>
  obtain⟨t,rfl⟩:=rx;have e':k=(i != 0):=e;subst e';exact PySem.P.truthy_int ⟨H,I,q⟩
 |str y=>
  obtain⟨t,rfl⟩:=rx;obtain⟨hy,e'⟩:y.length<=sizeLine/\k=((y.length:Int) != 0):=e;subst e';exact PySem.P.truthy_str (by omega) ⟨H,I.tok _,q⟩
 |byt y=>
  obtain⟨t,rfl⟩:=rx;obtain⟨hy,e'⟩:y.size<=sizeLine/\k=((y.size:Int) != 0):=e;subst e';exact W.truthy_bytes (by omega) ⟨H,I.tok _,q⟩
 |ref p=>
  cases rx;have e':(∃xs,SqL X.K H p xs/\k = !xs.isEmpty)\/(∃xs,SqT X.K H p xs/\k = !xs.isEmpty)\/∃kvs,H p=some (.dK kvs)/\k = !kvs.isEmpty:=e;rcases e' with⟨xs,hx,e'⟩|⟨xs,hx,e'⟩|⟨kvs,hx,e'⟩
  ·subst e';obtain⟨its,r,pl,hz⟩:=I.list hx;have hlen:=r.length;exact wpAny_truthy_list pl.isList (by simp only[mn];omega) ⟨H,I.tok _,by rw[yk r];exact q⟩
  ·subst e';obtain⟨its,r,pl,hz⟩:=I.tuple hx;have hlen:=r.length;exact truthy_tuple pl (by simp only[mn];omega) ⟨H,I.tok _,by rw[yk r];exact q⟩
  ·subst e';obtain⟨hz,hS,vs,r,m⟩:kvs.length<=sizeLine/\(p==sysModules)=false/\∃vs,KV kvs vs/\s.heap.DictOf (ZC X.prog X.w) p vs:=I.hok p _ hx;have hlen:kvs.length=vs.length:=pF r;exact wpAny_truthy_dict hS m (by omega) ⟨H,I.tok _,by rw[JG r];exact q⟩
 |_=>exact(show False from e).elim
theorem pt_truth(ha:PE X a ta)(he:∀whole,isTrue a X.env whole=(do let v <- whole;standAt a.pos;holding [v] (truthy v))) :
  PT X a (fun σ H Q=>ta σ H fun x H'=>∃k,TruV X.K x H' k/\Q k H'):=by
 intro lL s σ H Q I h;exact isTrue_plain (thn (ha lL s σ H _ I h) fun v s1 ⟨x,H1,I1,r1,q1⟩=>tru_ok lL s1 σ H1 x v Q I1 r1 q1) (he _)
theorem VG{x:V}{us:List Value}(r:ZH [x] us):∃u,us=[u]/\ZQ x u:=by
 cases r with
 |cons r1 r2=>cases r2;exact⟨_,rfl,r1⟩
theorem vals2{x y:V}{us:List Value}(r:ZH [x,y] us):∃u w',us=[u,w']/\ZQ x u/\ZQ y w':=by
 cases r with
 |cons r1 r2=>
  cases r2 with
  |cons r3 r4=>cases r4;exact⟨_,_,rfl,r1,r3⟩
theorem ve(hc:X.calm=true):YB X (.builtin "max") (fun xs H Q=>∃i j,xs=[.int i,.int j]/\Q (.int (if j>i then j else i)) H):=by
 intro lL s σ H xs us Q I r h;obtain⟨i,j,rfl,q⟩:=h;obtain⟨u,w',rfl,⟨t,rfl⟩,⟨t',rfl⟩⟩:=vals2 r;refine max_two_ints (I.ok.hd hc) fun h' tk k=>⟨_,H,I.kept k,?_,q⟩
 by_cases hj:j>i
 ·rw[if_pos hj,if_pos hj];exact⟨_,rfl⟩
 ·rw[if_neg hj,if_neg hj];exact⟨_,rfl⟩
end
structure ObjM(h:Heap)(x dx C:Addr)(mA:Str->Option Value):Prop where
 obj:h.get? x=some (W.instObj C dx)
 ns:h.Ns1 dx mA
 ne:dx≠x
theorem lookIn_ns{h:Heap}{dx:Addr}{mA:Str->Option Value}(n:h.Ns1 dx mA):∃od,h.get? dx=some od/\∀name,W.lookIn name od=some (mA name):=by
 obtain⟨o,es,ep,ho,hd,hk,_,hm⟩:=n;refine⟨o,ho,fun name=>?_⟩;have e:=hm name;unfold nsFind findBy at e;rw[<- Array.find?_toList] at e;unfold W.lookIn;rw[hd];dsimp only
 split
 ·rename_i y q
  rw[q] at e;exact my some e
 ·rename_i q
  rw[q] at e;have a:es.toList.any (·.refKey)=false:=by
   rw[List.any_eq_false];intro y hy;obtain⟨z,t,hkey⟩:=hk y (Array.mem_toList_iff.mp hy);simp[DictEntry.refKey,hkey]
  have a':¬es.toList.any (·.refKey)=true:=by rw[a];exact mI
  rw[if_neg a'];exact my some e
theorem ObjM.look{h:Heap}{x dx C:Addr}{mA:Str->Option Value}(I:ObjM h x dx C mA):∃od,W.InstAt h x (W.instObj C dx) C (some od)/\∀name,W.lookIn name od=some (mA name):=
 let ⟨od,ho,hl⟩:=lookIn_ns I.ns
 ⟨od,⟨I.obj,rfl,rfl,ho⟩,hl⟩
section
variable{prog:Program}{w:World}{A:Around}{E:Value->Shared->Prop}{s:Shared}{K:W.Frag}{x dx C f:Addr}{mA:Str->Option Value}{name:Str}{v:Value}
theorem get_map{expr:Bool}{Q:Value->Shared->Prop}(X:K.In s.heap)(I:ObjM s.heap x dx C mA)(hg:W.plainGet K C name=true)(hh:W.hasDictIn K C=true)
  (ha:W.findIn K (.ref C) name=some none) (hv:mA name=some v) (hv':W.handedIn v=true) (h:Q v { s with toks:=s.toks+1 }) :
  wpAny (model prog w) A (getAttr (.ref x) name expr) Q E s:=by
 obtain⟨od,J,hl⟩:=I.look;exact W.get_value X J (W.plainGet_of hg).1 (W.findObj_own hh ha rfl (by rw[hl,hv])) hv' h
theorem get_meth{pl:Sem Bool}{Q:Value×List Value->Shared->Prop}(X:K.In s.heap)(I:ObjM s.heap x dx C mA)(hg:W.plainGet K C name=true)
  (hf:W.findIn K (.ref C) name=some (some (.ref f))) (ht:W.isFn K (.ref f)=true) (hv:mA name=none) (h:Q (.ref f,[.ref x]) s) :
  wpAny (model prog w) A (getMethod (.ref x) name pl) Q E s:=by
 obtain⟨od,J,hl⟩:=I.look;exact W.method_fn X J (W.plainGet_of hg).1 (W.plainGet_of hg).2 hf (pc.mp ht) (by show(W.lookIn name od).map (·.isSome)=some false;rw[hl,hv];rfl) h
theorem set_map{ns:List Str}{Q:Unit->Shared->Prop}(X:K.In s.heap)(I:ObjM s.heap x dx C mA)
  (hs:W.findIn K (.ref C) "__setattr__" = some (some (.builtin "object.__setattr__"))) (hp:W.plainOver K C=true) (ht:W.takerIn K C name=some none) (hh:W.hasDictIn K C=true)
  (hw:PySem.Within mA ns) (hsz:ns.length<=sizeLine)
  (h:∀h',ObjM h' x dx C (fun y=>if y=name then some v else mA y)->Heap.SameBut dx s.heap h'->Q () { s with heap:=h',toks:=s.toks+2 }) :
  wpAny (model prog w) A (setAttr (.ref x) name v) Q E s:=by
 obtain⟨od,J,hl⟩:=I.look;refine W.set_plain X J hs (W.osa_open (s:={ s with toks:=s.toks+1 }) (r:=none) X J hp ht fun b=>?_);obtain⟨cd,hc,hd'⟩:=W.any_some hh;have hx:s.heap.get? x=some ⟨.ref C,some dx,.plain,#[]⟩:=I.obj;refine lO (lT (lO (lO (wpAny_loadPart hx (lO (W.Looks.here (s:={ s with toks:=s.toks+1 }) (W.looks_clsIn X hc) ?_))))));rw[hd'];refine lT (a:=some dx) (lO (lT (lO ?_)));refine wpAny_nsSet1 (s:={ s with toks:=s.toks+1 }) I.ns fun h' hn2 hs2=>?_;obtain⟨oD,esD,epD,hoD,hdD,hcD⟩:=hn2.count (PySem.Within.cons name v hw);refine lO (wpAny_lookBehind hoD (by rw[hdD];exact pastItsLine_dict (mC hcD (by rw[mJ];omega))) ?_);exact lT (h _ ⟨(hs2.2 _ (mj I.ne)).trans I.obj,hn2,I.ne⟩ hs2)
theorem make_map{R:Result->Shared->Prop}{vs:List Value}{kw:List (Str×Value)}(X:K.In s.heap)(hm:W.makesIn K C=true)
  (hi:W.findIn K (.ref C) "__init__" = some (some (.ref f))) (hf:W.typeIn K (.ref f)=some (.type "function"))
  (h:codeAny (model prog w) (A.under (.builtin "type.__call__" ⟨.ref C::vs,kw⟩)) (.call (.ref f) ⟨.ref (s.heap.objs.size+1)::vs,kw⟩) (W.InitBack (s.heap.objs.size+1) R)
   { s with heap:=(s.heap.push W.emptyDict).push (W.instObj C s.heap.objs.size) }) :
  codeAny (model prog w) A (.call (.ref C) ⟨vs,kw⟩) R s:=by
 obtain⟨hh,g,d,t,os⟩:=s;exact W.make_core (W.makes_of X hm) (W.looks_findIn X hi) (fun self=>W.bind_fn X self hf) (.inl rfl) h
end
def YA(f:Str)(v:V):List (Str×V)->List (Str×V)
 |[]=>[(f,v)]
 | (g,x)::r=>if g=f then(g,v)::r else(g,x)::YA f v r
theorem zt(f g:Str)(v:V):∀fs:List (Str×V),(YA f v fs).lookup g=if g=f then some v else fs.lookup g
 |[]=>by
  show List.lookup g [(f,v)]=_
  by_cases h:g=f
  ·have hb:(g==f)=true:=pc.mpr h;simp only[List.lookup,hb,if_pos h]
  ·have hb:(g==f)=false:=oN.mpr h;simp only[List.lookup,hb,if_neg h]
 | (k,x)::r=>by
  have ih:=zt f g v r;rw[show YA f v ((k,x)::r)=(if k=f then(k,v)::r else(k,x)::YA f v r) from rfl]
  by_cases hk:k=f
  ·rw[if_pos hk]
   by_cases h:g=k
   ·have hb:(g==k)=true:=pc.mpr h;simp only[List.lookup,hb,if_pos (h.trans hk)]
   ·have hb:(g==k)=false:=oN.mpr h;simp only[List.lookup,hb,if_neg (fun e:g=f=>h (e.trans hk.symm))]
  ·rw[if_neg hk]
   by_cases h:g=k
   ·have hb:(g==k)=true:=pc.mpr h;simp only[List.lookup,hb,if_neg (fun e:g=f=>hk (h.symm.trans e))]
   ·have hb:(g==k)=false:=oN.mpr h;simp only[List.lookup,hb];exact ih
theorem qT(f:Str)(v:V):∀fs:List (Str×V),f∈(YA f v fs).map (·.1)/\∀g,g∈fs.map (·.1)->g∈(YA f v fs).map (·.1)
 |[]=>⟨by simp[YA],fun g h=>by simp at h⟩
 | (k,x)::r=>by
  obtain⟨i1,i2⟩:=qT f v r;rw[show YA f v ((k,x)::r)=(if k=f then(k,v)::r else(k,x)::YA f v r) from rfl]
  by_cases hk:k=f
  ·rw[if_pos hk];subst hk;exact⟨by simp,fun g h=>by simpa using h⟩
  ·rw[if_neg hk];refine⟨?_,fun g h=>?_⟩
   ·rw[lX];exact mi _ i1
   ·rw[lX] at h ⊢;rcases mw.mp h with e|e
    ·exact mw.mpr (.inl e)
    ·exact mi _ (i2 g e)
theorem zp(f:Str)(v:V):∀fs:List (Str×V),(YA f v fs).length<=fs.length+1
 |[]=>by simp[YA]
 | (k,x)::r=>by
  have ih:=zp f v r;rw[show YA f v ((k,x)::r)=(if k=f then(k,v)::r else(k,x)::YA f v r) from rfl]
  by_cases hk:k=f
  ·rw[if_pos hk,mJ,mJ];omega
  ·rw[if_neg hk,mJ,mJ];omega
theorem VF.some_of{v:V}{o:Option Value}(r:VF (some v) o):∃u,o=some u/\ZQ v u:=by
 cases o with
 |none=>exact(show False from r).elim
 |some u=>exact⟨u,rfl,r⟩
theorem VF.none_of{o:Option Value}(r:VF none o):o=none:=by
 cases o with
 |none=>rfl
 |some u=>exact(show False from r).elim
theorem handed_of{v:V}{u:Value}(r:ZQ v u):W.handedIn u=true:=by
 cases v with
 |non=>cases (show u=Value.none from r);rfl
 |bl b=>cases (show u=Value.bool b from r);rfl
 |int i=>obtain⟨t,e⟩:=(show ∃t,u=Value.int i t from r);cases e;rfl
 |str x=>obtain⟨t,e⟩:=(show ∃t,u=Value.str x t from r);cases e;rfl
 |byt b=>obtain⟨t,e⟩:=(show ∃t,u=Value.bytes b t from r);cases e;rfl
 |flt b=>obtain⟨t,e⟩:=(show ∃t,u=Value.float b t from r);cases e;rfl
 |ref a=>cases (show u=Value.ref a from r);rfl
 |ty n=>cases (show u=Value.type n from r);rfl
section
variable{P:Program}{w:World}{H H':Hp}{h h':Heap}{a C dx:Addr}{fs fs':List (Str×V)}
theorem zP(hok:HOk P w H h)(e:H a=some (.ins C dx fs)):∃mA,ObjM h a dx C mA/\(∀f,VF (fs.lookup f) (mA f))/\PySem.Within mA (fs.map (·.1))/\fs.length<=1000/\H dx=some (.own a):=by
 obtain⟨d,z,ne,ob,mA,n,r,q⟩:=(show YH P w H h a (.ins C dx fs) from hok a _ e);exact⟨mA,⟨ob,n,ne⟩,r,q,z,d⟩
end
structure Cls(K:W.Frag)(C:Addr):Prop where
 pg:W.plainGet K C Str.empty=true
 hd:W.hasDictIn K C=true
 po:W.plainOver K C=true
 sa:W.findIn K (.ref C) "__setattr__" = some (some (.builtin "object.__setattr__"))
theorem Cls.get{K:W.Frag}{C:Addr}(c:Cls K C)(f:Str):W.plainGet K C f=true:=c.pg
def Wz(K:W.Frag)(C:Addr)(f:Str):Prop:=W.findIn K (.ref C) f=some none
theorem Wz.taker{K:W.Frag}{C:Addr}{f:Str}(n:Wz K C f):W.takerIn K C f=some none:=by
 unfold W.takerIn;rw[show W.findIn K (.ref C) f=some none from n];rfl
structure U9(K:W.Frag)(C:Addr)(m:Str)(f:Addr):Prop where
 at_:W.findIn K (.ref C) m=some (some (.ref f))
 fn:W.isFn K (.ref f)=true
 kp:W.keepIn K (.ref f)=true
section
variable{X:Cx}{lL:List (Addr×Obj)}{σ:St}{H:Hp}{s:Shared}{a C dx:Addr}{fs:List (Str×V)}{f:Str}{v:V}{A:Around}{E:Value->Shared->Prop}
theorem JW{b:Bool}{Q:Value->Shared->Prop}(I:Inv X lL σ H s)(e:H a=some (.ins C dx fs))(c:Cls X.K C)(n:Wz X.K C f)(l:fs.lookup f=some v)
  (h:∀u s',Inv X lL σ H s'->ZQ v u->Q u s'):wpAny (model X.prog X.w) A (getAttr (.ref a) f b) Q E s:=by
 obtain⟨mA,O,r,_,_,_⟩:=zP I.hok e;obtain⟨u,hu,ru⟩:=VF.some_of (v:=v) (o:=mA f) (by rw[<- l];exact r f);exact get_map I.kIn O (c.get f) c.hd n hu (handed_of ru) (h u _ (I.tok _) ru)
theorem UT{m:Str}{g:Addr}{pl:Sem Bool}{Q:Value×List Value->Shared->Prop}(I:Inv X lL σ H s)(e:H a=some (.ins C dx fs))(c:Cls X.K C)(k:U9 X.K C m g)(l:fs.lookup m=none)
  (h:Q (.ref g,[.ref a]) s):wpAny (model X.prog X.w) A (getMethod (.ref a) m pl) Q E s:=by
 obtain⟨mA,O,r,_,_,_⟩:=zP I.hok e;have hn:mA m=none:=VF.none_of (by rw[<- l];exact r m);exact get_meth I.kIn O (c.get m) k.at_ k.fn hn h
theorem JT{y:V}{u:Value}{Q:Unit->Shared->Prop}(I:Inv X lL σ H s)(e:H a=some (.ins C dx fs))(c:Cls X.K C)(n:Wz X.K C f)(hl:fs.length<1000)(ry:ZQ y u)
  (h:∀s',Inv X lL σ (upd H a (.ins C dx (YA f y fs))) s'->Q () s'):wpAny (model X.prog X.w) A (setAttr (.ref a) f u) Q E s:=by
 obtain⟨mA,O,r,wi,_,ho⟩:=zP I.hok e;have hz:(fs.map (·.1)).length<=sizeLine:=by rw[lQ,lV];omega
 refine set_map I.kIn O c.sa c.po n.taker c.hd wi hz fun h' O' sb=>h _ ?_;have hd:∃o,h'.get? dx=some o:=let ⟨o,_,_,e',_⟩:=O'.ns; ⟨o,e'⟩
 refine I.write (x:=a) (e:=dx) (by rw[e];exact True.intro) (.inr ho) (fun b q hb z=>(sb.2 b hb).trans z) hd ?_;refine⟨by rw[ZB O.ne];exact ho,?_,O.ne,O'.obj,_,O'.ns,fun g=>?_,fun g hg=>?_⟩
 ·have:=zp f y fs;omega
 ·show VF ((YA f y fs).lookup g) (if g=f then some u else mA g)
  rw[zt]
  by_cases q:g=f
  ·rw[if_pos q,if_pos q];exact ry
  ·rw[if_neg q,if_neg q];exact r g
 ·by_cases q:g=f
  ·rw[q];exact(qT f y fs).1
  ·refine(qT f y fs).2 g (wi g fun z=>hg ?_)
   show(if g=f then some u else mA g)=none
   rw[if_neg q];exact z
theorem Inv.made(I:Inv X lL σ H s):Inv X lL σ (upd (upd H s.heap.objs.size (.own (s.heap.objs.size+1))) (s.heap.objs.size+1) (.ins C s.heap.objs.size []))
  { s with heap:=(s.heap.push W.emptyDict).push (W.instObj C s.heap.objs.size) }:=by
 have e1:(s.heap.push W.emptyDict).get? s.heap.objs.size=some W.emptyDict:=mD s.heap rfl;have e2:((s.heap.push W.emptyDict).push (W.instObj C s.heap.objs.size)).get? (s.heap.objs.size+1)=some (W.instObj C s.heap.objs.size):=by
  have:=mD (s.heap.push W.emptyDict) (o:=W.instObj C s.heap.objs.size) rfl
  rwa [ou] at this
 have e3:(s.heap.push W.emptyDict).Ns s.heap.objs.size (fun _=>none):=⟨W.emptyDict,#[],_,e1,rfl,(fun e he=>absurd he (by simp)),fun _=>rfl⟩;have I1:=I.laid (a:=s.heap.objs.size) (o:=.own (s.heap.objs.size+1)) (h':=s.heap.push W.emptyDict) (t':=s.toks) (fun b u q=>lZ _ q) (lS _) ⟨_,e1⟩;refine I1.laid (a:=s.heap.objs.size+1) (o:=.ins C s.heap.objs.size []) (t':=s.toks) (fun b u q=>lZ _ q) (Nat.le_of_eq (ou _ _)) ?_;have ne:s.heap.objs.size≠s.heap.objs.size+1:=me (oR _);refine⟨by rw[ZB ne,Zb],mN _,ne,e2,fun _=>none,(Heap.Ns1.of_empty e3).at fun o q=>lZ _ q,fun _=>True.intro,fun y hy=>absurd rfl hy⟩
theorem attr_of{prog:Program}{w:World}{env:Env}{e:Expr}{f:Str}{pos:Pos}{s:Shared}{Q:Value->Shared->Prop}(hb:attributeBase e f env (eval e env)=eval e env)
  (h:wpAny (model prog w) A (eval e env) (fun o s₁=>wpAny (model prog w) A (getAttr o f true) Q E s₁) E s):wpAny (model prog w) A (eval (.Attribute e f pos) env) Q E s:=
 Attribute_any_ h (by rw[arm_eval_Attribute,hb])
end
inductive FldR(K:W.Frag)(f:Str)(x:V)(H:Hp)(Q:VK):Prop
 |mk (a C dx:Addr) (fs:List (Str×V)) (v:V) (h1:x=.ref a) (h2:H a=some (.ins C dx fs)) (h3:Cls K C) (h4:Wz K C f) (h5:fs.lookup f=some v) (k:Q v H):FldR K f x H Q
def tFld(K:W.Frag)(ta:TE)(f:Str):TE:=fun σ H Q=>ta σ H fun x H1=>FldR K f x H1 Q
def sFld(K:W.Frag)(ta tv:TE)(f:Str):TS:=fun D σ H=>tv σ H fun y H1=>ta σ H1 fun x H2=>∃a C dx fs,x=.ref a/\H2 a=some (.ins C dx fs)/\Cls K C/\Wz K C f/\fs.length<1000 /\
 D.nx σ (upd H2 a (.ins C dx (YA f y fs)))
section
variable{X:Cx}{o e value:Expr}{f:Str}{pos pos' tpos:Pos}{ta tv:TE}
theorem pe_fld(he:PE X e ta)(hb:attributeBase e f X.env (eval e X.env)=eval e X.env):PE X (.Attribute e f pos) (tFld X.K ta f):=by
 intro lL s σ H Q I h;refine attr_of hb (thn (he lL s σ H _ I h) fun u s1 ⟨x,H1,I1,rx,a,C,dx,fs,v,ex,ea,c,n,l,q⟩=>?_);subst ex;obtain rfl:u=Value.ref a:=rx;exact JW I1 ea c n l fun u' s2 I2 ru=>⟨v,H1,I2,ru,q⟩
theorem U3(ha:PE X o ta)(hv:PE X value tv)(hs:swapsWith value (some (.Attribute o f pos')) pos.line X.env=pure false):PS X (.Assign [.Attribute o f pos'] value pos) (sFld X.K ta tv f):=by
 intro lL s σ H D I h;refine plainObj_wpAny_Assign_Attribute (thn (hv lL s σ H _ I h) fun u s1 ⟨y,H1,I1,ry,q⟩=>thn (ha lL s1 σ H1 _ I1 q) fun ov s2 ⟨x,H2,I2,rx,a,C,dx,fs,ex,ea,c,n,l,q2⟩=>?_) hs;subst ex;obtain rfl:ov=Value.ref a:=rx;exact JT I2 ea c n l ry fun s3 I3=>⟨σ,_,I3,q2⟩
theorem methcall_of{pl:Sem Bool}{m:Str}{apos:Pos}{args:List Expr}{lL:List (Addr×Obj)}{s:Shared}{σ:St}{H:Hp}{Q:Value->Shared->Prop}{te:TE}(he:PE X e te)(I:Inv X lL σ H s)
  (h:te σ H fun x H1=>∃a C dx fs g,x=.ref a/\H1 a=some (.ins C dx fs)/\Cls X.K C/\U9 X.K C m g/\fs.lookup m=none /\
   ∀s1,Inv X lL σ H1 s1->wpAny (model X.prog X.w) X.A (callWith pos (.ref g) [.ref a] (backTo pos (starEach args X.env)) (backToKw pos (keywordEach [] X.env))) Q X.xe s1)
  (ht:eval (.Call (.Attribute e m apos) args [] pos) X.env=(do
   let ov <- eval e X.env
   standAt apos.atName
   let (f,first) <- holding [ov] (getMethod ov m pl)
   callWith pos f first (backTo pos (starEach args X.env)) (backToKw pos (keywordEach [] X.env)))) :
  wpAny (model X.prog X.w) X.A (eval (.Call (.Attribute e m apos) args [] pos) X.env) Q X.xe s:=by
 refine r8 (pl:=pl) (thn (he lL s σ H _ I h) fun u s1 ⟨x,H1,I1,rx,a,C,dx,fs,g,ex,ea,c,k,l,q⟩=>?_) ht;subst ex;obtain rfl:u=Value.ref a:=rx;exact UT I1 ea c k l (q s1 I1)
end
section
variable{X:Cx}{lL:List (Addr×Obj)}{σ:St}{H:Hp}{s:Shared}{A:Around}{E:Value->Shared->Prop}{Q:Value->Shared->Prop}{c:Value}{b:Bool}
inductive UC(K:W.Frag)(H:Hp):V->Value->Prop where
 |non:UC K H .non (.type "NoneType")
 |bl (x:Bool):UC K H (.bl x) (.type "bool")
 |int (i:Int):UC K H (.int i) (.type "int")
 |str (x:Str):UC K H (.str x) (.type "str")
 |flt (x:UInt64):UC K H (.flt x) (.type "float")
 |lst {a:Addr}{xs:List V} (e:H a=some (.lst xs)):UC K H (.ref a) (.type "list")
 |frz {a:Addr}{o:Obj}{xs:List V} (e:H a=some (.frz o (.lst xs))):UC K H (.ref a) (.type "list")
 |tup {a:Addr}{xs:List V} (e:H a=some (.tup xs)):UC K H (.ref a) (.type "tuple")
 |dK {a:Addr}{kvs:List (Key×V)} (e:H a=some (.dK kvs)):UC K H (.ref a) (.type "dict")
 |dT {a:Addr}{kvs:List (List Key×V)} (e:H a=some (.dT kvs)):UC K H (.ref a) (.type "dict")
 |ins {a C dx:Addr}{fs:List (Str×V)} (e:H a=some (.ins C dx fs)) (cl:Cls K C) (ha:W.findIn K (.ref C) "__class__" = some (some (.builtin "object.__class__")))
   (hn:W.specialIn K (.builtin "object.__class__") "__get__" = some (some (.builtin "getset_descriptor.__get__"))) (htk:W.takesIn K (.builtin "object.__class__")=some true)
   (hm:W.mroIn K C (.type "object")=some true):UC K H (.ref a) (.ref C)
theorem vG{x:V}{u t:Value}(I:Inv X lL σ H s)(rx:ZQ x u)(ty:UC X.K H x t)(e:W.kitOne X.K t c=some b)(h:∀tk,Q (.bool b) { s with toks:=tk }) :
  wpAny (model X.prog X.w) A (call (.builtin "isinstance") [u,c]) Q E s:=by
 cases ty with
 |non=>cases (show u=Value.none from rx);exact nJ W.kitx_none I.kIn True.intro e (fun z=>nomatch z) h
 |bl y=>cases (show u=Value.bool y from rx);exact nJ W.kitx_bool I.kIn True.intro e (fun z=>nomatch z) h
 |int i=>obtain⟨t,q⟩:=(show ∃t,u=Value.int i t from rx);cases q;exact nJ W.kitx_int I.kIn True.intro e (fun z=>nomatch z) h
 |str y=>obtain⟨t,q⟩:=(show ∃t,u=Value.str y t from rx);cases q;exact nJ W.kitx_str I.kIn True.intro e (fun z=>nomatch z) h
 |flt y=>obtain⟨t,q⟩:=(show ∃t,u=Value.float y t from rx);cases q;exact nJ W.kitx_float I.kIn True.intro e (fun z=>nomatch z) h
 |@lst a xs ea=>
  cases (show u=Value.ref a from rx);obtain⟨_,_,n,_,h1⟩:=(show YH X.prog X.w H s.heap a (.lst xs) from I.hok a _ ea);exact nJ W.kitx_list I.kIn ⟨_,h1,rfl⟩ e (fun z=>nomatch z) h
 |@frz a ob xs ea=>
  cases (show u=Value.ref a from rx);obtain⟨_,_,_,n,_,h1⟩:=(show YH X.prog X.w H s.heap a (.frz ob (.lst xs)) from I.hok a _ ea);exact nJ W.kitx_list I.kIn ⟨_,h1,rfl⟩ e (fun z=>nomatch z) h
 |@tup a xs ea=>
  cases (show u=Value.ref a from rx);obtain⟨_,_,_,p⟩:=(show YH X.prog X.w H s.heap a (.tup xs) from I.hok a _ ea);obtain⟨o,h1,h2,_⟩:=p;exact nJ W.kitx_tuple I.kIn ⟨o,h1,h2⟩ e (fun z=>nomatch z) h
 |@dK a kvs ea=>
  cases (show u=Value.ref a from rx);obtain⟨_,_,vs,_,p⟩:=(show YH X.prog X.w H s.heap a (.dK kvs) from I.hok a _ ea);obtain⟨o,es,ep,h1,h2,_⟩:=p;exact nJ W.kitx_dict I.kIn ⟨o,h1,h2.1⟩ e (fun z=>nomatch z) h
 |@dT a kvs ea=>
  cases (show u=Value.ref a from rx);obtain⟨_,_,xs,_,o,es,ep,h1,h2,_⟩:=(show YH X.prog X.w H s.heap a (.dT kvs) from I.hok a _ ea);exact nJ W.kitx_dict I.kIn ⟨o,h1,h2.1⟩ e (fun z=>nomatch z) h
 |@ins a C dx fs ea cl ha hn htk hm=>
  cases (show u=Value.ref a from rx);obtain⟨mA,O,_⟩:=zP I.hok ea;obtain⟨od,J,_⟩:=O.look;exact nJ (W.kitx_own (cl.get _) cl.hd ha hn htk hm) I.kIn J e (fun z=>nomatch z) h
end
structure Xz(k:Nat)(A:Around):Prop where
 hd:A.handled=none
 dp:A.depth+3*k+5<recursionLimit
 un:A.units+16*k+200<cLine
theorem Xz.mono{j k:Nat}{A:Around}(r:Xz k A)(h:j<=k):Xz j A:=⟨r.hd,by have:=r.dp;omega,by have:=r.un;omega⟩
theorem Xz.deeper{k:Nat}{A:Around}(r:Xz (k+1) A)(env:Env):Xz k (A.deeper env):=
 ⟨r.hd,by have:=r.dp;show A.depth+1+3*k+5<_;omega,by have:=r.un;show A.units+3+16*k+200<_;omega⟩
theorem Jx{A:Around}{C:Addr}{us:List Value}{kw:List (Str×Value)}:(A.under (.builtin "type.__call__" ⟨.ref C::us,kw⟩)).depth=A.depth+1:=by
 first|rfl|simp[Around.under,Code.weight,Code.isCreation,Code.isGuard,Code.isCaller,Code.frames,Code.isFrame,guardIds]
theorem JJ{A:Around}{C:Addr}{us:List Value}{kw:List (Str×Value)}:(A.under (.builtin "type.__call__" ⟨.ref C::us,kw⟩)).units=A.units+1:=by
 first|rfl|simp[Around.under,Code.cUnits,Code.frames,Code.isFrame]
theorem Xz.make{k:Nat}{A:Around}(r:Xz (k+1) A)(C:Addr)(us:List Value)(kw:List (Str×Value)):Xz k (A.under (.builtin "type.__call__" ⟨.ref C::us,kw⟩)):=
 ⟨r.hd,by have:=r.dp;rw[Jx];omega,by have:=r.un;rw[JJ];omega⟩
theorem Xz.depth{k:Nat}{A:Around}(r:Xz k A):A.depth<recursionLimit:=by have:=r.dp;omega
theorem Xz.units{k:Nat}{A:Around}(r:Xz k A):A.units+64<cLine:=by have:=r.un;omega
theorem Xz.units0{k:Nat}{A:Around}(r:Xz k A):A.units<cLine:=by have:=r.un;omega
def tNil:TA:=fun _ H Q=>Q [] H
def xV(ta:TE)(tr:TA):TA:=fun σ H Q=>ta σ H fun x H1=>tr σ H1 fun xs H2=>Q (x::xs) H2
section
variable{X:Cx}{e:Expr}{es:List Expr}{te:TE}{t:TA}{pos:Pos}
theorem Xd:PA X [] tNil:=fun _ _ _ _ H Q I h=>Calls.spliced_nil ⟨[],H,I,.nil,h⟩
theorem Zk(ha:PE X e te)(hr:PA X es t)(hs:starEach (e::es) X.env=(false,eval e X.env)::starEach es X.env:=by rfl):PA X (e::es) (xV te t):=by
 intro pos lL s σ H Q I h;rw[hs]
 show wpAny _ _ (spliced ((false,eval e X.env)::backTo pos (starEach es X.env))) _ _ s
 refine Calls.spliced_cons (thn (ha lL s σ H _ I h) fun u s1 ⟨x,H1,I1,r1,q1⟩=>?_);exact thn (hr pos lL s1 σ H1 _ I1 q1) fun us s2 ⟨xs,H2,I2,r2,q2⟩=>⟨x::xs,H2,I2,.cons r1 r2,q2⟩
inductive NewR(xs:List V)(o:HO)(H:Hp)(Q:VK):Prop
 |mk (z:xs.length<=sizeLine) (k:∀p,H p=none->Q (.ref p) (upd H p o)):NewR xs o H Q
def tTup(t:TA):TE:=fun σ H Q=>t σ H fun xs H1=>NewR xs (.tup xs) H1 Q
def tLst(t:TA):TE:=fun σ H Q=>t σ H fun xs H1=>NewR xs (.lst xs) H1 Q
theorem ZJ{x1}(h:PA X es t):PE X (.Tuple es x1 pos) (tTup t):=by
 intro lL s σ H Q I hq;refine wpAny_Tuple_spliced (thn (h pos lL s σ H _ I hq) fun us s1 ⟨xs,H1,I1,r,z,q⟩=>⟨by rw[<- r.length];exact z,?_⟩);have hf:H1 s1.heap.objs.size=none:=I1.hok.fresh (lS _);refine⟨.ref s1.heap.objs.size,upd H1 s1.heap.objs.size (.tup xs),I1.laid (t':=s1.toks) (fun b u e=>lZ _ e) (lS _) ?_,rfl,q _ hf⟩;exact⟨z,us,r,⟨_,mD _ rfl,rfl,_,rfl⟩⟩
theorem Yc(h:PA X es t):PE X (.List es pos) (tLst t):=by
 intro lL s σ H Q I hq;refine wpAny_List_spliced (thn (h pos lL s σ H _ I hq) fun us s1 ⟨xs,H1,I1,r,z,q⟩=>⟨by rw[<- r.length];exact z,?_⟩);have hf:H1 s1.heap.objs.size=none:=I1.hok.fresh (lS _);refine⟨.ref s1.heap.objs.size,upd H1 s1.heap.objs.size (.lst xs),I1.laid (t':=s1.toks) (fun b u e=>lZ _ e) (lS _) ?_,rfl,q _ hf⟩;exact⟨z,us,0,r,mD _ rfl⟩
end
abbrev Sp:=List V->Hp->VK->XK->Prop
abbrev CXT:=List Env->Hp->Shared->XK->Value->Shared->Prop
structure Env0(P:Program)(w:World)(K:W.Frag)(mg:Str->Option Value)(base:Heap)(A:Around)(outer:List Env)(s:Shared)(H:Hp):Prop where
 frames:A.frames=some outer
 mod:Mod K mg base
 bs:∀b o,base.get? b=some o->s.heap.get? b=some o/\H b=none
 bsz:base.objs.size<=s.heap.objs.size
 funs:s.heap.FunFrames base outer
 frf:∀b∈frs outer,H b=none
 hok:HOk P w H s.heap
 bare:AllBare s.gens
def CE(outer:List Env)(P:Program)(w:World)(H:Hp)(s:Shared)(Q:VK)(u:Value)(s':Shared):Prop:=
 ∃v H',s'.os=s.os/\AllBare s'.gens/\Un (frs outer) [] H H' s.heap s'.heap/\HOk P w H' s'.heap/\ZQ v u/\Q v H'
def CR(CX:CXT)(outer:List Env)(P:Program)(w:World)(H:Hp)(s:Shared)(Q:VK)(E:XK)(r:Result)(s':Shared):Prop:=
 match r with
 |.ok (.ret u)=>CE outer P w H s Q u s'
 |.ok _=>False
 |.error e=>CX outer H s E e s'
structure Z2(P:Program)(w:World)(K:W.Frag)(mg:Str->Option Value)(base:Heap)(CX:CXT)(k:Nat)(f:Addr)(fd:FuncData)(ps:List Str)(sp:Sp):Prop where
 len:∀vs H Q E,sp vs H Q E->vs.length=ps.length
 run:∀(A:Around) (outer:List Env) (s:Shared) (H:Hp) (args:Args) (us:List Value) (vs:List V) (Q:VK) (E:XK),Xz k A->Env0 P w K mg base A outer s H->BindsTo s fd args (ps.zip us)->ZH vs us->sp vs H Q E ->
  codeAny (model P w) A (.call (.ref f) args) (CR CX outer P w H s Q E) s
theorem Env0.make{P:Program}{w:World}{K:W.Frag}{mg:Str->Option Value}{base:Heap}{A:Around}{outer:List Env}{s:Shared}{H:Hp}(e:Env0 P w K mg base A outer s H)(C:Addr)(us:List Value)(kw:List (Str×Value)) :
  Env0 P w K mg base (A.under (.builtin "type.__call__" ⟨.ref C::us,kw⟩)) outer s H:=⟨by first|exact e.frames|(simpa[Around.under,Code.envs,Code.isFrame,pushEnvs] using e.frames),e.mod,e.bs,e.bsz,e.funs,e.frf,e.hok,e.bare⟩
section
variable{X:Cx}{lL:List (Addr×Obj)}{σ:St}{H:Hp}{s s':Shared}
theorem Inv.env0(I:Inv X lL σ H s):Env0 X.prog X.w X.K X.mg X.base X.A X.stack s H:=
 ⟨I.ok.frames,I.ok.mod,I.bs,mC I.ok.bsz I.sz,I.stack,I.stkFree,I.hok,I.bare⟩
theorem Inv.after{Q:VK}{u:Value}(I:Inv X lL σ H s)(h:CE X.stack X.prog X.w H s Q u s'):EP X lL σ Q u s':=by
 obtain⟨v,H',os,bare,un,hok,r,q⟩:=h;obtain⟨hh,g,d,t,os'⟩:=s';obtain rfl:os'=s.os:=os;exact⟨v,H',I.call (h':=hh) (g':=g) (d':=d) (t':=t) (ch:=[]) un hok bare (fun b z=>absurd z (by simp)),r,q⟩
end
def tCall(sp:Sp)(dvs:List V)(E:XK)(t:TA):TE:=fun σ H Q=>t σ H fun vs H1=>sp (vs++dvs) H1 Q E
inductive MethR(C:Addr)(m:Str)(x:V)(H:Hp)(B:Prop):Prop
 |mk (a dx:Addr) (fs:List (Str×V)) (h1:x=.ref a) (h2:H a=some (.ins C dx fs)) (h3:fs.lookup m=none) (k:B):MethR C m x H B
def tMeth(C:Addr)(m:Str)(sp:Sp)(dvs:List V)(E:XK)(ta:TE)(t:TA):TE:=fun σ H Q=>ta σ H fun x H1=>MethR C m x H1 (t σ H1 fun vs H2=>sp (x::(vs++dvs)) H2 Q E)
def tMake(C:Addr)(sp:Sp)(dvs:List V)(E:XK)(t:TA):TE:=fun σ H Q=>t σ H fun vs H1=>∀x dx,H1 x=none->H1 dx=none->dx≠x ->
 sp (.ref x::(vs++dvs)) (upd (upd H1 dx (.own x)) x (.ins C dx [])) (fun v H2=>v=.non/\Q (.ref x) H2) E
def ZK(K:W.Frag)(fd:FuncData)(ps:List Str)(ds:List Value):Prop:=
 ∀(s:Shared) (us:List Value),K.In s.heap->(us++ds).length=ps.length->BindsTo s fd ⟨us,[]⟩ (ps.zip (us++ds))
theorem ZK.all{K:W.Frag}{fd:FuncData}{ps:List Str}(h:∀us:List Value,us.length=ps.length->bindArgs fd ⟨us,[]⟩=pure (ps.zip us)):ZK K fd ps []:=fun s us _ hl=>by
 rw[nW] at hl ⊢;exact .of_eq (h us hl)
def VV(CX:CXT)(X:Cx)(E:XK):Prop:=∀(lL:List (Addr×Obj)) (σ:St) (H:Hp) (s:Shared) (e:Value) (s':Shared),Inv X lL σ H s->CX X.stack H s E e s'->X.xe e s'
section
variable{X:Cx}{CX:CXT}{k:Nat}{f C:Addr}{fd:FuncData}{ps:List Str}{sp:Sp}{dvs:List V}{ds:List Value}{E:XK}{x m:Str}{p pos apos:Pos}{e o:Expr}{es:List Expr}{ta:TE}{t:TA}
theorem vJ{lL:List (Addr×Obj)}{σ:St}{H:Hp}{s:Shared}{Q:VK}{us:List Value}{vs:List V}(F:Z2 X.prog X.w X.K X.mg X.base CX k f fd ps sp)(hr:Xz k X.A)(hb:ZK X.K fd ps ds)(hd:ZH dvs ds)(hx:VV CX X E)
  (I:Inv X lL σ H s) (r:ZH vs us) (h:sp (vs++dvs) H Q E):wpAny (model X.prog X.w) X.A (call (.ref f) us) (EP X lL σ Q) X.xe s:=by
 have r2:ZH (vs++dvs) (us++ds):=r.append hd;have hl:(us++ds).length=ps.length:=by rw[<- r2.length];exact F.len _ _ _ _ h
 refine wpAny_call (oS (F.run X.A X.stack s H ⟨us,[]⟩ (us++ds) (vs++dvs) Q E hr I.env0 (hb s us I.kIn hl) r2 h) fun r s' hq=>?_);cases r with
 |error e=>exact hx lL σ H s e s' I hq
 |ok fl=>
  cases fl with
  |ret u=>exact I.after hq
  |next=>exact False.elim hq
  |brk=>exact False.elim hq
  |cont=>exact False.elim hq
theorem Zl(F:Z2 X.prog X.w X.K X.mg X.base CX k f fd ps sp)(hr:Xz k X.A)(hg:Gl X x)(hm:X.mg x=some (.ref f))(hk:W.keepIn X.K (.ref f)=true)(hb:ZK X.K fd ps ds)(hd:ZH dvs ds)(hx:VV CX X E)
  (ha:PA X (e::es) t) (hdb:(x==("__debug__" : Str))=false:=by decide) (he:starEach (e::es) X.env=(false,eval e X.env)::starEach es X.env:=by rfl) (hpl:(backTo pos (starEach es X.env)).any (·.1)=false:=by rfl) :
  PE X (.Call (.Name x p) (e::es) [] pos) (tCall sp dvs E t):=by
 intro lL s σ H Q I h;refine ox (zM I hg hm ?_ hdb);refine rE (h₀:=X.base) I.ok.mod.kin hk (thn (ha pos lL s σ H _ I h) fun us s1 ⟨vs,H1,I1,r,q⟩=>⟨I1.kIn,?_⟩) he hpl;exact vJ F hr hb hd hx I1 r q
theorem Vs{pl:Sem Bool}(he:PE X o ta)(c:Cls X.K C)(hm:U9 X.K C m f)(F:Z2 X.prog X.w X.K X.mg X.base CX k f fd ps sp)(hr:Xz k X.A)(hb:ZK X.K fd ps ds)(hd:ZH dvs ds)(hx:VV CX X E)(ha:PA X (e::es) t)
  (hst:starEach (e::es) X.env=(false,eval e X.env)::starEach es X.env:=by rfl) (hpl:(backTo pos (starEach es X.env)).any (·.1)=false:=by rfl)
  (ht:eval (.Call (.Attribute o m apos) (e::es) [] pos) X.env=(do
   let ov <- eval o X.env
   standAt apos.atName
   let (f,first) <- holding [ov] (getMethod ov m pl)
   callWith pos f first (backTo pos (starEach (e::es) X.env)) (backToKw pos (keywordEach [] X.env))):=by rfl) :
  PE X (.Call (.Attribute o m apos) (e::es) [] pos) (tMeth C m sp dvs E ta t):=by
 intro lL s σ H Q I h;refine r8 (pl:=pl) (thn (he lL s σ H _ I h) fun u s1 ⟨x,H1,I1,rx,a,dx,fs,ex,ea,l,q⟩=>?_) ht;subst ex;obtain rfl:u=Value.ref a:=rx;refine UT I1 ea c hm l ?_;refine rE (first:=[.ref a]) (h₀:=X.base) I.ok.mod.kin hm.kp (thn (ha pos lL s1 σ H1 _ I1 q) fun us s2 ⟨vs,H2,I2,r,q2⟩=>⟨I2.kIn,?_⟩) hst hpl;exact vJ (us:=.ref a::us) (vs:=.ref a::vs) F hr hb hd hx I2 (.cons rfl r) q2
theorem Uj{pl:Sem Bool}(he:PE X o ta)(c:Cls X.K C)(hm:U9 X.K C m f)(F:Z2 X.prog X.w X.K X.mg X.base CX k f fd ps sp)(hr:Xz k X.A)(hb:ZK X.K fd ps ds)(hd:ZH dvs ds)(hx:VV CX X E)
  (ht:eval (.Call (.Attribute o m apos) [] [] pos) X.env=(do
   let ov <- eval o X.env
   standAt apos.atName
   let (f,first) <- holding [ov] (getMethod ov m pl)
   callWith pos f first (backTo pos (starEach [] X.env)) (backToKw pos (keywordEach [] X.env))):=by rfl) :
  PE X (.Call (.Attribute o m apos) [] [] pos) (tMeth C m sp dvs E ta tNil):=by
 intro lL s σ H Q I h;refine r8 (pl:=pl) (thn (he lL s σ H _ I h) fun u s1 ⟨x,H1,I1,rx,a,dx,fs,ex,ea,l,q⟩=>?_) ht;subst ex;obtain rfl:u=Value.ref a:=rx;refine UT I1 ea c hm l ?_;exact W.callWith_K0 (first:=[.ref a]) I1.kIn hm.kp (vJ (us:=[.ref a]) (vs:=[.ref a]) F hr hb hd hx I1 (.cons rfl .nil) q)
structure Mk(K:W.Frag)(C f:Addr):Prop where
 makes:W.makesIn K C=true
 init:W.findIn K (.ref C) "__init__" = some (some (.ref f))
 fn:W.isFn K (.ref f)=true
 kp:W.keepIn K (.ref C)=true
theorem kP{lL:List (Addr×Obj)}{σ:St}{H:Hp}{s:Shared}{Q:VK}{us:List Value}{vs:List V}(M:Mk X.K C f)(F:Z2 X.prog X.w X.K X.mg X.base CX k f fd ps sp)(hr:Xz (k+1) X.A)(hb:ZK X.K fd ps ds)(hd:ZH dvs ds)
  (hx:VV CX X E) (I:Inv X lL σ H s) (r:ZH vs us)
  (h:∀x dx,H x=none->H dx=none->dx≠x->sp (.ref x::(vs++dvs)) (upd (upd H dx (.own x)) x (.ins C dx [])) (fun v H2=>v=.non/\Q (.ref x) H2) E) :
  wpAny (model X.prog X.w) X.A (call (.ref C) us) (EP X lL σ Q) X.xe s:=by
 have hq:=h (s.heap.objs.size+1) s.heap.objs.size (I.hok.fresh (oy _)) (I.hok.fresh (lS _)) (me (oR _));have I2:=Inv.made (C:=C) I;have r2:ZH (V.ref (s.heap.objs.size+1)::(vs++dvs)) (Value.ref (s.heap.objs.size+1)::(us++ds)):=.cons rfl (r.append hd);have hl:(Value.ref (s.heap.objs.size+1)::us++ds).length=ps.length:=by
  have e:=r2.length;rw[F.len _ _ _ _ hq] at e;exact e.symm
 refine wpAny_call (make_map (f:=f) I.kIn M.makes M.init (pc.mp M.fn) (oS (F.run _ X.stack _ _ ⟨Value.ref (s.heap.objs.size+1)::us,[]⟩ (Value.ref (s.heap.objs.size+1)::(us++ds)) _ _ E (hr.make C us [])
  (I2.env0.make C us []) (hb _ (Value.ref (s.heap.objs.size+1)::us) I2.kIn hl) r2 hq) fun r s' hq'=>?_))
 cases r with
 |error e=>exact hx lL σ _ _ e s' I2 hq'
 |ok fl=>
  cases fl with
  |ret u=>
   obtain⟨v,H',I3,rv,ev,q3⟩:=I2.after hq';subst ev;exact⟨rv,⟨V.ref (s.heap.objs.size+1),H',I3,rfl,q3⟩⟩
  |next=>exact False.elim hq'
  |brk=>exact False.elim hq'
  |cont=>exact False.elim hq'
theorem pe_make(M:Mk X.K C f)(F:Z2 X.prog X.w X.K X.mg X.base CX k f fd ps sp)(hr:Xz (k+1) X.A)(hg:Gl X x)(hm:X.mg x=some (.ref C))(hb:ZK X.K fd ps ds)(hd:ZH dvs ds)(hx:VV CX X E)
  (ha:PA X (e::es) t) (hdb:(x==("__debug__" : Str))=false:=by decide) (he:starEach (e::es) X.env=(false,eval e X.env)::starEach es X.env:=by rfl) (hpl:(backTo pos (starEach es X.env)).any (·.1)=false:=by rfl) :
  PE X (.Call (.Name x p) (e::es) [] pos) (tMake C sp dvs E t):=by
 intro lL s σ H Q I h;refine ox (zM I hg hm ?_ hdb);refine rE (h₀:=X.base) I.ok.mod.kin M.kp (thn (ha pos lL s σ H _ I h) fun us s1 ⟨vs,H1,I1,r,q⟩=>⟨I1.kIn,?_⟩) he hpl;exact kP M F hr hb hd hx I1 r q
theorem kf(M:Mk X.K C f)(F:Z2 X.prog X.w X.K X.mg X.base CX k f fd ps sp)(hr:Xz (k+1) X.A)(hg:Gl X x)(hm:X.mg x=some (.ref C))(hb:ZK X.K fd ps ds)(hd:ZH dvs ds)(hx:VV CX X E)
  (hdb:(x==("__debug__" : Str))=false:=by decide):PE X (.Call (.Name x p) [] [] pos) (tMake C sp dvs E tNil):=by
 intro lL s σ H Q I h;refine ox (zM I hg hm ?_ hdb);exact W.callWith_K0 I.kIn M.kp (kP (us:=[]) M F hr hb hd hx I .nil h)
end
section
variable{X:Cx}{CX:CXT}{k:Nat}{f C:Addr}{fd:FuncData}{ps ks:List Str}{sp:Sp}{E:XK}{x m:Str}{p pos apos kpos:Pos}{e o:Expr}{es:List Expr}{kws:List Keyword}{te ta:TE}{t tk:TA}{nm:Option Str}
variable{g:List Value->List Value->List Value}{gV:List V->List V->List V}
end
structure Zu(N P:List Str)(sc:Scope):Prop where
 kind:sc.kind=.function
 co:sc.isCoroutine=false
 gen:sc.isGenerator=false
 nd:N.Nodup
 pre:N.take P.length=P
 par:∀x∈P,sc.names.lookup x=some .local\/sc.names.lookup x=some .cell
 nofree:∀y∈sc.names,y.2≠.free
theorem vc{kindOf:Str->Option NameKind}{x:Str}:∀{binds:List (Str×Value)}{m:Str->Option Value},(∀v,(x,v)∉binds)->bindL kindOf binds m x=m x
 |[],_,_=>rfl
 | (n,v)::r,m,h=>by
  unfold bindL;rw[vc fun w hw=>h w (mi _ hw)]
  split
  ·have:x≠n:=by rintro rfl;exact h v oO
   simp[this]
  ·rfl
theorem vz{kindOf:Str->Option NameKind}{x:Str}:∀{binds:List (Str×Value)}{m:Str->Option Value},(∀v,(x,v)∉binds)->bindC kindOf binds m x=m x
 |[],_,_=>rfl
 | (n,v)::r,m,h=>by
  unfold bindC;rw[vz fun w hw=>h w (mi _ hw)]
  split
  ·rfl
  ·have:x≠n:=by rintro rfl;exact h v oO
   simp[this]
theorem vi{kindOf:Str->Option NameKind}{x:Str}{v:Value}:∀{P:List Str}{vs:List Value}{i:Nat}{m:Str->Option Value},P.Nodup->P[i]?=some x->vs[i]?=some v->kindOf x=some .local ->
  bindL kindOf (P.zip vs) m x=some v
 |[],_,_,_,_,h,_,_=>by simp at h
 |_::_,[],_,_,_,_,h,_=>by simp at h
 |p::P,w::vs,0,m,nd,h1,h2,hk=>by
  simp at h1 h2;subst h1;subst h2
  show bindL kindOf ((p,w)::P.zip vs) m p=_
  unfold bindL;rw[vc fun v hv=>(oz.mp nd).1 (oA hv).1,if_pos hk];simp
 |p::P,w::vs,i+1,m,nd,h1,h2,hk=>by
  show bindL kindOf ((p,w)::P.zip vs) m x=_
  unfold bindL;exact vi (i:=i) (oz.mp nd).2 (by simpa using h1) (by simpa using h2) hk
theorem xQ{kindOf:Str->Option NameKind}{x:Str}{v:Value}:∀{P:List Str}{vs:List Value}{i:Nat}{m:Str->Option Value},P.Nodup->P[i]?=some x->vs[i]?=some v->kindOf x≠some .local ->
  bindC kindOf (P.zip vs) m x=some v
 |[],_,_,_,_,h,_,_=>by simp at h
 |_::_,[],_,_,_,_,h,_=>by simp at h
 |p::P,w::vs,0,m,nd,h1,h2,hk=>by
  simp at h1 h2;subst h1;subst h2
  show bindC kindOf ((p,w)::P.zip vs) m p=_
  unfold bindC;rw[vz fun v hv=>(oz.mp nd).1 (oA hv).1,if_neg hk];simp
 |p::P,w::vs,i+1,m,nd,h1,h2,hk=>by
  show bindC kindOf ((p,w)::P.zip vs) m x=_
  unfold bindC;exact xQ (i:=i) (oz.mp nd).2 (by simpa using h1) (by simpa using h2) hk
def zC(N:List Str)(vs:List V):St:=vs.map some++List.replicate (N.length-vs.length) none
def cxOf(CX:CXT)(P:Program)(w:World)(K:W.Frag)(mg:Str->Option Value)(base:Heap)(N:List Str)(qual:Str)(scope:Scope)(f:Addr)(cd:Value)(A:Around)(outer:List Env)(s:Shared)(H:Hp)(E:XK):Cx where
 prog:=P
 w:=w
 K:=K
 mg:=mg
 base:=base
 A:=A.deeper (envOfC qual scope s.heap.objs.size f cd)
 N:=N
 s₀:=s
 H₀:=H
 env:=envOfC qual scope s.heap.objs.size f cd
 outer:=outer
 stack:=envOfC qual scope s.heap.objs.size f cd::outer
 ex:=[]
 calm:=true
 fn:=fun _=>true
 pn:=[]
 xe:=fun e s'=>wpAny (model P w) (A.deeper (envOfC qual scope s.heap.objs.size f cd)) (leaving (envOfC qual scope s.heap.objs.size f cd) e) (fun _ s''=>CX outer H s E e s'') (fun e' s''=>CX outer H s E e' s'') s'
theorem jU{sc:Scope}{n:Nat}{x:Str}(h:sc.names.lookup x=some .cell):∃c,(cellsFrom n sc.names []).lookup x=some c:=by
 have q:=W.cellsFrom_some sc.names n [] (.inl h);exact rF.mp q
theorem inv_start{CX:CXT}{P:Program}{w:World}{K:W.Frag}{mg:Str->Option Value}{base:Heap}{N ps:List Str}{qual:Str}{scope:Scope}{f:Addr}{cd:Value}{A:Around}{outer:List Env}{s s1:Shared}{H:Hp}{E:XK}{us:List Value}{vs:List V}
  (S:Zu N ps scope) (hd:A.handled=none) (e0:Env0 P w K mg base A outer s H) (hl:vs.length=ps.length) (r:ZH vs us)
  (x:InCallC s s.heap.objs.size (bindL (envOfC qual scope s.heap.objs.size f cd).kindOf (ps.zip us) fun _=>none) (cellsFrom (s.heap.objs.size+1) scope.names []) (bindC (envOfC qual scope s.heap.objs.size f cd).kindOf (ps.zip us) fun _=>none) s1) :
  Inv (cxOf CX P w K mg base N qual scope f cd A outer s H E) [] (zC N vs) H s1:=by
 have hpl:ps.length<=N.length:=by have:=my List.length S.pre;rw[mf] at this;omega
 obtain⟨h1,tk,rfl,hk⟩:=x.done;have noA:∀b:Addr,b∉(cxOf CX P w K mg base N qual scope f cd A outer s H E).ex:=fun b z=>absurd (show b∈([]:List Addr) from z) (by simp);refine⟨⟨e0.mod,S.kind,rfl,rfl,lS _,fun y z c h1 h2=>?_,fun y hy=>?_,fun y c _ h=>?_,fun _=>hd,Around.frames_deeper e0.frames,.inr ⟨rfl,rfl⟩,fun b z=>absurd z (noA b),e0.bs,e0.bsz,fun b _ _=>noA b,fun b z=>absurd z (noA b),e0.funs,e0.frf⟩,
  rfl,e0.bare,Un.kept hk,⟨_,x.toInCall.ns,fun i y v h1 h2 h3=>?_⟩,fun y c h=>⟨_,x.cell y c h⟩,e0.hok.fresh (lS _),fun y c h=>?_,fun p hp=>absurd (show p∈([]:List (Addr×Obj)) from hp) (by simp),e0.hok.kept hk,?_⟩
 ·exact name_of_addr x.apart (nX h1) (nX h2)
 ·have hy:scope.names.lookup y=some .cell\/scope.names.lookup y=some .free:=hy;rcases hy with hy|hy
  ·exact jU hy
  ·exact absurd rfl (S.nofree _ (nX hy))
 ·exact nI (x.above y c (nX h))
 ·have hi:i<vs.length:=by
   unfold zC at h2
   by_cases hi:i<vs.length
   ·exact hi
   ·rw[mW (by simpa using hi)] at h2;rw[List.getElem?_replicate] at h2
    split at h2<;>cases h2
  have ha:vs[i]?=some v:=by
   unfold zC at h2;rw[mQ (by simpa using hi),mh] at h2;cases e:vs[i]? with
   |none=>rw[e] at h2;cases h2
   |some a=>rw[e] at h2;cases h2;rfl
  obtain⟨u,hu,rv⟩:=r.get ha;have hp:ps[i]?=some y:=by
   rw[<- S.pre,rG (by omega)];exact h1
  have ndP:ps.Nodup:=by rw[<- S.pre];exact S.nd.sublist (List.take_sublist _ _)
  refine⟨u,rv,?_⟩;rcases S.par y (mM hp) with k|k
  ·exact .inl ⟨k,vi ndP hp hu k⟩
  ·obtain⟨c,e⟩:=jU (n:=s.heap.objs.size+1) k;refine .inr ⟨.inl k,c,e,?_⟩;have q:=x.cell y c e;rw[xQ ndP hp hu (by show scope.names.lookup y≠_;rw[k];decide)] at q;exact q
 ·exact e0.hok.fresh (nI (x.above y c (nX h)))
 ·unfold zC
  show _=N.length
  rw[lW,lQ,List.length_replicate];omega
theorem fn_of{CX:CXT}{P:Program}{w:World}{K:W.Frag}{mg:Str->Option Value}{base:Heap}{k:Nat}{f:Addr}{name qual:Str}{params:Arguments}{body:List Stmt}{scope:Scope}{dV kV doc pm lM ct oc:Value}{an od:Option Addr}
  {osl:Array (Option Value)}{N ps:List Str}{sp:Sp} (lk:K.lookup f=some ⟨oc,od,.func (W.fnOf name qual params body scope dV kV doc pm an lM ct),osl⟩) (hcd:W.codeIn K lM qual=true) (S:Zu N ps scope)
  (len:∀vs H Q E,sp vs H Q E->vs.length=ps.length)
  (hbody:∀(A:Around) (outer:List Env) (s:Shared) (H:Hp) (vs:List V) (Q:VK) (E:XK),Xz k (A.deeper (envOfC qual scope s.heap.objs.size f lM))->sp vs H Q E ->
   ∃t,PSs (cxOf CX P w K mg base N qual scope f lM A outer s H E) body t/\t { nx:=fun _ H'=>Q .non H',rt:=Q } (zC N vs) H) :
  Z2 P w K mg base CX (k+1) f (W.fnOf name qual params body scope dV kV doc pm an lM ct) ps sp:=by
 refine⟨len,fun A outer s H args us vs Q E hr e0 hb r hsp=>?_⟩;have hl:=len _ _ _ _ hsp;have KX:K.In s.heap:=e0.mod.kin.keeps fun b o e=>(e0.bs b o e).1;have lim:s.heap.NoLimit:=e0.mod.nolimit.keeps fun b o e=>(e0.bs b o e).1;have hkind:∀y∈ps.zip us,scope.names.lookup y.1=some .local\/(scope.names.lookup y.1=some .cell/\((cellsFrom (s.heap.objs.size+1) scope.names []).lookup y.1).isSome=true):=fun⟨n,v⟩ hy=>by
  rcases S.par n (oA hy).1 with q|q
  ·exact .inl q
  ·exact .inr ⟨q,W.cellsFrom_some _ _ _ (.inl q)⟩
 refine codeAny_call_function hr.depth (KX _ _ lk) rfl S.co S.gen rfl (W.codeRec_of KX hcd) (hb _ _ _ _ ?_);refine wpAny_newFunctionEnv_cells S.kind hkind fun env he s1 x=>?_;subst he;refine⟨lim.keeps x.toInCall.keep,codeAny_func ?_⟩;obtain⟨t,ht,hq⟩:=hbody A outer s H vs Q E (hr.deeper _) hsp;have I:Inv (cxOf CX P w K mg base N qual scope f lM A outer s H E) [] (zC N vs) H s1:=inv_start S hr.hd e0 hl r x;refine oP (ht [] s1 (zC N vs) H _ I hq) (fun fl s' hs=>?_) fun e s' hs=>hs;have fin:∀{σ':St}{H':Hp}{v:V}{u:Value},Inv (cxOf CX P w K mg base N qual scope f lM A outer s H E) [] σ' H' s'->ZQ v u->Q v H'->CE outer P w H s Q u s':=
  fun {σ' H' v u} J rv q=>⟨v,H',J.os,J.bare,J.base,J.hok,rv,q⟩
 cases fl with
 |ret u=>
  obtain⟨v,σ',H',J,rv,q⟩:=hs;exact fin J rv q
 |next=>
  obtain⟨σ',H',J,q⟩:=hs;exact fin (v:=V.non) (u:=Value.none) J rfl q
 |brk=>
  obtain⟨_,_,_,q⟩:=hs;exact False.elim q
 |cont=>
  obtain⟨_,_,_,q⟩:=hs;exact False.elim q
section
variable{X:Cx}{x:Str}{p pos:Pos}{e:Expr}{es:List Expr}{t:TA}{id T:String}{r:List V->Hp->VK->Prop}
def tCB(r:List V->Hp->VK->Prop)(t:TA):TE:=fun σ H Q=>t σ H fun vs H1=>r vs H1 Q
theorem Zn(hc:YB X (.builtin id) r)(hg:Gl X x)(hm:X.mg x=none)(hv:bootBuiltins x=some (.builtin id))(ha:PA X (e::es) t)(hn:x ≠ "__name__" := by decide)(hdb:(x==("__debug__" : Str))=false:=by decide)
  (he:starEach (e::es) X.env=(false,eval e X.env)::starEach es X.env:=by rfl) (hpl:(backTo pos (starEach es X.env)).any (·.1)=false:=by rfl):PE X (.Call (.Name x p) (e::es) [] pos) (tCB r t):=by
 intro lL s σ H Q I h;refine ox (VS I hg hm hv ?_ hn hdb);exact PyProof.Rows.callWith_builtin1 (thn (ha pos lL s σ H _ I h) fun us s1 ⟨vs,H1,I1,r1,q1⟩=>hc lL s1 σ H1 vs us Q I1 r1 q1) he hpl
theorem Z3(hc:YB X (.type T) r)(hg:Gl X x)(hm:X.mg x=none)(hv:bootBuiltins x=some (.type T))(ha:PA X (e::es) t)(hn:x ≠ "__name__" := by decide)(hdb:(x==("__debug__" : Str))=false:=by decide)
  (he:starEach (e::es) X.env=(false,eval e X.env)::starEach es X.env:=by rfl) (hpl:(backTo pos (starEach es X.env)).any (·.1)=false:=by rfl):PE X (.Call (.Name x p) (e::es) [] pos) (tCB r t):=by
 intro lL s σ H Q I h;refine ox (VS I hg hm hv ?_ hn hdb);exact pH (thn (ha pos lL s σ H _ I h) fun us s1 ⟨vs,H1,I1,r1,q1⟩=>hc lL s1 σ H1 vs us Q I1 r1 q1) he hpl
theorem J0(hc:YB X (.type T) r)(hg:Gl X x)(hm:X.mg x=none)(hv:bootBuiltins x=some (.type T))(hn:x ≠ "__name__" := by decide)(hdb:(x==("__debug__" : Str))=false:=by decide) :
  PE X (.Call (.Name x p) [] [] pos) (tCB r tNil):=by
 intro lL s σ H Q I h;refine ox (VS I hg hm hv ?_ hn hdb);exact PyProof.Rows.callWith_type0 (hc lL s σ H [] [] Q I .nil h)
end
end L2
namespace HT
open PySem PyProof.Rows
section
open PySem.SeqAt
open PySem.AutoSeq1 (wpAny_loadPart')
open PySem.MeetsSeq PySem.MeetsSeq2 PySem.MeetsSeq3
end
section
variable{prog:Program}{w:World}{A:Around}{E:Value->Shared->Prop}{s:Shared}
theorem cat_tup{t b:Addr}{vs ws:List Value}{Q:Value->Shared->Prop}(ht:IsTup s.heap t vs.toArray)(hb:IsTup s.heap b ws.toArray)(hv:vs≠[])
  (h1:ws=[]->Q (.ref t) s) (h2:ws≠[]->Q (.ref s.heap.objs.size) { s with heap:=s.heap.push { cls:=.type "tuple",data:=.seq (vs++ws).toArray } })
  (hsz:vs.length+ws.length<=sizeLine):wpAny (model prog w) A (binaryOp .Add (.ref t) (.ref b)) Q E s:=by
 obtain⟨⟨cls,dd,data,sl⟩,ho,hc,n,hd⟩:=id ht;obtain⟨⟨cls2,dd2,data2,sl2⟩,ho2,hc2,n2,hd2⟩:=id hb;simp only at hc hd hc2 hd2;subst hc hd hc2 hd2;have e:vs.toArray++ws.toArray=(vs++ws).toArray:=by simp
 by_cases hw:ws=[]
 ·exact concat_meets ⟨_,ho,rfl⟩ ⟨_,ho2,rfl⟩ noFill_tuple_add seq_tuple_add PySem.F.slot_tuple_add PySem.F.entry_tuple_add (PySem.F.args_tuple_add_2 _ _)
   (tuple_addW1 t b vs.toArray ws.toArray n n2 dd dd2 sl sl2 (by simpa using hv) (by simp[hw])) ⟨ho,ho2,h1 hw⟩
 ·refine concat_meets ⟨_,ho,rfl⟩ ⟨_,ho2,rfl⟩ noFill_tuple_add seq_tuple_add PySem.F.slot_tuple_add PySem.F.entry_tuple_add (PySem.F.args_tuple_add_2 _ _)
   (tuple_addW2 t b vs.toArray ws.toArray n n2 dd dd2 sl sl2 (by simpa using hv) (by simpa using hw) (by rw[mn,mn];exact hsz)) ⟨ho,ho2,?_⟩
  rw[e];exact h2 hw
def sIx(n d:Nat):Option Int->Nat
 |none=>d
 |some v=>if v<0 then(v+(n:Int)).toNat else min v.toNat n
theorem sIx_none(n d:Nat):sIx n d none=d:=rfl
theorem sIx_nat(n d k:Nat):sIx n d (some (k:Int))=min k n:=by
 show(if(k:Int)<0 then((k:Int)+(n:Int)).toNat else min (k:Int).toNat n)=min k n
 rw[if_neg (by omega),m6]
theorem sIx_le(n d:Nat)(hd:d<=n)(o:Option Int):sIx n d o<=n:=by
 cases o with
 |none=>exact hd
 |some v=>
  show(if v<0 then(v+(n:Int)).toNat else min v.toNat n)<=n
  by_cases hv:v<0
  ·rw[if_pos hv];omega
  ·rw[if_neg hv];exact Nat.min_le_right _ _
theorem clip_eq(v:Int)(n d:Nat):(if v<0 then max (v+(n:Int)) 0 else min v (n:Int))=((sIx n d (some v):Nat):Int):=by
 show(if v<0 then max (v+(n:Int)) 0 else min v (n:Int))=(((if v<0 then(v+(n:Int)).toNat else min v.toNat n):Nat):Int)
 by_cases hv:v<0
 ·simp only[if_pos hv];omega
 ·simp only[if_neg hv];omega
theorem JZ(lo hi:Option Int)(n:Nat):Builtin.Slice.sliceAdjust lo hi 1 (n:Int)=(((sIx n 0 lo:Nat):Int),((sIx n n hi:Nat):Int)):=by
 have h1:¬((1:Int)<0):=by omega
 unfold Builtin.Slice.sliceAdjust;simp only[h1,mK];refine Prod.ext ?_ ?_
 ·cases lo with
  |none=>rfl
  |some v=>exact clip_eq v n 0
 ·cases hi with
  |none=>rfl
  |some v=>exact clip_eq v n n
theorem JN(i j:Nat):Builtin.Slice.slicePlaces (i:Int) (j:Int) 1=j-i:=by
 unfold Builtin.Slice.slicePlaces;have h1:(1:Int)>0:=by omega
 simp only[h1,m9,Int.ediv_one]
 split<;>omega
theorem yg{v:Value}{o:Option Int}{Q:Option Int->Shared->Prop}(p:IsPart v o)(h:Q o s):wpAny (model prog w) A (Builtin.Slice.slicePartIndex v) Q E s:=by
 cases p with
 |none=>exact slicePart_none h
 |int i t=>exact slicePart_int h
theorem za{sl:Addr}{vl vu:Value}{lo hi:Option Int}{n:Nat}{Q:Int×Int×Nat->Shared->Prop}(hs:s.heap.IsSliceOf sl vl vu .none)(pl:IsPart vl lo)(pu:IsPart vu hi)
  (h:Q (((sIx n 0 lo:Nat):Int),1,sIx n n hi-sIx n 0 lo) s):wpAny (model prog w) A (Builtin.Slice.sliceApplied (.ref sl) (pure (n:Int))) Q E s:=by
 obtain⟨os,hos,hcs,hds⟩:=id hs;unfold Builtin.Slice.sliceApplied Builtin.Slice.sliceFields;refine lO (lO (nz hos hds (x:=vl) rfl (lO (nz hos hds (x:=vu) rfl (lO (nz hos hds (x:=.none) rfl (lT ?_)))))));refine lO (slicePart_none ?_)
 show wpAny _ _ (if((1:Int)==0)=true then _ else _) _ _ s
 rw[if_neg (by decide)];refine lO (yg pl (lO (yg pu (lO (lT ?_)))))
 show wpAny _ _ (match Builtin.Slice.sliceAdjust lo hi 1 (n:Int) with|(lo,hi)=>pure (lo,(1:Int),Builtin.Slice.slicePlaces lo hi 1)) _ _ s
 rw[JZ lo hi n]
 show wpAny _ _ (pure (((sIx n 0 lo:Nat):Int),(1:Int),Builtin.Slice.slicePlaces ((sIx n 0 lo:Nat):Int) ((sIx n n hi:Nat):Int) 1)) _ _ s
 rw[JN];exact lT h
theorem pick_gen(xs:Array Value)(i k:Nat):((List.range k).filterMap fun(m:Nat)=>xs[((i:Int)+(m:Int)*1).toNat]?).toArray=((xs.toList.drop i).take k).toArray:=by
 have e:(fun(m:Nat)=>xs[((i:Int)+(m:Int)*1).toNat]?)=fun m=>xs[i+m]?:=by
  funext m
  have:((i:Int)+(m:Int)*1).toNat=i+m:=by omega
  rw[this]
 rw[e];have:=pick_run xs i k;rw[List.filterMap_map] at this;have e2:((fun x=>xs[x]?)∘fun x=>i+x)=fun m=>xs[i+m]?:=rfl;rw[e2] at this;rw[this]
theorem getItem_tuple_cut{t sl:Addr}{items:Array Value}{vl vu:Value}{lo hi:Option Int}{Q:Value->Shared->Prop}(ht:IsTup s.heap t items)(hs:s.heap.IsSliceOf sl vl vu .none)(pl:IsPart vl lo)(pu:IsPart vu hi)
  (hw:¬(sIx items.size 0 lo=0/\sIx items.size items.size hi=items.size))
  (h:Q (.ref s.heap.objs.size) { s with heap:=s.heap.push { cls:=.type "tuple",data:=.seq ((items.toList.drop (sIx items.size 0 lo)).take (sIx items.size items.size hi-sIx items.size 0 lo)).toArray } })
  (hsz:items.size<=sizeLine):wpAny (model prog w) A (getItem (.ref t) (.ref sl)) Q E s:=by
 have htake:sizeOk (.seq ((items.toList.drop (sIx items.size 0 lo)).take (sIx items.size items.size hi-sIx items.size 0 lo)).toArray):=by
  show((items.toList.drop (sIx items.size 0 lo)).take (sIx items.size items.size hi-sIx items.size 0 lo)).toArray.size<=sizeLine
  rw[mn,mf,mL,nC];omega
 have hj:sIx items.size items.size hi<=items.size:=sIx_le _ _ (lS _) hi;obtain⟨os,hos,hcs,hds⟩:=id hs;have hTs:s.TypeIs (.ref sl) "slice" := ⟨os,hos,hcs⟩;unfold getItem
 try with_reducible refine nj ?_
 first|refine lO (lT ?_)|skip
 refine lO (wpAny_sequenceKey ht.typeIs (by decide) ?_);refine lO (oU (name:=Str.ofString "__getitem__") ht.typeIs r9
  (nE r9 ht.typeIs entry_tuple_getitem ?_ (args_tuple_getitem _ _)))
 show wpAny _ _ (Builtin.Tuple.tupleItemsOf (.ref t) >>= _) _ _ s
 refine lO (tupleItemsOf_ ht ?_);refine lO (wpAny_typeOf hTs ?_);rw[if_pos (by decide)];refine lO (za hs pl pu ?_);have hno:¬((((sIx items.size 0 lo:Nat):Int)==0&&(1:Int)==1&&(sIx items.size items.size hi-sIx items.size 0 lo)==items.size)=true):=by
  intro q;rw[mR,mR] at q;have q1:((sIx items.size 0 lo:Nat):Int)=0:=eq_of_beq q.1.1;have q2:sIx items.size items.size hi-sIx items.size 0 lo=items.size:=eq_of_beq q.2;exact hw ⟨by omega,by omega⟩
 show wpAny _ _ (if(((sIx items.size 0 lo:Nat):Int)==0&&(1:Int)==1&&(sIx items.size items.size hi-sIx items.size 0 lo)==items.size)=true then _ else _) _ _ s
 rw[if_neg hno,pick_gen]
 first
  |exact lO (m:=Builtin.Tuple.tupleExact _) (nF (lT ⟨_,rfl,lT h⟩) htake)
  |exact lO (m:=Builtin.Tuple.tupleExact _) (nF (lO (lT (lT ⟨_,rfl,lT h⟩))) htake)
  |exact lO (lO (m:=Builtin.Tuple.tupleExact _) (nF (lT (lT ⟨_,rfl,lT h⟩)) htake))
  |exact lO (lO (m:=Builtin.Tuple.tupleExact _) (nF (lT ⟨_,rfl,lT h⟩) htake))
end
end HT
namespace L2
open PySem PySem.Spec PyProof.Rows
abbrev TO:=St->Hp->(Option Int->Hp->Prop)->Prop
def PO(X:Cx)(e:Option Expr)(t:TO):Prop:=
 ∀(lL:List (Addr×Obj)) (s:Shared) (σ:St) (H:Hp) (Q:Option Int->Hp->Prop),Inv X lL σ H s->t σ H Q ->
  wpAny (model X.prog X.w) X.A (evalPart e X.env) (fun u s'=>∃o H',Inv X lL σ H' s'/\IsPart u o/\Q o H') X.xe s
def tNoPart:TO:=fun _ H Q=>Q none H
inductive PartR(x:V)(H:Hp)(Q:Option Int->Hp->Prop):Prop
 |mk (i:Int) (h:x=.int i) (k:Q (some i) H):PartR x H Q
def tPart(t:TE):TO:=fun σ H Q=>t σ H fun x H1=>PartR x H1 Q
theorem Jp{ns:List Int}:∀{us:List Value},ZH (ns.map V.int) us->IntsAre us ns:=by
 induction ns with
 |nil=>intro us r;rw[mF] at r;cases r;exact .nil
 |cons n ns ih=>
  intro us r;rw[lX] at r;cases r with
  |cons r1 r2=>
   obtain⟨t,e⟩:=r1;subst e;exact .cons n t (ih r2)
section
variable{X:Cx}{e:Expr}{te:TE}{lo hi:Option Expr}{tl th:TO}{pos p2:Pos}
theorem Yb:PO X none tNoPart:=by
 intro lL s σ H Q I h;rw[evalPart_none];exact lT ⟨none,H,I,.none,h⟩
theorem ZX(h:PE X e te):PO X (some e) (tPart te):=by
 intro lL s σ H Q I hw;rw[evalPart_some];refine thn (h lL s σ H _ I hw) fun u s1 ⟨x,H1,I1,r1,q1⟩=>?_;obtain⟨i,rfl,q⟩:=q1;obtain⟨t,rfl⟩:=r1;exact⟨some i,H1,I1,.int i t,q⟩
def SlR(X:Cx)(r:V->Option Int->Option Int->Hp->VK->Prop):Prop:=
 ∀(lL:List (Addr×Obj)) (s:Shared) (σ:St) (H:Hp) (x:V) (v vl vu:Value) (lo hi:Option Int) (sl:Addr) (Q:VK),Inv X lL σ H s->ZQ x v->s.heap.IsSliceOf sl vl vu .none->IsPart vl lo->IsPart vu hi->r x lo hi H Q ->
  ∃T id,typeLookup (.type T) "__getitem__" = pure (some (.builtin id))/\s.TypeIs v T/\wpAny (model X.prog X.w) X.A (getItem v (.ref sl)) (EP X lL σ Q) X.xe s
def tSl(r:V->Option Int->Option Int->Hp->VK->Prop)(te:TE)(tl th:TO):TE:=fun σ H Q=>te σ H fun x H1=>tl σ H1 fun l H2=>th σ H2 fun u H3=>r x l u H3 Q
theorem ZS{r:V->Option Int->Option Int->Hp->VK->Prop}(hr:SlR X r)(he:PE X e te)(hl:PO X lo tl)(hu:PO X hi th):PE X (.Subscript e (.Slice lo hi none p2) pos) (tSl r te tl th):=by
 intro lL s σ H Q I h;refine Subscript_ (thn (he lL s σ H _ I h) fun v s1 ⟨x,H1,I1,r1,q1⟩=>?_);refine wpAny_Slice (thn (hl lL s1 σ H1 _ I1 q1) fun vl s2 ⟨l,H2,I2,pl,q2⟩=>thn (hu lL s2 σ H2 _ I2 q2) fun vu s3 ⟨u,H3,I3,pu,q3⟩=>?_);rw[evalPart_none];refine lT ?_;have I4:Inv X lL σ H3 { s3 with heap:=s3.heap.push { cls:=.type "slice",data:=.fields #[vl,vu,.none] } }:=I3.kept (t':=s3.toks) fun b ob q=>lZ _ q;obtain⟨T,id,hT,ht,hg⟩:=hr lL { s3 with heap:=s3.heap.push { cls:=.type "slice",data:=.fields #[vl,vu,.none] } } σ H3 x v vl vu l u s3.heap.objs.size Q I4 r1 (Heap.IsSliceOf.new ..) pl pu q3
 show wpAny (model X.prog X.w) X.A (subscriptTail e (.Slice lo hi none p2) v (.ref s3.heap.objs.size)) (EP X lL σ Q) X.xe { s3 with heap:=s3.heap.push { cls:=.type "slice",data:=.fields #[vl,vu,.none] } }
 exact tail_any (ops:=[.ref s3.heap.objs.size,v]) ht hT hg (by with_unfolding_all rfl)
def W0(xs:List V)(lo hi:Option Int):List V:=(xs.drop (HT.sIx xs.length 0 lo)).take (HT.sIx xs.length xs.length hi-HT.sIx xs.length 0 lo)
theorem zx(xs:List V)(lo hi:Option Int):(W0 xs lo hi).length<=xs.length:=by
 unfold W0;rw[mf,mL];omega
inductive rSlT_R(K:W.Frag)(x:V)(lo:Option Int)(hi:Option Int)(H:Hp)(Q:VK):Prop
 |mk (a:_) (xs:_) (h0:x=.ref a) (h1:SqT K H a xs) (h2:¬(HT.sIx xs.length 0 lo=0/\HT.sIx xs.length xs.length hi=xs.length)) (h3:∀p,H p=none->Q (.ref p) (upd H p (.tup (W0 xs lo hi)))):rSlT_R K x lo hi H Q
def rSlT(K:W.Frag):V->Option Int->Option Int->Hp->VK->Prop:=fun x lo hi H Q=>rSlT_R K x lo hi H Q
theorem sl_tup:SlR X (rSlT X.K):=by
 intro lL s σ H x v vl vu lo hi sl Q I rx hs pl pu h;obtain⟨a,xs,rfl,hx,hw,q⟩:=h;cases rx;obtain⟨its,r,ht,hz⟩:=I.tuple hx;have hlen:its.toArray.size=xs.length:=by rw[mn];exact r.length.symm
 refine⟨"tuple",_,r9.lookup,ht.typeIs,?_⟩;refine HT.getItem_tuple_cut ht hs pl pu (by rw[hlen];exact hw) ?_ (by rw[hlen];exact hz);rw[hlen];refine⟨.ref s.heap.objs.size,_,I.laid (t':=s.toks) (o:=.tup (W0 xs lo hi)) (fun b ob q=>lZ _ q) (lS _) ?_,rfl,q _ (I.hok.fresh (lS _))⟩;exact⟨mC (zx xs lo hi) hz,_,(r.drop (HT.sIx xs.length 0 lo)).take (HT.sIx xs.length xs.length hi-HT.sIx xs.length 0 lo),IsTup.new _ _⟩
inductive rCatT_R(K:W.Frag)(x:V)(y:V)(H:Hp)(Q:VK):Prop
 |mk (a:_) (b:_) (xs:_) (ys:_) (h0:x=.ref a) (h1:y=.ref b) (h2:SqT K H a xs) (h3:SqT K H b ys) (h4:xs≠[]) (h5:xs.length+ys.length<=sizeLine) (h6:(ys=[]->Q (.ref a) H)) (h7:(ys≠[]->∀p,H p=none->Q (.ref p) (upd H p (.tup (xs++ys))))):rCatT_R K x y H Q
def rCatT(K:W.Frag):R2:=fun x y H Q=>rCatT_R K x y H Q
theorem ZH.nil_iff{xs:List V}{us:List Value}(r:ZH xs us):us=[]↔xs=[]:=by
 cases r with
 |nil=>simp
 |cons _ _=>simp
theorem op_catT:OpR X (binaryOp .Add) (rCatT X.K):=by
 intro lL s σ H x y v u Q I rx ry h;obtain⟨a,b,xs,ys,rfl,rfl,ha,hb,hx,hz,q1,q2⟩:=h;cases rx;cases ry;obtain⟨its,r1,p1,_⟩:=I.tuple ha;obtain⟨its2,r2,p2,_⟩:=I.tuple hb;refine HT.cat_tup p1 p2 (fun z=>hx (r1.nil_iff.mp z)) (fun z=>⟨.ref a,H,I,rfl,q1 (r2.nil_iff.mp z)⟩) (fun z=>?_) (by rw[<- r1.length,<- r2.length];exact hz);refine⟨.ref s.heap.objs.size,_,I.laid (t':=s.toks) (o:=.tup (xs++ys)) (fun b ob q=>lZ _ q) (lS _) ?_,rfl,q2 (fun w=>z (r2.nil_iff.mpr w)) _ (I.hok.fresh (lS _))⟩;exact⟨by rw[lW];exact hz,_,r1.append r2,IsTup.new _ _⟩
end
def ixN(n:Nat)(i:Int):Option Nat:=if 0<=i then(if i<n then some i.toNat else none) else if -(n:Int)<=i then some (i+n).toNat else none
def atI{α:Type}(xs:List α)(i:Int):Option α:=(ixN xs.length i).bind fun j=>xs[j]?
theorem ixN_seq{n:Nat}{i:Int}{j:Nat}(h:ixN n i=some j):seqIndex? i n=some j/\j<n/\-(n:Int)<=i/\i<n:=by
 unfold ixN at h
 by_cases h0:0<=i
 ·rw[if_pos h0] at h
  by_cases h1:i<n
  ·rw[if_pos h1] at h;have e:i.toNat=j:=mv h;exact⟨by rw[seqIndex_of h0 h1,e],by omega,by omega,h1⟩
  ·rw[if_neg h1] at h;cases h
 ·rw[if_neg h0] at h
  by_cases h1:-(n:Int)<=i
  ·rw[if_pos h1] at h;have e:(i+n).toNat=j:=mv h;exact⟨by rw[seqIndex_neg (by omega) h1,e],by omega,h1,by omega⟩
  ·rw[if_neg h1] at h;cases h
theorem atI_get{α:Type}{xs:List α}{i:Int}{v:α}(h:atI xs i=some v):∃j,seqIndex? i xs.length=some j/\xs[j]?=some v/\j<xs.length/\-(xs.length:Int)<=i/\i<xs.length:=by
 unfold atI at h;cases e:ixN xs.length i with
 |none=>rw[e] at h;cases h
 |some j=>
  rw[e] at h;obtain⟨h1,h2,h3,h4⟩:=ixN_seq e;exact⟨j,h1,h,h2,h3,h4⟩
theorem Zi{α:Type}{xs:List α}{j:Nat}{v:α}(h:xs[j]?=some v):atI xs (j:Int)=some v:=by
 have hj:j<xs.length:=(mo.mp h).1;have e:ixN xs.length (j:Int)=some j:=by
  unfold ixN;rw[if_pos (by omega),if_pos (by omega)];simp
 unfold atI;rw[e];exact h
theorem qt{α:Type}(xs:List α)(v:α):atI (xs++[v]) (-1)=some v:=by
 have hl:(xs++[v]).length=xs.length+1:=by simp
 have e:ixN (xs++[v]).length (-1)=some xs.length:=by
  unfold ixN;rw[hl,if_neg (by decide),if_pos (by omega)]
  congr 1
  omega
 unfold atI;rw[e]
 show(xs++[v])[xs.length]?=some v
 simp
def PlainIx(b:Expr):Prop:=∀o i,subscripted b false o i=operate [o,i] (getItem o i)
def IxR(X:Cx)(r:R2):Prop:=
 ∀(value slice:Expr) (lL:List (Addr×Obj)) (s:Shared) (σ:St) (H:Hp) (x y:V) (v u:Value) (Q:VK),Inv X lL σ H s->ZQ x v->ZQ y u->r x y H Q ->
  subscripted slice false v u=operate [v,u] (getItem v u)->wpAny (model X.prog X.w) X.A (subscriptTail value slice v u) (EP X lL σ Q) X.xe s
def MtR(X:Cx)(id:String)(r:V->List V->Hp->VK->Prop):Prop:=
 ∀(lL:List (Addr×Obj)) (s:Shared) (σ:St) (H:Hp) (x:V) (xs:List V) (v:Value) (us:List Value) (Q:VK),Inv X lL σ H s->ZQ x v->ZH xs us->r x xs H Q ->
  wpAny (model X.prog X.w) X.A (call (.builtin id) (v::us)) (EP X lL σ Q) X.xe s
section
variable{X:Cx}{a b:Expr}{ta tb:TE}{pos:Pos}
theorem Zz{r:R2}(hr:IxR X r)(ha:PE X a ta)(hb:PE X b tb)(hs:PlainIx b):PE X (.Subscript a b pos) (tOp r ta tb):=by
 intro lL s σ H Q I h;exact Subscript_ (binT ha hb I h fun v u s2 x y H2 I2 rx ry q=>hr a b lL s2 σ H2 x y v u Q I2 rx ry q (hs _ _))
inductive rIxL_R(K:W.Frag)(x:V)(y:V)(H:Hp)(Q:VK):Prop
 |mk (p:_) (xs:_) (i:_) (v:_) (h0:x=.ref p) (h1:y=.int i) (h2:SqL K H p xs) (h3:atI xs i=some v) (h4:Q v H):rIxL_R K x y H Q
def rIxL(K:W.Frag):R2:=fun x y H Q=>rIxL_R K x y H Q
inductive rIxT_R(K:W.Frag)(x:V)(y:V)(H:Hp)(Q:VK):Prop
 |mk (p:_) (xs:_) (i:_) (v:_) (h0:x=.ref p) (h1:y=.int i) (h2:SqT K H p xs) (h3:atI xs i=some v) (h4:Q v H):rIxT_R K x y H Q
def rIxT(K:W.Frag):R2:=fun x y H Q=>rIxT_R K x y H Q
theorem ix_list:IxR X (rIxL X.K):=by
 intro value slice lL s σ H x y v u Q I rx ry h hs;obtain⟨p,xs,i,z,rfl,rfl,hq,he,q⟩:=h;cases rx;obtain⟨t,rfl⟩:=ry;obtain⟨its,r,pl,hz⟩:=I.list hq;obtain⟨j,h1,h2,h3,h4,h5⟩:=atI_get he;obtain⟨w,ew,rw'⟩:=r.get h2;have hl:=r.length;have hn:=yW;have fin:EP X lL σ Q w s:=⟨z,H,I,rw',q⟩
 by_cases h0:0<=i
 ·have hj:i.toNat=j:=by
   rw[seqIndex_of h0 h5] at h1;exact mv h1
  exact item_listR pl.isList h0 (by omega) (by rw[hj];simpa using ew) fin hs
 ·have hj:(i+(its.toArray.size:Int)).toNat=j:=by
   rw[seqIndex_neg (by omega) h4] at h1;rw[mn,<- hl];exact mv h1
  exact subscriptTail_builtinR (x:=w) pl.isList.typeIs slot_list_getitem.lookup
   (wpAny_getItem_list_neg (Q:=fun r s'=>r=w/\EP X lL σ Q r s') pl.isList (by omega) (by rw[mn]<;>omega) (by omega) (by rw[hj];simpa using ew) ⟨rfl,fin⟩) hs
theorem ix_tup:IxR X (rIxT X.K):=by
 intro value slice lL s σ H x y v u Q I rx ry h hs;obtain⟨p,xs,i,z,rfl,rfl,hq,he,q⟩:=h;cases rx;obtain⟨t,rfl⟩:=ry;obtain⟨its,r,pl,hz⟩:=I.tuple hq;obtain⟨j,h1,h2,h3,h4,h5⟩:=atI_get he;obtain⟨w,ew,rw'⟩:=r.get h2;have hl:=r.length;have hn:=yW;have fin:EP X lL σ Q w s:=⟨z,H,I,rw',q⟩;exact subscriptTail_builtinR (x:=w) pl.typeIs slot_tuple_getitem.lookup
  (getItem_tuple (j:=j) (Q:=fun r s'=>r=w/\EP X lL σ Q r s') pl (by omega) (by omega) (by rw[mn,<- hl];exact h1) (by simpa using ew) ⟨rfl,fin⟩) hs
theorem vN(lo hi:Option Int)(n:Nat):(sliceBounds lo hi none n).1=((HT.sIx n 0 lo:Nat):Int)/\(sliceBounds lo hi none n).2.1=((HT.sIx n n hi:Nat):Int)/\(sliceBounds lo hi none n).2.2=1:=by
 refine⟨?_,?_,rfl⟩
 ·cases lo with
  |none=>simp[sliceBounds,HT.sIx]
  |some i=>
   simp only[sliceBounds,HT.sIx,Option.getD_none,show(1:Int)>0 by decide,m9]
   by_cases h:i<0
   ·simp only[h,m9]<;>omega
   ·simp only[h,mK]<;>omega
 ·cases hi with
  |none=>simp[sliceBounds,HT.sIx]
  |some i=>
   simp only[sliceBounds,HT.sIx,Option.getD_none,show(1:Int)>0 by decide,m9]
   by_cases h:i<0
   ·simp only[h,m9]<;>omega
   ·simp only[h,mK]<;>omega
theorem xK(its:List Value)(lo hi:Option Int):slicePick its.toArray lo hi none=((its.drop (HT.sIx its.length 0 lo)).take (HT.sIx its.length its.length hi-HT.sIx its.length 0 lo)).toArray:=by
 obtain⟨h1,h2,h3⟩:=vN lo hi its.toArray.size;unfold slicePick;rw[h1,h2,h3];simp only[sliceRange_one,pick_run,mn]<;>rfl
inductive rSlL_R(K:W.Frag)(x:V)(lo:Option Int)(hi:Option Int)(H:Hp)(Q:VK):Prop
 |mk (a:_) (xs:_) (h0:x=.ref a) (h1:SqL K H a xs) (h2:∀p,H p=none->Q (.ref p) (upd H p (.lst (W0 xs lo hi)))):rSlL_R K x lo hi H Q
def rSlL(K:W.Frag):V->Option Int->Option Int->Hp->VK->Prop:=fun x lo hi H Q=>rSlL_R K x lo hi H Q
theorem sl_list:SlR X (rSlL X.K):=by
 intro lL s σ H x v vl vu lo hi sl Q I rx hs pl pu h;obtain⟨a,xs,rfl,hx,q⟩:=h;cases rx;obtain⟨its,r,ht,hz⟩:=I.list hx;have hlen:=r.length;refine⟨"list",_,slot_list_getitem.lookup,ht.isList.typeIs,?_⟩;refine wpAny_getItem_list_slice ht.isList hs pl pu .none (by simp) ?_ (by rw[mn]<;>omega);rw[xK,<- hlen];refine⟨.ref s.heap.objs.size,_,I.laid (t':=s.toks) (o:=.lst (W0 xs lo hi)) (fun b ob q=>lZ _ q) (lS _) ?_,rfl,q _ (I.hok.fresh (lS _))⟩;exact⟨mC (zx xs lo hi) hz,_,0,(r.drop (HT.sIx xs.length 0 lo)).take (HT.sIx xs.length xs.length hi-HT.sIx xs.length 0 lo),mD _ rfl⟩
def UL:V->Bool
 |.non=>true
 |.bl _=>true
 |.int _=>true
 |.str _=>true
 |_=>false
def eqV:V->V->Bool
 |.non,.non=>true
 |.bl a,.bl b=>a==b
 |.bl a,.int b=>(if a then 1 else 0)==b
 |.int a,.bl b=>a==(if b then 1 else 0)
 |.int a,.int b=>a==b
 |.str a,.str b=>a==b
 |_,_=>false
theorem eqAt_V{A:Around}{s:Shared}{y x:V}{u v:Value}(ry:ZQ y u)(rx:ZQ x v)(fy:UL y=true)(fx:UL x=true):SeqAt.EqAt A s u v (eqV y x):=by
 cases y with
 |non=>
  cases ry;cases x with
  |non=>cases rx;exact SeqAt.EqAt.same _
  |bl b=>cases rx;exact SeqAt.EqAt.none_bool b
  |int b=>obtain⟨t,rfl⟩:=rx;exact SeqAt.EqAt.none_int b t
  |str b=>obtain⟨t,rfl⟩:=rx;exact SeqAt.EqAt.none_str b t
  |_=>exact absurd (show false=true from fx) mI
 |bl a=>
  cases ry;cases x with
  |non=>cases rx;exact SeqAt.EqAt.bool_none a
  |bl b=>cases rx;exact SeqAt.EqAt.bool_bool a b
  |int b=>obtain⟨t,rfl⟩:=rx;exact SeqAt.EqAt.bool_int a b t
  |str b=>obtain⟨t,rfl⟩:=rx;exact SeqAt.EqAt.bool_str a b t
  |_=>exact absurd (show false=true from fx) mI
 |int a=>
  obtain⟨t',rfl⟩:=ry;cases x with
  |non=>cases rx;exact SeqAt.EqAt.int_none a t'
  |bl b=>cases rx;exact SeqAt.EqAt.int_bool a t' b
  |int b=>obtain⟨t,rfl⟩:=rx;exact SeqAt.EqAt.int_int a t' b t
  |str b=>obtain⟨t,rfl⟩:=rx;exact SeqAt.EqAt.int_str a t' b t
  |_=>exact absurd (show false=true from fx) mI
 |str a=>
  obtain⟨t',rfl⟩:=ry;cases x with
  |non=>cases rx;exact SeqAt.EqAt.str_none a t'
  |bl b=>cases rx;exact SeqAt.EqAt.str_bool a t' b
  |int b=>obtain⟨t,rfl⟩:=rx;exact SeqAt.EqAt.str_int a t' b t
  |str b=>obtain⟨t,rfl⟩:=rx;exact SeqAt.EqAt.str_str a t' b t
  |_=>exact absurd (show false=true from fx) mI
 |_=>exact absurd (show false=true from fy) mI
def eqU(x:V)(u:Value):Bool:=match u with
 |.none=>eqV .non x
 |.bool b=>eqV (.bl b) x
 |.int i _=>eqV (.int i) x
 |.str z _=>eqV (.str z) x
 |_=>false
theorem eqU_of{x y:V}{u:Value}(r:ZQ y u)(f:UL y=true):eqU x u=eqV y x:=by
 cases y with
 |non=>cases r;rfl
 |bl b=>cases r;rfl
 |int i=>obtain⟨t,rfl⟩:=r;rfl
 |str z=>obtain⟨t,rfl⟩:=r;rfl
 |_=>exact absurd (show false=true from f) mI
theorem jd{x:V}:∀{xs:List V}{us:List Value},ZH xs us->xs.all UL=true->us.any (eqU x)=xs.any fun y=>eqV y x
 |_,_,.nil,_=>rfl
 |y::xs,u::us,.cons r t,f=>by
  rw[pd,mR] at f;rw[pY,pY,eqU_of r f.1,jd t f.2]
theorem yw{A:Around}{s:Shared}{x:V}{v:Value}(rx:ZQ x v)(fx:UL x=true):∀{xs:List V}{us:List Value},ZH xs us->xs.all UL=true->∀u∈us,SeqAt.EqAt A s u v (eqU x u)
 |_,_,.nil,_=>fun u hu=>by cases hu
 |y::xs,u::us,.cons r t,f=>fun u' hu=>by
  rw[pd,mR] at f;rcases mw.mp hu with rfl|hu
  ·rw[eqU_of r f.1];exact eqAt_V r rx f.1 fx
  ·exact yw rx fx t f.2 u' hu
def inV(x:V)(xs:List V):Bool:=xs.any fun y=>eqV y x
inductive rIn_R(K:W.Frag)(neg:Bool)(x:V)(y:V)(H:Hp)(Q:VK):Prop
 |mk (p:_) (xs:_) (h0:y=.ref p) (h1:(SqL K H p xs\/SqT K H p xs)) (h2:UL x=true) (h3:xs.all UL=true) (h4:Q (.bl (if neg then !inV x xs else inV x xs)) H):rIn_R K neg x y H Q
def rIn(K:W.Frag)(neg:Bool):R2:=fun x y H Q=>rIn_R K neg x y H Q
theorem op_in_seq:OpR X (compareOp .In) (rIn X.K false):=by
 intro lL s σ H x y v u Q I rx ry h;obtain⟨p,xs,rfl,hq,fx,fs,q⟩:=h;cases ry;rcases hq with hq|hq
 ·obtain⟨its,r,pl,hz⟩:=I.list hq;refine SeqAt.in_listAt (eqU x) pl.isList (fun w hw=>yw rx fx r fs w (by simpa using hw)) ⟨.bl _,H,I,rfl,?_⟩;rw[show its.toArray.any (eqU x)=its.any (eqU x) by simp,jd r fs];exact q
 ·obtain⟨its,r,pl,hz⟩:=I.tuple hq;refine SeqAt.in_tupleAt (eqU x) pl (fun w hw=>yw rx fx r fs w (by simpa using hw)) ⟨.bl _,H,I,rfl,?_⟩;rw[show its.toArray.any (eqU x)=its.any (eqU x) by simp,jd r fs];exact q
theorem vS:YB X (.builtin "len") (fun xs H Q=>∃p ys,xs=[.ref p]/\(SqL X.K H p ys\/SqT X.K H p ys)/\Q (.int ys.length) H):=by
 intro lL s σ H xs us Q I r h;obtain⟨p,ys,rfl,hq,q⟩:=h;obtain⟨u,rfl,rx⟩:=VG r;cases rx;have hn:=yW;rcases hq with hq|hq
 ·obtain⟨its,r',pl,hz⟩:=I.list hq;have hlen:=r'.length;exact Calls.call_len_list pl.isList (by simp only[mn]<;>omega) ⟨.int ys.length,H,I.tok _,⟨s.toks+1,by rw[mn,hlen]⟩,q⟩
 ·obtain⟨its,r',pl,hz⟩:=I.tuple hq;have hlen:=r'.length;exact len_tuple pl (by simp only[mn]<;>omega) ⟨.int ys.length,H,I.tok _,⟨s.toks+1,by rw[mn,hlen]⟩,q⟩
theorem jM:YB X (.builtin "len") (fun xs H Q=>∃z,xs=[.str z]/\z.length<=sizeLine/\Q (.int z.length) H):=by
 intro lL s σ H xs us Q I r h;obtain⟨z,rfl,hz,q⟩:=h;obtain⟨u,rfl,t,rfl⟩:=VG r;have hn:=yW;exact len_str (by omega) ⟨.int z.length,H,I.tok _,⟨_,rfl⟩,q⟩
theorem YB.or{f:Value}{r r':List V->Hp->VK->Prop}(h:YB X f r)(h':YB X f r'):YB X f (fun xs H Q=>r xs H Q\/r' xs H Q):=by
 intro lL s σ H xs us Q I rs q;rcases q with q|q
 ·exact h lL s σ H xs us Q I rs q
 ·exact h' lL s σ H xs us Q I rs q
theorem vT:YB X (.type "list") (fun xs H Q=>∃p ys,xs=[.ref p]/\(SqL X.K H p ys\/SqT X.K H p ys)/\∀l,H l=none->Q (.ref l) (upd H l (.lst ys))):=by
 intro lL s σ H xs us Q I r h;obtain⟨p,ys,rfl,hq,q⟩:=h;obtain⟨u,rfl,rx⟩:=VG r;cases rx;have fin:∀(its:List Value),ZH ys its->ys.length<=sizeLine->∀(h':Heap) (c':Nat),(∀b o',s.heap.get? b=some o'->h'.get? b=some o') ->
   h'.get? s.heap.objs.size=some { cls:=.type "list",dict:=none,data:=.seq its.toArray c',slots:=#[] }->EP X lL σ Q (.ref s.heap.objs.size) { s with heap:=h' }:=fun its r' hz h' c' kp e=>
  ⟨.ref s.heap.objs.size,_,I.laid (t':=s.toks) kp (lS _) (show YH X.prog X.w _ h' _ (.lst ys) from⟨hz,its,c',r',e⟩),rfl,q _ (I.hok.fresh (lS _))⟩
 rcases hq with hq|hq
 ·obtain⟨its,r',pl,hz⟩:=I.list hq;have hlen:=r'.length;obtain⟨o,ho,hc,n,hd⟩:=pl.isList;exact call_list_seq p (.inl rfl) ho hc hd (fun h' c' kp e=>fin its r' hz h' c' kp e) (by simp only[mn]<;>omega)
 ·obtain⟨its,r',pl,hz⟩:=I.tuple hq;have hlen:=r'.length;obtain⟨o,ho,hc,n,hd⟩:=pl;exact call_list_seq p (.inr rfl) ho hc hd (fun h' c' kp e=>fin its r' hz h' c' kp e) (by simp only[mn]<;>omega)
theorem xO:YB X (.type "tuple") (fun xs H Q=>∃p ys,xs=[.ref p]/\((SqL X.K H p ys/\∀l,H l=none->Q (.ref l) (upd H l (.tup ys)))\/(SqT X.K H p ys/\Q (.ref p) H))):=by
 intro lL s σ H xs us Q I r h;obtain⟨p,ys,rfl,h⟩:=h;obtain⟨u,rfl,rx⟩:=VG r;cases rx;rcases h with⟨hq,q⟩|⟨hq,q⟩
 ·obtain⟨its,r',pl,hz⟩:=I.list hq;have hlen:=r'.length;refine call_tuple_list pl.isList (fun h' kp=>?_) (by simp only[mn]<;>omega);have I1:Inv X lL σ H { s with heap:=h' }:=I.kept (t':=s.toks) kp;have I2:Inv X lL σ (upd H h'.objs.size (.tup ys)) { s with heap:=h'.push { cls:=.type "tuple",data:=.seq its.toArray } }:=
   I1.laid (t':=s.toks) (fun b o e=>lZ _ e) (lS _) (show YH X.prog X.w _ _ _ (.tup ys) from⟨hz,its,r',IsTup.new _ _⟩)
  exact⟨.ref h'.objs.size,_,I2,rfl,q _ (I1.hok.fresh (lS _))⟩
 ·obtain⟨its,r',pl,hz⟩:=I.tuple hq;exact call_tuple_same pl ⟨.ref p,H,I,rfl,q⟩
def tyV(K:W.Frag)(T:String)(x:V)(H:Hp):Prop:=match x with
 |.str _=>T = "str"
 |.int _=>T = "int"
 |.ref p=>(T = "list" /\ ∃xs,SqL K H p xs)\/(T = "tuple" /\ ∃o,K.lookup p=some o/\o.cls=.type "tuple" /\ o.dict=none) \/
   (T = "dict" /\ ((∃kvs,H p=some (.dK kvs))\/∃kvs,H p=some (.dT kvs)))\/(T = "set" /\ ∃S n,H p=some (.set S n))
 |_=>False
theorem tyV_is{lL:List (Addr×Obj)}{σ:St}{H:Hp}{s:Shared}{T:String}{x:V}{v:Value}(I:Inv X lL σ H s)(r:ZQ x v)(ty:tyV X.K T x H) :
  s.TypeIs v T/\∀a,v=.ref a->∃ob,s.heap.get? a=some ob/\ob.dict=none:=by
 cases x with
 |str z=>
  obtain⟨t,rfl⟩:=r;cases (show T = "str" from ty);exact⟨typeIs_str s z t,fun _ e=>nomatch e⟩
 |int i=>
  obtain⟨t,rfl⟩:=r;cases (show T = "int" from ty);exact⟨typeIs_int s i t,fun _ e=>nomatch e⟩
 |ref p=>
  cases r;rcases ty with⟨rfl,xs,hq⟩|⟨rfl,o,hk,hc,hd⟩|⟨rfl,hk⟩|⟨rfl,S,n,hk⟩
  ·obtain⟨its,_,pl,_⟩:=I.list hq;refine⟨pl.isList.typeIs,fun a e=>?_⟩;cases e;obtain⟨o,n,e,c,hd,_⟩:=pl;exact⟨o,e,hd⟩
  ·refine⟨⟨o,I.kIn p o hk,hc⟩,fun a e=>?_⟩;cases e;exact⟨o,I.kIn _ o hk,hd⟩
  ·have z:∃o,s.heap.get? p=some o/\o.ExactDict:=by
    rcases hk with⟨kvs,hk⟩|⟨kvs,hk⟩
    ·obtain⟨_,_,_,_,o,_,_,e,ex,_⟩:=I.hok p _ hk;exact⟨o,e,ex⟩
    ·obtain⟨_,_,_,_,o,_,_,e,ex,_⟩:=I.hok p _ hk;exact⟨o,e,ex⟩
   obtain⟨o,e,ex⟩:=z;refine⟨⟨o,e,ex.1⟩,fun a e2=>?_⟩;cases e2;exact⟨o,e,ex.2.1⟩
  ·obtain⟨o,_,_,_,e,ex,_⟩:=I.hok p _ hk;refine⟨⟨o,e,ex.1⟩,fun a e2=>?_⟩;cases e2;exact⟨o,e,ex.2.1⟩
 |_=>exact False.elim ty
def tBM0(K:W.Frag)(T:String)(r:V->List V->Hp->VK->Prop)(to:TE):TE:=fun σ H Q=>to σ H fun x H1=>tyV K T x H1/\r x [] H1 Q
def tBM(K:W.Frag)(T:String)(r:V->List V->Hp->VK->Prop)(to:TE)(t:TA):TE:=fun σ H Q=>to σ H fun x H1=>tyV K T x H1/\t σ H1 fun xs H2=>r x xs H2 Q
variable{o e:Expr}{es:List Expr}{to:TE}{t:TA}{name:Str}{apos cpos:Pos}{T id:String}{r:V->List V->Hp->VK->Prop}
theorem pe_bm0(pa:PlainAttrs T)(slot:Slot T name id)(hty:typeOf (.builtin id)=pure (.type "method_descriptor"))(hm:MtR X id r)(ho:PE X o to)
  (hbase:attributeBase o name X.env (eval o X.env)=eval o X.env:=by rfl) (hline:(apos.endLine==cpos.line)=true:=by rfl):PE X (.Call (.Attribute o name apos) [] [] cpos) (tBM0 X.K T r to):=by
 intro lL s σ H Q I h;refine wpAny_Call_method0_late hbase hline (thn (ho lL s σ H _ I h) fun v s1 ⟨x,H1,I1,r1,ty,q1⟩=>?_);obtain⟨h1,h2⟩:=tyV_is I1 r1 ty;exact⟨T,id,pa,slot,hty,h1,h2,Calls.callWith_builtin rfl (PySem.evalArgs_none (hm lL s1 σ H1 x [] v [] Q I1 r1 .nil q1))⟩
theorem Wm(pa:PlainAttrs T)(slot:Slot T name id)(hty:typeOf (.builtin id)=pure (.type "method_descriptor"))(hm:MtR X id r)(ho:PE X o to)(ha:PA X (e::es) t)
  (hbase:attributeBase o name X.env (eval o X.env)=eval o X.env:=by rfl)
  (hfew:((backTo cpos (starEach (e::es) X.env)).all (fun x=>!x.1)&&(backToKw cpos (keywordEach [] X.env)).all (fun x=>x.1.isSome)
   && decide ((e::es).length+([]:List Keyword).length+(if([]:List Keyword).isEmpty then 0 else 1)<30))=true:=by rfl)
  (hline:(apos.endLine==cpos.line)=true:=by rfl) (hs:starEach (e::es) X.env=(false,eval e X.env)::starEach es X.env:=by rfl) (hplain:(backTo cpos (starEach es X.env)).any (·.1)=false:=by rfl) :
  PE X (.Call (.Attribute o name apos) (e::es) [] cpos) (tBM X.K T r to t):=by
 intro lL s σ H Q I h;refine wpAny_Call_method_late hbase hfew hline rfl (thn (ho lL s σ H _ I h) fun v s1 ⟨x,H1,I1,r1,ty,q1⟩=>?_);obtain⟨h1,h2⟩:=tyV_is I1 r1 ty;refine⟨T,id,pa,slot,hty,h1,h2,?_⟩;have hA:=ha cpos lL s1 σ H1 _ I1 q1;rw[hs] at hA ⊢;refine Calls.callWith_builtin (by show(false||(backTo cpos (starEach es X.env)).any (·.1))=false;rw[hplain]<;>rfl) (Calls.evalArgs_plain ?_);exact thn hA fun us s2 ⟨vs,H2,I2,r2,q2⟩=>hm lL s2 σ H2 x vs v us Q I2 r1 r2 q2
end
def MtM(X:Cx)(id:String)(r:V->List V->Hp->VK->Prop):Prop:=
 ∀(lL:List (Addr×Obj)) (s:Shared) (σ:St) (H:Hp) (x:V) (xs:List V) (v:Value) (us:List Value) (Q:VK),Inv X lL σ H s->ZQ x v->ZH xs us->r x xs H Q ->
  wpAny (model X.prog X.w) X.A (call (.builtin id) (v::us)) (EP X lL σ Q) X.xe s
theorem ZH.one:∀{x:V}{us:List Value},ZH [x] us->∃u,us=[u]/\ZQ x u
 |_,_,.cons r .nil=>⟨_,rfl,r⟩
theorem ZH.zero:∀{us:List Value},ZH [] us->us=[]
 |_,.nil=>rfl
theorem ZH.dropLast{xs:List V}{us:List Value}(h:ZH xs us):ZH xs.dropLast us.dropLast:=by
 induction h with
 |nil=>exact .nil
 |cons r t ih=>
  cases t with
  |nil=>exact .nil
  |cons q t'=>exact .cons r ih
theorem ZH.reverse{xs:List V}{us:List Value}(h:ZH xs us):ZH xs.reverse us.reverse:=by
 induction h with
 |nil=>exact .nil
 |cons r t ih=>rw[pI,pI];exact ZH.append ih (.cons r .nil)
theorem ZH.rep{xs:List V}{us:List Value}(h:ZH xs us):∀k:Nat,ZH (List.replicate k xs).flatten (List.replicate k us).flatten
 |0=>.nil
 |k+1=>by
  rw[pf,pf,oV,oV];exact ZH.append h (ZH.rep h k)
theorem Ju{α:Type}(l:List α):l.eraseIdx (l.length-1)=l.dropLast:=by
 induction l with
 |nil=>rfl
 |cons a r ih=>
  cases r with
  |nil=>rfl
  |cons b r=>
   have e:(a::b::r).length-1=((b::r).length-1)+1:=by
    have h1:(a::b::r).length=r.length+2:=rfl;have h2:(b::r).length=r.length+1:=rfl;omega
   rw[e,List.eraseIdx_cons_succ,ih]
   all_goals rfl
theorem vf(its:List Value):∀(k:Nat) (acc:List Value),
  List.foldl (fun x1 x2=>x1++x2) acc.toArray (List.replicate k its.toArray)=(acc++(List.replicate k its).flatten).toArray
 |0,acc=>by simp
 |k+1,acc=>by
  have e:acc.toArray++its.toArray=(acc++its).toArray:=by simp
  have e2:(acc++its)++(List.replicate k its).flatten=acc++(List.replicate (k+1) its).flatten:=by
   rw[pf,oV,nY]
  rw[<- e2,<- vf its k (acc++its),<- e,pf,List.foldl_cons]
section
variable{X:Cx}{lL:List (Addr×Obj)}{σ:St}{H:Hp}{s:Shared}{l b:Addr}{xs ys zs:List V}
theorem Inv.lset{its its':List Value}{n:Nat}{f:Array Value->Array Value}{t':Nat}(I:Inv X lL σ H s)(hH:H l=some (.lst xs))
  (e:s.heap.get? l=some { cls:=.type "list",data:=.seq its.toArray n }) (hf:f its.toArray=its'.toArray) (hv:ZH ys its') (hz:ys.length<=sizeLine) :
  Inv X lL σ (upd H l (.lst ys)) { s with heap:=s.heap.update l (Obj.mapSeq f),toks:=t' }:=by
 have q:=PySem.IsL.update e f;rw[hf] at q;refine I.write (x:=l) (e:=l) (by rw[hH];exact trivial) (.inl rfl) (fun b' u hb hu=>(nG s.heap (Obj.mapSeq f) (mj hb)).trans hu) ⟨_,q⟩ ?_;exact⟨hz,its',_,hv,q⟩
theorem Inv.lnew{its:List Value}{t':Nat}(I:Inv X lL σ H s)(hv:ZH ys its)(hz:ys.length<=sizeLine) :
  Inv X lL σ (upd H s.heap.objs.size (.lst ys)) { s with heap:=s.heap.push { cls:=.type "list",data:=.seq its.toArray },toks:=t' }:=
 I.laid (fun _ _ q=>lZ _ q) (lS _) ⟨hz,its,0,hv,mD _ rfl⟩
theorem Inv.fresh(I:Inv X lL σ H s):H s.heap.objs.size=none:=I.hok.fresh (lS _)
theorem Inv.lstM(I:Inv X lL σ H s)(hH:H l=some (.lst xs)):xs.length<=sizeLine/\∃(its:List Value) (n:Nat),ZH xs its/\xs.length=its.length/\s.heap.get? l=some { cls:=.type "list",data:=.seq its.toArray n }:=by
 obtain⟨z,its,n,r,e⟩:=I.hok l _ hH;exact⟨z,its,n,r,r.length,e⟩
theorem xm{n:Nat}(h:n<=sizeLine):Builtin.List.listTooLong n=false:=by
 unfold Builtin.List.listTooLong;exact nr (by omega)
end
section
variable{X:Cx}
inductive W9(x:V)(vs:List V)(H:Hp)(Q:VK):Prop
 |mk (l:_) (xs:_) (y:_) (h0:x=.ref l) (h1:vs=[y]) (h2:H l=some (.lst xs)) (h3:xs.length<sizeLine) (h4:Q .non (upd H l (.lst (xs++[y])))):W9 x vs H Q
def rAppend:V->List V->Hp->VK->Prop:=fun x vs H Q=>W9 x vs H Q
theorem Z4:MtM X "list.append" rAppend:=by
 intro lL s σ H x vs v us Q I rx rv h;obtain⟨l,xs,y,rfl,rfl,hH,hz,q⟩:=h;cases rx;obtain⟨u,rfl,ru⟩:=rv.one;obtain⟨z,its,n,r,hl,e⟩:=I.lstM hH;refine call_meets F.slot_list_append ⟨_,e,rfl⟩ F.entry_list_append (F.args_list_append_2 _ _) (PySem.list_append l its.toArray n u (by rw[mn];omega)) ⟨e,?_⟩;refine⟨.non,_,I.lset (its':=its++[u]) hH e (by simp) (r.append (.cons ru .nil)) ?_,rfl,q⟩;rw[lW,ng];omega
inductive vB(x:V)(vs:List V)(H:Hp)(Q:VK):Prop
 |mk (l:_) (b:_) (xs:_) (zs:_) (h0:x=.ref l) (h1:vs=[.ref b]) (h2:H l=some (.lst xs)) (h3:H b=some (.lst zs)) (h4:xs.length+zs.length<=sizeLine) (h5:Q .non (upd H l (.lst (xs++zs)))):vB x vs H Q
def rExtend:V->List V->Hp->VK->Prop:=fun x vs H Q=>vB x vs H Q
theorem mt_extend:MtM X "list.extend" rExtend:=by
 intro lL s σ H x vs v us Q I rx rv h;obtain⟨l,b,xs,zs,rfl,rfl,hH,hB,hz,q⟩:=h;cases rx;obtain⟨u,rfl,ru⟩:=rv.one;cases ru;obtain⟨z,its,n,r,hl,e⟩:=I.lstM hH;obtain⟨z2,its2,n2,r2,hl2,e2⟩:=I.lstM hB;have hsz:its.toArray.size+its2.toArray.size<=sizeLine:=by rw[mn,mn];omega
 have hlong:¬(!its.toArray.isEmpty&&Builtin.List.listTooLong (its.toArray.size+its2.toArray.size))=true:=by
  rw[xm hsz,Bool.and_false];exact mI
 refine call_meets F.slot_list_extend ⟨_,e,rfl⟩ F.entry_list_extend (F.args_list_extend_2 _ _)
  (AutoSeq1.list_extend_list_list_0 l its.toArray n b its2.toArray n2 hlong (by rw[mn];omega) (by omega)) ⟨e,e2,?_⟩
 refine⟨.non,_,I.lset (its':=its++its2) hH e (by simp) (r.append r2) ?_,rfl,q⟩;rw[lW];omega
inductive rPop_R(x:V)(vs:List V)(H:Hp)(Q:VK):Prop
 |mk (l:_) (xs:_) (y:_) (h0:x=.ref l) (h1:vs=[]) (h2:H l=some (.lst xs)) (h3:xs[xs.length-1]?=some y) (h4:Q y (upd H l (.lst xs.dropLast))):rPop_R x vs H Q
def rPop:V->List V->Hp->VK->Prop:=fun x vs H Q=>rPop_R x vs H Q
theorem mt_pop:MtM X "list.pop" rPop:=by
 intro lL s σ H x vs v us Q I rx rv h;obtain⟨l,xs,y,rfl,rfl,hH,hy,q⟩:=h;cases rx;have hus:=rv.zero;subst hus;obtain⟨z,its,n,r,hl,e⟩:=I.lstM hH;obtain⟨u,hu,ru⟩:=r.get hy;have hy':its.toArray[its.toArray.size-1]?=some u:=by
  show its.toArray[its.length-1]?=some u
  rw[<- oW,<- hl];exact hu
 refine call_meets F.slot_list_pop ⟨_,e,rfl⟩ F.entry_list_pop (F.args_list_pop_1 _) (MeetsSeq.list_pop_last l its.toArray n u hy' (by rw[mn];omega)) ⟨e,?_⟩;refine⟨y,_,I.lset (its':=its.dropLast) hH e ?_ r.dropLast ?_,ru,q⟩
 ·show its.toArray.eraseIdxIfInBounds (its.toArray.size-1)=its.dropLast.toArray
  rw[mn,List.eraseIdxIfInBounds_toArray,Ju]
 ·rw[sd];omega
inductive rCat_R(x:V)(y:V)(H:Hp)(Q:VK):Prop
 |mk (l:_) (b:_) (xs:_) (zs:_) (h0:x=.ref l) (h1:y=.ref b) (h2:H l=some (.lst xs)) (h3:H b=some (.lst zs)) (h4:xs.length+zs.length<=sizeLine) (h5:∀p,H p=none->Q (.ref p) (upd H p (.lst (xs++zs)))):rCat_R x y H Q
def rCat:R2:=fun x y H Q=>rCat_R x y H Q
theorem Vi:OpR X (binaryOp .Add) rCat:=by
 intro lL s σ H x y v u Q I rx ry h;obtain⟨l,b,xs,zs,rfl,rfl,hH,hB,hz,q⟩:=h;cases rx;cases ry;obtain⟨z,its,n,r,hl,e⟩:=I.lstM hH;obtain⟨z2,its2,n2,r2,hl2,e2⟩:=I.lstM hB;refine PySem.P.add_list e e2 ?_ (by rw[mn,mn];omega);have ea:its.toArray++its2.toArray=(its++its2).toArray:=by simp
 rw[ea];exact⟨.ref _,_,I.lnew (t':=s.toks) (r.append r2) (by rw[lW];omega),rfl,q _ I.fresh⟩
inductive rRep_R(x:V)(y:V)(H:Hp)(Q:VK):Prop
 |mk (l:_) (k:_) (xs:_) (h0:x=.ref l) (h1:y=.int k) (h2:H l=some (.lst xs)) (h3:-(2 ^ 63)<=k) (h4:k<2 ^ 63) (h5:xs.length*k.toNat<=sizeLine) (h6:∀p,H p=none->Q (.ref p) (upd H p (.lst (List.replicate k.toNat xs).flatten))):rRep_R x y H Q
def rRep:R2:=fun x y H Q=>rRep_R x y H Q
theorem len_rep{α:Type}(xs:List α)(k:Nat):(List.replicate k xs).flatten.length=k*xs.length:=by
 induction k with
 |zero=>simp
 |succ k ih=>rw[pf,oV,lW,ih,pi,Nat.add_comm]
theorem vW:OpR X (binaryOp .Mult) rRep:=by
 intro lL s σ H x y v u Q I rx ry h;obtain⟨l,k,xs,rfl,rfl,hH,h1,h2,hz,q⟩:=h;cases rx;obtain⟨t,rfl⟩:=ry;obtain⟨z,its,n,r,hl,e⟩:=I.lstM hH;have hlen:its.toArray.size*k.toNat<=sizeLine:=by rw[mn,<- hl];exact hz
 have hcap:¬its.toArray.size*k.toNat>(2 ^ 63-1)/8:=by
  have:(sizeLine:Nat)<=(2 ^ 63-1)/8:=by decide
  omega
 have hfit:¬(!Builtin.List.listFitsIndex k)=true:=by
  rw[fitsIndex_both h1 h2];exact mI
 have hlong:¬Builtin.List.listTooLong (its.toArray.size*k.toNat)=true:=by
  rw[xm hlen];exact mI
 have hnew:List.foldl (fun x1 x2=>x1++x2) #[] (List.replicate (if its.toArray.isEmpty=true then 0 else k.toNat) its.toArray)=(List.replicate k.toNat its).flatten.toArray:=by
  have f0:∀m:Nat,List.foldl (fun x1 x2=>x1++x2) #[] (List.replicate m its.toArray)=(List.replicate m its).flatten.toArray:=fun m=>by
   have:=vf its m [];rw[nM] at this;exact this
  rw[f0];cases its with
  |nil=>simp
  |cons a r'=>rw[if_neg (by simp)]
 refine wpAny_binaryOp_repeat_ref (T := "list") (U := "int") (by decide) ⟨_,e,rfl⟩ (fun s'=>typeIs_int s' k t) noFill_list_mul F.fills_int_mul F.slot_int_rmul repeat_list F.slot_int_index.lookup
  (call_meets F.slot_int_rmul (typeIs_int s k t) F.entry_int_rmul (F.args_int_rmul_2 _ _) (int___rmul___int_list k t l its.toArray n)
   ⟨e,rfl,⟨_,e,rfl⟩,call_meets F.slot_list_mul ⟨_,e,rfl⟩ F.entry_list_mul (F.args_list_mul_2 _ _) (AutoListH.list___mul___list_int_3 l its.toArray n k t hfit hcap hlong) ⟨e,?_⟩⟩)
 rw[hnew];exact⟨.ref _,_,I.lnew (t':=s.toks) (r.rep k.toNat) (by rw[len_rep,Nat.mul_comm];exact hz),rfl,q _ I.fresh⟩
end
section
variable{prog:Program}{w:World}{A:Around}{E:Value->Shared->Prop}{s:Shared}
set_option maxRecDepth 100000 in
end
section
variable{X:Cx}
end
end L2
namespace Att
open PySem PySem.W PySem.Calls PyProof.Rows
theorem zH{P:Params}{h:Heap}:∀(ns:List Int) (vs:List Value),WellAll P h vs (ns.map WData.int)->IntsAre vs ns:=by
 intro ns
 induction ns with
 |nil=>
  intro vs w;rw[mF] at w;cases w;exact .nil
 |cons n ns ih=>
  intro vs w;rw[lX] at w;cases w with
  |cons a b=>
   cases a;exact .cons _ _ (ih _ b)
theorem script_of{l:OpenLaw}{n:Nat}(hn:l.most=some n){P:Params}{h:Heap}{args:List WData}{vals:List Value}
  (hpre:l.row.toRowW.claim.pre args=true) (hwl:WellAll P h vals args) :
  ∃a vs ns,vals=[Value.ref a]/\args=[WData.list (ns.map WData.int)]/\h.get? a=some { cls:=.type "list",data:=.seq vs.toArray }/\IntsAre vs ns/\ns.length<=n:=by
 have hsh:WShape.hasAll [] args [.list .int]=true:=(pre_splitW hpre).1;have hc:l.pre.holds [] { args:=args }=true:=(pre_splitW hpre).2;obtain⟨d,r,rfl,h1,h2⟩:=hasAllW_cons hsh;obtain rfl:=hasAllW_nil h2;obtain⟨xs,rfl,h3⟩:=hasW_list h1;obtain⟨ns,rfl⟩:=items_int h3;have hlen:ns.length<=n:=by
  unfold OpenLaw.pre at hc;have h4:(WTm.not (.lt (.lit (.int (n:Int))) (.len (.arg 0)))).holds [] { args:=[.list (ns.map .int)] }=true:=by
   have h4:=(holds_andW hc).1;rw[hn] at h4;exact h4
  have h5:=condW_of h4 (w_not (w_lt w_lit (w_len_list (w_arg rfl))));rw[lQ] at h5;refine Nat.le_of_not_lt fun q=>?_;have q':(n:Int)<((ns.length:Nat):Int):=by omega
  first
   | (rw[nk q'] at h5;exact absurd h5 (by decide))
   | (simp at h5;omega)
 cases hwl with
 |cons w1 w2=>
  cases w2;cases w1 with
  |list ho hall=>exact⟨_,_,ns,rfl,rfl,ho,zH ns _ hall,hlen⟩
theorem post_true(l:OpenLaw)(args:List WData):l.row.toRowW.claim.post args (.bool true) args=true:=
 postW_of (r:=l.row.toRowW) (X:=(true==true))
  (show WShape.has [] (.bool true) .bool=true by first|rfl|decide|simp[WShape.has,WShape.arms,WShape.armsAll])
  (show(WTm.eq .res (.lit (.bool true))).value [] { args:=args,res:=some (.bool true),after:=args }=some (.bool (true==true)) from w_eq_bool (w_res rfl) w_lit) rfl
theorem attach_call{l:OpenLaw}{n:Nat}{q:Program}{loose:List Str}{XP:(Str->Option Value)->Heap->Prop}{YP:World->Heap->Prop}{d:DefRec}
  (hn:l.most=some n) (hdf:d.params.defaults=[])
  (call:∀(w:World) (s₀ s₁:Shared) (mg mb:Str->Option Value) (fa:Addr) (o:Obj) (pm cd doc:Value) (a:Addr) (vs:List Value) (ns:List Int),
   Ground q loose [] XP w s₀ mg mb s₁.heap->YP w s₁.heap ->
   s₁.heap.get? fa=some o->o.data=.func (docDef d.name d.params d.body d.scope pm cd doc)->s₁.heap.CodeRec cd d.name->mg d.name=some (.ref fa) ->
   s₁.heap.get? a=some { cls:=.type "list",data:=.seq vs.toArray }->IntsAre vs ns->ns.length<=n->s₁.gens=#[] ->
   codeAny (model l.prog w) callerA (.call (.ref fa) ⟨[.ref a],[]⟩) (fun r s'=>r=.ok (.ret (.bool true))/\OldK s₁.heap s'.heap/\s'.os=s₁.os/\AllBare s'.gens) s₁) :
  WalkO q loose XP YP l.row.toRowW d [] (fun f vs=>PySem.call f vs):=by
 intro w s₀ s₁ mg mb G Y fa o pm cd doc dV kV ho hd hcd hD hmg hg args vals as hpre hlay hrd hwl hlo;obtain rfl:dV=.none:=Dflts.none hD hdf;obtain rfl:kV=.none:=Dflts.noKw hD;obtain⟨a,vs,ns,rfl,rfl,hobj,hints,hlen⟩:=script_of hn hpre hwl;refine enter_call (oS (call w s₀ s₁ mg mb fa o pm cd doc a vs ns G Y ho (fd_plain hd) hcd hmg hobj hints hlen hg) fun r s' hq=>?_);obtain⟨rfl,h2,h3,h4⟩:=hq;exact⟨.inl ⟨.bool true,.bool true,[],rfl,fun _=>rfl,.bool true,post_true l _,fun _=>⟨List.Pairwise.nil,fun _ hm=>(nomatch hm)⟩⟩,h2,h3,h4⟩
section
variable{prog:Program}{w:World}{A:Around}{E:Value->Shared->Prop}{s:Shared}{K:Frag}
def ledger(h:Heap)(L d:Addr):List (Addr×Obj):=(List.range h.objs.size).filterMap fun a=>if a=L\/a=d then none else(h.get? a).map fun o=>(a,o)
end
end Att
namespace L2
open PySem PySem.Spec PyProof.Rows
theorem xR:∀{vs:List Value}{ns:List Int},IntsAre vs ns->ZH (ns.map V.int) vs
 |_,_,.nil=>.nil
 |_,_,.cons n t h=>.cons ⟨t,rfl⟩ (xR h)
def Only(H:Hp):Prop:=∀b,H b=none\/∃o xs,H b=some (.frz o (.lst xs))
theorem law_call{P:Program}{w:World}{K:W.Frag}{mg mb:Str->Option Value}{CX:CXT}{k:Nat}{fa a:Addr}{fd:FuncData}{x:Str}{sp:Sp}{s₁:Shared}{vs:List Value}{ns:List Int}
  (KX:K.In s₁.heap) (hns:s₁.heap.Ns mainGlobals mg) (hb:s₁.heap.Ns builtinsNs mb) (hbb:∀x:Str,x ≠ "__name__" -> mb x=bootBuiltins x) (hlim:s₁.heap.NoLimit) (hg:s₁.gens=#[])
  (ha:s₁.heap.get? a=some { cls:=.type "list",data:=.seq vs.toArray }) (hi:IntsAre vs ns) (hl:ns.length<=sizeLine) (hr:Xz k callerA)
  (F:∀base:Heap,K.In base->base.Ns mainGlobals mg->Z2 P w K mg base CX k fa fd [x] sp) (hbind:∀(s:Shared) (u:Value),BindsTo s fd ⟨[u],[]⟩ [(x,u)])
  (hsp:∀H:Hp,Only H->SqL K H a (ns.map V.int)->sp [.ref a] H (fun v _=>v=.bl true) fun _ _ _=>False)
  (hCX:∀H e s',CX [] H s₁ (fun _ _ _=>False) e s'->False) :
  codeAny (model P w) callerA (.call (.ref fa) ⟨[.ref a],[]⟩) (fun r s'=>r=.ok (.ret (.bool true))/\OldK s₁.heap s'.heap/\s'.os=s₁.os/\AllBare s'.gens) s₁:=by
 have rv:=xR hi;have lenV:=hi.length;have core:∀H:Hp,Only H->SqL K H a (ns.map V.int)->HOk P w H s₁.heap->(∀b,H b≠none->b=a)->(H a≠none->K.lookup a=none) ->
   codeAny (model P w) callerA (.call (.ref fa) ⟨[.ref a],[]⟩) (fun r s'=>r=.ok (.ret (.bool true))/\OldK s₁.heap s'.heap/\s'.os=s₁.os/\AllBare s'.gens) s₁:=by
  intro H hO hS hok hA hK;have base_of:∀{b:Addr}{o:Obj},s₁.heap.get? b=some o->H b=none->(hidT s₁.heap H).get? b=some o:=fun e n=>hidT_get e n;have noA:∀{b:Addr}{o:Obj}{es:Array DictEntry}{ep:Nat},s₁.heap.get? b=some o->o.data=.dict es ep->H b=none:=fun {b o es ep} e d=>by
   cases q:H b with
   |none=>rfl
   |some u=>
    have e':b=a:=hA b (by rw[q];simp);subst e';rw[ha] at e;cases e;have d':Data.seq vs.toArray _=Data.dict es ep:=d;cases d'
  have nsK:∀{b:Addr}{m:Str->Option Value},s₁.heap.Ns b m->(hidT s₁.heap H).Ns b m:=fun {b m} ⟨o,es,ep,e,d,r⟩=>⟨o,es,ep,base_of e (noA e d),d,r⟩;have hKb:K.In (hidT s₁.heap H):=fun b o e=>base_of (KX b o e) (by
   cases q:H b with
   |none=>rfl
   |some u=>
    have e':b=a:=hA b (by rw[q];simp);subst e';rw[hK (by rw[q];simp)] at e;cases e)
  have hM:Mod K mg (hidT s₁.heap H):=⟨hKb,nsK hns,⟨mb,nsK hb,hbb⟩,let ⟨mc,h1,h2⟩:=hlim; ⟨mc,nsK h1,h2⟩⟩;have e0:Env0 P w K mg (hidT s₁.heap H) callerA [] s₁ H:=⟨rfl,hM,fun b o e=>of_hidT e,Nat.le_of_eq (hidT_size _ _),trivial,fun b hb=>absurd (show b∈([]:List Addr) from hb) (by simp),hok,.of_eq hg⟩;refine oS ((F _ hKb (nsK hns)).run callerA [] s₁ H ⟨[.ref a],[]⟩ [.ref a] [.ref a] _ _ hr e0 (hbind s₁ (.ref a)) (.cons rfl .nil) (hsp H hO hS)) fun r s' h=>?_;cases r with
  |error e=>exact(hCX H e s' h).elim
  |ok fl=>
   cases fl with
   |next=>exact False.elim h
   |brk=>exact False.elim h
   |cont=>exact False.elim h
   |ret u=>
    obtain⟨v,H',os,bare,un,hok',r',q⟩:=h;have q':v=.bl true:=q;subst q';obtain rfl:u=Value.bool true:=r';refine⟨rfl,OldK.of_keep fun b o e=>?_,os,bare⟩;cases q:H b with
    |none=>exact un.keep b o e q (by intro z;exact absurd (show b∈([]:List Addr) from z) (by simp)) (by simp)
    |some u=>
     rcases hO b with z|⟨ob,xs,z⟩
     ·rw[q] at z;cases z
     ·have z2:=un.frzs b ob _ z;obtain⟨e1,_⟩:=hok b _ z;obtain⟨e2,_⟩:=hok' b _ z2;rw[e] at e1;cases e1;exact e2
 cases hk:K.lookup a with
 |some o=>
  have e:=KX a o hk;rw[ha] at e;cases e;refine core (fun _=>none) (fun _=>.inl rfl) (.inr ⟨_,vs.toArray,_,hk,rfl,rfl,rfl,by rw[mn,lenV];exact hl,by simpa using rv⟩) (fun b u z=>by have z':(none:Option HO)=some u:=z;cases z') (fun b z=>absurd rfl z) fun z=>absurd rfl z
 |none=>
  refine core (fun b=>if b=a then some (.frz { cls:=.type "list",data:=.seq vs.toArray } (.lst (ns.map V.int))) else none) (fun b=>?_) (.inl (.inr ⟨{ cls:=.type "list",data:=.seq vs.toArray },if_pos rfl⟩)) (fun b u z=>?_) (fun b z=>?_) fun _=>hk
  ·by_cases hb:b=a
   ·exact .inr ⟨_,_,if_pos hb⟩
   ·exact .inl (if_neg hb)
  ·by_cases hb:b=a
   ·have z':=(if_pos hb).symm.trans z;cases z';subst hb;exact⟨ha,by rw[lQ];exact hl,vs,_,rv,ha⟩
   ·have z':=(if_neg hb).symm.trans z;cases z'
  ·by_cases hb:b=a
   ·exact hb
   ·exact absurd (if_neg hb) z
theorem walk_of{l:W.OpenLaw}{n k:Nat}{q:Program}{loose:List Str}{XP:(Str->Option Value)->Heap->Prop}{YP:World->Heap->Prop}{d:DefRec}{K:Params->W.Frag}{CX:World->CXT}{sp:World->Sp}{x:Str}
  (hn:l.most=some n) (hn2:n<=sizeLine) (hdf:d.params.defaults=[]) (hr:Xz k callerA)
  (hY:∀(w:World) (h:Heap),YP w h->(K w.params).In h)
  (F:∀(w:World) (mg:Str->Option Value) (fa:Addr) (h:Heap),(K w.params).In h->h.Ns mainGlobals mg->mg d.name=some (.ref fa) ->
   ∃fd:FuncData,(∀(s:Shared) (u:Value),BindsTo s fd ⟨[u],[]⟩ [(x,u)]) /\
    ∀base:Heap,(K w.params).In base->base.Ns mainGlobals mg->Z2 l.prog w (K w.params) mg base (CX w) k fa fd [x] (sp w))
  (hsp:∀(w:World) (H:Hp) (a:Addr) (ns:List Int),ns.length<=n->Only H->SqL (K w.params) H a (ns.map V.int)->sp w [.ref a] H (fun v _=>v=.bl true) fun _ _ _=>False)
  (hCX:∀(w:World) (H:Hp) (s:Shared) (e:Value) (s':Shared),CX w [] H s (fun _ _ _=>False) e s'->False) :
  W.WalkO q loose XP YP l.row.toRowW d [] (fun f vs=>PySem.call f vs):=by
 refine Att.attach_call hn hdf fun w s₀ s₁ mg mb fa o pm cd doc a vs ns G Y ho hd hcd hmg hobj hints hlen hg=>?_;have KX:=hY w _ Y;obtain⟨fd,hb,hF⟩:=F w mg fa _ KX G.T.g hmg;exact law_call KX G.T.g G.T.b G.T.builtins G.T.nolimit hg hobj hints (mC hlen hn2) hr hF hb (fun H hO hS=>hsp w H a ns hlen hO hS) fun H e s'=>hCX w H s₁ e s'
def WL(s:Stmt)(j:Nat):Stmt:=match s with
 |.ClassDef _ _ _ body _ _ _ _ _ _ _=>body.getD j (.Pass ⟨0,0,0,0⟩)
 |_=>.Pass ⟨0,0,0,0⟩
def Zr(s:Stmt):Arguments:=match s with
 |.FunctionDef _ a _ _ _ _ _ _ _ _=>a
 |_=>{ posonlyargs:=[],args:=[],vararg:=none,kwonlyargs:=[],kw_defaults:=[],kwarg:=none,defaults:=[] }
def Zo(s:Stmt):List Stmt:=match s with
 |.FunctionDef _ _ b _ _ _ _ _ _ _=>b
 |_=>[]
def Zc(s:Stmt):Scope:=match s with
 |.FunctionDef _ _ _ _ _ _ sc _ _ _=>sc
 |_=>{ kind:=.function,names:=[],isGenerator:=false,isCoroutine:=false }
abbrev CX0:CXT:=fun _ _ _ _ _ _=>False
abbrev E0:XK:=fun _ _ _=>False
theorem Zv{X:Cx}:VV CX0 X E0:=fun _ _ _ _ _ _ _ h=>h.elim
structure Fun(K:W.Frag)(x qual:Str)(st:Stmt)(f:Addr)(fd:FuncData):Prop where
 ex:∃(oc:Value) (od:Option Addr) (kV doc pm:Value) (an:Option Addr) (lM ct:Value) (osl:Array (Option Value)),
  fd=W.fnOf x qual (Zr st) (Zo st) (Zc st) .none kV doc pm an lM ct/\K.lookup f=some ⟨oc,od,.func fd,osl⟩/\W.codeIn K lM qual=true
 kp:W.keepIn K (.ref f)=true
section
variable{P:Program}{w:World}{K:W.Frag}{mg:Str->Option Value}{base:Heap}
theorem Fun.ok{x qual:Str}{st:Stmt}{f:Addr}{fd:FuncData}{N ps:List Str}{k:Nat}{sp:Sp}(F:Fun K x qual st f fd)(S:Zu N ps (Zc st))(len:∀vs H Q E,sp vs H Q E->vs.length=ps.length)
  (hbody:∀(lM:Value) (A:Around) (outer:List Env) (s:Shared) (H:Hp) (vs:List V) (Q:VK) (E:XK),Xz k (A.deeper (envOfC qual (Zc st) s.heap.objs.size f lM))->sp vs H Q E ->
   ∃t,PSs (cxOf CX0 P w K mg base N qual (Zc st) f lM A outer s H E).nox (Zo st) t/\t { nx:=fun _ H'=>Q .non H',rt:=Q } (zC N vs) H):Z2 P w K mg base CX0 (k+1) f fd ps sp:=by
 obtain⟨oc,od,kV,doc,pm,an,lM,ct,osl,rfl,lk,hcd⟩:=F.ex;refine fn_of lk hcd S len fun A outer s H vs Q E hr hsp=>?_;obtain⟨t,h,q⟩:=hbody lM A outer s H vs Q E hr hsp;exact⟨t,h.nox,q⟩
theorem Fun.binds{x qual:Str}{st:Stmt}{f:Addr}{fd:FuncData}{ps:List Str}(F:Fun K x qual st f fd)
  (h:∀(kV doc pm:Value) (an:Option Addr) (lM ct:Value) (us:List Value),us.length=ps.length->bindArgs (W.fnOf x qual (Zr st) (Zo st) (Zc st) .none kV doc pm an lM ct) ⟨us,[]⟩=pure (ps.zip us)):ZK K fd ps []:=by
 obtain⟨oc,od,kV,doc,pm,an,lM,ct,osl,rfl,lk,hcd⟩:=F.ex;exact .all (h kV doc pm an lM ct)
theorem Zj{x qual:Str}{st:Stmt}{f:Addr}{oc:Value}{od an:Option Addr}{osl:Array (Option Value)}{kV doc pm lM ct:Value}(l:K.lookup f=some ⟨oc,od,.func (W.fnOf x qual (Zr st) (Zo st) (Zc st) .none kV doc pm an lM ct),osl⟩)
  (c:W.codeIn K lM qual=true) (k:W.keepIn K (.ref f)=true):Fun K x qual st f (W.fnOf x qual (Zr st) (Zo st) (Zc st) .none kV doc pm an lM ct):=⟨⟨oc,od,kV,doc,pm,an,lM,ct,osl,rfl,l,c⟩,k⟩
end
theorem hu_of{A:Around}{k:Nat}(hr:Xz k A):A.units+1<cLine:=nt (Nat.add_le_add_left (by decide:1<=64) _) hr.units
section
variable{X:Cx}
theorem pv(i:Nat){x:Str}{pos:Pos}(hN:X.N[i]?=some x:=by rfl)(hv:Vis X.env.scope x:=by first|exact Or.inl rfl|exact Or.inr (Or.inl rfl)|exact Or.inr (Or.inr rfl))(hd:(x==("__debug__" : Str))=false:=by decide)
  (hcd:(x==("__classdict__" : Str))=false:=by decide):PE X (.Name x pos) (tVar i):=pe_var hN hv hd hcd
end
theorem Yd{A B:Prop}(h:B):if false=true then A else B:=by
 rw[if_neg mI];exact h
theorem YR{A B:Prop}(h:A):if true=true then A else B:=by
 rw[if_pos rfl];exact h
theorem WQ{c A B:Prop}[Decidable c](h1:c->A)(h2:¬c->B):if c then A else B:=by
 by_cases h:c
 ·rw[if_pos h];exact h1 h
 ·rw[if_neg h];exact h2 h
def Zh(H H':Hp):Prop:=∀b o,H b=some o->H' b=some o
theorem Zh.refl(H:Hp):Zh H H:=fun _ _ h=>h
theorem Zh.trans{H H1 H2:Hp}(a:Zh H H1)(b:Zh H1 H2):Zh H H2:=fun c o h=>b c o (a c o h)
theorem Zh.free{H H':Hp}(e:Zh H H'){l:Addr}(h:H' l=Option.none):H l=Option.none:=by
 cases q:H l with
 |none=>rfl
 |some o=>
  rw[e l o q] at h;cases h
theorem Zh.seq{K:W.Frag}{H H':Hp}{a:Addr}{xs:List V}(e:Zh H H')(h:SqL K H a xs):SqL K H' a xs:=by
 rcases h with(h|⟨o,h⟩)|h
 ·exact .inl (.inl (e _ _ h))
 ·exact .inl (.inr ⟨o,e _ _ h⟩)
 ·exact .inr h
end L2
set_option maxHeartbeats 8000000
namespace L3
open PySem PySem.Spec PyProof.Rows L2
abbrev St:=L2.St
def sub(ix:List (Option Nat))(σ:St):St:=ix.map fun o=>o.bind fun j=>(σ[j]?).join
theorem thnF{α:Type}{t:Sem α}{Q Q':α->Shared->Prop}{M:Model}{A:Around}{E:Value->Shared->Prop}{s:Shared}(h:wpAny M A t Q (fun _ _=>False) s)(hQ:∀a s,Q a s->Q' a s):wpAny M A t Q' E s:=
 oP h hQ fun _ _ z=>z.elim
def PTs(X:Cx)(ifs:List Expr)(t:TT):Prop:=
 ∀(lL:List (Addr×Obj)) (s:Shared) (σ:St) (H:Hp) (Q:Bool->Hp->Prop),Inv X lL σ H s->t σ H Q ->
  wpAny (model X.prog X.w) X.A (forIn ifs true fun c r=>if r=true then do let ok <- isTrue c X.env (eval c X.env);pure (ForInStep.yield ok) else pure (ForInStep.yield r)) (TP X lL σ Q) X.xe s
def vj:TT:=fun _ H Q=>Q true H
theorem YN{X:Cx}:PTs X [] vj:=fun _ _ _ H _ I h=>wpAny_tests_nil ⟨H,I,h⟩
theorem qM{X:Cx}{c:Expr}{t:TT}(h:PT X c t):PTs X [c] t:=fun lL s σ H Q I q=>wpAny_tests_one (h lL s σ H Q I q)
def Wo(scope:Scope)(env:Env):List (Str×Addr):=(scope.names.filter fun y=>y.2==.free).reverse.map fun y=>(y.1,(env.cells.lookup y.1).getD 0)
theorem clos_loop{env:Env}:∀(ns:List (Str×NameKind)) (acc:List (Str×Addr)),(∀y∈ns,y.2=.free->(env.cells.lookup y.1).isSome=true) ->
  (forIn ns acc fun(x:Str×NameKind) (r:List (Str×Addr))=>if x.2==.free then do let a <- cellOf env x.1;pure (ForInStep.yield ((x.1,a)::r)) else pure (ForInStep.yield r):Sem (List (Str×Addr))) =
   pure ((ns.filter fun y=>y.2==.free).reverse.map (fun y=>(y.1,(env.cells.lookup y.1).getD 0))++acc):=by
 intro ns
 induction ns with
 |nil=>intro acc _;rfl
 |cons y r ih=>
  intro acc h;have hr:∀z∈r,z.2=.free->(env.cells.lookup z.1).isSome=true:=fun z hz=>h z (mi _ hz);rw[List.forIn_cons]
  by_cases hf:(y.2==NameKind.free)=true
  ·have hs:=h y oO (by simpa using hf);obtain⟨c,hc⟩:=rF.mp hs;have e1:cellOf env y.1=pure c:=by unfold cellOf;rw[hc]
   rw[if_pos hf,e1,pure_bind,pure_bind];refine(ih _ hr).trans ?_;rw[rH (by simpa using hf),pI,mB];simp[hc]
  ·rw[if_neg hf,pure_bind];refine(ih _ hr).trans ?_;rw[rJ (by simpa using hf)]
theorem clos_eq{scope:Scope}{env:Env}(h:∀y∈scope.names,y.2=.free->(env.cells.lookup y.1).isSome=true):closureFor scope env=pure (Wo scope env):=by
 have e:=clos_loop (env:=env) scope.names [] h;rw[nW] at e;unfold closureFor;rw[show Wo scope env=(scope.names.filter fun y=>y.2==.free).reverse.map (fun y=>(y.1,(env.cells.lookup y.1).getD 0)) from rfl];rw[<- pure_bind (m:=Sem) ((scope.names.filter fun y=>y.2==.free).reverse.map (fun y=>(y.1,(env.cells.lookup y.1).getD 0))) pure,<- e]
theorem V0{β:Type}(f:Str->β):∀(l:List (Str×NameKind)) (x:Str),(l.map fun y=>(y.1,f y.1)).lookup x=if x∈l.map (·.1) then some (f x) else none
 |[],x=>by simp
 |y::r,x=>by
  rw[lX,mS,V0 f r x]
  by_cases e:x=y.1
  ·subst e;simp
  ·have hb:(x==y.1)=false:=by simpa using e
   rw[hb]
   by_cases hm:x∈r.map (·.1)
   ·rw[if_pos hm,if_pos (by rw[lX];exact mi _ hm)]
   ·rw[if_neg hm,if_neg (by rw[lX];intro z;rcases mw.mp z with z|z;exact e z;exact hm z)]
theorem WC{scope:Scope}{env:Env}{x:Str}{c:Addr}(h:∀y∈scope.names,y.2=.free->(env.cells.lookup y.1).isSome=true)(e:(Wo scope env).lookup x=some c):env.cells.lookup x=some c:=by
 unfold Wo at e;rw[V0 (fun z=>(env.cells.lookup z).getD 0)] at e
 split at e
 ·rename_i hx
  obtain⟨y,hy,rfl⟩:=mE.mp hx;obtain⟨h1,h2⟩:=rB.mp (List.mem_reverse.mp hy);obtain⟨d,hd⟩:=rF.mp (h y h1 (by simpa using h2));have e':=mv e;rw[hd] at e' ⊢;exact my some e'
 ·cases e
theorem xb{scope:Scope}{env:Env}{x:Str}(hx:(x,NameKind.free)∈scope.names):∃c,(Wo scope env).lookup x=some c:=by
 unfold Wo;rw[V0 (fun z=>(env.cells.lookup z).getD 0),if_pos]
 ·exact⟨_,rfl⟩
 ·exact mE.mpr ⟨(x,.free),List.mem_reverse.mpr (rB.mpr ⟨hx,by simp⟩),rfl⟩
theorem qH{env:Env}:∀{names:List (Str×NameKind)}{x:Str}{k:NameKind},
  (names.map fun(n,k)=>if(k==NameKind.free&&env.scope.kind==.function&&env.kindOf n==some .cell) then(n,NameKind.cell) else(n,k)).lookup x=some k ->
   names.lookup x=some k\/(k=.cell/\names.lookup x=some .free)
 |[],_,_,h=>by simp at h
 | (n,k0)::r,x,k,h=>by
  rw[lX] at h;dsimp only at h;cases hx:x==n with
  |true=>
   by_cases hc:(k0==NameKind.free&&env.scope.kind==.function&&env.kindOf n==some .cell)=true
   ·rw[if_pos hc] at h;simp only[mS,hx] at h ⊢;have:k0=.free:=by
     have h1:=(mR _ _▸((mR _ _▸hc).1)).1;simpa using h1
    exact .inr ⟨(mv h).symm,by rw[this]⟩
   ·rw[if_neg hc] at h;simp only[mS,hx] at h ⊢;exact .inl h
  |false=>
   have h':(r.map fun(n,k)=>if(k==NameKind.free&&env.scope.kind==.function&&env.kindOf n==some .cell) then(n,NameKind.cell) else(n,k)).lookup x=some k:=by
    by_cases hc:(k0==NameKind.free&&env.scope.kind==.function&&env.kindOf n==some .cell)=true
    ·rw[if_pos hc] at h;simpa only[mS,hx] using h
    ·rw[if_neg hc] at h;simpa only[mS,hx] using h
   simp only[mS,hx];exact qH h'
theorem qI{env:Env}:∀{names:List (Str×NameKind)}{x:Str},names.lookup x=some .free ->
  (names.map fun(n,k)=>if(k==NameKind.free&&env.scope.kind==.function&&env.kindOf n==some .cell) then(n,NameKind.cell) else(n,k)).lookup x=some .cell \/
  (names.map fun(n,k)=>if(k==NameKind.free&&env.scope.kind==.function&&env.kindOf n==some .cell) then(n,NameKind.cell) else(n,k)).lookup x=some .free
 |[],_,h=>by simp at h
 | (n,k0)::r,x,h=>by
  rw[lX];dsimp only;cases hx:x==n with
  |true=>
   simp only[mS,hx] at h;have e:k0=.free:=mv h
   by_cases hc:(k0==NameKind.free&&env.scope.kind==.function&&env.kindOf n==some .cell)=true
   ·rw[if_pos hc];exact .inl (by simp only[mS,hx])
   ·rw[if_neg hc];exact .inr (by simp only[mS,hx];rw[e])
  |false=>
   simp only[mS,hx] at h;have ih:=qI (env:=env) h
   by_cases hc:(k0==NameKind.free&&env.scope.kind==.function&&env.kindOf n==some .cell)=true
   ·rw[if_pos hc];simpa only[mS,hx] using ih
   ·rw[if_neg hc];simpa only[mS,hx] using ih
structure ZY(sc:Scope)(N Nc:List Str)(ix:List (Option Nat))(scope:Scope):Prop where
 kind:scope.kind=.function
 nocell:∀y∈scope.names,y.2≠.cell
 names:∀y∈scope.names,y.2=.local->scope.names.lookup y.1=some .local
 free:∀y∈scope.names,y.2=.free->sc.names.lookup y.1=some .cell\/sc.names.lookup y.1=some .free
 len:ix.length=Nc.length
 chk:((ix.zip Nc).all fun p=>match p.1 with|none=>true|some j=>N[j]?==some p.2&&scope.names.lookup p.2==some .free)=true
theorem ZY.at_{sc:Scope}{N Nc:List Str}{ix:List (Option Nat)}{scope:Scope}(o:ZY sc N Nc ix scope){i j:Nat}{x:Str}(h1:ix[i]?=some (some j))(h2:Nc[i]?=some x):N[j]?=some x/\scope.names.lookup x=some .free:=by
 have hm:(some j,x)∈ix.zip Nc:=by
  refine mM (i:=i) ?_;rw[List.getElem?_zip_eq_some];exact⟨h1,h2⟩
 have q:=nH.mp o.chk _ hm;have q':=mR _ _▸q;exact⟨by simpa using q'.1,by simpa using q'.2⟩
def YT(X:Cx)(Nc:List Str)(scope:Scope)(cl:List (Str×Addr))(C:Addr)(s:Shared)(H:Hp)(fp:List Addr):Cx where
 prog:=X.prog
 w:=X.w
 K:=X.K
 mg:=X.mg
 base:=X.base
 A:=X.A
 N:=Nc
 s₀:=s
 H₀:=H
 env:=compEnvC scope cl C X.env
 outer:=X.stack
 stack:=X.stack
 ex:=fp
 fn:=fun x=>(cl.lookup x).isNone
 calm:=X.calm
 pn:=X.pn
 xe:=fun _ _=>False
section
variable{X:Cx}{lL:List (Addr×Obj)}{σ:St}{H:Hp}{s:Shared}{Nc:List Str}{ix:List (Option Nat)}{scope:Scope}
theorem zh(I:Inv X lL σ H s)(ok:ZY X.env.scope X.N Nc ix scope):∀y∈scope.names,y.2=.free->(X.env.cells.lookup y.1).isSome=true:=fun y hy hf=>by
 obtain⟨c,hc⟩:=I.ok.has y.1 (ok.free y hy hf);rw[hc];rfl
theorem JI{fp:List Addr}{h1:Heap}{t':Nat}(I:Inv X lL σ H s)(ok:ZY X.env.scope X.N Nc ix scope)(hf:∀b∈fp,UD X lL H b)(hob:∀b∈fp,∃o,s.heap.get? b=some o)
  {m:Str->Option Value} (hn:h1.Ns s.heap.objs.size m) (hk:∀b o,s.heap.get? b=some o->h1.get? b=some o) :
  Inv (YT X Nc scope (Wo scope X.env) s.heap.objs.size s H fp) lL (sub ix σ) H { s with heap:=h1,toks:=t' }:=by
 have ac:=zh I ok;have old:∀{b:Addr}{o:Obj},s.heap.get? b=some o->b≠s.heap.objs.size:=fun e=>me (md e);refine⟨⟨I.ok.mod,?_,I.ok.glob,I.ok.blt,lS _,?_,?_,?_,I.ok.hd,I.ok.frames,.inl rfl,?_,I.bs,mC I.ok.bsz I.sz,?_,?_,I.stack,I.stkFree⟩,rfl,I.bare,Un.kept hk,⟨m,hn,?_⟩,?_,?_,?_,?_,I.hok.kept hk,?_⟩
 ·exact ok.kind
 ·intro x y c e1 e2;exact I.ok.inj x y c (WC ac e1) (WC ac e2)
 ·intro x hx;have key:∀k,(relabel scope X.env).names.lookup x=some k->(k=.cell\/k=.free)->∃c,(Wo scope X.env).lookup x=some c:=fun k e hkk=>by
   rcases qH e with q|⟨_,q⟩
   ·rcases hkk with rfl|rfl
    ·exact absurd rfl (ok.nocell _ (nX q))
    ·exact xb (nX q)
   ·exact xb (nX q)
  rcases hx with e|e
  ·exact key _ e (.inl rfl)
  ·exact key _ e (.inr rfl)
 ·intro x c hfn e;have e':(Wo scope X.env).lookup x=some c:=e;have hfn':((Wo scope X.env).lookup x).isNone=true:=hfn;rw[e'] at hfn';cases hfn'
 ·intro b hb;obtain⟨o,e⟩:=hob b hb;obtain⟨f0,f1,f2,f3,f4,f5⟩:=hf b hb;exact⟨old e,fun x c q=>f4 x c (WC ac q)⟩
 ·intro b o e hb;obtain⟨f0,f1,f2,f3,f4,f5⟩:=hf b hb;rcases f3 with z|z
  ·exact I.ok.noex b o e z
  ·exact absurd (mU (mU (md e) I.ok.bsz) z) (oi _)
 ·intro b hb hz;obtain⟨f0,f1,f2,f3,f4,f5⟩:=hf b hb;rcases mw.mp (I.stkSub b hz) with z|z
  ·exact f1 z
  ·exact f2 z
 ·intro i x v e1 e2 e3;have e1:Nc[i]?=some x:=e1;unfold sub at e2;rw[mh] at e2;cases hi:ix[i]? with
  |none=>rw[hi] at e2;cases e2
  |some o=>
   cases o with
   |none=>rw[hi] at e2;cases e2
   |some j=>
    obtain⟨hN,hfree⟩:=ok.at_ hi e1;have e4:σ[j]?=some (some v):=by
     rw[hi] at e2;have e2':some ((σ[j]?).join)=some (some v):=e2;have e5:=mv e2';cases hj:σ[j]? with
     |none=>rw[hj] at e5;cases e5
     |some z=>rw[hj] at e5;exact my some e5
    have hvis:Vis X.env.scope x:=by
     rcases ok.free (x,.free) (nX hfree) rfl with q|q
     ·exact .inr (.inl q)
     ·exact .inr (.inr q)
    obtain⟨m0,hn0,hl⟩:=I.loc;obtain⟨u,r,lk⟩:=hl j x v hN e4 hvis;refine⟨u,r,.inr ⟨qI hfree,?_⟩⟩;rcases lk with⟨q,_⟩|⟨_,c,hc,z⟩
    ·rcases ok.free (x,.free) (nX hfree) rfl with q2|q2
     ·exact absurd (q.symm.trans q2) (by decide)
     ·exact absurd (q.symm.trans q2) (by decide)
    ·obtain⟨d,hd⟩:=xb (env:=X.env) (nX hfree);have:=WC ac hd;rw[hc] at this;cases this;obtain⟨oc,e5,e6⟩:=z;exact⟨c,hd,oc,hk c oc e5,e6⟩
 ·intro x c e;obtain⟨v,oc,e5,e6⟩:=I.cell x c (WC ac e);exact⟨v,oc,hk c oc e5,e6⟩
 ·exact I.hok.fresh (lS _)
 ·intro x c e;exact I.freeC x c (WC ac e)
 ·intro p hp;obtain⟨e,n,ne,nf,d⟩:=I.pin p hp;refine⟨hk _ _ e,n,old e,fun z=>?_,d⟩;rcases mw.mp (I.stkSub p.1 z) with q|q
  ·exact ne q
  ·exact nf q
 ·unfold sub;rw[lQ];exact ok.len
theorem comp_end{fp:List Addr}{cl:List (Str×Addr)}{C:Addr}{σ':St}{H':Hp}{s':Shared}{h':Heap}(I:Inv X lL σ H s)(hf:∀b∈fp,UD X lL H b)(hC:s.heap.get? C=none)
  (J:Inv (YT X Nc scope cl C s H fp) lL σ' H' s') (sb:Heap.SameBut C s'.heap h'):Inv X lL σ H' { s' with heap:=h' }:=by
 have u:Un (frs X.stack) fp H H' s.heap s'.heap:=J.base;have hCf:H' C=none:=J.free;have hCn:∀{b:Addr}{o:Obj},s.heap.get? b=some o->b≠C:=fun e z=>by rw[z,hC] at e;cases e
 refine I.call' (s':={ s' with heap:=h' }) (ch:=fp) J.os ⟨fun b o e n h1 h2=>?_,fun b o e n h1 h2=>?_,u.free,fun b o e h2=>?_,u.tups,u.frzs,u.tbls⟩ ?_ J.bare fun b hb=>?_
 ·exact(sb.2 b (hCn e)).trans (u.keep b o e n h1 h2)
 ·obtain⟨sl,q⟩:=u.slot b o e n h1 h2;exact⟨sl,(sb.2 b (hCn e)).trans q⟩
 ·obtain⟨o',q⟩:=u.there b o e h2;exact⟨o',(sb.2 b (hCn e)).trans q⟩
 ·intro b o e;refine(J.hok b o e).stay (fun c v hc q=>(sb.2 c ?_).trans q) (fun _ q=>q) fun _ _ q=>q;rintro rfl;rcases hc with z|z
  ·rw[<- z,hCf] at e;cases e
  ·rw[hCf] at z;cases z
 ·obtain⟨f0,f1,f2,f3,f4,f5⟩:=hf b hb;exact⟨f3,f1,f4,f5⟩
end
def UY(k:Key)(l:List Key):Bool:=l.any fun x=>decide (x=k)
theorem j6{k:Key}{l:List Key}:UY k l=true↔k∈l:=by
 unfold UY;rw[List.any_eq_true];constructor
 ·rintro⟨x,hx,e⟩;have:=mO e;subst this;exact hx
 ·intro h;exact⟨k,h,by simp⟩
theorem memK_snoc(k' k:Key)(l:List Key):(UY k' l||decide (k'=k))=UY k' (l++[k]):=by
 unfold UY;rw[List.any_append]
 by_cases e:k'=k
 ·subst e;simp
 ·have e':¬k=k':=fun z=>e z.symm;simp[e,e']
theorem memK_not{k:Key}{l:List Key}(h:¬k∈l):UY k l=false:=by
 cases e:UY k l with
 |false=>rfl
 |true=>exact absurd (j6.mp e) h
theorem Jj{k:Key}{v:Value}(h:Ut k v=true):v.scannable=true:=by
 rcases Yv h with⟨i,t,rfl,rfl⟩|⟨x,t,rfl,rfl⟩<;>rfl
theorem qj{prog:Program}{w:World}{h:Heap}{a:Addr}{S S':Key->Bool}{n n':Nat}(x:h.SetOf (ZC prog w) a S n)(e:∀k,S k=S' k)(en:n=n'):h.SetOf (ZC prog w) a S' n':=by
 have:S=S':=funext e;subst this;subst en;exact x
theorem U2{prog:Program}{w:World}{h h':Heap}{a:Addr}{S:Key->Bool}{n:Nat}(x:h.SetOf (ZC prog w) a S n)(k:∀o,h.get? a=some o->h'.get? a=some o):h'.SetOf (ZC prog w) a S n:=by
 obtain⟨o,es,ep,t,ho,r⟩:=x;exact⟨o,es,ep,t,k o ho,r⟩
section
variable{prog:Program}{w:World}{A:Around}{E:Value->Shared->Prop}{R:Result->Shared->Prop}
theorem set_loop{I ax S:Addr}{items:Array Value}{ks:List Key}(hh:A.handled=none)(hne:ax≠I)(hSI:S≠I)(hSa:S≠ax)
  (hv:∀(i:Nat) v,items[i]?=some v->∃k,ks[i]?=some k/\Ut k v=true) (hl:ks.length=items.size) (hb:items.size+1<scanBound) :
  ∀(c i:Nat) (s:Shared) (n:Nat),items.size-i=c->i<=items.size->s.heap.IsListIter I ax i/\s.heap.IsList ax items ->
   s.heap.SetOf (ZC prog w) S (fun k=>UY k (ks.take i)) n->n<=i->(n=i↔(ks.take i).Nodup) ->
   (∀(h':Heap) (tk n':Nat),h'.SetOf (ZC prog w) S (fun k=>UY k ks) n'->n'<=ks.length->(n'=ks.length↔ks.Nodup)->(∀b o,b≠S->b≠I->s.heap.get? b=some o->h'.get? b=some o) ->
    R (.ok (.ret .none)) { s with heap:=h',toks:=tk }) ->
   codeAny (model prog w) A (.builtin "set.update.loop" ⟨[.ref S,.ref I],[]⟩) R s:=by
 have W:=Walks.list (prog:=prog) (w:=w) (A:=A.in1) (by simpa using hh) I ax hne items;intro c
 induction c with
 |zero=>
  intro i s n hc hi st hS hn hnd hR;have e:i=items.size:=by omega
  subst e;refine nZ rK ?_;rw[oB pj _]
  show wpAny _ A.in1 (pyNext (.ref I) >>= _) _ _ s
  refine lO (W.done s _ _ st fun h' tk hk=>?_)
  show wpAny _ A.in1 (ret Value.none) _ _ _
  have et:ks.take items.size=ks:=by rw[<- hl];exact pq
  rw[et] at hnd;refine lT (hR h' tk n (qj (U2 hS fun o z=>hk S o (by simpa using hSI) z) (fun k=>by rw[et]) rfl) (by omega) (by rw[hl];exact hnd) fun b o _ hbI z=>hk b o (by simpa using hbI) z)
 |succ c ih=>
  intro i s n hc hi st hS hn hnd hR;have hlt:i<items.size:=by omega
  refine nZ rK ?_;rw[oB pj _]
  show wpAny _ A.in1 (pyNext (.ref I) >>= _) _ _ s
  refine lO (W.item i s _ _ hlt st fun v h1 tk hP st1 hk=>?_);obtain⟨k,hki,kis⟩:=hv i v hP;have hS1:h1.SetOf (ZC prog w) S (fun k=>UY k (ks.take i)) n:=U2 hS fun o z=>hk S o (by simpa using hSI) z
  show wpAny _ A.in1 (holding [v] (setAdd S v) >>= _) _ _ { s with heap:=h1,toks:=tk }
  refine lO (nj ?_);unfold setAdd;refine nj (lO ((ZC prog w).pyHash (k:=k) kis ?_));refine wpAny_setAddHashed_of (knd:=ZC prog w) (s:={ s with heap:=h1,toks:=tk+1 }) kis (Jj kis) hS1 (by omega) fun h2 hsb hS2=>?_;have hik:i<ks.length:=by omega
  have ek:ks[i]=k:=by
   have:=lU hik;rw[hki] at this;exact(mv this).symm
  have et:ks.take (i+1)=ks.take i++[k]:=by rw[List.take_add_one,hki];rfl
  have e1:∀k',(UY k' (ks.take i)||decide (k'=k))=UY k' (ks.take (i+1)):=fun k'=>by rw[et];exact memK_snoc _ _ _
  by_cases hin:k∈ks.take i
  ·have hS3:=qj (n':=n) hS2 e1 (by rw[if_pos (j6.mpr hin)]);refine lT ⟨oC pj _,ih (i+1) _ n (by omega) hlt (W.frame _ _ _ st1 fun b hb o z=>?_) hS3 (by omega) ?_ fun h' tk' n' a1 a2 a3 a4=>?_⟩
   ·rw[hsb.2 b (fun q=>by subst q;simp at hb;exact hb.elim hSI hSa)];exact z
   ·constructor
    ·intro q;omega
    ·intro q;rw[et] at q;exact absurd hin (fun z=>(pJ.mp q).2.2 _ z _ (by simp) rfl)
   ·exact hR h' tk' n' a1 a2 a3 fun b o hbS hbI z=>a4 b o hbS hbI (by rw[hsb.2 b hbS];exact hk b o (by simpa using hbI) z)
  ·have hS3:=qj (n':=n+1) hS2 e1 (by rw[memK_not hin];rfl);refine lT ⟨oC pj _,ih (i+1) _ (n+1) (by omega) hlt (W.frame _ _ _ st1 fun b hb o z=>?_) hS3 (by omega) ?_ fun h' tk' n' a1 a2 a3 a4=>?_⟩
   ·rw[hsb.2 b (fun q=>by subst q;simp at hb;exact hb.elim hSI hSa)];exact z
   ·rw[et];constructor
    ·intro q;exact pJ.mpr ⟨hnd.mp (by omega),by simp,fun a ha b hb q2=>by rw[mr.mp hb] at q2;subst q2;exact hin ha⟩
    ·intro q;have:=hnd.mpr (pJ.mp q).1;omega
   ·exact hR h' tk' n' a1 a2 a3 fun b o hbS hbI z=>a4 b o hbS hbI (by rw[hsb.2 b hbS];exact hk b o (by simpa using hbI) z)
set_option maxHeartbeats 8000000 in
theorem xu{s:Shared}{l:Addr}{items:Array Value}{ks:List Key}{Q:Value->Shared->Prop}(hh:A.handled=none)(hl:s.heap.IsList l items)
  (hv:∀(i:Nat) v,items[i]?=some v->∃k,ks[i]?=some k/\Ut k v=true) (hz:ks.length=items.size) (hb:items.size+1<scanBound)
  (h:∀(h':Heap) (tk n:Nat),h'.SetOf (ZC prog w) s.heap.objs.size (fun k=>UY k ks) n->n<=ks.length->(n=ks.length↔ks.Nodup)->(∀b o,s.heap.get? b=some o->h'.get? b=some o)->Q (.ref s.heap.objs.size) { s with heap:=h',toks:=tk }) :
  wpAny (model prog w) A (call (.type "set") [.ref l]) Q E s:=by
 have hmade:=nn.made;have hsub:=nn.sub;obtain⟨c,tl,hmro⟩:=nn.mro;refine wpAny_call (codeAny_of_tree (lT ⟨Code.quiet_builtin _ (by decide +kernel),nZ PySem.F.entry_type_call ?_⟩));rw[Around.under_plain (weight_type_call_type "set" [.ref l] []) rfl];have g1:=nn.notType;have g2:=nn.canCreate;have g3:=PySem.F.typeCall_set_1 (.ref l)
 repeat (any_goals (first|assumption|wp_step))
 refine oS (code_set_new_1 (.ref l) (E:=E) (Q₁:=fun obj t=>∃led:Bool,obj=.ref s.heap.objs.size/\t={ s with heap:=s.heap.push { cls:=.type "set",dict:=none,data:=.set #[] 0 (.fresh 0 0 led) } }) fun led=>⟨led,rfl,rfl⟩) fun r t hr=>?_;cases r with
 |error e=>exact hr
 |ok fl=>
  cases fl with
  |ret obj=>
   obtain⟨led,rfl,rfl⟩:=hr;have hS:(s.heap.push { cls:=.type "set",dict:=none,data:=.set #[] 0 (.fresh 0 0 led) }).get? s.heap.objs.size=some { cls:=.type "set",dict:=none,data:=.set #[] 0 (.fresh 0 0 led) }:=mD _ rfl;have hT:Shared.TypeIs { s with heap:=s.heap.push { cls:=.type "set",dict:=none,data:=.set #[] 0 (.fresh 0 0 led) } } (.ref s.heap.objs.size) "set" := ⟨_,hS,rfl⟩;have hli:=nn.init.lookup;have hbi:=nn.init.bind (.ref s.heap.objs.size)
   repeat (any_goals (first|assumption|wp_step))
   refine oS (codeAny_call_builtin (R:=wants (fun r u=>r=.none/\∃h' tk n,u={ s with heap:=h',toks:=tk }/\h'.SetOf (ZC prog w) s.heap.objs.size (fun k=>UY k ks) n/\n<=ks.length/\(n=ks.length↔ks.Nodup) /\
     (∀b o,s.heap.get? b=some o->h'.get? b=some o)) E) nn.init.plain PySem.F.entry_set_init (check_set_init_1 hT ?_)) fun r2 u hr2=>?_
   ·obtain⟨ol,hol,hcl,nl,hdl⟩:=hl;obtain⟨ocls,odict,odata,oslots⟩:=ol;simp only at hcl hdl;subst hcl;subst hdl;have hol':(s.heap.push { cls:=.type "set",dict:=none,data:=.set #[] 0 (.fresh 0 0 led) }).get? l=some { cls:=.type "list",dict:=odict,data:=.seq items nl,slots:=oslots }:=lZ _ hol;have hsls:=PySem.F.sub_list_set;have hslf:=PySem.F.sub_list_frozenset;have hne:(Value.type "list" == Value.type "dict")=false:=by decide
    have hl1:(s.heap.push { cls:=.type "set",dict:=none,data:=.set #[] 0 (.fresh 0 0 led) }).IsList l items:=⟨_,hol',rfl,nl,rfl⟩;unfold Builtin.«set.__init__» noKeywords Builtin.Frozenset.updateFrom;generalize hPI:pyIter=PI
    wp_walk
    subst hPI;refine rD hl1 ?_;refine lO (wpAny_runValue ?_);have hlS:l<s.heap.objs.size:=md hol;have z1:(s.heap.push { cls:=.type "set",dict:=none,data:=.set #[] 0 (.fresh 0 0 led) }).objs.size=s.heap.objs.size+1:=ou _ _;refine set_loop (ks:=ks) (items:=items) (ax:=l) (by simpa using hh) (by rw[z1];exact me (og hlS)) (by rw[z1];exact me (oR _)) (mY hlS) hv hz hb (items.size-0) 0 _ 0 (by omega) (mN _)
     ⟨⟨_,mD _ rfl,rfl,rfl⟩,(hl1.push _)⟩ ?hS0 (lS _) (by simp) ?hR
    case hS0=>
     refine qj (U2 (h:=s.heap.push { cls:=.type "set",dict:=none,data:=.set #[] 0 (.fresh 0 0 led) }) ?_ fun o z=>lZ _ z) (S:=fun _=>false) (fun k=>rfl) rfl;exact⟨_,#[],0,_,hS,⟨rfl,rfl,rfl⟩,rfl,(fun e he=>by simp at he),(fun k=>by simp[UY]),(by unfold scanBound;decide),rfl,rfl⟩
    case hR=>
     intro h' tk n a1 a2 a3 a4
     show wpAny _ _ _ _ _ _
     refine lT ?_
     show wpAny _ _ (ret Value.none) _ _ _
     refine lT ⟨rfl,h',tk,n,rfl,a1,a2,a3,fun b o z=>?_⟩;have hlt:=md z;exact a4 b o (me hlt) (by rw[z1];exact me (og hlt)) (lZ _ (lZ _ z))
   ·cases r2 with
    |error e=>exact hr2
    |ok fl2=>
     cases fl2 with
     |ret r=>
      obtain⟨rfl,h',tk,n,rfl,a1,a2,a3,a4⟩:=hr2
      repeat (any_goals (first|assumption|wp_step))
      exact h _ _ n a1 a2 a3 a4
     |_=>exact hr2.elim
  |_=>exact hr.elim
end
def SetN(a:Addr)(n:Nat):HO:=.ext fun h=>∃o es ep t,h.get? a=some o/\o.ExactSet/\o.data=.set es ep t/\t.fits es.size=true/\es.size=n
section
variable{X:Cx}
theorem vy:∀{ks:List Key}{us:List Value},ZH (ks.map kV) us->∀(i:Nat) v,us[i]?=some v->∃k,ks[i]?=some k/\Ut k v=true
 |[],_,.nil,i,v,h=>by simp at h
 |k::r,_,.cons a b,0,v,h=>by
  simp at h;subst h;refine⟨k,rfl,?_⟩;cases k with
  |inl n=>obtain⟨t,rfl⟩:=a;exact VJ n t
  |inr x=>obtain⟨t,rfl⟩:=a;exact xZ x t
 |k::r,_,.cons a b,i+1,v,h=>by
  obtain⟨k',e,q⟩:=vy b i v (by simpa using h);exact⟨k',by simpa using e,q⟩
theorem call_set(hc:X.calm=true):YB X (.type "set") (fun xs H Q=>∃(p:Addr) (ks:List Key),xs=[.ref p]/\SqL X.K H p (ks.map kV)/\ks.length<4000/\∀n a,n<=ks.length->(n=ks.length↔ks.Nodup)->H a=none->Q (.ref a) (upd H a (SetN a n))):=by
 intro lL s σ H xs us Q I r h;obtain⟨p,ks,rfl,hq,hl,q⟩:=h;obtain⟨u,rfl,ru⟩:=VG r;obtain rfl:u=Value.ref p:=ru;obtain⟨its,rv,pl,hz⟩:=I.list hq;have el:=rv.length;rw[lQ] at el;refine xu (I.ok.hd hc) pl.isList (fun i v e=>vy rv i v (by simpa using e)) (by simpa using el) (by unfold scanBound;simp;omega) fun h' tk n a1 a2 a3 a4=>?_;refine⟨.ref s.heap.objs.size,_,I.laid a4 (lS _) ?_,rfl,q n _ a2 a3 (I.hok.fresh (lS _))⟩;obtain⟨o,es,ep,t,ho,e1,e2,e3,e4,e5,e6,e7⟩:=a1;refine⟨⟨o,es,ep,t,ho,e1,e2,e6,e7⟩,⟨o,ho⟩,?_⟩;rintro h1 h2 ⟨o1,es1,ep1,t1,b1,b2⟩ k;exact⟨o1,es1,ep1,t1,k _ b1,b2⟩
theorem call_lenS:YB X (.builtin "len") (fun xs H Q=>∃a n,xs=[.ref a]/\H a=some (SetN a n)/\n<4000/\Q (.int n) H):=by
 intro lL s σ H xs us Q I r h;obtain⟨a,n,rfl,ha,hn,q⟩:=h;obtain⟨u,rfl,ru⟩:=VG r;obtain rfl:u=Value.ref a:=ru;obtain⟨⟨o,es,ep,t,e1,e2,e3,e4,e5⟩,_⟩:=I.hok a _ ha;refine call_len_set e1 e2 e3 e4 (by omega) ?_;exact⟨.int n,H,I.tok _,⟨_,by rw[e5]⟩,q⟩
end
def YO(ns:List Int):List Int:=ns.mergeSort fun a b=>decide (a<=b)
theorem VX(ns:List Int):(YO ns).Perm ns:=List.mergeSort_perm _ _
theorem sortI_pw(ns:List Int):(YO ns).Pairwise (·<=·):=by
 have h:=List.pairwise_mergeSort (le:=fun a b:Int=>decide (a<=b)) (fun a b c h1 h2=>by simp at *; omega) (fun a b=>by simp;omega) ns;exact h.imp fun h=>by simpa using h
theorem sortI_eq{ns ms:List Int}(hp:ms.Perm ns)(hs:ms.Pairwise (·<=·)):ms=YO ns:=
 W.ksm_same (hp.trans (VX ns).symm) hs (sortI_pw ns)
def leS(a b:Str):Bool:=!decide (b.cps.toList<a.cps.toList)
theorem xX(a b c:Str)(h1:leS a b=true)(h2:leS b c=true):leS a c=true:=by
 unfold leS at *;simp only[Bool.not_eq_true',rL,List.not_lt] at *;exact List.le_trans h1 h2
theorem leS_total(a b:Str):(leS a b||leS b a)=true:=by
 unfold leS;simp only[pZ,Bool.not_eq_true',rL,List.not_lt];exact List.le_total _ _
theorem leS_anti{a b:Str}(h1:leS a b=true)(h2:leS b a=true):a=b:=by
 unfold leS at *;simp only[Bool.not_eq_true',rL,List.not_lt] at *;have e:=List.le_antisymm h1 h2;cases a;cases b;simp only[Str.mk.injEq];exact Array.toList_inj.mp e
def Vc(ss:List Str):List Str:=ss.mergeSort leS
theorem U7(ss:List Str):(Vc ss).Perm ss:=List.mergeSort_perm _ _
theorem sortS_pw(ss:List Str):(Vc ss).Pairwise (fun a b=>leS a b=true):=List.pairwise_mergeSort (le:=leS) xX leS_total ss
theorem sortS_eq{ss ts:List Str}(hp:ts.Perm ss)(hs:ts.Pairwise fun a b=>leS a b=true):ts=Vc ss:=
 (hp.trans (U7 ss).symm).eq_of_pairwise (fun x y _ _ h1 h2=>leS_anti h1 h2) hs (sortS_pw ss)
theorem x9:∀(l:List Str) (p:Str),risingS p l=true->(∀y∈l,leS p y=true)/\l.Pairwise fun a b=>leS a b=true
 |[],_,_=>⟨fun _ h=>(nomatch h),.nil⟩
 |x::r,p,h=>by
  have h':(!ltCps x.cps.toList p.cps.toList&&risingS x r)=true:=h;rw[mR] at h';have hx:leS p x=true:=by
   have:=h'.1;rw[ltCps_eq] at this;exact this
  obtain⟨a,b⟩:=x9 r x h'.2;refine⟨fun y hy=>?_,.cons (fun y hy=>a y hy) b⟩;rcases mw.mp hy with rfl|hy
  ·exact hx
  ·exact xX _ _ _ hx (a y hy)
theorem JX{l:List Str}(h:sortedS l=true):l.Pairwise fun a b=>leS a b=true:=by
 cases l with
 |nil=>exact .nil
 |cons x r=>
  obtain⟨a,b⟩:=x9 r x h;exact .cons a b
theorem yZ:∀{ss:List Str}{us:List Value},ZH (ss.map V.str) us->StrsAre us ss
 |[],_,.nil=>.nil
 |x::r,_,.cons a b=>by
  obtain⟨t,rfl⟩:=a;exact .cons x t (yZ b)
theorem vh:∀{ss:List Str}{us:List Value},StrsAre us ss->ZH (ss.map V.str) us
 |_,_,.nil=>.nil
 |_,_,.cons y t r=>.cons ⟨t,rfl⟩ (vh r)
theorem yK:∀{ns:List Int}{us:List Value},IntsAre us ns->ZH (ns.map V.int) us
 |_,_,.nil=>.nil
 |_,_,.cons n t r=>.cons ⟨t,rfl⟩ (yK r)
theorem yL:∀{bs:List Bool}{us:List Value},ZH (bs.map V.bl) us->∀(i:Nat) v,us[i]?=some v->∃b,bs[i]?=some b/\v=.bool b
 |[],_,.nil,i,v,h=>by simp at h
 |b::r,_,.cons a c,0,v,h=>by simp at h;subst h;exact⟨b,rfl,a⟩
 |b::r,_,.cons a c,i+1,v,h=>by
  obtain⟨b',e,q⟩:=yL c i v (by simpa using h);exact⟨b',by simpa using e,q⟩
section
variable{X:Cx}
theorem jE:YB X (.builtin "sorted") (fun xs H Q=>∃(p:Addr) (ns:List Int),xs=[.ref p]/\SqL X.K H p (ns.map V.int)/\ns.length<64/\∀l,H l=none->Q (.ref l) (upd H l (.lst ((YO ns).map V.int)))):=by
 intro lL s σ H xs us Q I r h;obtain⟨p,ns,rfl,hq,hl,q⟩:=h;obtain⟨u,rfl,ru⟩:=VG r;obtain rfl:u=Value.ref p:=ru;obtain⟨its,rv,pl,hz⟩:=I.list hq;have el:=rv.length;rw[lQ] at el;refine sorted_ints pl.isList (Jp rv) (by omega) fun out ms a1 a2 a3=>?_;obtain rfl:=sortI_eq a2 a3;obtain⟨e,he⟩:=sortedAll_at s.heap its out;have hlen:((YO ns).map V.int).length<=sizeLine:=by rw[lQ,(VX ns).length_eq,<- lQ (f:=V.int)];exact hz
 have ne:H (s.heap.objs.size+1)=none:=I.hok.fresh (oy _);exact⟨.ref (s.heap.objs.size+1),_,I.laid (o:=.lst ((YO ns).map V.int)) (t':=s.toks) (fun b o z=>sortedAll_old z) (oy _) ⟨hlen,out.toList,e,yK a1,by simpa using he⟩,rfl,q _ ne⟩
theorem jN:YB X (.builtin "sorted") (fun xs H Q=>∃(p:Addr) (ss:List Str),xs=[.ref p]/\SqL X.K H p (ss.map V.str)/\ss.length<64/\∀l,H l=none->Q (.ref l) (upd H l (.lst ((Vc ss).map V.str)))):=by
 intro lL s σ H xs us Q I r h;obtain⟨p,ns,rfl,hq,hl,q⟩:=h;obtain⟨u,rfl,ru⟩:=VG r;obtain rfl:u=Value.ref p:=ru;obtain⟨its,rv,pl,hz⟩:=I.list hq;have el:=rv.length;rw[lQ] at el;refine sorted_strs pl.isList (yZ rv) (by omega) fun out ms a1 a2 a3=>?_;obtain rfl:=sortS_eq a2 (JX a3);obtain⟨e,he⟩:=sortedAll_at s.heap its out;have hlen:((Vc ns).map V.str).length<=sizeLine:=by rw[lQ,(U7 ns).length_eq,<- lQ (f:=V.str)];exact hz
 have ne:H (s.heap.objs.size+1)=none:=I.hok.fresh (oy _);exact⟨.ref (s.heap.objs.size+1),_,I.laid (o:=.lst ((Vc ns).map V.str)) (t':=s.toks) (fun b o z=>sortedAll_old z) (oy _) ⟨hlen,out.toList,e,vh a1,by simpa using he⟩,rfl,q _ ne⟩
def rSorted(K:W.Frag):List V->Hp->VK->Prop:=fun xs H Q=>(∃(p:Addr) (ss:List Str),xs=[.ref p]/\SqL K H p (ss.map V.str)/\ss.length<64/\∀l,H l=none->Q (.ref l) (upd H l (.lst ((Vc ss).map V.str))))\/(∃(p:Addr) (ns:List Int),xs=[.ref p]/\SqL K H p (ns.map V.int)/\ns.length<64/\∀l,H l=none->Q (.ref l) (upd H l (.lst ((YO ns).map V.int))))
theorem j8:YB X (.builtin "sorted") (rSorted X.K):=jN.or jE
theorem range_all{bs:List Bool}:((List.range bs.length).all fun i=>(bs[i]?).getD true)=bs.all id:=by
 induction bs with
 |nil=>rfl
 |cons b r ih=>
  rw[mJ,List.range_succ_eq_map,pd,p0,pd,<- ih];rfl
theorem call_all(hc:X.calm=true):YB X (.builtin "all") (fun xs H Q=>∃(p:Addr) (bs:List Bool),xs=[.ref p]/\SqL X.K H p (bs.map V.bl)/\Q (.bl (bs.all id)) H):=by
 intro lL s σ H xs us Q I r h;obtain⟨p,bs,rfl,hq,q⟩:=h;obtain⟨u,rfl,ru⟩:=VG r;obtain rfl:u=Value.ref p:=ru;obtain⟨its,rv,pl,hz⟩:=I.list hq;have el:=rv.length;rw[lQ] at el;have hlt:p<s.heap.objs.size:=by obtain⟨_,e,_⟩:=pl.isList;exact md e
 refine call_all_walk (rD pl.isList ?_);refine⟨s.heap.objs.size,[s.heap.objs.size,p],[s.heap.objs.size],its.toArray.size,_,_,fun i=>(bs[i]?).getD true,rfl,Walks.list (A:=X.A.in1) (by simpa using I.ok.hd hc) _ p (me hlt) its.toArray,
  ⟨⟨_,mD _ rfl,rfl,rfl⟩,pl.isList.push _⟩,fun i v s' Q' E' hP hQ=>?_,fun h' tk hk=>?_⟩
 ·obtain⟨b,e,rfl⟩:=yL rv i v (by simpa using hP);simp only[e,Option.getD_some] at hQ;exact nV hQ
 ·rw[mn,<- el,range_all];exact⟨.bl _,H,I.kept fun b o e=>hk b o (by simpa using me (md e)) (lZ _ e),rfl,q⟩
def upTo(n:Int):List Int:=(List.range n.toNat).map fun(k:Nat)=>(k:Int)
theorem Jw{its:List Value}{n:Nat}{lo:Int}(h:ItemsOf (fun i v=>∃t,v=.int (lo+i*1) t) its.toArray n):ZH ((List.range n).map fun(k:Nat)=>V.int (lo+(k:Int))) its:=by
 obtain⟨h1,h2⟩:=h;rw[mn] at h1
 induction its generalizing n lo with
 |nil=>simp at h1;subst h1;exact .nil
 |cons u r ih=>
  cases n with
  |zero=>simp at h1
  |succ n=>
   rw[List.range_succ_eq_map,lX,nu];obtain⟨t,e⟩:=h2 0 u (by simp);refine .cons ⟨t,by rw[e];simp⟩ ?_;have:=ih (n:=n) (lo:=lo+1) (by simpa using h1) (fun j v hj=>by
    obtain⟨t,e⟩:=h2 (j+1) v (by simpa using hj);exact⟨t,by rw[e];congr 1;push_cast;omega⟩)
   refine(show ZH _ r from ?_);have e2:(List.range n).map (fun(k:Nat)=>V.int (lo+1+(k:Int)))=(List.range n).map ((fun(k:Nat)=>V.int (lo+(k:Int)))∘Nat.succ):=by
    apply pK;intro k _;simp only[Function.comp]
    congr 1
    push_cast
    omega
   rw[<- e2];exact this
theorem xM(hc:X.calm=true):YB X (.type "list") (fun xs H Q=>∃(p:Addr) (j:Int),xs=[.ref p]/\H p=some (.rng 0 j)/\0<=j/\j<=1000000/\∀l,H l=none->Q (.ref l) (upd H l (.lst ((upTo j).map V.int)))):=by
 intro lL s σ H xs us Q I r h;obtain⟨p,j,rfl,hp,h0,h1,q⟩:=h;obtain⟨u,rfl,ru⟩:=VG r;obtain rfl:u=Value.ref p:=ru;obtain⟨t,u,v,e⟩:=I.hok p _ hp;refine call_list_range (a:=0) (b:=j) (c:=1) (n:=j.toNat) (I.ok.hd hc) e (small_one (by omega) (by omega) (by omega) (by omega)) (by rw[rangeSize_one];split<;>omega) (by omega) fun h' tk acc c' hk he hi=>?_;have hv:ZH ((upTo j).map V.int) acc.toList:=by
  have:=Jw (its:=acc.toList) (n:=j.toNat) (lo:=0) (by simpa using hi);unfold upTo;rw[nu];have e2:(List.range j.toNat).map (fun(k:Nat)=>V.int (0+(k:Int)))=(List.range j.toNat).map (V.int∘fun(k:Nat)=>(k:Int)):=by
   apply pK;intro k _;simp
  rw[<- e2];exact this
 have hz:((upTo j).map V.int).length<=sizeLine:=by unfold upTo;rw[lQ,lQ,mZ,lV];omega
 exact⟨.ref s.heap.objs.size,_,I.laid (o:=.lst ((upTo j).map V.int)) hk (lS _) ⟨hz,acc.toList,c',hv,by simpa using he⟩,rfl,q _ (I.hok.fresh (lS _))⟩
def tRev(K:W.Frag)(te:TE)(ts:TO):TE:=fun σ H Q=>te σ H fun x H1=>ts σ H1 fun k H2=>∃a xs,x=.ref a/\k=some (-1)/\SqL K H2 a xs/\∀p,H2 p=none->Q (.ref p) (upd H2 p (.lst xs.reverse))
theorem pe_rev{e st:Expr}{te:TE}{ts:TO}{pos p2:Pos}(he:PE X e te)(hs:PO X (some st) ts):PE X (.Subscript e (.Slice none none (some st) p2) pos) (tRev X.K te ts):=by
 intro lL s σ H Q I h;refine Subscript_ (thn (he lL s σ H _ I h) fun v s1 ⟨x,H1,I1,r1,q1⟩=>?_);refine wpAny_Slice ?_;rw[evalPart_none];refine lT (lT (thn (hs lL s1 σ H1 _ I1 q1) fun vk s3 ⟨k,H3,I3,pk,q3⟩=>?_));obtain⟨a,xs,rfl,rfl,hq,q⟩:=q3;obtain rfl:v=Value.ref a:=r1;obtain⟨its,r,ht,hz⟩:=I3.list hq;have hlen:=r.length;have I4:Inv X lL σ H3 { s3 with heap:=s3.heap.push { cls:=.type "slice",data:=.fields #[.none,.none,vk] } }:=I3.kept (t':=s3.toks) fun b ob q=>lZ _ q;obtain⟨its4,r4,ht4,hz4⟩:=I4.list hq;have hlen4:=r4.length
 show wpAny (model X.prog X.w) X.A (subscriptTail e (.Slice none none (some st) p2) (.ref a) (.ref s3.heap.objs.size)) (EP X lL σ Q) X.xe { s3 with heap:=s3.heap.push { cls:=.type "slice",data:=.fields #[.none,.none,vk] } }
 refine tail_any (ops:=[.ref a,.ref s3.heap.objs.size]) ht4.isList.typeIs slot_list_getitem.lookup ?_ (by with_unfolding_all rfl);refine wpAny_getItem_list_slice ht4.isList (Heap.IsSliceOf.new ..) .none .none pk (by simp) ?_ (by rw[mn]<;>omega);rw[W.krv_pick];refine⟨.ref _,_,I4.laid (t':=s3.toks) (o:=.lst xs.reverse) (fun b ob q=>lZ _ q) (lS _) ?_,rfl,q _ (I4.hok.fresh (lS _))⟩;exact⟨by rw[pL];exact hz,its4.reverse,0,r4.reverse,mD _ rfl⟩
end
mutual
inductive Dp(K:W.Frag)(H:Hp):V->PyData->Prop
 |non:Dp K H .non .none
 |bl (b):Dp K H (.bl b) (.bool b)
 |int (i):Dp K H (.int i) (.int i)
 |str (x):Dp K H (.str x) (.str x)
 |lst {a xs ds}:SqL K H a xs->UF K H xs ds->Dp K H (.ref a) (.list ds)
 |tup {a xs ds}:SqT K H a xs->UF K H xs ds->Dp K H (.ref a) (.tuple ds)
inductive UF(K:W.Frag)(H:Hp):List V->List PyData->Prop
 |nil:UF K H [] []
 |cons {v d vs ds}:Dp K H v d->UF K H vs ds->UF K H (v::vs) (d::ds)
end
section
variable{X:Cx}{lL:List (Addr×Obj)}{σ:St}{H:Hp}{s:Shared}
mutual
theorem Dp.reads(I:Inv X lL σ H s):∀{v:V}{d:PyData}{u:Value},Dp X.K H v d->ZQ v u->∃as,Reads s.heap u d as
 |_,_,u,.non,r=>by cases (show u=Value.none from r);exact⟨_,.none⟩
 |_,_,u,.bl b,r=>by cases (show u=Value.bool b from r);exact⟨_,.bool b⟩
 |_,_,u,.int i,r=>by obtain⟨t,e⟩:=(show ∃t,u=Value.int i t from r);cases e;exact⟨_,.int i t⟩
 |_,_,u,.str x,r=>by obtain⟨t,e⟩:=(show ∃t,u=Value.str x t from r);cases e;exact⟨_,.str x t⟩
 |_,_,u,.lst (a:=a) h hs,r=>by
  cases (show u=Value.ref a from r);obtain⟨its,rv,pl,_⟩:=I.list h;obtain⟨o,ho,hc,n,hd⟩:=pl.isList;obtain⟨as,q⟩:=UF.reads I hs rv;exact⟨_,.list ho hc hd (by simpa using q)⟩
 |_,_,u,.tup (a:=a) h hs,r=>by
  cases (show u=Value.ref a from r);obtain⟨its,rv,⟨o,ho,hc,n,hd⟩,_⟩:=I.tuple h;obtain⟨as,q⟩:=UF.reads I hs rv;exact⟨_,.tuple ho hc hd (by simpa using q)⟩
theorem UF.reads(I:Inv X lL σ H s):∀{vs:List V}{ds:List PyData}{us:List Value},UF X.K H vs ds->ZH vs us->∃as,ReadsAll s.heap us ds as
 |_,_,_,.nil,.nil=>⟨_,.nil⟩
 |_,_,_,.cons h hs,.cons r rs=>by
  obtain⟨as,a⟩:=h.reads I r;obtain⟨bs,b⟩:=hs.reads I rs;exact⟨_,.cons a b⟩
end
inductive rEqD_R(K:W.Frag)(neg:Bool)(x:V)(y:V)(H:Hp)(Q:VK):Prop
 |mk (d:_) (e:_) (h0:Dp K H x d) (h1:Dp K H y e) (h2:d.canLay0=true) (h3:e.canLay0=true) (h4:d.depth<=60) (h5:Q (.bl (if neg then !PyData.eqv d e else PyData.eqv d e)) H):rEqD_R K neg x y H Q
def rEqD(K:W.Frag)(neg:Bool):R2:=fun x y H Q=>rEqD_R K neg x y H Q
theorem op_eqD(hu:X.A.units+64<cLine):OpR X (compareOp .Eq) (rEqD X.K false):=by
 intro lL s σ H x y u v Q I rx ry h;obtain⟨d,e,hx,hy,c1,c2,dp,q⟩:=h;obtain⟨as,a⟩:=hx.reads I rx;obtain⟨bs,b⟩:=hy.reads I ry;exact SeqAt.compareEq_reads a b c1 c2 (by omega) ⟨.bl _,H,I,rfl,q⟩
theorem op_neD(hu:X.A.units+64<cLine):OpR X (compareOp .NotEq) (rEqD X.K true):=by
 intro lL s σ H x y u v Q I rx ry h;obtain⟨d,e,hx,hy,c1,c2,dp,q⟩:=h;obtain⟨as,a⟩:=hx.reads I rx;obtain⟨bs,b⟩:=hy.reads I ry;exact SeqAt.compareNe_reads a b c1 c2 (by omega) ⟨.bl _,H,I,rfl,q⟩
inductive rIsi_R(K:W.Frag)(T:String)(xs:List V)(H:Hp)(Q:VK):Prop
 |mk (x:_) (t:_) (b:_) (h0:xs=[x,.ty T]) (h1:UC K H x t) (h2:W.kitOne K t (.type T)=some b) (h3:Q (.bl b) H):rIsi_R K T xs H Q
def rIsi(K:W.Frag)(T:String):List V->Hp->VK->Prop:=fun xs H Q=>rIsi_R K T xs H Q
theorem call_isi(T:String):YB X (.builtin "isinstance") (rIsi X.K T):=by
 intro lL s σ H xs us Q I r h;obtain⟨x,t,b,rfl,ht,hk,q⟩:=h;obtain⟨u,v,rfl,ru,rv⟩:=vals2 r;obtain rfl:v=Value.type T:=rv;exact vG I ru ht hk fun tk=>⟨.bl b,H,I.tok _,rfl,q⟩
end
example (K:W.Frag):W.kitOne K (.type "int") (.type "list")=some false:=by rfl
example (K:W.Frag):W.kitOne K (.type "bool") (.type "int")=some true:=by rfl
def New(H H':Hp):Hp:=fun b=>if(H b).isSome=true then none else H' b
def hide(D:Addr)(H:Hp):Hp:=fun b=>if b=D then none else H b
theorem New.of{H H':Hp}{b:Addr}{o:HO}(h:New H H' b=some o):H b=none/\H' b=some o:=by
 unfold New at h
 split at h
 ·cases h
 ·rename_i q
  refine⟨?_,h⟩;cases e:H b with
  |none=>rfl
  |some u=>rw[e] at q;exact absurd rfl q
theorem New.mk{H H':Hp}{b:Addr}{o:HO}(h:H b=none)(h':H' b=some o):New H H' b=some o:=by
 unfold New;rw[h];exact h'
theorem Ze{H:Hp}{p:Addr}{o:HO}(h:H p=none):Zh H (upd H p o):=fun b u e=>by rw[ZB (ZL e h)];exact e
theorem Vm{D:Addr}{H:Hp}:Zh (hide D H) H:=fun b o h=>by
 unfold hide at h
 split at h
 ·cases h
 ·exact h
theorem vo{D b:Addr}{H:Hp}{o:HO}(h:hide D H b=some o):b≠D/\H b=some o:=by
 unfold hide at h
 split at h
 ·cases h
 ·rename_i q;exact⟨q,h⟩
theorem WH{D b:Addr}{H:Hp}{o:HO}(n:b≠D)(h:H b=some o):hide D H b=some o:=by
 unfold hide;rw[if_neg n];exact h
def Zq(D:Addr)(H H':Hp):Prop:=∀b o,b≠D->H b=some o->H' b=some o
theorem Zh.x{D:Addr}{H H':Hp}(h:Zh H H'):Zq D H H':=fun b o _ e=>h b o e
theorem Zq.refl{D:Addr}(H:Hp):Zq D H H:=fun _ _ _ e=>e
theorem Zq.trans{D:Addr}{H H1 H2:Hp}(a:Zq D H H1)(b:Zq D H1 H2):Zq D H H2:=fun c o n e=>b c o n (a c o n e)
theorem Zq.upd{D:Addr}{H H':Hp}{o:HO}(a:Zq D H H'):Zq D H (upd H' D o):=fun c u n e=>by rw[ZB n];exact a c u n e
theorem Zq.same{D:Addr}{H H':Hp}(a:Zq D H H')(h:H D=none):Zh H H':=fun c u e=>a c u (ZL e h) e
theorem Zh.seqT{K:W.Frag}{H H':Hp}{a:Addr}{xs:List V}(e:Zh H H')(h:SqT K H a xs):SqT K H' a xs:=by
 rcases h with(h|⟨o,h⟩)|h
 ·exact .inl (.inl (e _ _ h))
 ·exact .inl (.inr ⟨o,e _ _ h⟩)
 ·exact .inr h
section
variable{X:Cx}
def rLen(K:W.Frag):List V->Hp->VK->Prop:=fun xs H Q=>(∃p ys,xs=[.ref p]/\(SqL K H p ys\/SqT K H p ys)/\Q (.int ys.length) H)\/((∃z,xs=[.str z]/\z.length<=sizeLine/\Q (.int z.length) H)\/∃a n,xs=[.ref a]/\H a=some (SetN a n)/\n<4000/\Q (.int n) H)
theorem call_lenA:YB X (.builtin "len") (rLen X.K):=vS.or (jM.or call_lenS)
def rListA(K:W.Frag):List V->Hp->VK->Prop:=fun xs H Q=>(∃p ys,xs=[.ref p]/\(SqL K H p ys\/SqT K H p ys)/\∀l,H l=none->Q (.ref l) (upd H l (.lst ys)))\/(∃(p:Addr) (j:Int),xs=[.ref p]/\H p=some (.rng 0 j)/\0<=j/\j<=1000000/\∀l,H l=none->Q (.ref l) (upd H l (.lst ((upTo j).map V.int))))
theorem JF(hc:X.calm=true):YB X (.type "list") (rListA X.K):=vT.or (xM hc)
theorem Vv{x:Str}{v:V}{pos:Pos}(hg:Gl X x)(h:∃u,X.mg x=some u/\ZQ v u)(hd:(x==("__debug__" : Str))=false:=by decide):PE X (.Name x pos) (tC v):=by
 obtain⟨u,hm,r⟩:=h;exact pe_glob hg hm r hd
end
def Z5(sc:Scope)(N Nc:List Str)(ix:List (Option Nat))(scope:Scope):Bool:=
 decide (scope.kind=.function)&&scope.names.all (fun y=>decide (y.2≠.cell))&&scope.names.all (fun y=>decide (y.2=.local->scope.names.lookup y.1=some .local)) &&
 scope.names.all (fun y=>decide (y.2=.free->sc.names.lookup y.1=some .cell\/sc.names.lookup y.1=some .free))&&decide (ix.length=Nc.length) &&
 (ix.zip Nc).all fun p=>match p.1 with|none=>true|some j=>N[j]?==some p.2&&scope.names.lookup p.2==some .free
theorem ZY.of{sc:Scope}{N Nc:List Str}{ix:List (Option Nat)}{scope:Scope}(h:Z5 sc N Nc ix scope=true):ZY sc N Nc ix scope:=by
 unfold Z5 at h;simp only[mR] at h;obtain⟨⟨⟨⟨⟨h1,h2⟩,h3⟩,h4⟩,h5⟩,h6⟩:=h;exact⟨mO h1,fun y hy=>mO (nH.mp h2 y hy),fun y hy=>mO (nH.mp h3 y hy),fun y hy=>mO (nH.mp h4 y hy),mO h5,h6⟩
def Its(x:Str):It:=⟨fun i _=>i<x.cps.size,fun i H v H'=>H'=H/\∃c,x.cps[i]?=some c/\v=.str ⟨#[c]⟩,fun i _=>x.cps.size<=i⟩
theorem turn_str{P:Program}{w:World}{K:W.Frag}{tg:Expr}{it:Addr}{x:Str}{t:Tok}{ty:String}
  (hty:["enumerate", "zip", "dict_itemiterator", "dict_reverseitemiterator", "odict_iterator", "itertools.zip_longest", "itertools.pairwise"].contains ty=false)
  (W:∀A':Around,A'.handled=none->Walks P w A' it [it] [it] x.cps.size (SignAt x) (fun i h=>h.IsStrIter it ty x t i))
  (self:∀(A:Around) (i:Nat) (s:Shared) (Q:Value->Shared->Prop) (E:Value->Shared->Prop),s.heap.IsStrIter it ty x t i->Q (.ref it) s->wpAny (model P w) A (pyIter (.ref it)) Q E s) :
  Turn P w K tg (Its x) [it] it (fun i h=>i<=x.cps.size/\h.IsStrIter it ty x t i) where
 mem:=by simp
 obj:=fun i h st b hb=>by
  have e:b=it:=by simpa using hb
  subst e;obtain⟨_,o,e,c,d⟩:=st;exact⟨o,e,fun v z=>by rw[d] at z;cases z⟩
 keep:=fun i h h' st k=>by
  obtain⟨l,o,e,c,d⟩:=st;exact⟨l,o,k it (by simp) o e,c,d⟩
 item:=by
  intro X hP hw hK hc i lL s σ H E I hf st hg;subst hP hw hK;obtain⟨f0,f1,f2,f3,f4,f5⟩:=hf it (by simp);refine(W X.A (I.ok.hd hc)).item i s _ _ hg st.2 fun v h' tk hv st' kk=>?_;obtain⟨c,u,hcx,rfl⟩:=hv;have I1:L2.Inv X lL σ H { s with heap:=h',toks:=tk }:=I.turned (fun b o hb e=>kk b o (by simpa using hb) e) f0 f1 f3 f4 f5;obtain⟨o,e,oc,od⟩:=id st';exact⟨_,rfl,go_of (s:={ s with heap:=h',toks:=tk }) e oc od hty ⟨.str ⟨#[c]⟩,H,I1,⟨u,rfl⟩,⟨rfl,c,hcx,rfl⟩,⟨hg,st'⟩,fun b hb=>(hf b hb).1⟩⟩
 done:=by
  intro X hP hw hK hc i lL s σ H E I hf st hg;subst hP hw hK;obtain⟨f0,f1,f2,f3,f4,f5⟩:=hf it (by simp);have e:i=x.cps.size:=Nat.le_antisymm st.1 hg;subst e;exact(W X.A (I.ok.hd hc)).done s _ _ st.2 fun h' tk kk=>⟨rfl,I.turned (fun b o hb e=>kk b o (by simpa using hb) e) f0 f1 f3 f4 f5⟩
 self:=fun A i s Q E st h=>self A i s Q E st.2 h
section
variable{X:Cx}{tg:Expr}
def iStr(tl:TE):TI:=fun σ H R=>tl σ H fun v H1=>∃x,v=.str x/\R (Its x) H1
theorem pi_str{l:Expr}{tl:TE}(hl:PE X l tl):PI X tg l (iStr tl):=by
 intro lL s σ H R I h;refine thn (hl lL s σ H _ I h) fun v s1 ⟨y,H1,I1,r1,x,e,q⟩=>?_;subst e;obtain⟨t,rfl⟩:=(show ∃t,v=Value.str x t from r1);have fin:∀(ty:String),["enumerate", "zip", "dict_itemiterator", "dict_reverseitemiterator", "odict_iterator", "itertools.zip_longest", "itertools.pairwise"].contains ty=false ->
   (∀A':Around,A'.handled=none->Walks X.prog X.w A' s1.heap.objs.size [s1.heap.objs.size] [s1.heap.objs.size] x.cps.size (SignAt x) (fun i h=>h.IsStrIter s1.heap.objs.size ty x t i)) ->
   (∀(A:Around) (i:Nat) (s:Shared) (Q:Value->Shared->Prop) (E:Value->Shared->Prop),s.heap.IsStrIter s1.heap.objs.size ty x t i->Q (.ref s1.heap.objs.size) s->wpAny (model X.prog X.w) A (pyIter (.ref s1.heap.objs.size)) Q E s) ->
   PIE X lL σ tg R (.ref s1.heap.objs.size) { s1 with heap:=s1.heap.push { cls:=.type ty,data:=.fields #[.str x t,.int 0 0] } }:=fun ty h1 h2 h3=>by
  refine⟨s1.heap.objs.size,[s1.heap.objs.size],_,_,H1,rfl,I1.kept (t':=s1.toks) fun b o e=>lZ _ e,turn_str h1 h2 h3,⟨mN _,_,mD _ rfl,rfl,rfl⟩,fun b hb=>?_,q⟩;have e:b=s1.heap.objs.size:=by simpa using hb
  subst e;exact I1.fpOk (lS _) (I1.hok.fresh (lS _))
 cases ha:x.cps.all (·<128)
 ·exact wpAny_pyIter_wide ha (fin "str_iterator" (by decide) (fun A' hA=>Walks.strWide hA _ x t) fun _ _ _ _ _ st h=>wpAny_pyIter_striter_wide st h)
 ·exact wpAny_pyIter_ascii ha (fin "str_ascii_iterator" (by decide) (fun A' hA=>Walks.strAscii hA _ x t) fun _ _ _ _ _ st h=>wpAny_pyIter_striter_ascii st h)
end
section
variable{X:Cx}{K:W.Frag}
theorem Zy(hK:X.K=K):YB X (.builtin "len") (rLen K):=by subst hK;exact call_lenA
theorem V6(hK:X.K=K):YB X (.builtin "sorted") (rSorted K):=by subst hK;exact j8
def rAll(K:W.Frag):List V->Hp->VK->Prop:=fun xs H Q=>∃(p:Addr) (bs:List Bool),xs=[.ref p]/\SqL K H p (bs.map V.bl)/\Q (.bl (bs.all id)) H
theorem VI(hK:X.K=K)(hc:X.calm=true):YB X (.builtin "all") (rAll K):=by subst hK;exact call_all hc
theorem UZ(hK:X.K=K)(hc:X.calm=true):YB X (.type "list") (rListA K):=by subst hK;exact JF hc
def rTupleA(K:W.Frag):List V->Hp->VK->Prop:=fun xs H Q=>∃p ys,xs=[.ref p]/\((SqL K H p ys/\∀l,H l=none->Q (.ref l) (upd H l (.tup ys)))\/(SqT K H p ys/\Q (.ref p) H))
theorem Yl(hK:X.K=K):YB X (.type "tuple") (rTupleA K):=by subst hK;exact xO
def rSetA(K:W.Frag):List V->Hp->VK->Prop:=fun xs H Q=>∃(p:Addr) (ks:List Key),xs=[.ref p]/\SqL K H p (ks.map kV)/\ks.length<4000/\∀n a,n<=ks.length->(n=ks.length↔ks.Nodup)->H a=none->Q (.ref a) (upd H a (SetN a n))
theorem vA(hK:X.K=K)(hc:X.calm=true):YB X (.type "set") (rSetA K):=by subst hK;exact call_set hc
theorem Wh(hK:X.K=K)(T:String):YB X (.builtin "isinstance") (rIsi K T):=by subst hK;exact call_isi T
theorem Zs(hK:X.K=K):IxR X (rIxL K):=by subst hK;exact ix_list
theorem ZR(hK:X.K=K):IxR X (rIxT K):=by subst hK;exact ix_tup
theorem Yo(hK:X.K=K):SlR X (rSlL K):=by subst hK;exact sl_list
theorem V3(hK:X.K=K):OpR X (compareOp .In) (rIn K false):=by subst hK;exact op_in_seq
theorem op_eqDK(hK:X.K=K)(hu:X.A.units+64<cLine):OpR X (compareOp .Eq) (rEqD K false):=by subst hK;exact op_eqD hu
theorem op_neDK(hK:X.K=K)(hu:X.A.units+64<cLine):OpR X (compareOp .NotEq) (rEqD K true):=by subst hK;exact op_neD hu
theorem Yk{tg l:Expr}{tl:TE}(hK:X.K=K)(hl:PE X l tl):PI X tg l (iList K tl):=by subst hK;exact pi_list hl
theorem V5{es:List Expr}{k:Nat}{t:TGs}{n:Nat}{pos:Pos}(hK:X.K=K)(hc:X.calm=true)(h:PGs X es t)
  (hn:(assignEach es X.env).length=n:=by rfl) (hst:(assignEach es X.env).findIdx? (·.1)=none:=by rfl):PG X (.Tuple es k pos) (gTup K n t):=by subst hK;exact pg_tup hc h hn hst
theorem XZ{e:Expr}{f:Str}{pos:Pos}{ta:TE}(hK:X.K=K)(he:PE X e ta)(hb:attributeBase e f X.env (eval e X.env)=eval e X.env):PE X (.Attribute e f pos) (tFld K ta f):=by subst hK;exact pe_fld he hb
theorem pe_revK{e st:Expr}{te:TE}{ts:TO}{pos p2:Pos}(hK:X.K=K)(he:PE X e te)(hs:PO X (some st) ts):PE X (.Subscript e (.Slice none none (some st) p2) pos) (tRev K te ts):=by subst hK;exact pe_rev he hs
end
end L3
namespace L3
open PySem PySem.Spec L2
inductive Kd(H:Hp):V->Prop
 |non:Kd H .non
 |bl (b:Bool):Kd H (.bl b)
 |int (i:Int):Kd H (.int i)
 |str (z:Str) (hz:z.length<=1000):Kd H (.str z)
 |lst {a:Addr}{xs:List V} (e:H a=some (.lst xs)):Kd H (.ref a)
 |tup {a:Addr}{xs:List V} (e:H a=some (.tup xs)):Kd H (.ref a)
 |dK {a:Addr}{kvs:List (Key×V)} (e:H a=some (.dK kvs)):Kd H (.ref a)
theorem Kd.mono{H H':Hp}{x:V}(s:Zh H H')(h:Kd H x):Kd H' x:=by
 cases h with
 |non=>exact .non
 |bl b=>exact .bl b
 |int i=>exact .int i
 |str z hz=>exact .str z hz
 |lst e=>exact .lst (s _ _ e)
 |tup e=>exact .tup (s _ _ e)
 |dK e=>exact .dK (s _ _ e)
def XU(H:Hp)(T:String):V->Bool
 |.bl _=>T == "bool" || T == "int"
 |.int _=>T == "int"
 |.str _=>T == "str"
 |.ref a=>match H a with
  |some (.lst _)=>T == "list"
  |some (.tup _)=>T == "tuple"
  |some (.dK _)=>T == "dict"
  |_=>false
 |_=>false
theorem isi_rd{K:W.Frag}{T:String}{x:V}{H:Hp}{Q:VK}(hT:T = "int" \/ T = "bool" \/ T = "str" \/ T = "list" \/ T = "tuple")(h:Kd H x)(q:Q (.bl (XU H T x)) H):rIsi K T [x,.ty T] H Q:=by
 rcases hT with rfl|rfl|rfl|rfl|rfl
 all_goals
  cases h with
  |non=>exact⟨_,_,_,rfl,.non,rfl,q⟩
  |bl b=>exact⟨_,_,_,rfl,.bl b,rfl,q⟩
  |int i=>exact⟨_,_,_,rfl,.int i,rfl,q⟩
  |str z hz=>exact⟨_,_,_,rfl,.str z,rfl,q⟩
  |lst e=>first|exact⟨_,_,false,rfl,.lst e,rfl,by simpa[XU,e] using q⟩|exact⟨_,_,true,rfl,.lst e,rfl,by simpa[XU,e] using q⟩
  |tup e=>first|exact⟨_,_,false,rfl,.tup e,rfl,by simpa[XU,e] using q⟩|exact⟨_,_,true,rfl,.tup e,rfl,by simpa[XU,e] using q⟩
  |dK e=>first|exact⟨_,_,false,rfl,.dK e,rfl,by simpa[XU,e] using q⟩|exact⟨_,_,true,rfl,.dK e,rfl,by simpa[XU,e] using q⟩
def xY(c:Nat):Bool:=decide (97<=c/\c<=122)
def X2(z:Str):Bool:=decide (1<=z.length)&&decide (z.length<=8)&&z.cps.toList.all xY
def Xl:V->Bool
 |.str z=>X2 z
 |_=>false
def jH:V->Bool
 |.int _=>true
 |_=>false
def Y1(n:Int):V->Bool
 |.int i=>decide (0<=i)&&decide (i<n)
 |_=>false
def Wi(H:Hp):V->Option (List V)
 |.ref a=>match H a with
  |some (.lst xs)=>some xs
  |_=>none
 |_=>none
theorem Y3{H:Hp}{a:Addr}{xs:List V}(h:H a=some (.lst xs)):Wi H (.ref a)=some xs:=by simp[Wi,h]
theorem U4{H H':Hp}{x:V}(s:Zh H H')(k:Kd H x):Wi H' x=Wi H x:=by
 cases k with
 |non=>rfl
 |bl b=>rfl
 |int i=>rfl
 |str z hz=>rfl
 |lst e=>rw[Y3 e,Y3 (s _ _ e)]
 |tup e=>simp[Wi,e,s _ _ e]
 |dK e=>simp[Wi,e,s _ _ e]
def Ya(H:Hp)(x:V):Bool:=match Wi H x with
 |some xs=>xs.all Xl&&decide xs.Nodup
 |none=>false
def Wn(H:Hp)(n:Int)(x:V):Bool:=match Wi H x with
 |some xs=>xs.all (Y1 n)
 |none=>false
def ZZ(H:Hp)(n:Int)(x:V):Bool:=match Wi H x with
 |some xs=>xs.all (Y1 n)&&!xs.isEmpty&&decide xs.Nodup
 |none=>false
def KdL(H:Hp)(x:V):Prop:=Kd H x/\∀xs,Wi H x=some xs->xs.length<=1000/\∀y∈xs,Kd H y
def KdLL(H:Hp)(x:V):Prop:=Kd H x/\∀xs,Wi H x=some xs->xs.length<=1000/\∀y∈xs,KdL H y
theorem KdL.mono{H H':Hp}{x:V}(s:Zh H H')(h:KdL H x):KdL H' x:=
 ⟨h.1.mono s,fun xs e=>by
  rw[U4 s h.1] at e;exact⟨(h.2 xs e).1,fun y hy=>((h.2 xs e).2 y hy).mono s⟩⟩
theorem UI{H H':Hp}{x:V}(s:Zh H H')(k:Kd H x):Ya H' x=Ya H x:=by unfold Ya;rw[U4 s k]
theorem Uh{H H':Hp}{x:V}{n:Int}(s:Zh H H')(k:Kd H x):ZZ H' n x=ZZ H n x:=by unfold ZZ;rw[U4 s k]
def few3:Option (List V)->Bool
 |some fs=>decide (fs.length<=3)
 |none=>false
def V1(H:Hp)(s w st f:V):Bool:=match Wi H s,Wi H w with
 |some ss,some ws=>decide (1<=ss.length)&&decide (ss.length<=20)&&decide (ws.length=ss.length)&&ss.all (Ya H)&&ws.all (ZZ H ss.length)&&(ZZ H ss.length st&&(Ya H f&&few3 (Wi H f)))
 |_,_=>false
theorem kV_ne{a b:Key}:kV a≠kV b↔a≠b:=by
 constructor
 ·intro h e;exact h (by rw[e])
 ·intro h e;apply h;cases a<;>cases b<;>simp[kV] at e<;>simp[e]
theorem nodup_kV(ks:List Key):(ks.map kV).Nodup↔ks.Nodup:=by
 unfold List.Nodup;rw[List.pairwise_map];exact⟨fun h=>h.imp fun q=>kV_ne.mp q,fun h=>h.imp fun q=>kV_ne.mpr q⟩
theorem xo:∀{xs:List V},xs.all Xl=true->∃ks:List Key,xs=ks.map kV
 |[],_=>⟨[],rfl⟩
 |x::r,h=>by
  rw[pd,mR] at h;obtain⟨ks,rfl⟩:=xo h.2;cases x with
  |str z=>exact⟨.inr z::ks,rfl⟩
  |_=>exact absurd h.1 (by simp[Xl])
theorem yB{n:Int}:∀{xs:List V},xs.all (Y1 n)=true->∃ks:List Key,xs=ks.map kV
 |[],_=>⟨[],rfl⟩
 |x::r,h=>by
  rw[pd,mR] at h;obtain⟨ks,rfl⟩:=yB h.2;cases x with
  |int z=>exact⟨.inl z::ks,rfl⟩
  |_=>exact absurd h.1 (by simp[Y1])
theorem dec_len{n m:Nat}{ks:List Key}(hm:m=(ks.map kV).length)(h:n=ks.length↔ks.Nodup):decide (V.int (n:Nat)=V.int (m:Nat))=decide (ks.map kV).Nodup:=by
 have e:(V.int (n:Nat)=V.int (m:Nat))↔(ks.map kV).Nodup:=by
  rw[nodup_kV,<- h];constructor
  ·intro q;have q':((n:Nat):Int)=((m:Nat):Int):=V.int.inj q;rw[lQ] at hm;omega
  ·intro q;rw[lQ] at hm;rw[q,hm]
 exact pM.mpr e
theorem Vb{α:Type}{f:α->Bool}:∀{xs:List α}{ys:List V},ys.length=xs.length->(∀(i:Nat) v x,ys[i]?=some v->xs[i]?=some x->v=.bl (f x))->ys=(xs.map f).map V.bl
 |[],ys,hl,_=>by simp at hl;subst hl;rfl
 |x::r,[],hl,_=>by simp at hl
 |x::r,y::ys,hl,h=>by
  have e:=h 0 y x rfl rfl;subst e;rw[lX,lX,Vb (xs:=r) (ys:=ys) (f:=f) (by simpa using hl) fun i v z h1 h2=>h (i+1) v z (by simpa using h1) (by simpa using h2)]
theorem xh{α:Type}(f:α->Bool)(xs:List α):(xs.map f).all id=xs.all f:=by
 rw[p0];rfl
theorem kT(c:Nat):decide (c∈("abcdefghijklmnopqrstuvwxyz" : Str).cps.toList)=xY c:=by
 have e:("abcdefghijklmnopqrstuvwxyz" : Str).cps.toList=(List.range 26).map (·+97):=by decide +kernel
 rw[e];unfold xY;refine pM.mpr ?_;rw[mE];constructor
 ·rintro⟨k,hk,rfl⟩;have:=pG.mp hk;omega
 ·rintro⟨h1,h2⟩;exact⟨c-97,pG.mpr (by omega),by omega⟩
theorem WX(K:W.Frag){T:String}{x:V}{H:Hp}{b:Bool}(hT:T = "int" \/ T = "bool" \/ T = "str" \/ T = "list" \/ T = "tuple")(h:Kd H x)(hb:XU H T x=b):∃t,UC K H x t/\W.kitOne K t (.type T)=some b:=by
 obtain⟨y,t,c,e,h1,h2,q⟩:=isi_rd (K:=K) (Q:=fun v _=>v=.bl b) hT h (by rw[hb]);have e1:x=y:=(oj e).1;have e2:c=b:=V.bl.inj q;subst e1;subst e2;exact⟨t,h1,h2⟩
theorem kd_str{H:Hp}{x:V}(h:Kd H x):(XU H "str" x=true/\∃z,x=.str z/\z.length<=1000)\/(XU H "str" x=false/\Xl x=false):=by
 cases h with
 |str z hz=>exact .inl ⟨rfl,z,rfl,hz⟩
 |non=>exact .inr ⟨rfl,rfl⟩
 |bl b=>exact .inr ⟨rfl,rfl⟩
 |int i=>exact .inr ⟨rfl,rfl⟩
 |lst e=>exact .inr ⟨by simp[XU,e],rfl⟩
 |tup e=>exact .inr ⟨by simp[XU,e],rfl⟩
 |dK e=>exact .inr ⟨by simp[XU,e],rfl⟩
theorem Ux{H:Hp}{x:V}(h:Kd H x):(XU H "list" x=true/\∃a xs,x=.ref a/\H a=some (.lst xs)/\Wi H x=some xs)\/(XU H "list" x=false/\Wi H x=none):=by
 cases h with
 |str z hz=>exact .inr ⟨rfl,rfl⟩
 |non=>exact .inr ⟨rfl,rfl⟩
 |bl b=>exact .inr ⟨rfl,rfl⟩
 |int i=>exact .inr ⟨rfl,rfl⟩
 |lst e=>exact .inl ⟨by simp[XU,e],_,_,rfl,e,Y3 e⟩
 |tup e=>exact .inr ⟨by simp[XU,e],by simp[Wi,e]⟩
 |dK e=>exact .inr ⟨by simp[XU,e],by simp[Wi,e]⟩
def LS(H:Hp)(v:V)(ss:List Str):Prop:=∃a,v=.ref a/\H a=some (.lst (ss.map V.str))
def LI(H:Hp)(v:V)(ns:List Int):Prop:=∃a,v=.ref a/\H a=some (.lst (ns.map V.int))
def TS(H:Hp)(v:V)(ss:List Str):Prop:=∃a,v=.ref a/\H a=some (.tup (ss.map V.str))
def TIn(H:Hp)(v:V)(ns:List Int):Prop:=∃a,v=.ref a/\H a=some (.tup (ns.map V.int))
def LL{α:Type}(r:Hp->V->α->Prop)(H:Hp)(v:V)(xs:List α):Prop:=∃a vs,v=.ref a/\H a=some (.lst vs)/\vs.length=xs.length/\∀(i:Nat) v x,vs[i]?=some v->xs[i]?=some x->r H v x
def LT{α:Type}(r:Hp->V->α->Prop)(H:Hp)(v:V)(xs:List α):Prop:=∃a vs,v=.ref a/\H a=some (.tup vs)/\vs.length=xs.length/\∀(i:Nat) v x,vs[i]?=some v->xs[i]?=some x->r H v x
def Mon{α:Type}(r:Hp->V->α->Prop):Prop:=∀H H' v x,Zh H H'->r H v x->r H' v x
theorem LS.mono:Mon LS:=fun _ _ _ _ s ⟨a,e,h⟩=>⟨a,e,s _ _ h⟩
theorem LI.mono:Mon LI:=fun _ _ _ _ s ⟨a,e,h⟩=>⟨a,e,s _ _ h⟩
theorem TS.mono:Mon TS:=fun _ _ _ _ s ⟨a,e,h⟩=>⟨a,e,s _ _ h⟩
theorem TIn.mono:Mon TIn:=fun _ _ _ _ s ⟨a,e,h⟩=>⟨a,e,s _ _ h⟩
theorem LL.mono{α:Type}{r:Hp->V->α->Prop}(m:Mon r):Mon (LL r):=fun _ _ _ _ s ⟨a,vs,e,h,l,q⟩=>⟨a,vs,e,s _ _ h,l,fun i v x h1 h2=>m _ _ _ _ s (q i v x h1 h2)⟩
theorem LT.mono{α:Type}{r:Hp->V->α->Prop}(m:Mon r):Mon (LT r):=fun _ _ _ _ s ⟨a,vs,e,h,l,q⟩=>⟨a,vs,e,s _ _ h,l,fun i v x h1 h2=>m _ _ _ _ s (q i v x h1 h2)⟩
theorem Zq.hide{p:Addr}{H H':Hp}(s:Zq p H H'):Zh (hide p H) (hide p H'):=fun b o h=>
 let ⟨n,e⟩:=vo h
 WH n (s b o n e)
structure WD where
 signs:List (List Str)
 ways:List (List Int)
 starts:List Int
 fair:List Str
structure WU(H:Hp)(s w st f:V)(d:WD):Prop where
 s:LL LS H s d.signs
 w:LL LI H w d.ways
 st:LI H st d.starts
 f:LS H f d.fair
theorem WU.mono{H H':Hp}{s w st f:V}{d:WD}(e:Zh H H')(h:WU H s w st f d):WU H' s w st f d:=
 ⟨LL.mono LS.mono _ _ _ _ e h.s,LL.mono LI.mono _ _ _ _ e h.w,LI.mono _ _ _ _ e h.st,LS.mono _ _ _ _ e h.f⟩
structure Good(d:WD):Prop where
 n1:1<=d.signs.length
 n20:d.signs.length<=20
 wl:d.ways.length=d.signs.length
 sn:∀ss∈d.signs,ss.Nodup/\(∀x∈ss,X2 x=true)/\ss.length<=30
 wn:∀ns∈d.ways,ns.Nodup/\ns≠[]/\(∀x∈ns,0<=x/\x<d.signs.length)/\ns.length<=20
 stn:d.starts.Nodup/\d.starts≠[]/\(∀x∈d.starts,0<=x/\x<d.signs.length)/\d.starts.length<=20
 fn:d.fair.Nodup/\(∀x∈d.fair,X2 x=true)/\d.fair.length<=3
theorem xS{α β:Type}{f:α->β}(hf:∀a b,f a=f b->a=b){l:List α}(h:l.Nodup):(l.map f).Nodup:=by
 unfold List.Nodup at *;rw[List.pairwise_map];exact h.imp fun q e=>q (hf _ _ e)
theorem str_inj(a b:Str)(h:V.str a=V.str b):a=b:=V.str.inj h
theorem int_inj(a b:Int)(h:V.int a=V.int b):a=b:=V.int.inj h
theorem yY{z:Str}(h:X2 z=true):z.length<=8:=by
 unfold X2 at h;simp only[mR,rM] at h;exact h.1.2
theorem LS.kd{H:Hp}{v:V}{ss:List Str}(h:LS H v ss)(hl:ss.length<=1000)(hn:∀x∈ss,X2 x=true):KdL H v:=by
 obtain⟨a,rfl,e⟩:=h;refine⟨.lst e,fun xs q=>?_⟩;rw[Y3 e] at q;cases q;refine⟨by rw[lQ];exact hl,fun y hy=>?_⟩;obtain⟨z,hz,rfl⟩:=mE.mp hy;exact .str z (mC (yY (hn z hz)) (by decide))
theorem LI.kd{H:Hp}{v:V}{ns:List Int}(h:LI H v ns)(hl:ns.length<=1000):KdL H v:=by
 obtain⟨a,rfl,e⟩:=h;refine⟨.lst e,fun xs q=>?_⟩;rw[Y3 e] at q;cases q;refine⟨by rw[lQ];exact hl,fun y hy=>?_⟩;obtain⟨z,hz,rfl⟩:=mE.mp hy;exact .int z
theorem LS.names{H:Hp}{v:V}{ss:List Str}(h:LS H v ss)(nd:ss.Nodup)(hn:∀x∈ss,X2 x=true):Ya H v=true:=by
 obtain⟨a,rfl,e⟩:=h;unfold Ya;rw[Y3 e];simp only[mR,rM];refine⟨nH.mpr fun y hy=>?_,xS str_inj nd⟩;obtain⟨z,hz,rfl⟩:=mE.mp hy;exact hn z hz
theorem LI.rooms{H:Hp}{v:V}{ns:List Int}{n:Nat}(h:LI H v ns)(nd:ns.Nodup)(ne:ns≠[])(hn:∀x∈ns,0<=x/\x<(n:Int)):ZZ H n v=true:=by
 obtain⟨a,rfl,e⟩:=h;unfold ZZ;rw[Y3 e];simp only[mR,rM];refine⟨⟨nH.mpr fun y hy=>?_,?_⟩,xS int_inj nd⟩
 ·obtain⟨z,hz,rfl⟩:=mE.mp hy;have:=hn z hz;simp[Y1,this.1,this.2]
 ·cases ns with
  |nil=>exact absurd rfl ne
  |cons y r=>rfl
theorem LL.kd{α:Type}{r:Hp->V->α->Prop}{H:Hp}{v:V}{xs:List α}(h:LL r H v xs)(hl:xs.length<=1000)(q:∀v x,r H v x->x∈xs->KdL H v):KdLL H v:=by
 obtain⟨a,vs,rfl,e,l,k⟩:=h;refine⟨.lst e,fun ys z=>?_⟩;rw[Y3 e] at z;cases z;refine⟨by omega,fun y hy=>?_⟩;obtain⟨i,hi,rfl⟩:=m7 hy;have hx:i<xs.length:=by omega
 exact q _ xs[i] (k i _ _ (lU hi) (lU hx)) (mH hx)
theorem LL.all{α:Type}{r:Hp->V->α->Prop}{H:Hp}{vs:List V}{xs:List α}{p:V->Bool}(l:vs.length=xs.length)(k:∀(i:Nat) v x,vs[i]?=some v->xs[i]?=some x->r H v x)(q:∀v x,r H v x->x∈xs->p v=true):vs.all p=true:=by
 refine nH.mpr fun y hy=>?_;obtain⟨i,hi,rfl⟩:=m7 hy;have hx:i<xs.length:=by omega
 exact q _ xs[i] (k i _ _ (lU hi) (lU hx)) (mH hx)
theorem WU.kd{H:Hp}{s w st f:V}{d:WD}(h:WU H s w st f d)(g:Good d):KdLL H s/\KdLL H w/\KdL H st/\KdL H f:=by
 refine⟨h.s.kd (by have:=g.n20;omega) fun v x r m=>?_,h.w.kd (by have:=g.n20;have:=g.wl;omega) fun v x r m=>?_,h.st.kd (by have:=g.stn.2.2.2;omega),h.f.kd (by have:=g.fn.2.2;omega) g.fn.2.1⟩
 ·have:=g.sn x m;exact r.kd (by omega) this.2.1
 ·have:=g.wn x m;exact r.kd (by omega)
theorem WU.makes{H:Hp}{s w st f:V}{d:WD}(h:WU H s w st f d)(g:Good d):V1 H s w st f=true:=by
 have hst:=h.st.rooms (n:=d.signs.length) g.stn.1 g.stn.2.1 g.stn.2.2.1;have hf:=h.f.names g.fn.1 g.fn.2.1;obtain⟨a,vs,rfl,e,l,k⟩:=h.s;obtain⟨b,ws,rfl,e2,l2,k2⟩:=h.w;obtain⟨c,rfl,e3⟩:=h.f;unfold V1;rw[Y3 e,Y3 e2,Y3 e3];dsimp only;rw[l];have h1:vs.all (Ya H)=true:=LL.all l k fun v x r m=>r.names (g.sn x m).1 (g.sn x m).2.1;have h2:ws.all (ZZ H d.signs.length)=true:=LL.all l2 k2 fun v x r m=>r.rooms (g.wn x m).1 (g.wn x m).2.1 (g.wn x m).2.2.1;have:=g.n1;have:=g.n20;have:=g.wl;have:=g.fn.2.2;simp only[few3,mR,rM,lQ];refine⟨⟨⟨⟨⟨by omega,by omega⟩,by omega⟩,h1⟩,h2⟩,hst,hf,by omega⟩
def wfs(t1 t2 t3 t4:V):List (Str×V):=[("room_signs",t1),("room_ways",t2),("start_rooms",t3),("fair_names",t4)]
theorem n12:¬(("room_signs" : Str) = "room_ways"):=by decide +kernel
theorem n13:¬(("room_signs" : Str) = "start_rooms"):=by decide +kernel
theorem n14:¬(("room_signs" : Str) = "fair_names"):=by decide +kernel
theorem n23:¬(("room_ways" : Str) = "start_rooms"):=by decide +kernel
theorem n24:¬(("room_ways" : Str) = "fair_names"):=by decide +kernel
theorem n34:¬(("start_rooms" : Str) = "fair_names"):=by decide +kernel
theorem put1(t1:V):YA "room_signs" t1 []=([("room_signs",t1)]:List (Str×V)):=rfl
theorem put2(t1 t2:V):YA "room_ways" t2 ([("room_signs",t1)]:List (Str×V))=([("room_signs",t1),("room_ways",t2)]:List (Str×V)):=by simp only[YA,if_neg n12]
theorem put3(t1 t2 t3:V):YA "start_rooms" t3 ([("room_signs",t1),("room_ways",t2)]:List (Str×V))=([("room_signs",t1),("room_ways",t2),("start_rooms",t3)]:List (Str×V)):=by simp only[YA,if_neg n13,if_neg n23]
theorem put4(t1 t2 t3 t4:V):YA "fair_names" t4 ([("room_signs",t1),("room_ways",t2),("start_rooms",t3)]:List (Str×V))=wfs t1 t2 t3 t4:=by simp only[YA,if_neg n14,if_neg n24,if_neg n34,wfs]
structure ZW(C:Addr)(H:Hp)(p:Addr)(d:WD):Prop where
 ex:∃dx t1 t2 t3 t4,H p=some (.ins C dx (wfs t1 t2 t3 t4))/\LT TS H t1 (d.signs.map Vc)/\LT TIn H t2 (d.ways.map YO)/\TIn H t3 (YO d.starts)/\TS H t4 d.fair
theorem ZW.mono{C:Addr}{H H':Hp}{p:Addr}{d:WD}(s:Zh H H')(h:ZW C H p d):ZW C H' p d:=by
 obtain⟨dx,t1,t2,t3,t4,e,h1,h2,h3,h4⟩:=h.ex;exact⟨dx,t1,t2,t3,t4,s _ _ e,LT.mono TS.mono _ _ _ _ s h1,LT.mono TIn.mono _ _ _ _ s h2,TIn.mono _ _ _ _ s h3,TS.mono _ _ _ _ s h4⟩
theorem beqF{a b:Str}(h:¬a=b):(a==b)=false:=by simpa using h
theorem kj(t1 t2 t3 t4:V):(wfs t1 t2 t3 t4).lookup ("room_signs" : Str)=some t1:=by simp[wfs,mS]
theorem lk_ways(t1 t2 t3 t4:V):(wfs t1 t2 t3 t4).lookup ("room_ways" : Str)=some t2:=by simp[wfs,mS,beqF (fun e=>n12 e.symm)]
theorem lk_no(t1 t2 t3 t4:V){m:Str}(h1:¬m = "room_signs")(h2:¬m = "room_ways")(h3:¬m = "start_rooms")(h4:¬m = "fair_names"):(wfs t1 t2 t3 t4).lookup m=none:=by simp[wfs,mS,beqF h1,beqF h2,beqF h3,beqF h4]
theorem New.hidden{H H':Hp}{p:Addr}{o:HO}(h:H p=some o):Zh (New H H') (hide p H'):=fun b u e=>
 let ⟨h1,h2⟩:=New.of e
 WH (fun z=>by subst z;rw[h] at h1;cases h1) h2
theorem LS.hid{H:Hp}{p C dx:Addr}{fs:List (Str×V)}{v:V}{ss:List Str}(hp:H p=some (.ins C dx fs))(h:LS H v ss):LS (hide p H) v ss:=by
 obtain⟨a,rfl,e⟩:=h;exact⟨a,rfl,WH (Vw e hp (by intro z;cases z)) e⟩
theorem LI.hid{H:Hp}{p C dx:Addr}{fs:List (Str×V)}{v:V}{ss:List Int}(hp:H p=some (.ins C dx fs))(h:LI H v ss):LI (hide p H) v ss:=by
 obtain⟨a,rfl,e⟩:=h;exact⟨a,rfl,WH (Vw e hp (by intro z;cases z)) e⟩
theorem LL.hid{α:Type}{r:Hp->V->α->Prop}{H:Hp}{p C dx:Addr}{fs:List (Str×V)}{v:V}{xs:List α}(hp:H p=some (.ins C dx fs))(m:∀v x,r H v x->r (hide p H) v x)(h:LL r H v xs):LL r (hide p H) v xs:=by
 obtain⟨a,vs,rfl,e,l,q⟩:=h;exact⟨a,vs,rfl,WH (Vw e hp (by intro z;cases z)) e,l,fun i v x h1 h2=>m _ _ (q i v x h1 h2)⟩
theorem WU.hid{H:Hp}{p C dx:Addr}{fs:List (Str×V)}{s w st f:V}{d:WD}(hp:H p=some (.ins C dx fs))(h:WU H s w st f d):WU (hide p H) s w st f d:=
 ⟨h.s.hid hp fun _ _ r=>r.hid hp,h.w.hid hp fun _ _ r=>r.hid hp,h.st.hid hp,h.f.hid hp⟩
theorem vm{α β:Type}{r:Hp->V->β->Prop}{H:Hp}{f:α->β}{a:Addr}{ys:List V}{xs:List α}(h:H a=some (.tup ys))(l:ys.length=xs.length)(q:∀(i:Nat) v,ys[i]?=some v->∀x,xs[i]?=some x->r H v (f x)):LT r H (.ref a) (xs.map f):=by
 refine⟨a,ys,rfl,h,by rw[lQ,l],fun i v x h1 h2=>?_⟩;rw[mh] at h2;cases e:xs[i]? with
 |none=>rw[e] at h2;cases h2
 |some y=>
  rw[e] at h2;cases h2;exact q i v h1 y e
def dI(ns:List Int):PyData:=.list (ns.map PyData.int)
def dS(ss:List Str):PyData:=.list (ss.map PyData.str)
def Fine(n:Nat)(d:PyData):Prop:=d.canLay0=true/\d.depth<=n
theorem fineAll{α:Type}{f:α->PyData}{n:Nat}{xs:List α}(h:∀x∈xs,Fine n (f x)):PyData.canLayAll0 (xs.map f)=true/\PyData.depthAll (xs.map f)<=n:=by
 induction xs with
 |nil=>exact⟨by simp[PyData.canLayAll0],by simp[PyData.depthAll]⟩
 |cons x r ih=>
  obtain⟨a,b⟩:=ih fun y hy=>h y (mi _ hy);obtain⟨c,d⟩:=h x oO;rw[lX];exact⟨by rw[PyData.canLayAll0,c,a];rfl,by rw[PyData.depthAll];exact Nat.max_le.mpr ⟨d,b⟩⟩
theorem fineL{α:Type}{f:α->PyData}{n:Nat}{xs:List α}(h:∀x∈xs,Fine n (f x)):Fine (n+1) (.list (xs.map f)):=by
 obtain⟨a,b⟩:=fineAll h;exact⟨by rw[PyData.canLay0];exact a,by rw[PyData.depth];omega⟩
theorem fineI(ns:List Int):Fine 1 (dI ns):=fineL fun x _=>⟨by simp[PyData.canLay0],by simp[PyData.depth]⟩
section
variable{K:W.Frag}{H:Hp}
theorem zf{α:Type}{g:α->V}{f:α->PyData}(h:∀x,Dp K H (g x) (f x)):∀xs:List α,UF K H (xs.map g) (xs.map f)
 |[]=>.nil
 |x::r=>.cons (h x) (zf h r)
theorem LI.dp{v:V}{ns:List Int}(h:LI H v ns):Dp K H v (dI ns):=by
 obtain⟨a,rfl,e⟩:=h;exact .lst (SqL.of e) (zf (fun x=>.int x) ns)
end
theorem eqv_self{n:Nat}{d:PyData}(h:Fine n d):PyData.eqv d d=true:=SeqAt.eqv_refl d h.1
theorem neD_no{K:W.Frag}{H:Hp}{x y:V}{d:PyData}{n:Nat}{Q:VK}(f:Fine n d)(hn:n<=60)(h1:Dp K H x d)(h2:Dp K H y d)(q:Q (.bl false) H):rEqD K true x y H Q:=
 ⟨d,d,h1,h2,f.1,f.1,mC f.2 hn,by rw[eqv_self f];exact q⟩
theorem eqD_nil{K:W.Frag}{H:Hp}{a b:Addr}{ns:List Int}{Q:VK}(h1:H a=some (.lst (ns.map V.int)))(h2:H b=some (.lst []))(q:∀c:Bool,(c=true↔ns=[])->Q (.bl c) H):rEqD K false (.ref a) (.ref b) H Q:=by
 refine⟨dI ns,.list [],LI.dp ⟨a,rfl,h1⟩,.lst (SqL.of h2) .nil,(fineI ns).1,by simp[PyData.canLay0,PyData.canLayAll0],mC (fineI ns).2 (by decide),?_⟩;refine q _ ?_;cases ns with
 |nil=>simp[dI,PyData.eqv,PyData.eqvAll]
 |cons x r=>simp[dI,PyData.eqv,PyData.eqvAll]
theorem Zq.updN{p D:Addr}{H H':Hp}{o:HO}(s:Zq p H H')(h:H D=none):Zq p H (L2.upd H' D o):=fun b u n e=>by
 rw[ZB (ZL e h)];exact s b u n e
theorem Zq.free{p D:Addr}{H H':Hp}(s:Zq p H H')(np:D≠p)(h:H' D=none):H D=none:=by
 cases e:H D with
 |none=>rfl
 |some o=>rw[s D o np e] at h;cases h
theorem jL{z:Str}{ss:List Str}:inV (.str z) (ss.map V.str)=true↔z∈ss:=by
 unfold inV;rw[List.any_map,List.any_eq_true];constructor
 ·rintro⟨y,hy,e⟩;have e':(y==z)=true:=e;rw[pc] at e';exact e'▸hy
 ·intro hz;exact⟨z,hz,by show(z==z)=true;simp⟩
theorem flat_strs(ss:List Str):(ss.map V.str).all UL=true:=by
 rw[p0];exact nH.mpr fun _ _=>rfl
theorem Ws{H:Hp}{p F:Addr}{o o':HO}(h:H p=some o)(n:p≠F):upd H F o' p=some o:=by rw[ZB n];exact h
theorem ne_new{H:Hp}{p D:Addr}{o:HO}(h:H p=some o)(n:H D=none):p≠D:=fun e=>by rw[e,n] at h;cases h
end L3
namespace L3
end L3
namespace L3
open PySem PySem.Spec L2
theorem ZW.at{C:Addr}{H:Hp}{p:Addr}{d:WD}(h:ZW C H p d){m:Str}(h1:¬m = "room_signs")(h2:¬m = "room_ways")(h3:¬m = "start_rooms")(h4:¬m = "fair_names"):∃dx fs,H p=some (.ins C dx fs)/\fs.lookup m=none:=by
 obtain⟨dx,t1,t2,t3,t4,e,_⟩:=h.ex;exact⟨dx,_,e,lk_no _ _ _ _ h1 h2 h3 h4⟩
theorem jG{C:Addr}{H:Hp}{p:Addr}{d:WD}(h:ZW C H p d):∃dx fs,H p=some (.ins C dx fs)/\fs.lookup ("many" : Str)=none:=h.at (by decide +kernel) (by decide +kernel) (by decide +kernel) (by decide +kernel)
theorem kQ{C:Addr}{H:Hp}{p:Addr}{d:WD}(h:ZW C H p d):∃dx fs,H p=some (.ins C dx fs)/\fs.lookup ("signs_of" : Str)=none:=h.at (by decide +kernel) (by decide +kernel) (by decide +kernel) (by decide +kernel)
theorem JV{C:Addr}{H:Hp}{p:Addr}{d:WD}(h:ZW C H p d):∃dx fs,H p=some (.ins C dx fs)/\fs.lookup ("ways_on" : Str)=none:=h.at (by decide +kernel) (by decide +kernel) (by decide +kernel) (by decide +kernel)
theorem ZW.keep{C:Addr}{H H':Hp}{p:Addr}{d:WD}(k:∀b o,(∀xs,o≠.lst xs)->H b=some o->H' b=some o)(h:ZW C H p d):ZW C H' p d:=by
 have kt:∀b xs,H b=some (.tup xs)->H' b=some (.tup xs):=fun b xs e=>k b _ (fun _ z=>by cases z) e;have ks:∀v x,TS H v x->TS H' v x:=fun v x ⟨a,e,h⟩=>⟨a,e,kt _ _ h⟩;have ki:∀v x,TIn H v x->TIn H' v x:=fun v x ⟨a,e,h⟩=>⟨a,e,kt _ _ h⟩;obtain⟨dx,t1,t2,t3,t4,e,⟨a1,w1,f1,g1,l1,q1⟩,⟨a2,w2,f2,g2,l2,q2⟩,h3,h4⟩:=h.ex;exact⟨dx,t1,t2,t3,t4,k _ _ (fun _ z=>by cases z) e,⟨a1,w1,f1,kt _ _ g1,l1,fun i v x r1 r2=>ks _ _ (q1 i v x r1 r2)⟩,⟨a2,w2,f2,kt _ _ g2,l2,fun i v x r1 r2=>ki _ _ (q2 i v x r1 r2)⟩,ki _ _ h3,ks _ _ h4⟩
end L3
namespace L3
open PySem PySem.Spec PyProof.Rows L2
section
variable{X:Cx}{lL:List (Addr×Obj)}{σ:St}{H:Hp}{s:Shared}{h':Heap}
end
theorem neA{a b:Nat}(h:a<b\/b<a):(a:Addr)≠b:=fun e=>by subst e;omega
theorem apart_of(I l1 l2:Nat)(h1:l1<I)(h2:l2<I):ZipApart (I+4) (I+2) (I+3) I (I+1) l1 l2:=by
 constructor<;>(refine neA ?_;omega)
section
variable{X:Cx}
end
section
variable{X:Cx}
theorem ZH.take{xs:List V}{us:List Value}(h:ZH xs us)(k:Nat):ZH (xs.take k) (us.take k):=by
 induction k generalizing xs us with
 |zero=>exact .nil
 |succ k ih=>
  cases h with
  |nil=>exact .nil
  |cons r t=>exact .cons r (ih t)
theorem ZH.drop{xs:List V}{us:List Value}(h:ZH xs us)(k:Nat):ZH (xs.drop k) (us.drop k):=by
 induction k generalizing xs us with
 |zero=>exact h
 |succ k ih=>
  cases h with
  |nil=>exact .nil
  |cons r t=>exact ih t
theorem ZH.set{xs:List V}{us:List Value}{y:V}{u:Value}(h:ZH xs us)(ry:ZQ y u)(k:Nat):ZH (xs.set k y) (us.set k u):=by
 induction k generalizing xs us with
 |zero=>
  cases h with
  |nil=>exact .nil
  |cons r t=>exact .cons ry t
 |succ k ih=>
  cases h with
  |nil=>exact .nil
  |cons r t=>exact .cons r (ih t)
theorem Inv.big{lL:List (Addr×Obj)}{σ:St}{H:Hp}{s:Shared}(I:L2.Inv X lL σ H s):sysModules<s.heap.objs.size:=by
 have h:mainGlobals<s.heap.objs.size:=(I.mod.glob.keeps I.bk).lt;exact Nat.lt_trans (by decide) h
theorem qf{P:Program}{w:World}{H:Hp}(h:Heap)(hb:sysModules<h.objs.size):YH P w H (h.push { cls:=.type "dict",data:=.dict #[] }) h.objs.size (.dK []):=
 ⟨mN _,oN.mpr (mj (me hb)),[],.nil,Heap.DictOf.new h⟩
def tDNewK:TE:=fun _ H Q=>∀p,H p=none->Q (.ref p) (upd H p (.dK []))
theorem pe_dnewK{pos:Pos}:PE X (.Dict [] [] pos) tDNewK:=fun lL s σ H Q I h=>
 wpAny_Dict_empty ⟨.ref s.heap.objs.size,_,I.laid (a:=s.heap.objs.size) (o:=.dK []) (t':=s.toks) (fun _ _ q=>lZ _ q) (lS _) (qf s.heap (Inv.big I)),rfl,h _ (I.hok.fresh (lS _))⟩
end
section
variable{prog:Program}{w:World}{A:Around}{E:Value->Shared->Prop}{s:Shared}
theorem zI{l:Addr}{items:Array Value}{n:Nat}{k:Int}{t:Tok}{v:Value}{Q:Unit->Shared->Prop}(e:s.heap.get? l=some { cls:=.type "list",data:=.seq items n })
  (h0:0<=k) (hfit:k<2 ^ 63) (hn:k<items.size) (hQ:Q () { s with heap:=s.heap.update l (Obj.mapSeq (·.setIfInBounds k.toNat v)) }) :
  wpAny (model prog w) A (setItem (.ref l) (.int k t) v) Q E s:=by
 have hl:s.heap.IsList l items:=⟨_,e,rfl,n,rfl⟩;obtain⟨o,ho,hc,ne,hd⟩:=id hl;have eo:o={ cls:=.type "list",data:=.seq items n }:=mv (ho.symm.trans e);unfold setItem
 try with_reducible refine nj ?_
 first|refine lO (lT ?_)|skip
 refine lO (wpAny_sequenceKey hl.typeIs (by decide) ?_);refine lO (oU (name:=Str.ofString "__setitem__") hl.typeIs slot_list_setitem
  (nE slot_list_setitem hl.typeIs entry_list_setitem ?_ (args_list_setitem _ _ _)))
 show wpAny _ _ (Builtin.List.listSubscript? (.int k t) >>= _) _ _ s
 refine lO (wpAny_listSubscript_int (fitsIndex_of h0 hfit) ?_);clear hfit;obtain⟨j,rfl⟩:=se h0;have hj:j<items.size:=by omega
 have hx':items[j]?=some items[j]:=sf hj
 show wpAny _ _ ((seqItemAt l j >>= fun r=>pure (r.map (j,·))) >>= _) _ _ s
 refine lO (lO (wpAny_seqItemAt ho hd (lT ?_)));rw[hx']
 show wpAny _ _ (setSeqItemAt l j v >>= _) _ _ s
 refine lO (wpAny_setSeqItemAt ho hd ?_)
 first
  |exact lO (lT (lT ⟨.none,rfl,lT hQ⟩))
  |exact lT ⟨.none,rfl,lT hQ⟩
end
section
variable{X:Cx}
def tSetL(tv to ti:TE):L2.TS:=fun D σ H=>tv σ H fun y H1=>to σ H1 fun x H2=>ti σ H2 fun k H3=>∃l xs j,x=.ref l/\k=.int (j:Nat)/\H3 l=some (.lst xs)/\j<xs.length/\D.nx σ (upd H3 l (.lst (xs.set j y)))
theorem ps_setL{o i e:Expr}{to ti tv:TE}{pos pos':Pos}(hv:PE X e tv)(ho:PE X o to)(hi:PE X i ti)(hs:swapsWith e (some (.Subscript o i pos')) pos.line X.env=pure false:=by rfl):PS X (.Assign [.Subscript o i pos'] e pos) (tSetL tv to ti):=by
 intro lL s σ H D I h;refine wpAny_Assign_Subscript (thn (hv lL s σ H _ I h) fun v s1 ⟨y,H1,I1,r1,q1⟩=>thn (ho lL s1 σ H1 _ I1 q1) fun ov s2 ⟨x,H2,I2,r2,q2⟩=>thn (hi lL s2 σ H2 _ I2 q2) fun iv s3 ⟨k,H3,I3,r3,q3⟩=>?_) hs;obtain⟨l,xs,j,rfl,rfl,hH,hj,q⟩:=q3;cases r2;obtain⟨t,rfl⟩:=(show ∃t,iv=Value.int (j:Nat) t from r3);obtain⟨z,its,n,r,hl,e⟩:=I3.lstM hH;refine zI e (Int.natCast_nonneg j) (by rw[lV] at z;omega) (by rw[mn];omega) ?_;refine⟨σ,_,I3.lset (its':=its.set j v) (t':=s3.toks) hH e (by simp) (ZH.set r r1 j) (by rw[List.length_set];exact z),q⟩
end
end L3
namespace L3
open PySem PySem.Spec L2
section
variable{X:Cx}{K:W.Frag}
theorem Wf{a:Expr}{ta:TE}(hK:X.K=K)(ha:PE X a ta)(he:∀whole,isTrue a X.env whole=(do let v <- whole;standAt a.pos;holding [v] (truthy v))) :
  PT X a (fun σ H Q=>ta σ H fun x H'=>∃k,TruV K x H' k/\Q k H'):=by subst hK;exact pt_truth ha he
end
theorem X1{J:It}{n:Nat}{g:TG}{tb:L2.TS}{D:Ends}{σ:St}{H:Hp}(Pv:Nat->St->Hp->Prop)(h0:Pv 0 σ H)(hgo:∀i σ H,i<n->Pv i σ H->J.go i H)(hst:∀σ H,Pv n σ H->J.stop n H)
  (hs:∀i x σ H H2,i<n->Pv i σ H->J.yld i H x H2->g x σ H2 fun σ2 H3=>tb { D with nx:=Pv (i+1),ct:=Pv (i+1),bk:=D.nx } σ2 H3) (hd:∀σ H,Pv n σ H->D.nx σ H) :
  ∃W:Nat->Nat->St->Hp->Prop,(∃m,W 0 m σ H)/\∀i m σ H,W i m σ H ->
   (J.stop i H/\D.nx σ H)\/(J.go i H/\∃N:St->Hp->Prop,(∀σ' H',N σ' H'->∃m',m'<m/\W (i+1) m' σ' H')/\∀x H',J.yld i H x H'->g x σ H' fun σ2 H2=>tb { D with nx:=N,ct:=N,bk:=D.nx } σ2 H2):=by
 refine⟨fun i m σ H=>m=n-i/\i<=n/\Pv i σ H,⟨n,by simp,mN _,h0⟩,?_⟩;rintro i m σ H ⟨rfl,hi,p⟩
 by_cases hlt:i<n
 ·exact .inr ⟨hgo i σ H hlt p,Pv (i+1),fun σ' H' p'=>⟨n-(i+1),by omega,rfl,hlt,p'⟩,fun x H' y=>hs i x σ H H' hlt p y⟩
 ·have e:i=n:=by omega
  subst e;exact .inl ⟨hst σ H p,hd σ H p⟩
def signsI(d:WD)(r:Int):List Str:=(d.signs[r.toNat]?).getD []
theorem inV_int{z:Int}{ss:List Int}:inV (.int z) (ss.map V.int)=decide (z∈ss):=by
 rw[oQ,pN];unfold inV;rw[List.any_map,List.any_eq_true];constructor
 ·rintro⟨y,hy,e⟩;have e':(y==z)=true:=e;rw[pc] at e';exact e'▸hy
 ·intro hz;exact⟨z,hz,by show(z==z)=true;simp⟩
theorem xT(ss:List Int):(ss.map V.int).all UL=true:=by
 rw[p0];exact nH.mpr fun _ _=>rfl
theorem at_of{xs:List Int}{i:Nat}(h:i<xs.length):(xs.map V.int)[i]?=some (.int (xs.getD i 0)):=by
 simp[List.getD,h]
theorem Xu(xs:List V)(k:Nat)(h:k<=xs.length):W0 xs (some (k:Int)) none=xs.drop k:=by
 unfold W0;rw[HT.sIx_nat,HT.sIx_none,rN h];exact p6 (by rw[mL];omega)
theorem cutV_to(xs:List V)(k:Nat)(h:k<=xs.length):W0 xs none (some (k:Int))=xs.take k:=by
 unfold W0;rw[HT.sIx_nat,HT.sIx_none,rN h];simp
theorem isTy_same{H H':Hp}{T:String}{v:V}(s:Zh H H')(h:Kd H v):XU H' T v=XU H T v:=by
 cases h with
 |non=>rfl
 |bl b=>rfl
 |int i=>rfl
 |str z hz=>rfl
 |lst e=>simp only[XU,e,s _ _ e]
 |tup e=>simp only[XU,e,s _ _ e]
 |dK e=>simp only[XU,e,s _ _ e]
theorem ZW.x{C:Addr}{H H':Hp}{p w:Addr}{zs:List V}{d:WD}(hp:H p=some (.lst zs))(x:Zq p H H')(h:ZW C H w d):ZW C H' w d:=
 h.keep fun b o ho hb=>x b o (fun e=>by subst e;rw[hp] at hb;cases hb;exact ho _ rfl) hb
end L3
namespace L3
open PySem PySem.Spec PyProof.Rows L2
def free(c:Nat)(z:Str):Prop:=c∉z.cps.toList
def dT(d:WD):PyData:=.list (d.signs.map dS++d.ways.map dI++[dI d.starts,dS d.fair])
section
variable{X:Cx}{K:W.Frag}
end
theorem atI_back{α:Type}{xs:List α}{k:Nat}(h1:1<=k)(h2:k<=xs.length):atI xs (-(k:Int))=xs[xs.length-k]?:=by
 have e:ixN xs.length (-(k:Int))=some (xs.length-k):=by
  unfold ixN;rw[if_neg (by omega),if_pos (by omega)]
  congr 1
  omega
 unfold atI;rw[e];rfl
end L3
namespace L3
open PySem PySem.Spec PySem.Calls PyProof.Rows PySem.W L2 Builtin Builtin.ObjectAttr Builtin.Getset_descriptor
section
variable{prog:Program}{w:PySem.World}{A:Around}{E:Value->Shared->Prop}{h:Heap}{g:Array GenState}{d:Drawn}{t:Nat}{os:OsState}{K:Frag}{a C:Addr}
structure ExcK(K:Frag)(C:Addr):Prop where
 ga:findIn K (.ref C) "__getattribute__" = some (some (.builtin "BaseException.__getattribute__"))
 gh:findIn K (.ref C) "__getattr__" = some none
 ob:mroIn K C (.type "object")=some true
 be:mroIn K C (.type "BaseException")=some true
 cl:findIn K (.ref C) "__class__" = some (some (.builtin "object.__class__"))
 gt:specialIn K (.builtin "object.__class__") "__get__" = some (some (.builtin "getset_descriptor.__get__"))
 tk:takesIn K (.builtin "object.__class__")=some true
 hd:hasDictIn K C=true
end
section
variable{X:Cx}
end
end L3
namespace L3
open PySem PySem.Spec PyProof.Rows L2
section
variable{X:Cx}{e:Expr}{es:List Expr}{v:V}{vs:List V}{t:TA}
end
def starB:Expr->Bool
 |.Starred _ _=>true
 |_=>false
theorem star_c{e:Expr}{es:List Expr}{env:Env}(h:starB e=false):starEach (e::es) env=(false,eval e env)::starEach es env:=by
 cases e<;>first|rfl|cases h
theorem ZI{X:Cx}{e:Expr}{es:List Expr}{te:TE}{t:TA}(ha:PE X e te)(hr:PA X es t)(h:starB e=false:=by rfl):PA X (e::es) (xV te t):=Zk ha hr (star_c h)
theorem ext_tup(l:Addr)(items:Array Value)(n:Nat)(b:Addr)(items2:Array Value)(n2:Nat)(dd:Option Addr)(sl:Array (Option Value))(hs0:¬(!items.isEmpty&&Builtin.List.listTooLong (items.size+items2.size))=true)(hs1:items.size<=sizeLine)(hs2:items.size+items2.size<=sizeLine+1) :
  Meets (Builtin.«list.extend» ⟨[.ref l,.ref b],[]⟩) (fun _ R s=>s.heap.get? l=some { cls:=.type "list",dict:=none,data:=.seq items n,slots:=#[] }/\s.heap.get? b=some { cls:=.type "tuple",dict:=dd,data:=.seq items2 n2,slots:=sl }/\R (.ok (.ret Value.none)) { s with heap:=s.heap.update l (Obj.mapSeq fun x=>x++items2),toks:=s.toks }):=
 .of_wp fun prog w A R s h=>by
  obtain⟨hp,g,d,tk,os⟩:=s;obtain⟨hl,hb,h⟩:=h;have f1:=AutoSeq1.idx_int;have f2:=AutoSeq1.sub_tuple_tuple;have f3:=AutoSeq1.sub_list_list;have f4:=AutoSeq1.sub_tuple_list;have f5:=AutoSeq1.sub_list_tuple;have hz':(items++items2).size<=sizeLine+1:=by rw[Array.size_append];exact hs2
  wp_walk using(oX hl rfl (hz:=hs1) (_hz':=hz')),wpAny_loadPart' hl,wpAny_loadPart' hb;exact⟨_,rfl,h⟩
section
variable{X:Cx}{K:W.Frag}
inductive yU(K:W.Frag)(x:V)(vs:List V)(H:Hp)(Q:VK):Prop
 |mk (l:_) (b:_) (xs:_) (zs:_) (h0:x=.ref l) (h1:vs=[.ref b]) (h2:H l=some (.lst xs)) (h3:SqT K H b zs) (h4:xs.length+zs.length<=sizeLine) (h5:Q .non (upd H l (.lst (xs++zs)))):yU K x vs H Q
def rExtendT(K:W.Frag):V->List V->Hp->VK->Prop:=fun x vs H Q=>yU K x vs H Q
theorem JA(hK:X.K=K):MtM X "list.extend" (rExtendT K):=by
 subst hK;intro lL s σ H x vs v us Q I rx rv h;obtain⟨l,b,xs,zs,rfl,rfl,hH,hB,hz,q⟩:=h;cases rx;obtain⟨u,rfl,ru⟩:=rv.one;cases ru;obtain⟨z,its,n,r,hl,e⟩:=I.lstM hH;obtain⟨its2,r2,⟨o,e2,hc,n2,hd⟩,z2⟩:=I.tuple hB;obtain⟨c,dd,da,sl⟩:=o;have hc':c=.type "tuple" := hc;have hd':da=.seq its2.toArray n2:=hd;subst hc' hd';have hl2:=r2.length;have hsz:its.toArray.size+its2.toArray.size<=sizeLine:=by rw[mn,mn];omega
 have hlong:¬(!its.toArray.isEmpty&&Builtin.List.listTooLong (its.toArray.size+its2.toArray.size))=true:=by
  rw[xm hsz,Bool.and_false];exact mI
 refine call_meets F.slot_list_extend ⟨_,e,rfl⟩ F.entry_list_extend (F.args_list_extend_2 _ _)
  (ext_tup l its.toArray n b its2.toArray n2 dd sl hlong (by rw[mn];omega) (by omega)) ⟨e,e2,?_⟩
 refine⟨.non,_,I.lset (its':=its++its2) hH e (by simp) (r.append r2) ?_,rfl,q⟩;rw[lW];omega
end
theorem jJ{sel:Nat->Bool}:∀(xs:List Value) (n k:Nat),(∀i,n<=i->i<n+xs.length->sel i=decide (n+k<=i))->((xs.zipIdx n).filterMap fun(x,i)=>if sel i=true then none else some x)=xs.take k
 |[],n,k,_=>by simp
 |x::r,n,k,h=>by
  have h0:=h n (lS _) (by simp);rw[List.zipIdx_cons,rC];cases k with
  |zero=>
   have e:sel n=true:=by rw[h0];simp
   simp only[e,m9];have:=jJ (sel:=sel) r (n+1) 0 fun i h1 h2=>by rw[h i (by omega) (by simp;omega)];exact pM.mpr ⟨fun _=>by omega,fun _=>by omega⟩
   simpa using this
  |succ k=>
   have e:sel n=false:=by rw[h0];exact nr (by omega)
   simp only[e,mT,mK];rw[List.take_succ_cons,jJ (sel:=sel) r (n+1) k fun i h1 h2=>by rw[h i (by omega) (by simp;omega)];exact pM.mpr ⟨fun _=>by omega,fun _=>by omega⟩]
theorem del_from{prog:Program}{w:World}{A:Around}{E:Value->Shared->Prop}{s:Shared}{l sl:Addr}{items:Array Value}{n:Nat}{vl:Value}{k:Nat}{Q:Unit->Shared->Prop}(ho:s.heap.get? l=some { cls:=.type "list",data:=.seq items n })(hs:s.heap.IsSliceOf sl vl .none .none)(pl:IsPart vl (some (k:Int)))(hk:k<=items.size)(hsz:items.size<=sizeLine)
  (h:∀f:Array Value->Array Value,f items=(items.toList.take k).toArray->Q () { s with heap:=s.heap.update l (Obj.mapSeq f) }):wpAny (model prog w) A (delItem (.ref l) (.ref sl)) Q E s:=by
 have hT:s.TypeIs (.ref l) "list" := ⟨_,ho,rfl⟩;obtain⟨os,hos,hcs,hds⟩:=id hs;have hTs:s.TypeIs (.ref sl) "slice" := ⟨os,hos,hcs⟩;refine wpAny_delItem_slot hT (by decide) F.slot_list_delitem (nE F.slot_list_delitem hT F.entry_list_delitem ?_ (F.args_list_delitem_2 _ _))
 show wpAny _ _ (Builtin.List.listSubscript? (.ref sl) >>= _) _ _ s
 refine lO ?_;unfold Builtin.List.listSubscript?;refine lO (p8 hTs slice_no_index ?_);simp only[Option.isNone_none,m9];refine lT ?_
 show wpAny _ _ (typeOf (.ref sl) >>= _) _ _ s
 refine lO (wpAny_typeOf hTs ?_);rw[if_neg (by decide)];rw[listSliceParts_eq];refine lO (lO (nz hos hds (x:=.none) rfl (lO (wpAny_listPart .none ?_))));rw[if_neg (show ¬((rawPart none==rawInt 0)=true) from mI)];refine lO (nz hos hds (x:=vl) rfl (lO (wpAny_listPart pl ?_)));refine lO (nz hos hds (x:=.none) rfl (lO (wpAny_listPart .none (lT ?_))));refine lO (m:=Builtin.List.listItems (.ref l)) ?_;unfold Builtin.List.listItems;refine lO (pO ho rfl (lT ?_));have eb:sliceIndices (rawPart (some (k:Int))) (rawPart none) (rawPart none) items.size=pure ((k:Int),(items.size:Int),(1:Int)):=by
  rw[sliceIndices_raw _ _ _ _ (by simp)];have e1:(sliceBounds (some (k:Int)) none none items.size)=((k:Int),(items.size:Int),(1:Int)):=by
   unfold sliceBounds;simp;omega
  rw[e1]
 refine lO (wpAny_of_eq eb ?_);refine lO (oE (lO ?_))
 show wpAny _ _ (updateSeq l _) _ _ s
 have hf:=jJ (sel:=fun i=>if(1:Int)>0 then decide ((k:Int)<=i)&&decide ((i:Int)<(items.size:Int))&&((i:Int)-k)%1==0 else decide ((items.size:Int)<i)&&decide ((i:Int)<=k)&&((k:Int)-i)%(-1)==0) items.toList 0 k fun i h1 h2=>by
  have h2':i<items.size:=by simpa using h2
  simp only[show(1:Int)>0 by decide,m9];rw[Int.emod_one];simp;omega
 have hf':=my List.toArray hf;refine oX ho rfl ?_ hsz ?_
 ·exact lO (wpAny_letGo (lT ⟨_,rfl,h _ hf'⟩))
 ·refine mC (Nat.le_of_eq (my Array.size hf')) ?_;rw[mn,mf];omega
section
variable{X:Cx}
def tDelFrom(te:TE)(tl:TE):L2.TS:=fun D σ H=>te σ H fun x H1=>tl σ H1 fun y H2=>∃l xs k,x=.ref l/\y=.int ((k:Nat):Int)/\H2 l=some (.lst xs)/\k<=xs.length/\D.nx σ (upd H2 l (.lst (xs.take k)))
theorem JU{o lo:Expr}{te tl:TE}{p2 p3 pos:Pos}(ho:PE X o te)(hl:PE X lo tl):PS X (.Delete [.Subscript o (.Slice (some lo) none none p2) p3] pos) (tDelFrom te tl):=by
 intro lL s σ H D I h;refine wpAny_Delete (wpAny_deleteEach_cons (wpAny_delete_Subscript (thn (ho lL s σ H _ I h) fun u s1 ⟨x,H1,I1,rx,q1⟩=>?_)));refine wpAny_Slice ?_;rw[evalPart_some];refine thn (hl lL s1 σ H1 _ I1 q1) fun vl s2 ⟨y,H2,I2,ry,l,xs,k,ex,ey,hH,hk,q⟩=>?_;subst ex ey;obtain rfl:u=Value.ref l:=rx;obtain⟨t,rfl⟩:=(show ∃t,vl=Value.int ((k:Nat):Int) t from ry);rw[evalPart_none];refine lT (lT ?_);have I3:Inv X lL σ H2 { s2 with heap:=s2.heap.push { cls:=.type "slice",data:=.fields #[.int ((k:Nat):Int) t,.none,.none] } }:=I2.kept (t':=s2.toks) fun b ob q=>lZ _ q;obtain⟨z,its,n,r,hlen,e⟩:=I3.lstM hH;refine del_from e (Heap.IsSliceOf.new ..) (.int _ t) (by rw[mn];omega) (by rw[mn];omega) fun f hf=>wpAny_deleteEach_nil ?_;refine⟨σ,_,I3.lset (its':=its.take k) (t':=s2.toks) hH e ?_ (r.take k) (by rw[mf];omega),q⟩;simpa using hf
end
structure DicK(K:W.Frag)(P:Params)(D:Addr)(kvs:List (Str×Int)):Prop where
 ex:∃(es:Array DictEntry) (n:Nat),K.lookup D=some ⟨.type "dict",none,.dict es n,#[]⟩/\W.KeysLit P es.toList
 at_:∀p∈kvs,∃t,W.nsIn K D p.1=some (some (.int p.2 t))
 lo:(D==sysModules)=false
inductive rIxD_R(K:W.Frag)(P:Params)(x:V)(y:V)(H:Hp)(Q:VK):Prop
 |mk (D:_) (z:_) (kvs:_) (i:_) (h0:x=.ref D) (h1:y=.str z) (h2:DicK K P D kvs) (h3:(z,i)∈kvs) (h4:Q (.int i) H):rIxD_R K P x y H Q
def rIxD(K:W.Frag)(P:Params):R2:=fun x y H Q=>rIxD_R K P x y H Q
section
variable{X:Cx}{K:W.Frag}{P:Params}
theorem ix_dic(hK:X.K=K)(hw:X.w.params=P):IxR X (rIxD K P):=by
 subst hK hw;intro value slice lL s σ H x y v u Q I rx ry h hs;obtain⟨D,z,kvs,i,rfl,rfl,d,hm,q⟩:=h;obtain⟨t,rfl⟩:=(show ∃t,u=Value.str z t from ry);obtain rfl:v=Value.ref D:=rx;obtain⟨m,F⟩:=I.fr;obtain⟨es,n,lk,hk⟩:=d.ex;obtain⟨t2,ea⟩:=d.at_ _ hm;exact W.topItem_K F I.mod.kin lk hk ea ⟨.int i,H,I.tok _,⟨t2,rfl⟩,q⟩ hs
end
end L3
namespace L3
open PySem PySem.Spec L2
inductive Lb where
 |yes
 |sign (s:Str)
 |op (w:Str)
 |wit (m:Int)
 |many (w:Str)
inductive Tr where
 |node (c:Lb) (ks:List Tr)
def Tr.lb:Tr->Lb
 |.node c _=>c
def Tr.ks:Tr->List Tr
 |.node _ ks=>ks
theorem Tr.eta(t:Tr):t=.node t.lb t.ks:=by cases t;rfl
def W1:List Str:=["all", "some", "not", "next", "always", "ever", "before", "once", "sofar"]
def W2:List Str:=["until", "since"]
def XV:Lb->Nat->Prop
 |.yes,n=>n=0
 |.sign s,n=>n=0/\X2 s=true
 |.op w,n=>(w∈W1/\n=1)\/(w∈W2/\n=2)
 |.wit m,n=>(0<=m/\m<=5)/\n=2
 |.many w,n=>(w = "and" \/ w = "or")/\n<=8
def ZT:Lb->Str
 |.yes => "yes"
 |.sign _ => "sign"
 |.op w=>w
 |.wit _ => "within"
 |.many w=>w
def UO(K:W.Frag)(H:Hp)(a:Addr)(vs:List V):Lb->Prop
 |.yes=>vs=[]/\SqT K H a [.str "yes"]
 |.sign s=>vs=[]/\SqT K H a [.str "sign",.str s]
 |.op w=>SqT K H a (.str w::vs)
 |.wit m=>SqT K H a (.str "within" :: .int m::vs)
 |.many w=>∃b,SqT K H a [.str w,.ref b]/\SqT K H b vs
def At(K:W.Frag):Nat->Hp->V->Tr->Prop
 |0,_,_,_=>False
 |n+1,H,v,t=>∃a vs,v=.ref a/\UO K H a vs t.lb/\XV t.lb t.ks.length/\vs.length=t.ks.length/\∀(i:Nat) u k,vs[i]?=some u->t.ks[i]?=some k->At K n H u k
def YL(H H':Hp):Prop:=∀(K:W.Frag) b xs,SqT K H b xs->SqT K H' b xs
theorem Zh.tup{H H':Hp}(s:Zh H H'):YL H H':=fun K b xs e=>Zh.seqT s e
theorem Zq.tup{p:Addr}{H H':Hp}{xs:List V}(s:Zq p H H')(hp:H p=some (.lst xs)):YL H H':=fun K b ys h=>by
 rcases h with(h|⟨o,h⟩)|h
 ·exact .inl (.inl (s _ _ (Vw h hp (by intro z;cases z)) h))
 ·exact .inl (.inr ⟨o,s _ _ (Vw h hp (by intro z;cases z)) h⟩)
 ·exact .inr h
theorem YL.trans{H H1 H2:Hp}(a:YL H H1)(b:YL H1 H2):YL H H2:=fun K c xs e=>b _ _ _ (a _ _ _ e)
variable{K:W.Frag}
theorem UO.mono{H H':Hp}(s:YL H H'){a:Addr}{vs:List V}{c:Lb}(h:UO K H a vs c):UO K H' a vs c:=by
 cases c with
 |yes=>exact⟨h.1,s _ _ _ h.2⟩
 |sign z=>exact⟨h.1,s _ _ _ h.2⟩
 |op w=>exact s _ _ _ h
 |wit m=>exact s _ _ _ h
 |many w=>obtain⟨b,h1,h2⟩:=h;exact⟨b,s _ _ _ h1,s _ _ _ h2⟩
theorem At.mono{H H':Hp}(s:YL H H'):∀{n:Nat}{v:V}{t:Tr},At K n H v t->At K n H' v t
 |0,_,_,h=>h
 |n+1,v,t,⟨a,vs,e,sh,ok,l,q⟩=>⟨a,vs,e,sh.mono s,ok,l,fun i u k h1 h2=>At.mono s (q i u k h1 h2)⟩
theorem At.up{H:Hp}:∀{n:Nat}{v:V}{t:Tr},At K n H v t->At K (n+1) H v t
 |0,_,_,h=>h.elim
 |n+1,v,t,⟨a,vs,e,sh,ok,l,q⟩=>⟨a,vs,e,sh,ok,l,fun i u k h1 h2=>At.up (q i u k h1 h2)⟩
theorem At.le{H:Hp}{n m:Nat}{v:V}{t:Tr}(h:At K n H v t)(hm:n<=m):At K m H v t:=by
 induction hm with
 |refl=>exact h
 |step _ ih=>exact ih.up
def AtL(K:W.Frag)(n:Nat)(H:Hp)(vs:List V)(ts:List Tr):Prop:=vs.length=ts.length/\∀(i:Nat) u k,vs[i]?=some u->ts[i]?=some k->At K n H u k
theorem AtL.mono{n:Nat}{H H':Hp}{vs:List V}{ts:List Tr}(s:YL H H')(h:AtL K n H vs ts):AtL K n H' vs ts:=⟨h.1,fun i u k h1 h2=>(h.2 i u k h1 h2).mono s⟩
theorem AtL.le{n m:Nat}{H:Hp}{vs:List V}{ts:List Tr}(h:AtL K n H vs ts)(hm:n<=m):AtL K m H vs ts:=⟨h.1,fun i u k h1 h2=>(h.2 i u k h1 h2).le hm⟩
theorem AtL.nil{n:Nat}{H:Hp}:AtL K n H [] []:=⟨rfl,fun i u k h=>by simp at h⟩
theorem AtL.one{n:Nat}{H:Hp}{v:V}{t:Tr}(h:At K n H v t):AtL K n H [v] [t]:=⟨rfl,fun i u k h1 h2=>by
 cases i with
 |zero=>cases h1;cases h2;exact h
 |succ i=>simp at h1⟩
theorem AtL.app{n:Nat}{H:Hp}{vs us:List V}{ts rs:List Tr}(h:AtL K n H vs ts)(g:AtL K n H us rs):AtL K n H (vs++us) (ts++rs):=by
 refine⟨by rw[lW,lW,h.1,g.1],fun i u k h1 h2=>?_⟩
 by_cases hi:i<vs.length
 ·rw[mQ hi] at h1;rw[mQ (by rw[<- h.1];exact hi)] at h2;exact h.2 i u k h1 h2
 ·rw[mW (by omega)] at h1;rw[mW (by rw[<- h.1];omega),<- h.1] at h2;exact g.2 _ u k h1 h2
theorem AtL.rev{n:Nat}{H:Hp}{vs:List V}{ts:List Tr}(h:AtL K n H vs ts):AtL K n H vs.reverse ts.reverse:=by
 refine⟨by rw[pL,pL,h.1],fun i u k h1 h2=>?_⟩;have hi:=(mo.mp h1).1;rw[pL] at hi;rw[si hi] at h1;rw[si (by rw[<- h.1];exact hi),<- h.1] at h2;exact h.2 _ u k h1 h2
theorem AtL.last{n:Nat}{H:Hp}{vs:List V}{ts:List Tr}(h:AtL K n H vs ts)(hne:vs≠[]):∃us u rs r,vs=us++[u]/\ts=rs++[r]/\AtL K n H us rs/\At K n H u r:=by
 have hl:=oY.mpr hne;have ht:ts≠[]:=fun e=>by rw[e] at h;have:=h.1;simp at this;exact hne this
 have e1:=List.dropLast_concat_getLast hne;have e2:=List.dropLast_concat_getLast ht;have hl1:vs.dropLast.length=ts.dropLast.length:=by rw[sd,sd,h.1]
 refine⟨vs.dropLast,vs.getLast hne,ts.dropLast,ts.getLast ht,e1.symm,e2.symm,⟨hl1,fun i u k h1 h2=>?_⟩,?_⟩
 ·have hi:=(mo.mp h1).1;refine h.2 i u k ?_ ?_
  ·rw[<- e1,mQ hi];exact h1
  ·rw[<- e2,mQ (by rw[<- hl1];exact hi)];exact h2
 ·refine h.2 (vs.length-1) _ _ ?_ ?_
  ·rw[List.getLast_eq_getElem];exact lU _
  ·rw[List.getLast_eq_getElem,h.1];exact lU _
mutual
def Yn:Tr->Bool
 |.node c ks=>match c with
  |.yes=>true
  |.sign _=>true
  |.op w=>if w = "all" \/ w = "some" then true else if w = "not" then yq ks else false
  |.wit _=>false
  |.many _=>yq ks
def yq:List Tr->Bool
 |[]=>true
 |t::r=>Yn t&&yq r
end
theorem vw:∀ks:List Tr,yq ks=ks.all Yn
 |[]=>by rw[yq];rfl
 |t::r=>by rw[yq,vw r,pd]
def roomF(c:Lb)(bs:List Bool):Bool:=match c with
 |.yes=>true
 |.sign _=>true
 |.op w=>if w = "all" \/ w = "some" then true else if w = "not" then bs.all id else false
 |.wit _=>false
 |.many _=>bs.all id
theorem Uk(c:Lb)(ks:List Tr):Yn (.node c ks)=roomF c (ks.map Yn):=by
 have e:(ks.map Yn).all id=yq ks:=by rw[vw,p0];rfl
 cases c<;>simp only[Yn,roomF,e]
mutual
def post:Tr->List Tr
 |.node c ks=>Z9 ks++[.node c ks]
def Z9:List Tr->List Tr
 |[]=>[]
 |t::r=>post t++Z9 r
end
theorem W4(t:Tr):post t=Z9 t.ks++[t]:=by cases t;rw[post];rfl
theorem Uv:∀(a b:List Tr),Z9 (a++b)=Z9 a++Z9 b
 |[],b=>by rw[nM,Z9,nM]
 |t::r,b=>by rw[pP,Z9,Uv r b,Z9,nY]
theorem VC(t:Tr):Z9 [t]=post t:=by rw[Z9,Z9,nW]
theorem post_turn(ws:List Tr)(w:Tr):(Z9 (ws++[w])).reverse=w::(Z9 (ws++w.ks)).reverse:=by
 rw[Uv,Uv,VC,W4 w];simp
mutual
def YS{α:Type}(F:Lb->List α->α):Tr->α
 |.node c ks=>F c (valL F ks)
def valL{α:Type}(F:Lb->List α->α):List Tr->List α
 |[]=>[]
 |t::r=>YS F t::valL F r
end
theorem kq{α:Type}(F:Lb->List α->α):∀ks:List Tr,valL F ks=ks.map (YS F)
 |[]=>by rw[valL];rfl
 |t::r=>by rw[valL,kq F r];rfl
theorem W5{α:Type}(F:Lb->List α->α)(t:Tr):YS F t=F t.lb (t.ks.map (YS F)):=by
 cases t with
 |node c ks=>rw[YS,kq];rfl
section
variable{α:Type}{F:Lb->List α->α}
def Vx(F:Lb->List α->α)(st:List α)(t:Tr):List α:=st.take (st.length-t.ks.length)++[F t.lb (st.drop (st.length-t.ks.length))]
def zk(F:Lb->List α->α):List α->List Tr->Prop
 |_,[]=>True
 |st,t::r=>(t.ks.length<=st.length/\st.drop (st.length-t.ks.length)=t.ks.map (YS F))/\zk F (Vx F st t) r
def runF(F:Lb->List α->α):List α->List Tr->List α
 |st,[]=>st
 |st,t::r=>runF F (Vx F st t) r
theorem stepF_app(st:List α)(t:Tr):Vx F (st++t.ks.map (YS F)) t=st++[YS F t]:=by
 unfold Vx;have e:(st++t.ks.map (YS F)).length-t.ks.length=st.length:=by rw[lW,lQ];omega
 rw[e,List.take_left,List.drop_left,<- W5 F t]
mutual
theorem jZ:∀(t:Tr) (st:List α) (r:List Tr),(zk F (st++[YS F t]) r->zk F st (post t++r))/\runF F st (post t++r)=runF F (st++[YS F t]) r
 |.node c ks,st,r=>by
  obtain⟨h1,h2⟩:=vD ks st (.node c ks::r);have e':Vx F (st++ks.map (YS F)) (.node c ks)=st++[YS F (.node c ks)]:=stepF_app st (.node c ks);rw[post,nY,List.singleton_append];refine⟨fun h=>h1 ⟨⟨?_,?_⟩,?_⟩,?_⟩
  ·show ks.length<=_
   rw[lW,lQ];omega
  ·show(st++ks.map (YS F)).drop ((st++ks.map (YS F)).length-ks.length)=ks.map (YS F)
   have e:(st++ks.map (YS F)).length-ks.length=st.length:=by rw[lW,lQ];omega
   rw[e,List.drop_left]
  ·rw[e'];exact h
  ·rw[h2,runF,e']
theorem vD:∀(ks:List Tr) (st:List α) (r:List Tr),(zk F (st++ks.map (YS F)) r->zk F st (Z9 ks++r))/\runF F st (Z9 ks++r)=runF F (st++ks.map (YS F)) r
 |[],st,r=>by
  rw[Z9,nM,mF,nW];exact⟨id,rfl⟩
 |t::ks,st,r=>by
  obtain⟨h1,h2⟩:=jZ t st (Z9 ks++r);obtain⟨h3,h4⟩:=vD ks (st++[YS F t]) r;rw[Z9,nY,lX];have e:st++YS F t::ks.map (YS F)=st++[YS F t]++ks.map (YS F):=by simp
  rw[e];exact⟨fun h=>h1 (h3 h),by rw[h2,h4]⟩
end
theorem run_all(t:Tr):zk F [] (post t)/\runF F [] (post t)=[YS F t]:=by
 obtain⟨h1,h2⟩:=jZ (F:=F) t [] [];rw[nW] at h1 h2;exact⟨h1 trivial,h2⟩
end
mutual
theorem xl:∀(t:Tr),t∈post t
 |.node c ks=>by rw[post];simp
end
theorem Wb{p A B:Prop}[Decidable p](h:p)(a:A):if decide p=true then A else B:=by rw[if_pos (nk h)];exact a
theorem Z1{p A B:Prop}[Decidable p](h:¬p)(b:B):if decide p=true then A else B:=by rw[if_neg (by simpa using h)];exact b
theorem qD{p:Prop}[Decidable p]{Q:VK}{H:Hp}(h:p)(q:Q (.bl true) H):Q (.bl (decide p)) H:=by rw[nk h];exact q
theorem VR{X:Cx}{K:W.Frag}(hK:X.K=K):SlR X (rSlT K):=by subst hK;exact sl_tup
theorem UK{w:Str}{ss:List Str}{A B:Prop}(h:w∈ss)(a:A):if inV (.str w) (ss.map V.str)=true then A else B:=by rw[if_pos (jL.mpr h)];exact a
theorem XI{w:Str}{ss:List Str}{A B:Prop}(h:w∉ss)(b:B):if inV (.str w) (ss.map V.str)=true then A else B:=by rw[if_neg (fun e=>h (jL.mp e))];exact b
def LK:List (Str×Int):=[("all",2),("some",2),("not",2),("next",2),("always",2),("ever",2),("before",2),("once",2),("sofar",2),("until",3),("since",3)]
theorem yH:∀w∈W1++W2,w ≠ "yes" /\ w ≠ "sign" /\ w∉(["and", "or"]:List Str)/\w ≠ "within" /\ w∉(["yes", "sign"]:List Str):=by decide +kernel
theorem Vn:∀w∈(["and", "or"]:List Str),w ≠ "yes" /\ w ≠ "sign" /\ w ≠ "within" /\ w∉(["yes", "sign"]:List Str)/\w∉(["yes", "sign", "all", "some"]:List Str)/\w∈(["not", "and", "or"]:List Str):=by decide +kernel
theorem lk1:∀w∈W1,(w,(2:Int))∈LK:=by decide +kernel
theorem lk2:∀w∈W2,(w,(3:Int))∈LK:=by decide +kernel
theorem Vl{K:W.Frag}{H:Hp}(z:Str):∃t,UC K H (.str z) t/\W.kitOne K t (.type "str")=some true:=⟨_,.str _,rfl⟩
theorem UO.tup{H:Hp}{a:Addr}{vs:List V}{c:Lb}(h:UO K H a vs c):∃xs,SqT K H a (.str (ZT c)::xs):=by
 cases c with
 |yes=>exact⟨[],h.2⟩
 |sign s=>exact⟨[.str s],h.2⟩
 |op w=>exact⟨vs,h⟩
 |wit m=>exact⟨.int m::vs,h⟩
 |many w=>obtain⟨b,h1,_⟩:=h;exact⟨[.ref b],h1⟩
inductive rIsT_R(K:W.Frag)(xs:List V)(H:Hp)(Q:VK):Prop
 |mk (x:_) (h0:xs=[x,.ty "tuple"]) (h1:((∃a ys,x=.ref a/\SqT K H a ys/\Q (.bl true) H)\/∃t,UC K H x t/\W.kitOne K t (.type "tuple")=some false/\Q (.bl false) H)):rIsT_R K xs H Q
def rIsT(K:W.Frag):List V->Hp->VK->Prop:=fun xs H Q=>rIsT_R K xs H Q
theorem kS{X:Cx}(hK:X.K=K):YB X (.builtin "isinstance") (rIsT K):=by
 subst hK;intro lL s σ H xs us Q I r h;obtain⟨x,rfl,h⟩:=h;obtain⟨u,v,rfl,ru,rv⟩:=vals2 r;obtain rfl:v=Value.type "tuple" := rv;rcases h with⟨a,ys,rfl,hq,q⟩|⟨t,ht,hk,q⟩
 ·obtain rfl:u=Value.ref a:=ru;obtain⟨its,r,⟨o,h1,h2,h3⟩,hz⟩:=I.tuple hq;exact nJ (b:=true) W.kitx_tuple I.kIn ⟨o,h1,h2⟩ rfl (fun z=>nomatch z) fun tk=>⟨.bl true,H,I.tok _,rfl,q⟩
 ·exact vG I ru ht hk fun tk=>⟨.bl false,H,I.tok _,rfl,q⟩
end L3
namespace L3
open PySem PySem.Spec PyProof.Rows L2
def Itv(K:W.Frag)(a:Addr)(n:Nat):It:=
 ⟨fun i H=>i<n/\∃xs,SqL K H a xs/\xs.length=n,fun i H x H'=>H'=H/\∀xs,SqL K H a xs->xs[n-1-i]?=some x,fun i _=>n<=i⟩
theorem turn_rev{P:Program}{w:World}{K:W.Frag}{tg:Expr}(a it:Addr)(n:Nat):Turn P w K tg (Itv K a n) [it] it (fun i h=>i<=n/\h.IsRevIter it a ((n:Int)-1-(i:Int))) where
 mem:=by simp
 obj:=fun i h st b hb=>by
  have e:b=it:=by simpa using hb
  subst e;obtain⟨_,o,e,c,d⟩:=st;exact⟨o,e,fun v z=>by rw[d] at z;cases z⟩
 keep:=fun i h h' st k=>⟨st.1,st.2.at fun o e=>k it (by simp) o e⟩
 item:=by
  intro X hP hw hK hc i lL s σ H E I hf st hg;subst hP hw hK;obtain⟨hi,xs,hq,hn⟩:=hg;obtain⟨its,rv,p,hz⟩:=I.list hq;have hx:xs[n-1-i]?=some (xs[n-1-i]'(by omega)):=lU (by omega);obtain⟨u,hu,ru⟩:=rv.get hx;obtain⟨f0,f1,f2,f3,f4,f5⟩:=hf it (by simp);have e:(n:Int)-1-(i:Int)=((n-1-i:Nat):Int):=by omega
  have st2:=st.2;rw[e] at st2;refine wpAny_pyNext_rev_item st2 p.isList (x:=u) (by simpa using hu) fun h' st' sb=>?_;have I1:Inv X lL σ H { s with heap:=h' }:=I.turned (t':=s.toks) (fun b o hb e=>(sb.2 b hb).trans e) f0 f1 f3 f4 f5;have e2:((n-1-i:Nat):Int)-1=(n:Int)-1-((i+1:Nat):Int):=by omega
  rw[e2] at st';obtain⟨o,e,c,d⟩:=id st';exact⟨u,rfl,go_of (s:={ s with heap:=h' }) e c d (by decide) ⟨_,H,I1,ru,⟨rfl,fun ys hy=>by rw[I.list_inj hy hq];exact hx⟩,⟨hi,st'⟩,fun b hb=>(hf b hb).1⟩⟩
 done:=by
  intro X hP hw hK hc i lL s σ H E I hf st hg;subst hP hw hK;have hn:n<=i:=hg;obtain⟨f0,f1,f2,f3,f4,f5⟩:=hf it (by simp);have e:(n:Int)-1-(i:Int)=-1:=by have:=st.1;omega
  have st2:=st.2;rw[e] at st2;exact wpAny_pyNext_rev_end (I.ok.hd hc) st2 fun h' eb=>⟨rfl,I.turned (t':=s.toks) (fun b o hb e=>eb b o hb e) f0 f1 f3 f4 f5⟩
 self:=fun _ _ _ _ _ st h=>wpAny_pyIter_revIter st.2 h
section
variable{X:Cx}{K:W.Frag}{tg:Expr}
def iRev(K:W.Frag)(ta:TA):TI:=fun σ H R=>ta σ H fun vs H1=>∃a xs,vs=[.ref a]/\SqL K H1 a xs/\R (Itv K a xs.length) H1
theorem zR{a:Expr}{ta:TA}{p pos:Pos}(hK:X.K=K)(hg:Gl X "reversed")(hm:X.mg "reversed" = none)(ha:PA X [a] ta)(hs:starEach [a] X.env=[(false,eval a X.env)]:=by rfl) :
  PI X tg (.Call (.Name "reversed" p) [a] [] pos) (iRev K ta):=by
 subst hK;intro lL s σ H R I h;refine Call_ (VS I hg hm PyProof.Rows.boot_reversed (pH (thn (ha pos lL s σ H _ I h) fun us s1 ⟨vs,H1,I1,r1,q1⟩=>?_) hs rfl));obtain⟨l,xs,rfl,hq,q⟩:=q1;obtain⟨u,rfl,ru⟩:=VG r1;obtain rfl:u=Value.ref l:=ru;obtain⟨its,rv,pl,hz⟩:=I1.list hq;have hl:=rv.length;refine call_reversed_list pl.isList ?_;have st:(s1.heap.push (revObj l ((its.toArray.size:Int)-1))).IsRevIter s1.heap.objs.size l ((xs.length:Int)-1-((0:Nat):Int)):=⟨_,mD _ rfl,rfl,by
  show Data.fields #[Value.ref l,rawInt ((its.toArray.size:Int)-1)]=_
  have e:(its.toArray.size:Int)-1=(xs.length:Int)-1-((0:Nat):Int):=by rw[mn];omega
  rw[e]⟩
 refine wpAny_pyIter_revIter st ?_;refine⟨s1.heap.objs.size,[s1.heap.objs.size],_,_,H1,rfl,I1.kept (t':=s1.toks) fun b o e=>lZ _ e,turn_rev l _ xs.length,⟨mN _,st⟩,fun b hb=>?_,q⟩;have e:b=s1.heap.objs.size:=by simpa using hb
 subst e;exact I1.fpOk (lS _) (I1.hok.fresh (lS _))
theorem yG(hK:X.K=K):OpR X (binaryOp .Add) (rCatT K):=by subst hK;exact op_catT
end
end L3
namespace L3
open PySem PySem.Spec L2
abbrev Ye:Tr:=.node .yes []
abbrev Ym(t:Tr):Tr:=.node (.op "not") [t]
abbrev qv(t:Tr):Tr:=.node (.op "next") [t]
abbrev nSome(t:Tr):Tr:=.node (.op "some") [t]
abbrev Vo(a b:Tr):Tr:=.node (.many "and") [a,b]
abbrev nUnt(a b:Tr):Tr:=.node (.op "until") [a,b]
abbrev nSin(a b:Tr):Tr:=.node (.op "since") [a,b]
def W7:List Tr->Tr
 |[]=>Ye
 |[x]=>x
 |x::y::r=>Vo x (W7 (y::r))
def orT:List Tr->Tr
 |[]=>Ym Ye
 |[x]=>x
 |x::y::r=>Ym (Vo (Ym x) (Ym (orT (y::r))))
def Yj:Nat->Tr->Tr->Tr
 |0,_,s=>s
 |n+1,f,s=>Ym (Vo (Ym s) (Ym (Vo f (qv (Yj n f s)))))
def Y0(c:Lb)(cs:List Tr):Tr:=match c with
 |.yes=>Ye
 |.sign s=>.node (.sign s) []
 |.many w=>if w = "and" then W7 cs else orT cs
 |.wit m=>Yj m.toNat (cs.getD 0 Ye) (cs.getD 1 Ye)
 |.op w=>if w = "all" then Ym (nSome (Ym (cs.getD 0 Ye))) else if w = "ever" then nUnt Ye (cs.getD 0 Ye) else if w = "always" then Ym (nUnt Ye (Ym (cs.getD 0 Ye)))
  else if w = "once" then nSin Ye (cs.getD 0 Ye) else if w = "sofar" then Ym (nSin Ye (Ym (cs.getD 0 Ye))) else .node (.op w) cs
def Yx:Tr->Tr:=YS Y0
theorem VE(t:Tr):Yx t=Y0 t.lb (t.ks.map Yx):=W5 Y0 t
def mx(l:List Nat):Nat:=l.foldr max 0
theorem mx_le{l:List Nat}{m:Nat}:mx l<=m↔∀x∈l,x<=m:=by
 induction l with
 |nil=>simp[mx]
 |cons a r ih=>
  have e:mx (a::r)=max a (mx r):=rfl;rw[e,Nat.max_le,ih];simp
def hgt:Tr->Nat:=YS fun _ hs=>mx hs+1
theorem jP(t:Tr):hgt t=mx (t.ks.map hgt)+1:=W5 _ t
def dpt:Tr->Nat:=YS fun c ds=>match c with|.many _=>mx ds+2|_=>mx ds+1
theorem dpt_eq(t:Tr):dpt t=match t.lb with|.many _=>mx (t.ks.map dpt)+2|_=>mx (t.ks.map dpt)+1:=W5 _ t
def psz(t:Tr):Nat:=(post t).length
theorem psz_eq(t:Tr):psz t=(t.ks.map psz).sum+1:=by
 have key:∀ks:List Tr,(Z9 ks).length=(ks.map psz).sum:=by
  intro ks
  induction ks with
  |nil=>rfl
  |cons a r ih=>rw[Z9,lW,ih,lX,nN];rfl
 unfold psz;rw[W4 t,lW,key];rfl
theorem WI(t:Tr):1<=psz t:=by rw[psz_eq];omega
theorem hgt_pos(t:Tr):1<=hgt t:=by rw[jP];omega
theorem At.hgt_le{K:W.Frag}{H:Hp}:∀{n:Nat}{v:V}{t:Tr},At K n H v t->hgt t<=n
 |0,_,_,h=>h.elim
 |n+1,v,t,⟨a,vs,e,sh,ok,l,q⟩=>by
  rw[jP];have:mx (t.ks.map hgt)<=n:=mx_le.mpr fun x hx=>by
   obtain⟨k,hk,rfl⟩:=mE.mp hx;obtain⟨i,hi,rfl⟩:=m7 hk;exact At.hgt_le (q i _ _ (lU (by omega)) (lU hi))
  omega
theorem hgt_kid{t k:Tr}(h:k∈t.ks):hgt k+1<=hgt t:=by
 rw[jP t];have:=(mx_le (m:=mx (t.ks.map hgt))).mp (lS _) (hgt k) (p9 h);omega
theorem At.fit{K:W.Frag}{H:Hp}:∀{n m:Nat}{v:V}{t:Tr},At K n H v t->hgt t<=m->At K m H v t
 |0,_,_,_,h,_=>h.elim
 |n+1,0,v,t,h,hm=>by have:=hgt_pos t;omega
 |n+1,m+1,v,t,⟨a,vs,e,sh,ok,l,q⟩,hm=>⟨a,vs,e,sh,ok,l,fun i u k h1 h2=>At.fit (q i u k h1 h2) (by have:=hgt_kid (mM h2);omega)⟩
section
theorem Wj{cs:List Tr}{i:Nat}{P:Tr->Prop}(h:∀c∈cs,P c)(hy:P Ye):P (cs.getD i Ye):=by
 cases e:cs[i]? with
 |none=>rw[nB,e];exact hy
 |some x=>rw[nB,e];exact h x (mM e)
theorem Xp(c:Lb)(ks:List Tr):hgt (.node c ks)=mx (ks.map hgt)+1:=jP _
theorem XQ(c:Lb)(ks:List Tr):psz (.node c ks)=(ks.map psz).sum+1:=psz_eq _
theorem XF(c:Lb)(ks:List Tr):dpt (.node c ks)=match c with|.many _=>mx (ks.map dpt)+2|_=>mx (ks.map dpt)+1:=dpt_eq _
theorem mx1(a:Nat):mx [a]=a:=by simp[mx]
theorem mx2(a b:Nat):mx [a,b]=max a b:=by simp[mx]
theorem hgt_core{c:Lb}{cs:List Tr}{m:Nat}(ok:XV c cs.length)(h:∀k∈cs,hgt k<=m)(hm:1<=m):hgt (Y0 c cs)<=m+27:=by
 have y:hgt Ye=1:=rfl;have g0:hgt (cs.getD 0 Ye)<=m:=Wj (P:=fun k=>hgt k<=m) h (by rw[y];exact hm);have g1:hgt (cs.getD 1 Ye)<=m:=Wj (P:=fun k=>hgt k<=m) h (by rw[y];exact hm);have ha:∀cs:List Tr,(∀k∈cs,hgt k<=m)->hgt (W7 cs)<=m+cs.length:=by
  intro cs
  induction cs with
  |nil=>intro _;show hgt Ye<=_;rw[y];omega
  |cons x r ih=>
   intro h;cases r with
   |nil=>have:=h x (by simp);show hgt x<=_;omega
   |cons z r=>
    have i2:=ih fun k hk=>h k (mi _ hk);have:=h x (by simp)
    show hgt (Vo x (W7 (z::r)))<=_
    rw[Xp,lX,lX,mF,mx2];simp only[mJ] at i2 ⊢;omega
 have ho:∀cs:List Tr,(∀k∈cs,hgt k<=m)->hgt (orT cs)<=m+3*cs.length+1:=by
  intro cs
  induction cs with
  |nil=>intro _;show hgt (Ym Ye)<=_;rw[Xp,lX,mF,mx1,y];omega
  |cons x r ih=>
   intro h;cases r with
   |nil=>have:=h x (by simp);show hgt x<=_;omega
   |cons z r=>
    have i2:=ih fun k hk=>h k (mi _ hk);have:=h x (by simp)
    show hgt (Ym (Vo (Ym x) (Ym (orT (z::r)))))<=_
    simp only[Xp,lX,mF,mx1,mx2];simp only[mJ] at i2 ⊢;omega
 have hw:∀n f s,hgt f<=m->hgt s<=m->hgt (Yj n f s)<=m+5*n:=by
  intro n f s hf hs
  induction n with
  |zero=>show hgt s<=_;omega
  |succ n ih=>
   show hgt (Ym (Vo (Ym s) (Ym (Vo f (qv (Yj n f s))))))<=_
   simp only[Xp,lX,mF,mx1,mx2];omega
 cases c with
 |yes=>show hgt Ye<=_;rw[y];omega
 |sign z=>show hgt (.node (.sign z) [])<=_;rw[Xp];simp[mx]
 |many w=>
  show hgt (if w = "and" then W7 cs else orT cs)<=_
  have:=ok.2
  split
  ·have:=ha cs h;omega
  ·have:=ho cs h;omega
 |wit k=>
  have:=hw k.toNat _ _ g0 g1;have:=ok.1
  show hgt (Yj k.toNat _ _)<=_
  omega
 |op w=>
  have hself:hgt (.node (.op w) cs)<=m+27:=by
   rw[Xp];have:mx (cs.map hgt)<=m:=mx_le.mpr fun x hx=>by obtain⟨k,hk,rfl⟩:=mE.mp hx;exact h k hk
   omega
  unfold Y0;dsimp only
  split
  ·simp only[Xp,lX,mF,mx1];omega
  split
  ·simp only[Xp,lX,mF,mx1,mx2,y];omega
  split
  ·simp only[Xp,lX,mF,mx1,mx2,y];omega
  split
  ·simp only[Xp,lX,mF,mx1,mx2,y];omega
  split
  ·simp only[Xp,lX,mF,mx1,mx2,y];omega
  ·exact hself
theorem dpt_core{c:Lb}{cs:List Tr}{m:Nat}(ok:XV c cs.length)(h:∀k∈cs,dpt k<=m)(hm:1<=m):dpt (Y0 c cs)<=m+35:=by
 have y:dpt Ye=1:=rfl;have g0:dpt (cs.getD 0 Ye)<=m:=Wj (P:=fun k=>dpt k<=m) h (by rw[y];exact hm);have g1:dpt (cs.getD 1 Ye)<=m:=Wj (P:=fun k=>dpt k<=m) h (by rw[y];exact hm);have ha:∀cs:List Tr,(∀k∈cs,dpt k<=m)->dpt (W7 cs)<=m+2*cs.length:=by
  intro cs
  induction cs with
  |nil=>intro _;show dpt Ye<=_;rw[y];omega
  |cons x r ih=>
   intro h;cases r with
   |nil=>have:=h x (by simp);show dpt x<=_;omega
   |cons z r=>
    have i2:=ih fun k hk=>h k (mi _ hk);have:=h x (by simp)
    show dpt (Vo x (W7 (z::r)))<=_
    simp only[XF,lX,mF,mx2];simp only[mJ] at i2 ⊢;omega
 have ho:∀cs:List Tr,(∀k∈cs,dpt k<=m)->dpt (orT cs)<=m+4*cs.length+1:=by
  intro cs
  induction cs with
  |nil=>intro _;show dpt (Ym Ye)<=_;simp only[XF,lX,mF,mx1,y];omega
  |cons x r ih=>
   intro h;cases r with
   |nil=>have:=h x (by simp);show dpt x<=_;omega
   |cons z r=>
    have i2:=ih fun k hk=>h k (mi _ hk);have:=h x (by simp)
    show dpt (Ym (Vo (Ym x) (Ym (orT (z::r)))))<=_
    simp only[XF,lX,mF,mx1,mx2];simp only[mJ] at i2 ⊢;omega
 have hw:∀n f s,dpt f<=m->dpt s<=m->dpt (Yj n f s)<=m+7*n:=by
  intro n f s hf hs
  induction n with
  |zero=>show dpt s<=_;omega
  |succ n ih=>
   show dpt (Ym (Vo (Ym s) (Ym (Vo f (qv (Yj n f s))))))<=_
   simp only[XF,lX,mF,mx1,mx2];omega
 cases c with
 |yes=>show dpt Ye<=_;rw[y];omega
 |sign z=>show dpt (.node (.sign z) [])<=_;simp[XF,mx]
 |many w=>
  show dpt (if w = "and" then W7 cs else orT cs)<=_
  have:=ok.2
  split
  ·have:=ha cs h;omega
  ·have:=ho cs h;omega
 |wit k=>
  have:=hw k.toNat _ _ g0 g1;have:=ok.1
  show dpt (Yj k.toNat _ _)<=_
  omega
 |op w=>
  have hself:dpt (.node (.op w) cs)<=m+35:=by
   simp only[XF];have:mx (cs.map dpt)<=m:=mx_le.mpr fun x hx=>by obtain⟨k,hk,rfl⟩:=mE.mp hx;exact h k hk
   omega
  unfold Y0;dsimp only
  split
  ·simp only[XF,lX,mF,mx1];omega
  split
  ·simp only[XF,lX,mF,mx1,mx2,y];omega
  split
  ·simp only[XF,lX,mF,mx1,mx2,y];omega
  split
  ·simp only[XF,lX,mF,mx1,mx2,y];omega
  split
  ·simp only[XF,lX,mF,mx1,mx2,y];omega
  ·exact hself
theorem psz_core{c:Lb}{cs:List Tr}{m:Nat}(ok:XV c cs.length)(h:∀k∈cs,psz k<=m)(hm:1<=m):psz (Y0 c cs)<=11*m+35:=by
 have y:psz Ye=1:=rfl;have g0:psz (cs.getD 0 Ye)<=m:=Wj (P:=fun k=>psz k<=m) h (by rw[y];exact hm);have g1:psz (cs.getD 1 Ye)<=m:=Wj (P:=fun k=>psz k<=m) h (by rw[y];exact hm);have ha:∀cs:List Tr,(∀k∈cs,psz k<=m)->psz (W7 cs)<=cs.length*m+cs.length+1:=by
  intro cs
  induction cs with
  |nil=>intro _;show psz Ye<=_;rw[y];omega
  |cons x r ih=>
   intro h;cases r with
   |nil=>have:=h x (by simp);show psz x<=_;simp;omega
   |cons z r=>
    have i2:=ih fun k hk=>h k (mi _ hk);have:=h x (by simp)
    show psz (Vo x (W7 (z::r)))<=_
    simp only[XQ,lX,mF,nN,oF];simp only[mJ,pi] at i2 ⊢;omega
 have ho:∀cs:List Tr,(∀k∈cs,psz k<=m)->psz (orT cs)<=cs.length*m+4*cs.length+2:=by
  intro cs
  induction cs with
  |nil=>intro _;show psz (Ym Ye)<=_;simp only[XQ,lX,mF,nN,oF];omega
  |cons x r ih=>
   intro h;cases r with
   |nil=>have:=h x (by simp);show psz x<=_;simp;omega
   |cons z r=>
    have i2:=ih fun k hk=>h k (mi _ hk);have:=h x (by simp)
    show psz (Ym (Vo (Ym x) (Ym (orT (z::r)))))<=_
    simp only[XQ,lX,mF,nN,oF];simp only[mJ,pi] at i2 ⊢;omega
 have hw:∀n f s,psz f<=m->psz s<=m->psz (Yj n f s)<=m+n*(2*m+7):=by
  intro n f s hf hs
  induction n with
  |zero=>show psz s<=_;omega
  |succ n ih=>
   show psz (Ym (Vo (Ym s) (Ym (Vo f (qv (Yj n f s))))))<=_
   simp only[XQ,lX,mF,nN,oF];rw[pi];omega
 cases c with
 |yes=>show psz Ye<=_;rw[y];omega
 |sign z=>show psz (.node (.sign z) [])<=_;simp[XQ]
 |many w=>
  show psz (if w = "and" then W7 cs else orT cs)<=_
  have h8:cs.length<=8:=ok.2;have h8m:cs.length*m<=8*m:=rb _ h8
  split
  ·have:=ha cs h;omega
  ·have:=ho cs h;omega
 |wit k=>
  have:=hw k.toNat _ _ g0 g1;have h5:k.toNat<=5:=by have:=ok.1;omega
  have h5m:k.toNat*(2*m+7)<=5*(2*m+7):=rb _ h5
  show psz (Yj k.toNat _ _)<=_
  omega
 |op w=>
  have hself:psz (.node (.op w) cs)<=11*m+35:=by
   rw[XQ];have hl:cs.length=1\/cs.length=2:=by rcases ok with o|o;exact .inl o.2;exact .inr o.2
   match cs,hl,h with
   |[a],_,h=>have:=h a (by simp);simp;omega
   |[a,b],_,h=>have:=h a (by simp);have:=h b (by simp);simp;omega
  unfold Y0;dsimp only
  split
  ·simp only[XQ,lX,mF,nN,oF];omega
  split
  ·simp only[XQ,lX,mF,nN,oF];omega
  split
  ·simp only[XQ,lX,mF,nN,oF];omega
  split
  ·simp only[XQ,lX,mF,nN,oF];omega
  split
  ·simp only[XQ,lX,mF,nN,oF];omega
  ·exact hself
end
def W6:List Str:=["not", "next", "until", "before", "since", "some"]
def UX(c:Lb)(bs:List Bool):Bool:=bs.all id&&match c with
 |.yes=>bs.isEmpty
 |.sign _=>bs.isEmpty
 |.op w=>decide (w∈W6)
 |.wit _=>false
 |.many w=>decide (w = "and")&&decide (bs.length=2)
def isC:Tr->Bool:=YS UX
theorem isC_eq(t:Tr):isC t=UX t.lb (t.ks.map isC):=W5 UX t
theorem XX(c:Lb)(ks:List Tr):isC (.node c ks)=UX c (ks.map isC):=isC_eq _
theorem jQ{t:Tr}(h:isC t=true):∀k∈t.ks,isC k=true:=by
 rw[isC_eq] at h;unfold UX at h;rw[mR] at h;intro k hk;have:=nH.mp h.1 (isC k) (p9 hk);exact this
theorem w_rest:∀w∈W1++W2,w ≠ "all" -> w ≠ "ever" -> w ≠ "always" -> w ≠ "once" -> w ≠ "sofar" -> w∈W6:=by decide +kernel
theorem isC_core{c:Lb}{cs:List Tr}(ok:XV c cs.length)(h:∀k∈cs,isC k=true):isC (Y0 c cs)=true:=by
 have y:isC Ye=true:=rfl;have n1:∀{w:Str}{a:Tr},w∈W6->isC a=true->isC (.node (.op w) [a])=true:=fun {w a} hw ha=>by
  rw[XX];simp[UX,ha,hw]
 have n2:∀{w:Str}{a b:Tr},w∈W6->isC a=true->isC b=true->isC (.node (.op w) [a,b])=true:=fun {w a b} hw ha hb=>by
  rw[XX];simp[UX,ha,hb,hw]
 have na:∀{a b:Tr},isC a=true->isC b=true->isC (Vo a b)=true:=fun {a b} ha hb=>by
  rw[XX];simp[UX,ha,hb]
 have wn:("not" : Str)∈W6:=by decide +kernel
 have g0:isC (cs.getD 0 Ye)=true:=Wj (P:=fun k=>isC k=true) h y;have g1:isC (cs.getD 1 Ye)=true:=Wj (P:=fun k=>isC k=true) h y;have ha:∀cs:List Tr,(∀k∈cs,isC k=true)->isC (W7 cs)=true:=by
  intro cs
  induction cs with
  |nil=>intro _;exact y
  |cons x r ih=>
   intro h;cases r with
   |nil=>exact h x (by simp)
   |cons z r=>exact na (h x (by simp)) (ih fun k hk=>h k (mi _ hk))
 have ho:∀cs:List Tr,(∀k∈cs,isC k=true)->isC (orT cs)=true:=by
  intro cs
  induction cs with
  |nil=>intro _;exact n1 wn y
  |cons x r ih=>
   intro h;cases r with
   |nil=>exact h x (by simp)
   |cons z r=>exact n1 wn (na (n1 wn (h x (by simp))) (n1 wn (ih fun k hk=>h k (mi _ hk))))
 have hw:∀n f s,isC f=true->isC s=true->isC (Yj n f s)=true:=by
  intro n f s hf hs
  induction n with
  |zero=>exact hs
  |succ n ih=>exact n1 wn (na (n1 wn hs) (n1 wn (na hf (n1 (by decide +kernel) ih))))
 cases c with
 |yes=>exact y
 |sign z=>rfl
 |many w=>
  show isC (if w = "and" then W7 cs else orT cs)=true
  split
  ·exact ha cs h
  ·exact ho cs h
 |wit k=>exact hw _ _ _ g0 g1
 |op w=>
  unfold Y0;dsimp only
  split
  ·exact n1 wn (n1 (by decide +kernel) (n1 wn g0))
  rename_i h1
  split
  ·exact n2 (by decide +kernel) y g0
  rename_i h2
  split
  ·exact n1 wn (n2 (by decide +kernel) y (n1 wn g0))
  rename_i h3
  split
  ·exact n2 (by decide +kernel) y g0
  rename_i h4
  split
  ·exact n1 wn (n2 (by decide +kernel) y (n1 wn g0))
  rename_i h5
  have hw6:w∈W6:=w_rest w (by rcases ok with o|o;exact mX _ o.1;exact mP _ o.1) h1 h2 h3 h4 h5;rw[XX];unfold UX;rw[mR];refine⟨nH.mpr fun b hb=>?_,nk hw6⟩;obtain⟨k,hk,rfl⟩:=mE.mp hb;exact h k hk
theorem room_core{c:Lb}{ks:List Tr}(hr:roomF c (ks.map Yn)=true)(h:∀k∈ks,Yn k=true->Yn (Yx k)=true):Yn (Y0 c (ks.map Yx))=true:=by
 have r1:∀w a,Yn (.node (.op w) [a])=roomF (.op w) [Yn a]:=fun w a=>Uk _ _;have ra:∀a b,Yn a=true->Yn b=true->Yn (Vo a b)=true:=fun a b ha hb=>by
  rw[Uk]
  show([a,b].map Yn).all id=true
  simp[ha,hb]
 have rn:∀a,Yn a=true->Yn (Ym a)=true:=fun a ha=>by
  rw[r1]
  show(if("not" : Str) = "all" \/ ("not" : Str) = "some" then true else if("not" : Str) = "not" then[Yn a].all id else false)=true
  rw[if_neg (by decide +kernel),if_pos rfl];simp[ha]
 have rs:∀a,Yn (nSome a)=true:=fun a=>by
  rw[r1]
  show(if("some" : Str) = "all" \/ ("some" : Str) = "some" then true else if("some" : Str) = "not" then[Yn a].all id else false)=true
  rw[if_pos (.inr rfl)]
 have ha:∀cs:List Tr,(∀k∈cs,Yn k=true)->Yn (W7 cs)=true:=by
  intro cs
  induction cs with
  |nil=>intro _;rfl
  |cons x r ih=>
   intro h;cases r with
   |nil=>exact h x (by simp)
   |cons z r=>exact ra _ _ (h x (by simp)) (ih fun k hk=>h k (mi _ hk))
 have ho:∀cs:List Tr,(∀k∈cs,Yn k=true)->Yn (orT cs)=true:=by
  intro cs
  induction cs with
  |nil=>intro _;exact rn _ rfl
  |cons x r ih=>
   intro h;cases r with
   |nil=>exact h x (by simp)
   |cons z r=>exact rn _ (ra _ _ (rn _ (h x (by simp))) (rn _ (ih fun k hk=>h k (mi _ hk))))
 have all:(ks.map Yn).all id=true->∀k∈ks.map Yx,Yn k=true:=fun hall k hk=>by
  obtain⟨q,hq,rfl⟩:=mE.mp hk;exact h q hq (nH.mp hall (Yn q) (p9 hq))
 cases c with
 |yes=>rfl
 |sign z=>rfl
 |wit m=>cases hr
 |many w=>
  have hr':(ks.map Yn).all id=true:=hr
  show Yn (if w = "and" then _ else _)=true
  split
  ·exact ha _ (all hr')
  ·exact ho _ (all hr')
 |op w=>
  have hr':(if w = "all" \/ w = "some" then true else if w = "not" then(ks.map Yn).all id else false)=true:=hr
  by_cases h1:w = "all"
  ·subst h1;exact rn _ (rs _)
  by_cases h2:w = "some"
  ·subst h2
   show Yn (.node (.op "some") _)=true
   rw[Uk]
   show(if("some" : Str) = "all" \/ ("some" : Str) = "some" then true else if("some" : Str) = "not" then((ks.map Yx).map Yn).all id else false)=true
   rw[if_pos (.inr rfl)]
  rw[if_neg (fun z=>by rcases z with z|z;exact h1 z;exact h2 z)] at hr'
  by_cases h3:w = "not"
  ·subst h3;rw[if_pos rfl] at hr'
   show Yn (.node (.op "not") _)=true
   rw[Uk]
   show(if("not" : Str) = "all" \/ ("not" : Str) = "some" then true else if("not" : Str) = "not" then((ks.map Yx).map Yn).all id else false)=true
   rw[if_neg (by decide +kernel),if_pos rfl];refine nH.mpr fun b hb=>?_;obtain⟨k,hk,rfl⟩:=mE.mp hb;exact all hr' k hk
  ·rw[if_neg h3] at hr';cases hr'
def OkN:Nat->Tr->Prop
 |0,_=>False
 |n+1,t=>XV t.lb t.ks.length/\∀k∈t.ks,OkN n k
theorem At.ok{K:W.Frag}{H:Hp}:∀{n:Nat}{v:V}{t:Tr},At K n H v t->OkN n t
 |0,_,_,h=>h
 |n+1,v,t,⟨a,vs,e,sh,ok,l,q⟩=>⟨ok,fun k hk=>by
  obtain⟨i,hi,rfl⟩:=m7 hk;exact At.ok (q i _ _ (lU (by omega)) (lU hi))⟩
def Bz:Nat->Nat
 |0=>1
 |n+1=>11*Bz n+35
theorem Bz_pos:∀n,1<=Bz n
 |0=>lS _
 |n+1=>by show 1<=11*Bz n+35;omega
theorem zV:∀(n:Nat) (t:Tr),OkN n t->hgt (Yx t)<=28*n/\dpt (Yx t)<=36*n/\psz (Yx t)<=Bz n/\isC (Yx t)=true/\(Yn t=true->Yn (Yx t)=true)
 |0,_,h=>h.elim
 |n+1,t,⟨ok,h⟩=>by
  have ih:=fun k hk=>zV n k (h k hk);have ok':XV t.lb (t.ks.map Yx).length:=by rw[lQ];exact ok
  have ih1:∀k∈t.ks.map Yx,hgt k<=max 1 (28*n):=fun k hk=>by obtain⟨q,hq,rfl⟩:=mE.mp hk;have:=(ih q hq).1;omega
  have ih2:∀k∈t.ks.map Yx,dpt k<=max 1 (36*n):=fun k hk=>by obtain⟨q,hq,rfl⟩:=mE.mp hk;have:=(ih q hq).2.1;omega
  have ih3:∀k∈t.ks.map Yx,psz k<=Bz n:=fun k hk=>by obtain⟨q,hq,rfl⟩:=mE.mp hk;exact(ih q hq).2.2.1
  have ih4:∀k∈t.ks.map Yx,isC k=true:=fun k hk=>by obtain⟨q,hq,rfl⟩:=mE.mp hk;exact(ih q hq).2.2.2.1
  rw[VE];have a1:=hgt_core ok' ih1 (by omega);have a2:=dpt_core ok' ih2 (by omega);have a3:=psz_core ok' ih3 (Bz_pos n);refine⟨by omega,by omega,a3,isC_core ok' ih4,fun hr=>room_core ?_ fun k hk=>(ih k hk).2.2.2.2⟩;rw[<- Uk];rw[<- Tr.eta];exact hr
theorem qE(c:Lb)(ks:List Tr):(post (.node c ks)).length=(Z9 ks).length+1:=by rw[post,lW];rfl
theorem Um{K:W.Frag}{n:Nat}{H:Hp}{t:Addr}(e:SqT K H t [.str "yes"]):At K (n+1) H (.ref t) (.node .yes []):=⟨t,[],rfl,⟨rfl,e⟩,rfl,rfl,fun i u k h=>by simp at h⟩
theorem at_sign{K:W.Frag}{n:Nat}{H:Hp}{t:Addr}{z:Str}(e:SqT K H t [.str "sign",.str z])(hz:X2 z=true):At K (n+1) H (.ref t) (.node (.sign z) []):=⟨t,[],rfl,⟨rfl,e⟩,⟨rfl,hz⟩,rfl,fun i u k h=>by simp at h⟩
theorem WG{K:W.Frag}{n:Nat}{H:Hp}{t:Addr}{w:Str}{u:V}{k:Tr}(e:SqT K H t [.str w,u])(hw:w∈W1)(h:At K n H u k):At K (n+1) H (.ref t) (.node (.op w) [k]):=⟨t,[u],rfl,e,.inl ⟨hw,rfl⟩,rfl,(AtL.one h).2⟩
theorem xk{K:W.Frag}{n:Nat}{H:Hp}{t:Addr}{w:Str}{u v:V}{k r:Tr}(e:SqT K H t [.str w,u,v])(hw:w∈W2)(h:At K n H u k)(g:At K n H v r):At K (n+1) H (.ref t) (.node (.op w) [k,r]):=⟨t,[u,v],rfl,e,.inr ⟨hw,rfl⟩,rfl,((AtL.one h).app (AtL.one g)).2⟩
theorem at_wit{K:W.Frag}{n:Nat}{H:Hp}{t:Addr}{m:Int}{u v:V}{k r:Tr}(e:SqT K H t [.str "within",.int m,u,v])(hm:0<=m/\m<=5)(h:At K n H u k)(g:At K n H v r):At K (n+1) H (.ref t) (.node (.wit m) [k,r]):=⟨t,[u,v],rfl,e,⟨hm,rfl⟩,rfl,((AtL.one h).app (AtL.one g)).2⟩
theorem at_mny{K:W.Frag}{n:Nat}{H:Hp}{t b:Addr}{w:Str}{us:List V}{ks:List Tr}(e:SqT K H t [.str w,.ref b])(eb:SqT K H b us)(h:AtL K n H us ks)(hw:w = "and" \/ w = "or")(hk:ks.length<=8):At K (n+1) H (.ref t) (.node (.many w) ks):=⟨t,us,rfl,⟨b,e,eb⟩,⟨hw,hk⟩,h.1,h.2⟩
theorem Jf(xs:List V)(h:0<xs.length):W0 xs none (some (-1))=xs.take (xs.length-1):=by
 unfold W0;have e1:HT.sIx xs.length 0 none=0:=rfl;have e2:HT.sIx xs.length xs.length (some (-1))=xs.length-1:=by unfold HT.sIx;simp;omega
 rw[e1,e2];simp
theorem andT_cons{x:Tr}{l:List Tr}(h:l≠[]):W7 (x::l)=Vo x (W7 l):=by
 cases l with
 |nil=>exact absurd rfl h
 |cons y r=>rfl
theorem orT_cons{x:Tr}{l:List Tr}(h:l≠[]):orT (x::l)=Ym (Vo (Ym x) (Ym (orT l))):=by
 cases l with
 |nil=>exact absurd rfl h
 |cons y r=>rfl
theorem JH{m:Nat}{f s:Tr}(hf:hgt f<=m)(hs:hgt s<=m):∀n,hgt (Yj n f s)<=m+5*n:=by
 intro n
 induction n with
 |zero=>show hgt s<=_;omega
 |succ n ih=>
  show hgt (Ym (Vo (Ym s) (Ym (Vo f (qv (Yj n f s))))))<=_
  simp only[Xp,lX,mF,mx1,mx2];omega
theorem AtL.two{K:W.Frag}{n:Nat}{H:Hp}{u v:V}{a b:Tr}(h:At K n H u a)(g:At K n H v b):AtL K n H [u,v] [a,b]:=(AtL.one h).app (AtL.one g)
theorem qt{xs:List V}{u:V}:atI (xs++[u]) (-1)=some u:=by
 have:=atI_back (xs:=xs++[u]) (k:=1) (by decide) (by simp);simpa using this
abbrev NW:List Str:=["yes", "sign", "and", "or", "within"]
inductive Fm(K:W.Frag)(H:Hp):V->Prop
 |noT {v:V}:Kd H v->XU H "tuple" v=false->Fm K H v
 |emp {a:Addr}:SqT K H a []->Fm K H (.ref a)
 |noS {a:Addr}{x:V}{xs:List V}:SqT K H a (x::xs)->Kd H x->XU H "str" x=false->Fm K H (.ref a)
 |yes {a:Addr}{xs:List V}:SqT K H a (.str "yes" :: xs)->xs.length≠0->Fm K H (.ref a)
 |sgnL {a:Addr}{xs:List V}:SqT K H a (.str "sign" :: xs)->xs.length≠1->Fm K H (.ref a)
 |sgn {a:Addr}{x:V}:SqT K H a [.str "sign",x]->Kd H x->Xl x=false->Fm K H (.ref a)
 |manyL {a:Addr}{w:Str}{xs:List V}:w∈(["and", "or"]:List Str)->SqT K H a (.str w::xs)->xs.length≠1->Fm K H (.ref a)
 |manyN {a:Addr}{w:Str}{x:V}:w∈(["and", "or"]:List Str)->SqT K H a [.str w,x]->Kd H x->XU H "tuple" x=false->Fm K H (.ref a)
 |witL {a:Addr}{xs:List V}:SqT K H a (.str "within" :: xs)->xs.length≠3->Fm K H (.ref a)
 |witN {a:Addr}{x y z:V}:SqT K H a [.str "within",x,y,z]->Kd H x->jH x=false->Fm K H (.ref a)
 |witM {a:Addr}{m:Int}{y z:V}:SqT K H a [.str "within",.int m,y,z]->¬(0<=m/\m<=5)->Fm K H (.ref a)
 |word {a:Addr}{w:Str}{xs:List V}:SqT K H a (.str w::xs)->w∈(["signs", "Next"]:List Str)->Fm K H (.ref a)
 |lens {a:Addr}{w:Str}{i:Int}{xs:List V}:SqT K H a (.str w::xs)->w∉NW->(w,i)∈LK->((xs.length+1:Nat):Int)≠i->Fm K H (.ref a)
inductive Bt where
 |lf
 |nd (c:Lb) (ks:List Bt)
mutual
def bsz:Bt->Nat
 |.lf=>1
 |.nd _ ks=>bszL ks+1
def bszL:List Bt->Nat
 |[]=>0
 |b::r=>bsz b+bszL r
end
def lbOkB:Lb->Nat->Prop
 |.yes,n=>XV .yes n
 |.sign s,n=>XV (.sign s) n
 |.op w,n=>XV (.op w) n
 |.wit m,n=>XV (.wit m) n
 |.many w,n=>(w = "and" \/ w = "or")/\n<=1000
theorem XV.b{c:Lb}{n:Nat}(h:XV c n):lbOkB c n:=by
 cases c with
 |many w=>exact⟨h.1,mC h.2 (by decide)⟩
 |yes=>exact h
 |sign s=>exact h
 |op w=>exact h
 |wit m=>exact h
def FmT(K:W.Frag)(H:Hp)(v:V):Prop:=∃a us c,v=.ref a/\UO K H a us c/\lbOkB c us.length
theorem At.fmT{K:W.Frag}{H:Hp}{n:Nat}{v:V}{t:Tr}(h:At K n H v t):FmT K H v:=by
 cases n with
 |zero=>exact h.elim
 |succ n=>
  obtain⟨a,vs,e,sh,ok,l,_⟩:=h;exact⟨a,vs,t.lb,e,sh,by rw[l];exact ok.b⟩
inductive rInD2_R(K:W.Frag)(P:Params)(x:V)(y:V)(H:Hp)(Q:VK):Prop
 |mk (z:_) (D:_) (kvs:_) (b:_) (h0:x=.str z) (h1:y=.ref D) (h2:DicK K P D kvs) (h3:((b=true/\∃i,(z,i)∈kvs)\/(b=false/\W.nsIn K D z=some none))) (h4:Q (.bl b) H):rInD2_R K P x y H Q
def rInD2(K:W.Frag)(P:Params):R2:=fun x y H Q=>rInD2_R K P x y H Q
theorem op_inD2{X:Cx}{K:W.Frag}{P:Params}(hK:X.K=K)(hw:X.w.params=P):OpR X (compareOp .In) (rInD2 K P):=by
 subst hK hw;intro lL s σ H x y v u Q I rx ry h;obtain⟨z,D,kvs,b,rfl,rfl,d,hb,q⟩:=h;obtain⟨t,rfl⟩:=(show ∃t,v=Value.str z t from rx);obtain rfl:u=Value.ref D:=ry;obtain⟨m,F⟩:=I.fr;obtain⟨es,n,lk,hk⟩:=d.ex;rcases hb with⟨rfl,i,hm⟩|⟨rfl,ea⟩
 ·obtain⟨t2,ea⟩:=d.at_ _ hm;exact W.topIn_K F I.mod.kin lk hk ea d.lo ⟨.bl true,H,I.tok _,rfl,q⟩
 ·exact W.topIn_K F I.mod.kin lk hk ea d.lo ⟨.bl false,H,I.tok _,rfl,q⟩
theorem qN{p:Prop}[Decidable p]{Q:VK}{H:Hp}(h:¬p)(q:Q (.bl false) H):Q (.bl (decide p)) H:=by rw[nr h];exact q
end L3
namespace L2
open PySem PySem.Spec PyProof.Rows
section
variable(P:Program)(w:World)
end
section
variable{P:Program}{w:World}{H H':Hp}{h h':Heap}{a:Addr}{o:HO}
end
section
variable{P:Program}{w:World}{H:Hp}{h h':Heap}{x e:Addr}{o':HO}
end
section
variable{fs fs' ex ex':List Addr}{H H1 H2:Hp}{h h1 h2 h':Heap}{a x e:Addr}{o:HO}
end
section
variable{X:Cx}{lL:List (Addr×Obj)}{σ:List (Option V)}{H H':Hp}{s:Shared}{h':Heap}
end
section
variable{X:Cx}
variable{a b:Expr}{ta tb:TE}{pos:Pos}
variable{tA tB':TT}{X5:List Expr}
end
section
variable{X:Cx}{lL:List (Addr×Obj)}{σ:St}{H:Hp}{s:Shared}{a:Addr}{xs ys:List V}
end
section
variable{X:Cx}{lL:List (Addr×Obj)}{σ:St}{H:Hp}{s:Shared}{E:Value->Shared->Prop}
end
section
variable{X:Cx}{st:Stmt}{X5:List Stmt}{t u:TS}{e:Expr}{te:TE}{pos:Pos}
end
section
variable{X:Cx}{pos:Pos}
end
section
variable{X:Cx}{pos:Pos}
end
section
variable{X:Cx}{tg:Expr}
end
section
variable{X:Cx}{a b c:Expr}{ta tb tc:TE}{pos:Pos}
end
section
variable{X:Cx}{a b c:Expr}{ta tb tc:TE}{pos:Pos}
end
section
variable{prog:Program}{w:World}{A:Around}{E:Value->Shared->Prop}{s:Shared}{K:W.Frag}{x dx C f:Addr}{mA:Str->Option Value}{name:Str}{v:Value}
end
section
variable{P:Program}{w:World}{H H':Hp}{h h':Heap}{a C dx:Addr}{fs fs':List (Str×V)}
end
section
variable{X:Cx}{lL:List (Addr×Obj)}{σ:St}{H:Hp}{s:Shared}{a C dx:Addr}{fs:List (Str×V)}{f:Str}{v:V}{A:Around}{E:Value->Shared->Prop}
end
section
variable{X:Cx}{o e value:Expr}{f:Str}{pos pos' tpos:Pos}{ta tv:TE}
end
section
variable{X:Cx}{lL:List (Addr×Obj)}{σ:St}{H:Hp}{s:Shared}{A:Around}{E:Value->Shared->Prop}{Q:Value->Shared->Prop}{c:Value}{b:Bool}
end
section
variable{X:Cx}{e:Expr}{es:List Expr}{te:TE}{t:TA}{pos:Pos}
end
section
variable{X:Cx}{lL:List (Addr×Obj)}{σ:St}{H:Hp}{s s':Shared}
end
section
variable{X:Cx}{CX:CXT}{k:Nat}{f C:Addr}{fd:FuncData}{ps:List Str}{sp:Sp}{dvs:List V}{ds:List Value}{E:XK}{x m:Str}{p pos apos:Pos}{e o:Expr}{es:List Expr}{ta:TE}{t:TA}
end
section
variable{X:Cx}{CX:CXT}{k:Nat}{f C:Addr}{fd:FuncData}{ps ks:List Str}{sp:Sp}{E:XK}{x m:Str}{p pos apos kpos:Pos}{e o:Expr}{es:List Expr}{kws:List Keyword}{te ta:TE}{t tk:TA}{nm:Option Str}
variable{g:List Value->List Value->List Value}{gV:List V->List V->List V}
end
section
variable{X:Cx}{x:Str}{p pos:Pos}{e:Expr}{es:List Expr}{t:TA}{id T:String}{r:List V->Hp->VK->Prop}
end
section
variable{κ:Type}[DecidableEq κ]
def Xo(kvs:List (κ×V))(k:κ):Option V:=(kvs.find? fun kv=>decide (kv.1=k)).map (·.2)
def WV(kvs:List (κ×V))(k:κ)(v:V):List (κ×V):=
 if(kvs.any fun kv=>decide (kv.1=k))=true then kvs.map (fun kv=>if kv.1=k then(kv.1,v) else kv) else kvs++[(k,v)]
theorem Xr{p:κ×V}{r:List (κ×V)}{k:κ}(e:p.1=k):Xo (p::r) k=some p.2:=by simp[Xo,oZ,e]
theorem Xn{p:κ×V}{r:List (κ×V)}{k:κ}(e:¬p.1=k):Xo (p::r) k=Xo r k:=by simp[Xo,oZ,e]
theorem qA(k:κ):∀kvs:List (κ×V),(kvs.any fun kv=>decide (kv.1=k))=(Xo kvs k).isSome
 |[]=>rfl
 |p::r=>by
  rw[pY]
  by_cases e:p.1=k
  ·simp only[Xr e,nk e,Bool.true_or,Option.isSome_some]
  ·rw[Xn e,nr e,px];exact qA k r
theorem kM(k j:κ)(y:V):∀kvs:List (κ×V),Xo (kvs.map fun kv=>if kv.1=k then(kv.1,y) else kv) j=(Xo kvs j).map fun x=>if j=k then y else x
 |[]=>rfl
 |p::r=>by
  have ih:=kM k j y r;rw[lX]
  by_cases h:p.1=k
  ·rw[if_pos h]
   by_cases e:p.1=j
   ·rw[Xr (p:=(p.1,y)) e,Xr e,rO,if_pos (e.symm.trans h)]
   ·rw[Xn (p:=(p.1,y)) e,Xn e,ih]
  ·rw[if_neg h]
   by_cases e:p.1=j
   ·rw[Xr (p:=p) e,Xr e,rO,if_neg (fun z=>h (e.trans z))]
   ·rw[Xn (p:=p) e,Xn e,ih]
theorem vH(k j:κ)(y:V):∀kvs:List (κ×V),Xo kvs k=none->Xo (kvs++[(k,y)]) j=if j=k then some y else Xo kvs j
 |[],_=>by
  by_cases e:k=j
  ·rw[if_pos e.symm];exact Xr (p:=(k,y)) e
  ·rw[if_neg (fun z=>e z.symm)];exact Xn (p:=(k,y)) e
 |p::r,hn=>by
  rw[pP];have hk:¬p.1=k:=fun z=>by rw[Xr z] at hn;cases hn
  rw[Xn hk] at hn;have ih:=vH k j y r hn
  by_cases e:p.1=j
  ·rw[Xr e,Xr e,if_neg (fun z=>hk (e.trans z))]
  ·rw[Xn e,Xn e,ih]
theorem j7(kvs:List (κ×V))(k j:κ)(y:V):Xo (WV kvs k y) j=if j=k then some y else Xo kvs j:=by
 unfold WV
 by_cases a:(kvs.any fun kv=>decide (kv.1=k))=true
 ·rw[if_pos a,kM];rw[qA] at a
  by_cases e:j=k
  ·obtain⟨x,hx⟩:=rF.mp a;rw[if_pos e,e,hx,rO,if_pos rfl]
  ·rw[if_neg e];cases Xo kvs j with
   |none=>rfl
   |some x=>rw[rO,if_neg e]
 ·rw[if_neg a];refine vH k j y kvs ?_;rw[qA] at a;cases q:Xo kvs k with
  |none=>rfl
  |some x=>rw[q] at a;exact(a rfl).elim
theorem Wd(kvs:List (κ×V))(k:κ)(v:V):(WV kvs k v).length<=kvs.length+1:=by
 unfold WV
 split
 ·rw[lQ];omega
 ·rw[lW,mJ,List.length_nil];omega
theorem VF.isSome_eq{o:Option V}{u:Option Value}(r:VF o u):o.isSome=u.isSome:=by
 cases o with
 |none=>cases u with
  |none=>rfl
  |some _=>exact(show False from r).elim
 |some _=>cases u with
  |none=>exact(show False from r).elim
  |some _=>rfl
theorem VF.getD{o:Option V}{u:Option Value}{d:V}{d':Value}(r:VF o u)(rd:ZQ d d'):ZQ (o.getD d) (u.getD d'):=by
 cases o with
 |none=>cases u with
  |none=>exact rd
  |some _=>exact(show False from r).elim
 |some _=>cases u with
  |none=>exact(show False from r).elim
  |some _=>exact r
theorem KV.val{kvs:List (κ×V)}{vs:List (κ×Value)}(r:KV kvs vs)(k:κ):VF (Xo kvs k) (valueAt vs k):=by
 unfold KV at r
 induction r with
 |nil=>exact True.intro
 |@cons p q ps qs h t ih=>
  obtain⟨h1,h2⟩:=h
  by_cases e:p.1=k
  ·have e':q.1=k:=h1.symm.trans e;have b:valueAt (q::qs) k=some q.2:=by simp[valueAt,oZ,e']
   rw[Xr e,b];exact h2
  ·have e':¬q.1=k:=fun z=>e (h1.trans z);have b:valueAt (q::qs) k=valueAt qs k:=by simp[valueAt,oZ,e']
   rw[Xn e,b];exact ih
theorem KV.any{kvs:List (κ×V)}{vs:List (κ×Value)}(r:KV kvs vs)(k:κ):(kvs.any fun kv=>decide (kv.1=k))=vs.any fun kv=>decide (kv.1=k):=by
 unfold KV at r
 induction r with
 |nil=>rfl
 |cons h t ih=>rw[pY,pY,ih,h.1]
theorem KV.repl{kvs:List (κ×V)}{vs:List (κ×Value)}(r:KV kvs vs)(k:κ){y:V}{u:Value}(ry:ZQ y u) :
  KV (kvs.map fun kv=>if kv.1=k then(kv.1,y) else kv) (vs.map fun kv=>if kv.1=k then(kv.1,u) else kv):=by
 unfold KV at r ⊢
 induction r with
 |nil=>exact .nil
 |@cons p q ps qs h t ih=>
  rw[lX,lX];refine .cons ?_ ih;obtain⟨h1,h2⟩:=h
  by_cases e:p.1=k
  ·rw[if_pos e,if_pos (h1.symm.trans e)];exact⟨h1,ry⟩
  ·rw[if_neg e,if_neg (fun z=>e (h1.trans z))];exact⟨h1,h2⟩
theorem KV.put{kvs:List (κ×V)}{vs:List (κ×Value)}(r:KV kvs vs)(k:κ){y:V}{u:Value}(ry:ZQ y u):KV (WV kvs k y) (stored vs k u):=by
 unfold WV stored;rw[r.any k]
 by_cases e:(vs.any fun kv=>decide (kv.1=k))=true
 ·rw[if_pos e,if_pos e];exact r.repl k ry
 ·rw[if_neg e,if_neg e];exact Paired.snoc r ⟨rfl,ry⟩
theorem KV.length{kvs:List (κ×V)}{vs:List (κ×Value)}(r:KV kvs vs):kvs.length=vs.length:=pF r
end
theorem kV_is{P:Program}{w:World}{k:Key}{u:Value}(r:ZQ (kV k) u):(ZC P w).is k u=true:=by
 cases k with
 |inl i=>obtain⟨t,e⟩:=(show ∃t,u=Value.int i t from r);subst e;exact kX P w i t
 |inr x=>obtain⟨t,e⟩:=(show ∃t,u=Value.str x t from r);subst e;exact kh P w x t
theorem qV{P:Program}{w:World}:∀{ks:List Key}{us:List Value},ZH (ks.map kV) us->ItemsAre (ZC P w) ks us
 |[],_,r=>by rw[mF] at r;cases r;exact .nil
 |k::ks,_,r=>by
  rw[lX] at r;cases r with
  |cons h t=>exact .cons (kV_is h) (qV t)
abbrev KT(H:Hp):List (List Key×V)->List (List Key×Addr×Value)->Prop:=Paired fun p q=>p.1=q.1/\H q.2.1=some (.tup (p.1.map kV))/\ZQ p.2 q.2.2
theorem KT.val{H:Hp}{kvs:List (List Key×V)}{xs:List (List Key×Addr×Value)}(r:KT H kvs xs)(k:List Key):VF (Xo kvs k) ((atKey xs k).map (·.2)):=by
 induction r with
 |nil=>exact True.intro
 |@cons p q ps qs h t ih=>
  obtain⟨h1,_,h2⟩:=h
  by_cases e:p.1=k
  ·have e':q.1=k:=h1.symm.trans e;have b:atKey (q::qs) k=some q.2:=by simp[atKey,oZ,e']
   rw[Xr e,b];exact h2
  ·have e':¬q.1=k:=fun z=>e (h1.trans z);have b:atKey (q::qs) k=atKey qs k:=by simp[atKey,oZ,e']
   rw[Xn e,b];exact ih
theorem KT.repl{H:Hp}{kvs:List (List Key×V)}{xs:List (List Key×Addr×Value)}(r:KT H kvs xs)(k:List Key){y:V}{u:Value}(ry:ZQ y u) :
  KT H (kvs.map fun kv=>if kv.1=k then(kv.1,y) else kv) (xs.map (putAt k u)):=by
 induction r with
 |nil=>exact .nil
 |@cons p q ps qs h t ih=>
  rw[lX,lX];refine .cons ?_ ih;obtain⟨h1,h2,h3⟩:=h;unfold putAt
  by_cases e:p.1=k
  ·rw[if_pos e,if_pos (h1.symm.trans e)];exact⟨h1,h2,ry⟩
  ·rw[if_neg e,if_neg (fun z=>e (h1.trans z))];exact⟨h1,h2,h3⟩
theorem KT.put{H:Hp}{kvs:List (List Key×V)}{xs:List (List Key×Addr×Value)}(r:KT H kvs xs)(k:List Key){b:Addr}{y:V}{u:Value}(hb:H b=some (.tup (k.map kV)))(ry:ZQ y u) :
  KT H (WV kvs k y) (storedH xs k b u):=by
 have e:(kvs.any fun kv=>decide (kv.1=k))=(atKey xs k).isSome:=by
  rw[qA,(r.val k).isSome_eq,Option.isSome_map]
 unfold WV storedH;rw[e]
 by_cases q:(atKey xs k).isSome=true
 ·rw[if_pos q,if_pos q];exact r.repl k ry
 ·rw[if_neg q,if_neg q];exact Paired.snoc r ⟨rfl,hb,ry⟩
theorem KT.keeps{H H':Hp}{kvs:List (List Key×V)}{xs:List (List Key×Addr×Value)}(r:KT H kvs xs)(ht:∀b ys,H b=some (.tup ys)->H' b=some (.tup ys)):KT H' kvs xs:=
 Paired.mapP r fun _ _ z=>⟨z.1,ht _ _ z.2.1,z.2.2⟩
section
variable{P:Program}{w:World}{H:Hp}{h:Heap}{a:Addr}
theorem rd_of{u:HO}(ok:HOk P w H h)(e:Rd H a u):YH P w H h a u:=e.ok ok
theorem dk_rd{kvs:List (Key×V)}(ok:HOk P w H h)(e:Rd H a (.dK kvs)):kvs.length<=sizeLine/\(a==sysModules)=false/\∃vs,KV kvs vs/\h.DictOf (ZC P w) a vs:=
 show YH P w H h a (.dK kvs) from rd_of ok e
theorem dk_of{kvs:List (Key×V)}(ok:HOk P w H h)(e:H a=some (.dK kvs)):kvs.length<=sizeLine/\(a==sysModules)=false/\∃vs,KV kvs vs/\h.DictOf (ZC P w) a vs:=dk_rd ok (.inl e)
theorem yh{ks:List Key}(ok:HOk P w H h)(e:H a=some (.tup (ks.map kV))):(tupleKind (ZC P w)).is h ks a:=by
 obtain⟨_,its,r,o,h1,h2,n,h3⟩:=(show YH P w H h a (.tup (ks.map kV)) from ok a _ e);exact⟨o,its.toArray,n,h1,h2,h3,by simpa using qV r⟩
theorem dt_rd{kvs:List (List Key×V)}(ok:HOk P w H h)(e:Rd H a (.dT kvs)):kvs.length<=sizeLine/\(a==sysModules)=false /\
  ∃xs,KT H kvs xs/\h.DictOfH (tupleKind (ZC P w)) a xs:=by
 obtain⟨z,y,xs,r,o,es,ep,h1,h2,h3,h4,h5⟩:=(show YH P w H h a (.dT kvs) from rd_of ok e);refine⟨z,y,xs,r,o,es,ep,h1,h2,h3,h4,fun x hx=>?_,h5⟩;have all:∀{l:List (List Key×V)}{m:List (List Key×Addr×Value)},KT H l m->∀x∈m,(tupleKind (ZC P w)).is h x.1 x.2.1:=by
  intro l m q
  induction q with
  |nil=>intro x hx;exact nomatch hx
  |@cons p q ps qs hq t ih=>
   intro x hx;rcases mw.mp hx with e|hx
   ·subst e;exact yh ok (by rw[<- hq.1];exact hq.2.1)
   ·exact ih x hx
 exact all r x hx
theorem dt_of{kvs:List (List Key×V)}(ok:HOk P w H h)(e:H a=some (.dT kvs)):kvs.length<=sizeLine/\(a==sysModules)=false /\
  ∃xs,KT H kvs xs/\h.DictOfH (tupleKind (ZC P w)) a xs:=dt_rd ok (.inl e)
end
def DGet(H:Hp)(a:Addr)(y:V)(r:Option V):Prop:=
 (∃kvs k,Rd H a (.dK kvs)/\y=kV k/\r=Xo kvs k)\/∃kvs k b,Rd H a (.dT kvs)/\y=.ref b/\H b=some (.tup (k.map kV))/\r=Xo kvs k
def DPut(H:Hp)(a:Addr)(y v:V)(H':Hp):Prop:=
 (∃kvs k,H a=some (.dK kvs)/\y=kV k/\kvs.length<sizeLine/\H'=upd H a (.dK (WV kvs k v))) \/
 ∃kvs k b,H a=some (.dT kvs)/\y=.ref b/\H b=some (.tup (k.map kV))/\kvs.length<sizeLine/\H'=upd H a (.dT (WV kvs k v))
theorem DGet.k{H:Hp}{a:Addr}{kvs:List (Key×V)}{k:Key}(e:H a=some (.dK kvs)):DGet H a (kV k) (Xo kvs k):=.inl ⟨kvs,k,.inl e,rfl,rfl⟩
theorem DPut.k{H:Hp}{a:Addr}{kvs:List (Key×V)}{k:Key}{v:V}(e:H a=some (.dK kvs))(hl:kvs.length<sizeLine):DPut H a (kV k) v (upd H a (.dK (WV kvs k v))):=.inl ⟨kvs,k,e,rfl,hl,rfl⟩
section
variable{X:Cx}{lL:List (Addr×Obj)}{σ:St}{H:Hp}{s:Shared}{a:Addr}{y v:V}{u r:Value}{o:Option V}{A:Around}{E:Value->Shared->Prop}
theorem Inv.big(I:Inv X lL σ H s):sysModules<s.heap.objs.size:=by
 have h:mainGlobals<s.heap.objs.size:=(I.mod.glob.keeps I.bk).lt;exact Nat.lt_trans (by decide) h
theorem d_getItem{Q:Value->Shared->Prop}(hu:A.units+1<cLine)(I:Inv X lL σ H s)(g:DGet H a y (some v))(ry:ZQ y u)(h:∀w' s',Inv X lL σ H s'->ZQ v w'->Q w' s') :
  wpAny (model X.prog X.w) A (getItem (.ref a) u) Q E s:=by
 rcases g with⟨kvs,k,e,ey,l⟩|⟨kvs,k,b,e,ey,eb,l⟩
 ·subst ey;obtain⟨z,hd,vs,rel,dd⟩:=dk_rd I.hok e;obtain⟨w',hw,rw'⟩:=VF.some_of (v:=v) (o:=valueAt vs k) (by rw[l];exact rel.val k);exact wpAny_getItem_of (kV_is ry) dd.mapOf hw (h w' _ (I.tok _) rw')
 ·subst ey;cases (show u=Value.ref b from ry);obtain⟨z,hd,xs,rel,dd⟩:=dt_rd I.hok e;obtain⟨w',hw,rw'⟩:=VF.some_of (v:=v) (o:=(atKey xs k).map (·.2)) (by rw[l];exact rel.val k);obtain⟨p,hp,hp2⟩:=om.mp hw;refine wpAny_getItem_heap (pQ hu) (yh I.hok eb) dd hp ?_;rw[hp2];exact h w' _ (I.tok _) rw'
theorem UA{h':Heap}{t':Nat}{ob:HO}(I:Inv X lL σ H s)(mu:Mut (H a))(hs:Heap.SameBut a s.heap h')(he:∃q,h'.get? a=some q)(new:YH X.prog X.w (upd H a ob) h' a ob) :
  Inv X lL σ (upd H a ob) { s with heap:=h',toks:=t' }:=
 I.write (x:=a) (e:=a) mu (.inl rfl) (fun b q hb z=>(hs.2 b hb).trans z) he new
theorem dk_new{P:Program}{w:World}{H':Hp}{h':Heap}{kvs:List (Key×V)}{vs:List (Key×Value)}(z:kvs.length<=sizeLine)(hd:(a==sysModules)=false)(rel:KV kvs vs)(dd:h'.DictOf (ZC P w) a vs) :
  YH P w H' h' a (.dK kvs):=⟨z,hd,vs,rel,dd⟩
theorem d_setItem{H':Hp}{Q:Unit->Shared->Prop}(hu:A.units+1<cLine)(I:Inv X lL σ H s)(g:DPut H a y v H')(ry:ZQ y u)(rv:ZQ v r)(h:∀s',Inv X lL σ H' s'->Q () s') :
  wpAny (model X.prog X.w) A (setItem (.ref a) u r) Q E s:=by
 rcases g with⟨kvs,k,e,ey,l,eH⟩|⟨kvs,k,b,e,ey,eb,l,eH⟩
 ·subst ey eH;obtain⟨z,hd,vs,rel,dd⟩:=dk_of I.hok e;have hz:vs.length<=sizeLine:=by rw[<- rel.length];exact z
  have hl:(WV kvs k v).length<=sizeLine:=by have:=Wd kvs k v;omega
  refine wpAny_setItem_pairs (hsz:=hz) (kV_is ry) dd fun h' dd' hs=>h _ ?_;have he:∃q,h'.get? a=some q:=let ⟨q,_,_,hq,_⟩:=dd'; ⟨q,hq⟩
  exact UA I (by rw[e];exact True.intro) hs he (dk_new hl hd (rel.put k rv) dd')
 ·subst ey eH;cases (show u=Value.ref b from ry);obtain⟨z,hd,xs,rel,dd⟩:=dt_of I.hok e;have hz:xs.length<=sizeLine:=by rw[<- pF rel];exact z
  have hl:(WV kvs k v).length<=sizeLine:=by have:=Wd kvs k v;omega
  refine wpAny_setItem_heap (hsz:=hz) (pQ hu) (yh I.hok eb) dd fun h' dd' hs=>h _ ?_;obtain⟨q,es,ep,hq,h2,h3,h4,_,h5⟩:=dd';refine UA I (by rw[e];exact True.intro) hs ⟨q,hq⟩ ⟨hl,hd,_,(rel.put k eb rv).keeps fun c ys ec=>?_,q,es,ep,hq,h2,h3,h4,h5⟩;rw[ZB (Vw ec e (fun z=>nomatch z))];exact ec
end
section
variable{X:Cx}{lL:List (Addr×Obj)}{σ:St}{H:Hp}{s:Shared}{a:Addr}{kvs:List (Key×V)}{k:Key}{u:Value}{A:Around}{E:Value->Shared->Prop}
end
def NoSl(i:Expr):Prop:=∀ov iv,subscripted i false ov iv=operate [ov,iv] (getItem ov iv)
theorem subD_of{prog:Program}{w:World}{A:Around}{E:Value->Shared->Prop}{s:Shared}{env:Env}{value slice:Expr}{pos:Pos}{T id:String}{Q:Value->Shared->Prop}
  (hl:typeLookup (.type T) "__getitem__" = pure (some (.builtin id))) (hs:NoSl slice)
  (h:wpAny (model prog w) A (eval value env) (fun o s₁=>wpAny (model prog w) A (eval slice env) (fun i s₂=>s₂.TypeIs o T/\wpAny (model prog w) A (getItem o i) Q E s₂) E s₁) E s) :
  wpAny (model prog w) A (eval (.Subscript value slice pos) env) Q E s:=by
 refine Subscript_ (oP h (fun o s₁ h₁=>oP h₁ (fun i s₂ h₂=>?_) fun _ _ x=>x) fun _ _ x=>x);obtain⟨hT,h₂⟩:=h₂;unfold subscriptTail;refine lO ?_;rw[getitemInPython_of_ne hT.not_modules];refine lO (p8 hT hl ?_);have fin:wpAny (model prog w) A (subscripted slice false o i) (fun r s₃=>wpAny (model prog w) A (letTemporaryGo value o r >>= fun _=>pure r) Q E s₃) E s₂:=by
  rw[hs o i];exact wpAny_operating (oP h₂ (fun r s₃ h₃=>lO (wpAny_letTemporaryGo (lT h₃))) fun _ _ x=>x)
 first
  |exact lT (lO fin)
  |exact lO (lT (lO fin))
  |exact lO fin
theorem kO{X:Cx}{lL:List (Addr×Obj)}{σ:St}{H:Hp}{s:Shared}{a:Addr}{y:V}{o:Option V}(I:Inv X lL σ H s)(g:DGet H a y o):s.TypeIs (.ref a) "dict" := by
 rcases g with⟨kvs,k,e,_,_⟩|⟨kvs,k,b,e,_,_,_⟩
 ·obtain⟨_,_,vs,_,dd⟩:=dk_rd I.hok e;exact dd.typeIs
 ·obtain⟨_,_,xs,_,dd⟩:=dt_rd I.hok e;exact dd.typeIs
def tDGet(td ty:TE):TE:=fun σ H Q=>td σ H fun x H1=>ty σ H1 fun y H2=>∃a v,x=.ref a/\DGet H2 a y (some v)/\Q v H2
def sDPut(td ty tv:TE):TS:=fun D σ H=>tv σ H fun v H1=>td σ H1 fun x H2=>ty σ H2 fun y H3=>∃a H4,x=.ref a/\DPut H3 a y v H4/\D.nx σ H4
section
variable{X:Cx}{o i e value:Expr}{pos pos' tpos:Pos}{td ty tv:TE}
theorem pe_dget(hu:X.A.units+1<cLine)(ho:PE X o td)(hi:PE X i ty)(hs:NoSl i):PE X (.Subscript o i pos) (tDGet td ty):=by
 intro lL s σ H Q I h;refine subD_of PySem.F.slot_dict_getitem.lookup hs (thn (ho lL s σ H _ I h) fun u s1 ⟨x,H1,I1,rx,q1⟩=>thn (hi lL s1 σ H1 _ I1 q1) fun iv s2 ⟨y,H2,I2,ry,a,v,ex,g,q2⟩=>?_);subst ex;obtain rfl:u=Value.ref a:=rx;exact⟨kO I2 g,d_getItem hu I2 g ry fun w' s3 I3 rw'=>⟨v,H2,I3,rw',q2⟩⟩
theorem ps_dput(hu:X.A.units+1<cLine)(ho:PE X o td)(hi:PE X i ty)(hv:PE X value tv)(hs:swapsWith value (some (.Subscript o i pos')) pos.line X.env=pure false) :
  PS X (.Assign [.Subscript o i pos'] value pos) (sDPut td ty tv):=by
 intro lL s σ H D I h;refine wpAny_Assign_Subscript (thn (hv lL s σ H _ I h) fun r s1 ⟨v,H1,I1,rv,q1⟩=>thn (ho lL s1 σ H1 _ I1 q1) fun u s2 ⟨x,H2,I2,rx,q2⟩=>thn (hi lL s2 σ H2 _ I2 q2) fun iv s3 ⟨y,H3,I3,ry,a,H4,ex,g,q3⟩=>?_) hs;subst ex;obtain rfl:u=Value.ref a:=rx;exact d_setItem hu I3 g ry rv fun s4 I4=>⟨σ,H4,I4,q3⟩
end
theorem qf{P:Program}{w:World}{H:Hp}(h:Heap)(hb:sysModules<h.objs.size):YH P w H (h.push { cls:=.type "dict",data:=.dict #[] }) h.objs.size (.dK []):=
 ⟨mN _,oN.mpr (mj (me hb)),[],.nil,Heap.DictOf.new h⟩
theorem dt_empty{P:Program}{w:World}{H:Hp}(h:Heap)(hb:sysModules<h.objs.size):YH P w H (h.push { cls:=.type "dict",data:=.dict #[] }) h.objs.size (.dT []):=
 ⟨mN _,oN.mpr (mj (me hb)),[],.nil,_,#[],0,mD _ rfl,⟨rfl,rfl,rfl⟩,rfl,rfl,List.nodup_nil⟩
def tDNewK:TE:=fun _ H Q=>∀p,H p=none->Q (.ref p) (upd H p (.dK []))
section
variable{X:Cx}{pos:Pos}
theorem pe_dnewK:PE X (.Dict [] [] pos) tDNewK:=fun lL s σ H Q I h=>
 wpAny_Dict_empty ⟨.ref s.heap.objs.size,_,I.laid (a:=s.heap.objs.size) (o:=.dK []) (t':=s.toks) (fun _ _ q=>lZ _ q) (lS _) (qf s.heap I.big),rfl,h _ (I.hok.fresh (lS _))⟩
end
structure M1(X:Cx)(o:Expr)(m:Str)(apos:Pos)(e:Expr)(cpos:Pos):Prop where
 base:attributeBase o m X.env (eval o X.env)=eval o X.env
 few:((backTo cpos (starEach [e] X.env)).all (fun x=>!x.1)&&(backToKw cpos (keywordEach [] X.env)).all (fun x=>x.1.isSome)
  && decide (([e]:List Expr).length+([]:List Keyword).length+(if([]:List Keyword).isEmpty then 0 else 1)<30))=true
 line:(apos.endLine==cpos.line)=true
 trees:backTo cpos (starEach [e] X.env)=[(false,eval e X.env)]
def IsD(H:Hp)(a:Addr):Prop:=(∃kvs,Rd H a (.dK kvs))\/∃kvs,Rd H a (.dT kvs)
theorem isD_at{X:Cx}{lL:List (Addr×Obj)}{σ:St}{H:Hp}{s:Shared}{a:Addr}(I:Inv X lL σ H s)(d:IsD H a) :
  s.TypeIs (.ref a) "dict" /\ (∀b,Value.ref a=.ref b->∃ob,s.heap.get? b=some ob/\ob.dict=none)/\(a==sysModules)=false:=by
 rcases d with⟨kvs,e⟩|⟨kvs,e⟩
 ·obtain⟨_,hd,vs,_,dd⟩:=dk_rd I.hok e;refine⟨dd.typeIs,fun b q=>?_,hd⟩;cases q;obtain⟨ob,_,_,h1,h2,_⟩:=dd;exact⟨ob,h1,h2.2.1⟩
 ·obtain⟨_,hd,xs,_,dd⟩:=dt_rd I.hok e;refine⟨dd.typeIs,fun b q=>?_,hd⟩;cases q;obtain⟨ob,_,_,h1,h2,_⟩:=dd;exact⟨ob,h1,h2.2.1⟩
section
variable{X:Cx}{lL:List (Addr×Obj)}{σ:St}{H:Hp}{s:Shared}{a:Addr}{y d:V}{u r:Value}{o:Option V}{A:Around}{E:Value->Shared->Prop}
theorem d_get1{Q:Value->Shared->Prop}(hu:A.units+1<cLine)(I:Inv X lL σ H s)(g:DGet H a y o)(ry:ZQ y u)(h:∀w' s',Inv X lL σ H s'->ZQ (o.getD .non) w'->Q w' s') :
  wpAny (model X.prog X.w) A (call (.builtin "dict.get") [.ref a,u]) Q E s:=by
 rcases g with⟨kvs,k,e,ey,l⟩|⟨kvs,k,b,e,ey,eb,l⟩
 ·subst ey;obtain⟨z,hd,vs,rel,dd⟩:=dk_rd I.hok e;refine call_meetsIn sk dd.typeIs PySem.F.entry_dict_get (PySem.F.args_dict_get_2 _ _) (meets_dict_get (ZC X.prog X.w) a (kV_is ry) hd) ⟨_,dd.mapOf,h _ _ (I.tok _) ?_⟩;rw[l];exact(rel.val k).getD rfl
 ·subst ey;cases (show u=Value.ref b from ry);obtain⟨z,hd,xs,rel,dd⟩:=dt_rd I.hok e;refine call_meetsIn sk dd.typeIs PySem.F.entry_dict_get (PySem.F.args_dict_get_2 _ _) (meetsH_dict_get (tupleKind (ZC X.prog X.w)) a b hd) ⟨pQ hu,k,xs,yh I.hok eb,dd,h _ _ (I.tok _) ?_⟩;rw[l];exact(rel.val k).getD rfl
end
def tDGet1(td ty:TE):TE:=fun σ H Q=>td σ H fun x H1=>∃a,x=.ref a/\IsD H1 a/\ty σ H1 fun y H2=>∃o,DGet H2 a y o/\Q (o.getD .non) H2
section
variable{X:Cx}{o e f:Expr}{apos cpos:Pos}{td ty tx:TE}
theorem pe_dget1(hu:X.A.units+1<cLine)(ho:PE X o td)(he:PE X e ty)(m:M1 X o "get" apos e cpos):PE X (.Call (.Attribute o "get" apos) [e] [] cpos) (tDGet1 td ty):=by
 intro lL s σ H Q I h;refine wpAny_Call_method m.base m.few m.line PySem.F.plainAttrs_dict sk PySem.F.type_dict_get (thn (ho lL s σ H _ I h) fun u s1 ⟨x,H1,I1,rx,a,ex,d,q1⟩=>?_);subst ex;obtain rfl:u=Value.ref a:=rx;obtain⟨t1,t2,_⟩:=isD_at I1 d;refine⟨t1,t2,?_⟩;rw[m.trees];refine Calls.callWith_builtin rfl (Calls.evalArgs_plain (Calls.spliced_cons (thn (he lL s1 σ H1 _ I1 q1) fun iv s2 ⟨y,H2,I2,ry,ov,g,q2⟩=>Calls.spliced_nil ?_)));exact d_get1 hu I2 g ry fun w' s3 I3 rw'=>⟨_,H2,I3,rw',q2⟩
end
section
variable{X:Cx}{lL:List (Addr×Obj)}{σ:St}{H:Hp}{s:Shared}{a:Addr}{kvs:List (Key×V)}{A:Around}{E:Value->Shared->Prop}
end
section
variable{X:Cx}{lL:List (Addr×Obj)}{σ:St}{H:Hp}{s:Shared}{a:Addr}{y:V}{u:Value}{A:Around}{E:Value->Shared->Prop}
end
end L2
namespace Att
open PySem PySem.W PySem.Calls PyProof.Rows
section
variable{prog:Program}{w:World}{A:Around}{E:Value->Shared->Prop}{s:Shared}{K:Frag}
end
end Att
namespace L2
open PySem PySem.Spec PyProof.Rows
section
variable{P:Program}{w:World}{K:W.Frag}{mg:Str->Option Value}{base:Heap}
end
section
variable{X:Cx}
end
section
variable{κ:Type}[DecidableEq κ]
end
end L2
namespace L3
open PySem PySem.Spec PyProof.Rows L2
section
variable{X:Cx}{K:W.Frag}
def rSet0:List V->Hp->VK->Prop:=fun xs H Q=>xs=[]/\∀a,H a=none->Q (.ref a) (upd H a (.set (fun _=>false) 0))
theorem call_set0:YB X (.type "set") rSet0:=by
 intro lL s σ H xs us Q I r h;obtain⟨rfl,q⟩:=h;have hu:us=[]:=by cases r;rfl
 subst hu;refine call_set_0 fun led=>⟨.ref s.heap.objs.size,_,I.laid (t':=s.toks) (o:=.set (fun _=>false) 0) (fun b ob q=>lZ _ q) (lS _) ?_,rfl,q _ (I.hok.fresh (lS _))⟩;exact(setObjOf_fresh (knd:=intKind X.prog X.w) led).setOf (mD _ rfl) (by decide)
def rSetAdd:V->List V->Hp->VK->Prop:=fun x vs H Q=>∃a S n k,x=.ref a/\vs=[.int k]/\H a=some (.set S n)/\n+1<4096/\Q .non (upd H a (.set (fun j=>S j||decide (j=k)) (if S k then n else n+1)))
theorem mt_setAdd:MtM X "set.add" rSetAdd:=by
 intro lL s σ H x vs v us Q I rx rv h;obtain⟨a,S,n,k,rfl,rfl,ha,hn,q⟩:=h;cases rx;obtain⟨u,rfl,ru⟩:=rv.one;obtain⟨t,rfl⟩:=(show ∃t,u=Value.int k t from ru);have hS:s.heap.SetOf (intKind X.prog X.w) a S n:=I.hok a _ ha;refine call_set_add (knd:=intKind X.prog X.w) (k:=k) (by show Value.isInt k (.int k t)=true;simp[Value.isInt]) rfl hS hn fun h' sb hS'=>⟨.non,_,UA (ob:=.set (fun j=>S j||decide (j=k)) (if S k then n else n+1)) I (by rw[ha];exact True.intro) sb ?_ hS',rfl,q⟩;obtain⟨o,_,_,_,e,_⟩:=hS';exact⟨o,e⟩
def rInS(neg:Bool):R2:=fun x y H Q=>∃k a S n,x=.int k/\y=.ref a/\H a=some (.set S n)/\Q (.bl (if neg then !S k else S k)) H
theorem op_notInS:OpR X (compareOp .NotIn) (rInS true):=by
 intro lL s σ H x y v u Q I rx ry h;obtain⟨k,a,S,n,rfl,rfl,ha,q⟩:=h;obtain⟨t,rfl⟩:=(show ∃t,v=Value.int k t from rx);obtain rfl:u=Value.ref a:=ry;have hS:s.heap.SetOf (intKind X.prog X.w) a S n:=I.hok a _ ha;exact wpAny_notInSet_of (knd:=intKind X.prog X.w) (k:=k) (by show Value.isInt k (.int k t)=true;simp[Value.isInt]) rfl hS ⟨.bl _,H,I.tok _,rfl,q⟩
end
section
open Classical
noncomputable def Ud(A:List Tr)(t:Tr):List Tr:=if t∈A then A else A++[t]
noncomputable def Zw(A L:List Tr):List Tr:=L.foldl Ud A
theorem xg(A:List Tr):Zw A []=A:=rfl
theorem WN(A:List Tr)(x:Tr)(L:List Tr):Zw A (x::L)=Zw (Ud A x) L:=rfl
theorem XN(A L M:List Tr):Zw A (L++M)=Zw (Zw A L) M:=List.foldl_append
theorem zQ{A:List Tr}{t:Tr}(h:t∈A):Ud A t=A:=if_pos h
theorem qg{A:List Tr}{t:Tr}(h:t∉A):Ud A t=A++[t]:=if_neg h
theorem yf{A:List Tr}{t x:Tr}:x∈Ud A t↔x∈A\/x=t:=by
 unfold Ud
 split
 ·rename_i h
  exact⟨.inl,fun z=>z.elim id fun e=>by rw[e];exact h⟩
 ·simp
theorem Z7:∀{L A:List Tr}{x:Tr},x∈Zw A L↔x∈A\/x∈L
 |[],A,x=>by simp[xg]
 |t::r,A,x=>by rw[WN,Z7,yf,mw,or_assoc]
theorem xa{A:List Tr}{t:Tr}(h:A.Nodup):(Ud A t).Nodup:=by
 unfold Ud
 split
 ·exact h
 ·rename_i n
  rw[pJ];exact⟨h,by simp,fun a ha b hb e=>n (by rw[mr.mp hb] at e;rw[<- e];exact ha)⟩
theorem Wk:∀{L A:List Tr},A.Nodup->(Zw A L).Nodup
 |[],_,h=>h
 |t::r,A,h=>by rw[WN];exact Wk (xa h)
theorem Wx:∀{L A:List Tr},(∀x∈L,x∈A)->Zw A L=A
 |[],_,_=>rfl
 |t::r,A,h=>by
  rw[WN,zQ (h t (by simp))];exact Wx fun x hx=>h x (mi _ hx)
theorem kL(A:List Tr)(t:Tr):∃B,Ud A t=A++B:=by
 unfold Ud
 split
 ·exact⟨[],by simp⟩
 ·exact⟨[t],rfl⟩
theorem U6:∀(L A:List Tr),∃B,Zw A L=A++B
 |[],A=>⟨[],by simp[xg]⟩
 |t::r,A=>by
  obtain⟨B,e⟩:=kL A t;obtain⟨C,e2⟩:=U6 r (Ud A t);exact⟨B++C,by rw[WN,e2,e,nY]⟩
end
def YQ(t:Tr):List Tr:=match t.lb with
 |.op w=>if w = "some" then[] else t.ks
 |_=>t.ks
mutual
def ZE:Tr->List Tr
 |.node c ks=>(match c with|.op w=>if w = "some" then[] else Ve ks|_=>Ve ks)++[.node c ks]
def Ve:List Tr->List Tr
 |[]=>[]
 |t::r=>ZE t++Ve r
end
theorem We:∀ks:List Tr,Ve ks=(ks.map ZE).flatten
 |[]=>by rw[Ve];rfl
 |t::r=>by rw[Ve,We r];rfl
theorem WR(t:Tr):ZE t=(( YQ t).map ZE).flatten++[t]:=by
 cases t with
 |node c ks=>
  cases c with
  |op w=>
   have e:ZE (.node (.op w) ks)=(if w = "some" then[] else Ve ks)++[.node (.op w) ks]:=by rw[ZE]
   rw[e]
   show _=((if w = "some" then[] else ks).map ZE).flatten++_
   split
   ·rfl
   ·rw[We]
  |yes=>rw[show ZE (.node .yes ks)=Ve ks++[.node .yes ks] from(by rw[ZE];intro w z;cases z),We];rfl
  |sign z=>rw[show ZE (.node (.sign z) ks)=Ve ks++[.node (.sign z) ks] from(by rw[ZE];intro w z;cases z),We];rfl
  |wit m=>rw[show ZE (.node (.wit m) ks)=Ve ks++[.node (.wit m) ks] from(by rw[ZE];intro w z;cases z),We];rfl
  |many w=>rw[show ZE (.node (.many w) ks)=Ve ks++[.node (.many w) ks] from(by rw[ZE];intro w z;cases z),We];rfl
theorem Xw{t k:Tr}(h:k∈YQ t):k∈t.ks:=by
 unfold YQ at h
 split at h
 ·split at h
  ·cases h
  ·exact h
 ·exact h
theorem XT{t k:Tr}(h:k∈t.ks):psz k<psz t:=by
 rw[psz_eq t];have:∀(l:List Nat) (n:Nat),n∈l->n<=l.sum:=by
  intro l
  induction l with
  |nil=>intro n h;cases h
  |cons a r ih=>
   intro n h;rw[nN];rcases mw.mp h with rfl|h
   ·omega
   ·have:=ih n h;omega
 have:=this _ _ (p9 (f:=psz) h);omega
theorem JO(t:Tr):t∈ZE t:=by rw[WR];simp
theorem Up{t x:Tr}(h:x∈ZE t):x=t\/∃k∈YQ t,x∈ZE k:=by
 rw[WR,ml] at h;rcases h with h|h
 ·obtain⟨l,hl,hx⟩:=py.mp h;obtain⟨k,hk,rfl⟩:=mE.mp hl;exact .inr ⟨k,hk,hx⟩
 ·exact .inl (mr.mp h)
theorem postB_kid{t k x:Tr}(h:k∈YQ t)(hx:x∈ZE k):x∈ZE t:=by
 rw[WR,ml];exact .inl (py.mpr ⟨_,p9 h,hx⟩)
theorem zd:∀(n:Nat) {t x:Tr},psz t<=n->x∈ZE t->psz x<=psz t
 |0,t,x,h,_=>by have:=WI t;omega
 |n+1,t,x,h,hx=>by
  rcases Up hx with rfl|⟨k,hk,hxk⟩
  ·exact lS _
  ·have h1:=XT (Xw hk);have h2:=zd n (by omega) hxk;omega
theorem zm:∀(n:Nat) {t x y:Tr},psz t<=n->x∈ZE t->y∈ZE x->y∈ZE t
 |0,t,x,y,h,_,_=>by have:=WI t;omega
 |n+1,t,x,y,h,hx,hy=>by
  rcases Up hx with rfl|⟨k,hk,hxk⟩
  ·exact hy
  ·have h1:=XT (Xw hk);exact postB_kid hk (zm n (by omega) hxk hy)
noncomputable def ye:List Tr->List Tr->List Tr
 |[],F=>F
 |t::w,F=>ye w (Zw F (ZE t))
def Uy(F:List Tr):Prop:=∀x∈F,∀y∈ZE x,y∈F
theorem Jh:Uy []:=fun x h=>by cases h
theorem fin_pop{F:List Tr}{t:Tr}(hc:Uy F)(hk:∀k∈YQ t,k∈F)(ht:t∉F):Zw F (ZE t)=F++[t]/\Uy (F++[t]):=by
 have hs:∀x∈((YQ t).map ZE).flatten,x∈F:=fun x hx=>by
  obtain⟨l,hl,hx2⟩:=py.mp hx;obtain⟨k,hk2,rfl⟩:=mE.mp hl;exact hc k (hk k hk2) x hx2
 refine⟨?_,fun x hx y hy=>?_⟩
 ·rw[WR,XN,Wx hs];exact qg ht
 ·rcases ml.mp hx with hx|hx
  ·exact mX _ (hc x hx y hy)
  ·rw[mr.mp hx,WR,ml] at hy;rcases hy with hy|hy
   ·exact mX _ (hs y hy)
   ·exact mP _ hy
theorem fin_push{F:List Tr}{t k:Tr}{a b:List Tr}(hc:Uy F)(hb:YQ t=a++k::b)(ha:∀x∈a,x∈F):Zw (Zw F (ZE k)) (ZE t)=Zw F (ZE t)/\Uy (Zw F (ZE k)):=by
 have hs:∀x∈(a.map ZE).flatten,x∈F:=fun x hx=>by
  obtain⟨l,hl,hx2⟩:=py.mp hx;obtain⟨j,hj,rfl⟩:=mE.mp hl;exact hc j (ha j hj) x hx2
 have e:ZE t=(a.map ZE).flatten++(ZE k++((b.map ZE).flatten++[t])):=by
  rw[WR,hb,mB,List.flatten_append,lX,oV];simp
 refine⟨?_,fun x hx y hy=>?_⟩
 ·rw[e,XN,XN (Zw (Zw F (ZE k)) _),XN F,XN (Zw F (a.map ZE).flatten)];rw[Wx hs,Wx (A:=Zw F (ZE k)) fun x hx=>Z7.mpr (.inl (hs x hx)),Wx (A:=Zw F (ZE k)) fun x hx=>Z7.mpr (.inr hx)]
 ·rcases Z7.mp hx with hx|hx
  ·exact Z7.mpr (.inl (hc x hx y hy))
  ·exact Z7.mpr (.inr (zm _ (lS _) hx hy))
theorem yF:∀(w F:List Tr),∃B,ye w F=F++B
 |[],F=>⟨[],by simp[ye]⟩
 |t::w,F=>by
  obtain⟨B,e⟩:=U6 (ZE t) F;obtain⟨C,e2⟩:=yF w (Zw F (ZE t));exact⟨B++C,by rw[ye,e2,e,nY]⟩
def qU:List Tr->Prop
 |[]=>True
 |[_]=>True
 |t::s::r=>t∈YQ s/\qU (s::r)
theorem va:∀{t:Tr}{w:List Tr},qU (t::w)->∀s∈w,psz t<psz s
 |t,[],_,s,h=>by cases h
 |t,a::r,⟨h1,h2⟩,s,h=>by
  have h3:=XT (Xw h1);rcases mw.mp h with rfl|h
  ·exact h3
  ·have:=va h2 s h;omega
theorem vE:∀{w:List Tr}{m:Nat},qU w->(∀s∈w,psz s<=m)->w.length<=m
 |[],_,_,_=>by simp
 |[t],m,_,h=>by have:=h t (by simp);have:=WI t;simp;omega
 |t::s::r,m,⟨h1,h2⟩,h=>by
  have h3:=XT (Xw h1);have:∀{w:List Tr}{t:Tr},qU (t::w)->∀m,(∀s∈(t::w),psz s<=m)->w.length+psz t<=m:=by
   intro w
   induction w with
   |nil=>intro t _ m hm;have:=hm t (by simp);simp;omega
   |cons a r ih=>
    intro t hc m hm;have h4:=XT (Xw hc.1);have:=ih hc.2 m fun s hs=>hm s (mi _ hs);rw[mJ];omega
  have:=this (w:=s::r) (t:=t) ⟨h1,h2⟩ m h;have:=WI t;simp at *;omega
def nK(is:List Nat):List Key:=is.map fun(i:Nat)=>(Sum.inl ((i:Nat):Int):Key)
def WZ:Lb->List Nat->List Key
 |.yes,_=>[.inr "yes"]
 |.sign z,_=>[.inr "sign",.inr z]
 |.wit m,is=>.inr "within" :: .inl m::nK is
 |.op w,is=>.inr w::nK is
 |.many w,is=>.inr w::nK is
def Uc(ps:List Tr)(t:Tr)(ks:List Key):Prop:=∃is:List Nat,is.length=t.ks.length/\(∀(j:Nat) k i,t.ks[j]?=some k->is[j]?=some i->ps[i]?=some k)/\ks=WZ t.lb is
theorem Uc.more{ps:List Tr}{t x:Tr}{ks:List Key}(h:Uc ps t ks):Uc (ps++[x]) t ks:=by
 obtain⟨is,h1,h2,h3⟩:=h;refine⟨is,h1,fun j k i e1 e2=>?_,h3⟩;have:=h2 j k i e1 e2;rw[mQ (mo.mp this).1];exact this
theorem jt:∀{a b:List Nat},nK a=nK b->a=b
 |[],[],_=>rfl
 |[],y::b,h=>by simp[nK] at h
 |x::a,[],h=>by simp[nK] at h
 |x::a,y::b,h=>by
  have h1:(Sum.inl (x:Int):Key)=Sum.inl (y:Int):=(oj h).1;have h2:nK a=nK b:=(oj h).2;have e:(x:Int)=y:=Sum.inl.inj h1;rw[jt h2,show x=y by omega]
theorem Vu:∀w∈W1++W2,w ≠ "yes" /\ w ≠ "sign" /\ w ≠ "within" /\ w ≠ "and" /\ w ≠ "or" := by decide +kernel
theorem zw{w:Str}{n:Nat}(h:XV (.op w) n):w∈W1++W2:=by
 rcases h with⟨h,_⟩|⟨h,_⟩
 ·exact mX _ h
 ·exact mP _ h
theorem yQ{c:Lb}{is:List Nat}:∃r,WZ c is=.inr (ZT c)::r:=by
 cases c<;>exact⟨_,rfl⟩
theorem key_inj{c c':Lb}{is is':List Nat}(h1:XV c is.length)(h2:XV c' is'.length)(h:WZ c is=WZ c' is'):c=c'/\is=is':=by
 obtain⟨r,e⟩:=yQ (c:=c) (is:=is);obtain⟨r',e'⟩:=yQ (c:=c') (is:=is');have hw:ZT c=ZT c':=by
  rw[e,e'] at h;exact Sum.inr.inj (oj h).1
 clear e e' r r';have ny:¬(("sign" : Str) = "yes")/\¬(("within" : Str) = "yes")/\¬(("within" : Str) = "sign")/\¬(("and" : Str) = "yes")/\¬(("or" : Str) = "yes")/\¬(("and" : Str) = "sign")/\¬(("or" : Str) = "sign")/\¬(("and" : Str) = "within")/\¬(("or" : Str) = "within"):=by decide +kernel
 obtain⟨n1,n2,n3,n4,n5,n6,n7,n8,n9⟩:=ny;have z0:∀{l:List Nat},l.length=0->l=[]:=fun h=>nO.mp h;cases c with
 |yes=>
  cases c' with
  |yes=>exact⟨rfl,(z0 h1).trans (z0 h2).symm⟩
  |sign z=>exact absurd hw.symm n1
  |wit m=>exact absurd hw.symm n2
  |op w=>exact absurd hw.symm (Vu w (zw h2)).1
  |many w=>rcases h2.1 with rfl|rfl;exact absurd hw.symm n4;exact absurd hw.symm n5
 |sign z=>
  cases c' with
  |yes=>exact absurd hw n1
  |sign z'=>
   have e:z=z':=Sum.inr.inj (oj (oj h).2).1;exact⟨by rw[e],(z0 h1.1).trans (z0 h2.1).symm⟩
  |wit m=>exact absurd hw.symm n3
  |op w=>exact absurd hw.symm (Vu w (zw h2)).2.1
  |many w=>rcases h2.1 with rfl|rfl;exact absurd hw.symm n6;exact absurd hw.symm n7
 |wit m=>
  cases c' with
  |yes=>exact absurd hw n2
  |sign z=>exact absurd hw n3
  |wit m'=>
   have e:=(oj (oj h).2);exact⟨by rw[Sum.inl.inj e.1],jt e.2⟩
  |op w=>exact absurd hw.symm (Vu w (zw h2)).2.2.1
  |many w=>rcases h2.1 with rfl|rfl;exact absurd hw.symm n8;exact absurd hw.symm n9
 |op w=>
  have wa:=Vu w (zw h1);cases c' with
  |yes=>exact absurd hw wa.1
  |sign z=>exact absurd hw wa.2.1
  |wit m=>exact absurd hw wa.2.2.1
  |op w'=>exact⟨by rw[show w=w' from hw],jt (oj h).2⟩
  |many w'=>rcases h2.1 with rfl|rfl;exact absurd hw wa.2.2.2.1;exact absurd hw wa.2.2.2.2
 |many w=>
  cases c' with
  |yes=>rcases h1.1 with rfl|rfl;exact absurd hw n4;exact absurd hw n5
  |sign z=>rcases h1.1 with rfl|rfl;exact absurd hw n6;exact absurd hw n7
  |wit m=>rcases h1.1 with rfl|rfl;exact absurd hw n8;exact absurd hw n9
  |op w'=>rcases h1.1 with rfl|rfl;exact absurd hw.symm (Vu w' (zw h2)).2.2.2.1;exact absurd hw.symm (Vu w' (zw h2)).2.2.2.2
  |many w'=>exact⟨by rw[show w=w' from hw],jt (oj h).2⟩
theorem row_inj{ps:List Tr}{t s:Tr}{ks:List Key}(o1:XV t.lb t.ks.length)(o2:XV s.lb s.ks.length)(h:Uc ps t ks)(g:Uc ps s ks):t=s:=by
 obtain⟨is,h1,h2,h3⟩:=h;obtain⟨js,g1,g2,g3⟩:=g;obtain⟨e1,e2⟩:=key_inj (by rw[h1];exact o1) (by rw[g1];exact o2) (h3.symm.trans g3);subst e2;rw[Tr.eta t,Tr.eta s,e1]
 congr 1
 apply rc;intro j;have hl:t.ks.length=s.ks.length:=h1.symm.trans g1
 by_cases hj:j<t.ks.length
 ·have hji:j<is.length:=by rw[h1];exact hj
  have a:=h2 j _ _ (lU hj) (lU hji);have b:=g2 j _ _ (lU (by rw[<- hl];exact hj)) (lU hji);rw[lU hj,lU (by rw[<- hl];exact hj)];exact a.symm.trans b
 ·rw[oH (by omega),oH (by omega)]
theorem nd_ix{ps:List Tr}(nd:ps.Nodup){i j:Nat}{t:Tr}(h1:ps[i]?=some t)(h2:ps[j]?=some t):i=j:=by
 obtain⟨a,e1⟩:=mo.mp h1;obtain⟨b,e2⟩:=mo.mp h2;have pw:=pR.mp (List.nodup_iff_pairwise_ne.mp nd);rcases Nat.lt_trichotomy i j with h|h|h
 ·exact absurd (e1.trans e2.symm) (pw i j a b h)
 ·exact h
 ·exact absurd (e2.trans e1.symm) (pw j i b a h)
theorem row_fun{ps:List Tr}(nd:ps.Nodup){t:Tr}{ks js:List Key}(h:Uc ps t ks)(g:Uc ps t js):ks=js:=by
 obtain⟨is,h1,h2,h3⟩:=h;obtain⟨is',g1,g2,g3⟩:=g;have e:is=is':=by
  apply rc;intro j
  by_cases hj:j<t.ks.length
  ·rw[lU (show j<is.length by omega),lU (show j<is'.length by omega)]
   congr 1
   exact nd_ix nd (h2 j _ _ (lU hj) (lU (by omega))) (g2 j _ _ (lU hj) (lU (by omega)))
  ·rw[oH (by omega),oH (by omega)]
 rw[h3,g3,e]
def numR:Nat->List (List Key)->List (List Key×V)
 |_,[]=>[]
 |n,k::r=>(k,.int (n:Int))::numR (n+1) r
theorem val_no:∀{n:Nat}{l:List (List Key)}{k:List Key},k∉l->Xo (numR n l) k=none
 |n,[],k,_=>rfl
 |n,a::r,k,h=>by
  have ha:a≠k:=fun e=>h (by rw[e];simp);have ih:=val_no (n:=n+1) (l:=r) (k:=k) fun z=>h (mi _ z);unfold Xo at ih ⊢;rw[numR,List.find?_cons_of_neg (by simpa using ha)];exact ih
theorem val_at:∀{n:Nat}{l:List (List Key)}{k:List Key}{i:Nat},l.Nodup->l[i]?=some k->Xo (numR n l) k=some (.int ((n+i:Nat):Int))
 |n,[],k,i,_,h=>by simp at h
 |n,a::r,k,0,_,h=>by
  have e:a=k:=by simpa using h
  unfold Xo;rw[numR,List.find?_cons_of_pos (by simpa using e)];rfl
 |n,a::r,k,i+1,nd,h=>by
  have hm:r[i]?=some k:=by simpa using h
  have ha:a≠k:=fun e=>(oz.mp nd).1 (by rw[e];exact mM hm);have ih:=val_at (n:=n+1) (l:=r) (k:=k) (oz.mp nd).2 hm;unfold Xo at ih ⊢;rw[numR,List.find?_cons_of_neg (by simpa using ha),show n+(i+1)=n+1+i by omega];exact ih
def Vt(P R D:Addr)(H H':Hp):Prop:=∀b o,b≠P->b≠R->b≠D->H b=some o->H' b=some o
theorem Vt.refl{P R D:Addr}{H:Hp}:Vt P R D H H:=fun b o _ _ _ e=>e
theorem Zh.b{P R D:Addr}{H H':Hp}(s:Zh H H'):Vt P R D H H':=fun b o _ _ _ e=>s _ _ e
theorem row_known{ps:List Tr}{rks:List (List Key)}(nd:ps.Nodup)(hl:rks.length=ps.length)(ok:∀t∈ps,XV t.lb t.ks.length)(hr:∀(i:Nat) t ks,ps[i]?=some t->rks[i]?=some ks->Uc ps t ks) :
  rks.Nodup/\∀{t:Tr}{ks:List Key},XV t.lb t.ks.length->Uc ps t ks->(∀i:Nat,ps[i]?=some t->rks[i]?=some ks)/\(t∉ps->ks∉rks):=by
 have same:∀(i j:Nat) ks,rks[i]?=some ks->rks[j]?=some ks->i=j:=fun i j ks h1 h2=>by
  have hi:=(mo.mp h1).1;have hj:=(mo.mp h2).1;have e1:ps[i]?=some ps[i]:=lU (by omega);have e2:ps[j]?=some ps[j]:=lU (by omega);have e:=row_inj (ok _ (mH _)) (ok _ (mH _)) (hr i _ _ e1 h1) (hr j _ _ e2 h2);rw[<- e] at e2;exact nd_ix nd e1 e2
 refine⟨?_,fun {t ks} o1 h=>⟨fun i hi=>?_,fun hn hm=>?_⟩⟩
 ·rw[List.nodup_iff_pairwise_ne,pR];intro i j hi hj hij e;have:=same i j rks[i] (lU hi) (by rw[e];exact lU hj);omega
 ·have hi2:=(mo.mp hi).1;have e1:rks[i]?=some rks[i]:=lU (by omega);rw[row_fun nd h (hr i t _ hi e1)];exact e1
 ·obtain⟨i,hi,e⟩:=m7 hm;have e1:ps[i]?=some ps[i]:=lU (by omega);have:=row_inj o1 (ok _ (mH _)) h (hr i _ _ e1 (by rw[<- e];exact lU hi));exact hn (by rw[this];exact mH _)
end L3
namespace L3
open PySem L2
theorem Xz.units1{k:Nat}{A:Around}(r:Xz k A):A.units+1<cLine:=by have:=r.un;omega
theorem tput1(v:V):YA "parts" v []=([("parts",v)]:List (Str×V)):=by
 simp[YA]
end L3
namespace L3
open PySem PySem.Spec PyProof.Rows L2
abbrev XE:=List (List Key×Addr×V)
abbrev XPr:XE->List (List Key×Addr×Value)->Prop:=Paired fun p q=>p.1=q.1/\p.2.1=q.2.1/\ZQ p.2.2 q.2.2
def DxAt(Pm:Params)(a:Addr)(es:XE)(h:Heap):Prop:=es.length<=sizeLine/\(a==sysModules)=false/\∃(P:Program) (w:World) (xs:List (List Key×Addr×Value)),w.params=Pm/\XPr es xs /\
 ∃o fs ep,h.get? a=some o/\o.ExactDict/\o.data=.dict fs ep/\fs.toList=xs.map (entryOfKey (tupleKind (ZC P w)))/\(xs.map (·.1)).Nodup
def DxO(Pm:Params)(a:Addr)(es:XE):HO:=.ext (DxAt Pm a es)
theorem dx_ok{P:Program}{w:World}{Pm:Params}{H:Hp}{h:Heap}{a:Addr}{es:XE}(x:DxAt Pm a es h):YH P w H h a (DxO Pm a es):=by
 refine⟨x,?_,?_⟩
 ·obtain⟨_,_,_,_,_,_,_,o,_,_,e,_⟩:=x;exact⟨o,e⟩
 ·rintro h1 h2 ⟨z,y,P',w',xs,hp,r,o,fs,ep,e,c⟩ k;exact⟨z,y,P',w',xs,hp,r,o,fs,ep,k _ e,c⟩
theorem JM{P P':Program}{w w':World}(h:w.params=w'.params):entryOfKey (tupleKind (ZC P w))=entryOfKey (tupleKind (ZC P' w')):=by
 have hk:keyH w=keyH w':=by
  funext k
  cases k with
  |inl i=>rfl
  |inr x=>show hashStr w x=hashStr w' x;unfold hashStr;rw[h]
 funext x
 unfold entryOfKey
 congr 1
 show tupleKeyHash (ZC P w) x.1=tupleKeyHash (ZC P' w') x.1
 unfold tupleKeyHash
 show reduceHash (Builtin.Tuple.tupleHashOf (x.1.map (keyH w)))=reduceHash (Builtin.Tuple.tupleHashOf (x.1.map (keyH w')))
 rw[hk]
def valX(es:XE)(k:List Key):Option V:=Xo (es.map fun e=>(e.1,e.2.2)) k
theorem XPr.val{es:XE}{xs:List (List Key×Addr×Value)}(r:XPr es xs)(k:List Key):VF (valX es k) ((atKey xs k).map (·.2)):=by
 induction r with
 |nil=>exact True.intro
 |@cons p q ps qs h t ih=>
  obtain⟨h1,_,h2⟩:=h;unfold valX at ih ⊢;rw[lX]
  by_cases e:p.1=k
  ·have e':q.1=k:=h1.symm.trans e;have b:atKey (q::qs) k=some q.2:=by simp[atKey,oZ,e']
   rw[Xr e,b];exact h2
  ·have e':¬q.1=k:=fun z=>e (h1.trans z);have b:atKey (q::qs) k=atKey qs k:=by simp[atKey,oZ,e']
   rw[Xn e,b];exact ih
def XGet(K:W.Frag)(Pm:Params)(H:Hp)(a:Addr)(y:V)(r:Option V):Prop:=∃es k b,H a=some (DxO Pm a es)/\y=.ref b/\SqT K H b (k.map kV)/\(∀e∈es,SqT K H e.2.1 (e.1.map kV))/\r=valX es k
def XPut(K:W.Frag)(Pm:Params)(H:Hp)(a:Addr)(y v:V)(H':Hp):Prop:=∃es k b,H a=some (DxO Pm a es)/\y=.ref b/\SqT K H b (k.map kV)/\(∀e∈es,SqT K H e.2.1 (e.1.map kV))/\valX es k=none/\es.length<sizeLine/\H'=upd H a (DxO Pm a (es++[(k,b,v)]))
section
variable{X:Cx}{lL:List (Addr×Obj)}{σ:L3.St}{H:Hp}{s:Shared}{a:Addr}{y v:V}{u r:Value}{o:Option V}{A:Around}{E:Value->Shared->Prop}{Pm:Params}
theorem zO{ks:List Key}{b:Addr}(I:L2.Inv X lL σ H s)(e:SqT X.K H b (ks.map kV)):(tupleKind (ZC X.prog X.w)).is s.heap ks b:=by
 obtain⟨its,r,t,_⟩:=I.tuple e;obtain⟨o,h1,h2,n,h3⟩:=t;exact⟨o,its.toArray,n,h1,h2,h3,by simpa using qV r⟩
theorem dx_of{es:XE}(hw:X.w.params=Pm)(I:L2.Inv X lL σ H s)(e:H a=some (DxO Pm a es))(hk:∀e∈es,SqT X.K H e.2.1 (e.1.map kV)):es.length<=sizeLine/\(a==sysModules)=false/\∃xs,XPr es xs/\s.heap.DictOfH (tupleKind (ZC X.prog X.w)) a xs:=by
 obtain⟨⟨z,y,P,w,xs,hp,r,o,fs,ep,h1,h2,h3,h4,h5⟩,_⟩:=I.hok a _ e;refine⟨z,y,xs,r,o,fs,ep,h1,h2,h3,?_,fun x hx=>?_,h5⟩
 ·rw[h4,JM (P':=X.prog) (w':=X.w) (hp.trans hw.symm)]
 ·have all:∀{l:XE}{m:List (List Key×Addr×Value)},XPr l m->(∀e∈l,SqT X.K H e.2.1 (e.1.map kV))->∀x∈m,(tupleKind (ZC X.prog X.w)).is s.heap x.1 x.2.1:=by
   intro l m q
   induction q with
   |nil=>intro _ x hx;exact nomatch hx
   |@cons p q ps qs hq t ih=>
    intro hk x hx;rcases mw.mp hx with e|hx
    ·subst e;have:=hk p (by simp);rw[hq.1,hq.2.1] at this;exact zO I this
    ·exact ih (fun e he=>hk e (mi _ he)) x hx
  exact all r hk x hx
theorem x_getItem{Q:Value->Shared->Prop}(hw:X.w.params=Pm)(hu:A.units+1<cLine)(I:L2.Inv X lL σ H s)(g:XGet X.K Pm H a y (some v))(ry:ZQ y u)(h:∀w' s',L2.Inv X lL σ H s'->ZQ v w'->Q w' s') :
  wpAny (model X.prog X.w) A (getItem (.ref a) u) Q E s:=by
 obtain⟨es,k,b,e,rfl,eb,hk,l⟩:=g;cases (show u=Value.ref b from ry);obtain⟨z,hd,xs,rel,dd⟩:=dx_of hw I e hk;obtain⟨w',hw',rw'⟩:=VF.some_of (v:=v) (o:=(atKey xs k).map (·.2)) (by rw[l];exact rel.val k);obtain⟨p,hp,hp2⟩:=om.mp hw';refine wpAny_getItem_heap (pQ hu) (zO I eb) dd hp ?_;rw[hp2];exact h w' _ (I.tok _) rw'
theorem x_notIn{Q:Value->Shared->Prop}(hw:X.w.params=Pm)(hu:A.units+1<cLine)(I:L2.Inv X lL σ H s)(g:XGet X.K Pm H a y o)(ry:ZQ y u)(h:∀s',L2.Inv X lL σ H s'->Q (.bool (!o.isSome)) s') :
  wpAny (model X.prog X.w) A (compareOp .NotIn u (.ref a)) Q E s:=by
 obtain⟨es,k,b,e,rfl,eb,hk,l⟩:=g;cases (show u=Value.ref b from ry);obtain⟨z,hd,xs,rel,dd⟩:=dx_of hw I e hk;refine wpAny_notIn_heap (pQ hu) (zO I eb) hd dd ?_;have q:=(rel.val k).isSome_eq;rw[Option.isSome_map] at q;rw[<- q,<- l];exact h _ (I.tok _)
theorem x_setItem{H':Hp}{Q:Unit->Shared->Prop}(hw:X.w.params=Pm)(hu:A.units+1<cLine)(I:L2.Inv X lL σ H s)(g:XPut X.K Pm H a y v H')(ry:ZQ y u)(rv:ZQ v r)(h:∀s',L2.Inv X lL σ H' s'->Q () s') :
  wpAny (model X.prog X.w) A (setItem (.ref a) u r) Q E s:=by
 obtain⟨es,k,b,e,rfl,eb,hk,hn,hl,rfl⟩:=g;cases (show u=Value.ref b from ry);obtain⟨z,hd,xs,rel,dd⟩:=dx_of hw I e hk;have hz:xs.length<=sizeLine:=by rw[<- pF rel];exact z
 have hnone:atKey xs k=none:=by
  have q:=(rel.val k).isSome_eq;rw[hn,Option.isSome_map] at q;cases hh:atKey xs k with
  |none=>rfl
  |some p=>rw[hh] at q;cases q
 refine wpAny_setItem_heap (hsz:=hz) (pQ hu) (zO I eb) dd fun h' dd' hs=>h _ ?_;rw[storedH_new hnone] at dd';obtain⟨q,fs,ep,hq,h2,h3,h4,_,h5⟩:=dd';refine UA (ob:=DxO Pm a (es++[(k,b,v)])) I (by rw[e];exact True.intro) hs ⟨q,hq⟩ (dx_ok ⟨by rw[lW,ng];omega,hd,X.prog,X.w,_,hw,Paired.snoc rel ⟨rfl,rfl,rv⟩,q,fs,ep,hq,h2,h3,h4,h5⟩)
end
def tXGet(K:W.Frag)(Pm:Params)(td ty:TE):TE:=fun σ H Q=>td σ H fun x H1=>ty σ H1 fun y H2=>∃a v,x=.ref a/\XGet K Pm H2 a y (some v)/\Q v H2
def tXNotIn(K:W.Frag)(Pm:Params)(ty td:TE):TE:=fun σ H Q=>ty σ H fun y H1=>td σ H1 fun x H2=>∃a o,x=.ref a/\XGet K Pm H2 a y o/\Q (.bl (!o.isSome)) H2
def sXPut(K:W.Frag)(Pm:Params)(td ty tv:TE):L2.TS:=fun D σ H=>tv σ H fun v H1=>td σ H1 fun x H2=>ty σ H2 fun y H3=>∃a H4,x=.ref a/\XPut K Pm H3 a y v H4/\D.nx σ H4
def tXNew(Pm:Params):TE:=fun _ H Q=>∀p,H p=none->Q (.ref p) (upd H p (DxO Pm p []))
section
variable{X:Cx}{K:W.Frag}{o i e value:Expr}{pos pos':Pos}{td ty tv:TE}{Pm:Params}
theorem x_dict{lL:List (Addr×Obj)}{σ:L3.St}{H:Hp}{s:Shared}{a:Addr}{es:XE}(I:L2.Inv X lL σ H s)(e:H a=some (DxO Pm a es)):s.TypeIs (.ref a) "dict" := by
 obtain⟨⟨_,_,_,_,_,_,_,o,_,_,h1,h2,_⟩,_⟩:=I.hok a _ e;exact⟨o,h1,h2.1⟩
theorem pe_xget(hK:X.K=K)(hw:X.w.params=Pm)(hu:X.A.units+1<cLine)(ho:PE X o td)(hi:PE X i ty)(hs:NoSl i):PE X (.Subscript o i pos) (tXGet K Pm td ty):=by
 subst hK;intro lL s σ H Q I h;refine subD_of PySem.F.slot_dict_getitem.lookup hs (thn (ho lL s σ H _ I h) fun u s1 ⟨x,H1,I1,rx,q1⟩=>thn (hi lL s1 σ H1 _ I1 q1) fun iv s2 ⟨y,H2,I2,ry,a,v,ex,g,q2⟩=>?_);subst ex;obtain rfl:u=Value.ref a:=rx;obtain⟨es,_,_,e,_⟩:=id g;exact⟨x_dict I2 e,x_getItem hw hu I2 g ry fun w' s3 I3 rw'=>⟨v,H2,I3,rw',q2⟩⟩
theorem pc_xnotin(hK:X.K=K)(hw:X.w.params=Pm)(hu:X.A.units+1<cLine)(hi:PE X i ty)(ho:PE X o td):PC X .NotIn i o (tXNotIn K Pm ty td):=by
 subst hK;intro lL s σ H Q I h;refine thn (hi lL s σ H _ I h) fun iv s1 ⟨y,H1,I1,ry,q1⟩=>thn (ho lL s1 σ H1 _ I1 q1) fun u s2 ⟨x,H2,I2,rx,a,ov,ex,g,q2⟩=>?_;subst ex;obtain rfl:u=Value.ref a:=rx;exact x_notIn hw hu I2 g ry fun s3 I3=>⟨.bl (!ov.isSome),H2,I3,rfl,q2⟩
theorem ps_xput(hK:X.K=K)(hw:X.w.params=Pm)(hu:X.A.units+1<cLine)(ho:PE X o td)(hi:PE X i ty)(hv:PE X value tv)(hs:swapsWith value (some (.Subscript o i pos')) pos.line X.env=pure false) :
  PS X (.Assign [.Subscript o i pos'] value pos) (sXPut K Pm td ty tv):=by
 subst hK;intro lL s σ H D I h;refine wpAny_Assign_Subscript (thn (hv lL s σ H _ I h) fun r s1 ⟨v,H1,I1,rv,q1⟩=>thn (ho lL s1 σ H1 _ I1 q1) fun u s2 ⟨x,H2,I2,rx,q2⟩=>thn (hi lL s2 σ H2 _ I2 q2) fun iv s3 ⟨y,H3,I3,ry,a,H4,ex,g,q3⟩=>?_) hs;subst ex;obtain rfl:u=Value.ref a:=rx;exact x_setItem hw hu I3 g ry rv fun s4 I4=>⟨σ,H4,I4,q3⟩
theorem pe_xnew(hw:X.w.params=Pm):PE X (.Dict [] [] pos) (tXNew Pm):=fun lL s σ H Q I h=>
 wpAny_Dict_empty ⟨.ref s.heap.objs.size,_,I.laid (a:=s.heap.objs.size) (o:=DxO Pm s.heap.objs.size []) (t':=s.toks) (fun _ _ q=>lZ _ q) (lS _) (dx_ok ⟨mN _,oN.mpr (mj (me (Inv.big I))),X.prog,X.w,[],hw,.nil,_,#[],0,mD _ rfl,⟨rfl,rfl,rfl⟩,rfl,rfl,List.nodup_nil⟩),rfl,h _ (I.hok.fresh (lS _))⟩
end
open Classical in
theorem qS:∀{l₁ l₂:List Tr},l₁.Nodup->(∀x∈l₁,x∈l₂)->l₁.length<=l₂.length
 |[],_,_,_=>by simp
 |x::r,l₂,nd,h=>by
  obtain⟨h1,h2⟩:=oz.mp nd;have hx:=h x (by simp);have:=qS (l₂:=l₂.erase x) h2 fun y hy=>(List.mem_erase_of_ne (fun e=>h1 (by rw[<- e];exact hy))).mpr (h y (mi _ hy));rw[List.length_erase_of_mem hx] at this;have:=sq hx;rw[mJ];omega
theorem YW:∀{ks:List Tr}{s:Tr},s∈Z9 ks↔∃k∈ks,s∈post k
 |[],s=>by rw[Z9];simp
 |t::r,s=>by rw[Z9,ml,YW];simp
def Cov(S:Tr->Prop)(x:Tr)(n:Nat):Prop:=∃N:List Tr,N.length<=n/\∀y∈post x,y∈N\/S y
theorem cov_of{S:Tr->Prop}{x:Tr}(h:∀y∈post x,S y):Cov S x 0:=⟨[],lS _,fun y hy=>.inr (h y hy)⟩
theorem Cov.le{S:Tr->Prop}{x:Tr}{n m:Nat}(h:Cov S x n)(hm:n<=m):Cov S x m:=let ⟨N,h1,h2⟩:=h; ⟨N,mC h1 hm,h2⟩
theorem WW{S:Tr->Prop}{c:Lb}{a:Tr}{n:Nat}(h:Cov S a n):Cov S (.node c [a]) (n+1):=by
 obtain⟨N,h1,h2⟩:=h;refine⟨.node c [a]::N,by simp;omega,fun y hy=>?_⟩;rw[post,ml,YW] at hy;rcases hy with⟨k,hk,hy⟩|hy
 ·rw[mr.mp hk] at hy;rcases h2 y hy with h|h
  ·exact .inl (mi _ h)
  ·exact .inr h
 ·rw[mr.mp hy];exact .inl (by simp)
theorem qk{S:Tr->Prop}{c:Lb}{a b:Tr}{n m:Nat}(h:Cov S a n)(g:Cov S b m):Cov S (.node c [a,b]) (n+m+1):=by
 obtain⟨N,h1,h2⟩:=h;obtain⟨M,g1,g2⟩:=g;refine⟨.node c [a,b]::(N++M),by simp;omega,fun y hy=>?_⟩;rw[post,ml,YW] at hy;rcases hy with⟨k,hk,hy⟩|hy
 ·simp only[mw,oI,oJ] at hk;rcases hk with rfl|rfl
  ·rcases h2 y hy with h|h
   ·exact .inl (mi _ (mX _ h))
   ·exact .inr h
  ·rcases g2 y hy with h|h
   ·exact .inl (mi _ (mP _ h))
   ·exact .inr h
 ·rw[mr.mp hy];exact .inl (by simp)
theorem cov_core{c:Lb}{cs:List Tr}(ok:XV c cs.length)(hc:∀z,c≠.sign z):Cov (fun y=>y=Ye\/∃k∈cs,y∈post k) (Y0 c cs) 36:=by
 generalize hS:(fun y=>y=Ye\/∃k∈cs,y∈post k)=S;have y0:Cov S Ye 0:=cov_of fun y hy=>by
  rw[post,Z9,nM] at hy;rw[<- hS];exact .inl (mr.mp hy)
 have k0:∀k∈cs,Cov S k 0:=fun k hk=>cov_of fun y hy=>by rw[<- hS];exact .inr ⟨k,hk,hy⟩
 have g:∀i,Cov S (cs.getD i Ye) 0:=fun i=>Wj (P:=fun k=>Cov S k 0) k0 y0;have ha:∀ds:List Tr,(∀k∈ds,Cov S k 0)->Cov S (W7 ds) ds.length:=by
  intro ds
  induction ds with
  |nil=>intro _;exact y0
  |cons x r ih=>
   intro h;cases r with
   |nil=>exact(h x (by simp)).le (mN _)
   |cons z r=>
    have i2:=ih fun k hk=>h k (mi _ hk);exact(qk (h x (by simp)) i2).le (by simp)
 have ho:∀ds:List Tr,(∀k∈ds,Cov S k 0)->Cov S (orT ds) (4*ds.length+1):=by
  intro ds
  induction ds with
  |nil=>intro _;exact WW y0
  |cons x r ih=>
   intro h;cases r with
   |nil=>exact(h x (by simp)).le (mN _)
   |cons z r=>
    have i2:=ih fun k hk=>h k (mi _ hk);exact(WW (qk (WW (h x (by simp))) (WW i2))).le (by simp;omega)
 have hw:∀n f s,Cov S f 0->Cov S s 0->Cov S (Yj n f s) (6*n):=by
  intro n f s hf hs
  induction n with
  |zero=>exact hs
  |succ n ih=>exact(WW (qk (WW hs) (WW (qk hf (WW ih))))).le (by omega)
 cases c with
 |yes=>exact y0.le (mN _)
 |sign z=>exact absurd rfl (hc z)
 |many w=>
  show Cov S (if w = "and" then W7 cs else orT cs) 36
  have h8:cs.length<=8:=ok.2
  split
  ·exact(ha cs k0).le (by omega)
  ·exact(ho cs k0).le (by omega)
 |wit k=>
  have h5:k.toNat<=5:=by have:=ok.1;omega
  exact(hw k.toNat _ _ (g 0) (g 1)).le (by omega)
 |op w=>
  have hself:Cov S (.node (.op w) cs) 36:=by
   have hl:cs.length=1\/cs.length=2:=by rcases ok with o|o;exact .inl o.2;exact .inr o.2
   match cs,hl,k0 with
   |[a],_,h=>exact(WW (h a (by simp))).le (by decide)
   |[a,b],_,h=>exact(qk (h a (by simp)) (h b (by simp))).le (by decide)
  unfold Y0;dsimp only
  split
  ·exact(WW (WW (WW (g 0)))).le (by decide)
  split
  ·exact(qk y0 (g 0)).le (by decide)
  split
  ·exact(WW (qk y0 (WW (g 0)))).le (by decide)
  split
  ·exact(qk y0 (g 0)).le (by decide)
  split
  ·exact(WW (qk y0 (WW (g 0)))).le (by decide)
  ·exact hself
def wgt:Tr->Nat:=YS fun c ws=>match c with
 |.yes=>1
 |.sign _=>1
 |_=>ws.sum+36
theorem wgt_eq(t:Tr):wgt t=match t.lb with|.yes=>1|.sign _=>1|_=>(t.ks.map wgt).sum+36:=W5 _ t
theorem ji{c:Lb}{ks:List Tr}(h:c≠.yes)(hs:∀z,c≠.sign z):wgt (.node c ks)=(ks.map wgt).sum+36:=by
 rw[wgt_eq]
 show(match c with|.yes=>1|.sign _=>1|_=>(ks.map wgt).sum+36)=_
 cases c with
 |yes=>exact absurd rfl h
 |sign z=>exact absurd rfl (hs z)
 |op w=>rfl
 |wit m=>rfl
 |many w=>rfl
theorem cov_all:∀{n:Nat}{t:Tr},OkN n t->∃C:List Tr,C.length<=wgt t/\∀y∈post (Yx t),y∈C\/y=Ye
 |0,_,h=>h.elim
 |n+1,t,⟨ok,hk⟩=>by
  obtain⟨c,ks⟩:=t;have ok':XV c ks.length:=ok
  by_cases hy:c=.yes
  ·subst hy;refine⟨[],mN _,fun y h=>.inr ?_⟩;rw[VE] at h;have h':y∈post Ye:=h;rw[post,Z9,nM] at h';exact mr.mp h'
  ·by_cases hs:∃z,c=.sign z
   ·obtain⟨z,rfl⟩:=hs;refine⟨[.node (.sign z) []],lS _,fun y h=>.inl ?_⟩;rw[VE] at h;have h':y∈post (.node (.sign z) []):=h;rw[post,Z9,nM] at h';exact h'
   ·have hs':∀z,c≠.sign z:=fun z e=>hs ⟨z,e⟩;have kids:∀(js:List Tr),(∀k∈js,OkN n k)->∃C:List Tr,C.length<=(js.map wgt).sum/\∀k∈js,∀y∈post (Yx k),y∈C\/y=Ye:=by
     intro js
     induction js with
     |nil=>intro _;exact⟨[],lS _,fun k h=>by cases h⟩
     |cons a r ih=>
      intro h;obtain⟨C1,l1,q1⟩:=cov_all (h a (by simp));obtain⟨C2,l2,q2⟩:=ih fun k hk=>h k (mi _ hk);refine⟨C1++C2,by rw[lW,lX,nN];omega,fun k hk y hy=>?_⟩;rcases mw.mp hk with rfl|hk
      ·rcases q1 y hy with h|h
       ·exact .inl (mX _ h)
       ·exact .inr h
      ·rcases q2 k hk y hy with h|h
       ·exact .inl (mP _ h)
       ·exact .inr h
    obtain⟨C,lC,qC⟩:=kids ks hk;obtain⟨N,lN,qN⟩:=cov_core (c:=c) (cs:=ks.map Yx) (by rw[lQ];exact ok') hs';refine⟨N++C,by rw[ji hy hs',lW];omega,fun y h=>?_⟩;rw[VE] at h;rcases qN y h with h|h|⟨k',hk',h⟩
    ·exact .inl (mX _ h)
    ·exact .inr h
    ·obtain⟨k,hk2,rfl⟩:=mE.mp hk';rcases qC k hk2 y h with h|h
     ·exact .inl (mP _ h)
     ·exact .inr h
theorem parts_few{n:Nat}{t:Tr}(h:OkN n t):(Zw [] (post (Yx t))).length<=wgt t+1:=by
 obtain⟨C,l,q⟩:=cov_all h;have:=qS (l₂:=Ye::C) (Wk (L:=post (Yx t)) (A:=[]) (by simp)) fun x hx=>by
  rcases Z7.mp hx with hx|hx
  ·cases hx
  ·rcases q x hx with h|h
   ·exact mi _ h
   ·rw[h];simp
 rw[mJ] at this;omega
theorem yz:∀(n:Nat) {t x y:Tr},psz t<=n->x∈post t->y∈post x->y∈post t
 |0,t,x,y,h,_,_=>by have:=WI t;omega
 |n+1,t,x,y,h,hx,hy=>by
  rw[W4,ml,YW] at hx;rcases hx with⟨k,hk,hx⟩|hx
  ·rw[W4,ml,YW];exact .inl ⟨k,hk,yz n (by have:=XT hk;omega) hx hy⟩
  ·rw[mr.mp hx] at hy;exact hy
theorem VH:∀(n:Nat) {t x:Tr},psz t<=n->x∈ZE t->x∈post t
 |0,t,x,h,_=>by have:=WI t;omega
 |n+1,t,x,h,hx=>by
  rcases Up hx with rfl|⟨k,hk,hxk⟩
  ·exact xl _
  ·rw[W4,ml,YW];exact .inl ⟨k,Xw hk,VH n (by have:=XT (Xw hk);omega) hxk⟩
theorem VW(t:Tr):(Zw [] (ZE t)).length<=(Zw [] (post t)).length:=by
 refine qS (Wk (by simp)) fun y hy=>?_;rcases Z7.mp hy with hy|hy
 ·cases hy
 ·exact Z7.mpr (.inr (VH _ (lS _) hy))
def Vq:Nat->List (List Key×Addr)->XE
 |_,[]=>[]
 |n,e::r=>(e.1,e.2,.int (n:Int))::Vq (n+1) r
theorem j9:∀(n:Nat) (l:List (List Key×Addr)),(Vq n l).length=l.length
 |_,[]=>rfl
 |n,k::r=>by rw[Vq,mJ,j9,mJ]
theorem vF:∀(n:Nat) (l:List (List Key×Addr)) (e:List Key×Addr),Vq n (l++[e])=Vq n l++[(e.1,e.2,.int ((n+l.length:Nat):Int))]
 |n,[],e=>rfl
 |n,a::r,e=>by rw[pP,Vq,vF (n+1) r e,Vq,mJ,pP,show n+1+r.length=n+(r.length+1) by omega]
theorem numX_R:∀(n:Nat) (l:List (List Key×Addr)),(Vq n l).map (fun e=>(e.1,e.2.2))=numR n (l.map (·.1))
 |_,[]=>rfl
 |n,e::r=>by rw[Vq,lX,numX_R,lX,numR]
theorem ju(rows:List (List Key×Addr))(k:List Key):valX (Vq 0 rows) k=Xo (numR 0 (rows.map (·.1))) k:=by unfold valX;rw[numX_R]
theorem xi:∀{n:Nat}{l:List (List Key×Addr)}{e:List Key×Addr×V},e∈Vq n l->(e.1,e.2.1)∈l
 |_,[],e,h=>by cases h
 |n,a::r,e,h=>by
  rw[Vq] at h;rcases mw.mp h with rfl|h
  ·simp
  ·exact mi _ (xi h)
structure TbK(K:W.Frag)(Pm:Params)(C:Addr)(H:Hp)(r P R D:Addr)(ps:List Tr):Prop where
 obj:∃dx,H r=some (.ins C dx [("parts",.ref P),("rows",.ref R),("numbers",.ref D)])
 pl:∃n pv,H P=some (.lst pv)/\AtL K n H pv ps
 rl:∃rows:List (List Key×Addr),H R=some (.lst (rows.map fun e=>.ref e.2))/\rows.length=ps.length/\(∀e∈rows,SqT K H e.2 (e.1.map kV))/\(∀(i:Nat) t e,ps[i]?=some t->rows[i]?=some e->Uc ps t e.1)/\H D=some (DxO Pm D (Vq 0 rows))
 nd:ps.Nodup
 pr:P≠R
theorem Vt.t{P R D:Addr}{H H':Hp}{pv rv:List V}{Pm:Params}{es:XE}(s:Vt P R D H H')(h1:H P=some (.lst pv))(h2:H R=some (.lst rv))(h3:H D=some (DxO Pm D es)):YL H H':=fun K b xs h=>by
 have n:∀{o:HO},H b=some o->(∀ys,o≠.lst ys)->(∀φ,o≠.ext φ)->H' b=some o:=fun e q1 q2=>s _ _ (fun z=>by rw[z,h1] at e;cases e;exact q1 _ rfl) (fun z=>by rw[z,h2] at e;cases e;exact q1 _ rfl) (fun z=>by rw[z,h3] at e;cases e;exact q2 _ rfl) e;rcases h with(h|⟨o,h⟩)|h
 ·exact .inl (.inl (n h (fun _ z=>by cases z) (fun _ z=>by cases z)))
 ·exact .inl (.inr ⟨o,n h (fun _ z=>by cases z) (fun _ z=>by cases z)⟩)
 ·exact .inr h
variable{K:W.Frag}{Pm:Params}
theorem TbK.t{C:Addr}{H H':Hp}{r P R D:Addr}{ps:List Tr}(h:TbK K Pm C H r P R D ps)(s:Vt P R D H H'):YL H H':=by
 obtain⟨n,pv,h1,_⟩:=h.pl;obtain⟨rows,h2,_,_,_,h3⟩:=h.rl;exact s.t h1 h2 h3
theorem TbK.mono{C:Addr}{H H':Hp}{r P R D:Addr}{ps:List Tr}(s:Zh H H')(h:TbK K Pm C H r P R D ps):TbK K Pm C H' r P R D ps:=by
 obtain⟨⟨dx,h0⟩,⟨n,pv,h1,h2⟩,⟨rows,g1,g2,g3,g4,g5⟩,nd,pr⟩:=h;exact⟨⟨dx,s _ _ h0⟩,⟨n,pv,s _ _ h1,h2.mono (Zh.tup s)⟩,⟨rows,s _ _ g1,g2,fun e he=>Zh.tup s _ _ _ (g3 e he),g4,s _ _ g5⟩,nd,pr⟩
theorem TbK.monoX{C:Addr}{H H':Hp}{r P R D F:Addr}{ps:List Tr}{xs:List V}(s:Zq F H H')(hF:H F=some (.lst xs))(n1:P≠F)(n2:R≠F)(h:TbK K Pm C H r P R D ps):TbK K Pm C H' r P R D ps:=by
 obtain⟨⟨dx,h0⟩,⟨n,pv,h1,h2⟩,⟨rows,g1,g2,g3,g4,g5⟩,nd,pr⟩:=h;have u:YL H H':=Zq.tup s hF;exact⟨⟨dx,s _ _ (Vw h0 hF (by intro z;cases z)) h0⟩,⟨n,pv,s _ _ n1 h1,h2.mono u⟩,⟨rows,s _ _ n2 g1,g2,fun e he=>u _ _ _ (g3 e he),g4,s _ _ (Vw g5 hF (by intro z;cases z)) g5⟩,nd,pr⟩
theorem AtL.oks{n:Nat}{H:Hp}{vs:List V}{ts:List Tr}(h:AtL K n H vs ts):∀t∈ts,XV t.lb t.ks.length:=fun t ht=>by
 obtain⟨i,hi,e⟩:=m7 ht;have hv:i<vs.length:=by rw[h.1];exact hi
 have:=h.2 i _ t (lU hv) (by rw[<- e];exact lU hi);cases n with
 |zero=>exact this.elim
 |succ n=>obtain⟨_,_,_,_,ok,_⟩:=this;exact ok
section
variable{X:Cx}
end
structure DicF(K:W.Frag)(P:Params)(D:Addr)(kvs:List (Str×Addr)):Prop where
 ex:∃(es:Array DictEntry) (n:Nat),K.lookup D=some ⟨.type "dict",none,.dict es n,#[]⟩/\W.KeysLit P es.toList
 at_:∀p∈kvs,W.nsIn K D p.1=some (some (.ref p.2))
 lo:(D==sysModules)=false
inductive rIxF_R(K:W.Frag)(P:Params)(x:V)(y:V)(H:Hp)(Q:VK):Prop
 |mk (D:Addr) (z:Str) (kvs:List (Str×Addr)) (f:Addr) (h0:x=.ref D) (h1:y=.str z) (h2:DicF K P D kvs) (h3:(z,f)∈kvs) (h4:Q (.ref f) H):rIxF_R K P x y H Q
def rIxF(K:W.Frag)(P:Params):R2:=fun x y H Q=>rIxF_R K P x y H Q
section
variable{X:Cx}{K:W.Frag}{P:Params}
theorem ix_dicF(hK:X.K=K)(hw:X.w.params=P):IxR X (rIxF K P):=by
 subst hK hw;intro value slice lL s σ H x y v u Q I rx ry h hs;obtain⟨D,z,kvs,f,rfl,rfl,d,hm,q⟩:=h;obtain⟨t,rfl⟩:=(show ∃t,u=Value.str z t from ry);obtain rfl:v=Value.ref D:=rx;obtain⟨m,F⟩:=I.fr;obtain⟨es,n,lk,hk⟩:=d.ex;exact W.topItem_K F I.mod.kin lk hk (d.at_ _ hm) ⟨.ref f,H,I.tok _,rfl,q⟩ hs
def FamOk(X:Cx)(Fam:Addr->Sp->Prop):Prop:=∀f sp,Fam f sp->∃fd ps k,Z2 X.prog X.w X.K X.mg X.base CX0 k f fd ps sp/\Xz k X.A/\W.keepIn X.K (.ref f)=true/\ZK X.K fd ps []
inductive CallVR(Fam:Addr->Sp->Prop)(i:Nat)(σ:L2.St)(H:Hp)(B:Sp->Prop):Prop
 |mk (f:Addr) (sp:Sp) (h0:σ[i]?=some (some (.ref f))) (h1:Fam f sp) (h2:B sp):CallVR Fam i σ H B
def tCallV(Fam:Addr->Sp->Prop)(i:Nat)(t:TA):TE:=fun σ H Q=>CallVR Fam i σ H fun sp=>t σ H fun vs H1=>sp vs H1 Q E0
theorem pe_callV{Fam:Addr->Sp->Prop}{i:Nat}{x:Str}{p pos:Pos}{e:Expr}{es:List Expr}{t:TA}(F:FamOk X Fam)(hx:VV CX0 X E0)(hv:PE X (.Name x p) (tVar i))(ha:PA X (e::es) t)
  (he:starEach (e::es) X.env=(false,eval e X.env)::starEach es X.env:=by rfl) (hpl:(backTo pos (starEach es X.env)).any (·.1)=false:=by rfl) :
  PE X (.Call (.Name x p) (e::es) [] pos) (tCallV Fam i t):=by
 intro lL s σ H Q I h;obtain⟨f,sp,ei,fm,h⟩:=h;obtain⟨fd,ps,k,Fo,hr,hk,hb⟩:=F f sp fm;refine ox (thn (hv lL s σ H (fun v H1=>v=.ref f/\H1=H) I ⟨_,ei,rfl,rfl⟩) fun u s1 ⟨v,H1,I1,r,q1,q2⟩=>?_);subst q1;subst q2;obtain rfl:u=Value.ref f:=r;refine rE (h₀:=X.base) I1.ok.mod.kin hk (thn (ha pos lL s1 σ H1 _ I1 h) fun us s2 ⟨vs,H2,I2,r2,q⟩=>⟨I2.kIn,?_⟩) he hpl;exact vJ Fo hr hb .nil hx I2 r2 (by rw[nW];exact q)
end
end L3
namespace L3
structure ZM(p:Nat)(L:List Bool)(f:Nat->Bool):Prop where
 p1:1<=p
 le:p<=L.length
 at_:∀k,(h:k<L.length)->L[k]=f k
 more:∀k,L.length<=k->f k=f (k-p)
theorem ZM.get{p:Nat}{L:List Bool}{f:Nat->Bool}(t:ZM p L f){k:Nat}(h:k<L.length):L[k]?=some (f k):=by rw[lU h,t.at_ k h]
theorem ZM.cut{p:Nat}{L:List Bool}{f:Nat->Bool}{e:Nat}(t:ZM p (L.take (e+1)) f)(he:e<L.length)(hp:p<=e)(h:L[e]=L[e-p]'(by omega)):ZM p (L.take e) f:=by
 have p1:=t.p1;have l1:(L.take (e+1)).length=e+1:=by rw[mf];omega
 have l0:(L.take e).length=e:=by rw[mf];omega
 have at1:∀k,(hk:k<e+1)->L[k]'(by omega)=f k:=fun k hk=>by
  have:=t.at_ k (by omega);rw[pS] at this;exact this
 refine⟨t.p1,by omega,fun k hk=>?_,fun k hk=>?_⟩
 ·rw[pS];exact at1 k (by omega)
 ·rw[l0] at hk
  by_cases c:k=e
  ·subst c;rw[<- at1 k (by omega),<- at1 (k-p) (by omega)];exact h
  ·exact t.more k (by omega)
theorem ZM.grow{p:Nat}{L:List Bool}{f:Nat->Bool}(t:ZM p L f){b:Bool}(h:L[L.length-p]?=some b):ZM p (L++[b]) f:=by
 have p1:=t.p1;have le:=t.le;have eb:b=f L.length:=by
  rw[t.more L.length (lS _)];have hl:L.length-p<L.length:=by omega
  rw[lU hl] at h;rw[<- t.at_ _ hl];exact(mv h).symm
 refine⟨p1,by rw[lW];omega,fun k hk=>?_,fun k hk=>t.more k (by rw[lW] at hk;omega)⟩;rw[lW,ng] at hk
 by_cases c:k<L.length
 ·rw[List.getElem_append_left c];exact t.at_ k c
 ·have:k=L.length:=by omega
  subst this;rw[List.getElem_append_right (lS _)];simpa using eb
theorem ZM.of{p m:Nat}{L:List Bool}{f:Nat->Bool}(p1:1<=p)(hl:L.length=m)(le:p<=m)(at_:∀k,k<m->L[k]?=some (f k))(more:∀k,m<=k->f k=f (k-p)):ZM p L f:=by
 subst hl;exact⟨p1,le,fun k h=>by have:=at_ k h;rw[lU h] at this;exact mv this,more⟩
theorem ZM.not{p:Nat}{L:List Bool}{f:Nat->Bool}(t:ZM p L f):ZM p (L.map Bool.not) (fun k=>!f k):=
 .of t.p1 (lQ _) t.le (fun k h=>by rw[mh,t.get h];rfl) (fun k h=>by rw[t.more k h])
theorem ZM.next{p:Nat}{L:List Bool}{f:Nat->Bool}{n:Nat}(t:ZM p L f)(hn:L.length=n+1)(hp:p<=n)(hm:∀k,n<=k->f k=f (k-p)):ZM p (L.drop 1) (fun k=>f (k+1)):=by
 refine .of t.p1 (m:=n) (by rw[mL];omega) hp (fun k h=>?_) (fun k h=>?_)
 ·rw[re,Nat.add_comm,t.get (by omega)]
 ·have:=t.p1
  show f (k+1)=f (k-p+1)
  rw[hm (k+1) (by omega)]
  congr 1
  omega
def befB(f:Nat->Bool):Nat->Bool
 |0=>false
 |k+1=>f k
theorem ZM.before{p:Nat}{L:List Bool}{f:Nat->Bool}(t:ZM p L f):ZM p (false::L) (befB f):=by
 refine .of t.p1 (m:=L.length+1) rfl (by have:=t.le;omega) (fun k h=>?_) (fun k h=>?_)
 ·cases k with
  |zero=>rfl
  |succ n=>rw[List.getElem?_cons_succ,t.get (by omega)];rfl
 ·have:=t.p1;have:=t.le;cases k with
  |zero=>omega
  |succ n=>
   have e:n+1-p=(n-p)+1:=by omega
   rw[e];exact t.more n (by omega)
def WM(f s:Nat->Bool):Nat->Bool
 |0=>s 0
 |k+1=>s (k+1)||(f (k+1)&&WM f s k)
theorem qY{f s:Nat->Bool}{m:Nat}:∀q,∃a b:Bool,(∀c,(∀j,j<q->s (m+j+1)=s (c+j+1)/\f (m+j+1)=f (c+j+1))->WM f s (c+q)=(a||(b&&WM f s c)))
 |0=>⟨false,true,fun c _=>by simp⟩
 |q+1=>by
  obtain⟨a,b,h⟩:=qY (f:=f) (s:=s) (m:=m) q;refine⟨s (m+q+1)||(f (m+q+1)&&a),f (m+q+1)&&b,fun c hc=>?_⟩;have h1:=h c fun j hj=>hc j (by omega);obtain⟨e1,e2⟩:=hc q (by omega)
  show(s (c+q+1)||(f (c+q+1)&&WM f s (c+q)))=_
  rw[h1,<- e1,<- e2];cases s (m+q+1)<;>cases f (m+q+1)<;>cases a<;>cases b<;>cases WM f s c<;>rfl
theorem sin_comes{f s:Nat->Bool}{p m:Nat}(p1:1<=p)(hp:p<=m)(hf:∀k,m<=k->f k=f (k-p))(hs:∀k,m<=k->s k=s (k-p)):∀k,m+p<=k+1->WM f s k=WM f s (k-p):=by
 have base:WM f s (m+p-1)=WM f s (m-1):=by
  by_cases c:m=p
  ·-- the ring begins at once
   obtain⟨q,rfl⟩:∃q,p=q+1:=⟨p-1,by omega⟩;subst c;obtain⟨a,b,h⟩:=qY (f:=f) (s:=s) (m:=0) q;have h0:=h 0 fun j hj=>⟨rfl,rfl⟩;have h1:=h (q+1) fun j hj=>⟨by rw[hs (q+1+j+1) (by omega)];congr 1;omega,by rw[hf (q+1+j+1) (by omega)];congr 1;omega⟩;have z:WM f s (q+1)=(s 0||(f 0&&WM f s q)):=by
    show(s (q+1)||(f (q+1)&&WM f s q))=_
    rw[hs (q+1) (by omega),hf (q+1) (by omega)];simp
   have z0:WM f s 0=s 0:=rfl;have e1:q+1+(q+1)-1=q+1+q:=by omega
   have e2:q+1-1=0+q:=by omega
   rw[e1,e2,h1,h0,z,z0];have h0':WM f s q=(a||(b&&s 0)):=by have hh:=h0;rw[oK,z0] at hh;exact hh
   rw[h0'];cases a<;>cases b<;>cases s 0<;>cases f 0<;>rfl
  ·obtain⟨n,rfl⟩:∃n,m=p+(n+1):=⟨m-p-1,by omega⟩;obtain⟨a,b,h⟩:=qY (f:=f) (s:=s) (m:=n) p;have h0:=h n fun j hj=>⟨rfl,rfl⟩;have h1:=h (n+p) fun j hj=>⟨by rw[hs (n+p+j+1) (by omega)];congr 1;omega,by rw[hf (n+p+j+1) (by omega)];congr 1;omega⟩;have e1:p+(n+1)+p-1=n+p+p:=by omega
   have e2:p+(n+1)-1=n+p:=by omega
   rw[e1,e2,h1,h0];cases a<;>cases b<;>cases WM f s n<;>rfl
 intro k hk
 induction k with
 |zero=>
  have:m=1/\p=0\/m=0/\p=1\/m=0/\p=0:=by omega
  omega
 |succ n ih=>
  by_cases c:n+1=m+p-1
  ·rw[c,base];congr 1;omega
  ·have h1:=ih (by omega);have e:n+1-p=(n-p)+1:=by omega
   rw[e]
   show(s (n+1)||(f (n+1)&&WM f s n))=(s (n-p+1)||(f (n-p+1)&&WM f s (n-p)))
   rw[h1,hs (n+1) (by omega),hf (n+1) (by omega),e]
open Classical in
noncomputable def WS(f s:Nat->Bool)(k:Nat):Bool:=decide (∃j,s (k+j)=true/\∀i,i<j->f (k+i)=true)
open Classical in
theorem Je(f s:Nat->Bool)(k:Nat):WS f s k=(s k||(f k&&WS f s (k+1))):=by
 unfold WS;rw[oQ,pN];rw[pZ,mR,pN];constructor
 ·rintro⟨j,h1,h2⟩;cases j with
  |zero=>exact .inl h1
  |succ n=>
   refine .inr ⟨h2 0 (by omega),n,?_,fun i hi=>?_⟩
   ·have:k+1+n=k+(n+1):=by omega
    rw[this];exact h1
   ·have:=h2 (i+1) (by omega);have e:k+1+i=k+(i+1):=by omega
    rw[e];exact this
 ·rintro(h|⟨h0,j,h1,h2⟩)
  ·exact⟨0,h,fun i hi=>by omega⟩
  ·refine⟨j+1,?_,fun i hi=>?_⟩
   ·have:k+(j+1)=k+1+j:=by omega
    rw[this];exact h1
   ·cases i with
    |zero=>exact h0
    |succ n=>
     have e:k+(n+1)=k+1+n:=by omega
     rw[e];exact h2 n (by omega)
theorem qQ{f s g t:Nat->Bool}{k l:Nat}(hf:∀i,f (k+i)=g (l+i))(hs:∀i,s (k+i)=t (l+i)):WS f s k=WS g t l:=by
 have h:(∃j,s (k+j)=true/\∀i,i<j->f (k+i)=true)↔(∃j,t (l+j)=true/\∀i,i<j->g (l+i)=true):=
  ⟨fun⟨j,h1,h2⟩=>⟨j,hs j▸h1,fun i hi=>hf i▸h2 i hi⟩,fun⟨j,h1,h2⟩=>⟨j,(hs j).symm▸h1,fun i hi=>(hf i).symm▸h2 i hi⟩⟩
 unfold WS;exact pM.mpr h
def UP(f s:Nat->Bool)(h:Bool)(k:Nat):Nat->Bool
 |0=>h
 |q+1=>s k||(f k&&UP f s h (k+1) q)
theorem back_unt(f s:Nat->Bool):∀q k,UP f s (WS f s (k+q)) k q=WS f s k
 |0,k=>rfl
 |q+1,k=>by
  show(s k||(f k&&UP f s (WS f s (k+(q+1))) (k+1) q))=_
  have:k+(q+1)=k+1+q:=by omega
  rw[this,back_unt f s q (k+1),<- Je]
theorem yb{f s:Nat->Bool}:∀q k,UP f s false k q=true↔∃j,j<q/\s (k+j)=true/\∀i,i<j->f (k+i)=true
 |0,k=>⟨fun h=>(mI h).elim,fun⟨j,hj,_⟩=>by omega⟩
 |q+1,k=>by
  show(s k||(f k&&UP f s false (k+1) q))=true↔_
  rw[pZ,mR,yb q (k+1)];constructor
  ·rintro(h|⟨h0,j,hj,h1,h2⟩)
   ·exact⟨0,by omega,h,fun i hi=>by omega⟩
   ·refine⟨j+1,by omega,?_,fun i hi=>?_⟩
    ·have:k+(j+1)=k+1+j:=by omega
     rw[this];exact h1
    ·cases i with
     |zero=>exact h0
     |succ n=>
      have e:k+(n+1)=k+1+n:=by omega
      rw[e];exact h2 n (by omega)
  ·rintro⟨j,hj,h1,h2⟩;cases j with
   |zero=>exact .inl h1
   |succ n=>
    refine .inr ⟨h2 0 (by omega),n,by omega,?_,fun i hi=>?_⟩
    ·have:k+1+n=k+(n+1):=by omega
     rw[this];exact h1
    ·have:=h2 (i+1) (by omega);have e:k+1+i=k+(i+1):=by omega
     rw[e];exact this
open Classical in
theorem unt_round{f s:Nat->Bool}{p m:Nat}(p1:1<=p)(hp:p<=m)(hf:∀k,m<=k->f k=f (k-p))(hs:∀k,m<=k->s k=s (k-p)):UP f s false (m-p) p=WS f s m:=by
 rw[oQ,yb];have sh:WS f s m=WS f s (m-p):=qQ (fun i=>by rw[hf (m+i) (by omega)];congr 1;omega) (fun i=>by rw[hs (m+i) (by omega)];congr 1;omega);rw[sh];unfold WS;rw[pN];constructor
 ·rintro⟨j,_,h1,h2⟩;exact⟨j,h1,h2⟩
 ·rintro⟨j,h1,h2⟩;have:∃j,(s (m-p+j)=true/\∀i,i<j->f (m-p+i)=true)/\j<p:=by
   induction j using Nat.strongRecOn with
   |_ j ih=>
    by_cases c:j<p
    ·exact⟨j,⟨h1,h2⟩,c⟩
    ·refine ih (j-p) (by omega) ?_ fun i hi=>h2 i (by omega);rw[hs (m-p+j) (by omega)] at h1;have e:m-p+j-p=m-p+(j-p):=by omega
     rw[e] at h1;exact h1
  obtain⟨j,⟨h1,h2⟩,hj⟩:=this;exact⟨j,hj,h1,h2⟩
theorem unt_comes{f s:Nat->Bool}{p m:Nat}(hp:p<=m)(hf:∀k,m<=k->f k=f (k-p))(hs:∀k,m<=k->s k=s (k-p)):∀k,m<=k->WS f s k=WS f s (k-p):=fun k hk=>
 qQ (fun i=>by rw[hf (k+i) (by omega)];congr 1;omega) (fun i=>by rw[hs (k+i) (by omega)];congr 1;omega)
end L3
namespace L3
open PySem PySem.Spec PyProof.Rows
def qc(prog:Program)(w:World)(A:Around)(k:SortKind)(s:Shared)(xs:Array Keyed):Prop:=
 ∀p∈xs.toList,∀q∈xs.toList,∀(E:Value->Shared->Prop) (Q:Bool->Shared->Prop),(∀b,Q b s)->wpAny (model prog w) A (keyLt' k p.1 q.1) Q E s
structure Xm(k:SortKind)(a₀:Array Keyed)(st:SortSt):Prop where
 perm:(arrOf st).Perm a₀
 kind:kindOf st=k
 failed:failedOf st=none
 pend:pendingOf st=#[]
theorem Xm.size{k:SortKind}{a₀:Array Keyed}{st:SortSt}(h:Xm k a₀ st):(arrOf st).size=a₀.size:=h.perm.size_eq
theorem Xm.set{k:SortKind}{a₀:Array Keyed}{st:SortSt}(h:Xm k a₀ st){xs:Array Keyed}(hp:xs.Perm (arrOf st)):Xm k a₀ (setArr st xs):=
 ⟨hp.trans h.perm,h.kind,h.failed,h.pend⟩
section
variable{prog:Program}{w:World}{A:Around}{E:Value->Shared->Prop}{s:Shared}{a₀:Array Keyed}{k:SortKind}
theorem qm{st:SortSt}{i j:Nat}{Q:Option Bool->SortSt->Prop}(hC:qc prog w A k s a₀)(hB:Xm k a₀ st)(hi:i<a₀.size)(hj:j<a₀.size)(h:∀b,Q (some b) st) :
  wpS (model prog w) A E s (ltAt' i j) Q st:=by
 have at_:∀{i:Nat},i<a₀.size->∃p,(arrOf st)[i]?=some p/\p∈a₀.toList:=fun {i} hi=>by
  have hi':i<(arrOf st).size:=by rw[hB.size];exact hi
  exact⟨(arrOf st)[i],pz _ i hi',(Array.perm_iff_toList_perm.mp hB.perm).mem_iff.mp (by simp)⟩
 obtain⟨p,hp,mp⟩:=at_ hi;obtain⟨q,hq,mq⟩:=at_ hj;rw[ltAt'_eq];refine mG (wpS_get ?_)
 show wpS _ _ _ _ (do let x <- elem' (arrOf st) i;let y <- elem' (arrOf st) j;lt' x y) Q st
 rw[elem'_eq,elem'_eq,hp,hq];refine mG (mV (mG (mV ?_)));rw[lt'_eq];refine mG (wpS_get ?_);rw[hB.kind];refine mG (wpS_lift (pA (hC p mp q mq _ _ fun b=>⟨rfl,?_⟩)));exact mV (h b)
theorem zG{st:SortSt}{n ok:Nat}{Q:Bool->SortSt->Prop}(hC:qc prog w A k s a₀)(hn:n<=a₀.size)(hok:ok<=n)(hB:Xm k a₀ st)
  (h:∀st',Xm k a₀ st'->Q true st'):wpS (model prog w) A E s (binarySort' 0 n ok) Q st:=by
 rw[binarySort'_eq];simp only[oK];refine mG (wpS_mono (wpS_forRange (I:=fun _ c st'=>c=(none,())/\Xm k a₀ st') (Q:=fun c st'=>c=(none,())/\Xm k a₀ st') ?step (fun _ _ z=>z) ⟨rfl,hB⟩) ?post)
 case post=>
  rintro c st' ⟨rfl,hB'⟩;exact mV (h st' hB')
 case step=>
  rintro i c st' hak hkn ⟨rfl,hB'⟩;refine mG (wpS_mono (wpS_forRange (I:=fun x c st''=>st''=st'/\∃l r,c=(none,l,r)/\r<=i) (Q:=fun c st''=>st''=st'/\∃l r,c=(none,l,r)) ?istep ?ifin ⟨rfl,0,i,rfl,lS _⟩) ?ipost)
  case ifin=>
   rintro c st'' ⟨rfl,l,r,rfl,_⟩;exact⟨rfl,l,r,rfl⟩
  case istep=>
   rintro x c st'' _ hxk ⟨rfl,l,r,rfl,hr⟩;dsimp only
   by_cases hge:l≥r
   ·rw[if_pos hge];exact mV ⟨rfl,l,r,rfl⟩
   ·rw[if_neg hge];refine mG (qm hC hB' (by omega) (by omega) fun b=>?_);cases b
    case true=>
     simp only[m9];exact mV ⟨rfl,l,(l+r)/2,rfl,by omega⟩
    case false=>
     simp only[mT,mK];exact mV ⟨rfl,(l+r)/2+1,r,rfl,hr⟩
  case ipost=>
   rintro c st'' ⟨rfl,l,r,rfl⟩
   show wpS _ _ _ _ (do moveDown' i l;pure (ForInStep.yield (none,()))) _ _
   rw[moveDown'_eq];exact mG (wpS_modify (mV ⟨rfl,hB'.set (bubble_perm _ _ _)⟩))
theorem qK{st:SortSt}{a nrem:Nat}{Q:AscSt->SortSt->Prop}(hC:qc prog w A k s a₀)(hn:nrem<=a₀.size)(ha:1<=a)(han:a<=nrem)(hB:Xm k a₀ st)
  (h:∀n,a<=n->n<=nrem->Q (none,n) st):wpS (model prog w) A E s (ascLoop a nrem) Q st:=by
 unfold ascLoop;refine wpS_forRange (I:=fun x c st'=>st'=st/\c=(none,x)) ?step ?fin ⟨rfl,rfl⟩
 case fin=>
  rintro c st' ⟨rfl,rfl⟩;rw[show max a nrem=nrem by omega];exact h nrem han (lS _)
 case step=>
  rintro x c st' hax hxn ⟨rfl,rfl⟩;dsimp only;refine mG (qm hC hB (by omega) (by omega) fun b=>?_);cases b
  case true=>simp only[m9];exact mV (h x hax (by omega))
  case false=>simp only[mT,mK];exact mV ⟨rfl,rfl⟩
theorem yS{st:SortSt}{n nrem:Nat}{Q:Option Nat->SortSt->Prop}(hC:qc prog w A k s a₀)(hn:nrem<=a₀.size)(h1:1<=n)(hnn:n<=nrem)(hB:Xm k a₀ st)
  (h:∀m st',Xm k a₀ st'->1<=m->m<=nrem->Q (some m) st'):wpS (model prog w) A E s (tail3 n nrem) Q st:=by
 unfold tail3;refine mG (wpS_reverse ?_);have hB':Xm k a₀ (setArr st (mirror (arrOf st) 0 n ((n-0)/2))):=hB.set (mirror_perm _ _ _ _);exact mG (qK hC hn h1 hnn hB' fun m hm1 hm2=>mV (h m _ hB' (by omega) hm2))
theorem xq{st:SortSt}{n nrem:Nat}{Q:DescSt->SortSt->Prop}(hC:qc prog w A k s a₀)(hn:nrem<=a₀.size)(h1:1<=n)(hnn:n<=nrem)(hB:Xm k a₀ st)
  (h:∀m neq st',Xm k a₀ st'->n<=m->m<=nrem->Q (none,m,neq) st'):wpS (model prog w) A E s (descLoop n nrem) Q st:=by
 unfold descLoop;refine wpS_forRange (I:=fun x c st'=>∃neq,c=(none,x,neq)/\Xm k a₀ st') ?step ?fin ⟨0,rfl,hB⟩
 case fin=>
  rintro c st' ⟨neq,rfl,hB'⟩;rw[show max n nrem=nrem by omega];exact h nrem neq st' hB' hnn (lS _)
 case step=>
  rintro x c st' hax hxn ⟨neq,rfl,hB'⟩;dsimp only;refine mG (qm hC hB' (by omega) (by omega) fun b=>?_);cases b
  case true=>
   simp only[m9]
   by_cases hneq:neq>0
   ·rw[if_pos hneq];exact mG (wpS_reverse (mV ⟨0,rfl,hB'.set (mirror_perm _ _ _ _)⟩))
   ·rw[if_neg hneq];exact mV ⟨0,rfl,hB'⟩
  case false=>
   simp only[mT,mK];refine mG (qm hC hB' (by omega) (by omega) fun b=>?_);cases b
   case true=>simp only[m9];exact mV (h x neq st' hB' hax (by omega))
   case false=>simp only[mT,mK];exact mV ⟨neq+1,rfl,hB'⟩
theorem UR{st:SortSt}{n nrem:Nat}{Q:Option Nat->SortSt->Prop}(hC:qc prog w A k s a₀)(hn:nrem<=a₀.size)(hnn:n+1<=nrem)(hB:Xm k a₀ st)
  (h:∀m st',Xm k a₀ st'->1<=m->m<=nrem->Q (some m) st'):wpS (model prog w) A E s (descPart n nrem) Q st:=by
 unfold descPart;refine mG (wpS_lift (oE ⟨rfl,?_⟩));refine mG (xq hC hn (by omega) hnn hB fun m neq st' hB' hm1 hm2=>?_);dsimp only
 by_cases hneq:neq>0
 ·rw[if_pos hneq];exact mG (wpS_reverse (yS hC hn (by omega) hm2 (hB'.set (mirror_perm _ _ _ _)) h))
 ·rw[if_neg hneq];exact yS hC hn (by omega) hm2 hB' h
theorem xt{st:SortSt}{nrem:Nat}{Q:Option Nat->SortSt->Prop}(hC:qc prog w A k s a₀)(hn:nrem<=a₀.size)(h1:1<=nrem)(hB:Xm k a₀ st)
  (h:∀m st',Xm k a₀ st'->1<=m->m<=nrem->Q (some m) st'):wpS (model prog w) A E s (countRun' 0 nrem) Q st:=by
 rw[countRun0_eq];refine mG (qK hC hn (lS 1) h1 hB fun n hn1 hn2=>?_);dsimp only
 by_cases hnn:n=nrem
 ·rw[if_pos (by simpa using hnn)];exact mV (h n st hB hn1 hn2)
 ·rw[if_neg (by simpa using hnn)]
  by_cases hgt:n>1
  ·rw[if_pos hgt];refine mG (qm hC hB (by omega) (by omega) fun b=>?_);cases b
   case true=>simp only[m9];exact mV (h n st hB hn1 hn2)
   case false=>
    simp only[mT,mK];exact mG (wpS_reverse (UR hC hn (by omega) (hB.set (mirror_perm _ _ _ _)) h))
  ·rw[if_neg hgt];exact UR hC hn (by omega) hB h
def PDone(a₀:Array Keyed)(st:SortSt):Prop:=(arrOf st).Perm a₀/\failedOf st=none/\pendingOf st=#[(0,a₀.size,0)]
theorem Xm.done{st:SortSt}(hB:Xm k a₀ st):PDone a₀ (setPending st ((pendingOf st).push (0,a₀.size,0))):=
 ⟨hB.perm,hB.failed,by show(pendingOf st).push _=_;rw[hB.pend];rfl⟩
theorem xC{st:SortSt}{Q:Unit->SortSt->Prop}(hC:qc prog w A k s a₀)(hB:Xm k a₀ st)(h2:2<=a₀.size)(h64:a₀.size<64)
  (h:∀st',(arrOf st').Perm a₀->failedOf st'=none->Q () st'):wpS (model prog w) A E s sortRuns' Q st:=by
 rw[sortRuns'_eq];refine mG (wpS_get ?_);dsimp only;have hmr:minRun' a₀.size a₀.size 0=a₀.size:=by
  obtain⟨f,hf⟩:∃f,a₀.size=f+1:=⟨a₀.size-1,by omega⟩;have:minRun' (f+1) a₀.size 0=a₀.size:=by rw[minRun'_succ,if_pos h64];rfl
  rwa [<- hf] at this
 simp only[hB.size,hmr];refine mG (wpS_mono (wpS_forRange
  (I:=fun x c st'=>(x=0/\c=(none,0)/\Xm k a₀ st')\/(1<=x/\c=(none,a₀.size)/\PDone a₀ st'))
  (Q:=fun c st'=>c=(none,a₀.size)/\PDone a₀ st') ?step ?fin (.inl ⟨rfl,rfl,hB⟩)) ?post)
 case fin=>
  rintro c st' (⟨hx,_,_⟩|⟨_,hc,hD⟩)
  ·omega
  ·exact⟨hc,hD⟩
 case step=>
  rintro x c st' _ hx (⟨rfl,rfl,hB'⟩|⟨hx1,rfl,hD⟩)
  ·dsimp only;rw[if_neg (by omega)];simp only[Nat.sub_zero,Nat.min_self,oK];refine mG (xt hC (lS _) (by omega) hB' fun m st2 hB2 hm1 hm2=>?_);dsimp only
   by_cases hlt:m<a₀.size
   ·rw[if_pos hlt];refine mG (wpS_lift (oE ⟨rfl,?_⟩));refine mG (zG hC (lS _) hm2 hB2 fun st3 hB3=>?_);simp only[Bool.not_true,mT,mK];refine mG (wpS_get ?_);have hb:(pendingOf st3).back?=none:=by rw[hB3.pend];rfl
    rw[hb];dsimp only;exact mG (wpS_modify (mV (.inr ⟨by omega,rfl,hB3.done⟩)))
   ·rw[if_neg hlt];have hm:m=a₀.size:=by omega
    subst hm;refine mG (wpS_get ?_);have hb:(pendingOf st2).back?=none:=by rw[hB2.pend];rfl
    rw[hb];dsimp only;exact mG (wpS_modify (mV (.inr ⟨by omega,rfl,hB2.done⟩)))
  ·dsimp only;rw[if_pos (lS _)];exact mV ⟨rfl,hD⟩
 case post=>
  rintro c st' ⟨rfl,hD⟩;dsimp only;refine mG (wpS_mono (wpS_forRange (I:=fun _ c st''=>st''=st'/\c=(none,())) (Q:=fun c st''=>st''=st'/\c=(none,())) ?_ (fun _ _ hh=>hh) ⟨rfl,rfl⟩) ?_)
  ·rintro x c st'' _ _ ⟨rfl,rfl⟩;refine mG (wpS_get ?_);rw[if_pos (by rw[hD.2.2];exact lS 1)];exact mV ⟨rfl,rfl⟩
  ·rintro c st'' ⟨rfl,rfl⟩;exact mV (h _ hD.1 hD.2.1)
def SortOk(prog:Program)(w:World)(A:Around)(vs:List Value)(s:Shared):Prop:=
 2<=vs.length->∀(E:Value->Shared->Prop) (Q:SortKind->Shared->Prop),(∀k,qc prog w A k s (pairsOf vs)->Q k s)->wpAny (model prog w) A (keyKind' vs.toArray) Q E s
theorem zE{a:Addr}{vs:List Value}{n:Nat}{P:Fin->Shared->Prop}(ho:s.heap.get? a=some (seqObj "list" vs.toArray n))
  (hq:∀h',(∀b o,b≠a->s.heap.get? b=some o->h'.get? b=some o)->SortOk prog w A vs { s with heap:=h' }) (h64:vs.length<64)
  (h:∀out:List Value,out.Perm vs->P (.done (.ret .none)) { s with heap:=sortedHeap s.heap a vs out.toArray }) :
  wpAny (model prog w) A (Builtin.«list.sort» ⟨[.ref a],[]⟩) P E s:=by
 rw[list_sort_plain];have ha:a<s.heap.objs.size:=md ho;refine lO (listItems_at ho rfl ?_);refine lO (listUpdate_at ho rfl ?_);obtain⟨e1,ho1⟩:∃e1,(s.heap.update a (Obj.mapSeq fun _=>#[])).get? a=some (seqObj "list" #[] e1):=⟨_,get?_update_seq ho (fun _=>#[])⟩;refine lO (seqEpoch_at ho1 rfl ?_);refine lO (wpAny_newTuple ?_);refine lO (wpAny_newList ?_);refine nj ?_;have ho6:(((s.heap.update a (Obj.mapSeq fun _=>#[])).push (seqObj "tuple" vs.toArray 0)).push (seqObj "list" #[] 0)).get? a=some (seqObj "list" #[] e1):=by
  rw[rP _ _ _ (by rw[size_push',oM];exact me (og ha)),rP _ _ _ (by rw[oM];exact me ha)];exact ho1
 have keep:∀b o,b≠a->s.heap.get? b=some o->(((s.heap.update a (Obj.mapSeq fun _=>#[])).push (seqObj "tuple" vs.toArray 0)).push (seqObj "list" #[] 0)).get? b=some o:=by
  intro b o hb z;have hb':b<s.heap.objs.size:=md z;rw[rP _ _ _ (by rw[size_push',oM];exact me (og hb')),rP _ _ _ (by rw[oM];exact me hb'),nG _ _ (mj hb)];exact z
 have hk:=hq _ keep
 show wpAny (model prog w) A _ P E { s with heap:=((s.heap.update a (Obj.mapSeq fun _=>#[])).push (seqObj "tuple" vs.toArray 0)).push (seqObj "list" #[] 0) }
 dsimp only;have hsz:vs.toArray.size=vs.length:=by simp
 have outs:∀st':SortSt,(arrOf st').Perm (pairsOf vs)->(((arrOf st').map (·.2)).toList).Perm vs:=by
  intro st' hp;have:=(Array.perm_iff_toList_perm.mp hp).map Prod.snd;rw[Array.toList_map];refine this.trans (List.Perm.of_eq ?_)
  show List.map Prod.snd (vs.toArray.zip vs.toArray).toList=vs
  rw[Array.toList_zip,List.map_snd_zip (lS _)]
 have fin:∀st':SortSt,(arrOf st').Perm (pairsOf vs)->P (.done (.ret .none)) { s with heap:=sortedHeap s.heap a vs ((arrOf st').map (·.2)) }:=by
  intro st' hp;have:=h _ (outs st' hp);rw[Array.toArray_toList] at this;exact this
 by_cases h2:vs.toArray.size<2
 ·rw[if_pos h2,if_pos h2];refine lO (lT ?_);rw[StateT.run_pure];refine lO (lT ?_);dsimp only;refine lO (seqEpoch_at ho6 rfl ?_);refine lO (listUpdate_at ho6 rfl ?_ (hsz2:=by rw[Array.size_map];show(pairsOf vs).size<=_;rw[pairsOf_size,lV];omega));simp only[rQ,mT,mK];exact lT (fin (SortSt.mk' general' (vs.toArray.zip vs.toArray) #[] 7 none) (Array.Perm.refl _))
 ·rw[if_neg h2,if_neg h2];refine lO (hk (by omega) _ _ fun k hC=>?_);refine lO (oP (xC (k:=k) (a₀:=pairsOf vs) (st:=SortSt.mk' k (vs.toArray.zip vs.toArray) #[] 7 none)
   (Q:=fun _ st'=>(arrOf st').Perm (pairsOf vs)/\failedOf st'=none)
   hC ⟨Array.Perm.refl _,rfl,rfl,rfl⟩ (by rw[pairsOf_size];omega) (by rw[pairsOf_size];exact h64) fun st' a1 a2=>⟨a1,a2⟩) ?_ fun _ _ e=>e)
  rintro⟨⟨⟩,st'⟩ s' ⟨rfl,hp,hf⟩;dsimp only;refine lO (seqEpoch_at ho6 rfl ?_);refine lO (listUpdate_at ho6 rfl ?_ (hsz2:=by refine mC (Nat.le_of_eq ((Array.size_map ..).trans (hp.size_eq.trans (pairsOf_size _)))) ?_;rw[lV];omega));rw[hf];simp only[rQ,mT,mK];exact lT (fin st' hp)
end
end L3
namespace L3
open PySem PySem.SetTable
section
variable{t:SetTable}{hashAt:Nat->Int}{h:Int}
end
theorem xj:∀{l₁ l₂:List Nat},l₁.Nodup->(∀x∈l₁,x∈l₂)->l₁.length<=l₂.length
 |[],_,_,_=>by simp
 |x::r,l₂,nd,h=>by
  obtain⟨h1,h2⟩:=oz.mp nd;have hx:=h x (by simp);have:=xj (l₂:=l₂.erase x) h2 fun y hy=>(List.mem_erase_of_ne (fun e=>h1 (by rw[<- e];exact hy))).mpr (h y (mi _ hy));rw[List.length_erase_of_mem hx] at this;have:=sq hx;rw[mJ];omega
end L3
namespace L3
open PySem PySem.Spec PyProof.Rows PySem.SetTable
section
variable{prog:Program}{w:World}{n:Nat}{s:Shared}{A:Around}{E:Value->Shared->Prop}{a:Addr}{x:Value}{h:Int}{Q:Bool->Shared->Prop}
theorem vp{hp:Heap}{o:Obj}{es es':Array (Int×Value)}{ep:Nat}{t t':SetTable}(ho:hp.get? a=some o)(hd:o.data=.set es ep t) :
  (hp.update a (Obj.putSet es' t')).get? a=some { o with data:=.set es' (ep+1) t' }:=by
 have:=oh (Obj.putSet es' t') ho (by rw[putSet_of es' t' hd];rfl);rw[putSet_of es' t' hd] at this;exact this
end
end L3
namespace L3
open PySem PySem.Spec PyProof.Rows
theorem ZP:Slot "set_iterator" "__next__" "set_iterator.__next__" :=
 .of (owner := "set_iterator") (n := "__next__") (by rw[rf,rg];kernel_rfl) (by decide +kernel) (by decide +kernel) (by decide +kernel)
  (by first|exact .inl (by decide +kernel)|exact .inr (by decide +kernel)) (by rw[isSubtype_type];kernel_rfl)
theorem X0:Slot "set_iterator" "__iter__" "set_iterator.__iter__" :=
 .of (owner := "set_iterator") (n := "__iter__") (by rw[rf,rg];kernel_rfl) (by decide +kernel) (by decide +kernel) (by decide +kernel)
  (by first|exact .inl (by decide +kernel)|exact .inr (by decide +kernel)) (by rw[isSubtype_type];kernel_rfl)
theorem XS:entryFor table "set_iterator.__next__" = some Builtin.«set_iterator.__next__» := entryFor_of_tree (by kernel_rfl)
theorem VM:entryFor table "set_iterator.__iter__" = some Builtin.«dict_keyiterator.__iter__» :=
 entryFor_alias (id' := "dict_keyiterator.__iter__") (by kernel_rfl) rfl (by decide +kernel) (by kernel_rfl)
theorem zj:Manifest.owners.lookup (String.ofList ['r','o','t','a','r','e','t','i','_','t','e','s'].reverse)=some Manifest.sig_set_iterator:=by kernel_rfl
theorem X3(a:Value):argsOk "set_iterator.__next__" ⟨[a],[]⟩:=by
 unfold argsOk;rw[signature?_of (id := "set_iterator.__next__") (n:=['_','_','t','x','e','n','_','_']) (o:=['r','o','t','a','r','e','t','i','_','t','e','s']) (by kernel_rfl) zj];kernel_rfl
theorem Ub(a:Value):argsOk "set_iterator.__iter__" ⟨[a],[]⟩:=by
 unfold argsOk;rw[signature?_of (id := "set_iterator.__iter__") (n:=['_','_','r','e','t','i','_','_']) (o:=['r','o','t','a','r','e','t','i','_','t','e','s']) (by kernel_rfl) zj];kernel_rfl
theorem yy:entryFor table "set.__iter__" = some Builtin.«frozenset.__iter__» :=
 entryFor_alias (id' := "frozenset.__iter__") (by kernel_rfl) rfl (by decide +kernel) (by kernel_rfl)
theorem vI:typeLookup (.type "set") "__len__" = pure (some (.builtin "set.__len__")):=by rw[rf,rg];kernel_rfl
open SetTable in
theorem zz{xs:Array Nat}:∀(f hi:Nat),below.go xs 0 f 0 hi=0
 |0,hi=>rfl
 |f+1,hi=>by
  unfold below.go
  split
  ·simp only;rw[if_neg (by omega)];exact zz f _
  ·rfl
open SetTable in
theorem Ur{xs:Array Nat}{j:Nat}:∀(f lo hi:Nat),lo<=hi->hi-lo<=f->hi<=xs.size->(hi<xs.size->j<=xs.getD hi j)->below.go xs j f lo hi<xs.size->j<=xs.getD (below.go xs j f lo hi) j
 |0,lo,hi,h1,h2,h3,h4,h5=>by
  have e:lo=hi:=by omega
  subst e;exact h4 h5
 |f+1,lo,hi,h1,h2,h3,h4,h5=>by
  unfold below.go at h5 ⊢
  by_cases hl:lo<hi
  ·rw[if_pos hl] at h5 ⊢;simp only at h5 ⊢
   by_cases hx:xs.getD ((lo+hi)/2) j<j
   ·rw[if_pos hx] at h5 ⊢;exact Ur f _ hi (by omega) (by omega) h3 h4 h5
   ·rw[if_neg hx] at h5 ⊢;exact Ur f lo _ (by omega) (by omega) (by omega) (fun _=>by omega) h5
  ·rw[if_neg hl] at h5 ⊢;have e:lo=hi:=by omega
   subst e;exact h4 h5
theorem kF{xs:Array Nat}{j i v:Nat}(hi:SetTable.below xs j=i)(hv:xs[i]?=some v):j<=v:=by
 have hlt:i<xs.size:=by
  rcases Nat.lt_or_ge i xs.size with h|h
  ·exact h
  ·rw[rR h] at hv;cases hv
 have:=Ur (xs:=xs) (j:=j) xs.size 0 xs.size (mN _) (by omega) (lS _) (fun h=>absurd h (oi _)) (by show SetTable.below xs j<_;rw[hi];exact hlt);have e:SetTable.below.go xs j xs.size 0 xs.size=i:=hi;rw[e,Array.getD_eq_getD_getElem?,hv] at this;exact this
theorem count_lt{l:List Nat}{a j:Nat}(hj:j∈l)(ha:a<=j):l.countP (fun x=>decide (j+1<=x))<l.countP (fun x=>decide (a<=x)):=by
 have mono:∀l:List Nat,l.countP (fun x=>decide (j+1<=x))<=l.countP (fun x=>decide (a<=x)):=fun l=>
  List.countP_mono_left fun x _ h=>by simp at *; omega
 induction l with
 |nil=>cases hj
 |cons x r ih=>
  have m:=mono r;rcases mw.mp hj with e|h
  ·subst e;rw[rS,rS,if_neg (by simp),if_pos (by simpa using ha)];omega
  ·have:=ih h;rw[rS,rS]
   by_cases c:j+1<=x
   ·rw[if_pos (by simpa using c),if_pos (by simp;omega)];omega
   ·rw[if_neg (by simpa using c)];omega
theorem seq_ex{nxt:Nat->Nat->Option (Value×Nat)}{m:Nat->Nat->Nat}(h:∀sl g x sl',nxt sl g=some (x,sl')->m sl' (g+1)<m sl g) :
  ∀k sl g,m sl g<=k->∃(seq:List Value) (sls:Nat->Nat),sls 0=sl/\(∀i x,seq[i]?=some x->nxt (sls i) (g+i)=some (x,sls (i+1)))/\nxt (sls seq.length) (g+seq.length)=none/\seq.length<=m sl g
 |k,sl,g,hk=>by
  cases e:nxt sl g with
  |none=>exact⟨[],fun _=>sl,rfl,fun i x hx=>by simp at hx,e,mN _⟩
  |some p=>
   obtain⟨x,sl'⟩:=p;have hlt:=h sl g x sl' e;cases k with
   |zero=>omega
   |succ k=>
    obtain⟨seq,sls,h0,h1,h2,h3⟩:=seq_ex h k sl' (g+1) (by omega);refine⟨x::seq,fun i=>match i with|0=>sl|i+1=>sls i,rfl,?_,?_,by rw[mJ];omega⟩
    ·intro i y hy;cases i with
     |zero=>simp at hy;subst hy;show nxt sl (g+0)=some (x,sls 0);rw[h0];exact e
     |succ i=>
      have:=h1 i y (by simpa using hy)
      show nxt (sls i) (g+(i+1))=_
      rw[show g+(i+1)=g+1+i by omega];exact this
    ·show nxt (sls seq.length) (g+(seq.length+1))=none
     rw[show g+(seq.length+1)=g+1+seq.length by omega];exact h2
theorem pick_go{α:Type}{next:Nat->Nat}{xs:List α}:∀(f k:Nat) (left:List α) (out:Array α),(∀x∈left,x∈xs)->(∀x∈out.toList,x∈xs) ->
  (∀x∈(pickOrder.go next f k left out).toList,x∈xs)/\(pickOrder.go next f k left out).size<=out.size+f/\out.size<=(pickOrder.go next f k left out).size/\(0<f->left≠[]->out.size<(pickOrder.go next f k left out).size)
 |0,k,left,out,_,ho=>by unfold pickOrder.go;exact⟨ho,by omega,lS _,fun h=>absurd h (oi _)⟩
 |f+1,k,left,out,hl,ho=>by
  unfold pickOrder.go;cases e:left[next k%left.length]? with
  |none=>
   refine⟨ho,by simp only;omega,lS _,fun _ hne=>?_⟩;have:0<left.length:=oY.mpr hne;have:=List.getElem?_eq_none_iff.mp e;have:=Nat.mod_lt (next k) (by omega:left.length>0);omega
  |some x=>
   have hx:x∈left:=mM e;obtain⟨a,b,c,_⟩:=pick_go (next:=next) f (k+1) (left.eraseIdx (next k%left.length)) (out.push x) (fun y hy=>hl y (List.mem_of_mem_eraseIdx hy)) (fun y hy=>by
    rw[rT] at hy;rcases ml.mp hy with h|h
    ·exact ho y h
    ·rw[mr] at h;subst h;exact hl _ hx)
   rw[Array.size_push] at b c;refine⟨a,?_,?_,fun _ _=>?_⟩<;>(show _;simp only;omega)
theorem jl{α:Type}{next:Nat->Nat}(xs:Array α):(∀x∈(pickOrder next xs).toList,x∈xs.toList)/\(pickOrder next xs).size<=xs.size/\(0<xs.size->0<(pickOrder next xs).size):=by
 obtain⟨a,b,c,d⟩:=pick_go (next:=next) (xs:=xs.toList) xs.size 0 xs.toList #[] (fun _ h=>h) (fun _ h=>by simp at h);have e0:pickOrder.go next xs.size 0 xs.toList #[]=pickOrder next xs:=rfl;rw[e0] at a b c d;refine⟨a,by simpa using b,fun h=>?_⟩;have:=d h (fun e=>by
  have:xs.toList.length=0:=by rw[e];rfl
  rw[nC] at this;omega)
 simpa using this
def Wt(h:Heap)(a:Addr)(es:Array (Int×Value))(ep:Nat)(t:SetTable):Prop:=∃o,h.get? a=some o/\o.ExactSet/\o.data=.set es ep t
def VA(h:Heap)(I a:Addr)(first:Value)(i:Nat)(n ep:Nat):Prop:=∃o t1 t2 t3,h.get? I=some o/\o.cls=.type "set_iterator" /\ o.data=.fields #[first,.int i t1,.ref a,.int n t2,.int ep t3]
theorem VA.typeIs{s:Shared}{I a:Addr}{f:Value}{i n ep:Nat}(x:VA s.heap I a f i n ep):s.TypeIs (.ref I) "set_iterator" := let ⟨o,_,_,_,ho,hc,_⟩:=x; ⟨o,ho,hc⟩
theorem VA.at{h h':Heap}{I a:Addr}{f:Value}{i n ep:Nat}(x:VA h I a f i n ep)(e:∀o,h.get? I=some o->h'.get? I=some o):VA h' I a f i n ep:=let ⟨o,t1,t2,t3,ho,r⟩:=x; ⟨o,t1,t2,t3,e _ ho,r⟩
theorem Wt.at{h h':Heap}{a:Addr}{es ep t}(x:Wt h a es ep t)(e:∀o,h.get? a=some o->h'.get? a=some o):Wt h' a es ep t:=let ⟨o,ho,r⟩:=x; ⟨o,e _ ho,r⟩
section
variable{prog:Program}{w:World}{A:Around}{E:Value->Shared->Prop}{s:Shared}
theorem Wt.typeIs{a:Addr}{es ep t}(x:Wt s.heap a es ep t):s.TypeIs (.ref a) "set" := let ⟨o,ho,hc,_⟩:=x; ⟨o,ho,hc.1⟩
def WO(byText:Bool)(pick es:Array (Int×Value))(place:Array Nat)(slot given:Nat):Option (Value×Nat):=
 if byText=true then(pick[given]?).map fun e=>(e.2,slot) else
  match es[SetTable.below place slot]?,place[SetTable.below place slot]? with
  |some (_,x),some j=>some (x,j+1)
  |_,_=>none
theorem y8{a:Addr}{es ep t}{slot given:Nat}{Q:Option (Value×Nat)->Shared->Prop}(hS:Wt s.heap a es ep t)(hf:t.fits es.size=true)
  (hw:w.params.followText "set-order" = false->t.led=true/\(t.plain=true\/es.size<=1)) (h:Q (WO (w.params.followText "set-order") (pickOrder (w.params.setOrder a ep) es) es t.place slot given) s) :
  wpAny (model prog w) A (setNext a slot given ep) Q E s:=by
 obtain⟨o,ho,_,hd⟩:=hS;unfold setNext;refine lO (nQ ho hd hf ?_);dsimp only;have by_:∀{Q:Bool->Shared->Prop},Q (w.params.followText "set-order") s->wpAny (model prog w) A setsByText Q E s:=fun {Q} hq=>by
  unfold setsByText;exact lO (rh (lT hq))
 refine lO (by_ ?_);cases e:w.params.followText "set-order"
 ·simp only[mT,mK];obtain⟨h1,h2⟩:=hw e;rw[e] at h
  show wpAny _ _ (if(!t.plain&&decide (es.size>1))=true then _ else(do (if(!t.led&&!es.isEmpty)=true then unsupported "set:maker-not-led" else pure PUnit.unit);pure _)) Q E s
  have c:(!t.plain&&decide (es.size>1))=false:=by
   rcases h2 with h2|h2
   ·rw[h2];rfl
   ·rw[nr (by omega)];simp
  rw[c,h1];simp only[mT,mK,Bool.not_true,pb];refine lO (lT (lT ?_));exact h
 ·simp only[m9];rw[e] at h;simp only[rQ,mT,mK];unfold setWalk;refine lO (lO (nQ ho hd hf ?_));dsimp only;refine lO (by_ ?_);rw[e];simp only[m9];refine lO (rh (lT (lT ?_)));exact h
theorem next_item{I a:Addr}{slot i:Nat}{tk:Tok}{es ep t}{x:Value}{sl':Nat}{Q:Option Value->Shared->Prop}(hit:VA s.heap I a (.int slot tk) i es.size ep)(hS:Wt s.heap a es ep t)(hf:t.fits es.size=true)
  (hw:w.params.followText "set-order" = false->t.led=true/\(t.plain=true\/es.size<=1)) (hx:WO (w.params.followText "set-order") (pickOrder (w.params.setOrder a ep) es) es t.place slot i=some (x,sl'))
  (hQ:∀h' tk',VA h' I a (.int sl' tk') (i+1) es.size ep->Heap.SameBut I s.heap h'->Q (some x) { s with heap:=h' }):wpAny (model prog w) A (pyNext (.ref I)) Q E s:=by
 obtain⟨o,t1,t2,t3,ho,hc,hd⟩:=id hit;obtain⟨os,hos,hcs,hds⟩:=id hS;unfold pyNext;refine lO (pA (oU (name:=Str.ofString "__next__") hit.typeIs ZP
  (nE ZP hit.typeIs XS ?_ (X3 _))))
 show wpAny _ _ (fieldsOf (.ref I) >>= _) _ _ s
 refine lO (wpAny_fieldsOf ho hd ?_);dsimp only;refine lO ?_;unfold setEntries;refine lO (nQ hos hds hf (lT ?_));dsimp only;rw[if_neg (by simp)];refine lO (y8 hS hf hw ?_);have e1:((slot:Int)).toNat=slot:=m6 _;have e2:((i:Int)).toNat=i:=m6 _;have e3:((ep:Int)).toNat=ep:=m6 _;rw[e1,e2,e3,hx];dsimp only;refine lO (pT ho hd (by simp) ?_);have ho1:=oh (Obj.mapFields (·.setIfInBounds 0 (rawInt (sl':Int)))) ho (rV (o5 hd _));have hd1:=o5 hd (·.setIfInBounds 0 (rawInt (sl':Int)));refine lO (pT ho1 hd1 (by simp) ?_);have ho2:=oh (Obj.mapFields (·.setIfInBounds 1 (rawInt ((i:Int)+1)))) ho1 (rV (o5 hd1 _));have hd2:=o5 hd1 (·.setIfInBounds 1 (rawInt ((i:Int)+1)));refine lT ⟨_,rfl,lT (hQ _ 0 ⟨_,0,t2,t3,ho2,((Obj.cls_mapFields ..).trans (Obj.cls_mapFields ..)).trans hc,by rw[hd2];simp[rawInt]⟩ ?_)⟩;exact⟨(oM _ _ _).trans (oM _ _ _),fun b hb=>(nG _ _ (mj hb)).trans (nG _ _ (mj hb))⟩
theorem next_end{I a:Addr}{slot i:Nat}{tk:Tok}{es ep t}{Q:Option Value->Shared->Prop}(hh:A.handled=none)(hit:VA s.heap I a (.int slot tk) i es.size ep)(hS:Wt s.heap a es ep t)(hf:t.fits es.size=true)
  (hw:w.params.followText "set-order" = false->t.led=true/\(t.plain=true\/es.size<=1)) (hx:WO (w.params.followText "set-order") (pickOrder (w.params.setOrder a ep) es) es t.place slot i=none)
  (hQ:∀h',Heap.ExtBut I s.heap h'->Q none { s with heap:=h' }):wpAny (model prog w) A (pyNext (.ref I)) Q E s:=by
 obtain⟨o,t1,t2,t3,ho,hc,hd⟩:=id hit;obtain⟨os,hos,hcs,hds⟩:=id hS;unfold pyNext;refine lO (pA (oU (name:=Str.ofString "__next__") hit.typeIs ZP
  (nE ZP hit.typeIs XS ?_ (X3 _))))
 show wpAny _ _ (fieldsOf (.ref I) >>= _) _ _ s
 refine lO (wpAny_fieldsOf ho hd ?_);dsimp only;refine lO ?_;unfold setEntries;refine lO (nQ hos hds hf (lT ?_));dsimp only;rw[if_neg (by simp)];refine lO (y8 hS hf hw ?_);have e1:((slot:Int)).toNat=slot:=m6 _;have e2:((i:Int)).toNat=i:=m6 _;have e3:((ep:Int)).toNat=ep:=m6 _;rw[e1,e2,e3,hx];dsimp only;refine lO (pT ho hd (by simp) ?_);refine lO ?_;simp only[newExc,newTuple];refine lO (nF ?_ (by size_fits));refine lO (m:=firstArgMember _ _) (wpAny_of_eq (a:=Value.none) (by first|rfl|(simp only[firstArgMember];rfl)) ?_);refine nF ?_ (by size_fits);simp only[raiseNew];refine lO (wpAny_handled ?_);rw[show A.in1.handled=none from hh];refine lO (lT (wpAny_throw ?_));refine lO (wpAny_isInstance (T := "StopIteration") (b:=true) ⟨_,mD _ rfl,rfl⟩ isSubtype_stop ?_);exact lT (hQ _ (((Heap.SameBut.update ..).extBut.push _).push _))
def jv(h:Heap)(T:Addr)(ps:List Nat):Prop:=∃o n,h.get? T=some o/\o.data=.seq ((ps.map fun(i:Nat)=>rawInt (i:Int)).toArray) n/\o.cls=.type "tuple"
theorem JK{I a T:Addr}{i p:Nat}{es ep t}{ps:List Nat}{e:Int×Value}{Q:Option Value->Shared->Prop}(hit:VA s.heap I a (.ref T) i es.size ep)(hS:Wt s.heap a es ep t)(hf:t.fits es.size=true)
  (hT:jv s.heap T ps) (hp:ps[i]?=some p) (he:es[p]?=some e)
  (hQ:∀h',VA h' I a (.ref T) (i+1) es.size ep->Heap.SameBut I s.heap h'->Q (some e.2) { s with heap:=h' }):wpAny (model prog w) A (pyNext (.ref I)) Q E s:=by
 obtain⟨o,t1,t2,t3,ho,hc,hd⟩:=id hit;obtain⟨os,hos,hcs,hds⟩:=id hS;obtain⟨oT,nT,hoT,hdT,_⟩:=hT;unfold pyNext;refine lO (pA (oU (name:=Str.ofString "__next__") hit.typeIs ZP
  (nE ZP hit.typeIs XS ?_ (X3 _))))
 show wpAny _ _ (fieldsOf (.ref I) >>= _) _ _ s
 refine lO (wpAny_fieldsOf ho hd ?_);dsimp only;refine lO ?_;unfold setEntries;refine lO (nQ hos hds hf (lT ?_));dsimp only;rw[if_neg (by simp)];refine lO (pO hoT hdT ?_);dsimp only;have e2:((i:Int)).toNat=i:=m6 _;have hpi:((ps.map fun(i:Nat)=>rawInt (i:Int)).toArray)[i]?=some (rawInt (p:Int)):=by simp[hp]
 rw[e2,hpi]
 show wpAny _ _ (setNextDrawn a ((p:Int)).toNat ((ep:Int)).toNat >>= _) _ _ s
 rw[m6,m6];refine lO ?_;unfold setNextDrawn;refine lO (nQ hos hds hf ?_);dsimp only;simp only[rQ,mT,mK,he];refine lT ?_;refine lO (pT ho hd (by simp) ?_);have ho2:=oh (Obj.mapFields (·.setIfInBounds 1 (rawInt ((i:Int)+1)))) ho (rV (o5 hd _));have hd2:=o5 hd (·.setIfInBounds 1 (rawInt ((i:Int)+1)));refine lT ⟨_,rfl,lT (hQ _ ⟨_,0,t2,t3,ho2,(Obj.cls_mapFields ..).trans hc,by rw[hd2];simp[rawInt]⟩ ?_)⟩;exact⟨(oM _ _ _),fun b hb=>(nG _ _ (mj hb))⟩
theorem nextD_end{I a T:Addr}{i:Nat}{es ep t}{ps:List Nat}{Q:Option Value->Shared->Prop}(hh:A.handled=none)(hit:VA s.heap I a (.ref T) i es.size ep)(hS:Wt s.heap a es ep t)(hf:t.fits es.size=true)
  (hT:jv s.heap T ps) (hp:ps[i]?=none)
  (hQ:∀h',Heap.ExtBut I s.heap h'->Q none { s with heap:=h' }):wpAny (model prog w) A (pyNext (.ref I)) Q E s:=by
 obtain⟨o,t1,t2,t3,ho,hc,hd⟩:=id hit;obtain⟨os,hos,hcs,hds⟩:=id hS;obtain⟨oT,nT,hoT,hdT,_⟩:=hT;unfold pyNext;refine lO (pA (oU (name:=Str.ofString "__next__") hit.typeIs ZP
  (nE ZP hit.typeIs XS ?_ (X3 _))))
 show wpAny _ _ (fieldsOf (.ref I) >>= _) _ _ s
 refine lO (wpAny_fieldsOf ho hd ?_);dsimp only;refine lO ?_;unfold setEntries;refine lO (nQ hos hds hf (lT ?_));dsimp only;rw[if_neg (by simp)];refine lO (pO hoT hdT ?_);dsimp only;have e2:((i:Int)).toNat=i:=m6 _;have hpi:((ps.map fun(i:Nat)=>rawInt (i:Int)).toArray)[i]?=none:=by simpa using hp
 rw[e2,hpi];dsimp only;refine lO (pT ho hd (by simp) ?_);have ho1:=oh (Obj.mapFields (·.setIfInBounds 0 (rawInt 0))) ho (rV (o5 hd _));have hd1:=o5 hd (·.setIfInBounds 0 (rawInt 0));refine lO (pT ho1 hd1 (by simp) ?_);refine lO ?_;simp only[newExc,newTuple];refine lO (nF ?_ (by size_fits));refine lO (m:=firstArgMember _ _) (wpAny_of_eq (a:=Value.none) (by first|rfl|(simp only[firstArgMember];rfl)) ?_);refine nF ?_ (by size_fits);simp only[raiseNew];refine lO (wpAny_handled ?_);rw[show A.in1.handled=none from hh];refine lO (lT (wpAny_throw ?_));refine lO (wpAny_isInstance (T := "StopIteration") (b:=true) ⟨_,mD _ rfl,rfl⟩ isSubtype_stop ?_);have sb:Heap.SameBut I s.heap ((s.heap.update I (Obj.mapFields (·.setIfInBounds 0 (rawInt 0)))).update I (Obj.mapFields (·.setIfInBounds 2 .none))):=
  ⟨(oM _ _ _).trans (oM _ _ _),fun b hb=>(nG _ _ (mj hb)).trans (nG _ _ (mj hb))⟩
 exact lT (hQ _ ((sb.extBut.push _).push _))
end
section
variable{prog:Program}{w:World}{A:Around}{E:Value->Shared->Prop}{s:Shared}
theorem JD{src:Source}{n:Nat}{Q:Nat->Shared->Prop}(hn:n≠0)(h:∀i dr,i<n->Q i { s with drawn:=dr }):wpAny (model prog w) A (choose src n) Q E s:=
 fun Γ p _=>⟨hn,h _ _ (Nat.mod_lt _ (pB hn))⟩
theorem Jy(hh:A.handled=none){I a:Addr}(hne:a≠I){es:Array (Int×Value)}{ep:Nat}{t:SetTable}(hf:t.fits es.size=true)
  (hw:w.params.followText "set-order" = false->t.led=true/\(t.plain=true\/es.size<=1)) {seq:List Value}{sls:Nat->Nat}
  (h1:∀i x,seq[i]?=some x->WO (w.params.followText "set-order") (pickOrder (w.params.setOrder a ep) es) es t.place (sls i) i=some (x,sls (i+1)))
  (h2:WO (w.params.followText "set-order") (pickOrder (w.params.setOrder a ep) es) es t.place (sls seq.length) seq.length=none) :
  Walks prog w A I [I,a] [I] seq.length (fun i v=>seq[i]?=some v) (fun i h=>(∃tk,VA h I a (.int (sls i) tk) i es.size ep)/\Wt h a es ep t) where
 sub:=fun b hb=>by simp at hb;simp[hb]
 frame:=fun i h h' st hk=>⟨let ⟨tk,x⟩:=st.1; ⟨tk,x.at fun o e=>hk I (by simp) o e⟩,st.2.at fun o e=>hk a (by simp) o e⟩
 item:=fun i s Q E hi st hQ=>by
  obtain⟨⟨tk,hit⟩,hS⟩:=st;have e:seq[i]?=some seq[i]:=lU hi;refine next_item hit hS hf hw (h1 i _ e) fun h' tk' hit' sb=>?_;exact hQ _ h' s.toks e ⟨⟨tk',hit'⟩,hS.at fun o z=>by rw[sb.2 a hne];exact z⟩ fun b o hb z=>by rw[sb.2 b (fun h=>hb (by simp[h]))];exact z
 done:=fun s Q E st hQ=>by
  obtain⟨⟨tk,hit⟩,hS⟩:=st;exact next_end hh hit hS hf hw h2 fun h' x=>hQ h' s.toks fun b o hb z=>x b o (fun h=>hb (by simp[h])) z
 self:=fun i s Q E st hQ=>by
  obtain⟨⟨tk,hit⟩,hS⟩:=st;refine wpAny_pyIter_slot hit.typeIs X0 (nE X0 hit.typeIs VM ?_ (Ub _))
  show wpAny _ _ (ret (.ref I)) _ _ s
  exact lT ⟨_,rfl, "set_iterator",_,hit.typeIs,ZP.lookup,hQ⟩
theorem JE(hh:A.handled=none){I a T:Addr}(hne:a≠I)(hnT:T≠I){es:Array (Int×Value)}{ep:Nat}{t:SetTable}(hf:t.fits es.size=true){ps:List Nat}{seq:List Value}(hl:seq.length=ps.length)
  (h1:∀(i:Nat) x,seq[i]?=some x->∃p e,ps[i]?=some p/\es[p]?=some e/\x=e.2) :
  Walks prog w A I [I,a,T] [I] seq.length (fun i v=>seq[i]?=some v) (fun i h=>VA h I a (.ref T) i es.size ep/\Wt h a es ep t/\jv h T ps) where
 sub:=fun b hb=>by simp at hb;simp[hb]
 frame:=fun i h h' st hk=>⟨st.1.at fun o e=>hk I (by simp) o e,st.2.1.at fun o e=>hk a (by simp) o e,let ⟨o,n,e,r⟩:=st.2.2; ⟨o,n,hk T (by simp) o e,r⟩⟩
 item:=fun i s Q E hi st hQ=>by
  obtain⟨hit,hS,hT⟩:=st;have e:seq[i]?=some seq[i]:=lU hi;obtain⟨p,en,e1,e2,e3⟩:=h1 i _ e;refine JK hit hS hf hT e1 e2 fun h' hit' sb=>?_;rw[<- e3];refine hQ _ h' s.toks e ⟨hit',hS.at fun o z=>by rw[sb.2 a hne];exact z,let ⟨o,n,z,r⟩:=hT; ⟨o,n,by rw[sb.2 T hnT];exact z,r⟩⟩ fun b o hb z=>by rw[sb.2 b (fun h=>hb (by simp[h]))];exact z
 done:=fun s Q E st hQ=>by
  obtain⟨hit,hS,hT⟩:=st;exact nextD_end hh hit hS hf hT (List.getElem?_eq_none_iff.mpr (by omega)) fun h' x=>hQ h' s.toks fun b o hb z=>x b o (fun h=>hb (by simp[h])) z
 self:=fun i s Q E st hQ=>by
  obtain⟨hit,hS,hT⟩:=st;refine wpAny_pyIter_slot hit.typeIs X0 (nE X0 hit.typeIs VM ?_ (Ub _))
  show wpAny _ _ (ret (.ref I)) _ _ s
  exact lT ⟨_,rfl, "set_iterator",_,hit.typeIs,ZP.lookup,hQ⟩
end
theorem zB{h:Heap}{b:Addr}(hb:h.objs.size<=b):h.get? b=none:=by
 cases e:h.get? b with
 |none=>rfl
 |some o=>exact absurd (md e) (Nat.not_lt.mpr hb)
theorem Jn(t:SetTable)(es:Array (Int×Value))(h:Int)(x:Value):(layNew t es h x).2.1.led=t.led:=by
 unfold layNew
 split
 ·dsimp only;unfold SetTable.orStandIn
  split<;>rfl
 ·rfl
theorem vL(t:SetTable)(es:Array (Int×Value))(n:Nat):(relayAll t es n).2.1.led=t.led:=by
 unfold relayAll
 split
 ·rename_i t' order he
  dsimp only
  split
  ·unfold SetTable.relaid SetTable.laid at he;cases hc:SetTable.layClean (SetTable.sizeAbove n-1) (es.map (·.1)) with
   |none=>rw[hc] at he;cases he
   |some ow=>rw[hc] at he;cases he;rfl
  ·rfl
 ·rfl
section
variable{prog:Program}{w:World}{A:Around}{E:Value->Shared->Prop}{R:Result->Shared->Prop}{n:Nat}{h0:Heap}{s:Shared}
theorem set_loopG{SI:Heap->List Value->Prop}{I ax S:Addr}{items:List Value}(hh:A.handled=none)(hne:ax≠I)(hSI:S≠I)(hSa:S≠ax)(h0S:h0.get? S=none)(h0I:h0.get? I=none)
  (hkeep:∀{h h' vs},SI h vs->(∀o,h.get? S=some o->h'.get? S=some o)->SI h' vs)
  (hadd:∀(s:Shared) (i:Nat) (v:Value),items[i]?=some v->(∀b o,h0.get? b=some o->s.heap.get? b=some o)->SI s.heap (items.take i) ->
   ∀(E:Value->Shared->Prop) (Q:Bool->Shared->Prop),(∀h' tk b,Heap.SameBut S s.heap h'->SI h' (items.take i++[v])->Q b { s with heap:=h',toks:=tk })->wpAny (model prog w) A.in1 (setAdd S v) Q E s) :
  ∀(c i:Nat) (s:Shared),items.length-i=c->i<=items.length->s.heap.IsListIter I ax i/\s.heap.IsList ax items.toArray->(∀b o,h0.get? b=some o->s.heap.get? b=some o) ->
   SI s.heap (items.take i) ->
   (∀(h':Heap) (tk:Nat),SI h' items->(∀b o,b≠S->b≠I->s.heap.get? b=some o->h'.get? b=some o)->R (.ok (.ret .none)) { s with heap:=h',toks:=tk }) ->
   codeAny (model prog w) A (.builtin "set.update.loop" ⟨[.ref S,.ref I],[]⟩) R s:=by
 have W:=Walks.list (prog:=prog) (w:=w) (A:=A.in1) (by simpa using hh) I ax hne items.toArray;have zs:items.toArray.size=items.length:=by simp
 intro c
 induction c with
 |zero=>
  intro i s hc hi st hg hS hR;have e:i=items.toArray.size:=by omega
  subst e;refine nZ rK ?_;rw[oB pj _]
  show wpAny _ A.in1 (pyNext (.ref I) >>= _) _ _ s
  refine lO (W.done s _ _ st fun h' tk hk=>?_)
  show wpAny _ A.in1 (ret Value.none) _ _ _
  have et:items.take items.toArray.size=items:=by rw[zs];exact pq
  rw[et] at hS;exact lT (hR h' tk (hkeep hS fun o z=>hk S o (by simpa using hSI) z) fun b o _ hbI z=>hk b o (by simpa using hbI) z)
 |succ c ih=>
  intro i s hc hi st hg hS hR;have hlt:i<items.toArray.size:=by omega
  refine nZ rK ?_;rw[oB pj _]
  show wpAny _ A.in1 (pyNext (.ref I) >>= _) _ _ s
  refine lO (W.item i s _ _ hlt st fun v h1 tk hP st1 hk=>?_);have hvi:items[i]?=some v:=by simpa using hP
  have hS1:SI h1 (items.take i):=hkeep hS fun o z=>hk S o (by simpa using hSI) z;have hg1:∀b o,h0.get? b=some o->h1.get? b=some o:=fun b o z=>hk b o (by simp;rintro rfl;rw[h0I] at z;cases z) (hg b o z)
  show wpAny _ A.in1 (holding [v] (setAdd S v) >>= _) _ _ { s with heap:=h1,toks:=tk }
  refine lO (nj ?_);refine hadd { s with heap:=h1,toks:=tk } i v hvi hg1 hS1 _ _ fun h2 tk2 bb hsb hS2=>?_;have et:items.take (i+1)=items.take i++[v]:=by rw[List.take_add_one,hvi];rfl
  rw[<- et] at hS2;refine lT ⟨oC pj _,ih (i+1) _ (by omega) (by omega) (W.frame _ _ _ st1 fun b hb o z=>?_) (fun b o z=>?_) hS2 fun h' tk'' a1 a4=>?_⟩
  ·rw[hsb.2 b (fun q=>by subst q;simp at hb;exact hb.elim hSI hSa)];exact z
  ·show h2.get? b=some o
   rw[hsb.2 b (by rintro rfl;rw[h0S] at z;cases z)];exact hg1 b o z
  ·exact hR h' tk'' a1 fun b o hbS hbI z=>a4 b o hbS hbI (by show h2.get? b=some o;rw[hsb.2 b hbS];exact hk b o (by simpa using hbI) z)
theorem xB(a:Value){Q₁:Value->Shared->Prop}
  (h:Q₁ (.ref s.heap.objs.size) { s with heap:=s.heap.push { cls:=.type "set",dict:=none,data:=.set #[] 0 (.fresh 0 0 (!w.params.followText "set-order")) } }) :
  codeAny (model prog w) A (.call (.builtin "set.__new__") ⟨[.type "set",a],[]⟩) (wants Q₁ E) s:=by
 refine codeAny_of_tree ?_
 show wpAny _ A.in1 (do checkBuiltinCall "set.__new__" ⟨[.type "set",a],[]⟩;again (.builtin "set.__new__" ⟨[.type "set",a],[]⟩)) _ _ s
 refine lO (wpAny_of_eq (PySem.F.newCall_set_1 a) (lT ⟨oC PySem.F.plain_set_new _,nZ PySem.F.entry_set_new ?_⟩));rw[oB PySem.F.plain_set_new _];unfold Builtin.«set.__new__» Builtin.Frozenset.newClass;have hsub:=sub_set_self;obtain⟨hp,g,d,tk,os⟩:=s;dsimp only
 wp_walk
 refine rh (lT ?_);dsimp only;simp only[newObj];refine lO (wpAny_alloc (lT ?_));exact lT h
end
section
variable{prog:Program}{w:World}{A:Around}{E:Value->Shared->Prop}{n:Nat}
theorem call_setG{s:Shared}{l:Addr}{items:List Value}{SI:Heap->List Value->Prop}{Q:Value->Shared->Prop}(hh:A.handled=none)(hl:s.heap.IsList l items.toArray)
  (hkeep:∀{h h' vs},SI h vs->(∀o,h.get? s.heap.objs.size=some o->h'.get? s.heap.objs.size=some o)->SI h' vs)
  (hnew:SI (s.heap.push { cls:=.type "set",dict:=none,data:=.set #[] 0 (.fresh 0 0 (!w.params.followText "set-order")) }) [])
  (hadd:∀(A':Around) (s':Shared) (i:Nat) (v:Value),A'.units<=A.units+5->items[i]?=some v->(∀b o,s.heap.get? b=some o->s'.heap.get? b=some o)->SI s'.heap (items.take i) ->
   ∀(E:Value->Shared->Prop) (Q:Bool->Shared->Prop),(∀h' tk b,Heap.SameBut s.heap.objs.size s'.heap h'->SI h' (items.take i++[v])->Q b { s' with heap:=h',toks:=tk })->wpAny (model prog w) A' (setAdd s.heap.objs.size v) Q E s')
  (h:∀(h':Heap) (tk:Nat),SI h' items->(∀b o,s.heap.get? b=some o->h'.get? b=some o)->Q (.ref s.heap.objs.size) { s with heap:=h',toks:=tk }) :
  wpAny (model prog w) A (call (.type "set") [.ref l]) Q E s:=by
 have hmade:=nn.made;have hsub:=nn.sub;obtain⟨c,tl,hmro⟩:=nn.mro;refine wpAny_call (codeAny_of_tree (lT ⟨Code.quiet_builtin _ (by decide +kernel),nZ PySem.F.entry_type_call ?_⟩));rw[Around.under_plain (weight_type_call_type "set" [.ref l] []) rfl];have g1:=nn.notType;have g2:=nn.canCreate;have g3:=PySem.F.typeCall_set_1 (.ref l)
 repeat (any_goals (first|assumption|wp_step))
 generalize hled:(!w.params.followText "set-order")=led at hnew;refine oS (xB (.ref l) (E:=E) (Q₁:=fun obj t=>obj=.ref s.heap.objs.size/\t={ s with heap:=s.heap.push { cls:=.type "set",dict:=none,data:=.set #[] 0 (.fresh 0 0 led) } }) ⟨rfl,by rw[hled]⟩) fun r t hr=>?_;cases r with
 |error e=>exact hr
 |ok fl=>
  cases fl with
  |ret obj=>
   obtain⟨rfl,rfl⟩:=hr;have hS:(s.heap.push { cls:=.type "set",dict:=none,data:=.set #[] 0 (.fresh 0 0 led) }).get? s.heap.objs.size=some { cls:=.type "set",dict:=none,data:=.set #[] 0 (.fresh 0 0 led) }:=mD _ rfl;have hT:Shared.TypeIs { s with heap:=s.heap.push { cls:=.type "set",dict:=none,data:=.set #[] 0 (.fresh 0 0 led) } } (.ref s.heap.objs.size) "set" := ⟨_,hS,rfl⟩;have hli:=nn.init.lookup;have hbi:=nn.init.bind (.ref s.heap.objs.size)
   repeat (any_goals (first|assumption|wp_step))
   refine oS (codeAny_call_builtin (R:=wants (fun r u=>r=.none/\∃h' tk,u={ s with heap:=h',toks:=tk }/\SI h' items /\
     (∀b o,s.heap.get? b=some o->h'.get? b=some o)) E) nn.init.plain PySem.F.entry_set_init (check_set_init_1 hT ?_)) fun r2 u hr2=>?_
   ·obtain⟨ol,hol,hcl,nl,hdl⟩:=hl;obtain⟨ocls,odict,odata,oslots⟩:=ol;simp only at hcl hdl;subst hcl;subst hdl;have hol':(s.heap.push { cls:=.type "set",dict:=none,data:=.set #[] 0 (.fresh 0 0 led) }).get? l=some { cls:=.type "list",dict:=odict,data:=.seq items.toArray nl,slots:=oslots }:=lZ _ hol;have hsls:=PySem.F.sub_list_set;have hslf:=PySem.F.sub_list_frozenset;have hne:(Value.type "list" == Value.type "dict")=false:=by decide
    have hl1:(s.heap.push { cls:=.type "set",dict:=none,data:=.set #[] 0 (.fresh 0 0 led) }).IsList l items.toArray:=⟨_,hol',rfl,nl,rfl⟩;unfold Builtin.«set.__init__» noKeywords Builtin.Frozenset.updateFrom;generalize hPI:pyIter=PI
    wp_walk
    subst hPI;refine rD hl1 ?_;refine lO (wpAny_runValue ?_);have hlS:l<s.heap.objs.size:=md hol;have z1:(s.heap.push { cls:=.type "set",dict:=none,data:=.set #[] 0 (.fresh 0 0 led) }).objs.size=s.heap.objs.size+1:=ou _ _;refine set_loopG (h0:=s.heap) (SI:=SI) (items:=items) (ax:=l) (by simpa using hh) (by rw[z1];exact me (og hlS)) (by rw[z1];exact me (oR _)) (mY hlS)
     (zB (lS _)) (zB (by rw[z1];exact oy _)) hkeep (fun s' i v hv hg hS E Q hQ=>hadd _ s' i v ?hu hv hg hS E Q hQ) (items.length-0) 0 _ (by omega) (mN _)
     ⟨⟨_,mD _ rfl,rfl,rfl⟩,(hl1.push _)⟩ (fun b o z=>lZ _ (lZ _ z)) ?hS0 ?hR
    case hu=>simp only[Around.in1_units];omega
    case hS0=>exact hkeep hnew fun o z=>lZ _ z
    case hR=>
     intro h' tk a1 a4
     show wpAny _ _ _ _ _ _
     refine lT ?_
     show wpAny _ _ (ret Value.none) _ _ _
     refine lT ⟨rfl,h',tk,rfl,a1,fun b o z=>?_⟩;have hlt:=md z;exact a4 b o (me hlt) (by rw[z1];exact me (og hlt)) (lZ _ (lZ _ z))
   ·cases r2 with
    |error e=>exact hr2
    |ok fl2=>
     cases fl2 with
     |ret r=>
      obtain⟨rfl,h',tk,rfl,a1,a4⟩:=hr2
      repeat (any_goals (first|assumption|wp_step))
      exact h _ _ a1 a4
     |_=>exact hr2.elim
  |_=>exact hr.elim
end
section
variable{prog:Program}{w:World}{n:Nat}{s:Shared}{A:Around}{E:Value->Shared->Prop}
def FirstOk(x y:Value):Prop:=(∃a t b u,x=.int a t/\y=.int b u)\/(∃a t b u,x=.str a t/\y=.str b u)
theorem Jb{x y:Value}{Q:Bool->Shared->Prop}(h1:FirstOk x y)(h:∀b,Q b s):wpAny (model prog w) A (oneLt' true x y) Q E s:=by
 rcases h1 with⟨a,t,b,u,rfl,rfl⟩|⟨a,t,b,u,rfl,rfl⟩
 ·exact oneLt_int (h _)
 ·exact oneLt_str (h _)
end
section
variable{prog:Program}{w:World}{A:Around}{E:Value->Shared->Prop}{s:Shared}
theorem JC{vs:List Value}(hk:2<=vs.length->keyKind' vs.toArray=pure oneType')(hc:∀x∈vs,∀y∈vs,FirstOk x y):SortOk prog w A vs s:=by
 intro h2 E Q h;rw[hk h2];refine lT (h _ ?_);intro p hp q hq E Q h;rw[pairsOf_toList] at hp hq;rw[keyLt'_oneType];exact Jb (hc _ (oA (a:=p.1) (b:=p.2) hp).1 _ (oA (a:=q.1) (b:=q.2) hq).1) h
theorem j4{vs:List Value}(hv:∀v∈vs,∃i t,v=.int i t):SortOk prog w A vs s:=by
 have all:∀vs:List Value,(∀v∈vs,∃i t,v=.int i t)->∃ns,IntsAre vs ns:=by
  intro vs
  induction vs with
  |nil=>intro _;exact⟨[],.nil⟩
  |cons v r ih=>
   intro h;obtain⟨i,t,rfl⟩:=h v (by simp);obtain⟨ns,q⟩:=ih fun u m=>h u (mi _ m);exact⟨i::ns,.cons i t q⟩
 obtain⟨ns,q⟩:=all vs hv;refine JC (fun h2=>?_) fun x hx y hy=>?_
 ·match vs,h2,q with
  |v₁::v₂::r,_,q=>exact keyKind_ints q
 ·obtain⟨i,t,rfl⟩:=hv x hx;obtain⟨j,u,rfl⟩:=hv y hy;exact .inl ⟨_,_,_,_,rfl,rfl⟩
end
end L3
namespace L3
open PySem PySem.Spec PyProof.Rows L2
section
variable{prog:Program}{w:World}{A:Around}{E:Value->Shared->Prop}{s:Shared}
theorem U5{α:Type}:∀{l:List α}{i:Nat} (h:i<l.length),l.Perm (l[i]::l.eraseIdx i)
 |x::r,0,_=>.refl _
 |x::r,i+1,h=>by
  have hi:i<r.length:=by simpa using h
  have ih:=U5 hi
  show(x::r).Perm (r[i]::x::r.eraseIdx i)
  exact(ih.cons x).trans (.swap _ _ _)
theorem yp{α:Type}(n:Nat):∀(xs:List α) {s:Shared}{Q:List α->Shared->Prop},xs.length=n->(∀ys dr,ys.Perm xs->Q ys { s with drawn:=dr })->wpAny (model prog w) A (drawOrder n xs) Q E s:=by
 induction n with
 |zero=>
  intro xs s Q hl h;have:xs=[]:=o6 hl;subst this;unfold drawOrder;exact lT (h [] s.drawn (.refl _))
 |succ n ih=>
  intro xs s Q hl h;cases xs with
  |nil=>simp at hl
  |cons x r=>
   show wpAny _ _ (choose .order (x::r).length >>= _) _ _ s
   refine lO (JD (by simp) fun i dr hi=>?_);have e:(x::r)[i]?=some (x::r)[i]:=lU hi;rw[e];dsimp only;refine lO (ih ((x::r).eraseIdx i) (by rw[List.length_eraseIdx_of_lt hi];omega) fun ys dr' hp=>?_);exact lT (h (_::ys) dr' ((hp.cons _).trans (U5 hi).symm))
theorem qo{α:Type}{next:Nat->Nat}:∀(f k:Nat) (left:List α) (out:Array α),left.length=f->(pickOrder.go next f k left out).toList.Perm (out.toList++left)
 |0,k,left,out,h=>by
  have:left=[]:=o6 h;subst this;unfold pickOrder.go;rw[nW]
 |f+1,k,left,out,h=>by
  have hi:next k%left.length<left.length:=Nat.mod_lt _ (by omega);unfold pickOrder.go;rw[lU hi];dsimp only;have ih:=qo (next:=next) f (k+1) (left.eraseIdx (next k%left.length)) (out.push left[next k%left.length]) (by rw[List.length_eraseIdx_of_lt hi];omega);refine ih.trans ?_;rw[rT,nY];exact List.Perm.append_left _ (U5 hi).symm
theorem pick_perm{α:Type}{next:Nat->Nat}(xs:Array α):(pickOrder next xs).toList.Perm xs.toList:=by
 have:=qo (next:=next) xs.size 0 xs.toList #[] (nC ..)
 show(pickOrder.go next xs.size 0 xs.toList #[]).toList.Perm _
 simpa using this
end
section
variable{prog:Program}{w:World}{A:Around}{E:Value->Shared->Prop}{s:Shared}
end
section
variable{X:Cx}{K:W.Frag}{Pm:Params}
theorem inv_dr{lL:List (Addr×Obj)}{σ:L2.St}{H:Hp}{s:Shared}(I:L2.Inv X lL σ H s)(d:Drawn):L2.Inv X lL σ H { s with drawn:=d }:=
 ⟨I.ok,I.os,I.bare,I.base,I.loc,I.cell,I.free,I.freeC,I.pin,I.hok,I.len⟩
end
theorem ZU{H:Hp}{a:Addr}{o:HO}(h:H a=none):∃H1,upd H a o=H1/\Zh H H1/\H1 a=some o:=⟨_,rfl,Ze h,Zb⟩
abbrev TEm:=St->Hp->(St->Hp->Prop)->Prop
def PEm(X:Cx)(em:Sem Unit)(t:TEm):Prop:=
 ∀(lL:List (Addr×Obj)) (s:Shared) (σ:St) (H:Hp) (Q:St->Hp->Prop),L2.Inv X lL σ H s->t σ H Q->wpAny (model X.prog X.w) X.A em (fun _ s'=>∃σ' H',L2.Inv X lL σ' H' s'/\Q σ' H') X.xe s
def LoopW(J:It)(g:TG)(tt:TT)(em:TEm)(σ0:St)(H1:Hp)(Q:St->Hp->Prop):Prop:=
 ∃W:Nat->Nat->St->Hp->Prop,(∃m,W 0 m σ0 H1)/\∀i m σ' H',W i m σ' H'->(J.stop i H'/\Q σ' H') \/
  (J.go i H'/\∃N:St->Hp->Prop,(∀σ2 H5,N σ2 H5->∃m',m'<m/\W (i+1) m' σ2 H5)/\∀x H2,J.yld i H' x H2->g x σ' H2 fun σ2 H3=>tt σ2 H3 fun c H4=>if c=true then em σ2 H4 N else N σ2 H4)
def turnOf(p:Pos)(tg:Expr)(ifs:List Expr)(it:Value)(env:Env)(body:Sem Unit)(c:Code):Sem Fin:=do
 standAt p
 match <- pyNext it with
 |none=>pure (.done .next)
 |some v=>
  letOwnedTupleGo tg it v
  assign tg env v
  let mut ok:=true
  for c in ifs do
   if ok then ok <- isTrue c env (eval c env)
  if ok then body
  again c
theorem den_loop{prog:Program}{w:World}{e:Expr}{d:Nat}{it acc:Value}{env:Env}(h:(Code.compLoop e d it acc env).isFrame=false) :
  (model prog w).den (.compLoop e d it acc env)=(compTurn e d it acc env).onRaise (fun x=>do noteFrame x env;theTreesLotGoes x):=by
 show(if(Code.compLoop e d it acc env).isFrame then(compTurn e d it acc env).onRaise (leaving env) else(compTurn e d it acc env).onRaise (fun x=>do noteFrame x env;theTreesLotGoes x))=_
 rw[h];rfl
theorem den_start{prog:Program}{w:World}{e:Expr}{d:Nat}{it acc:Value}{env:Env}(h:(Code.compStart e d it acc env).isFrame=false) :
  (model prog w).den (.compStart e d it acc env)=(compStart e d it acc env).onRaise (fun x=>do noteFrame x env;standAt theWindowsPlace):=by
 show(if(Code.compStart e d it acc env).isFrame then(compStart e d it acc env).onRaise (leaving env) else(compStart e d it acc env).onRaise (fun x=>do noteFrame x env;standAt theWindowsPlace))=_
 rw[h];rfl
theorem start_any{prog:Program}{w:World}{A:Around}{R:Result->Shared->Prop}{s:Shared}{e tg iter:Expr}{ifs:List Expr}{d:Nat}{it acc:Value}{env:Env}(cl:(clausesOf e)[d]?=some ⟨tg,iter,ifs,0⟩)(hf:(Code.compStart e d it acc env).isFrame=false)
  (h0:codeAny (model prog w) A (.compLoop e d it acc env) R s)
  (h:wpAny (model prog w) A (pyIter it) (fun it' s'=>codeAny (model prog w) A (.compLoop e d it' acc env) R s') (fun _ _=>False) s) (hu:A.under (.compStart e d it acc env)=A:=by rfl) (hq:∀it',(Code.compLoop e d it' acc env).quiet=true:=by intro _;rfl) :
  codeAny (model prog w) A (.compStart e d it acc env) R s:=by
 refine codeAny_of_tree ?_;rw[den_start hf,hu];refine wpAny_notedAt ?_;unfold compStart;rw[cl]
 show wpAny _ A (ask >>= _) _ _ s
 refine lO (rh (wpAny_ite ?_))
 split
 ·first
   |exact lO (lT (lT (And.intro (hq _) h0)))
   |exact lT (And.intro (hq _) h0)
 ·first
   |exact lO (oE (lO (pU (lO (thnF h fun it' s' h'=>lT (And.intro (hq _) h'))))))
   | (refine lO (oE ?_);show wpAny _ _ (standAt iter.pos >>= _) _ _ s;exact lO (pU (lO (thnF h fun it' s' h'=>lT (And.intro (hq _) h')))))
section
variable{Y:Cx}{lL:List (Addr×Obj)}{σ0:St}{H1:Hp}{s:Shared}{J:It}{fp:List Addr}{it:Addr}{tn:Nat->Heap->Prop}{tg:Expr}{ifs:List Expr}{g:TG}{tt:TT}{em:TEm}{p:Pos}{body:Sem Unit}{e:Expr}{d:Nat}{acc:Value}{Q:St->Hp->Prop}{R:Result->Shared->Prop}
theorem loop_em(hf:(Code.compLoop e d (.ref it) acc Y.env).isFrame=false)(ht:compTurn e d (.ref it) acc Y.env=turnOf p tg ifs (.ref it) Y.env body (.compLoop e d (.ref it) acc Y.env))
  (T:Turn Y.prog Y.w Y.K tg J fp it tn) (I:L2.Inv Y lL σ0 H1 s) (st:tn 0 s.heap) (hfp:∀b∈fp,UD Y lL H1 b) (hc:Y.calm=true) (hx:Y.xe=fun _ _=>False)
  (hg:PG Y tg g) (hT:PTs Y ifs tt) (he:PEm Y body em) (h:LoopW J g tt em σ0 H1 Q) (hR:∀σ' H' s',L2.Inv Y lL σ' H' s'->Q σ' H'->R (.ok .next) s')
  (hu:Y.A.under (.compLoop e d (.ref it) acc Y.env)=Y.A:=by rfl) (hq:(Code.compLoop e d (.ref it) acc Y.env).quiet=true:=by rfl) :
  codeAny (model Y.prog Y.w) Y.A (.compLoop e d (.ref it) acc Y.env) R s:=by
 obtain⟨W,⟨m0,w0⟩,turn⟩:=h;have stat:∀{H':Hp},(∀b∈fp,H' b=none)->∀b∈fp,UD Y lL H' b:=fun {H'} hn b hb=>by
  obtain⟨f0,fr⟩:=hfp b hb;exact⟨hn b hb,fr⟩
 unfold PG at hg;unfold PTs at hT;unfold PEm at he;rw[hx] at hg hT he;refine codeAny_loop hq (fun n s'=>∃i σ' H',L2.Inv Y lL σ' H' s'/\tn i s'.heap/\(∀b∈fp,H' b=none)/\W i n σ' H') ?_ m0 ⟨0,σ0,H1,I,st,fun b hb=>(hfp b hb).1,w0⟩;rintro n s5 ⟨i,σ5,H5,I5,st5,fr5,w5⟩;rw[den_loop hf,hu,ht];refine wpAny_noted ?_;unfold turnOf;have TI:=T.item Y rfl rfl rfl hc i lL s5 σ5 H5 (fun _ _=>False) I5 (stat fr5) st5;have TD:=T.done Y rfl rfl rfl hc i lL s5 σ5 H5 (fun _ _=>False) I5 (stat fr5) st5;rcases turn i n σ5 H5 w5 with⟨stop,qn⟩|⟨go,N,hN,step⟩
 ·refine lO (pU (lO (thnF (TD stop) fun r s6 ⟨hr,I6⟩=>?_)));subst hr;exact lT (hR _ _ _ I6 qn)
 ·refine lO (pU (lO (thnF (TI go) fun r s6 ⟨u,hr,h6⟩=>?_)));subst hr;refine lO (thnF h6 fun _ s7 ⟨x,H7,I7,r7,y7,st7,fr7⟩=>?_);have I7':=I7.pinned (stat fr7) (T.obj _ _ st7);refine lO (thnF (hg _ s7 σ5 H7 x u _ I7' r7 (step x H7 y7)) fun _ s8 ⟨σ8,H8,I8,q8⟩=>?_);refine lO (thnF (hT _ s8 σ8 H8 _ I8 q8) fun c s9 ⟨H9,I9,q9⟩=>?_);have back:∀{σa:St}{Ha:Hp}{sa:Shared},L2.Inv Y (lL++yC fp s7.heap) σa Ha sa->(∃m',m'<n/\W (i+1) m' σa Ha)->∃m,m<n/\∃i σ' H',L2.Inv Y lL σ' H' sa/\tn i sa.heap/\(∀b∈fp,H' b=none)/\W i m σ' H':=fun {σa Ha sa} Ia ⟨m',hm,wa⟩=>by
   refine⟨m',hm,i+1,σa,Ha,Ia.unpinned,T.keep _ _ _ st7 fun b hb o e=>(Ia.pin (b,o) (mP _ (mP _ (V4 hb e)))).1,fun b hb=>?_,wa⟩;obtain⟨o,e,d⟩:=T.obj _ _ st7 b hb;exact(Ia.pin (b,o) (mP _ (mP _ (V4 hb e)))).2.1
  cases c with
  |false=>exact lT ⟨rfl,back I9 (hN _ _ (by simpa using q9))⟩
  |true=>
   rw[if_pos rfl] at q9;exact lO (thnF (he _ s9 σ8 H9 _ I9 q9) fun _ s10 ⟨σ10,H10,I10,q10⟩=>lT ⟨rfl,back I10 (hN _ _ q10)⟩)
end
def tCompE(wi:TI)(ix:List (Option Nat))(o0:Addr->HO)(g:TG)(tt:TT)(em:Addr->TEm):TE:=fun σ H Q=>wi σ H fun J H1=>∀D,H1 D=none->LoopW J g tt (em D) (sub ix σ) (upd H1 D (o0 D)) (fun _ H'=>Q (.ref D) H')
section
variable{X:Cx}{lL:List (Addr×Obj)}{σ:St}{H:Hp}{s:Shared}{Nc:List Str}{ix:List (Option Nat)}{scope:Scope}
theorem vn{e tg iter:Expr}{ifs:List Expr}{X5:List Comprehension}{pos2:Pos}{nA:Sem Value}{ob:Obj}{o0:Addr->HO}{bd:Addr->Env->Sem Unit}{wi:TI}{g:TG}{tt:TT}{em:Addr->TEm}{use:Option (Value->Sem Unit)}{QV:Value->Shared->Prop}{Q:VK}
  (I:L2.Inv X lL σ H s) (h:tCompE wi ix o0 g tt em σ H Q)
  (fin:∀(D C:Addr) (H':Hp) (s':Shared) (m:Str->Option Value),L2.Inv X lL σ H' s'->UD X lL H' C->s'.heap.Ns C m->Q (.ref D) H'->compPost (model X.prog X.w) X.A X.xe use QV (.ref D) C (.ok .next) s')
  (hcl:clausesOf e=⟨tg,iter,ifs,0⟩::X5) (hfr:∀it acc env,(Code.compLoop e 0 it acc env).isFrame=false/\(Code.compStart e 0 it acc env).isFrame=false)
  (htn:∀it D env,compTurn e 0 it (.ref D) env=turnOf iter.pos tg ifs it env (bd D env) (.compLoop e 0 it (.ref D) env))
  (hun:∀(A:Around) it acc env,A.under (.compLoop e 0 it acc env)=A/\A.under (.compStart e 0 it acc env)=A) (hqt:∀it acc env,(Code.compLoop e 0 it acc env).quiet=true)
  (hnA:∀(A:Around) (E:Value->Shared->Prop) (Q:Value->Shared->Prop) (s:Shared),Q (.ref s.heap.objs.size) { s with heap:=s.heap.push ob }->wpAny (model X.prog X.w) A nA Q E s)
  (hpl:∀s2:Shared,∀H1,L2.Inv X lL σ H1 s2->L2.Inv X lL σ (upd H1 s2.heap.objs.size (o0 s2.heap.objs.size)) { s2 with heap:=s2.heap.push ob })
  (ok:ZY X.env.scope X.N Nc ix scope) (hc:X.calm=true) (hi:PI X tg iter wi)
  (hg:∀cl C s H fp,PG (YT X Nc scope cl C s H fp) tg g) (ht:∀cl C s H fp,PTs (YT X Nc scope cl C s H fp) ifs tt) (he:∀cl C s H fp D,PEm (YT X Nc scope cl C s H fp) (bd D (compEnvC scope cl C X.env)) (em D))
  (hs:∀x,foldedSetIterable iter X.env x=pure x:=by intro _;rfl):wpAny (model X.prog X.w) X.A (comprehension e scope X.env pos2 nA false (eval iter X.env) use) QV X.xe s:=by
 refine wpAny_comprehension_free (use:=use) (cl:=Wo scope X.env) hcl hs (clos_eq (zh I ok)) ok.kind ok.names (thn (hi lL s σ H _ I h) fun v s1 q1=>thn q1 fun itv s2 q2=>?_);obtain⟨it,fp,tn,J,H1,e1,I2,T,st2,f2,q⟩:=q2;subst e1;have hD:H1 s2.heap.objs.size=none:=I2.hok.fresh (lS _);have lw:=q _ hD;refine hnA _ _ _ _ ?_;have I3:=hpl s2 H1 I2;have hob2:=T.obj 0 _ st2;have f3:∀b∈fp,UD X lL (upd H1 s2.heap.objs.size (o0 s2.heap.objs.size)) b:=fun b hb=>by
  obtain⟨o,e,_⟩:=hob2 b hb;obtain⟨f0,fr⟩:=f2 b hb;exact⟨by rw[ZB (me (md e))];exact f0,fr⟩
 have st3:tn 0 (s2.heap.push ob):=T.keep 0 _ _ st2 fun b _ o e=>lZ _ e;generalize hs3:({ s2 with heap:=s2.heap.push ob }:Shared)=s3 at I3 ⊢;have st3':tn 0 s3.heap:=by rw[<- hs3];exact st3
 refine wpAny_newFunctionEnv ok.nocell (by intro y hy;simp at hy) (fun h1 hns hsb=>?_) ok.kind;have k1:∀b o,s3.heap.get? b=some o->h1.get? b=some o:=fun b o e=>(hsb.2 b (me (md e))).trans (lZ _ e);have hob3:∀b∈fp,∃o,s3.heap.get? b=some o:=fun b hb=>let ⟨o,e,_⟩:=T.obj 0 _ st3' b hb; ⟨o,e⟩
 have I4:L2.Inv (YT X Nc scope (Wo scope X.env) s3.heap.objs.size s3 (upd H1 s2.heap.objs.size (o0 s2.heap.objs.size)) fp) lL (sub ix σ) (upd H1 s2.heap.objs.size (o0 s2.heap.objs.size)) { s3 with heap:=h1,toks:=s3.toks+([]:List (Str×Value)).length }:=
  JI I3 ok f3 hob3 hns k1
 have st4:tn 0 h1:=T.keep 0 _ _ st3' fun b _ o e=>k1 b o e;have hC:s3.heap.get? s3.heap.objs.size=none:=Heap.get?_none_of_le (lS _);have f4:∀b∈fp,UD (YT X Nc scope (Wo scope X.env) s3.heap.objs.size s3 (upd H1 s2.heap.objs.size (o0 s2.heap.objs.size)) fp) lL (upd H1 s2.heap.objs.size (o0 s2.heap.objs.size)) b:=fun b hb=>by
  obtain⟨o,e⟩:=hob3 b hb;obtain⟨f0,f1,ff,f3',f4,f5⟩:=f3 b hb;have nst:b∉frs X.stack:=fun z=>by
   rcases mw.mp (I3.stkSub b z) with z|z
   ·exact f1 z
   ·exact ff z
  exact⟨f0,me (md e),nst,.inl hb,fun x c q=>f4 x c (WC (zh I3 ok) q),f5⟩
 have loop:=loop_em (Y:=YT X Nc scope (Wo scope X.env) s3.heap.objs.size s3 (upd H1 s2.heap.objs.size (o0 s2.heap.objs.size)) fp) (e:=e) (d:=0) (acc:=.ref s2.heap.objs.size) (p:=iter.pos) (R:=compPost (model X.prog X.w) X.A X.xe use QV (.ref s2.heap.objs.size) s3.heap.objs.size)
  (hfr _ _ _).1 (htn _ _ _) T I4 st4 f4 hc rfl (hg _ _ _ _ _) (ht _ _ _ _ _) (he _ _ _ _ _ _) lw (fun σ' H' s' J' qq=>by
   obtain⟨m',hn',_⟩:=id J'.loc;have hCn:H' s3.heap.objs.size=none:=J'.free;exact fin _ _ H' s' m' (comp_end (h':=s'.heap) I3 f3 hC J' (.refl ..)) (I3.fpOk (lS _) hCn) hn' qq) (hun _ _ _ _).1 (hqt _ _ _)
 exact start_any (by rw[hcl];rfl) (hfr _ _ _).2 loop (T.self X.A 0 _ _ _ st4 loop) (hun _ _ _ _).2 (fun _=>hqt _ _ _)
end
theorem ko{J:It}{n:Nat}{g:TG}{tt:TT}{em:TEm}{σ0:St}{H0:Hp}{Q:St->Hp->Prop}(Pv:Nat->St->Hp->Prop)(h0:Pv 0 σ0 H0)
  (hgo:∀i σ H,i<n->Pv i σ H->J.go i H) (hst:∀σ H,Pv n σ H->J.stop n H)
  (hs:∀i x σ H H2,i<n->Pv i σ H->J.yld i H x H2->∀(N:St->Hp->Prop),(∀σ2 H4,Pv (i+1) σ2 H4->N σ2 H4) ->
   g x σ H2 fun σ2 H3=>tt σ2 H3 fun c H4=>if c=true then em σ2 H4 N else N σ2 H4)
  (hd:∀σ H,Pv n σ H->Q σ H):LoopW J g tt em σ0 H0 Q:=by
 refine⟨fun i m σ H=>m=n-i/\i<=n/\Pv i σ H,⟨n,by simp,mN _,h0⟩,?_⟩;rintro i m σ H ⟨rfl,hi,p⟩
 by_cases hlt:i<n
 ·refine .inr ⟨hgo i σ H hlt p,fun σ2 H4=>Pv (i+1) σ2 H4,fun σ2 H4 q=>⟨n-(i+1),by omega,rfl,hlt,q⟩,fun x H2 y=>hs i x σ H H2 hlt p y _ fun σ2 H4 q=>q⟩
 ·have:i=n:=by omega
  subst this;exact .inl ⟨hst σ H p,hd σ H p⟩
def emL(te:TE)(D:Addr):TEm:=fun σ H Q=>te σ H fun v H5=>∃xs,H5 D=some (.lst xs)/\xs.length<sizeLine/\Q σ (upd H5 D (.lst (xs++[v])))
theorem pem_list{Y:Cx}{elt:Expr}{te:TE}{D:Addr}(h:PE Y elt te):PEm Y (do let _ <- call (.builtin "list.append") [.ref D,<- eval elt Y.env]) (emL te D):=by
 intro lL s σ H Q I q;refine lO (thn (h lL s σ H _ I q) fun z s1 ⟨v,H1,I1,r1,xs,hx,hz,q1⟩=>?_);have ap:=Z4 (X:=Y) lL s1 σ H1 (.ref D) [v] (.ref D) [z] (fun _ Hb=>Q σ Hb) I1 rfl (.cons r1 .nil) ⟨_,xs,v,rfl,rfl,hx,hz,q1⟩;exact lO (thn ap fun _ s11 ⟨_,H11,I11,_,q11⟩=>lT ⟨σ,H11,I11,q11⟩)
def emD(tk tv:TE)(D:Addr):TEm:=fun σ H Q=>tk σ H fun y H5=>tv σ H5 fun v H6=>∃H7,DPut H6 D y v H7/\Q σ H7
section
variable{X:Cx}{lL:List (Addr×Obj)}{σ:L2.St}{H:Hp}{s:Shared}{a:Addr}{y v:V}{u r:Value}{A:Around}{E:Value->Shared->Prop}
theorem d_put{H':Hp}{Q:Unit->Shared->Prop}(hu:A.units<cLine)(I:L2.Inv X lL σ H s)(g:DPut H a y v H')(ry:ZQ y u)(rv:ZQ v r)(h:∀s',L2.Inv X lL σ H' s'->Q () s') :
  wpAny (model X.prog X.w) A (dictSet a u r) Q E s:=by
 rcases g with⟨kvs,k,e,ey,l,eH⟩|⟨kvs,k,b,e,ey,eb,l,eH⟩
 ·subst ey eH;obtain⟨z,hd,vs,rel,dd⟩:=dk_of I.hok e;have hz:vs.length<=sizeLine:=by rw[<- rel.length];exact z
  have hl:(WV kvs k v).length<=sizeLine:=by have:=Wd kvs k v;omega
  refine wpAny_dictSet_pairs (hsz:=hz) (kV_is ry) dd fun h' dd' hs=>h _ ?_;have he:∃q,h'.get? a=some q:=let ⟨q,_,_,hq,_⟩:=dd'; ⟨q,hq⟩
  exact UA I (by rw[e];exact True.intro) hs he (dk_new hl hd (rel.put k rv) dd')
 ·subst ey eH;cases (show u=Value.ref b from ry);obtain⟨z,hd,xs,rel,dd⟩:=dt_of I.hok e;have hz:xs.length<=sizeLine:=by rw[<- pF rel];exact z
  have hl:(WV kvs k v).length<=sizeLine:=by have:=Wd kvs k v;omega
  refine wpAny_dictSet_heap (hsz:=hz) hu (yh I.hok eb) dd fun h' dd' hs=>h _ ?_;obtain⟨q,es,ep,hq,h2,h3,h4,_,h5⟩:=dd';refine UA I (by rw[e];exact True.intro) hs ⟨q,hq⟩ ⟨hl,hd,_,(rel.put k eb rv).keeps fun c ys ec=>?_,q,es,ep,hq,h2,h3,h4,h5⟩;rw[ZB (Vw ec e (fun z=>nomatch z))];exact ec
end
theorem pem_dict{Y:Cx}{kx vx:Expr}{tk tv:TE}{D:Addr}(hu:Y.A.units<cLine)(hk:PE Y kx tk)(hv:PE Y vx tv):PEm Y (do
   let kv <- eval kx Y.env
   let vv <- holding [kv] (eval vx Y.env)
   standAt { kx.pos with endLine:=vx.pos.endLine,endCol:=vx.pos.endCol }
   holding [kv,vv] (dictSet D kv vv)) (emD tk tv D):=by
 intro lL s σ H Q I q;refine lO (thn (hk lL s σ H _ I q) fun z s1 ⟨y,H1,I1,r1,q1⟩=>?_);refine lO (nj (thn (hv lL s1 σ H1 _ I1 q1) fun z2 s2 ⟨v,H2,I2,r2,H3,hp,q2⟩=>?_));exact lO (pU (nj (d_put hu I2 hp r1 r2 fun s' I'=>⟨σ,H3,I',q2⟩)))
section
variable{X:Cx}{lL:List (Addr×Obj)}{σ:St}{H:Hp}{s:Shared}{Nc:List Str}{ix:List (Option Nat)}{scope:Scope}
theorem laid_list{s2:Shared}{H1:Hp}(I2:L2.Inv X lL σ H1 s2):L2.Inv X lL σ (upd H1 s2.heap.objs.size (.lst [])) { s2 with heap:=s2.heap.push { cls:=.type "list",data:=.seq ([]:List Value).toArray } }:=
 I2.laid (t':=s2.toks) (fun b u e=>lZ _ e) (lS _) ⟨mN _,[],0,.nil,mD _ rfl⟩
theorem Jt{i:Nat}{x:Str}{pos':Pos}{D:Ends}{L C:Addr}{H':Hp}{s':Shared}{m:Str->Option Value}(hN:X.N.Nodup)(hi:X.N[i]?=some x)(hx:X.env.kindOf x=some .local)(I':L2.Inv X lL σ H' s')(f:UD X lL H' C)(hn:s'.heap.Ns C m)(qq:D.nx (σ.set i (some (.ref L))) H') :
  compPost (model X.prog X.w) X.A X.xe (some (assign (.Name x pos') X.env)) (fun _ s'=>SP X lL D .next s') (.ref L) C (.ok .next) s':=by
 obtain⟨f0,f1,f2,f3,f4,f5⟩:=f;refine wpAny_assign_Name (xW (v:=.ref L) I' hN hi (.inl hx) rfl (fun s2 I2 ⟨a,sb,ha⟩=>?_) (.inr hx));have hCa:C≠a:=by
  rintro rfl;rcases ha with z|z
  ·exact f1 z
  ·exact f4 _ _ z rfl
 exact⟨m,hn.sameBut sb hCa,fun h' sb'=>⟨_,H',I2.turned (t':=s2.toks) (fun b o hb e=>(sb'.2 b hb).trans e) f0 f1 f3 f4 f5,qq⟩⟩
theorem pe_dcompE{kx vx tg iter:Expr}{ifs:List Expr}{pos:Pos}{wi:TI}{g:TG}{tt:TT}{tk tv:TE}{o0:HO}(h0:o0=.dK []\/o0=.dT [])(ok:ZY X.env.scope X.N Nc ix scope)(hu:X.A.units<cLine)(hc:X.calm=true)(hi:PI X tg iter wi)
  (hg:∀cl C s H fp,PG (YT X Nc scope cl C s H fp) tg g) (ht:∀cl C s H fp,PTs (YT X Nc scope cl C s H fp) ifs tt)
  (hk:∀cl C s H fp,PE (YT X Nc scope cl C s H fp) kx tk) (hv:∀cl C s H fp,PE (YT X Nc scope cl C s H fp) vx tv)
  (hs:∀x,foldedSetIterable iter X.env x=pure x:=by intro _;rfl):PE X (.DictComp kx vx [⟨tg,iter,ifs,0⟩] scope pos) (tCompE wi ix (fun _=>o0) g tt (fun D=>emD tk tv D)):=by
 intro lL s σ H Q I h;rw[arm_eval_DictComp];refine vn (e:=.DictComp kx vx [⟨tg,iter,ifs,0⟩] scope pos) (use:=none) (QV:=EP X lL σ Q) (ob:={ cls:=.type "dict",data:=.dict #[] }) (bd:=fun D env=>do
   let kv <- eval kx env
   let vv <- holding [kv] (eval vx env)
   standAt { kx.pos with endLine:=vx.pos.endLine,endCol:=vx.pos.endCol }
   holding [kv,vv] (dictSet D kv vv)) I h (fun D C H' s' m I' f hn qq=>?_) rfl (fun _ _ _=>⟨rfl,rfl⟩) (fun _ _ _=>rfl) (fun _ _ _ _=>⟨rfl,rfl⟩) (fun _ _ _=>rfl)
  (fun _ _ _ _ q=>nF q) (fun s2 H1 I2=>?_) ok hc hi hg ht (fun cl C s H fp D=>pem_dict (Y:=YT X Nc scope cl C s H fp) hu (hk cl C s H fp) (hv cl C s H fp)) hs
 ·obtain⟨f0,f1,f2,f3,f4,f5⟩:=f;exact⟨m,hn,fun h' sb=>⟨.ref D,H',I'.turned (t':=s'.toks) (fun b o hb e=>(sb.2 b hb).trans e) f0 f1 f3 f4 f5,rfl,qq⟩⟩
 ·rcases h0 with rfl|rfl
  ·exact I2.laid (t':=s2.toks) (fun b u e=>lZ _ e) (lS _) (qf s2.heap I2.big)
  ·exact I2.laid (t':=s2.toks) (fun b u e=>lZ _ e) (lS _) (dt_empty s2.heap I2.big)
end
def qJ(J:It)(D:Addr)(g:TG)(tt:TT)(te:TE)(σ0:St)(H1:Hp)(Q:VK):Prop:=LoopW J g tt (emL te D) σ0 (upd H1 D (.lst [])) (fun _ H'=>Q (.ref D) H')
def tCompL(wi:TI)(ix:List (Option Nat))(g:TG)(tt:TT)(te:TE):TE:=fun σ H Q=>wi σ H fun J H1=>∀D,H1 D=none->qJ J D g tt te (sub ix σ) H1 Q
section
variable{X:Cx}{lL:List (Addr×Obj)}{σ:St}{H:Hp}{s:Shared}{Nc:List Str}{ix:List (Option Nat)}{scope:Scope}
theorem vd{elt tg iter:Expr}{ifs:List Expr}{pos pos2:Pos}{wi:TI}{g:TG}{tt:TT}{te:TE}{use:Option (Value->Sem Unit)}{QV:Value->Shared->Prop}{Q:VK}(I:L2.Inv X lL σ H s)(h:tCompL wi ix g tt te σ H Q)
  (fin:∀(D C:Addr) (H':Hp) (s':Shared) (m:Str->Option Value),L2.Inv X lL σ H' s'->UD X lL H' C->s'.heap.Ns C m->Q (.ref D) H'->compPost (model X.prog X.w) X.A X.xe use QV (.ref D) C (.ok .next) s')
  (ok:ZY X.env.scope X.N Nc ix scope) (hc:X.calm=true) (hi:PI X tg iter wi)
  (hg:∀cl C s H fp,PG (YT X Nc scope cl C s H fp) tg g) (ht:∀cl C s H fp,PTs (YT X Nc scope cl C s H fp) ifs tt) (he:∀cl C s H fp,PE (YT X Nc scope cl C s H fp) elt te)
  (hs:∀x,foldedSetIterable iter X.env x=pure x):wpAny (model X.prog X.w) X.A (comprehension (.ListComp elt [⟨tg,iter,ifs,0⟩] scope pos) scope X.env pos2 (newList []) false (eval iter X.env) use) QV X.xe s:=
 vn (em:=fun D=>emL te D) (o0:=fun _=>.lst []) (ob:={ cls:=.type "list",data:=.seq ([]:List Value).toArray }) (bd:=fun D env=>do let _ <- call (.builtin "list.append") [.ref D,<- eval elt env]) I h fin rfl (fun _ _ _=>⟨rfl,rfl⟩) (fun _ _ _=>rfl) (fun _ _ _ _=>⟨rfl,rfl⟩) (fun _ _ _=>rfl)
  (fun _ _ _ _ q=>nF q) (fun _ _ I2=>laid_list I2) ok hc hi hg ht (fun cl C s H fp D=>pem_list (he cl C s H fp)) hs
theorem Yu{elt tg iter:Expr}{ifs:List Expr}{pos:Pos}{wi:TI}{g:TG}{tt:TT}{te:TE}(ok:ZY X.env.scope X.N Nc ix scope)(hc:X.calm=true)(hi:PI X tg iter wi)
  (hg:∀cl C s H fp,PG (YT X Nc scope cl C s H fp) tg g) (ht:∀cl C s H fp,PTs (YT X Nc scope cl C s H fp) ifs tt) (he:∀cl C s H fp,PE (YT X Nc scope cl C s H fp) elt te)
  (hs:∀x,foldedSetIterable iter X.env x=pure x:=by intro _;rfl):PE X (.ListComp elt [⟨tg,iter,ifs,0⟩] scope pos) (tCompL wi ix g tt te):=by
 intro lL s σ H Q I h;rw[eval_ListComp];refine vd (use:=none) I h (fun D C H' s' m I' f hn qq=>?_) ok hc hi hg ht he hs;obtain⟨f0,f1,f2,f3,f4,f5⟩:=f;exact⟨m,hn,fun h' sb=>⟨.ref D,H',I'.turned (t':=s'.toks) (fun b o hb e=>(sb.2 b hb).trans e) f0 f1 f3 f4 f5,rfl,qq⟩⟩
theorem WP{i:Nat}{x:Str}{elt tg iter:Expr}{ifs:List Expr}{pos spos pos':Pos}{wi:TI}{g:TG}{tt:TT}{te:TE}(hN:X.N.Nodup)(hi:X.N[i]?=some x)(hx:X.env.kindOf x=some .local)
  (ok:ZY X.env.scope X.N Nc ix scope) (hc:X.calm=true) (hit:PI X tg iter wi)
  (hg:∀cl C s H fp,PG (YT X Nc scope cl C s H fp) tg g) (ht:∀cl C s H fp,PTs (YT X Nc scope cl C s H fp) ifs tt) (he:∀cl C s H fp,PE (YT X Nc scope cl C s H fp) elt te)
  (hsw:swapsWith (.ListComp elt [⟨tg,iter,ifs,0⟩] scope pos) (some (.Name x pos')) spos.line X.env=pure true:=by rfl)
  (hs:∀x,foldedSetIterable iter X.env x=pure x:=by intro _;rfl):PS X (.Assign [.Name x pos'] (.ListComp elt [⟨tg,iter,ifs,0⟩] scope pos) spos) (tAsg (tCompL wi ix g tt te) (Vy i)):=by
 intro lL s σ H D I h;rw[exec_Assign_Name_used _ _ _ _ hsw];refine lO (pU (lO ?_))
 show wpAny _ X.A (do let _ <- comprehension (.ListComp elt [⟨tg,iter,ifs,0⟩] scope pos) scope X.env _ (newList []) false (eval iter X.env) (some (assign (.Name x pos') X.env))) _ _ s
 refine lO (thn (vd (use:=some (assign (.Name x pos') X.env)) (QV:=fun _ s'=>SP X lL D .next s') I h (fun L C H' s' m I' f hn qq=>?_) ok hc hit hg ht he hs) fun _ s' q=>lT (lT q));exact Jt hN hi hx I' f hn qq
end
theorem Xv{J:It}{n:Nat}{D:Addr}{g:TG}{tt:TT}{te:TE}{σ0:St}{H0:Hp}{Q:VK}(Pv:Nat->St->Hp->Prop)(h0:Pv 0 σ0 (upd H0 D (.lst [])))
  (hgo:∀i σ H,i<n->Pv i σ H->J.go i H) (hst:∀σ H,Pv n σ H->J.stop n H)
  (hs:∀i x σ H H2,i<n->Pv i σ H->J.yld i H x H2->∀(N:V->St->Hp->Prop) (N0:St->Hp->Prop),(∀v σ2 H5 ys,H5 D=some (.lst ys)->ys.length<sizeLine->Pv (i+1) σ2 (upd H5 D (.lst (ys++[v])))->N v σ2 H5)->(∀σ2 H4,Pv (i+1) σ2 H4->N0 σ2 H4) ->
   g x σ H2 fun σ2 H3=>tt σ2 H3 fun c H4=>if c=true then te σ2 H4 fun v H5=>N v σ2 H5 else N0 σ2 H4)
  (hd:∀σ H,Pv n σ H->Q (.ref D) H):qJ J D g tt te σ0 H0 Q:=by
 refine ko (n:=n) Pv h0 hgo hst (fun i x σ H H2 hi p y N hN=>?_) hd;exact hs i x σ H H2 hi p y (fun v σ2 H5=>∃ys,H5 D=some (.lst ys)/\ys.length<sizeLine/\N σ2 (upd H5 D (.lst (ys++[v])))) N (fun v σ2 H5 ys a b c=>⟨ys,a,b,hN _ _ c⟩) hN
theorem Wv{K:W.Frag}{a D:Addr}{xs:List V}{te:TE}{τ:St}{H0:Hp}{Q:VK}(hD:H0 D=none)(hq:SqL K H0 a xs)(hz:xs.length<=sizeLine)(R:Nat->V->Hp->Prop)(mono:∀i v H H',Zh H H'->R i v H->R i v H')
  (step:∀i x H (N:V->Hp->Prop),xs[i]?=some x->Zh H0 H->(∀v H4,Zh H H4->R i v (New H H4)->N v H4)->te (some x::τ) H N)
  (fin:∀H' ys,H' D=some (.lst ys)->Zh H0 H'->ys.length=xs.length->(∀i v,ys[i]?=some v->R i v (New H0 H'))->Q (.ref D) H') :
  qJ (Itl K a) D (Vy 0) vj te (none::τ) H0 Q:=by
 refine Xv (n:=xs.length) (fun i σ H=>∃z ys,σ=z::τ/\H D=some (.lst ys)/\ys.length=i/\Zh H0 H/\∀j v,ys[j]?=some v->R j v (hide D (New H0 H))) ?_ ?_ ?_ ?_ ?_
 ·exact⟨none,[],rfl,Zb,rfl,Ze hD,fun j v e=>by simp at e⟩
 ·rintro i σ H hi ⟨z,ys,rfl,_,_,s,_⟩;exact⟨xs,xs[i],s.seq hq,by simp[hi]⟩
 ·rintro σ H ⟨z,ys,rfl,_,_,s,_⟩;exact⟨xs,s.seq hq,lS _⟩
 ·rintro i x σ H H2 hi ⟨z,ys,rfl,hy,hl,s,r⟩ ⟨rfl,hx⟩ N N0 hN hN0
  show te (some x::τ) H2 _
  refine step i x H2 _ (hx xs (s.seq hq)) s fun v H4 s4 r4=>?_;refine hN v _ H4 ys (s4 _ _ hy) (by omega) ⟨some x,ys++[v],rfl,Zb,by rw[lW,ng,hl],?_,?_⟩
  ·exact(Zq.upd (Zh.x (s.trans s4))).same hD
  ·intro j w e
   by_cases hj:j<ys.length
   ·rw[mQ hj] at e;refine mono j w _ _ ?_ (r j w e);intro b o hb;obtain⟨nb,hb⟩:=vo hb;obtain⟨h1,h2⟩:=New.of hb;exact WH nb (New.mk h1 (by rw[ZB nb];exact s4 _ _ h2))
   ·have ej:j=ys.length:=by
     have:=(mo.mp e).1;rw[lW,ng] at this;omega
    subst ej;simp at e;subst e;rw[hl];refine mono i v _ _ ?_ r4;intro b o hb;obtain⟨h1,h2⟩:=New.of hb;have nb:b≠D:=fun z=>by subst z;rw[hy] at h1;cases h1
    exact WH nb (New.mk (s.free h1) (by rw[ZB nb];exact h2))
 ·rintro σ H ⟨z,ys,rfl,hy,hl,s,r⟩;exact fin H ys hy s hl fun i v e=>mono i v _ _ Vm (r i v e)
theorem Ui{te:TE}{σ:St}{H:Hp}{N:V->Hp->Prop}{N0:Hp->Prop}(h:te σ H N):vj σ H fun c H4=>if c=true then te σ H4 N else N0 H4:=by
 show(if true=true then te σ H N else N0 H)
 rw[if_pos rfl];exact h
theorem ym{α:Type}{J:It}{D:Addr}{tt:TT}{te:TE}{τ:St}{H0:Hp}{Q:VK}(l:List α)(φ:α->V)(p:α->Bool)(f:α->V)(hD:H0 D=none)(hz:l.length<=sizeLine)
  (hgo:∀i H,i<l.length->Zh H0 H->J.go i H) (hst:∀H,Zh H0 H->J.stop l.length H) (hy:∀i x H H2 (h:i<l.length),Zh H0 H->J.yld i H x H2->H2=H/\x=φ l[i])
  (step:∀x∈l,∀H (N:V->Hp->Prop) (N0:Hp->Prop),Zh H0 H->(∀H4,Zh H H4->p x=true->N (f x) H4)->(∀H4,Zh H H4->p x=false->N0 H4)->tt (some (φ x)::τ) H fun c H4=>if c=true then te (some (φ x)::τ) H4 N else N0 H4)
  (fin:∀H',H' D=some (.lst ((l.filter p).map f))->Zh H0 H'->Q (.ref D) H'):qJ J D (Vy 0) tt te (none::τ) H0 Q:=by
 refine Xv (n:=l.length) (fun i σ H=>∃z,σ=z::τ/\H D=some (.lst (((l.take i).filter p).map f))/\Zh H0 H) ?_ ?_ ?_ ?_ ?_
 ·exact⟨none,rfl,Zb,Ze hD⟩
 ·rintro i σ H hi ⟨z,rfl,_,s⟩;exact hgo i H hi s
 ·rintro σ H ⟨z,rfl,_,s⟩;exact hst H s
 ·rintro i x σ H H2 hi ⟨z,rfl,hd,s⟩ hyl N N0 hN hN0;obtain⟨rfl,rfl⟩:=hy i x H H2 hi s hyl;have tk:(l.take (i+1)).filter p=(l.take i).filter p++[l[i]].filter p:=by rw[List.take_succ_eq_append_getElem hi,List.filter_append]
  have le:(((l.take i).filter p).map f).length<sizeLine:=by
   rw[lQ];have:=List.length_filter_le p (l.take i);rw[mf] at this;omega
  refine step _ (mH hi) H2 (fun v H5=>N v (some (φ l[i])::τ) H5) (fun H4=>N0 (some (φ l[i])::τ) H4) s (fun H4 s4 hp=>?_) (fun H4 s4 hp=>?_)
  ·refine hN _ _ H4 _ (s4 _ _ hd) le ⟨_,rfl,?_,(Zq.upd (Zh.x (s.trans s4))).same hD⟩;rw[Zb,tk,rH hp,mB];rfl
  ·refine hN0 _ H4 ⟨_,rfl,?_,s.trans s4⟩;rw[s4 _ _ hd,tk,rJ (by rw[hp];exact mI),List.filter_nil,nW]
 ·rintro σ H ⟨z,rfl,hd,s⟩;rw[pq] at hd;exact fin H hd s
theorem comp_selL{α:Type}{K:W.Frag}{a D:Addr}{tt:TT}{te:TE}{τ:St}{H0:Hp}{Q:VK}(l:List α)(φ:α->V)(p:α->Bool)(f:α->V)(hD:H0 D=none)(hq:SqL K H0 a (l.map φ))(hz:l.length<=sizeLine)
  (step:∀x∈l,∀H (N:V->Hp->Prop) (N0:Hp->Prop),Zh H0 H->(∀H4,Zh H H4->p x=true->N (f x) H4)->(∀H4,Zh H H4->p x=false->N0 H4)->tt (some (φ x)::τ) H fun c H4=>if c=true then te (some (φ x)::τ) H4 N else N0 H4)
  (fin:∀H',H' D=some (.lst ((l.filter p).map f))->Zh H0 H'->Q (.ref D) H'):qJ (Itl K a) D (Vy 0) tt te (none::τ) H0 Q:=by
 refine ym l φ p f hD hz (fun i H hi s=>⟨_,φ l[i],s.seq hq,by rw[mh,lU hi];rfl⟩) (fun H s=>⟨_,s.seq hq,by rw[lQ];exact lS _⟩) (fun i x H H2 hi s hyl=>?_) step fin;obtain⟨rfl,hx⟩:=hyl;have e:=hx _ (s.seq hq);rw[mh,lU hi] at e;exact⟨rfl,(mv e).symm⟩
theorem comp_selR{n:Nat}{D:Addr}{tt:TT}{te:TE}{τ:St}{H0:Hp}{Q:VK}(p:Nat->Bool)(f:Nat->V)(hD:H0 D=none)(hz:n<=sizeLine)
  (step:∀k,k<n->∀H (N:V->Hp->Prop) (N0:Hp->Prop),Zh H0 H->(∀H4,Zh H H4->p k=true->N (f k) H4)->(∀H4,Zh H H4->p k=false->N0 H4)->tt (some (.int (k:Nat))::τ) H fun c H4=>if c=true then te (some (.int (k:Nat))::τ) H4 N else N0 H4)
  (fin:∀H',H' D=some (.lst (((List.range n).filter p).map f))->Zh H0 H'->Q (.ref D) H'):qJ (Itr 0 n) D (Vy 0) tt te (none::τ) H0 Q:=by
 refine ym (List.range n) (fun k=>.int (k:Nat)) p f hD (by rw[mZ];exact hz) (fun i H hi _=>by rw[mZ] at hi;exact hi) (fun H _=>by rw[mZ];exact lS _) (fun i x H H2 hi s hyl=>?_) (fun x hx=>step x (pG.mp hx)) fin;obtain⟨rfl,rfl⟩:=hyl;refine⟨rfl,?_⟩;rw[List.getElem_range,Int.zero_add]
theorem yN{α:Type}{K:W.Frag}{a D:Addr}{te:TE}{τ:St}{H0:Hp}{Q:VK}(l:List α)(φ:α->V)(f:α->V)(hD:H0 D=none)(hq:SqL K H0 a (l.map φ))(hz:l.length<=sizeLine)
  (step:∀x∈l,∀H (N:V->Hp->Prop),Zh H0 H->(∀H4,Zh H H4->N (f x) H4)->te (some (φ x)::τ) H N)
  (fin:∀H',H' D=some (.lst (l.map f))->Zh H0 H'->Q (.ref D) H'):qJ (Itl K a) D (Vy 0) vj te (none::τ) H0 Q:=by
 refine comp_selL l φ (fun _=>true) f hD hq hz (fun x hx H N N0 s h1 _=>?_) (fun H' h s=>fin H' (by rw[h,List.filter_eq_self.mpr (fun _ _=>rfl)]) s);exact Ui (step x hx H N s fun H4 s4=>h1 H4 s4 rfl)
theorem UV{n:Nat}{D:Addr}{te:TE}{τ:St}{H0:Hp}{Q:VK}(f:Nat->V)(hD:H0 D=none)(hz:n<=sizeLine)
  (step:∀k,k<n->∀H (N:V->Hp->Prop),Zh H0 H->(∀H4,Zh H H4->N (f k) H4)->te (some (.int (k:Nat))::τ) H N)
  (fin:∀H',H' D=some (.lst ((List.range n).map f))->Zh H0 H'->Q (.ref D) H'):qJ (Itr 0 n) D (Vy 0) vj te (none::τ) H0 Q:=by
 refine comp_selR (fun _=>true) f hD hz (fun x hx H N N0 s h1 _=>?_) (fun H' h s=>fin H' (by rw[h,List.filter_eq_self.mpr (fun _ _=>rfl)]) s);exact Ui (step x hx H N s fun H4 s4=>h1 H4 s4 rfl)
def Vd(S W:Addr)(G G':Hp):Prop:=∀b o,b≠S->b≠W->G b=some o->G' b=some o
theorem Vd.trans{S W:Addr}{G G1 G2:Hp}(a:Vd S W G G1)(b:Vd S W G1 G2):Vd S W G G2:=fun c o n m e=>b c o n m (a c o n m e)
theorem Zh.two{S W:Addr}{G G':Hp}(h:Zh G G'):Vd S W G G':=fun b o _ _ e=>h b o e
theorem Vd.upd1{S W:Addr}{G G':Hp}{o:HO}(h:Vd S W G G'):Vd S W G (upd G' S o):=fun b u n m e=>by rw[ZB n];exact h b u n m e
theorem Vd.upd2{S W:Addr}{G G':Hp}{o:HO}(h:Vd S W G G'):Vd S W G (upd G' W o):=fun b u n m e=>by rw[ZB m];exact h b u n m e
theorem Wc(xs:List V)(k:Nat):W0 xs none (some (k:Int))=xs.take k:=by
 by_cases h:k<=xs.length
 ·exact cutV_to xs k h
 ·unfold W0;rw[HT.sIx_nat,HT.sIx_none,Nat.min_eq_right (by omega),p6 (by omega:xs.length<=k)];simp
theorem jA{l:List Int}{M:Nat}(nd:l.Nodup)(h:∀y∈l,0<=y/\y<(M:Nat)):l.length<=M:=by
 have h1:(l.map Int.toNat).Nodup:=by
  unfold List.Nodup;rw[List.pairwise_map];refine List.Pairwise.imp_of_mem (fun {a b} ha hb n e=>n ?_) nd;have:=h a ha;have:=h b hb;omega
 have h2:=xj (l₂:=List.range M) h1 fun x hx=>by
  obtain⟨y,hy,rfl⟩:=mE.mp hx;have:=h y hy;exact pG.mpr (by omega)
 rw[lQ,mZ] at h2;exact h2
abbrev ZOut(h:Heap)(z TI TO a:Addr)(f:Bool):Prop:=h.get? z=some { cls:=.type "zip",dict:=none,data:=.fields #[rawInt a,.bool f,.bool false,.ref TI,.ref TO],slots:=#[] }
section
variable{P:Program}{w:World}{A:Around}{E:Value->Shared->Prop}{s:Shared}
theorem zout_item{z TI TO i1 i2 l1 l2 a:Addr}{f:Bool}{oa:Obj}{k1 k2:Nat}{xs ys:Array Value}{x y:Value}{Q:Option Value->Shared->Prop}(D:ZipApart z TI TO i1 i2 l1 l2)(hz:ZOut s.heap z TI TO a f)(ha:s.heap.get? a=some oa)(haz:a≠z)
  (hTI:IsPair s.heap TI (.ref i1) (.ref i2)) (h1:s.heap.IsListIter i1 l1 k1) (h2:s.heap.IsListIter i2 l2 k2) (hl1:s.heap.IsList l1 xs) (hl2:s.heap.IsList l2 ys) (hx:xs[k1]?=some x) (hy:ys[k2]?=some y)
  (hQ:∀h',ZOut h' z TI TO a true->h'.IsListIter i1 l1 (k1+1)->h'.IsListIter i2 l2 (k2+1)->IsPair h' s.heap.objs.size x y->h'.objs.size=s.heap.objs.size+1->(∀c o,c≠z->c≠i1->c≠i2->s.heap.get? c=some o->h'.get? c=some o)->Q (some (.ref s.heap.objs.size)) { s with heap:=h' }) :
  wpAny (model P w) A (pyNext (.ref z)) Q E s:=by
 have ty:s.TypeIs (.ref z) "zip" := ⟨_,hz,rfl⟩;unfold pyNext;refine lO (pA (oU (name:=Str.ofString "__next__") ty rW (nE rW ty PySem.F.entry_zip_next ?_ (PySem.F.args_zip_next_1 _))))
 show wpAny _ _ (field (.ref z) 2 >>= _) _ _ _
 refine lO (nz hz rfl (x:=Value.bool false) rfl ?_)
 show wpAny _ _ (field (.ref z) 3 >>= _) _ _ _
 refine lO (nz hz rfl (x:=Value.ref TI) rfl ?_);refine lO (pO hTI rfl ?_)
 show wpAny _ _ (Builtin.SmallTypes.ownedTupleIsFree (.ref z) >>= _) _ _ _
 refine lO (thn (Q:=fun b s1=>b=false/\∃hp,s1={ s with heap:=hp }/\ZOut hp z TI TO a true/\Heap.SameBut z s.heap hp) ?_ fun b s1 hb=>?_)
 ·unfold Builtin.SmallTypes.ownedTupleIsFree;refine lO (nz hz rfl (x:=rawInt a) rfl ?_)
  show wpAny _ _ (loadIfAlive ((a:Int).toNat) >>= _) _ _ _
  rw[m6];refine lO (W.kdx_alive ha ?_);simp only[Option.isNone_some,mT,mK];refine lO (nz hz rfl (x:=Value.bool f) rfl ?_);cases f with
  |true=>
   rw[if_neg (show ¬((Value.bool true != Value.bool true)=true) from fun q=>Bool.noConfusion q)];exact lT ⟨rfl,_,rfl,hz,Heap.SameBut.refl _ _⟩
  |false=>
   rw[if_pos (show(Value.bool false != Value.bool true)=true from rfl)];exact lO (wpAny_setField_rec hz (by simp) fun h₃ he₃ hs₃=>lT ⟨rfl,h₃,rfl,he₃,hs₃⟩)
 obtain⟨rfl,hp,rfl,hz',sb⟩:=hb;simp only[mT,mK];rw[<- Array.forIn_toList];simp only[List.forIn_cons,List.forIn_nil];refine lO (lO (lO (nj ?_)))
 show wpAny _ _ (Builtin.SmallTypes.nextOf (.ref i1) >>= _) _ _ _
 refine lO (wpAny_nextOf_list_item (h1.extBut sb.extBut D.i1z) (hl1.extBut sb.extBut D.l1z) hx fun g₂ j1 t₂=>lT (lT ?_));refine lO (lO (nj ?_))
 show wpAny _ _ (Builtin.SmallTypes.nextOf (.ref i2) >>= _) _ _ _
 refine lO (wpAny_nextOf_list_item ((h2.extBut sb.extBut D.i2z).extBut t₂.extBut D.i12.symm) ((hl2.extBut sb.extBut D.l2z).extBut t₂.extBut D.l2i1) hy fun g₃ j2 t₃=>lT (lT (lT ?_)));refine lO (wpAny_newTuple (hsz:=by show 2<=sizeLine;decide) ?_);have sz:g₃.objs.size=s.heap.objs.size:=by rw[t₃.1,t₂.1,sb.1]
 have z3:ZOut g₃ z TI TO a true:=t₃.extBut _ _ D.i2z.symm (t₂.extBut _ _ D.i1z.symm hz');refine lT ⟨_,rfl,lT ?_⟩
 show Q (some (.ref g₃.objs.size)) _
 have j1':g₃.IsListIter i1 l1 (k1+1):=j1.extBut t₃.extBut D.i12;rw[sz];refine hQ _ (lZ _ z3) (j1'.at fun o e=>lZ _ e) (j2.at fun o e=>lZ _ e) ?_ ?_ fun c o n1 n2 n3 e=>lZ _ (t₃.extBut _ _ n3 (t₂.extBut _ _ n2 (sb.extBut _ _ n1 e)))
 ·rw[<- sz];exact mD _ rfl
 ·rw[ou,sz]
theorem zout_end{z TI TO i1 i2 l1 l2 a:Addr}{f:Bool}{oa:Obj}{k1:Nat}{xs:Array Value}{Q:Option Value->Shared->Prop}(hh:A.handled=none)(D:ZipApart z TI TO i1 i2 l1 l2)(hz:ZOut s.heap z TI TO a f)(ha:s.heap.get? a=some oa)
  (hTI:IsPair s.heap TI (.ref i1) (.ref i2)) (h1:s.heap.IsListIter i1 l1 k1) (hl1:s.heap.IsList l1 xs) (hx:xs[k1]?=none)
  (hQ:∀h',(∀c o,c≠z->c≠i1->s.heap.get? c=some o->h'.get? c=some o)->Q none { s with heap:=h' }):wpAny (model P w) A (pyNext (.ref z)) Q E s:=by
 have ty:s.TypeIs (.ref z) "zip" := ⟨_,hz,rfl⟩;unfold pyNext;refine lO (pA (oU (name:=Str.ofString "__next__") ty rW (nE rW ty PySem.F.entry_zip_next ?_ (PySem.F.args_zip_next_1 _))))
 show wpAny _ _ (field (.ref z) 2 >>= _) _ _ _
 refine lO (nz hz rfl (x:=Value.bool false) rfl ?_)
 show wpAny _ _ (field (.ref z) 3 >>= _) _ _ _
 refine lO (nz hz rfl (x:=Value.ref TI) rfl ?_);refine lO (pO hTI rfl ?_)
 show wpAny _ _ (Builtin.SmallTypes.ownedTupleIsFree (.ref z) >>= _) _ _ _
 refine lO (thn (Q:=fun b s1=>b=false/\∃hp,s1={ s with heap:=hp }/\ZOut hp z TI TO a true/\Heap.SameBut z s.heap hp) ?_ fun b s1 hb=>?_)
 ·unfold Builtin.SmallTypes.ownedTupleIsFree;refine lO (nz hz rfl (x:=rawInt a) rfl ?_)
  show wpAny _ _ (loadIfAlive ((a:Int).toNat) >>= _) _ _ _
  rw[m6];refine lO (W.kdx_alive ha ?_);simp only[Option.isNone_some,mT,mK];refine lO (nz hz rfl (x:=Value.bool f) rfl ?_);cases f with
  |true=>
   rw[if_neg (show ¬((Value.bool true != Value.bool true)=true) from fun q=>Bool.noConfusion q)];exact lT ⟨rfl,_,rfl,hz,Heap.SameBut.refl _ _⟩
  |false=>
   rw[if_pos (show(Value.bool false != Value.bool true)=true from rfl)];exact lO (wpAny_setField_rec hz (by simp) fun h₃ he₃ hs₃=>lT ⟨rfl,h₃,rfl,he₃,hs₃⟩)
 obtain⟨rfl,hp,rfl,hz',sb⟩:=hb;simp only[mT,mK];rw[<- Array.forIn_toList];simp only[List.forIn_cons,List.forIn_nil];refine lO (lO (lO (nj ?_)))
 show wpAny _ _ (Builtin.SmallTypes.nextOf (.ref i1) >>= _) _ _ _
 refine lO (wpAny_nextOf_list_end hh (h1.extBut sb.extBut D.i1z) (hl1.extBut sb.extBut D.l1z) hx fun g₂ ee t₂ he=>?_);obtain⟨oe,hoe,hce⟩:=he;refine lO (wpAny_isInstance (T := "StopIteration") (b:=true) ⟨oe,hoe,hce⟩ isSubtype_stop (lT (hQ _ fun c o n1 n2 e=>?_)));exact t₂ _ _ n2 (sb.extBut _ _ n1 e)
structure ZSt(h:Heap)(z TI TO i1 i2 l1 l2 S:Addr)(xs ys:Array Value)(i:Nat):Prop where
 z:(i=0/\IsZip h z TI TO .none/\∃u v,IsPair h TO u v)\/∃a f oa,ZOut h z TI TO a f/\h.get? a=some oa/\a≠z/\a≠i1/\a≠i2/\a≠S
 ti:IsPair h TI (.ref i1) (.ref i2)
 i1:h.IsListIter i1 l1 i
 i2:h.IsListIter i2 l2 i
 l1:h.IsList l1 xs
 l2:h.IsList l2 ys
structure ZFar(z TI TO i1 i2 l1 l2 S:Addr):Prop where
 z:z≠S
 ti:TI≠S
 to:TO≠S
 i1:i1≠S
 i2:i2≠S
 l1:l1≠S
 l2:l2≠S
theorem ZSt.keep{h h':Heap}{z TI TO i1 i2 l1 l2 S:Addr}{xs ys:Array Value}{i:Nat}(x:ZSt h z TI TO i1 i2 l1 l2 S xs ys i)(far:ZFar z TI TO i1 i2 l1 l2 S)(hk:∀b o,b≠S->h.get? b=some o->h'.get? b=some o):ZSt h' z TI TO i1 i2 l1 l2 S xs ys i:=by
 refine⟨?_,hk _ _ far.ti x.ti,x.i1.at fun o e=>hk _ _ far.i1 e,x.i2.at fun o e=>hk _ _ far.i2 e,x.l1.at fun o e=>hk _ _ far.l1 e,x.l2.at fun o e=>hk _ _ far.l2 e⟩;rcases x.z with⟨e,q,u,v,p⟩|⟨a,f,oa,q,ha,n1,n2,n3,n4⟩
 ·exact .inl ⟨e,hk _ _ far.z q,u,v,hk _ _ far.to p⟩
 ·exact .inr ⟨a,f,oa,hk _ _ far.z q,hk _ _ n4 ha,n1,n2,n3,n4⟩
theorem ZSt.item{z TI TO i1 i2 l1 l2 S:Addr}{xs ys:Array Value}{i:Nat}{x y:Value}{Q:Option Value->Shared->Prop}(D:ZipApart z TI TO i1 i2 l1 l2)(st:ZSt s.heap z TI TO i1 i2 l1 l2 S xs ys i)(hS:S<s.heap.objs.size)(lt:z<s.heap.objs.size/\i1<s.heap.objs.size/\i2<s.heap.objs.size)(hx:xs[i]?=some x)(hy:ys[i]?=some y)
  (hQ:∀h',ZSt h' z TI TO i1 i2 l1 l2 S xs ys (i+1)->IsPair h' s.heap.objs.size x y->h'.objs.size=s.heap.objs.size+1->(∀c o,c≠z->c≠TO->c≠i1->c≠i2->s.heap.get? c=some o->h'.get? c=some o)->Q (some (.ref s.heap.objs.size)) { s with heap:=h' }):wpAny (model P w) A (pyNext (.ref z)) Q E s:=by
 rcases st.z with⟨rfl,q,u,v,p⟩|⟨a,f,oa,q,ha,n1,n2,n3,n4⟩
 ·refine wpAny_pyNext_zip_item D q st.ti p st.i1 st.i2 st.l1 st.l2 hx hy fun h' b1 b2 b3 b4 b5 b6 b7=>hQ h' ⟨.inr ⟨_,false,_,b1,b5,mY lt.1,mY lt.2.1,mY lt.2.2,mY hS⟩,b7 _ _ D.TIz D.TITO D.TIi1 D.TIi2 st.ti,b3,b4,st.l1.at fun o e=>b7 _ _ D.l1z D.l1TO D.l1i1 D.l1i2 e,st.l2.at fun o e=>b7 _ _ D.l2z D.l2TO D.l2i1 D.l2i2 e⟩ b5 b6 b7
 ·refine zout_item D q ha n1 st.ti st.i1 st.i2 st.l1 st.l2 hx hy fun h' b1 b3 b4 b5 b6 b7=>hQ h' ⟨.inr ⟨a,true,oa,b1,b7 _ _ n1 n2 n3 ha,n1,n2,n3,n4⟩,b7 _ _ D.TIz D.TIi1 D.TIi2 st.ti,b3,b4,st.l1.at fun o e=>b7 _ _ D.l1z D.l1i1 D.l1i2 e,st.l2.at fun o e=>b7 _ _ D.l2z D.l2i1 D.l2i2 e⟩ b5 b6 fun c o m1 _ m3 m4 e=>b7 c o m1 m3 m4 e
theorem ZSt.stop{z TI TO i1 i2 l1 l2 S:Addr}{xs ys:Array Value}{i:Nat}{Q:Option Value->Shared->Prop}(hh:A.handled=none)(D:ZipApart z TI TO i1 i2 l1 l2)(st:ZSt s.heap z TI TO i1 i2 l1 l2 S xs ys i)(hx:xs[i]?=none)
  (hQ:∀h',(∀c o,c≠z->c≠TO->c≠i1->c≠i2->s.heap.get? c=some o->h'.get? c=some o)->Q none { s with heap:=h' }):wpAny (model P w) A (pyNext (.ref z)) Q E s:=by
 rcases st.z with⟨rfl,q,u,v,p⟩|⟨a,f,oa,q,ha,n1,n2,n3,n4⟩
 ·exact wpAny_pyNext_zip_end hh D q st.ti p st.i1 st.i2 st.l1 st.l2 (.inl hx) fun h' b=>hQ h' b
 ·exact zout_end hh D q ha st.ti st.i1 st.l1 hx fun h' b=>hQ h' fun c o m1 _ m3 _ e=>b c o m1 m3 e
end
theorem Ji:typeLookup (.type "zip") "__len__" = pure none:=by
 rw[rf,rg]
 kernel_rfl
theorem kI:typeLookup (.type "zip") "__length_hint__" = pure none:=by
 rw[rf,rg]
 kernel_rfl
section
variable{P:Program}{w:World}{A:Around}{E:Value->Shared->Prop}{s:Shared}
theorem zip_hint{r:Addr}(ty:s.TypeIs (.ref r) "zip"){Q:Bool->Shared->Prop}(h:Q true s):wpAny (model P w) A (Builtin.List.listLengthHint (.ref r)) Q E s:=by
 unfold Builtin.List.listLengthHint;refine lO (p8 ty Ji ?_);refine wpAny_ite_split (fun q=>absurd q (by decide)) fun _=>?_;refine wpAny_ite_split (fun q=>absurd q (by decide)) fun _=>?_;exact lO (p8 ty kI (lT h))
def ZG(h:Heap)(lo:Addr)(xs ys:Array Value)(as:List Addr):Prop:=as.Pairwise (·<·)/\(∀a∈as,lo<a)/\∀(j:Nat) a,as[j]?=some a->∃x y,xs[j]?=some x/\ys[j]?=some y/\IsPair h a x y
variable{R:Result->Shared->Prop}
theorem zl_loop{z TI TO i1 i2 l1 l2 S:Addr}{xs ys:Array Value}(hh:A.handled=none)(D:ZipApart z TI TO i1 i2 l1 l2)(far:ZFar z TI TO i1 i2 l1 l2 S)(lo:z<=S/\TI<=S/\TO<=S/\i1<=S/\i2<=S)(hl:ys.size=xs.size)(hn:xs.size<=sizeLine)(res:Value){h₁:Heap}
  (hR:∀h' tk acc c as,(∀b o,b≠S->b≠z->b≠TO->b≠i1->b≠i2->h₁.get? b=some o->h'.get? b=some o)->h'.get? S=some { cls:=.type "list",dict:=none,data:=.seq acc c,slots:=#[] }->as.length=xs.size->ZG h' S xs ys as->acc.toList=as.map Value.ref->R (.ok (.ret res)) { s with heap:=h',toks:=tk }) :
  ∀(k i:Nat) (h:Heap) (tk c:Nat) (acc:Array Value) (as:List Addr),xs.size-i=k->i<=xs.size->ZSt h z TI TO i1 i2 l1 l2 S xs ys i->(∀b o,b≠S->b≠z->b≠TO->b≠i1->b≠i2->h₁.get? b=some o->h.get? b=some o) ->
   h.get? S=some { cls:=.type "list",dict:=none,data:=.seq acc c,slots:=#[] }->acc.toList=as.map Value.ref->as.length=i->ZG h S xs ys as ->
   codeAny (model P w) A (.builtin "list.extend.loop" ⟨[.ref S,.ref z,res],[]⟩) R { s with heap:=h,toks:=tk }:=by
 intro k
 induction k with
 |zero=>
  intro i h tk c acc as hk hi st kp hS hacc hal hG;refine nZ PySem.F.entry_extend_loop ?_;rw[oB pV _]
  show wpAny _ A.in1 (pyNext (.ref z) >>= _) _ _ _
  refine lO (ZSt.stop (s:={ s with heap:=h,toks:=tk }) (A:=A.in1) hh D st (rR (by omega)) fun h' he=>lT (hR h' tk acc c as (fun b o m0 m1 m2 m3 m4 e=>he b o m1 m2 m3 m4 (kp b o m0 m1 m2 m3 m4 e)) (he S _ far.z.symm far.to.symm far.i1.symm far.i2.symm hS) (by omega) ⟨hG.1,hG.2.1,fun j a hj=>?_⟩ hacc));obtain⟨x,y,q1,q2,q3⟩:=hG.2.2 j a hj;have:=hG.2.1 a (mM hj);exact⟨x,y,q1,q2,he a _ (mY (nt lo.1 this)) (mY (nt lo.2.2.1 this)) (mY (nt lo.2.2.2.1 this)) (mY (nt lo.2.2.2.2 this)) q3⟩
 |succ k ih=>
  intro i h tk c acc as hk hi st kp hS hacc hal hG;have lt:i<xs.size:=by omega
  have hx:xs[i]?=some xs[i]:=sf lt;have hy:ys[i]?=some (ys[i]'(by omega)):=sf (by omega);have hSl:S<h.objs.size:=md hS;have asz:acc.size=i:=by rw[<- nC,hacc,lQ,hal]
  have lz:z<h.objs.size/\i1<h.objs.size/\i2<h.objs.size:=⟨nt lo.1 hSl,nt lo.2.2.2.1 hSl,nt lo.2.2.2.2 hSl⟩;refine nZ PySem.F.entry_extend_loop ?_;rw[oB pV _]
  show wpAny _ A.in1 (pyNext (.ref z) >>= _) _ _ _
  refine lO (ZSt.item (s:={ s with heap:=h,toks:=tk }) D st hSl lz hx hy fun h' st' ht hz kk=>?_);dsimp only at ht hz kk ⊢;have hS':=kk S _ far.z.symm far.to.symm far.i1.symm far.i2.symm hS;have up:∀b o,b≠S->h'.get? b=some o->(h'.update S (Obj.mapSeq (·.push (Value.ref h.objs.size)))).get? b=some o:=fun b o m e=>(nG _ _ (mj m)).trans e
  show wpAny _ A.in1 (updateSeq S (·.push (Value.ref h.objs.size)) >>= _) _ _ _
  refine lO (oX hS' rfl (lT ⟨oC pV _,ih (i+1) _ tk _ (acc.push (Value.ref h.objs.size)) (as++[h.objs.size]) (by omega) lt (st'.keep far up) (fun b o m0 m1 m2 m3 m4 e=>up b o m0 (kk b o m1 m2 m3 m4 (kp b o m0 m1 m2 m3 m4 e))) (oh _ hS' rfl) (by rw[rT,hacc,mB];rfl) (by rw[lW,hal];rfl) ⟨?_,?_,?_⟩⟩) (by rw[asz];omega) (by show(acc.push (Value.ref h.objs.size)).size<=sizeLine+1;rw[Array.size_push,asz];omega))
  ·refine List.pairwise_append.mpr ⟨hG.1,List.pairwise_singleton _ _,fun a ha b hb=>?_⟩;rw[mr.mp hb];obtain⟨j,hj⟩:=List.mem_iff_getElem?.mp ha;obtain⟨_,_,_,_,q⟩:=hG.2.2 j a hj;exact md q
  ·intro a ha;rcases ml.mp ha with ha|ha
   ·exact hG.2.1 a ha
   ·rw[mr.mp ha];exact hSl
  ·intro j b hj
   by_cases c1:j<as.length
   ·rw[mQ c1] at hj;obtain⟨x,y,q1,q2,q3⟩:=hG.2.2 j b hj;have hb:=hG.2.1 b (mM hj);exact⟨x,y,q1,q2,up b _ (mY hb) (kk b _ (mY (nt lo.1 hb)) (mY (nt lo.2.2.1 hb)) (mY (nt lo.2.2.2.1 hb)) (mY (nt lo.2.2.2.2 hb)) q3)⟩
   ·have hj':=(mo.mp hj).1;rw[lW,ng] at hj';have ej:j=i:=by omega
    subst ej;rw[mW (by omega),hal,nU] at hj;cases hj;exact⟨_,_,hx,hy,up _ _ (mY hSl) ht⟩
end
section
variable{P:Program}{w:World}{A:Around}{E:Value->Shared->Prop}{s:Shared}{z TI TO i1 i2 l1 l2:Addr}{xs ys:Array Value}
theorem zl_extend{R:Result->Shared->Prop}{S:Addr}(hh:A.handled=none)(D:ZipApart z TI TO i1 i2 l1 l2)(far:ZFar z TI TO i1 i2 l1 l2 S)(lo:z<=S/\TI<=S/\TO<=S/\i1<=S/\i2<=S)(hl:ys.size=xs.size)(hn:xs.size<=sizeLine)(hz:IsZip s.heap z TI TO .none)(st:ZSt s.heap z TI TO i1 i2 l1 l2 S xs ys 0)(res:Value)(c₀:Nat)(hS:s.heap.get? S=some { cls:=.type "list",data:=.seq #[] c₀ })
  (hR:∀h' tk acc c as,(∀b o,b≠S->b≠z->b≠TO->b≠i1->b≠i2->s.heap.get? b=some o->h'.get? b=some o)->h'.get? S=some { cls:=.type "list",dict:=none,data:=.seq acc c,slots:=#[] }->as.length=xs.size->ZG h' S xs ys as->acc.toList=as.map Value.ref->R (.ok (.ret res)) { s with heap:=h',toks:=tk }) :
  wpAny (model P w) A.in1 (Builtin.List.listExtendWith (.ref S) (.ref z) res) (fun fin s'=>match fin with|.done f=>R (.ok f) s'|.again c'=>c'.quiet=true/\codeAny (model P w) A c' R s') (fun e s'=>R (.error e) s') s:=by
 have run:∀(h:Heap) (c₁ tk:Nat),(∀b o,b≠S->s.heap.get? b=some o->h.get? b=some o)->h.get? S=some { cls:=.type "list",data:=.seq #[] c₁ }->codeAny (model P w) A (.builtin "list.extend.loop" ⟨[.ref S,.ref z,res],[]⟩) R { s with heap:=h,toks:=tk }:=fun h c₁ tk kp hS₁=>
  zl_loop (s:=s) (h₁:=s.heap) hh D far lo hl hn res hR xs.size 0 h tk c₁ #[] [] (Nat.sub_zero _) (mN _) (st.keep far kp) (fun b o m0 _ _ _ _ e=>kp b o m0 e) hS₁ rfl rfl ⟨List.Pairwise.nil,(fun _ ha=>nomatch ha),(fun j a hj=>by simp at hj)⟩
 unfold Builtin.List.listExtendWith;refine lO (wpAny_typeOf (T := "zip") ⟨_,hz,rfl⟩ ?_);have q1:Builtin.List.listSameRef (.ref S) (.ref z)=false:=by simp[Builtin.List.listSameRef,far.z.symm]
 have q2:(Value.type "zip" == Value.type "list")=false:=by decide
 have q3:(Value.type "zip" == Value.type "tuple")=false:=by decide
 simp only[q1,q2,q3,Bool.or_false,mT,mK];refine lO (wpAny_pyIter_zip hz ?_);refine lO (nj (zip_hint ⟨_,hz,rfl⟩ ?_));refine wpAny_ite_split (fun _=>?_) (fun _=>lT ⟨oC pV _,run _ c₀ _ (fun b o _ e=>e) hS⟩);refine lO (oE (lO ?_))
 show wpAny _ _ (updateSeq S (·.push .none) >>= fun _=>updateSeq S (·.pop)) _ _ s
 refine lO (oX hS rfl ?_);have e2:=oh (Obj.mapSeq (·.push Value.none)) hS rfl;refine oX (hz:=by seq_fits) e2 rfl (lT ⟨oC pV _,run _ _ _ (fun b o m e=>?_) (oh (Obj.mapSeq (·.pop)) e2 rfl)⟩);exact(nG _ _ (mj m)).trans ((nG _ _ (mj m)).trans e)
theorem zl_call{Q:Value->Shared->Prop}(hh:A.handled=none)(D:ZipApart z TI TO i1 i2 l1 l2)(lt:z<s.heap.objs.size/\TI<s.heap.objs.size/\TO<s.heap.objs.size/\i1<s.heap.objs.size/\i2<s.heap.objs.size/\l1<s.heap.objs.size/\l2<s.heap.objs.size)(hl:ys.size=xs.size)(hn:xs.size<=sizeLine)
  (hz:IsZip s.heap z TI TO .none) (hTI:IsPair s.heap TI (.ref i1) (.ref i2)) {u v:Value} (hTO:IsPair s.heap TO u v) (h1:s.heap.IsListIter i1 l1 0) (h2:s.heap.IsListIter i2 l2 0) (hl1:s.heap.IsList l1 xs) (hl2:s.heap.IsList l2 ys)
  (hQ:∀h' tk acc c as,(∀b o,b≠z->b≠TO->b≠i1->b≠i2->s.heap.get? b=some o->h'.get? b=some o)->h'.get? s.heap.objs.size=some { cls:=.type "list",dict:=none,data:=.seq acc c,slots:=#[] }->as.length=xs.size->ZG h' s.heap.objs.size xs ys as->acc.toList=as.map Value.ref->Q (.ref s.heap.objs.size) { s with heap:=h',toks:=tk }) :
  wpAny (model P w) A (call (.type "list") [.ref z]) Q E s:=by
 refine callType_codes (Q₁:=fun obj s₁=>obj=.ref s.heap.objs.size/\s₁={ s with heap:=s.heap.push { cls:=.type "list",data:=.seq #[] } }) PySem.F.called_list (PySem.F.typeCall_list_1 _) PySem.F.entry_list_init (code_list_new _ ⟨rfl,rfl⟩) fun obj s₁ q₁=>?_;obtain⟨rfl,rfl⟩:=q₁;obtain⟨a1,a2,a3,a4,a5,a6,a7⟩:=lt;have hS:(s.heap.push { cls:=.type "list",data:=.seq #[] }).get? s.heap.objs.size=some { cls:=.type "list",data:=.seq #[] }:=mD _ rfl;have far:ZFar z TI TO i1 i2 l1 l2 s.heap.objs.size:=⟨me a1,me a2,me a3,me a4,me a5,me a6,me a7⟩;have st0:ZSt s.heap z TI TO i1 i2 l1 l2 s.heap.objs.size xs ys 0:=⟨.inl ⟨rfl,hz,u,v,hTO⟩,hTI,h1,h2,hl1,hl2⟩;refine⟨⟨_,hS,rfl⟩,PySem.F.args_list_init_2 _ _,?_⟩
 show wpAny _ _ (do let old <- Builtin.List.listItems (.ref s.heap.objs.size);Builtin.List.listUpdate (.ref s.heap.objs.size) (fun _=>#[]);letGo old.toList.reverse;Builtin.List.listExtendWith (.ref s.heap.objs.size) (.ref z) .none) _ _ _
 refine lO ?_;unfold Builtin.List.listItems;refine lO (pO hS rfl (lT ?_))
 show wpAny _ _ (updateSeq s.heap.objs.size (fun _=>#[]) >>= fun _=>letGo (#[]:Array Value).toList.reverse >>= fun _=>Builtin.List.listExtendWith (.ref s.heap.objs.size) (.ref z) .none) _ _ _
 refine lO (oX hS rfl ?_);have e2:=oh (Obj.mapSeq (fun _=>(#[]:Array Value))) hS rfl;have kp:∀b o,b≠s.heap.objs.size->s.heap.get? b=some o->((s.heap.push { cls:=.type "list",data:=.seq #[] }).update s.heap.objs.size (Obj.mapSeq (fun _=>(#[]:Array Value)))).get? b=some o:=fun b o m e=>(nG _ _ (mj m)).trans (lZ _ e);refine lO (wpAny_letGo (zl_extend (A:=A.in1) hh D far ⟨nI a1,nI a2,nI a3,nI a4,nI a5⟩ hl hn (kp _ _ far.z hz) (st0.keep far kp) .none _ e2 fun h' tk acc c as hk hS' ha hG hacc=>⟨rfl,hQ h' tk acc c as (fun b o m1 m2 m3 m4 e=>?_) hS' ha hG hacc⟩));have lb:=me (md e);exact hk b o lb m1 m2 m3 m4 (kp b o lb e)
end
def both(H N:Hp):Hp:=fun b=>if(N b).isSome=true then N b else H b
theorem yx{H N:Hp}{b:Addr}{o:HO}(h:N b=some o):both H N b=some o:=by unfold both;rw[h];rfl
theorem qi{H N:Hp}{b:Addr}(h:N b=none):both H N b=H b:=by unfold both;rw[h];rfl
section
variable{X:Cx}{lL:List (Addr×Obj)}{σ:L3.St}{H N:Hp}{s:Shared}{h':Heap}
theorem Inv.turnedLaids{ch:List Addr}{t':Nat}(I:L2.Inv X lL σ H s)(k:∀b u,b∉ch->s.heap.get? b=some u->h'.get? b=some u)(hf:∀b∈ch,UD X lL H b)(hN:∀b o,N b=some o->s.heap.objs.size<=b)
  (new:∀b o,N b=some o->YH X.prog X.w (both H N) h' b o):L2.Inv X lL σ (both H N) { s with heap:=h',toks:=t' }:=by
 have fr:∀{b:Addr}{u:HO},H b=some u->both H N b=some u:=fun {b u} e=>by
  rw[qi];exact e;cases q:N b with
  |none=>rfl
  |some o=>rw[I.hok.fresh (hN b o q)] at e;cases e
 have old:∀{b:Addr}{u:Obj},s.heap.get? b=some u->N b=none:=fun {b u} e=>by
  cases q:N b with
  |none=>rfl
  |some o=>exact absurd (mU (md e) (hN b o q)) (oi _)
 refine I.step (g':=s.gens) (d':=s.drawn) (ch:=ch) (fun b hb=>?_) (fun b u _ _ hc e _=>k b u hc e) (fun b u _ _ hc e _=>⟨u.slots,k b u hc e⟩) (fun b u _ e n=>by rw[qi (old e)];exact n) (fun b u hc e=>⟨u,k b u hc e⟩) (fun b xs e=>fr e) (fun b u xs e=>fr e) (fun b ps e=>⟨#[],by rw[fr e];simp⟩) (fun m hm=>?_) (fun b u e=>?_) I.bare
 ·obtain⟨f0,f1,f2,f3,f4,f5⟩:=hf b hb;exact⟨f3,f1,f4,f5⟩
 ·obtain⟨ob,es,ep,ho,r⟩:=hm;exact⟨ob,es,ep,k _ ob (fun z=>(hf _ z).2.1 rfl) ho,r⟩
 ·cases q:N b with
  |some o=>
   rw[yx q] at e;cases e;exact new b _ q
  |none=>
   rw[qi q] at e;have nch:∀c v,H c=some v->c∉ch:=fun c v q z=>by rw[(hf c z).1] at q;cases q
   refine(I.hok b u e).stay (fun c v hc q=>k c v ?_ q) (fun c q=>fr q) fun c xs q=>fr q;rcases hc with rfl|hc
   ·exact nch _ _ e
   ·exact nch _ _ hc
end
theorem kE{α:Type}:∀{as:List Addr}{l:List α}{a:Addr}{q:α},as.Nodup->(a,q)∈as.zip l->(as.zip l).lookup a=some q
 |[],_,_,_,_,h=>by simp at h
 |_::_,[],_,_,_,h=>by simp at h
 |b::as,x::l,a,q,nd,h=>by
  rw[oz] at nd;rw[List.zip_cons_cons,mw] at h;rw[List.zip_cons_cons,mS];rcases h with h|h
  ·cases h;simp
  ·have ma:a∈as:=(oA h).1;have ne:¬a=b:=fun e=>nd.1 (e▸ma);have:(a==b)=false:=by simpa using ne
   rw[this];exact kE nd.2 h
theorem jT{α:Type}:∀{l:List (Addr×α)}{a:Addr}{q:α},l.lookup a=some q->(a,q)∈l
 |[],_,_,h=>by cases h
 | (b,x)::l,a,q,h=>by
  rw[mS] at h
  by_cases e:a=b
  ·subst e;simp at h;rw[h];exact oO
  ·have:(a==b)=false:=by simpa using e
   rw[this] at h;exact mi _ (jT h)
theorem vC:∀as:List Addr,ZH (as.map V.ref) (as.map Value.ref)
 |[]=>.nil
 |a::r=>.cons rfl (vC r)
inductive LZR(K:W.Frag)(vs:List V)(H:Hp)(Q:VK):Prop
 |mk (a b:Addr) (xs ys:List V) (h0:vs=[.ref a,.ref b]) (h1:SqL K H a xs) (h2:SqL K H b ys) (h3:ys.length=xs.length)
   (h4:∀H' L (zs:List (V×(V×V))),Zh H H'->H L=none->H' L=some (.lst (zs.map Prod.fst))->zs.map Prod.snd=xs.zip ys->(∀x∈zs,∃q,x.1=.ref q/\H' q=some (.tup [x.2.1,x.2.2]))->Q (.ref L) H'):LZR K vs H Q
def tListZip(K:W.Frag)(ta:TA):TE:=fun σ H Q=>ta σ H fun vs H1=>LZR K vs H1 Q
section
variable{X:Cx}{K:W.Frag}
theorem JS{a b:Expr}{ta:TA}{p p2 pos pos2:Pos}(hK:X.K=K)(hc:X.calm=true)(hg:Gl X "list")(hm:X.mg "list" = none)(hg2:Gl X "zip")(hm2:X.mg "zip" = none)(ha:PA X [a,b] ta)
  (hs:starEach [a,b] X.env=[(false,eval a X.env),(false,eval b X.env)]:=by rfl) (hs2:starEach [b] X.env=[(false,eval b X.env)]:=by rfl) (hs3:starEach [.Call (.Name "zip" p2) [a,b] [] pos2] X.env=[(false,eval (.Call (.Name "zip" p2) [a,b] [] pos2) X.env)]:=by rfl) :
  PE X (.Call (.Name "list" p) [.Call (.Name "zip" p2) [a,b] [] pos2] [] pos) (tListZip K ta):=by
 subst hK;intro lL s σ H Q I h;refine ox (VS I hg hm sw ?_);refine pH ?_ (by rw[hs3];rfl) rfl;rw[hs3]
 show wpAny _ _ (spliced ((false,eval (.Call (.Name "zip" p2) [a,b] [] pos2) X.env)::backTo pos (starEach [] X.env))) _ _ s
 refine Calls.spliced_cons (ox (VS I hg2 hm2 PyProof.Rows.boot_zip (pH (thn (ha pos2 lL s σ H _ I h) fun us s1 ⟨vs,H1,I1,r1,q1⟩=>?_) (by rw[hs,hs2]) (by rw[hs2];rfl))));obtain⟨l1,l2,xs,ys,rfl,hq1,hq2,hl,q⟩:=q1;obtain⟨u,v,rfl,ru,rv⟩:=vals2 r1;obtain rfl:u=Value.ref l1:=ru;obtain rfl:v=Value.ref l2:=rv;obtain⟨its1,rv1,p1,hz1⟩:=I1.list hq1;obtain⟨its2,rv2,p2',hz2⟩:=I1.list hq2;have lt1:l1<s1.heap.objs.size:=by obtain⟨_,e,_⟩:=p1.isList;exact md e
 have lt2:l2<s1.heap.objs.size:=by obtain⟨_,e,_⟩:=p2'.isList;exact md e
 refine call_zip_2 p1.isList p2'.isList fun h' a1 a2 a3 a4 a5 a6 a7=>?_;refine Calls.spliced_nil (zl_call (s:={ s1 with heap:=h' }) (xs:=its1.toArray) (ys:=its2.toArray) (I1.ok.hd hc) (apart_of _ _ _ lt1 lt2) ⟨?_,?_,?_,?_,?_,?_,?_⟩ ?_ ?_ a1 a2 a3 a4 a5 (p1.isList.at fun o e=>a7 _ _ e) (p2'.isList.at fun o e=>a7 _ _ e) fun g tk acc c as kp gL la hG hacc=>?_)
 iterate 5 (show _<h'.objs.size;rw[a6];first|exact Nat.lt_add_of_pos_right (by decide)|exact Nat.add_lt_add_left (by decide) _)
 ·show l1<h'.objs.size;rw[a6];exact mU lt1 (pC _ _)
 ·show l2<h'.objs.size;rw[a6];exact mU lt2 (pC _ _)
 ·rw[mn,mn,<- rv1.length,<- rv2.length];exact hl
 ·rw[mn,<- rv1.length];exact hz1
 have kp1:∀b o,s1.heap.get? b=some o->g.get? b=some o:=fun b o e=>by
  have lb:=md e;exact kp b o (me (mU lb (pC _ _))) (me (mU lb (pC _ _))) (me lb) (me (mU lb (pC _ _))) (a7 b o e)
 have lax:as.length=xs.length:=by rw[la,mn,rv1.length]
 have nd:as.Nodup:=hG.1.imp fun {x y} q=>me q;have lo:∀x∈as,h'.objs.size<x:=hG.2.1;have zl:(xs.zip ys).length=as.length:=by rw[o7];omega
 generalize hNd:(fun b=>if b=h'.objs.size then some (HO.lst (as.map V.ref)) else((as.zip (xs.zip ys)).lookup b).map fun q=>HO.tup [q.1,q.2]:Hp)=N;have Nl:N h'.objs.size=some (.lst (as.map V.ref)):=by rw[<- hNd];exact if_pos rfl
 have Np:∀x q,(x,q)∈as.zip (xs.zip ys)->N x=some (.tup [q.1,q.2]):=fun x q m=>by
  rw[<- hNd];have lx:=lo x (oA m).1
  show(if x=h'.objs.size then _ else _)=_
  rw[if_neg (mY lx),kE nd m];rfl
 have Nc:∀b o,N b=some o->(b=h'.objs.size/\o=.lst (as.map V.ref))\/∃q,(b,q)∈as.zip (xs.zip ys)/\o=.tup [q.1,q.2]:=fun b o e=>by
  rw[<- hNd] at e
  change (if b=h'.objs.size then _ else _)=_ at e
  by_cases cb:b=h'.objs.size
  ·rw[if_pos cb] at e;exact .inl ⟨cb,(mv e).symm⟩
  ·rw[if_neg cb] at e;cases ql:(as.zip (xs.zip ys)).lookup b with
   |none=>rw[ql] at e;cases e
   |some q=>
    rw[ql] at e;exact .inr ⟨q,jT ql,(mv e).symm⟩
 clear hNd;have szl:s1.heap.objs.size<=h'.objs.size:=by rw[a6];exact pC _ _
 have Inew:L2.Inv X lL σ (both H1 N) { s1 with heap:=g,toks:=tk }:=by
  refine Inv.turnedLaids (ch:=[]) I1 (fun b u _ e=>kp1 b u e) (fun b hb=>by cases hb) (fun b o e=>?_) (fun b o e=>?_)
  ·rcases Nc b o e with⟨rfl,_⟩|⟨q,m,_⟩
   ·exact szl
   ·exact mC szl (nI (lo b (oA m).1))
  ·rcases Nc b o e with⟨rfl,rfl⟩|⟨q,m,rfl⟩
   ·refine⟨by rw[lQ,lax,rv1.length];rw[<- rv1.length];exact hz1,as.map Value.ref,c,?_,?_⟩
    ·exact vC as
    ·rw[<- hacc,Array.toArray_toList];exact gL
   ·obtain⟨j,hj,ej⟩:=m7 m;rw[o7] at hj;rw[ri,ri] at ej;have eb:as[j]'(by omega)=b:=my Prod.fst ej;have eq:(xs[j]'(by omega),ys[j]'(by omega))=q:=my Prod.snd ej;obtain⟨x,y,g1,g2,g3⟩:=hG.2.2 j b (by rw[<- eb];exact lU _);obtain⟨u1,hu1,ru1⟩:=rv1.get (lU (show j<xs.length by omega));obtain⟨u2,hu2,ru2⟩:=rv2.get (lU (show j<ys.length by omega));have e1:x=u1:=by
     have:its1[j]?=some x:=by simpa using g1
     rw[hu1] at this;exact(mv this).symm
    have e2:y=u2:=by
     have:its2[j]?=some y:=by simpa using g2
     rw[hu2] at this;exact(mv this).symm
    subst e1;subst e2;rw[<- eq];exact⟨by show 2<=sizeLine;decide,[x,y],.cons ru1 (.cons ru2 .nil),⟨_,g3,rfl,_,rfl⟩⟩
 have sm:Zh H1 (both H1 N):=fun b o e=>by
  rw[qi];exact e;cases qn:N b with
  |none=>rfl
  |some o'=>
   have:s1.heap.objs.size<=b:=by
    rcases Nc b o' qn with⟨rfl,_⟩|⟨q,m,_⟩
    ·exact szl
    ·exact mC szl (nI (lo b (oA m).1))
   rw[I1.hok.fresh this] at e;cases e
 refine⟨.ref h'.objs.size,both H1 N,Inew,rfl,q (both H1 N) h'.objs.size ((as.map V.ref).zip (xs.zip ys)) sm (I1.hok.fresh szl) ?_ ?_ fun x hx=>?_⟩
 ·rw[yx Nl,List.map_fst_zip (by rw[lQ];omega)]
 ·rw[List.map_snd_zip (by rw[lQ];omega)]
 ·obtain⟨j,hj,ej⟩:=m7 hx;rw[o7,lQ] at hj;rw[ri,oq] at ej;have e1:V.ref (as[j]'(by omega))=x.1:=my Prod.fst ej;have e2:(xs.zip ys)[j]'(by omega)=x.2:=my Prod.snd ej;refine⟨as[j]'(by omega),e1.symm,yx (Np _ _ ?_)⟩;have:(as[j]'(by omega),(xs.zip ys)[j]'(by omega))∈as.zip (xs.zip ys):=by
   have:=mH (l:=as.zip (xs.zip ys)) (n:=j) (by rw[o7];omega);rw[ri] at this;exact this
  rw[e2] at this;exact this
end
theorem sz1:1<=sizeLine:=by rw[lV];decide
theorem sz2:2<=sizeLine:=by rw[lV];decide
theorem sz3:3<=sizeLine:=by rw[lV];decide
theorem sz4:4<=sizeLine:=by rw[lV];decide
theorem sz6:6<=sizeLine:=by rw[lV];decide
theorem sz9:9<=sizeLine:=by rw[lV];decide
end L3
namespace L3
open PySem PySem.Spec L2
theorem Zd{X:Cx}{e:Expr}{te:TE}(ha:PE X e te)(hs:starEach [e] X.env=(false,eval e X.env)::starEach [] X.env):PA X [e] (xV te tNil):=Zk ha Xd hs
theorem Yh{X:Cx}{e:Expr}{te:TE}(ha:PE X e te)(h:starB e=false):PA X [e] (xV te tNil):=ZI ha Xd h
end L3
namespace KK
open PySem PySem.Spec L2 L3
def top(i:Nat):Stmt:=PySem.Challenge.pw_timecourt_k22_whole_runs_told_otherwise.main.body.getD i (.Pass ⟨0,0,0,0⟩)
abbrev X9:Stmt:=top 4
abbrev Wg:Stmt:=top 5
abbrev Ww:Stmt:=top 6
abbrev Y8:Stmt:=top 7
abbrev Y7:Stmt:=top 8
abbrev XM:Stmt:=top 9
abbrev XH:Stmt:=top 17
abbrev X6:Stmt:=top 18
abbrev YX:Stmt:=top 19
abbrev WB:Stmt:=top 22
abbrev XG:Stmt:=top 23
abbrev Vk:Stmt:=top 24
abbrev VZ:Stmt:=top 25
abbrev XO:Stmt:=top 26
abbrev X7:Stmt:=top 27
abbrev Xi:Stmt:=WL (top 28) 0
abbrev Yi:Stmt:=WL (top 28) 1
abbrev Yq:Stmt:=WL (top 28) 2
abbrev ZN:Stmt:=WL (top 28) 3
abbrev V7:Stmt:=top 29
abbrev YI:Stmt:=top 30
abbrev UU:Stmt:=top 32
abbrev Xg:Stmt:=top 33
abbrev XD:Stmt:=top 34
abbrev Y5:Stmt:=top 35
abbrev YG:Stmt:=top 36
abbrev Yg:Stmt:=top 37
abbrev YU:Stmt:=top 38
abbrev WF:Stmt:=top 39
abbrev XJ:Stmt:=top 40
abbrev Yp:Stmt:=top 41
abbrev XB:Stmt:=top 42
abbrev XA:Stmt:=top 43
abbrev XL:Stmt:=top 44
abbrev Xh:Stmt:=top 45
abbrev YZ:Stmt:=top 46
abbrev Xf:Stmt:=top 47
abbrev YD:Stmt:=WL (top 52) 0
abbrev Xc:Stmt:=WL (top 52) 1
abbrev Yr:Stmt:=WL (top 52) 2
abbrev Yy:Stmt:=WL (top 52) 3
abbrev YM:Stmt:=WL (top 52) 4
abbrev Z8:Stmt:=WL (top 52) 5
abbrev Yt:Stmt:=top 53
abbrev Ys:Stmt:=top 54
abbrev YJ:Stmt:=top 56
abbrev Xe:Stmt:=top 57
abbrev Xa:Stmt:=top 58
abbrev YF:Stmt:=top 59
abbrev Xj:Stmt:=top 60
abbrev Yz:Stmt:=top 61
abbrev Y9:Stmt:=top 62
abbrev YY:Stmt:=top 63
abbrev yI:Stmt:=top 64
theorem lK{N P:List Str}{S:Scope}(a:S.kind=.function)(b:S.isCoroutine=false)(c:S.isGenerator=false)(d:N.take P.length=P)(e:N.Nodup/\(∀x∈P,S.names.lookup x=some .local\/S.names.lookup x=some .cell)/\∀y∈S.names,y.2≠.free):Zu N P S:=⟨a,b,c,e.1,d,e.2.1,e.2.2⟩
theorem Jc:Zu ["thing"] ["thing"] (Zc X9):=lK rfl rfl rfl rfl (by decide +kernel)
theorem JR:Zu ["thing"] ["thing"] (Zc Wg):=lK rfl rfl rfl rfl (by decide +kernel)
theorem JL:Zu ["thing", "many"] ["thing", "many"] (Zc Ww):=lK rfl rfl rfl rfl (by decide +kernel)
theorem jo:Zu ["thing"] ["thing"] (Zc Y8):=lK rfl rfl rfl rfl (by decide +kernel)
theorem jn:Zu ["thing", "many"] ["thing", "many"] (Zc Y7):=lK rfl rfl rfl rfl (by decide +kernel)
theorem VP:Zu ["things", "many", "start", "taken"] ["things", "many"] (Zc XM):=lK rfl rfl rfl rfl (by decide +kernel)
theorem qd:Zu ["thing", "word"] ["thing"] (Zc XH):=lK rfl rfl rfl rfl (by decide +kernel)
theorem zo:Zu ["sentence", "word"] ["sentence"] (Zc X6):=lK rfl rfl rfl rfl (by decide +kernel)
theorem Wq:Zu ["sentence", "found", "waiting", "one"] ["sentence"] (Zc YX):=lK rfl rfl rfl rfl (by decide +kernel)
theorem V9:Zu ["sentence", "found", "one", "inner"] ["sentence"] (Zc WB):=lK rfl rfl rfl rfl (by decide +kernel)
theorem qp:Zu ["sentence", "inner", "word"] ["sentence", "inner"] (Zc XG):=lK rfl rfl rfl rfl (by decide +kernel)
theorem Uz:Zu ["cores", "whole", "core"] ["cores"] (Zc Vk):=lK rfl rfl rfl rfl (by decide +kernel)
theorem qy:Zu ["cores", "whole", "core"] ["cores"] (Zc VZ):=lK rfl rfl rfl rfl (by decide +kernel)
theorem W8:Zu ["turns", "first", "second", "whole", "turn"] ["turns", "first", "second"] (Zc XO):=lK rfl rfl rfl rfl (by decide +kernel)
theorem zu:Zu ["sentence", "inner", "head"] ["sentence", "inner"] (Zc X7):=lK rfl rfl rfl rfl (by decide +kernel)
theorem xI:Zu ["self"] ["self"] (Zc Xi):=lK rfl rfl rfl rfl (by decide +kernel)
theorem Xb:Zu ["self", "core", "found", "part", "inner"] ["self", "core"] (Zc Yi):=lK rfl rfl rfl rfl (by decide +kernel)
theorem qx:Zu ["self", "part", "row"] ["self", "part", "row"] (Zc Yq):=lK rfl rfl rfl rfl (by decide +kernel)
theorem Z0:Zu ["self", "number", "found", "seen", "waiting", "at", "ahead"] ["self", "number"] (Zc ZN):=lK rfl rfl rfl rfl (by decide +kernel)
theorem i9:Zu ["row"] ["row"] (Zc V7):=lK rfl rfl rfl rfl (by decide +kernel)
theorem Va:Zu ["core", "table", "number"] ["core"] (Zc YI):=lK rfl rfl rfl rfl (by decide +kernel)
theorem lj:Zu ["world", "run", "core", "sets"] ["world", "run", "core", "sets"] (Zc UU):=lK rfl rfl rfl rfl (by decide +kernel)
theorem xE:Zu ["world", "run", "core", "sets", "many"] ["world", "run", "core", "sets", "many"] (Zc Xg):=lK rfl rfl rfl rfl (by decide +kernel)
theorem VY:Zu ["world", "core", "sets", "table", "number"] ["world", "core", "sets"] (Zc XD):=lK rfl rfl rfl rfl (by decide +kernel)
theorem vV:Zu ["table", "sets"] ["table", "sets"] (Zc Y5):=lK rfl rfl rfl rfl (by decide +kernel)
theorem XC:Zu ["world", "table", "number", "told", "places", "rows", "inner", "row"] ["world", "table", "number", "told"] (Zc YG):=lK rfl rfl rfl rfl (by decide +kernel)
theorem y9:Zu ["world", "row", "rooms"] ["world", "row", "rooms"] (Zc Yg):=lK rfl rfl rfl rfl (by decide +kernel)
theorem YC:Zu ["rows", "run", "many", "way", "ring", "size", "lines", "row", "line", "deed"] ["rows", "run", "many"] (Zc YU):=lK rfl rfl rfl rfl (by decide +kernel)
theorem U0:Zu ["line", "size", "end"] ["line", "size"] (Zc WF):=lK rfl rfl rfl rfl (by decide +kernel)
theorem qh:Zu ["line", "length", "size", "longer"] ["line", "length", "size"] (Zc XJ):=lK rfl rfl rfl rfl (by decide +kernel)
theorem Vr:Zu ["lines", "size", "more", "length"] ["lines", "size", "more"] (Zc Yp):=lK rfl rfl rfl rfl (by decide +kernel)
theorem kH:Zu ["lines", "size"] ["lines", "size"] (Zc XB):=lK rfl rfl rfl rfl (by decide +kernel)
theorem kC:Zu ["lines", "size"] ["lines", "size"] (Zc XA):=lK rfl rfl rfl rfl (by decide +kernel)
theorem vO:Zu ["lines", "size"] ["lines", "size"] (Zc XL):=lK rfl rfl rfl rfl (by decide +kernel)
theorem Yf:Zu ["lines", "size", "pairs", "later", "first", "second", "line"] ["lines", "size"] (Zc Xh):=lK rfl rfl rfl rfl (by decide +kernel)
theorem yr:Zu ["lines", "size"] ["lines", "size"] (Zc YZ):=lK rfl rfl rfl rfl (by decide +kernel)
theorem Xx:Zu ["lines", "size", "line", "held", "first", "second"] ["lines", "size"] (Zc Xf):=lK rfl rfl rfl rfl (by decide +kernel)
theorem xD:Zu ["self", "signs", "ways", "starts", "fair"] ["self", "signs", "ways", "starts", "fair"] (Zc YD):=lK rfl rfl rfl rfl (by decide +kernel)
theorem xN:Zu ["self"] ["self"] (Zc Xc):=lK rfl rfl rfl rfl (by decide +kernel)
theorem qa:Zu ["self", "room"] ["self", "room"] (Zc Yr):=lK rfl rfl rfl rfl (by decide +kernel)
theorem zi:Zu ["self", "room"] ["self", "room"] (Zc Yy):=lK rfl rfl rfl rfl (by decide +kernel)
theorem sc_World_begins:Zu ["self"] ["self"] (Zc YM):=lK rfl rfl rfl rfl (by decide +kernel)
theorem Jg:Zu ["self"] ["self"] (Zc Z8):=lK rfl rfl rfl rfl (by decide +kernel)
theorem Uf:Zu ["signs", "ways", "starts", "fair", "many"] ["signs", "ways", "starts", "fair"] (Zc Yt):=lK rfl rfl rfl rfl (by decide +kernel)
theorem qb:Zu ["thing", "many"] ["thing", "many"] (Zc Ys):=lK rfl rfl rfl rfl (by decide +kernel)
theorem zL:Zu ["_law_script", "_law_k"] ["_law_script", "_law_k"] (Zc YJ):=lK rfl rfl rfl rfl (by decide +kernel)
theorem xy:Zu ["_law_cell"] ["_law_cell"] (Zc Xe):=lK rfl rfl rfl rfl (by decide +kernel)
theorem WK:Zu ["_law_state_here", "_law_base", "_law_found", "_law_number"] ["_law_state_here", "_law_base"] (Zc Xa):=lK rfl rfl rfl rfl (by decide +kernel)
theorem Xs:Zu ["_law_state_here", "_law_many", "_law_signs", "_law_ways", "_law_room", "_law_on"] ["_law_state_here"] (Zc YF):=lK rfl rfl rfl rfl (by decide +kernel)
theorem Y6:Zu ["_law_state_here", "_law_world_here", "_law_rooms", "_law_k", "_law_on", "_law_ends", "_law_end", "_law_begins", "_law_begin"] ["_law_state_here", "_law_world_here"] (Zc Xj):=lK rfl rfl rfl rfl (by decide +kernel)
theorem Y2:Zu ["_law_state_here", "_law_deep", "_law_onward", "_law_fork", "_law_one", "_law_words", "_law_other"] ["_law_state_here", "_law_deep", "_law_onward"] (Zc Yz):=lK rfl rfl rfl rfl (by decide +kernel)
theorem VO:Zu ["_law_state_here", "_law_world_here", "_law_core", "_law_sets_here", "_law_part"] ["_law_state_here", "_law_world_here", "_law_core"] (Zc Y9):=lK rfl rfl rfl rfl (by decide +kernel)
theorem Y4:Zu ["_law_run_here", "_law_way", "_law_ring", "_law_half", "_law_found"] ["_law_run_here"] (Zc YY):=lK rfl rfl rfl rfl (by decide +kernel)
theorem Wy:Zu ["_law_script", "_law_world_here", "_law_run_here", "_law_k", "_law_state_here", "_law_core", "_law_sets_here", "_law_due", "_law_many", "_law_along", "_law_other", "_law_rest"] ["_law_script"] (Zc yI):=lK rfl rfl rfl rfl (by decide +kernel)
set_option genInjectivity false
structure Adr where
 is_whole:Addr
 cO:FuncData
 is_name:Addr
 dG:FuncData
 is_room:Addr
 dH:FuncData
 are_names:Addr
 cn:FuncData
 are_rooms:Addr
 cp:FuncData
 last_ones:Addr
 cu:FuncData
 is_formed:Addr
 cw:FuncData
 inner_of:Addr
 cP:FuncData
 inner_ahead:Addr
 bw:FuncData
 core_of:Addr
 dJ:FuncData
 core_with:Addr
 cy:FuncData
 and_of:Addr
 eJ:FuncData
 or_of:Addr
 fK:FuncData
 within_of:Addr
 cz:FuncData
 row_with:Addr
 cQ:FuncData
 Table_init:Addr
 bR:FuncData
 Table_number_of:Addr
 aA:FuncData
 Table_taken_in:Addr
 aJ:FuncData
 Table_inner_numbers:Addr
 ak:FuncData
 below:Addr
 fL:FuncData
 inner_parts:Addr
 bx:FuncData
 read:Addr
 gK:FuncData
 read_along:Addr
 bS:FuncData
 ground_of:Addr
 cA:FuncData
 told_sets:Addr
 cB:FuncData
 ground_rows:Addr
 bz:FuncData
 room_truths:Addr
 bA:FuncData
 read_rows:Addr
 cC:FuncData
 trimmed:Addr
 dM:FuncData
 stretched:Addr
 cD:FuncData
 stretched_both:Addr
 aM:FuncData
 not_line:Addr
 cR:FuncData
 and_line:Addr
 cS:FuncData
 next_line:Addr
 cE:FuncData
 until_line:Addr
 bT:FuncData
 before_line:Addr
 bB:FuncData
 since_line:Addr
 bU:FuncData
 World_init:Addr
 bV:FuncData
 World_many:Addr
 bW:FuncData
 World_signs_of:Addr
 aN:FuncData
 World_ways_on:Addr
 aW:FuncData
 World_begins:Addr
 cc:FuncData
 World_fair_signs:Addr
 bc:FuncData
 makes_world:Addr
 bC:FuncData
 are_some_rooms:Addr
 aO:FuncData
 _law_cell_at:Addr
 bn:FuncData
 _law_state:Addr
 bX:FuncData
 _law_digit:Addr
 bY:FuncData
 _law_world:Addr
 bZ:FuncData
 _law_run:Addr
 cT:FuncData
 _law_sentence:Addr
 aX:FuncData
 _law_sets:Addr
 cF:FuncData
 _law_others:Addr
 bD:FuncData
 law:Addr
 iJ:FuncData
 C_TimeError:Addr
 C_BadWorld:Addr
 C_BadSentence:Addr
 C_Table:Addr
 C_World:Addr
 D_LENGTHS:Addr
 D_LINES:Addr
 Y_YES:Addr
 Pm:Params
structure Txt(K:W.Frag)(mg:Str->Option Value)(a:Adr):Prop where
 dN:Fun K "is_whole" "is_whole" X9 a.is_whole a.cO
 fi:ZK K a.cO ["thing"] []
 fj:mg "is_whole" = some (.ref a.is_whole)
 eK:Fun K "is_name" "is_name" Wg a.is_name a.dG
 fN:ZK K a.dG ["thing"] []
 fO:mg "is_name" = some (.ref a.is_name)
 fP:Fun K "is_room" "is_room" Ww a.is_room a.dH
 g8:ZK K a.dH ["thing", "many"] []
 g9:mg "is_room" = some (.ref a.is_room)
 cU:Fun K "are_names" "are_names" Y8 a.are_names a.cn
 dY:ZK K a.cn ["thing"] []
 dZ:mg "are_names" = some (.ref a.are_names)
 d0:Fun K "are_rooms" "are_rooms" Y7 a.are_rooms a.cp
 fQ:ZK K a.cp ["thing", "many"] []
 fR:mg "are_rooms" = some (.ref a.are_rooms)
 cW:Fun K "last_ones" "last_ones" XM a.last_ones a.cu
 d5:ZK K a.cu ["things", "many"] []
 d6:mg "last_ones" = some (.ref a.last_ones)
 d7:Fun K "is_formed" "is_formed" XH a.is_formed a.cw
 fS:ZK K a.cw ["thing"] []
 fT:mg "is_formed" = some (.ref a.is_formed)
 cJ:Fun K "inner_of" "inner_of" X6 a.inner_of a.cP
 dQ:ZK K a.cP ["sentence"] []
 dU:mg "inner_of" = some (.ref a.inner_of)
 b9:Fun K "inner_ahead" "inner_ahead" YX a.inner_ahead a.bw
 cX:ZK K a.bw ["sentence"] []
 cY:mg "inner_ahead" = some (.ref a.inner_ahead)
 fU:Fun K "core_of" "core_of" WB a.core_of a.dJ
 hJ:ZK K a.dJ ["sentence"] []
 hU:mg "core_of" = some (.ref a.core_of)
 d8:Fun K "core_with" "core_with" XG a.core_with a.cy
 fV:ZK K a.cy ["sentence", "inner"] []
 fW:mg "core_with" = some (.ref a.core_with)
 fM:Fun K "and_of" "and_of" Vk a.and_of a.eJ
 gM:ZK K a.eJ ["cores"] []
 gN:mg "and_of" = some (.ref a.and_of)
 gO:Fun K "or_of" "or_of" VZ a.or_of a.fK
 io:ZK K a.fK ["cores"] []
 ip:mg "or_of" = some (.ref a.or_of)
 d9:Fun K "within_of" "within_of" XO a.within_of a.cz
 fX:ZK K a.cz ["turns", "first", "second"] []
 fY:mg "within_of" = some (.ref a.within_of)
 fo:Fun K "row_with" "row_with" X7 a.row_with a.cQ
 gE:ZK K a.cQ ["sentence", "inner"] []
 gF:mg "row_with" = some (.ref a.row_with)
 fz:Fun K "__init__" "Table.__init__" Xi a.Table_init a.bR
 du:ZK K a.bR ["self"] []
 hV:U9 K a.C_Table "__init__" a.Table_init
 cK:Fun K "number_of" "Table.number_of" Yi a.Table_number_of a.aA
 aQ:ZK K a.aA ["self", "core"] []
 aT:U9 K a.C_Table "number_of" a.Table_number_of
 di:Fun K "taken_in" "Table.taken_in" Yq a.Table_taken_in a.aJ
 dj:ZK K a.aJ ["self", "part", "row"] []
 dk:U9 K a.C_Table "taken_in" a.Table_taken_in
 bH:Fun K "inner_numbers" "Table.inner_numbers" ZN a.Table_inner_numbers a.ak
 aC:ZK K a.ak ["self", "number"] []
 aD:U9 K a.C_Table "inner_numbers" a.Table_inner_numbers
 iq:Fun K "below" "below" V7 a.below a.fL
 iW:ZK K a.fL ["row"] []
 iX:mg "below" = some (.ref a.below)
 cZ:Fun K "inner_parts" "inner_parts" YI a.inner_parts a.bx
 eM:ZK K a.bx ["core"] []
 eN:mg "inner_parts" = some (.ref a.inner_parts)
 hX:Fun K "read" "read" UU a.read a.gK
 iK:ZK K a.gK ["world", "run", "core", "sets"] []
 iL:mg "read" = some (.ref a.read)
 bh:Fun K "read_along" "read_along" Xg a.read_along a.bS
 bJ:ZK K a.bS ["world", "run", "core", "sets", "many"] []
 bK:mg "read_along" = some (.ref a.read_along)
 eg:Fun K "ground_of" "ground_of" XD a.ground_of a.cA
 fZ:ZK K a.cA ["world", "core", "sets"] []
 gb:mg "ground_of" = some (.ref a.ground_of)
 eu:Fun K "told_sets" "told_sets" Y5 a.told_sets a.cB
 ge:ZK K a.cB ["table", "sets"] []
 gf:mg "told_sets" = some (.ref a.told_sets)
 db:Fun K "ground_rows" "ground_rows" YG a.ground_rows a.bz
 eO:ZK K a.bz ["world", "table", "number", "told"] []
 eP:mg "ground_rows" = some (.ref a.ground_rows)
 dc:Fun K "room_truths" "room_truths" Yg a.room_truths a.bA
 eQ:ZK K a.bA ["world", "row", "rooms"] []
 eT:mg "room_truths" = some (.ref a.room_truths)
 eB:Fun K "read_rows" "read_rows" YU a.read_rows a.cC
 gi:ZK K a.cC ["rows", "run", "many"] []
 gj:mg "read_rows" = some (.ref a.read_rows)
 gk:Fun K "trimmed" "trimmed" WF a.trimmed a.dM
 hZ:ZK K a.dM ["line", "size"] []
 h9:mg "trimmed" = some (.ref a.trimmed)
 bu:Fun K "stretched" "stretched" XJ a.stretched a.cD
 ce:ZK K a.cD ["line", "length", "size"] []
 cg:mg "stretched" = some (.ref a.stretched)
 ay:Fun K "stretched_both" "stretched_both" Yp a.stretched_both a.aM
 aY:ZK K a.aM ["lines", "size", "more"] []
 aZ:mg "stretched_both" = some (.ref a.stretched_both)
 fq:Fun K "not_line" "not_line" XB a.not_line a.cR
 gG:ZK K a.cR ["lines", "size"] []
 iN:mg "not_line" = some (.ref a.not_line)
 ft:Fun K "and_line" "and_line" XA a.and_line a.cS
 gH:ZK K a.cS ["lines", "size"] []
 iO:mg "and_line" = some (.ref a.and_line)
 eE:Fun K "next_line" "next_line" XL a.next_line a.cE
 gm:ZK K a.cE ["lines", "size"] []
 ir:mg "next_line" = some (.ref a.next_line)
 dv:Fun K "until_line" "until_line" Xh a.until_line a.bT
 fA:ZK K a.bT ["lines", "size"] []
 ia:mg "until_line" = some (.ref a.until_line)
 de:Fun K "before_line" "before_line" YZ a.before_line a.bB
 eU:ZK K a.bB ["lines", "size"] []
 gQ:mg "before_line" = some (.ref a.before_line)
 dy:Fun K "since_line" "since_line" Xf a.since_line a.bU
 fB:ZK K a.bU ["lines", "size"] []
 ib:mg "since_line" = some (.ref a.since_line)
 fC:Fun K "__init__" "World.__init__" YD a.World_init a.bV
 fD:ZK K a.bV ["self", "signs", "ways", "starts", "fair"] []
 ic:U9 K a.C_World "__init__" a.World_init
 fE:Fun K "many" "World.many" Xc a.World_many a.bW
 bj:ZK K a.bW ["self"] []
 bm:U9 K a.C_World "many" a.World_many
 dm:Fun K "signs_of" "World.signs_of" Yr a.World_signs_of a.aN
 dn:ZK K a.aN ["self", "room"] []
 dq:U9 K a.C_World "signs_of" a.World_signs_of
 dz:Fun K "ways_on" "World.ways_on" Yy a.World_ways_on a.aW
 dA:ZK K a.aW ["self", "room"] []
 dB:U9 K a.C_World "ways_on" a.World_ways_on
 gA:Fun K "begins" "World.begins" YM a.World_begins a.cc
 gB:ZK K a.cc ["self"] []
 gC:U9 K a.C_World "begins" a.World_begins
 eV:Fun K "fair_signs" "World.fair_signs" Z8 a.World_fair_signs a.bc
 eW:ZK K a.bc ["self"] []
 eX:U9 K a.C_World "fair_signs" a.World_fair_signs
 df:Fun K "makes_world" "makes_world" Yt a.makes_world a.bC
 eY:ZK K a.bC ["signs", "ways", "starts", "fair"] []
 eZ:mg "makes_world" = some (.ref a.makes_world)
 ba:Fun K "are_some_rooms" "are_some_rooms" Ys a.are_some_rooms a.aO
 bN:ZK K a.aO ["thing", "many"] []
 bO:mg "are_some_rooms" = some (.ref a.are_some_rooms)
 aV:Fun K "_law_cell_at" "_law_cell_at" YJ a._law_cell_at a.bn
 bE:ZK K a.bn ["_law_script", "_law_k"] []
 bF:mg "_law_cell_at" = some (.ref a._law_cell_at)
 bL:Fun K "_law_state" "_law_state" Xe a._law_state a.bX
 cG:ZK K a.bX ["_law_cell"] []
 cH:mg "_law_state" = some (.ref a._law_state)
 ab:Fun K "_law_digit" "_law_digit" Xa a._law_digit a.bY
 ae:ZK K a.bY ["_law_state_here", "_law_base"] []
 ag:mg "_law_digit" = some (.ref a._law_digit)
 dC:Fun K "_law_world" "_law_world" YF a._law_world a.bZ
 fF:ZK K a.bZ ["_law_state_here"] []
 fG:mg "_law_world" = some (.ref a._law_world)
 fu:Fun K "_law_run" "_law_run" Xj a._law_run a.cT
 gI:ZK K a.cT ["_law_state_here", "_law_world_here"] []
 gJ:mg "_law_run" = some (.ref a._law_run)
 aE:Fun K "_law_sentence" "_law_sentence" Yz a._law_sentence a.aX
 bo:ZK K a.aX ["_law_state_here", "_law_deep", "_law_onward"] []
 bq:mg "_law_sentence" = some (.ref a._law_sentence)
 eG:Fun K "_law_sets" "_law_sets" Y9 a._law_sets a.cF
 gn:ZK K a.cF ["_law_state_here", "_law_world_here", "_law_core"] []
 gp:mg "_law_sets" = some (.ref a._law_sets)
 dg:Fun K "_law_others" "_law_others" YY a._law_others a.bD
 fb:ZK K a.bD ["_law_run_here"] []
 fc:mg "_law_others" = some (.ref a._law_others)
 lD:Fun K "law" "law" yI a.law a.iJ
 lI:ZK K a.iJ ["_law_script"] []
 lJ:mg "law" = some (.ref a.law)
 ie:mg "ValueError" = none
 iP:mg "all" = none
 cL:mg "reversed" = none
 bP:mg "range" = none
 bf:mg "tuple" = none
 aB:mg "len" = none
 fe:mg "list" = none
 ai:mg "isinstance" = none
 lE:mg "int" = none
 iY:mg "set" = none
 lp:mg "max" = none
 lF:mg "zip" = none
 li:mg "bool" = none
 lu:mg "str" = none
 fg:mg "sorted" = none
 ig:∃u,mg "LETTERS" = some u/\ZQ (.str "abcdefghijklmnopqrstuvwxyz") u
 dX:∃u,mg "MOST_LETTERS" = some u/\ZQ (.int 8) u
 fh:∃u,mg "MOST_WITHIN" = some u/\ZQ (.int 5) u
 fH:∃u,mg "MOST_ROOMS" = some u/\ZQ (.int 20) u
 gu:∃u,mg "MOST_FAIR" = some u/\ZQ (.int 3) u
 iu:mg "TimeError" = some (.ref a.C_TimeError)
 x_TimeError:W.excIn K a.C_TimeError [.type "ValueError",.type "Exception",.type "BaseException",.type "object"] "ValueError.__new__" = true
 iQ:mg "BadWorld" = some (.ref a.C_BadWorld)
 x_BadWorld:W.excIn K a.C_BadWorld [.type "ValueError",.type "Exception",.type "BaseException",.type "object"] "ValueError.__new__" = true
 gS:mg "BadSentence" = some (.ref a.C_BadSentence)
 x_BadSentence:W.excIn K a.C_BadSentence [.type "ValueError",.type "Exception",.type "BaseException",.type "object"] "ValueError.__new__" = true
 k_BadWorld:ExcK K a.C_BadWorld
 k_BadSentence:ExcK K a.C_BadSentence
 nk_signs:W.nsIn K a.D_LENGTHS "signs" = some none
 nk_Next:W.nsIn K a.D_LENGTHS "Next" = some none
 iw:mg "YES" = some (.ref a.Y_YES)
 y_YES:∀H:Hp,SqT K H a.Y_YES [.str "yes"]
 gv:mg "LENGTHS" = some (.ref a.D_LENGTHS)
 cM:DicK K a.Pm a.D_LENGTHS [("all",2),("some",2),("not",2),("next",2),("always",2),("ever",2),("before",2),("once",2),("sofar",2),("until",3),("since",3)]
 iZ:mg "LINES" = some (.ref a.D_LINES)
 i0:DicF K a.Pm a.D_LINES [("not",a.not_line),("and",a.and_line),("next",a.next_line),("until",a.until_line),("before",a.before_line),("since",a.since_line)]
 aj:Cls K a.C_Table
 iy:mg "Table" = some (.ref a.C_Table)
 gT:Mk K a.C_Table a.Table_init
 bG:Wz K a.C_Table "parts"
 aU:Wz K a.C_Table "rows"
 am:Wz K a.C_Table "numbers"
 aq:Cls K a.C_World
 i3:mg "World" = some (.ref a.C_World)
 iM:Mk K a.C_World a.World_init
 av:Wz K a.C_World "room_signs"
 br:Wz K a.C_World "room_ways"
 bQ:Wz K a.C_World "start_rooms"
 ck:Wz K a.C_World "fair_names"
def kY(K:W.Frag)(a:Adr):Sp:=fun vs H Q _=>∃x,vs=[x]/\Kd H x/\Q (.bl (jH x)) H
variable{P:Program}{w:World}{K:W.Frag}{mg:Str->Option Value}{base:Heap}{a:Adr}
theorem zr(T:Txt K mg a)(hw:w.params=a.Pm):Z2 P w K mg base CX0 1 a.is_whole a.cO ["thing"] (kY K a):=by
 refine T.dN.ok Jc (fun vs H Q E h=>?_) (fun lM A outer s H vs Q E hr h=>?_)
 ·obtain⟨x,rfl,_⟩:=h;rfl
 ·obtain⟨x,rfl,hk,k⟩:=h;refine⟨_,(@Zg _ _ _ (@Zm _ _ _ _ (Wl (Zn (Wh (K:=K) rfl "int") rfl T.ai sy (@Zk _ _ _ _ _ (pv 0) (@Zd _ _ _ (WJ (v:=.ty "int") rfl T.lE PyProof.Rows.Boot.«int» rfl) (by rfl)) (by rfl))) (Wa (pe_not (Zn (Wh (K:=K) rfl "bool") rfl T.ai sy (@Zk _ _ _ _ _ (pv 0) (@Zd _ _ _ (WJ (v:=.ty "bool") rfl T.li PyProof.Rows.Boot.«bool» rfl) (by rfl)) (by rfl)))))))),?_⟩;cases hb:XU H "int" x with
  |false=>
   obtain⟨t,h1,h2⟩:=WX K (by simp) hk hb;have e:jH x=false:=by cases hk<;>first|rfl|(simp[XU] at hb)
   rw[e] at k;exact⟨_,rfl,_,t,_,rfl,h1,h2,_,rfl,Yd k⟩
  |true=>
   obtain⟨t,h1,h2⟩:=WX K (by simp) hk hb;obtain⟨u,h3,h4⟩:=WX K (T := "bool") (by simp) hk rfl;have e:jH x = !XU H "bool" x:=by
    cases hk with
    |lst e=>simp[XU,e] at hb
    |tup e=>simp[XU,e] at hb
    |dK e=>simp[XU,e] at hb
    |non=>simp[XU] at hb
    |str z hz=>simp[XU] at hb
    |bl b=>rfl
    |int i=>rfl
   rw[e] at k;exact⟨_,rfl,_,t,_,rfl,h1,h2,_,rfl,YR ⟨_,rfl,_,u,_,rfl,h3,h4,_,rfl,k⟩⟩
def JP(K:W.Frag)(a:Adr):Sp:=fun vs H Q _=>∃x,vs=[x]/\Kd H x/\∀H',Zh H H'->Q (.bl (Xl x)) H'
theorem yT(T:Txt K mg a)(hw:w.params=a.Pm):Z2 P w K mg base CX0 1 a.is_name a.dG ["thing"] (JP K a):=by
 refine T.eK.ok JR (fun vs H Q E h=>?_) (fun lM A outer s H vs Q E hr h=>?_)
 ·obtain⟨x,rfl,_⟩:=h;rfl
 ·obtain⟨x,rfl,hk,k⟩:=h;refine⟨_,(@Za _ _ _ _ _ (@ZV _ _ _ _ _ _ _ _ (PW.pt (UJ (@Xy _ _ _ _ (WT (Zn (Wh (K:=K) rfl "str") rfl T.ai sy (@Zk _ _ _ _ _ (pv 0) (@Zd _ _ _ (WJ (v:=.ty "str") rfl T.lu PyProof.Rows.Boot.«str» rfl) (by rfl)) (by rfl))))) (V2 (@Xy _ _ _ _ (jS zy zy Zf (Zn (Zy (K:=K) rfl) rfl T.aB sA (@Zd _ _ _ (pv 0) (by rfl))) (Vv rfl T.dX)))))) (@Zg _ _ _ (@Zm _ _ _ _ Vj)) ZD) (@Zg _ _ _ (@Zm _ _ _ _ (Zn (VI (K:=K) rfl rfl) rfl T.iP sC (@Zd _ _ _ (Yu (Nc:=["letter"]) (ix:=[none]) (ZY.of (by decide +kernel:Z5 (Zc Wg) ["thing"] ["letter"] [none] _=true)) rfl (pi_str (pv 0)) (fun _ _ _ _ _=>(ZA (i:=0) (show List.Nodup (["letter"]:List Str) by decide +kernel) rfl (Or.inl rfl))) (fun _ _ _ _ _=>YN) (fun _ _ _ _ _=>(@XR _ _ _ _ _ _ _ _ op_in_str (pv 0) (Vv rfl T.ig) (by with_unfolding_all rfl)))) (by rfl)))))),?_⟩;rcases kd_str hk with⟨hb,z,rfl,hz⟩|⟨hb,e⟩
  ·obtain⟨t,h1,h2⟩:=WX K (by simp) hk hb;refine⟨_,rfl,_,t,_,rfl,h1,h2,_,rfl,Yd ?_⟩;refine⟨_,rfl,.inr (.inl ⟨z,rfl,by rw[lV];omega,_,_,rfl,rfl,_,rfl,?_⟩)⟩;have fin:decide (1<=(z.length:Int))=true->decide ((z.length:Int)<=8)=true->Xl (.str z)=z.cps.toList.all xY:=fun a b=>by
    have a':=mO a;have b':=mO b;have a2:1<=z.length:=by omega
    have b2:z.length<=8:=by omega
    simp[Xl,X2,a2,b2]
   have nof:¬((1:Int)<=z.length/\(z.length:Int)<=8)->Xl (.str z)=false:=fun q=>by
    have:¬(1<=z.length/\z.length<=8):=by omega
    simp only[Xl,X2]
    by_cases h1:1<=z.length
    ·have h2:¬z.length<=8:=fun h2=>this ⟨h1,h2⟩;simp[h1,h2]
    ·simp[h1]
   refine WQ (fun c1=>?_) (fun c1=>?_)
   ·refine⟨_,_,rfl,rfl,_,rfl,?_⟩;cases c2:decide ((z.length:Int)<=8) with
    |false=>
     refine YR ?_;have q:=k H (.refl H);rw[nof (fun q=>by have:=pW c2;omega)] at q;exact q
    |true=>
     refine Yd ⟨_,rfl,z,rfl,fun D hD=>?_⟩;refine Xv (J:=Its z) (n:=z.cps.size) (fun i σ H'=>Zh H H'/\H' D=some (.lst ((z.cps.toList.take i).map fun c=>V.bl (xY c)))/\∃y,σ=[y]) ?_ (fun i σ H' hi _=>hi) (fun σ H' _=>lS _) ?_ ?_
     ·exact⟨Ze hD,Zb,_,rfl⟩
     ·rintro i x σ H' H2 hi ⟨sm,hl,y,rfl⟩ ⟨rfl,c,hc,rfl⟩ N N0 hN hN0;refine⟨_,rfl,_,_,rfl,rfl,?_⟩;have el:=PySem.StrLaws.found_one ("abcdefghijklmnopqrstuvwxyz" : Str) c;refine hN _ _ _ _ hl (by rw[lQ,mf,lV];have:z.cps.size=z.length:=rfl;omega) ⟨(Zq.upd (Zh.x sm)).same hD,?_,_,rfl⟩;have hc':z.cps.toList[i]?=some c:=by rw[oW];exact hc
      rw[Zb,List.take_add_one,hc',mB];refine my (fun b=>some (HO.lst (_++[V.bl b]))) ?_;rw[<- kT];exact el
     ·rintro σ H' ⟨sm,hl,y,rfl⟩;have et:z.cps.toList.take z.cps.size=z.cps.toList:=by rw[<- nC];exact pq
      rw[et] at hl;have q:=k H' sm;rw[fin c1 c2,<- xh] at q;exact⟨D,z.cps.toList.map xY,rfl,SqL.of (by rw[hl,nu];rfl),q⟩
   ·refine⟨_,rfl,YR ?_⟩;have q:=k H (.refl H);rw[nof (fun q=>c1 (nk q.1))] at q;exact q
  ·obtain⟨t,h1,h2⟩:=WX K (by simp) hk hb;have q:=k H (.refl H);rw[e] at q;exact⟨_,rfl,_,t,_,rfl,h1,h2,_,rfl,YR (YR q)⟩
def Jl(K:W.Frag)(a:Adr):Sp:=fun vs H Q _=>∃x n,vs=[x,.int n]/\Kd H x/\Q (.bl (Y1 n x)) H
theorem Jk(T:Txt K mg a)(hw:w.params=a.Pm):Z2 P w K mg base CX0 2 a.is_room a.dH ["thing", "many"] (Jl K a):=by
 have fv:=zr (P:=P) (w:=w) (base:=base) T hw;refine T.fP.ok JL (fun vs H Q E h=>?_) (fun lM A outer s H vs Q E hr h=>?_)
 ·obtain⟨x,n,rfl,_⟩:=h;rfl
 ·obtain⟨x,n,rfl,hk,k⟩:=h;refine⟨_,(@Zg _ _ _ (@Zm _ _ _ _ (Wl (Zl fv (hr.mono (by decide)) rfl T.fj T.dN.kp T.fi .nil Zv (@Zd _ _ _ (pv 0) (by rfl))) (Wa (jW zy zA Zf (pv 0) (pv 1)))))),?_⟩;refine⟨_,rfl,x,rfl,hk,_,rfl,?_⟩;cases x with
  |int i=>
   refine YR ⟨_,rfl,_,_,rfl,rfl,_,rfl,?_⟩;cases c1:decide (0<=i) with
   |true=>
    refine YR ⟨_,rfl,_,_,rfl,rfl,?_⟩;have e:Y1 n (.int i)=decide (i<n):=by simp only[Y1,c1,pD]
    rw[e] at k;exact k
   |false=>
    have e:Y1 n (.int i)=false:=by simp only[Y1,c1,pb]
    rw[e] at k;exact Yd k
  |_=>exact Yd k
def vP(K:W.Frag)(a:Adr):Sp:=fun vs H Q _=>∃(p:Addr) (xs:List V) (m:Nat),vs=[.ref p,.int (m:Nat)]/\H p=some (.lst xs)/\m<=xs.length/\∀H' l,Zq p H H'->H' p=some (.lst (xs.take (xs.length-m)))->H l=none->H' l=some (.lst (xs.drop (xs.length-m)))->Q (.ref l) H'
theorem qF(T:Txt K mg a)(hw:w.params=a.Pm):Z2 P w K mg base CX0 1 a.last_ones a.cu ["things", "many"] (vP K a):=by
 refine T.cW.ok VP (fun vs H Q E h=>?_) (fun lM A outer s H vs Q E hr h=>?_)
 ·obtain⟨p,xs,m,rfl,_⟩:=h;rfl
 ·obtain⟨p,xs,m,rfl,hp,hm,k⟩:=h;refine⟨_,(@Za _ _ _ _ _ (@Zp _ _ (2) _ _ _ _ VP.nd rfl (Or.inl rfl) (@ZO _ _ _ _ _ _ _ _ Uo (Zn (Zy (K:=K) rfl) rfl T.aB sA (@Zd _ _ _ (pv 0) (by rfl))) (pv 1)) (by rfl) (by exact .inl rfl)) (@Za _ _ _ _ _ (@Zp _ _ (3) _ _ _ _ VP.nd rfl (Or.inl rfl) (ZS (Yo (K:=K) rfl) (pv 0) (ZX (pv 2)) Yb) (by rfl) (by exact .inl rfl)) (@Za _ _ _ _ _ (JU (pv 0) (pv 2)) (@Zg _ _ _ (@Zm _ _ _ _ (pv 3)))))),?_⟩;have e:(xs.length:Int)-(m:Int)=((xs.length-m:Nat):Int):=by omega
  refine⟨_,rfl,.inl ⟨p,_,rfl,.inl (SqL.of hp),_,rfl,_,_,rfl,rfl,?_⟩⟩;refine⟨_,rfl,_,rfl,((xs.length-m:Nat):Int),my V.int e,p,xs,rfl,SqL.of hp,fun l hl=>?_⟩;rw[Xu _ _ (by omega)];have np:=ne_new hp hl;refine⟨_,rfl,_,rfl,p,xs,xs.length-m,rfl,my V.int e,Ws hp np,by omega,?_⟩;refine⟨_,rfl,k _ l (Zh.x (Ze hl)).upd Zb hl ?_⟩;rw[ZB (mj np),Zb]
def vU(K:W.Frag)(a:Adr):Sp:=fun vs H Q _=>∃(v:V) (b:Bool),vs=[v]/\((b=true/\FmT K H v)\/(b=false/\Fm K H v))/\∀H',Zh H H'->Q (.bl b) H'
theorem nw_of:∀w∈(["signs", "Next"]:List Str),w ≠ "yes" /\ w ≠ "sign" /\ w∉(["and", "or"]:List Str)/\w ≠ "within" := by decide +kernel
theorem nwx{w:Str}(h:w∉NW):w ≠ "yes" /\ w ≠ "sign" /\ w∉(["and", "or"]:List Str)/\w ≠ "within" := by
 refine⟨fun e=>h (by rw[e];simp),fun e=>h (by rw[e];simp),fun e=>h ?_,fun e=>h (by rw[e];simp)⟩;simp at e;rcases e with rfl|rfl<;>simp
theorem jr(T:Txt K mg a)(hw:w.params=a.Pm):Z2 P w K mg base CX0 2 a.is_formed a.cw ["thing"] (vU K a):=by
 have fv:=zr (P:=P) (w:=w) (base:=base) T hw;have gw:=yT (P:=P) (w:=w) (base:=base) T hw;refine T.d7.ok qd (fun vs H Q E h=>?_) (fun lM A outer s H vs Q E hr h=>?_)
 ·obtain⟨v,b,rfl,_⟩:=h;rfl
 ·obtain⟨v,b,rfl,hb,k⟩:=h;refine⟨_,(@Za _ _ _ _ _ (@ZV _ _ _ _ _ _ _ _ (PW.pt (UJ (@Xy _ _ _ _ (WT (Zn (kS (K:=K) rfl) rfl T.ai sy (@Zk _ _ _ _ _ (pv 0) (@Zd _ _ _ (WJ (v:=.ty "tuple") rfl T.bf sD rfl) (by rfl)) (by rfl))))) (UJ (@Zx _ _ _ _ _ _ _ _ Yw (Zn (Zy (K:=K) rfl) rfl T.aB sA (@Zd _ _ _ (pv 0) (by rfl))) Zf (ZF _)) (V2 (@Xy _ _ _ _ (WT (Zn (Wh (K:=K) rfl "str") rfl T.ai sy (@Zk _ _ _ _ _ (@Zz _ _ _ _ _ _ _ (ZR (K:=K) rfl) (pv 0) Zf (fun _ _=>rfl)) (@Zd _ _ _ (WJ (v:=.ty "str") rfl T.lu PyProof.Rows.Boot.«str» rfl) (by rfl)) (by rfl))))))))) (@Zg _ _ _ (@Zm _ _ _ _ Vj)) ZD) (@Za _ _ _ _ _ (@Zp _ _ (1) _ _ _ _ qd.nd rfl (Or.inl rfl) (@Zz _ _ _ _ _ _ _ (ZR (K:=K) rfl) (pv 0) Zf (fun _ _=>rfl)) (by rfl) (by exact .inl rfl)) (@Za _ _ _ _ _ (@ZV _ _ _ _ _ _ _ _ (@Zx _ _ _ _ _ _ _ _ Yw (pv 1) Zt (ZF _)) (@Zg _ _ _ (@Zm _ _ _ _ (@XR _ _ _ _ _ _ _ _ Yw (Zn (Zy (K:=K) rfl) rfl T.aB sA (@Zd _ _ _ (pv 0) (by rfl))) Zf (ZF _)))) ZD) (@Za _ _ _ _ _ (@ZV _ _ _ _ _ _ _ _ (@Zx _ _ _ _ _ _ _ _ Yw (pv 1) Zt (ZF _)) (@Zg _ _ _ (@Zm _ _ _ _ (Wl (@XR _ _ _ _ _ _ _ _ Yw (Zn (Zy (K:=K) rfl) rfl T.aB sA (@Zd _ _ _ (pv 0) (by rfl))) Zf (ZF _)) (Wa (Zl gw (hr.mono (by decide)) rfl T.fO T.eK.kp T.fN .nil Zv (@Zd _ _ _ (@Zz _ _ _ _ _ _ _ (ZR (K:=K) rfl) (pv 0) Zf (fun _ _=>rfl)) (by rfl))))))) ZD) (@Za _ _ _ _ _ (@ZV _ _ _ _ _ _ _ _ (@Zx _ _ _ _ _ _ _ _ (V3 (K:=K) rfl) (pv 1) (@ZJ _ _ _ _ _ (@Zk _ _ _ _ _ Zt (@Zd _ _ _ Zt (by rfl)) (by rfl))) (by with_unfolding_all rfl)) (@Zg _ _ _ (@Zm _ _ _ _ (Wl (@XR _ _ _ _ _ _ _ _ Yw (Zn (Zy (K:=K) rfl) rfl T.aB sA (@Zd _ _ _ (pv 0) (by rfl))) Zf (ZF _)) (Wa (Zn (kS (K:=K) rfl) rfl T.ai sy (@Zk _ _ _ _ _ (@Zz _ _ _ _ _ _ _ (ZR (K:=K) rfl) (pv 0) Zf (fun _ _=>rfl)) (@Zd _ _ _ (WJ (v:=.ty "tuple") rfl T.bf sD rfl) (by rfl)) (by rfl))))))) ZD) (@Za _ _ _ _ _ (@ZV _ _ _ _ _ _ _ _ (@Zx _ _ _ _ _ _ _ _ Yw (pv 1) Zt (ZF _)) (@Zg _ _ _ (@Zm _ _ _ _ (Wl (@XR _ _ _ _ _ _ _ _ Yw (Zn (Zy (K:=K) rfl) rfl T.aB sA (@Zd _ _ _ (pv 0) (by rfl))) Zf (ZF _)) (Wl (Zl fv (hr.mono (by decide)) rfl T.fj T.dN.kp T.fi .nil Zv (@Zd _ _ _ (@Zz _ _ _ _ _ _ _ (ZR (K:=K) rfl) (pv 0) Zf (fun _ _=>rfl)) (by rfl))) (Wa (jW zy zy Zf (@Zz _ _ _ _ _ _ _ (ZR (K:=K) rfl) (pv 0) Zf (fun _ _=>rfl)) (Vv rfl T.fh))))))) ZD) (@Zg _ _ _ (@Zm _ _ _ _ (Wl (@XR _ _ _ _ _ _ _ _ (op_inD2 (K:=K) (P:=a.Pm) rfl hw) (pv 1) (Vv (v:=.ref a.D_LENGTHS) rfl ⟨_,T.gv,rfl⟩) (by with_unfolding_all rfl)) (Wa (@XR _ _ _ _ _ _ _ _ Yw (Zn (Zy (K:=K) rfl) rfl T.aB sA (@Zd _ _ _ (pv 0) (by rfl))) (@Zz _ _ _ _ _ _ _ (ix_dic (K:=K) (P:=a.Pm) rfl hw) (Vv (v:=.ref a.D_LENGTHS) rfl ⟨_,T.gv,rfl⟩) (pv 1) (fun _ _=>rfl)) (ZF _)))))))))))),?_⟩;rcases hb with⟨rfl,hT⟩|⟨rfl,hF⟩
  ·obtain⟨ad,us,c,rfl,sh,ok⟩:=hT;obtain⟨xs,e⟩:=sh.tup;obtain⟨ty2,c3,c4⟩:=Vl (K:=K) (H:=H) (ZT c);refine⟨_,rfl,_,rfl,.inl ⟨ad,_,rfl,e,_,rfl,Yd ?_⟩⟩;refine⟨_,rfl,.inl ⟨ad,_,rfl,.inr e,rfl,_,rfl,Z1 (fun z=>by have:=V.int.inj z;simp at this<;>omega) ?_⟩⟩;refine⟨_,rfl,ad,_,_,_,rfl,rfl,e,Zi (j:=0) rfl,_,ty2,_,rfl,c3,c4,_,rfl,Yd ?_⟩;refine⟨_,rfl,ad,_,_,_,rfl,rfl,e,Zi (j:=0) rfl,?_⟩;clear e c3 c4 ty2 xs
   revert sh ok
   cases c with
   |yes=>
    intro sh ok;refine⟨_,rfl,rfl,_,rfl,Wb rfl ?_⟩;exact⟨_,rfl,.inl ⟨ad,_,rfl,.inr (sh.2),rfl,qD (by rfl) (k _ (.refl _))⟩⟩
   |sign z=>
    intro sh ok;refine⟨_,rfl,rfl,_,rfl,Z1 (fun z=>(by decide +kernel:¬(("sign" : Str) = "yes")) (V.str.inj z)) ?_⟩;refine⟨_,rfl,rfl,_,rfl,Wb rfl ?_⟩;refine⟨_,rfl,.inl ⟨ad,_,rfl,.inr (sh.2),rfl,_,rfl,Wb (by rfl) ?_⟩⟩;refine⟨_,rfl,ad,_,_,_,rfl,rfl,sh.2,Zi (j:=1) rfl,.str z,rfl,.str z (mC (yY ok.2) (by decide)),fun H' s'=>?_⟩;have e:Xl (.str z)=true:=ok.2;rw[e];exact k H' s'
   |op w=>
    intro sh ok;obtain⟨h1,h2,h3,h4,_⟩:=yH w (by rcases ok with ok|ok;exact mX _ ok.1;exact mP _ ok.1);refine⟨_,rfl,rfl,_,rfl,Z1 (fun z=>h1 (V.str.inj z)) ?_⟩;refine⟨_,rfl,rfl,_,rfl,Z1 (fun z=>h2 (V.str.inj z)) ?_⟩;refine⟨_,rfl,by rw[lV];simp,fun q hq2=>⟨q,_,rfl,.inr (SqT.of Zb),rfl,rfl,_,rfl,XI (ss:=["and", "or"]) h3 ?_⟩⟩;have s1:=Ze (o:=.tup [.str "and",.str "or"]) hq2;have e1:=Zh.tup s1 K _ _ sh;generalize upd H q (.tup [.str "and",.str "or"])=H1 at s1 e1 ⊢;refine⟨_,rfl,rfl,_,rfl,Z1 (fun z=>h4 (V.str.inj z)) ?_⟩;obtain⟨i,hm,hi⟩:∃i:Int,(w,i)∈LK/\((us.length+1:Nat):Int)=i:=by
     rcases ok with⟨ok,o2⟩|⟨ok,o2⟩
     ·exact⟨2,lk1 w ok,by omega⟩
     ·exact⟨3,lk2 w ok,by omega⟩
    refine⟨_,rfl,w,_,_,true,rfl,rfl,T.cM,.inl ⟨rfl,i,hm⟩,_,rfl,YR ⟨_,rfl,.inl ⟨ad,_,rfl,.inr (e1),_,rfl,_,w,_,i,rfl,rfl,T.cM,hm,rfl,qD (my V.int hi) (k _ s1)⟩⟩⟩
   |wit m=>
    intro sh ok;refine⟨_,rfl,rfl,_,rfl,Z1 (fun z=>(by decide +kernel:¬(("within" : Str) = "yes")) (V.str.inj z)) ?_⟩;refine⟨_,rfl,rfl,_,rfl,Z1 (fun z=>(by decide +kernel:¬(("within" : Str) = "sign")) (V.str.inj z)) ?_⟩;refine⟨_,rfl,by rw[lV];simp,fun q hq2=>⟨q,_,rfl,.inr (SqT.of Zb),rfl,rfl,_,rfl,XI (ss:=["and", "or"]) (show("within" : Str)∉(["and", "or"]:List Str) by decide +kernel) ?_⟩⟩;have s1:=Ze (o:=.tup [.str "and",.str "or"]) hq2;have e1:=Zh.tup s1 K _ _ sh;generalize upd H q (.tup [.str "and",.str "or"])=H1 at s1 e1 ⊢;refine⟨_,rfl,rfl,_,rfl,Wb rfl ?_⟩;have hu:us.length=2:=ok.2;refine⟨_,rfl,.inl ⟨ad,_,rfl,.inr (e1),rfl,_,rfl,Wb (my V.int (by simp[hu])) ?_⟩⟩;refine⟨_,rfl,ad,_,_,_,rfl,rfl,e1,Zi (j:=1) rfl,.int m,rfl,.int m,_,rfl,YR ?_⟩;exact⟨_,rfl,ad,_,_,_,rfl,rfl,e1,Zi (j:=1) rfl,_,_,rfl,rfl,_,rfl,Wb ok.1.1 ⟨_,_,rfl,rfl,qD ok.1.2 (k _ s1)⟩⟩
   |many w=>
    intro sh ok;obtain⟨b,sh1,sh2⟩:=sh;have hw0:w∈(["and", "or"]:List Str):=by rcases ok.1 with rfl|rfl<;>simp
    obtain⟨h1,h2,h3,_⟩:=Vn w hw0;refine⟨_,rfl,rfl,_,rfl,Z1 (fun z=>h1 (V.str.inj z)) ?_⟩;refine⟨_,rfl,rfl,_,rfl,Z1 (fun z=>h2 (V.str.inj z)) ?_⟩;refine⟨_,rfl,by rw[lV];simp,fun q hq2=>⟨q,_,rfl,.inr (SqT.of Zb),rfl,rfl,_,rfl,UK (ss:=["and", "or"]) hw0 ?_⟩⟩;have s1:=Ze (o:=.tup [.str "and",.str "or"]) hq2;have e1:=Zh.tup s1 K _ _ sh1;have e2:=Zh.tup s1 K _ _ sh2;generalize upd H q (.tup [.str "and",.str "or"])=H1 at s1 e1 e2 ⊢;exact⟨_,rfl,.inl ⟨ad,_,rfl,.inr (e1),rfl,_,rfl,Wb (by rfl) ⟨_,rfl,ad,_,_,_,rfl,rfl,e1,Zi (j:=1) rfl,_,rfl,.inl ⟨b,_,rfl,e2,k _ s1⟩⟩⟩⟩
  cases hF with
  |noT hk ht=>
   obtain⟨t,h1,h2⟩:=WX K (by simp) hk ht;exact⟨_,rfl,_,rfl,.inr ⟨t,h1,h2,_,rfl,YR (k _ (.refl _))⟩⟩
  |@emp ad e=>
   refine⟨_,rfl,_,rfl,.inl ⟨ad,_,rfl,e,_,rfl,Yd ?_⟩⟩;exact⟨_,rfl,.inl ⟨ad,_,rfl,.inr e,rfl,_,rfl,Wb rfl (k _ (.refl _))⟩⟩
  |@noS ad x xs e hk ht=>
   obtain⟨t,h1,h2⟩:=WX K (by simp) hk ht;refine⟨_,rfl,_,rfl,.inl ⟨ad,_,rfl,e,_,rfl,Yd ?_⟩⟩;refine⟨_,rfl,.inl ⟨ad,_,rfl,.inr e,rfl,_,rfl,Z1 (fun z=>by have:=V.int.inj z;simp at this<;>omega) ?_⟩⟩;exact⟨_,rfl,ad,_,_,_,rfl,rfl,e,Zi (j:=0) rfl,_,t,_,rfl,h1,h2,_,rfl,YR (k _ (.refl _))⟩
  |@yes ad xs e hl=>
   obtain⟨ty2,c3,c4⟩:=Vl (K:=K) (H:=H) "yes";refine⟨_,rfl,_,rfl,.inl ⟨ad,_,rfl,e,_,rfl,Yd ?_⟩⟩;refine⟨_,rfl,.inl ⟨ad,_,rfl,.inr e,rfl,_,rfl,Z1 (fun z=>by have:=V.int.inj z;simp at this<;>omega) ?_⟩⟩;refine⟨_,rfl,ad,_,_,_,rfl,rfl,e,Zi (j:=0) rfl,_,ty2,_,rfl,c3,c4,_,rfl,Yd ?_⟩;refine⟨_,rfl,ad,_,_,_,rfl,rfl,e,Zi (j:=0) rfl,?_⟩;refine⟨_,rfl,rfl,_,rfl,Wb rfl ?_⟩;exact⟨_,rfl,.inl ⟨ad,_,rfl,.inr e,rfl,qN (fun z=>by have:=V.int.inj z;simp at this<;>omega) (k _ (.refl _))⟩⟩
  |@sgnL ad xs e hl=>
   obtain⟨ty2,c3,c4⟩:=Vl (K:=K) (H:=H) "sign";refine⟨_,rfl,_,rfl,.inl ⟨ad,_,rfl,e,_,rfl,Yd ?_⟩⟩;refine⟨_,rfl,.inl ⟨ad,_,rfl,.inr e,rfl,_,rfl,Z1 (fun z=>by have:=V.int.inj z;simp at this<;>omega) ?_⟩⟩;refine⟨_,rfl,ad,_,_,_,rfl,rfl,e,Zi (j:=0) rfl,_,ty2,_,rfl,c3,c4,_,rfl,Yd ?_⟩;refine⟨_,rfl,ad,_,_,_,rfl,rfl,e,Zi (j:=0) rfl,?_⟩;refine⟨_,rfl,rfl,_,rfl,Z1 (fun z=>(by decide +kernel:¬(("sign" : Str) = "yes")) (V.str.inj z)) ?_⟩;refine⟨_,rfl,rfl,_,rfl,Wb rfl ?_⟩;exact⟨_,rfl,.inl ⟨ad,_,rfl,.inr e,rfl,_,rfl,Z1 (fun z=>by have:=V.int.inj z;simp at this<;>omega) (k _ (.refl _))⟩⟩
  |@sgn ad x e hk hx=>
   obtain⟨ty2,c3,c4⟩:=Vl (K:=K) (H:=H) "sign";refine⟨_,rfl,_,rfl,.inl ⟨ad,_,rfl,e,_,rfl,Yd ?_⟩⟩;refine⟨_,rfl,.inl ⟨ad,_,rfl,.inr e,rfl,_,rfl,Z1 (fun z=>by have:=V.int.inj z;simp at this<;>omega) ?_⟩⟩;refine⟨_,rfl,ad,_,_,_,rfl,rfl,e,Zi (j:=0) rfl,_,ty2,_,rfl,c3,c4,_,rfl,Yd ?_⟩;refine⟨_,rfl,ad,_,_,_,rfl,rfl,e,Zi (j:=0) rfl,?_⟩;refine⟨_,rfl,rfl,_,rfl,Z1 (fun z=>(by decide +kernel:¬(("sign" : Str) = "yes")) (V.str.inj z)) ?_⟩;refine⟨_,rfl,rfl,_,rfl,Wb rfl ?_⟩;refine⟨_,rfl,.inl ⟨ad,_,rfl,.inr e,rfl,_,rfl,Wb (by rfl) ?_⟩⟩;refine⟨_,rfl,ad,_,_,_,rfl,rfl,e,Zi (j:=1) rfl,x,rfl,hk,fun H' s'=>?_⟩;rw[hx];exact k H' s'
  |@manyL ad w xs hw0 e hl=>
   obtain⟨h1,h2,h3,_⟩:=Vn w hw0;obtain⟨ty2,c3,c4⟩:=Vl (K:=K) (H:=H) w;refine⟨_,rfl,_,rfl,.inl ⟨ad,_,rfl,e,_,rfl,Yd ?_⟩⟩;refine⟨_,rfl,.inl ⟨ad,_,rfl,.inr e,rfl,_,rfl,Z1 (fun z=>by have:=V.int.inj z;simp at this<;>omega) ?_⟩⟩;refine⟨_,rfl,ad,_,_,_,rfl,rfl,e,Zi (j:=0) rfl,_,ty2,_,rfl,c3,c4,_,rfl,Yd ?_⟩;refine⟨_,rfl,ad,_,_,_,rfl,rfl,e,Zi (j:=0) rfl,?_⟩;refine⟨_,rfl,rfl,_,rfl,Z1 (fun z=>h1 (V.str.inj z)) ?_⟩;refine⟨_,rfl,rfl,_,rfl,Z1 (fun z=>h2 (V.str.inj z)) ?_⟩;refine⟨_,rfl,by rw[lV];simp,fun q hq2=>⟨q,_,rfl,.inr (SqT.of Zb),rfl,rfl,_,rfl,UK (ss:=["and", "or"]) hw0 ?_⟩⟩;have s1:=Ze (o:=.tup [.str "and",.str "or"]) hq2;have e1:=Zh.tup s1 K _ _ e;generalize upd H q (.tup [.str "and",.str "or"])=H1 at s1 e1 ⊢;exact⟨_,rfl,.inl ⟨ad,_,rfl,.inr (e1),rfl,_,rfl,Z1 (fun z=>by have:=V.int.inj z;simp at this<;>omega) (k _ s1)⟩⟩
  |@manyN ad w x hw0 e hk ht=>
   obtain⟨h1,h2,h3,_⟩:=Vn w hw0;obtain⟨ty2,c3,c4⟩:=Vl (K:=K) (H:=H) w;refine⟨_,rfl,_,rfl,.inl ⟨ad,_,rfl,e,_,rfl,Yd ?_⟩⟩;refine⟨_,rfl,.inl ⟨ad,_,rfl,.inr e,rfl,_,rfl,Z1 (fun z=>by have:=V.int.inj z;simp at this<;>omega) ?_⟩⟩;refine⟨_,rfl,ad,_,_,_,rfl,rfl,e,Zi (j:=0) rfl,_,ty2,_,rfl,c3,c4,_,rfl,Yd ?_⟩;refine⟨_,rfl,ad,_,_,_,rfl,rfl,e,Zi (j:=0) rfl,?_⟩;refine⟨_,rfl,rfl,_,rfl,Z1 (fun z=>h1 (V.str.inj z)) ?_⟩;refine⟨_,rfl,rfl,_,rfl,Z1 (fun z=>h2 (V.str.inj z)) ?_⟩;refine⟨_,rfl,by rw[lV];simp,fun q hq2=>⟨q,_,rfl,.inr (SqT.of Zb),rfl,rfl,_,rfl,UK (ss:=["and", "or"]) hw0 ?_⟩⟩;have s1:=Ze (o:=.tup [.str "and",.str "or"]) hq2;have e1:=Zh.tup s1 K _ _ e;generalize upd H q (.tup [.str "and",.str "or"])=H1 at s1 e1 ⊢;obtain⟨t,h5,h6⟩:=WX K (by simp) (hk.mono s1) ((isTy_same s1 hk).trans ht);exact⟨_,rfl,.inl ⟨ad,_,rfl,.inr (e1),rfl,_,rfl,Wb (by rfl) ⟨_,rfl,ad,_,_,_,rfl,rfl,e1,Zi (j:=1) rfl,_,rfl,.inr ⟨t,h5,h6,k _ s1⟩⟩⟩⟩
  |@witL ad xs e hl=>
   obtain⟨ty2,c3,c4⟩:=Vl (K:=K) (H:=H) "within";refine⟨_,rfl,_,rfl,.inl ⟨ad,_,rfl,e,_,rfl,Yd ?_⟩⟩;refine⟨_,rfl,.inl ⟨ad,_,rfl,.inr e,rfl,_,rfl,Z1 (fun z=>by have:=V.int.inj z;simp at this<;>omega) ?_⟩⟩;refine⟨_,rfl,ad,_,_,_,rfl,rfl,e,Zi (j:=0) rfl,_,ty2,_,rfl,c3,c4,_,rfl,Yd ?_⟩;refine⟨_,rfl,ad,_,_,_,rfl,rfl,e,Zi (j:=0) rfl,?_⟩;refine⟨_,rfl,rfl,_,rfl,Z1 (fun z=>(by decide +kernel:¬(("within" : Str) = "yes")) (V.str.inj z)) ?_⟩;refine⟨_,rfl,rfl,_,rfl,Z1 (fun z=>(by decide +kernel:¬(("within" : Str) = "sign")) (V.str.inj z)) ?_⟩;refine⟨_,rfl,by rw[lV];simp,fun q hq2=>⟨q,_,rfl,.inr (SqT.of Zb),rfl,rfl,_,rfl,XI (ss:=["and", "or"]) (show("within" : Str)∉(["and", "or"]:List Str) by decide +kernel) ?_⟩⟩;have s1:=Ze (o:=.tup [.str "and",.str "or"]) hq2;have e1:=Zh.tup s1 K _ _ e;generalize upd H q (.tup [.str "and",.str "or"])=H1 at s1 e1 ⊢;refine⟨_,rfl,rfl,_,rfl,Wb rfl ?_⟩;exact⟨_,rfl,.inl ⟨ad,_,rfl,.inr (e1),rfl,_,rfl,Z1 (fun z=>by have:=V.int.inj z;simp at this<;>omega) (k _ s1)⟩⟩
  |@witN ad x y z e hk hx=>
   obtain⟨ty2,c3,c4⟩:=Vl (K:=K) (H:=H) "within";refine⟨_,rfl,_,rfl,.inl ⟨ad,_,rfl,e,_,rfl,Yd ?_⟩⟩;refine⟨_,rfl,.inl ⟨ad,_,rfl,.inr e,rfl,_,rfl,Z1 (fun z=>by have:=V.int.inj z;simp at this<;>omega) ?_⟩⟩;refine⟨_,rfl,ad,_,_,_,rfl,rfl,e,Zi (j:=0) rfl,_,ty2,_,rfl,c3,c4,_,rfl,Yd ?_⟩;refine⟨_,rfl,ad,_,_,_,rfl,rfl,e,Zi (j:=0) rfl,?_⟩;refine⟨_,rfl,rfl,_,rfl,Z1 (fun z=>(by decide +kernel:¬(("within" : Str) = "yes")) (V.str.inj z)) ?_⟩;refine⟨_,rfl,rfl,_,rfl,Z1 (fun z=>(by decide +kernel:¬(("within" : Str) = "sign")) (V.str.inj z)) ?_⟩;refine⟨_,rfl,by rw[lV];simp,fun q hq2=>⟨q,_,rfl,.inr (SqT.of Zb),rfl,rfl,_,rfl,XI (ss:=["and", "or"]) (show("within" : Str)∉(["and", "or"]:List Str) by decide +kernel) ?_⟩⟩;have s1:=Ze (o:=.tup [.str "and",.str "or"]) hq2;have e1:=Zh.tup s1 K _ _ e;generalize upd H q (.tup [.str "and",.str "or"])=H1 at s1 e1 ⊢;refine⟨_,rfl,rfl,_,rfl,Wb rfl ?_⟩;refine⟨_,rfl,.inl ⟨ad,_,rfl,.inr (e1),rfl,_,rfl,Wb (by rfl) ?_⟩⟩;refine⟨_,rfl,ad,_,_,_,rfl,rfl,e1,Zi (j:=1) rfl,x,rfl,hk.mono s1,?_⟩;rw[hx];exact⟨_,rfl,Yd (k _ s1)⟩
  |@witM ad m y z e hm=>
   obtain⟨ty2,c3,c4⟩:=Vl (K:=K) (H:=H) "within";refine⟨_,rfl,_,rfl,.inl ⟨ad,_,rfl,e,_,rfl,Yd ?_⟩⟩;refine⟨_,rfl,.inl ⟨ad,_,rfl,.inr e,rfl,_,rfl,Z1 (fun z=>by have:=V.int.inj z;simp at this<;>omega) ?_⟩⟩;refine⟨_,rfl,ad,_,_,_,rfl,rfl,e,Zi (j:=0) rfl,_,ty2,_,rfl,c3,c4,_,rfl,Yd ?_⟩;refine⟨_,rfl,ad,_,_,_,rfl,rfl,e,Zi (j:=0) rfl,?_⟩;refine⟨_,rfl,rfl,_,rfl,Z1 (fun z=>(by decide +kernel:¬(("within" : Str) = "yes")) (V.str.inj z)) ?_⟩;refine⟨_,rfl,rfl,_,rfl,Z1 (fun z=>(by decide +kernel:¬(("within" : Str) = "sign")) (V.str.inj z)) ?_⟩;refine⟨_,rfl,by rw[lV];simp,fun q hq2=>⟨q,_,rfl,.inr (SqT.of Zb),rfl,rfl,_,rfl,XI (ss:=["and", "or"]) (show("within" : Str)∉(["and", "or"]:List Str) by decide +kernel) ?_⟩⟩;have s1:=Ze (o:=.tup [.str "and",.str "or"]) hq2;have e1:=Zh.tup s1 K _ _ e;generalize upd H q (.tup [.str "and",.str "or"])=H1 at s1 e1 ⊢;refine⟨_,rfl,rfl,_,rfl,Wb rfl ?_⟩;refine⟨_,rfl,.inl ⟨ad,_,rfl,.inr (e1),rfl,_,rfl,Wb (by rfl) ?_⟩⟩;refine⟨_,rfl,ad,_,_,_,rfl,rfl,e1,Zi (j:=1) rfl,.int m,rfl,.int m,_,rfl,YR ?_⟩;refine⟨_,rfl,ad,_,_,_,rfl,rfl,e1,Zi (j:=1) rfl,_,_,rfl,rfl,_,rfl,?_⟩
   by_cases h0:0<=m
   ·exact Wb h0 ⟨_,_,rfl,rfl,qN (fun h5=>hm ⟨h0,h5⟩) (k _ s1)⟩
   ·exact Z1 h0 (k _ s1)
  |@word ad w xs e hw1=>
   obtain⟨h1,h2,h3,h4⟩:=nw_of w hw1;obtain⟨ty2,c3,c4⟩:=Vl (K:=K) (H:=H) w;refine⟨_,rfl,_,rfl,.inl ⟨ad,_,rfl,e,_,rfl,Yd ?_⟩⟩;refine⟨_,rfl,.inl ⟨ad,_,rfl,.inr e,rfl,_,rfl,Z1 (fun z=>by have:=V.int.inj z;simp at this<;>omega) ?_⟩⟩;refine⟨_,rfl,ad,_,_,_,rfl,rfl,e,Zi (j:=0) rfl,_,ty2,_,rfl,c3,c4,_,rfl,Yd ?_⟩;refine⟨_,rfl,ad,_,_,_,rfl,rfl,e,Zi (j:=0) rfl,?_⟩;refine⟨_,rfl,rfl,_,rfl,Z1 (fun z=>h1 (V.str.inj z)) ?_⟩;refine⟨_,rfl,rfl,_,rfl,Z1 (fun z=>h2 (V.str.inj z)) ?_⟩;refine⟨_,rfl,by rw[lV];simp,fun q hq2=>⟨q,_,rfl,.inr (SqT.of Zb),rfl,rfl,_,rfl,XI (ss:=["and", "or"]) h3 ?_⟩⟩;have s1:=Ze (o:=.tup [.str "and",.str "or"]) hq2;have e1:=Zh.tup s1 K _ _ e;generalize upd H q (.tup [.str "and",.str "or"])=H1 at s1 e1 ⊢;refine⟨_,rfl,rfl,_,rfl,Z1 (fun z=>h4 (V.str.inj z)) ?_⟩;have hn:W.nsIn K a.D_LENGTHS w=some none:=by
    simp at hw1;rcases hw1 with rfl|rfl
    ·exact T.nk_signs
    ·exact T.nk_Next
   exact⟨_,rfl,w,_,_,false,rfl,rfl,T.cM,.inr ⟨rfl,hn⟩,_,rfl,Yd (k _ s1)⟩
  |@lens ad w i xs e hw1 hm hi=>
   obtain⟨h1,h2,h3,h4⟩:=nwx hw1;obtain⟨ty2,c3,c4⟩:=Vl (K:=K) (H:=H) w;refine⟨_,rfl,_,rfl,.inl ⟨ad,_,rfl,e,_,rfl,Yd ?_⟩⟩;refine⟨_,rfl,.inl ⟨ad,_,rfl,.inr e,rfl,_,rfl,Z1 (fun z=>by have:=V.int.inj z;simp at this<;>omega) ?_⟩⟩;refine⟨_,rfl,ad,_,_,_,rfl,rfl,e,Zi (j:=0) rfl,_,ty2,_,rfl,c3,c4,_,rfl,Yd ?_⟩;refine⟨_,rfl,ad,_,_,_,rfl,rfl,e,Zi (j:=0) rfl,?_⟩;refine⟨_,rfl,rfl,_,rfl,Z1 (fun z=>h1 (V.str.inj z)) ?_⟩;refine⟨_,rfl,rfl,_,rfl,Z1 (fun z=>h2 (V.str.inj z)) ?_⟩;refine⟨_,rfl,by rw[lV];simp,fun q hq2=>⟨q,_,rfl,.inr (SqT.of Zb),rfl,rfl,_,rfl,XI (ss:=["and", "or"]) h3 ?_⟩⟩;have s1:=Ze (o:=.tup [.str "and",.str "or"]) hq2;have e1:=Zh.tup s1 K _ _ e;generalize upd H q (.tup [.str "and",.str "or"])=H1 at s1 e1 ⊢;refine⟨_,rfl,rfl,_,rfl,Z1 (fun z=>h4 (V.str.inj z)) ?_⟩;exact⟨_,rfl,w,_,_,true,rfl,rfl,T.cM,.inl ⟨rfl,i,hm⟩,_,rfl,YR ⟨_,rfl,.inl ⟨ad,_,rfl,.inr (e1),_,rfl,_,w,_,i,rfl,rfl,T.cM,hm,rfl,qN (fun z=>hi (V.int.inj z)) (k _ s1)⟩⟩⟩
def jR(K:W.Frag)(a:Adr):Sp:=fun vs H Q _=>∃(v:V) (ad:Addr) (us:List V) (c:Lb),vs=[v]/\v=.ref ad/\UO K H ad us c/\lbOkB c us.length/\∀H' b,Zh H H'->SqT K H' b us->Q (.ref b) H'
theorem cutV_two(x y:V)(vs:List V):W0 (x::y::vs) (some 2) none=vs:=by
 have:=Xu (x::y::vs) 2 (by simp);exact this
theorem kJ(x:V)(vs:List V):W0 (x::vs) (some 1) none=vs:=by
 have:=Xu (x::vs) 1 (by simp);exact this
theorem je{n:Nat}{k:Int}(h:0<k)(hn:(k:Int)<=n):¬(HT.sIx n 0 (some k)=0/\HT.sIx n n none=n):=by
 rintro⟨h1,_⟩;have h2:¬(k<0):=by omega
 unfold HT.sIx at h1;simp only[h2,mK] at h1;omega
theorem Ue(T:Txt K mg a)(hw:w.params=a.Pm):Z2 P w K mg base CX0 1 a.inner_of a.cP ["sentence"] (jR K a):=by
 refine T.cJ.ok zo (fun vs H Q E h=>?_) (fun lM A outer s H vs Q E hr h=>?_)
 ·obtain⟨v,ad,us,c,rfl,_⟩:=h;rfl
 ·obtain⟨v,ad,us,c,rfl,rfl,sh,ok,k⟩:=h;refine⟨_,(@Za _ _ _ _ _ (@Zp _ _ (1) _ _ _ _ zo.nd rfl (Or.inl rfl) (@Zz _ _ _ _ _ _ _ (ZR (K:=K) rfl) (pv 0) Zf (fun _ _=>rfl)) (by rfl) (by exact .inl rfl)) (@Za _ _ _ _ _ (@ZV _ _ _ _ _ _ _ _ (@Zx _ _ _ _ _ _ _ _ (V3 (K:=K) rfl) (pv 1) (@ZJ _ _ _ _ _ (@Zk _ _ _ _ _ Zt (@Zd _ _ _ Zt (by rfl)) (by rfl))) (by with_unfolding_all rfl)) (@Zg _ _ _ (@Zm _ _ _ _ (@ZJ _ _ _ _ _ Xd))) ZD) (@Za _ _ _ _ _ (@ZV _ _ _ _ _ _ _ _ (@Zx _ _ _ _ _ _ _ _ (V3 (K:=K) rfl) (pv 1) (@ZJ _ _ _ _ _ (@Zk _ _ _ _ _ Zt (@Zd _ _ _ Zt (by rfl)) (by rfl))) (by with_unfolding_all rfl)) (@Zg _ _ _ (@Zm _ _ _ _ (@Zz _ _ _ _ _ _ _ (ZR (K:=K) rfl) (pv 0) Zf (fun _ _=>rfl)))) ZD) (@Za _ _ _ _ _ (@ZV _ _ _ _ _ _ _ _ (@Zx _ _ _ _ _ _ _ _ Yw (pv 1) Zt (ZF _)) (@Zg _ _ _ (@Zm _ _ _ _ (ZS (VR (K:=K) rfl) (pv 0) (ZX Zf) Yb))) ZD) (@Zg _ _ _ (@Zm _ _ _ _ (ZS (VR (K:=K) rfl) (pv 0) (ZX Zf) Yb))))))),?_⟩;obtain⟨xs,e⟩:=sh.tup;refine⟨_,rfl,ad,_,_,_,rfl,rfl,e,Zi (j:=0) rfl,?_⟩;refine⟨_,rfl,by rw[lV];simp,fun q hq2=>⟨q,_,rfl,.inr (SqT.of Zb),rfl,rfl,_,rfl,?_⟩⟩;have s1:=Ze (o:=.tup [.str "yes",.str "sign"]) hq2;generalize upd H q (.tup [.str "yes",.str "sign"])=H1 at s1 ⊢;have sh1:=sh.mono (Zh.tup s1);clear e xs sh
  revert sh1 ok
  cases c with
  |yes=>
   intro ok sh;refine UK (ss:=["yes", "sign"]) (by decide +kernel) ⟨by rw[lV];simp,fun r hr=>?_⟩;have h0:=sh.1;subst h0;exact k _ r (s1.trans (Ze hr)) (SqT.of Zb)
  |sign z=>
   intro ok sh;refine UK (ss:=["yes", "sign"]) (show("sign" : Str)∈(["yes", "sign"]:List Str) by decide +kernel) ⟨by rw[lV];simp,fun r hr=>?_⟩;have h0:=sh.1;subst h0;exact k _ r (s1.trans (Ze hr)) (SqT.of Zb)
  |op w=>
   intro ok sh;obtain⟨h1,h2,h3,h4,h5⟩:=yH w (by rcases ok with ok|ok;exact mX _ ok.1;exact mP _ ok.1);refine XI (ss:=["yes", "sign"]) h5 ?_;refine⟨_,rfl,by rw[lV];simp,fun q3 hq3=>⟨q3,_,rfl,.inr (SqT.of Zb),rfl,rfl,_,rfl,XI (ss:=["and", "or"]) h3 ?_⟩⟩;have s2:=Ze (o:=.tup [.str "and",.str "or"]) hq3;generalize upd H1 q3 (.tup [.str "and",.str "or"])=H2 at s2 ⊢;refine⟨_,rfl,rfl,_,rfl,Z1 (fun z=>h4 (V.str.inj z)) ?_⟩;refine⟨_,rfl,_,rfl,ad,_,rfl,(Zh.tup s2 K _ _ sh),je (by decide) (by simp;omega),fun r hr=>?_⟩;rw[kJ];exact k _ r ((s1.trans s2).trans (Ze hr)) (SqT.of Zb)
  |wit m=>
   intro ok sh;refine XI (ss:=["yes", "sign"]) (show("within" : Str)∉(["yes", "sign"]:List Str) by decide +kernel) ?_;refine⟨_,rfl,by rw[lV];simp,fun q3 hq3=>⟨q3,_,rfl,.inr (SqT.of Zb),rfl,rfl,_,rfl,XI (ss:=["and", "or"]) (show("within" : Str)∉(["and", "or"]:List Str) by decide +kernel) ?_⟩⟩;have s2:=Ze (o:=.tup [.str "and",.str "or"]) hq3;generalize upd H1 q3 (.tup [.str "and",.str "or"])=H2 at s2 ⊢;refine⟨_,rfl,rfl,_,rfl,Wb rfl ?_⟩;refine⟨_,rfl,_,rfl,ad,_,rfl,(Zh.tup s2 K _ _ sh),je (by decide) (by simp;omega),fun r hr=>?_⟩;rw[cutV_two];exact k _ r ((s1.trans s2).trans (Ze hr)) (SqT.of Zb)
  |many w=>
   intro ok sh;have hw0:w∈(["and", "or"]:List Str):=by rcases ok.1 with rfl|rfl<;>simp
   obtain⟨h1,h2,h3,h4,_⟩:=Vn w hw0;obtain⟨b,sh1,sh2⟩:=sh;refine XI (ss:=["yes", "sign"]) h4 ?_;refine⟨_,rfl,by rw[lV];simp,fun q3 hq3=>⟨q3,_,rfl,.inr (SqT.of Zb),rfl,rfl,_,rfl,UK (ss:=["and", "or"]) hw0 ?_⟩⟩;have s2:=Ze (o:=.tup [.str "and",.str "or"]) hq3;generalize upd H1 q3 (.tup [.str "and",.str "or"])=H2 at s2 ⊢;exact⟨_,rfl,ad,_,_,_,rfl,rfl,(Zh.tup s2 K _ _ sh1),Zi (j:=1) rfl,k _ b (s1.trans s2) (Zh.tup s2 K _ _ sh2)⟩
theorem qW:∀ts:List Tr,ts.length<=(Z9 ts).length
 |[]=>by simp[Z9]
 |t::r=>by
  have:=qW r;rw[Z9,lW,mJ,W4 t,lW];simp;omega
def yJ(K:W.Frag)(a:Adr):Sp:=fun vs H Q _=>∃(v:V) (t:Tr) (n:Nat),vs=[v]/\At K n H v t/\(post t).length<=2000000/\∀H' l us,Zh H H'->H l=none->H' l=some (.lst us)->AtL K n H' us (post t)->Q (.ref l) H'
theorem Uu(T:Txt K mg a)(hw:w.params=a.Pm):Z2 P w K mg base CX0 3 a.inner_ahead a.bw ["sentence"] (yJ K a):=by
 have iz:=jr (P:=P) (w:=w) (base:=base) T hw;have cN:=Ue (P:=P) (w:=w) (base:=base) T hw;refine T.b9.ok Wq (fun vs H Q E h=>?_) (fun lM A outer s H vs Q E hr h=>?_)
 ·obtain⟨v,t,n,rfl,_⟩:=h;rfl
 ·obtain⟨v,t,n,rfl,hat,hz,k⟩:=h;refine⟨_,(@Za _ _ _ _ _ (@Zp _ _ (1) _ _ _ _ Wq.nd rfl (Or.inl rfl) (@Yc _ _ _ _ Xd) (by rfl) (by exact .inl rfl)) (@Za _ _ _ _ _ (@Zp _ _ (2) _ _ _ _ Wq.nd rfl (Or.inl rfl) (@Yc _ _ _ _ (@Zd _ _ _ (pv 0) (by rfl))) (by rfl) (by exact .inl rfl)) (@Za _ _ _ _ _ (qr m8 (Wf (K:=K) rfl (pv 2) (fun _=>rfl)) (@Za _ _ _ _ _ (@Zp _ _ (3) _ _ _ _ Wq.nd rfl (Or.inl rfl) (pe_bm0 m5 PySem.F.slot_list_pop PySem.F.type_list_pop mt_pop (pv 2)) (by rfl) (by exact .inl rfl)) (@Za _ _ _ _ _ (@ZV _ _ _ _ _ _ _ _ (@Xy _ _ _ _ (WT (Zl iz (hr.mono (by decide)) rfl T.fT T.d7.kp T.fS .nil Zv (@Zd _ _ _ (pv 3) (by rfl))))) (@Zg _ _ _ j0) ZD) (@Za _ _ _ _ _ (@YE _ _ _ _ (Wm m5 nh ni Z4 (pv 1) (@Zd _ _ _ (pv 3) (by rfl))) (by rfl)) (@Zg _ _ _ (@YE _ _ _ _ (Wm m5 PySem.F.slot_list_extend PySem.F.type_list_extend (JA (K:=K) rfl) (pv 2) (@Zd _ _ _ (Zl cN (hr.mono (by decide)) rfl T.dU T.cJ.kp T.dQ .nil Zv (@Zd _ _ _ (pv 3) (by rfl))) (by rfl))) (by rfl))))))) (@Zg _ _ _ (@Zm _ _ _ _ (pe_revK (K:=K) rfl (pv 1) (ZX (Us Vg Zf)))))))),?_⟩;cases n with
  |zero=>exact hat.elim
  |succ n=>
   refine⟨by decide,fun F hF=>?_⟩;have s1:=Ze (o:=.lst []) hF;have e1:(upd H F (.lst [])) F=some (.lst []):=Zb;generalize upd H F (.lst [])=H1 at s1 e1 ⊢;refine⟨_,rfl,by rw[lV];simp,fun W hW=>?_⟩;have s2:=Ze (o:=.lst [v]) hW;have e2:(upd H1 W (.lst [v])) W=some (.lst [v]):=Zb;have nFW:F≠W:=ne_new e1 hW;have e1':=s2 _ _ e1;generalize upd H1 W (.lst [v])=H2 at s2 e2 e1' ⊢;have hW0:H W=none:=s1.free hW;have at2:=hat.mono (Zh.tup (s1.trans s2));refine⟨fun m σ H'=>∃(z:Option V) (ws fs:List V) (tw tf:List Tr),σ=[some v,some (.ref F),some (.ref W),z]/\Zh H H'/\H' F=some (.lst fs)/\H' W=some (.lst ws)/\AtL K (n+1) H' ws tw/\AtL K (n+1) H' fs tf/\tf++(Z9 tw).reverse=(post t).reverse/\m=(Z9 tw).length,⟨_,_,[v],[],[t],[],rfl,s1.trans s2,e1',e2,AtL.one at2,AtL.nil,by rw[VC];rfl,rfl⟩,?_⟩;rintro m σ H3 ⟨z,ws,fs,tw,tf,rfl,s3,hF3,hW3,aw,af,he,rfl⟩;have hlen:tf.length+(Z9 tw).length=(post t).length:=by have:=my List.length he;simpa using this
   have hwl:=qW tw;have hwl2:=aw.1;have hfl2:=af.1;refine⟨_,rfl,!ws.isEmpty,?tru,?_⟩
   case tru=>exact .inl ⟨_,SqL.of hW3,rfl⟩
   cases hws:ws.isEmpty with
   |true=>
    have e0:ws=[]:=rX.mp hws;subst e0;have et:tw=[]:=nO.mp hwl2.symm;subst et;refine Yd ?_;rw[Z9,List.reverse_nil,nW] at he;refine⟨_,rfl,_,rfl,_,rfl,F,_,rfl,rfl,SqL.of hF3,fun p hp=>?_⟩;have ar:=af.rev;rw[he,List.reverse_reverse] at ar;exact k _ p _ (s3.trans (Ze hp)) (s3.free hp) Zb (ar.mono (Zh.tup (Ze hp)))
   |false=>
    have hne:ws≠[]:=fun e=>by rw[e] at hws;cases hws
    obtain⟨us,u,rs,r,ew,etw,aus,au⟩:=aw.last hne;subst ew etw;refine YR ?_;refine⟨fun σ H'=>∃(z:Option V) (ws fs:List V) (tw tf:List Tr),σ=[some v,some (.ref F),some (.ref W),z]/\Zh H H'/\H' F=some (.lst fs)/\H' W=some (.lst ws)/\AtL K (n+1) H' ws tw/\AtL K (n+1) H' fs tf/\tf++(Z9 tw).reverse=(post t).reverse/\(Z9 tw).length<(Z9 (rs++[r])).length,?_,?_⟩
    ·rintro σ' H' ⟨z',ws',fs',tw',tf',rfl,a1,a2,a3,a4,a5,a6,a7⟩;exact⟨_,a7,z',ws',fs',tw',tf',rfl,a1,a2,a3,a4,a5,a6,rfl⟩
    refine⟨_,rfl,.inl ⟨rfl,_,SqL.of hW3⟩,W,_,u,rfl,rfl,hW3,by simp,?_⟩;rw[List.dropLast_concat];have x4:Zq W H3 (upd H3 W (.lst us)):=(Zq.refl H3).upd;have t4:YL H3 (upd H3 W (.lst us)):=Zq.tup x4 hW3;have hF4:(upd H3 W (.lst us)) F=some (.lst fs):=Ws hF3 nFW;have hW4:(upd H3 W (.lst us)) W=some (.lst us):=Zb;have s4:Zh H (upd H3 W (.lst us)):=((Zh.x s3).upd).same hW0;generalize upd H3 W (.lst us)=H4 at x4 t4 hF4 hW4 s4 ⊢;have au4:=au.mono t4;refine⟨_,rfl,u,true,rfl,.inl ⟨rfl,au4.fmT⟩,fun H5 s5=>⟨_,rfl,Yd ?_⟩⟩;have hF5:=s5 _ _ hF4;have hW5:=s5 _ _ hW4;have tur:=post_turn rs r;have tl:=my List.length tur;simp at tl;refine⟨_,rfl,.inl ⟨rfl,_,SqL.of hF5⟩,_,rfl,F,_,_,rfl,rfl,hF5,by rw[lV];omega,?_⟩;have x6:Zq F H5 (upd H5 F (.lst (fs++[u]))):=(Zq.refl H5).upd;have t6:YL H5 (upd H5 F (.lst (fs++[u]))):=Zq.tup x6 hF5;have hF6:(upd H5 F (.lst (fs++[u]))) F=some (.lst (fs++[u])):=Zb;have hW6:(upd H5 F (.lst (fs++[u]))) W=some (.lst us):=Ws hW5 (mj nFW);have s6:Zh H (upd H5 F (.lst (fs++[u]))):=((Zh.x (s4.trans s5)).upd).same hF;generalize upd H5 F (.lst (fs++[u]))=H6 at x6 t6 hF6 hW6 s6 ⊢;have t46:YL H3 H6:=t4.trans ((Zh.tup s5).trans t6);obtain⟨ad7,ks7,eu7,sh7,ok7,hl7,hq7⟩:=au.mono t46;refine⟨_,rfl,.inl ⟨rfl,_,SqL.of hW6⟩,_,rfl,u,ad7,ks7,r.lb,rfl,eu7,sh7,by rw[hl7];exact ok7.b,fun H7 b s7 eb=>?_⟩;have aL:AtL K n H7 ks7 r.ks:=AtL.mono (Zh.tup s7) ⟨hl7,hq7⟩;have hW7:=s7 _ _ hW6;have hkl:=aL.1;have hll:=qW (rs++r.ks);simp at hll;have hul:=aus.1;refine⟨W,b,_,_,rfl,rfl,hW7,eb,by rw[lV];omega,?_⟩;have x8:Zq W H7 (upd H7 W (.lst (us++ks7))):=(Zq.refl H7).upd;have t8:YL H7 (upd H7 W (.lst (us++ks7))):=Zq.tup x8 hW7;have t38:YL H3 (upd H7 W (.lst (us++ks7))):=t46.trans ((Zh.tup s7).trans t8);refine⟨_,us++ks7,fs++[u],rs++r.ks,tf++[r],rfl,((Zh.x (s6.trans s7)).upd).same hW0,Ws (s7 _ _ hF6) nFW,Zb,(aus.mono t38).app ((aL.le (oy n)).mono t8),(af.mono t38).app (AtL.one (au.mono t38)),?_,?_⟩
    ·rw[tur] at he;rw[nY];exact he
    ·omega
def i4(K:W.Frag)(a:Adr):Sp:=fun vs H Q _=>∃(p:Addr) (us:List V) (cs:List Tr) (n:Nat),vs=[.ref p]/\H p=some (.lst us)/\AtL K n H us cs/\cs.length<=8/\1<=n/\∀H' v,Zh H H'->At K (n+8) H' v (W7 cs)->Q v H'
theorem vq(T:Txt K mg a)(hw:w.params=a.Pm):Z2 P w K mg base CX0 1 a.and_of a.eJ ["cores"] (i4 K a):=by
 refine T.fM.ok Uz (fun vs H Q E h=>?_) (fun lM A outer s H vs Q E hr h=>?_)
 ·obtain⟨p,us,cs,n,rfl,_⟩:=h;rfl
 ·obtain⟨p,us,cs,n,rfl,hp,aL,h8,hn,k⟩:=h;refine⟨_,(@Za _ _ _ _ _ (@ZV _ _ _ _ _ _ _ _ (@Xy _ _ _ _ (Wf (K:=K) rfl (pv 0) (fun _=>rfl))) (@Zg _ _ _ (@Zm _ _ _ _ (Vv (v:=.ref a.Y_YES) rfl ⟨_,T.iw,rfl⟩))) ZD) (@Za _ _ _ _ _ (@Zp _ _ (1) _ _ _ _ Uz.nd rfl (Or.inl rfl) (@Zz _ _ _ _ _ _ _ (Zs (K:=K) rfl) (pv 0) (Us Vg Zf) (fun _ _=>rfl)) (by rfl) (by exact .inl rfl)) (@Za _ _ _ _ _ (X8 m8 rfl (zR (K:=K) rfl rfl T.cL (@Zd _ _ _ (ZS (Yo (K:=K) rfl) (pv 0) Yb (ZX (Us Vg Zf))) (by rfl))) (ZA (i:=2) Uz.nd rfl (Or.inl rfl)) (@Zg _ _ _ (@Zp _ _ (1) _ _ _ _ Uz.nd rfl (Or.inl rfl) (@ZJ _ _ _ _ _ (@Zk _ _ _ _ _ Zt (@Zd _ _ _ (@ZJ _ _ _ _ _ (@Zk _ _ _ _ _ (pv 2) (@Zd _ _ _ (pv 1) (by rfl)) (by rfl))) (by rfl)) (by rfl))) (by rfl) (by exact .inl rfl)))) (@Zg _ _ _ (@Zm _ _ _ _ (pv 1)))))),?_⟩;have hul:=aL.1;refine⟨_,rfl,!us.isEmpty,.inl ⟨_,SqL.of hp,rfl⟩,?_⟩;cases hus:us.isEmpty with
  |true=>
   have e0:us=[]:=rX.mp hus;subst e0;have et:cs=[]:=nO.mp hul.symm;subst et;exact YR (k H _ (.refl _) ((Um (T.y_YES H):At K (0+1) H _ Ye).le (by omega)))
  |false=>
   have hne:us≠[]:=fun e=>by rw[e] at hus;cases hus
   obtain⟨ws,u,ds,d,ew,ed,aw,au⟩:=aL.last hne;subst ew ed;have hwl:=aw.1;refine Yd ?_;refine⟨_,rfl,1,rfl,p,_,_,u,rfl,rfl,SqL.of hp,qt,?_⟩;refine⟨_,rfl,1,rfl,_,rfl,p,_,rfl,SqL.of hp,fun c hc=>?_⟩;rw[Jf _ (by simp)];have ec:(ws++[u]).take ((ws++[u]).length-1)=ws:=by simp
   rw[ec];have s1:=Ze (o:=.lst ws) hc;have e1:(upd H c (.lst ws)) c=some (.lst ws):=Zb;generalize upd H c (.lst ws)=H1 at s1 e1 ⊢;refine⟨c,ws,rfl,SqL.of e1,?_⟩;refine X1 (J:=Itv K c ws.length) (n:=ws.length) (fun i σ H'=>∃(z:Option V) (v:V),σ=[some (.ref p),some v,z]/\Zh H1 H'/\At K (n+i) H' v (W7 (ds.drop (ws.length-i)++[d]))) ?_ ?_ ?_ ?_ ?_
   ·refine⟨_,u,rfl,.refl _,?_⟩;rw[Nat.sub_zero,hwl,List.drop_length,nM];exact(au.mono (Zh.tup s1)).le (by omega)
   ·rintro i σ H' hi ⟨z,v,rfl,s',_⟩;exact⟨hi,ws,SqL.of (s' _ _ e1),rfl⟩
   ·rintro σ H' _;exact lS _
   ·rintro i x σ H2 H2' hi ⟨z,v,rfl,s2,at2⟩ ⟨rfl,hx⟩;have e:=hx ws (SqL.of (s2 _ _ e1));have hj:ws.length-1-i<ds.length:=by omega
    have atk:=(aw.2 _ _ _ e (lU hj)).mono (Zh.tup (s1.trans s2));refine⟨_,rfl,_,rfl,by rw[lV];simp,fun b hb=>?_⟩;have s3:=Ze (o:=.tup [x,v]) hb;have e3:(upd H2' b (.tup [x,v])) b=some (.tup [x,v]):=Zb;generalize upd H2' b (.tup [x,v])=H3 at s3 e3 ⊢;refine⟨by rw[lV];simp,fun t ht=>?_⟩;have s4:=Ze (o:=.tup [.str "and",.ref b]) ht;have e4:(upd H3 t (.tup [.str "and",.ref b])) t=some (.tup [.str "and",.ref b]):=Zb;generalize upd H3 t (.tup [.str "and",.ref b])=H4 at s4 e4 ⊢;refine⟨_,.ref t,rfl,s2.trans (s3.trans s4),?_⟩;have ed:ds.drop (ws.length-(i+1))=ds[ws.length-1-i]::ds.drop (ws.length-i):=by
     have e1':ws.length-(i+1)=ws.length-1-i:=by omega
     have e2':ws.length-i=ws.length-1-i+1:=by omega
     rw[e1',e2'];exact rY hj
    rw[ed,pP,andT_cons (by simp)];have T4:=Zh.tup (s3.trans s4);exact at_mny (SqT.of e4) (SqT.of (s4 _ _ e3)) (AtL.two ((atk.le (show n<=n+i by omega)).mono T4) (at2.mono T4)) (.inl rfl) (by simp)
   rintro σ H2 ⟨z,v,rfl,s2,at2⟩;rw[nU,List.drop_zero] at at2;simp at h8;exact⟨_,rfl,k _ v (s1.trans s2) (at2.le (by omega))⟩
def lc(K:W.Frag)(a:Adr):Sp:=fun vs H Q _=>∃(p:Addr) (us:List V) (cs:List Tr) (n:Nat),vs=[.ref p]/\H p=some (.lst us)/\AtL K n H us cs/\cs.length<=8/\1<=n/\∀H' v,Zh H H'->At K (n+24) H' v (orT cs)->Q v H'
theorem kN(T:Txt K mg a)(hw:w.params=a.Pm):Z2 P w K mg base CX0 1 a.or_of a.fK ["cores"] (lc K a):=by
 refine T.gO.ok qy (fun vs H Q E h=>?_) (fun lM A outer s H vs Q E hr h=>?_)
 ·obtain⟨p,us,cs,n,rfl,_⟩:=h;rfl
 ·obtain⟨p,us,cs,n,rfl,hp,aL,h8,hn,k⟩:=h;refine⟨_,(@Za _ _ _ _ _ (@ZV _ _ _ _ _ _ _ _ (@Xy _ _ _ _ (Wf (K:=K) rfl (pv 0) (fun _=>rfl))) (@Zg _ _ _ (@Zm _ _ _ _ (@ZJ _ _ _ _ _ (@Zk _ _ _ _ _ Zt (@Zd _ _ _ (Vv (v:=.ref a.Y_YES) rfl ⟨_,T.iw,rfl⟩) (by rfl)) (by rfl))))) ZD) (@Za _ _ _ _ _ (@Zp _ _ (1) _ _ _ _ qy.nd rfl (Or.inl rfl) (@Zz _ _ _ _ _ _ _ (Zs (K:=K) rfl) (pv 0) (Us Vg Zf) (fun _ _=>rfl)) (by rfl) (by exact .inl rfl)) (@Za _ _ _ _ _ (X8 m8 rfl (zR (K:=K) rfl rfl T.cL (@Zd _ _ _ (ZS (Yo (K:=K) rfl) (pv 0) Yb (ZX (Us Vg Zf))) (by rfl))) (ZA (i:=2) qy.nd rfl (Or.inl rfl)) (@Zg _ _ _ (@Zp _ _ (1) _ _ _ _ qy.nd rfl (Or.inl rfl) (@ZJ _ _ _ _ _ (@Zk _ _ _ _ _ Zt (@Zd _ _ _ (@ZJ _ _ _ _ _ (@Zk _ _ _ _ _ Zt (@Zd _ _ _ (@ZJ _ _ _ _ _ (@Zk _ _ _ _ _ (@ZJ _ _ _ _ _ (@Zk _ _ _ _ _ Zt (@Zd _ _ _ (pv 2) (by rfl)) (by rfl))) (@Zd _ _ _ (@ZJ _ _ _ _ _ (@Zk _ _ _ _ _ Zt (@Zd _ _ _ (pv 1) (by rfl)) (by rfl))) (by rfl)) (by rfl))) (by rfl)) (by rfl))) (by rfl)) (by rfl))) (by rfl) (by exact .inl rfl)))) (@Zg _ _ _ (@Zm _ _ _ _ (pv 1)))))),?_⟩;have hul:=aL.1;refine⟨_,rfl,!us.isEmpty,.inl ⟨_,SqL.of hp,rfl⟩,?_⟩;cases hus:us.isEmpty with
  |true=>
   have e0:us=[]:=rX.mp hus;subst e0;have et:cs=[]:=nO.mp hul.symm;subst et;refine YR ⟨by rw[lV];simp,fun t ht=>?_⟩;have s4:=Ze (o:=.tup [.str "not",.ref a.Y_YES]) ht;exact k _ _ s4 ((WG (SqT.of Zb) (by decide +kernel) (Um (T.y_YES _):At K (0+1) _ _ Ye)).le (by omega))
  |false=>
   have hne:us≠[]:=fun e=>by rw[e] at hus;cases hus
   obtain⟨ws,u,ds,d,ew,ed,aw,au⟩:=aL.last hne;subst ew ed;have hwl:=aw.1;refine Yd ?_;refine⟨_,rfl,1,rfl,p,_,_,u,rfl,rfl,SqL.of hp,qt,?_⟩;refine⟨_,rfl,1,rfl,_,rfl,p,_,rfl,SqL.of hp,fun c hc=>?_⟩;rw[Jf _ (by simp)];have ec:(ws++[u]).take ((ws++[u]).length-1)=ws:=by simp
   rw[ec];have s1:=Ze (o:=.lst ws) hc;have e1:(upd H c (.lst ws)) c=some (.lst ws):=Zb;generalize upd H c (.lst ws)=H1 at s1 e1 ⊢;refine⟨c,ws,rfl,SqL.of e1,?_⟩;refine X1 (J:=Itv K c ws.length) (n:=ws.length) (fun i σ H'=>∃(z:Option V) (v:V),σ=[some (.ref p),some v,z]/\Zh H1 H'/\At K (n+3*i) H' v (orT (ds.drop (ws.length-i)++[d]))) ?_ ?_ ?_ ?_ ?_
   ·refine⟨_,u,rfl,.refl _,?_⟩;rw[Nat.sub_zero,hwl,List.drop_length,nM];exact(au.mono (Zh.tup s1)).le (by omega)
   ·rintro i σ H' hi ⟨z,v,rfl,s',_⟩;exact⟨hi,ws,SqL.of (s' _ _ e1),rfl⟩
   ·rintro σ H' _;exact lS _
   ·rintro i x σ H2 H2' hi ⟨z,v,rfl,s2,at2⟩ ⟨rfl,hx⟩;have e:=hx ws (SqL.of (s2 _ _ e1));have hj:ws.length-1-i<ds.length:=by omega
    have atk:=(aw.2 _ _ _ e (lU hj)).mono (Zh.tup (s1.trans s2));refine⟨_,rfl,by rw[lV];simp,fun t1 ht1=>?_⟩;have s3:=Ze (o:=.tup [.str "not",x]) ht1;have e3:(upd H2' t1 (.tup [.str "not",x])) t1=some (.tup [.str "not",x]):=Zb;generalize upd H2' t1 (.tup [.str "not",x])=H3 at s3 e3 ⊢;refine⟨_,rfl,by rw[lV];simp,fun t2 ht2=>?_⟩;have s4:=Ze (o:=.tup [.str "not",v]) ht2;have e4:(upd H3 t2 (.tup [.str "not",v])) t2=some (.tup [.str "not",v]):=Zb;generalize upd H3 t2 (.tup [.str "not",v])=H4 at s4 e4 ⊢;refine⟨by rw[lV];simp,fun b hb=>?_⟩;have s5:=Ze (o:=.tup [.ref t1,.ref t2]) hb;have e5:(upd H4 b (.tup [.ref t1,.ref t2])) b=some (.tup [.ref t1,.ref t2]):=Zb;generalize upd H4 b (.tup [.ref t1,.ref t2])=H5 at s5 e5 ⊢;refine⟨by rw[lV];simp,fun t3 ht3=>?_⟩;have s6:=Ze (o:=.tup [.str "and",.ref b]) ht3;have e6:(upd H5 t3 (.tup [.str "and",.ref b])) t3=some (.tup [.str "and",.ref b]):=Zb;generalize upd H5 t3 (.tup [.str "and",.ref b])=H6 at s6 e6 ⊢;refine⟨by rw[lV];simp,fun t4 ht4=>?_⟩;have s7:=Ze (o:=.tup [.str "not",.ref t3]) ht4;have e7:(upd H6 t4 (.tup [.str "not",.ref t3])) t4=some (.tup [.str "not",.ref t3]):=Zb;generalize upd H6 t4 (.tup [.str "not",.ref t3])=H7 at s7 e7 ⊢;have s47:=s5.trans (s6.trans s7);refine⟨_,.ref t4,rfl,s2.trans (s3.trans (s4.trans s47)),?_⟩;have ed:ds.drop (ws.length-(i+1))=ds[ws.length-1-i]::ds.drop (ws.length-i):=by
     have e1':ws.length-(i+1)=ws.length-1-i:=by omega
     have e2':ws.length-i=ws.length-1-i+1:=by omega
     rw[e1',e2'];exact rY hj
    rw[ed,pP,orT_cons (by simp)];have T7:=Zh.tup (s3.trans (s4.trans s47));have wn:("not" : Str)∈W1:=by decide +kernel
    have q1:At K (n+3*i+1) H7 (.ref t1) (Ym ds[ws.length-1-i]):=WG (SqT.of ((s4.trans s47) _ _ e3)) wn ((atk.le (by omega)).mono T7);have q2:At K (n+3*i+1) H7 (.ref t2) (Ym _):=WG (SqT.of (s47 _ _ e4)) wn (at2.mono T7);exact WG (SqT.of e7) wn (at_mny (SqT.of (s7 _ _ e6)) (SqT.of ((s6.trans s7) _ _ e5)) (AtL.two q1 q2) (.inl rfl) (by simp))
   rintro σ H2 ⟨z,v,rfl,s2,at2⟩;rw[nU,List.drop_zero] at at2;simp at h8;exact⟨_,rfl,k _ v (s1.trans s2) (at2.le (by omega))⟩
def jb(K:W.Frag)(a:Adr):Sp:=fun vs H Q _=>∃(m:Int) (f s:V) (tf ts:Tr) (n:Nat),vs=[.int m,f,s]/\(0<=m/\m<=5)/\At K n H f tf/\At K n H s ts/\∀H' v,Zh H H'->At K (n+25) H' v (Yj m.toNat tf ts)->Q v H'
theorem jK(T:Txt K mg a)(hw:w.params=a.Pm):Z2 P w K mg base CX0 2 a.within_of a.cz ["turns", "first", "second"] (jb K a):=by
 have gU:=vq (P:=P) (w:=w) (base:=base) T hw;have iA:=kN (P:=P) (w:=w) (base:=base) T hw;refine T.d9.ok W8 (fun vs H Q E h=>?_) (fun lM A outer s H vs Q E hr h=>?_)
 ·obtain⟨m,f,s,tf,ts,n,rfl,_⟩:=h;rfl
 ·obtain⟨m,f,s,tf,ts,n,rfl,hm,af,as,k⟩:=h;refine⟨_,(@Za _ _ _ _ _ (@Zp _ _ (3) _ _ _ _ W8.nd rfl (Or.inl rfl) (pv 2) (by rfl) (by exact .inl rfl)) (@Za _ _ _ _ _ (X8 m8 rfl (Xt rfl T.bP (@Zd _ _ _ (pv 0) (by rfl))) (ZA (i:=4) W8.nd rfl (Or.inl rfl)) (@Zg _ _ _ (@Zp _ _ (3) _ _ _ _ W8.nd rfl (Or.inl rfl) (Zl iA (hr.mono (by decide)) rfl T.ip T.gO.kp T.io .nil Zv (@Zd _ _ _ (@Yc _ _ _ _ (@Zk _ _ _ _ _ (pv 2) (@Zd _ _ _ (Zl gU (hr.mono (by decide)) rfl T.gN T.fM.kp T.gM .nil Zv (@Zd _ _ _ (@Yc _ _ _ _ (@Zk _ _ _ _ _ (pv 1) (@Zd _ _ _ (@ZJ _ _ _ _ _ (@Zk _ _ _ _ _ Zt (@Zd _ _ _ (pv 3) (by rfl)) (by rfl))) (by rfl)) (by rfl))) (by rfl))) (by rfl)) (by rfl))) (by rfl))) (by rfl) (by exact .inl rfl)))) (@Zg _ _ _ (@Zm _ _ _ _ (pv 3))))),?_⟩;have hf:=af.hgt_le;have hs:=as.hgt_le;have hn:1<=n:=mC (hgt_pos ts) hs;refine⟨_,rfl,_,rfl,_,rfl,by omega,by omega,?_⟩;refine for_range (fun i σ H'=>∃(z:Option V) (v:V),σ=[some (.int m),some f,some s,some v,z]/\Zh H H'/\At K (n+25) H' v (Yj i tf ts)) ?_ ?_ ?_
  ·exact⟨_,s,rfl,.refl _,as.le (by omega)⟩
  ·rintro i σ H1 hi ⟨z,v,rfl,s1,at1⟩;have hi':i<m.toNat:=hi;have T1:=Zh.tup s1;refine⟨_,rfl,_,rfl,_,rfl,by rw[lV];simp,fun t ht=>?_⟩;have s2:=Ze (o:=.tup [.str "next",v]) ht;have e2:(upd H1 t (.tup [.str "next",v])) t=some (.tup [.str "next",v]):=Zb;generalize upd H1 t (.tup [.str "next",v])=H2 at s2 e2 ⊢;refine⟨by rw[lV];simp,fun L hL=>?_⟩;have s3:=Ze (o:=.lst [f,.ref t]) hL;have e3:(upd H2 L (.lst [f,.ref t])) L=some (.lst [f,.ref t]):=Zb;generalize upd H2 L (.lst [f,.ref t])=H3 at s3 e3 ⊢;have s13:=s1.trans (s2.trans s3);have q1:At K (n+26) H3 (.ref t) (qv (Yj i tf ts)):=WG (SqT.of (s3 _ _ e2)) (by decide +kernel) (at1.mono (Zh.tup (s2.trans s3)));refine⟨L,_,[tf,qv (Yj i tf ts)],n+26,rfl,e3,AtL.two ((af.le (by omega)).mono (Zh.tup s13)) q1,by simp,by omega,fun H4 v4 s4 at4=>?_⟩;refine⟨by rw[lV];simp,fun L2' hL2=>?_⟩;have s5:=Ze (o:=.lst [s,v4]) hL2;have e5:(upd H4 L2' (.lst [s,v4])) L2'=some (.lst [s,v4]):=Zb;generalize upd H4 L2' (.lst [s,v4])=H5 at s5 e5 ⊢;have s15:=s13.trans (s4.trans s5);refine⟨L2',_,[ts,W7 [tf,qv (Yj i tf ts)]],n+34,rfl,e5,AtL.two ((as.le (by omega)).mono (Zh.tup s15)) (at4.mono (Zh.tup s5)),by simp,by omega,fun H6 v6 s6 at6=>?_⟩;refine⟨_,v6,rfl,s15.trans s6,?_⟩;have e6:orT [ts,W7 [tf,qv (Yj i tf ts)]]=Yj (i+1) tf ts:=rfl;rw[e6] at at6;refine at6.fit ?_;have:=JH hf hs (i+1);omega
  rintro σ H1 ⟨z,v,rfl,s1,at1⟩;exact⟨_,rfl,k _ v s1 at1⟩
def jy(K:W.Frag)(a:Adr):Sp:=fun vs H Q _=>∃(v:V) (c:Lb) (ks:List Tr) (n:Nat) (p:Addr) (us:List V) (cs:List Tr) (m:Nat),vs=[v,.ref p]/\At K n H v (.node c ks)/\H p=some (.lst us)/\AtL K m H us cs/\cs.length=ks.length/\1<=m/\∀H' v',Zh H H'->At K (m+27) H' v' (Y0 c cs)->Q v' H'
theorem AtL.first{K:W.Frag}{n:Nat}{H:Hp}{us:List V}{cs:List Tr}(h:AtL K n H us cs)(hl:1<=cs.length):∃u ur c cr,us=u::ur/\cs=c::cr/\At K n H u c:=by
 have hu:=h.1
 match us,cs,h,hl,hu with
 |u::ur,c::cr,h,_,_=>exact⟨u,ur,c,cr,rfl,rfl,h.2 0 u c rfl rfl⟩
 |[],c::cr,h,_,hu=>simp at hu
theorem AtL.pair{K:W.Frag}{n:Nat}{H:Hp}{us:List V}{cs:List Tr}(h:AtL K n H us cs)(hl:cs.length=2):∃u v c d,us=[u,v]/\cs=[c,d]/\At K n H u c/\At K n H v d:=by
 have hu:=h.1
 match us,cs,h,hl,hu with
 |[u,v],[c,d],h,_,_=>exact⟨u,v,c,d,rfl,rfl,h.2 0 u c rfl rfl,h.2 1 v d rfl rfl⟩
 |[],[c,d],h,_,hu=>simp at hu
 |[u],[c,d],h,_,hu=>simp at hu
 |u::v::w::r,[c,d],h,_,hu=>simp at hu
theorem jF(T:Txt K mg a)(hw:w.params=a.Pm):Z2 P w K mg base CX0 3 a.core_with a.cy ["sentence", "inner"] (jy K a):=by
 have gU:=vq (P:=P) (w:=w) (base:=base) T hw;have iA:=kN (P:=P) (w:=w) (base:=base) T hw;have iB:=jK (P:=P) (w:=w) (base:=base) T hw;refine T.d8.ok qp (fun vs H Q E h=>?_) (fun lM A outer s H vs Q E hr h=>?_)
 ·obtain⟨v,c,ks,n,p,us,cs,m,rfl,_⟩:=h;rfl
 ·obtain⟨v,c,ks,n,p,us,cs,m,rfl,hat,hp,aL,hcl,hm,k⟩:=h;refine⟨_,(@Za _ _ _ _ _ (@Zp _ _ (2) _ _ _ _ qp.nd rfl (Or.inl rfl) (@Zz _ _ _ _ _ _ _ (ZR (K:=K) rfl) (pv 0) Zf (fun _ _=>rfl)) (by rfl) (by exact .inl rfl)) (@Za _ _ _ _ _ (@ZV _ _ _ _ _ _ _ _ (@Zx _ _ _ _ _ _ _ _ (V3 (K:=K) rfl) (pv 2) (@ZJ _ _ _ _ _ (@Zk _ _ _ _ _ Zt (@Zd _ _ _ Zt (by rfl)) (by rfl))) (by with_unfolding_all rfl)) (@Zg _ _ _ (@Zm _ _ _ _ (pv 0))) ZD) (@Za _ _ _ _ _ (@ZV _ _ _ _ _ _ _ _ (@Zx _ _ _ _ _ _ _ _ Yw (pv 2) Zt (ZF _)) (@Zg _ _ _ (@Zm _ _ _ _ (Zl gU (hr.mono (by decide)) rfl T.gN T.fM.kp T.gM .nil Zv (@Zd _ _ _ (pv 1) (by rfl))))) ZD) (@Za _ _ _ _ _ (@ZV _ _ _ _ _ _ _ _ (@Zx _ _ _ _ _ _ _ _ Yw (pv 2) Zt (ZF _)) (@Zg _ _ _ (@Zm _ _ _ _ (Zl iA (hr.mono (by decide)) rfl T.ip T.gO.kp T.io .nil Zv (@Zd _ _ _ (pv 1) (by rfl))))) ZD) (@Za _ _ _ _ _ (@ZV _ _ _ _ _ _ _ _ (@Zx _ _ _ _ _ _ _ _ Yw (pv 2) Zt (ZF _)) (@Zg _ _ _ (@Zm _ _ _ _ (@ZJ _ _ _ _ _ (@Zk _ _ _ _ _ Zt (@Zd _ _ _ (@ZJ _ _ _ _ _ (@Zk _ _ _ _ _ Zt (@Zd _ _ _ (@ZJ _ _ _ _ _ (@Zk _ _ _ _ _ Zt (@Zd _ _ _ (@Zz _ _ _ _ _ _ _ (Zs (K:=K) rfl) (pv 1) Zf (fun _ _=>rfl)) (by rfl)) (by rfl))) (by rfl)) (by rfl))) (by rfl)) (by rfl))))) ZD) (@Za _ _ _ _ _ (@ZV _ _ _ _ _ _ _ _ (@Zx _ _ _ _ _ _ _ _ Yw (pv 2) Zt (ZF _)) (@Zg _ _ _ (@Zm _ _ _ _ (@ZJ _ _ _ _ _ (@ZI _ _ _ _ _ Zt (@ZI _ _ _ _ _ (Vv (v:=.ref a.Y_YES) rfl ⟨_,T.iw,rfl⟩) (@Yh _ _ _ (@Zz _ _ _ _ _ _ _ (Zs (K:=K) rfl) (pv 1) Zf (fun _ _=>rfl)) (by rfl)) (by rfl)) (by rfl))))) ZD) (@Za _ _ _ _ _ (@ZV _ _ _ _ _ _ _ _ (@Zx _ _ _ _ _ _ _ _ Yw (pv 2) Zt (ZF _)) (@Zg _ _ _ (@Zm _ _ _ _ (@ZJ _ _ _ _ _ (@Zk _ _ _ _ _ Zt (@Zd _ _ _ (@ZJ _ _ _ _ _ (@ZI _ _ _ _ _ Zt (@ZI _ _ _ _ _ (Vv (v:=.ref a.Y_YES) rfl ⟨_,T.iw,rfl⟩) (@Yh _ _ _ (@ZJ _ _ _ _ _ (@Zk _ _ _ _ _ Zt (@Zd _ _ _ (@Zz _ _ _ _ _ _ _ (Zs (K:=K) rfl) (pv 1) Zf (fun _ _=>rfl)) (by rfl)) (by rfl))) (by rfl)) (by rfl)) (by rfl))) (by rfl)) (by rfl))))) ZD) (@Za _ _ _ _ _ (@ZV _ _ _ _ _ _ _ _ (@Zx _ _ _ _ _ _ _ _ Yw (pv 2) Zt (ZF _)) (@Zg _ _ _ (@Zm _ _ _ _ (@ZJ _ _ _ _ _ (@ZI _ _ _ _ _ Zt (@ZI _ _ _ _ _ (Vv (v:=.ref a.Y_YES) rfl ⟨_,T.iw,rfl⟩) (@Yh _ _ _ (@Zz _ _ _ _ _ _ _ (Zs (K:=K) rfl) (pv 1) Zf (fun _ _=>rfl)) (by rfl)) (by rfl)) (by rfl))))) ZD) (@Za _ _ _ _ _ (@ZV _ _ _ _ _ _ _ _ (@Zx _ _ _ _ _ _ _ _ Yw (pv 2) Zt (ZF _)) (@Zg _ _ _ (@Zm _ _ _ _ (@ZJ _ _ _ _ _ (@Zk _ _ _ _ _ Zt (@Zd _ _ _ (@ZJ _ _ _ _ _ (@ZI _ _ _ _ _ Zt (@ZI _ _ _ _ _ (Vv (v:=.ref a.Y_YES) rfl ⟨_,T.iw,rfl⟩) (@Yh _ _ _ (@ZJ _ _ _ _ _ (@Zk _ _ _ _ _ Zt (@Zd _ _ _ (@Zz _ _ _ _ _ _ _ (Zs (K:=K) rfl) (pv 1) Zf (fun _ _=>rfl)) (by rfl)) (by rfl))) (by rfl)) (by rfl)) (by rfl))) (by rfl)) (by rfl))))) ZD) (@Za _ _ _ _ _ (@ZV _ _ _ _ _ _ _ _ (@Zx _ _ _ _ _ _ _ _ Yw (pv 2) Zt (ZF _)) (@Zg _ _ _ (@Zm _ _ _ _ (Zl iB (hr.mono (by decide)) rfl T.fY T.d9.kp T.fX .nil Zv (@ZI _ _ _ _ _ (@Zz _ _ _ _ _ _ _ (ZR (K:=K) rfl) (pv 0) Zf (fun _ _=>rfl)) (@ZI _ _ _ _ _ (@Zz _ _ _ _ _ _ _ (Zs (K:=K) rfl) (pv 1) Zf (fun _ _=>rfl)) (@Yh _ _ _ (@Zz _ _ _ _ _ _ _ (Zs (K:=K) rfl) (pv 1) Zf (fun _ _=>rfl)) (by rfl)) (by rfl)) (by rfl))))) ZD) (@Zg _ _ _ (@Zm _ _ _ _ (@ZO _ _ _ _ _ _ _ _ (yG (K:=K) rfl) (@ZJ _ _ _ _ _ (@Zd _ _ _ (pv 2) (by rfl))) (Z3 (Yl (K:=K) rfl) rfl T.bf sD (@Zd _ _ _ (pv 1) (by rfl)))))))))))))))),?_⟩;cases n with
  |zero=>exact hat.elim
  |succ n=>
   obtain⟨ad,us0,rfl,sh,ok,hl0,hq0⟩:=hat;have hul:=aL.1;obtain⟨xs,e⟩:=sh.tup;refine⟨_,rfl,ad,_,_,_,rfl,rfl,e,Zi (j:=0) rfl,?_⟩;refine⟨_,rfl,by rw[lV];simp,fun q hq=>⟨q,_,rfl,.inr (SqT.of Zb),rfl,rfl,_,rfl,?_⟩⟩;have s1:=Ze (o:=.tup [.str "yes",.str "sign"]) hq;generalize upd H q (.tup [.str "yes",.str "sign"])=H1 at s1 ⊢;have sh1:=sh.mono (Zh.tup s1);have aL1:=aL.mono (Zh.tup s1);have hp1:=s1 _ _ hp;have wn:("not" : Str)∈W1:=by decide +kernel
   clear e xs sh hq0
   revert sh1 ok
   cases c with
   |yes=>
    intro ok sh;exact UK (ss:=["yes", "sign"]) (show("yes" : Str)∈(["yes", "sign"]:List Str) by decide +kernel) ⟨_,rfl,k _ _ s1 ((Um sh.2:At K (0+1) H1 _ Ye).le (by omega))⟩
   |sign z=>
    intro ok sh;exact UK (ss:=["yes", "sign"]) (show("sign" : Str)∈(["yes", "sign"]:List Str) by decide +kernel) ⟨_,rfl,k _ _ s1 ((at_sign sh.2 ok.2:At K (0+1) H1 _ (.node (.sign z) [])).le (by omega))⟩
   |many w=>
    intro ok sh;have hw0:w∈(["and", "or"]:List Str):=by rcases ok.1 with rfl|rfl<;>simp
    have hk8:cs.length<=8:=by rw[hcl];exact ok.2
    refine XI (ss:=["yes", "sign"]) (Vn w hw0).2.2.2.1 ?_;rcases ok.1 with rfl|rfl
    ·refine⟨_,rfl,rfl,_,rfl,Wb rfl ?_⟩;exact⟨_,rfl,p,us,cs,m,rfl,hp1,aL1,hk8,hm,fun H2 v2 s2 at2=>k _ _ (s1.trans s2) (at2.le (by omega))⟩
    ·refine⟨_,rfl,rfl,_,rfl,Z1 (fun z=>(by decide +kernel:¬(("or" : Str) = "and")) (V.str.inj z)) ?_⟩;refine⟨_,rfl,rfl,_,rfl,Wb rfl ?_⟩;exact⟨_,rfl,p,us,cs,m,rfl,hp1,aL1,hk8,hm,fun H2 v2 s2 at2=>k _ _ (s1.trans s2) (at2.le (by omega))⟩
   |wit j=>
    intro ok sh;refine XI (ss:=["yes", "sign"]) (show("within" : Str)∉(["yes", "sign"]:List Str) by decide +kernel) ?_;refine⟨_,rfl,rfl,_,rfl,Z1 (fun z=>(by decide +kernel:¬(("within" : Str) = "and")) (V.str.inj z)) ?_⟩;refine⟨_,rfl,rfl,_,rfl,Z1 (fun z=>(by decide +kernel:¬(("within" : Str) = "or")) (V.str.inj z)) ?_⟩;refine⟨_,rfl,rfl,_,rfl,Z1 (fun z=>(by decide +kernel:¬(("within" : Str) = "all")) (V.str.inj z)) ?_⟩;refine⟨_,rfl,rfl,_,rfl,Z1 (fun z=>(by decide +kernel:¬(("within" : Str) = "ever")) (V.str.inj z)) ?_⟩;refine⟨_,rfl,rfl,_,rfl,Z1 (fun z=>(by decide +kernel:¬(("within" : Str) = "always")) (V.str.inj z)) ?_⟩;refine⟨_,rfl,rfl,_,rfl,Z1 (fun z=>(by decide +kernel:¬(("within" : Str) = "once")) (V.str.inj z)) ?_⟩;refine⟨_,rfl,rfl,_,rfl,Z1 (fun z=>(by decide +kernel:¬(("within" : Str) = "sofar")) (V.str.inj z)) ?_⟩;refine⟨_,rfl,rfl,_,rfl,Wb rfl ?_⟩;obtain⟨u0,u1,c0,c1,rfl,rfl,a0,a1⟩:=AtL.pair aL1 (by rw[hcl];exact ok.2);exact⟨_,rfl,ad,_,_,_,rfl,rfl,sh,Zi (j:=1) rfl,_,rfl,p,_,_,u0,rfl,rfl,SqL.of hp1,Zi (j:=0) rfl,_,rfl,p,_,_,u1,rfl,rfl,SqL.of hp1,Zi (j:=1) rfl,j,u0,u1,c0,c1,m,rfl,ok.1,a0,a1,fun H2 v2 s2 at2=>k _ _ (s1.trans s2) (at2.le (by omega))⟩
   |op w=>
    intro ok sh;obtain⟨h1,h2,h3,h4,h5⟩:=yH w (by rcases ok with ok|ok;exact mX _ ok.1;exact mP _ ok.1);have hlen:1<=cs.length:=by
     rw[hcl];rcases ok with o|o
     ·have h0:ks.length=1:=o.2;omega
     ·have h0:ks.length=2:=o.2;omega
    have hlen2:cs.length<=2:=by
     rw[hcl];rcases ok with o|o
     ·have h0:ks.length=1:=o.2;omega
     ·have h0:ks.length=2:=o.2;omega
    obtain⟨u0,ur,c0,cr,rfl,rfl,a0⟩:=AtL.first aL1 hlen;refine XI (ss:=["yes", "sign"]) h5 ?_;refine⟨_,rfl,rfl,_,rfl,Z1 (fun z=>h3 (by have ez:w = "and" := V.str.inj z;rw[ez];simp)) ?_⟩;refine⟨_,rfl,rfl,_,rfl,Z1 (fun z=>h3 (by have ez:w = "or" := V.str.inj z;rw[ez];simp)) ?_⟩
    by_cases n1:w = "all"
    ·subst n1;refine⟨_,rfl,rfl,_,rfl,Wb rfl ?_⟩;refine⟨_,rfl,p,_,_,u0,rfl,rfl,SqL.of hp1,Zi (j:=0) rfl,by rw[lV];simp,fun t1 ht1=>?_⟩;have s2:=Ze (o:=.tup [.str "not",u0]) ht1;have e2:(upd H1 t1 (.tup [.str "not",u0])) t1=some (.tup [.str "not",u0]):=Zb;generalize upd H1 t1 (.tup [.str "not",u0])=H2 at s2 e2 ⊢;refine⟨by rw[lV];simp,fun t2 ht2=>?_⟩;have s3:=Ze (o:=.tup [.str "some",.ref t1]) ht2;have e3:(upd H2 t2 (.tup [.str "some",.ref t1])) t2=some (.tup [.str "some",.ref t1]):=Zb;generalize upd H2 t2 (.tup [.str "some",.ref t1])=H3 at s3 e3 ⊢;refine⟨by rw[lV];simp,fun t3 ht3=>?_⟩;have s4:=Ze (o:=.tup [.str "not",.ref t2]) ht3;have e4:(upd H3 t3 (.tup [.str "not",.ref t2])) t3=some (.tup [.str "not",.ref t2]):=Zb;generalize upd H3 t3 (.tup [.str "not",.ref t2])=H4 at s4 e4 ⊢;have q1:At K (m+1) H4 (.ref t1) (Ym c0):=WG (SqT.of ((s3.trans s4) _ _ e2)) wn (a0.mono (Zh.tup (s2.trans (s3.trans s4))));have q2:At K (m+2) H4 (.ref t2) (nSome (Ym c0)):=WG (SqT.of (s4 _ _ e3)) (by decide +kernel) q1;exact k _ _ (s1.trans (s2.trans (s3.trans s4))) ((WG (SqT.of e4) wn q2:At K (m+3) H4 _ (Ym (nSome (Ym c0)))).le (by omega))
    refine⟨_,rfl,rfl,_,rfl,Z1 (fun z=>n1 (V.str.inj z)) ?_⟩
    by_cases n2:w = "ever"
    ·subst n2;refine⟨_,rfl,rfl,_,rfl,Wb rfl ?_⟩;refine⟨_,rfl,p,_,_,u0,rfl,rfl,SqL.of hp1,Zi (j:=0) rfl,by rw[lV];simp,fun t1 ht1=>?_⟩;have s2:=Ze (o:=.tup [.str "until",.ref a.Y_YES,u0]) ht1;have e2:(upd H1 t1 (.tup [.str "until",.ref a.Y_YES,u0])) t1=some (.tup [.str "until",.ref a.Y_YES,u0]):=Zb;generalize upd H1 t1 (.tup [.str "until",.ref a.Y_YES,u0])=H2 at s2 e2 ⊢;exact k _ _ (s1.trans s2) ((xk (SqT.of e2) (by decide +kernel) ((Um (T.y_YES _):At K (0+1) H2 _ Ye).le (show 1<=m from hm)) (a0.mono (Zh.tup s2)):At K (m+1) H2 _ (.node (.op "until") [Ye,c0])).le (by omega))
    refine⟨_,rfl,rfl,_,rfl,Z1 (fun z=>n2 (V.str.inj z)) ?_⟩
    by_cases n3:w = "always"
    ·subst n3;refine⟨_,rfl,rfl,_,rfl,Wb rfl ?_⟩;refine⟨_,rfl,p,_,_,u0,rfl,rfl,SqL.of hp1,Zi (j:=0) rfl,by rw[lV];simp,fun t1 ht1=>?_⟩;have s2:=Ze (o:=.tup [.str "not",u0]) ht1;have e2:(upd H1 t1 (.tup [.str "not",u0])) t1=some (.tup [.str "not",u0]):=Zb;generalize upd H1 t1 (.tup [.str "not",u0])=H2 at s2 e2 ⊢;refine⟨by rw[lV];simp,fun t2 ht2=>?_⟩;have s3:=Ze (o:=.tup [.str "until",.ref a.Y_YES,.ref t1]) ht2;have e3:(upd H2 t2 (.tup [.str "until",.ref a.Y_YES,.ref t1])) t2=some (.tup [.str "until",.ref a.Y_YES,.ref t1]):=Zb;generalize upd H2 t2 (.tup [.str "until",.ref a.Y_YES,.ref t1])=H3 at s3 e3 ⊢;refine⟨by rw[lV];simp,fun t3 ht3=>?_⟩;have s4:=Ze (o:=.tup [.str "not",.ref t2]) ht3;have e4:(upd H3 t3 (.tup [.str "not",.ref t2])) t3=some (.tup [.str "not",.ref t2]):=Zb;generalize upd H3 t3 (.tup [.str "not",.ref t2])=H4 at s4 e4 ⊢;have q1:At K (m+1) H4 (.ref t1) (Ym c0):=WG (SqT.of ((s3.trans s4) _ _ e2)) wn (a0.mono (Zh.tup (s2.trans (s3.trans s4))));have q2:At K (m+2) H4 (.ref t2) (.node (.op "until") [Ye,Ym c0]):=xk (SqT.of (s4 _ _ e3)) (by decide +kernel) ((Um (T.y_YES _):At K (0+1) H4 _ Ye).le (by omega)) q1;exact k _ _ (s1.trans (s2.trans (s3.trans s4))) ((WG (SqT.of e4) wn q2:At K (m+3) H4 _ (Ym (.node (.op "until") [Ye,Ym c0]))).le (by omega))
    refine⟨_,rfl,rfl,_,rfl,Z1 (fun z=>n3 (V.str.inj z)) ?_⟩
    by_cases n4:w = "once"
    ·subst n4;refine⟨_,rfl,rfl,_,rfl,Wb rfl ?_⟩;refine⟨_,rfl,p,_,_,u0,rfl,rfl,SqL.of hp1,Zi (j:=0) rfl,by rw[lV];simp,fun t1 ht1=>?_⟩;have s2:=Ze (o:=.tup [.str "since",.ref a.Y_YES,u0]) ht1;have e2:(upd H1 t1 (.tup [.str "since",.ref a.Y_YES,u0])) t1=some (.tup [.str "since",.ref a.Y_YES,u0]):=Zb;generalize upd H1 t1 (.tup [.str "since",.ref a.Y_YES,u0])=H2 at s2 e2 ⊢;exact k _ _ (s1.trans s2) ((xk (SqT.of e2) (by decide +kernel) ((Um (T.y_YES _):At K (0+1) H2 _ Ye).le (show 1<=m from hm)) (a0.mono (Zh.tup s2)):At K (m+1) H2 _ (.node (.op "since") [Ye,c0])).le (by omega))
    refine⟨_,rfl,rfl,_,rfl,Z1 (fun z=>n4 (V.str.inj z)) ?_⟩
    by_cases n5:w = "sofar"
    ·subst n5;refine⟨_,rfl,rfl,_,rfl,Wb rfl ?_⟩;refine⟨_,rfl,p,_,_,u0,rfl,rfl,SqL.of hp1,Zi (j:=0) rfl,by rw[lV];simp,fun t1 ht1=>?_⟩;have s2:=Ze (o:=.tup [.str "not",u0]) ht1;have e2:(upd H1 t1 (.tup [.str "not",u0])) t1=some (.tup [.str "not",u0]):=Zb;generalize upd H1 t1 (.tup [.str "not",u0])=H2 at s2 e2 ⊢;refine⟨by rw[lV];simp,fun t2 ht2=>?_⟩;have s3:=Ze (o:=.tup [.str "since",.ref a.Y_YES,.ref t1]) ht2;have e3:(upd H2 t2 (.tup [.str "since",.ref a.Y_YES,.ref t1])) t2=some (.tup [.str "since",.ref a.Y_YES,.ref t1]):=Zb;generalize upd H2 t2 (.tup [.str "since",.ref a.Y_YES,.ref t1])=H3 at s3 e3 ⊢;refine⟨by rw[lV];simp,fun t3 ht3=>?_⟩;have s4:=Ze (o:=.tup [.str "not",.ref t2]) ht3;have e4:(upd H3 t3 (.tup [.str "not",.ref t2])) t3=some (.tup [.str "not",.ref t2]):=Zb;generalize upd H3 t3 (.tup [.str "not",.ref t2])=H4 at s4 e4 ⊢;have q1:At K (m+1) H4 (.ref t1) (Ym c0):=WG (SqT.of ((s3.trans s4) _ _ e2)) wn (a0.mono (Zh.tup (s2.trans (s3.trans s4))));have q2:At K (m+2) H4 (.ref t2) (.node (.op "since") [Ye,Ym c0]):=xk (SqT.of (s4 _ _ e3)) (by decide +kernel) ((Um (T.y_YES _):At K (0+1) H4 _ Ye).le (by omega)) q1;exact k _ _ (s1.trans (s2.trans (s3.trans s4))) ((WG (SqT.of e4) wn q2:At K (m+3) H4 _ (Ym (.node (.op "since") [Ye,Ym c0]))).le (by omega))
    refine⟨_,rfl,rfl,_,rfl,Z1 (fun z=>n5 (V.str.inj z)) ?_⟩;refine⟨_,rfl,rfl,_,rfl,Z1 (fun z=>h4 (V.str.inj z)) ?_⟩;have hW:ZT (Tr.node (.op w) ks).lb=w:=rfl;rw[hW];refine⟨_,rfl,by rw[lV];simp,fun t1 ht1=>?_⟩;have s2:=Ze (o:=.tup [.str w]) ht1;have e2:(upd H1 t1 (.tup [.str w])) t1=some (.tup [.str w]):=Zb;generalize upd H1 t1 (.tup [.str w])=H2 at s2 e2 ⊢;refine⟨_,rfl,p,_,rfl,.inl ⟨SqL.of (s2 _ _ hp1),fun b hb=>?_⟩⟩;have s3:=Ze (o:=.tup (u0::ur)) hb;have e3:(upd H2 b (.tup (u0::ur))) b=some (.tup (u0::ur)):=Zb;generalize upd H2 b (.tup (u0::ur))=H3 at s3 e3 ⊢;refine⟨t1,b,_,_,rfl,rfl,SqT.of (s3 _ _ e2),SqT.of e3,by simp,by rw[lV];simp at hul hlen2 ⊢; omega,(fun z=>by cases z),fun _ r hr=>?_⟩;have s4:=Ze (o:=.tup ([.str w]++(u0::ur))) hr;have aL4:=aL1.mono (Zh.tup (s2.trans (s3.trans s4)));have ef:Y0 (.op w) (c0::cr)=.node (.op w) (c0::cr):=by
     unfold Y0;dsimp only;rw[if_neg n1,if_neg n2,if_neg n3,if_neg n4,if_neg n5]
    refine k _ _ (s1.trans (s2.trans (s3.trans s4))) ?_;rw[ef];refine At.le (n:=m+1) ⟨r,u0::ur,rfl,SqT.of Zb,?_,hul,aL4.2⟩ (by omega)
    show XV (.op w) (c0::cr).length
    rw[hcl];exact ok
theorem AtL.take{K:W.Frag}{n:Nat}{H:Hp}{us:List V}{cs:List Tr}(h:AtL K n H us cs)(m:Nat):AtL K n H (us.take m) (cs.take m):=by
 refine⟨by rw[mf,mf,h.1],fun i u k h1 h2=>?_⟩;rw[List.getElem?_take] at h1 h2
 split at h1
 ·rename_i hi
  rw[if_pos hi] at h2;exact h.2 i u k h1 h2
 ·cases h1
theorem AtL.drop{K:W.Frag}{n:Nat}{H:Hp}{us:List V}{cs:List Tr}(h:AtL K n H us cs)(m:Nat):AtL K n H (us.drop m) (cs.drop m):=by
 refine⟨by rw[mL,mL,h.1],fun i u k h1 h2=>?_⟩;rw[re] at h1 h2;exact h.2 _ u k h1 h2
def Jz(K:W.Frag)(a:Adr):Sp:=fun vs H Q _=>∃(v:V) (t:Tr) (n:Nat),vs=[v]/\At K n H v t/\(post t).length<=2000000/\∀H' v',Zh H H'->At K (28*n) H' v' (Yx t)->Q v' H'
theorem JB(T:Txt K mg a)(hw:w.params=a.Pm):Z2 P w K mg base CX0 4 a.core_of a.dJ ["sentence"] (Jz K a):=by
 have eI:=qF (P:=P) (w:=w) (base:=base) T hw;have cN:=Ue (P:=P) (w:=w) (base:=base) T hw;have dh:=Uu (P:=P) (w:=w) (base:=base) T hw;have iC:=jF (P:=P) (w:=w) (base:=base) T hw;refine T.fU.ok V9 (fun vs H Q E h=>?_) (fun lM A outer s H vs Q E hr h=>?_)
 ·obtain⟨v,t,n,rfl,_⟩:=h;rfl
 ·obtain⟨v,t,n,rfl,hat,hz,k⟩:=h;refine⟨_,(@Za _ _ _ _ _ (@Zp _ _ (1) _ _ _ _ V9.nd rfl (Or.inl rfl) (@Yc _ _ _ _ Xd) (by rfl) (by exact .inl rfl)) (@Za _ _ _ _ _ (X8 m8 rfl (Yk (K:=K) rfl (Zl dh (hr.mono (by decide)) rfl T.cY T.b9.kp T.cX .nil Zv (@Zd _ _ _ (pv 0) (by rfl)))) (ZA (i:=2) V9.nd rfl (Or.inl rfl)) (@Za _ _ _ _ _ (@Zp _ _ (3) _ _ _ _ V9.nd rfl (Or.inl rfl) (Zl eI (hr.mono (by decide)) rfl T.d6 T.cW.kp T.d5 .nil Zv (@Zk _ _ _ _ _ (pv 1) (@Zd _ _ _ (Zn (Zy (K:=K) rfl) rfl T.aB sA (@Zd _ _ _ (Zl cN (hr.mono (by decide)) rfl T.dU T.cJ.kp T.dQ .nil Zv (@Zd _ _ _ (pv 2) (by rfl))) (by rfl))) (by rfl)) (by rfl))) (by rfl) (by exact .inl rfl)) (@Zg _ _ _ (@YE _ _ _ _ (Wm m5 nh ni Z4 (pv 1) (@Zd _ _ _ (Zl iC (hr.mono (by decide)) rfl T.fW T.d8.kp T.fV .nil Zv (@Zk _ _ _ _ _ (pv 2) (@Zd _ _ _ (pv 3) (by rfl)) (by rfl))) (by rfl))) (by rfl))))) (@Zg _ _ _ (@Zm _ _ _ _ (@Zz _ _ _ _ _ _ _ (Zs (K:=K) rfl) (pv 1) Zf (fun _ _=>rfl)))))),?_⟩;cases n with
  |zero=>exact hat.elim
  |succ n=>
   refine⟨by decide,fun F hF=>?_⟩;have s1:=Ze (o:=.lst []) hF;have e1:(upd H F (.lst [])) F=some (.lst []):=Zb;generalize upd H F (.lst [])=H1 at s1 e1 ⊢;refine⟨_,rfl,v,t,n+1,rfl,hat.mono (Zh.tup s1),hz,fun H2 L us s2 L0 eL aL=>⟨L,rfl,⟨_,SqL.of eL⟩,?_⟩⟩;have nLF:L≠F:=fun e=>by rw[e,e1] at L0;cases L0
   have hF2:=s2 _ _ e1;obtain⟨ok0,run0⟩:=run_all (F:=Y0) t;have hul:=aL.1;refine kr (K:=K) (xs:=us) (fun i σ H'=>∃(z1 z2:Option V) (uv:List V) (st:List Tr),σ=[some v,some (.ref F),z1,z2]/\Zq F H2 H'/\H' F=some (.lst uv)/\AtL K (28*(n+1)) H' uv st/\zk Y0 st ((post t).drop i)/\runF Y0 st ((post t).drop i)=[Yx t]/\st.length<=i) ?_ ?_ ?_ ?_
   ·exact⟨_,_,[],[],rfl,.refl _,hF2,AtL.nil,ok0,run0,lS _⟩
   ·rintro i σ H' hi ⟨z1,z2,uv,st,rfl,x',_⟩;exact SqL.of (x' _ _ nLF eL)
   ·rintro i x σ H3 hx ⟨z1,z2,uv,st,rfl,x3,hF3,aS,ok3,run3,hst⟩;have hi:i<us.length:=(mo.mp hx).1;have hi2:i<(post t).length:=by omega
    have t23:YL H2 H3:=Zq.tup x3 hF2;have at3:=(aL.2 i x _ hx (lU hi2)).mono t23;rw[rY hi2] at ok3 run3;obtain⟨⟨okl,okd⟩,okr⟩:=ok3;have runr:runF Y0 (Vx Y0 st (post t)[i]) ((post t).drop (i+1))=[Yx t]:=run3;generalize (post t)[i]=r at at3 okl okd okr runr;have hsl:=aS.1;obtain⟨ad7,ks,eu7,sh7,ok7,hl7,hq7⟩:=id at3;refine⟨_,rfl,_,rfl,x,ad7,ks,r.lb,rfl,eu7,sh7,by rw[hl7];exact ok7.b,fun H4 b s4 eb=>.inl ⟨b,_,rfl,.inr (eb),?_⟩⟩;have aK:AtL K n H4 ks r.ks:=AtL.mono (Zh.tup s4) ⟨hl7,hq7⟩;have hkl:=aK.1;have hF4:=s4 _ _ hF3;refine⟨F,uv,ks.length,rfl,hF4,by rw[hsl,hkl];exact okl,fun H5 l x5 hF5 l0 hl5=>?_⟩;have nlF:l≠F:=fun e=>by rw[e,hF4] at l0;cases l0
    have t45:YL H4 H5:=Zq.tup x5 hF4;have t35:YL H3 H5:=(Zh.tup s4).trans t45;rw[hsl,hkl] at hF5 hl5;have at5:=at3.mono t35;have aS5:=aS.mono t35;have aI:=AtL.drop aS5 (st.length-r.ks.length);rw[okd] at aI;have ca:=zV _ r at5.ok;have ecr:Y0 r.lb (r.ks.map Yx)=Yx r:=(VE r).symm;have at5':At K (n+1) H5 x (.node r.lb r.ks):=by rw[<- Tr.eta];exact at5
    refine⟨_,rfl,.inl ⟨rfl,_,SqL.of hF5⟩,_,rfl,_,rfl,x,r.lb,r.ks,n+1,l,_,_,28*(n+1),rfl,at5',hl5,aI,lQ _,by omega,fun H6 v6 s6 at6=>?_⟩;rw[show YS Y0=Yx from rfl,ecr] at at6;have at6:=at6.fit ca.1;have hF6:=s6 _ _ hF5;refine⟨F,_,_,rfl,rfl,hF6,by rw[mf,lV];omega,?_⟩;have x36:Zq F H3 H6:=(Zh.x s4).trans (x5.trans (Zh.x s6));have t6:YL H6 (upd H6 F (.lst (uv.take (st.length-r.ks.length)++[v6]))):=Zq.tup ((Zq.refl H6).upd) hF6;refine⟨_,_,uv.take (st.length-r.ks.length)++[v6],Vx Y0 st r,rfl,(x3.trans x36).upd,Zb,?_,okr,runr,?_⟩
    ·unfold Vx;rw[okd,show YS Y0=Yx from rfl,ecr];exact AtL.app (((AtL.take aS5 _).mono (Zh.tup s6)).mono t6) (AtL.one (at6.mono t6))
    ·unfold Vx;rw[lW,mf];simp;omega
   rintro σ H3 ⟨z1,z2,uv,st,rfl,x3,hF3,aS,ok3,run3,hst⟩;rw[List.drop_eq_nil_of_le (by omega)] at run3;have est:st=[Yx t]:=run3;subst est;obtain⟨u0,ur,c0,cr,rfl,ec,a0⟩:=AtL.first aS (by simp);cases ec;exact⟨_,rfl,F,_,_,_,rfl,rfl,SqL.of hF3,Zi (j:=0) rfl,k H3 _ (((Zh.x (s1.trans s2)).trans x3).same hF) a0⟩
def iV(is:List Nat):List V:=is.map fun(i:Nat)=>V.int ((i:Nat):Int)
theorem WE(is:List Nat):(iV is).length=is.length:=lQ _
theorem nK_kV(is:List Nat):(nK is).map kV=iV is:=by unfold nK iV;rw[nu];rfl
theorem core_inn{K:W.Frag}{n:Nat}{H:Hp}{a:Addr}{vs:List V}{c:Lb}{ks:List Tr}{is:List Nat}(sh:UO K H a vs c)(hl:vs.length=ks.length)(ok:XV c ks.length)(hc:isC (.node c ks)=true)(hne:ks≠[]):ZT c ≠ "within" /\ (∃x xs,SqT K H a (.str (ZT c)::x::xs))/\WZ c is=.inr (ZT c)::nK is:=by
 have hk:0<ks.length:=oY.mpr hne;cases c with
 |yes=>exact absurd (nO.mp ok) hne
 |sign z=>exact absurd (nO.mp ok.1) hne
 |wit m=>rw[XX] at hc;unfold UX at hc;simp at hc
 |op w=>
  cases vs with
  |nil=>simp at hl;omega
  |cons x xs=>exact⟨(Vu w (zw ok)).2.2.1,⟨x,xs,sh⟩,rfl⟩
 |many w=>
  obtain⟨b,h1,h2⟩:=sh;exact⟨by rcases ok.1 with rfl|rfl<;>decide +kernel,⟨.ref b,[],h1⟩,rfl⟩
theorem core_leaf{K:W.Frag}{H:Hp}{a:Addr}{vs:List V}{c:Lb}{ks:List Tr}(sh:UO K H a vs c)(ok:XV c ks.length)(hc:isC (.node c ks)=true)(hne:ks=[]):SqT K H a ((WZ c []).map kV):=by
 subst hne;cases c with
 |yes=>exact sh.2
 |sign z=>exact sh.2
 |wit m=>rw[XX] at hc;unfold UX at hc;simp at hc
 |op w=>rcases ok with⟨_,h⟩|⟨_,h⟩<;>cases h
 |many w=>rw[XX] at hc;unfold UX at hc;simp at hc
theorem lb8{c:Lb}{n:Nat}(ok:XV c n):n<=8:=by
 cases c with
 |yes=>have h:n=0:=ok;omega
 |sign s=>have h:n=0:=ok.1;omega
 |op w=>rcases ok with o|o;have h:n=1:=o.2;omega;have h:n=2:=o.2;omega
 |wit m=>have h:n=2:=ok.2;omega
 |many w=>exact ok.2
theorem cut_to1{n:Nat}{k:Nat}(h:k<n):¬(HT.sIx n 0 none=0/\HT.sIx n n (some (k:Int))=n):=by
 rintro⟨_,h1⟩;have h2:¬((k:Int)<0):=by omega
 unfold HT.sIx at h1;simp only[h2,mK] at h1;omega
def Jd(K:W.Frag)(a:Adr):Sp:=fun vs H Q _=>∃(v:V) (t:Tr) (n:Nat) (l:Addr) (is:List Nat),vs=[v,.ref l]/\At K n H v t/\isC t=true/\H l=some (.lst (iV is))/\is.length=t.ks.length/\∀H' b,Zh H H'->SqT K H' b ((WZ t.lb is).map kV)->Q (.ref b) H'
theorem kg(T:Txt K mg a)(hw:w.params=a.Pm):Z2 P w K mg base CX0 1 a.row_with a.cQ ["sentence", "inner"] (Jd K a):=by
 refine T.fo.ok zu (fun vs H Q E h=>?_) (fun lM A outer s H vs Q E hr h=>?_)
 ·obtain⟨v,t,n,l,is,rfl,_⟩:=h;rfl
 ·obtain⟨v,t,n,l,is,rfl,hat,hc,hl,hil,k⟩:=h;refine⟨_,(@Za _ _ _ _ _ (@ZV _ _ _ _ _ _ _ _ (@Xy _ _ _ _ (Wf (K:=K) rfl (pv 1) (fun _=>rfl))) (@Zg _ _ _ (@Zm _ _ _ _ (pv 0))) ZD) (@Za _ _ _ _ _ (@Zp _ _ (2) _ _ _ _ zu.nd rfl (Or.inl rfl) (kZ (@Zx _ _ _ _ _ _ _ _ Yw (@Zz _ _ _ _ _ _ _ (ZR (K:=K) rfl) (pv 0) Zf (fun _ _=>rfl)) Zt (ZF _)) (ZS (VR (K:=K) rfl) (pv 0) Yb (ZX Zf)) (ZS (VR (K:=K) rfl) (pv 0) Yb (ZX Zf))) (by rfl) (by exact .inl rfl)) (@Zg _ _ _ (@Zm _ _ _ _ (@ZO _ _ _ _ _ _ _ _ (yG (K:=K) rfl) (pv 2) (Z3 (Yl (K:=K) rfl) rfl T.bf sD (@Zd _ _ _ (pv 1) (by rfl)))))))),?_⟩;cases n with
  |zero=>exact hat.elim
  |succ n=>
   obtain⟨ad,us,rfl,sh,ok,hul,hq⟩:=hat;have hc':isC (.node t.lb t.ks)=true:=by rw[<- Tr.eta];exact hc
   refine⟨_,rfl,!(iV is).isEmpty,.inl ⟨_,SqL.of hl,rfl⟩,?_⟩;cases his:(iV is).isEmpty with
   |true=>
    have e0:iV is=[]:=rX.mp his;have e1:is=[]:=nO.mp (by rw[<- WE,e0];rfl);subst e1;refine YR ⟨_,rfl,k H ad (fun _ _ e=>e) (core_leaf sh ok hc' (nO.mp hil.symm))⟩
   |false=>
    have hne:t.ks≠[]:=fun e=>by
     have:is=[]:=nO.mp (by rw[hil,e];rfl);rw[this] at his;cases his
    obtain⟨hw,⟨x,xs,ea⟩,hk⟩:=core_inn (n:=n) (is:=is) sh hul ok hc' hne;refine Yd ?_;refine⟨_,rfl,ad,_,_,_,rfl,rfl,ea,Zi (j:=0) rfl,rfl,_,rfl,Z1 (fun z=>hw (V.str.inj z)) ?_⟩;have h8:=lb8 ok;refine⟨_,rfl,_,rfl,ad,_,rfl,ea,cut_to1 (k:=1) (by simp),fun q hq=>?_⟩;have ec:W0 (V.str (ZT t.lb)::x::xs) none (some 1)=[V.str (ZT t.lb)]:=cutV_to (V.str (ZT t.lb)::x::xs) 1 (by simp);rw[ec];have s1:=Ze (o:=.tup [V.str (ZT t.lb)]) hq;have e1:(upd H q (.tup [V.str (ZT t.lb)])) q=some (.tup [V.str (ZT t.lb)]):=Zb;generalize upd H q (.tup [V.str (ZT t.lb)])=H1 at s1 e1 ⊢;refine⟨_,rfl,_,rfl,l,_,rfl,.inl ⟨SqL.of (s1 _ _ hl),fun b hb=>?_⟩⟩;have s2:=Ze (o:=.tup (iV is)) hb;have e2:(upd H1 b (.tup (iV is))) b=some (.tup (iV is)):=Zb;generalize upd H1 b (.tup (iV is))=H2 at s2 e2 ⊢;refine⟨q,b,_,_,rfl,rfl,SqT.of (s2 _ _ e1),SqT.of e2,by simp,by rw[WE,lV];simp;omega,fun z=>?_,fun _ c hc2=>?_⟩
    ·rw[z] at his;cases his
    ·refine k _ c ((s1.trans s2).trans (Ze hc2)) ?_;rw[hk,lX,nK_kV];exact SqT.of Zb
theorem tput2(v1 v2:V):YA "rows" v2 ([("parts",v1)]:List (Str×V))=([("parts",v1),("rows",v2)]:List (Str×V)):=by simp only[YA,if_neg (by decide +kernel:¬(("parts" : Str) = "rows"))]
theorem tput3(v1 v2 v3:V):YA "numbers" v3 ([("parts",v1),("rows",v2)]:List (Str×V))=([("parts",v1),("rows",v2),("numbers",v3)]:List (Str×V)):=by simp only[YA,if_neg (by decide +kernel:¬(("parts" : Str) = "numbers")),if_neg (by decide +kernel:¬(("rows" : Str) = "numbers"))]
def xp(K:W.Frag)(a:Adr):Sp:=fun vs H Q _=>∃r dx,vs=[.ref r]/\H r=some (.ins a.C_Table dx [])/\∀H' P R D,Zq r H H'->H P=none->H R=none->H D=none->r≠P->r≠R->r≠D->TbK K a.Pm a.C_Table H' r P R D []->Q .non H'
theorem UE(T:Txt K mg a)(hw:w.params=a.Pm):Z2 P w K mg base CX0 1 a.Table_init a.bR ["self"] (xp K a):=by
 refine T.fz.ok xI (fun vs H Q E h=>?_) (fun lM A outer s H vs Q E hr h=>?_)
 ·obtain⟨r,dx,rfl,_⟩:=h;rfl
 ·obtain⟨r,dx,rfl,hr0,k⟩:=h;refine⟨_,(@Za _ _ _ _ _ (U3 (pv 0) (@Yc _ _ _ _ Xd) rfl) (@Za _ _ _ _ _ (U3 (pv 0) (@Yc _ _ _ _ Xd) rfl) (@Zg _ _ _ (U3 (pv 0) (pe_xnew (Pm:=a.Pm) hw) rfl)))),?_⟩;refine⟨by decide,fun P hP=>⟨_,rfl,r,_,dx,[],rfl,Ze hP _ _ hr0,T.aj,T.bG,by decide,?_⟩⟩;have nP:P≠r:=fun z=>by rw[z,hr0] at hP;cases hP
  have s1:=Ze (o:=.lst []) hP;have e1:(upd H P (.lst [])) P=some (.lst []):=Zb;generalize upd H P (.lst [])=H1 at s1 e1 ⊢;have x2:Zq r H (upd H1 r (.ins a.C_Table dx (YA "parts" (.ref P) []))):=(Zh.x s1).upd;have hr2:(upd H1 r (.ins a.C_Table dx (YA "parts" (.ref P) []))) r=some (.ins a.C_Table dx [("parts",.ref P)]):=by rw[Zb,tput1]
  have e2:(upd H1 r (.ins a.C_Table dx (YA "parts" (.ref P) []))) P=some (.lst []):=Ws e1 nP;generalize upd H1 r (.ins a.C_Table dx (YA "parts" (.ref P) []))=H2 at x2 hr2 e2 ⊢;refine⟨by decide,fun R hR=>⟨_,rfl,r,_,dx,_,rfl,Ze hR _ _ hr2,T.aj,T.aU,by simp,?_⟩⟩;have nR:R≠r:=fun z=>by rw[z,hr2] at hR;cases hR
  have nRP:R≠P:=fun z=>by rw[z,e2] at hR;cases hR
  have s3:=Ze (o:=.lst []) hR;have e3:(upd H2 R (.lst [])) R=some (.lst []):=Zb;have e3P:=s3 _ _ e2;generalize upd H2 R (.lst [])=H3 at s3 e3 e3P ⊢;have x4:Zq r H (upd H3 r (.ins a.C_Table dx (YA "rows" (.ref R) [("parts",.ref P)]))):=(x2.trans (Zh.x s3)).upd;have hr4:(upd H3 r (.ins a.C_Table dx (YA "rows" (.ref R) [("parts",.ref P)]))) r=some (.ins a.C_Table dx [("parts",.ref P),("rows",.ref R)]):=by rw[Zb,tput2]
  have e4P:(upd H3 r (.ins a.C_Table dx (YA "rows" (.ref R) [("parts",.ref P)]))) P=some (.lst []):=Ws e3P nP;have e4R:(upd H3 r (.ins a.C_Table dx (YA "rows" (.ref R) [("parts",.ref P)]))) R=some (.lst []):=Ws e3 nR;generalize upd H3 r (.ins a.C_Table dx (YA "rows" (.ref R) [("parts",.ref P)]))=H4 at x4 hr4 e4P e4R ⊢;refine fun D hD=>⟨_,rfl,r,_,dx,_,rfl,Ze hD _ _ hr4,T.aj,T.am,by simp,?_⟩;have nD:D≠r:=fun z=>by rw[z,hr4] at hD;cases hD
  have s5:=Ze (o:=DxO a.Pm D []) hD;have e5:(upd H4 D (DxO a.Pm D [])) D=some (DxO a.Pm D []):=Zb;have e5P:=s5 _ _ e4P;have e5R:=s5 _ _ e4R;generalize upd H4 D (DxO a.Pm D [])=H5 at s5 e5 e5P e5R ⊢;refine k _ P R D ((x4.trans (Zh.x s5)).upd) hP (x2.free nR hR) (x4.free nD hD) (mj nP) (mj nR) (mj nD) ⟨⟨dx,by rw[Zb,tput3]⟩,⟨1,[],Ws e5P nP,AtL.nil⟩,⟨[],Ws e5R nR,rfl,fun e h=>(by cases h),fun i t e h=>(by simp at h),Ws e5 nD⟩,by simp,mj nRP⟩
def qL(K:W.Frag)(a:Adr):Sp:=fun vs H Q _=>∃r P R D ps v t n b ks,vs=[.ref r,v,.ref b]/\TbK K a.Pm a.C_Table H r P R D ps/\At K n H v t/\SqT K H b (ks.map kV)/\Uc ps t ks/\ps.length<4000/\∀H' (i:Nat),Vt P R D H H'->TbK K a.Pm a.C_Table H' r P R D (Ud ps t)->(Ud ps t)[i]?=some t->Q (.int (i:Int)) H'
theorem tat_ok{K:W.Frag}{n:Nat}{H:Hp}{v:V}{t:Tr}(h:At K n H v t):XV t.lb t.ks.length:=by
 cases n with
 |zero=>exact h.elim
 |succ n=>obtain⟨_,_,_,_,ok,_⟩:=h;exact ok
theorem lkP{v1 v2 v3:V}:([("parts",v1),("rows",v2),("numbers",v3)]:List (Str×V)).lookup ("parts" : Str)=some v1:=rfl
theorem lkR{v1 v2 v3:V}:([("parts",v1),("rows",v2),("numbers",v3)]:List (Str×V)).lookup ("rows" : Str)=some v2:=by
 have e:(("rows" : Str) == "parts")=false:=by decide +kernel
 rw[mS,e];rfl
theorem lkD{v1 v2 v3:V}:([("parts",v1),("rows",v2),("numbers",v3)]:List (Str×V)).lookup ("numbers" : Str)=some v3:=by
 have e:(("numbers" : Str) == "parts")=false:=by decide +kernel
 have e2:(("numbers" : Str) == "rows")=false:=by decide +kernel
 rw[mS,e]
 show List.lookup _ _=_
 rw[mS,e2];rfl
theorem qw(T:Txt K mg a)(hw:w.params=a.Pm):Z2 P w K mg base CX0 1 a.Table_taken_in a.aJ ["self", "part", "row"] (qL K a):=by
 refine T.di.ok qx (fun vs H Q E h=>?_) (fun lM A outer s H vs Q E hr h=>?_)
 ·obtain⟨r,P,R,D,ps,v,t,n,b,ks,rfl,_⟩:=h;rfl
 ·obtain⟨r,P,R,D,ps,v,t,n,b,ks,rfl,tb,hat,hb,hrow,hsz,k⟩:=h;refine⟨_,(@Za _ _ _ _ _ (@ZV _ _ _ _ _ _ _ _ (pt_cmp (pc_xnotin (K:=K) (Pm:=a.Pm) rfl hw (Xz.units1 hr) (pv 2) (XZ (K:=K) rfl (pv 0) rfl))) (@Za _ _ _ _ _ (ps_xput (K:=K) (Pm:=a.Pm) rfl hw (Xz.units1 hr) (XZ (K:=K) rfl (pv 0) rfl) (pv 2) (Zn (Zy (K:=K) rfl) rfl T.aB sA (@Zd _ _ _ (XZ (K:=K) rfl (pv 0) rfl) (by rfl))) rfl) (@Za _ _ _ _ _ (@YE _ _ _ _ (Wm m5 nh ni Z4 (XZ (K:=K) rfl (pv 0) rfl) (@Zd _ _ _ (pv 1) (by rfl))) (by rfl)) (@Zg _ _ _ (@YE _ _ _ _ (Wm m5 nh ni Z4 (XZ (K:=K) rfl (pv 0) rfl) (@Zd _ _ _ (pv 2) (by rfl))) (by rfl))))) ZD) (@Zg _ _ _ (@Zm _ _ _ _ (pe_xget (K:=K) (Pm:=a.Pm) rfl hw (Xz.units1 hr) (XZ (K:=K) rfl (pv 0) rfl) (pv 2) (fun _ _=>rfl))))),?_⟩;obtain⟨⟨dx,ho⟩,⟨np,pv,hP,aP⟩,⟨rows,hR,rl,hrt,hrr,hD⟩,nd,pr⟩:=id tb;have rkl:(rows.map (·.1)).length=ps.length:=by rw[lQ];exact rl
  obtain⟨knd,known⟩:=row_known (rks:=rows.map (·.1)) nd rkl aP.oks fun i t ks h1 h2=>by
   rw[mh] at h2;obtain⟨e,he,rfl⟩:=om.mp h2;exact hrr i t e h1 he
  obtain⟨kin,kout⟩:=known (tat_ok hat) hrow;have hkeys:∀e∈Vq 0 rows,SqT K H e.2.1 (e.1.map kV):=fun e he=>hrt _ (xi he);refine⟨_,rfl,_,rfl,r,_,dx,_,_,rfl,ho,T.aj,T.am,lkD,D,_,rfl,⟨_,ks,b,hD,rfl,hb,hkeys,rfl⟩,?_⟩;rw[ju]
  by_cases ht:t∈ps
  ·obtain⟨i,hi,e⟩:=m7 ht;have hi':ps[i]?=some t:=by rw[<- e];exact lU hi
   have hv:=val_at (n:=0) knd (kin i hi');rw[oK] at hv;rw[hv];refine⟨_,rfl,Yd ?_⟩;exact⟨_,rfl,r,_,dx,_,_,rfl,ho,T.aj,T.am,lkD,_,rfl,D,_,rfl,⟨_,ks,b,hD,rfl,hb,hkeys,by rw[ju,hv]⟩,k H i .refl (by rw[zQ ht];exact tb) (by rw[zQ ht];exact hi')⟩
  ·have hv:=val_no (n:=0) (kout ht);rw[hv];refine⟨_,rfl,YR ?_⟩;have aR:=aP.1;refine⟨_,rfl,r,_,dx,_,_,rfl,ho,T.aj,T.aU,lkR,.inl ⟨R,_,rfl,.inl (SqL.of hR),_,rfl,r,_,dx,_,_,rfl,ho,T.aj,T.am,lkD,_,rfl,D,_,rfl,⟨_,ks,b,hD,rfl,hb,hkeys,by rw[ju];exact hv,by rw[j9,lV];omega,rfl⟩,?_⟩⟩;have ep:Vq 0 rows++[(ks,b,V.int (((rows.map fun e=>V.ref e.2).length:Nat):Int))]=Vq 0 (rows++[(ks,b)]):=by
    rw[vF,lQ,oK]
   rw[ep];have nPD:P≠D:=Vw hP hD (by intro z;cases z);have nRD:R≠D:=Vw hR hD (by intro z;cases z);have nrD:r≠D:=Vw ho hD (by intro z;cases z);have ho1:(upd H D (DxO a.Pm D (Vq 0 (rows++[(ks,b)])))) r=_:=Ws ho nrD;have hP1:(upd H D (DxO a.Pm D (Vq 0 (rows++[(ks,b)])))) P=_:=Ws hP nPD;have hR1:(upd H D (DxO a.Pm D (Vq 0 (rows++[(ks,b)])))) R=_:=Ws hR nRD;have hD1:(upd H D (DxO a.Pm D (Vq 0 (rows++[(ks,b)])))) D=_:=Zb;have s1:Vt P R D H (upd H D (DxO a.Pm D (Vq 0 (rows++[(ks,b)])))):=fun c o _ _ n3 e=>by rw[ZB n3];exact e
   generalize upd H D (DxO a.Pm D (Vq 0 (rows++[(ks,b)])))=H1 at ho1 hP1 hR1 hD1 s1 ⊢;refine⟨_,rfl,r,_,dx,_,_,rfl,ho1,T.aj,T.bG,lkP,.inl ⟨rfl,_,SqL.of hP1⟩,_,rfl,P,_,_,rfl,rfl,hP1,by rw[lV];omega,?_⟩;have nrP:r≠P:=Vw ho hP (by intro z;cases z);have ho2:(upd H1 P (.lst (pv++[v]))) r=_:=Ws ho1 nrP;have hP2:(upd H1 P (.lst (pv++[v]))) P=_:=Zb;have hR2:(upd H1 P (.lst (pv++[v]))) R=_:=Ws hR1 (mj pr);have hD2:(upd H1 P (.lst (pv++[v]))) D=_:=Ws hD1 (mj nPD);have s2:Vt P R D H (upd H1 P (.lst (pv++[v]))):=fun c o n1 n2 n3 e=>by rw[ZB n1];exact s1 _ _ n1 n2 n3 e
   generalize upd H1 P (.lst (pv++[v]))=H2 at ho2 hP2 hR2 hD2 s2 ⊢;refine⟨_,rfl,r,_,dx,_,_,rfl,ho2,T.aj,T.aU,lkR,.inl ⟨rfl,_,SqL.of hR2⟩,_,rfl,R,_,_,rfl,rfl,hR2,by rw[lQ,lV];omega,?_⟩;have nrR:r≠R:=Vw ho hR (by intro z;cases z);have er:(rows.map fun e=>V.ref e.2)++[V.ref b]=(rows++[(ks,b)]).map fun e=>V.ref e.2:=by rw[mB];rfl
   rw[er];have ho3:(upd H2 R (.lst ((rows++[(ks,b)]).map fun e=>V.ref e.2))) r=_:=Ws ho2 nrR;have hP3:(upd H2 R (.lst ((rows++[(ks,b)]).map fun e=>V.ref e.2))) P=_:=Ws hP2 pr;have hR3:(upd H2 R (.lst ((rows++[(ks,b)]).map fun e=>V.ref e.2))) R=_:=Zb;have hD3:(upd H2 R (.lst ((rows++[(ks,b)]).map fun e=>V.ref e.2))) D=_:=Ws hD2 (mj nRD);have s3:Vt P R D H (upd H2 R (.lst ((rows++[(ks,b)]).map fun e=>V.ref e.2))):=fun c o n1 n2 n3 e=>by rw[ZB n2];exact s2 _ _ n1 n2 n3 e
   generalize upd H2 R (.lst ((rows++[(ks,b)]).map fun e=>V.ref e.2))=H3 at ho3 hP3 hR3 hD3 s3 ⊢;have u3:YL H H3:=tb.t s3;have eA:Ud ps t=ps++[t]:=qg ht;have kn2:((rows++[(ks,b)]).map (·.1)).Nodup:=by
    rw[mB,pJ];exact⟨knd,by simp,fun x hx y hy e=>kout ht (by
     have:y=ks:=by simpa using hy
     rw[this] at e;rw[<- e];exact hx)⟩
   have rat:((rows++[(ks,b)]).map (·.1))[ps.length]?=some ks:=by rw[mB,<- rkl,mW (lS _),nU];rfl
   have hv2:=val_at (n:=0) kn2 rat;rw[oK] at hv2;have hpt:(ps++[t])[ps.length]?=some t:=by rw[mW (lS _),nU];rfl
   have hrt3:∀e∈rows++[(ks,b)],SqT K H3 e.2 (e.1.map kV):=fun e he=>by
    rcases ml.mp he with he|he
    ·exact u3 _ _ _ (hrt e he)
    ·rw[mr.mp he];exact u3 _ _ _ hb
   refine⟨_,rfl,r,_,dx,_,_,rfl,ho3,T.aj,T.am,lkD,_,rfl,D,V.int ((ps.length:Nat):Int),rfl,⟨_,ks,b,hD3,rfl,u3 _ _ _ hb,fun e he=>hrt3 _ (xi he),by rw[ju];exact hv2.symm⟩,k H3 ps.length s3 ?_ (by rw[eA];exact hpt)⟩;rw[eA];have old:∀{α:Type}{xs:List α}{y x:α}{i:Nat},(xs++[y])[i]?=some x->(i<xs.length/\xs[i]?=some x)\/(i=xs.length/\x=y):=fun {α xs y x i} h=>by
    by_cases hi:i<xs.length
    ·rw[mQ hi] at h;exact .inl ⟨hi,h⟩
    ·have hj:=(mo.mp h).1;rw[lW,ng] at hj;have hij:i=xs.length:=by omega
     subst hij;rw[mW (lS _),nU] at h;exact .inr ⟨rfl,by simpa using h.symm⟩
   refine⟨⟨dx,ho3⟩,⟨max np n,pv++[v],hP3,((aP.le (Nat.le_max_left _ _)).mono u3).app (AtL.one ((hat.le (Nat.le_max_right _ _)).mono u3))⟩,⟨rows++[(ks,b)],hR3,by simp[rl],hrt3,fun i x e h1 h2=>?_,hD3⟩,?_,pr⟩
   ·rcases old h1 with⟨l1,h1⟩|⟨l1,h1⟩
    ·rcases old h2 with⟨l2,h2⟩|⟨l2,h2⟩
     ·exact(hrr i x e h1 h2).more
     ·omega
    ·rcases old h2 with⟨l2,h2⟩|⟨l2,h2⟩
     ·omega
     ·subst h1 h2;exact hrow.more
   ·rw[<- eA];exact xa nd
theorem ze:∀(n:Nat) (t:Tr),psz t<=n->YS Tr.node t=t
 |0,t,h=>by have:=WI t;omega
 |n+1,t,h=>by
  rw[W5];have e:t.ks.map (YS Tr.node)=t.ks:=by
   have:t.ks.map (YS Tr.node)=t.ks.map id:=pK fun k hk=>ze n k (by have:=XT hk;omega);rw[this,List.map_id]
  rw[e];exact(Tr.eta t).symm
theorem vg:∀{ks:List Tr}{s:Tr},s∈Z9 ks->∃k∈ks,s∈post k
 |[],s,h=>by rw[Z9] at h;cases h
 |t::r,s,h=>by
  rw[Z9,ml] at h;rcases h with h|h
  ·exact⟨t,by simp,h⟩
  ·obtain⟨k,hk,hs⟩:=vg h;exact⟨k,mi _ hk,hs⟩
theorem yA:∀(n:Nat) {t s:Tr},psz t<=n->isC t=true->s∈post t->isC s=true
 |0,t,s,h,_,_=>by have:=WI t;omega
 |n+1,t,s,h,hc,hs=>by
  rw[W4,ml] at hs;rcases hs with hs|hs
  ·obtain⟨k,hk,hs⟩:=vg hs;exact yA n (by have:=XT hk;omega) (jQ hc k hk) hs
  ·rw[mr.mp hs];exact hc
theorem lkN{v1 v2 v3:V}{m:Str}(h1:(m==("parts" : Str))=false)(h2:(m==("rows" : Str))=false)(h3:(m==("numbers" : Str))=false):([("parts",v1),("rows",v2),("numbers",v3)]:List (Str×V)).lookup m=none:=by
 rw[mS,h1]
 show List.lookup _ _=_
 rw[mS,h2]
 show List.lookup _ _=_
 rw[mS,h3];rfl
theorem kG{ps0 L:List Tr}{i:Nat}{x:Tr}(h:L[i]?=some x):Zw ps0 (L.take (i+1))=Ud (Zw ps0 (L.take i)) x:=by
 rw[rj,h,XN];rfl
theorem get_addT{ps:List Tr}{x s:Tr}{m:Nat}(h:ps[m]?=some s):(Ud ps x)[m]?=some s:=by
 obtain⟨B,e⟩:=kL ps x;rw[e,mQ (mo.mp h).1];exact h
def US(K:W.Frag)(a:Adr):Sp:=fun vs H Q _=>∃r P R D ps0 v t n,vs=[.ref r,v]/\TbK K a.Pm a.C_Table H r P R D ps0/\At K n H v t/\isC t=true/\psz t<=2000000/\(Zw ps0 (post t)).length<4000/\∀H' (i:Nat),Vt P R D H H'->TbK K a.Pm a.C_Table H' r P R D (Zw ps0 (post t))->(Zw ps0 (post t))[i]?=some t->Q (.int (i:Int)) H'
theorem X4(T:Txt K mg a)(hw:w.params=a.Pm):Z2 P w K mg base CX0 4 a.Table_number_of a.aA ["self", "core"] (US K a):=by
 have eI:=qF (P:=P) (w:=w) (base:=base) T hw;have cN:=Ue (P:=P) (w:=w) (base:=base) T hw;have dh:=Uu (P:=P) (w:=w) (base:=base) T hw;have iR:=kg (P:=P) (w:=w) (base:=base) T hw;have fI:=qw (P:=P) (w:=w) (base:=base) T hw;refine T.cK.ok Xb (fun vs H Q E h=>?_) (fun lM A outer s H vs Q E hr h=>?_)
 ·obtain⟨r,P,R,D,ps0,v,t,n,rfl,_⟩:=h;rfl
 ·obtain⟨r,P,R,D,ps0,v,t,n,rfl,tb,hat,hc,hz,hfew,k⟩:=h;refine⟨_,(@Za _ _ _ _ _ (@Zp _ _ (2) _ _ _ _ Xb.nd rfl (Or.inl rfl) (@Yc _ _ _ _ Xd) (by rfl) (by exact .inl rfl)) (@Za _ _ _ _ _ (X8 m8 rfl (Yk (K:=K) rfl (Zl dh (hr.mono (by decide)) rfl T.cY T.b9.kp T.cX .nil Zv (@Zd _ _ _ (pv 1) (by rfl)))) (ZA (i:=3) Xb.nd rfl (Or.inl rfl)) (@Za _ _ _ _ _ (@Zp _ _ (4) _ _ _ _ Xb.nd rfl (Or.inl rfl) (Zl eI (hr.mono (by decide)) rfl T.d6 T.cW.kp T.d5 .nil Zv (@Zk _ _ _ _ _ (pv 2) (@Zd _ _ _ (Zn (Zy (K:=K) rfl) rfl T.aB sA (@Zd _ _ _ (Zl cN (hr.mono (by decide)) rfl T.dU T.cJ.kp T.dQ .nil Zv (@Zd _ _ _ (pv 3) (by rfl))) (by rfl))) (by rfl)) (by rfl))) (by rfl) (by exact .inl rfl)) (@Zg _ _ _ (@YE _ _ _ _ (Wm m5 nh ni Z4 (pv 2) (@Zd _ _ _ (Vs (pv 0) T.aj T.dk fI (hr.mono (by decide)) T.dj .nil Zv (@Zk _ _ _ _ _ (pv 3) (@Zd _ _ _ (Zl iR (hr.mono (by decide)) rfl T.gF T.fo.kp T.gE .nil Zv (@Zk _ _ _ _ _ (pv 3) (@Zd _ _ _ (pv 4) (by rfl)) (by rfl))) (by rfl)) (by rfl))) (by rfl))) (by rfl))))) (@Zg _ _ _ (@Zm _ _ _ _ (@Zz _ _ _ _ _ _ _ (Zs (K:=K) rfl) (pv 2) Zf (fun _ _=>rfl)))))),?_⟩;cases n with
  |zero=>exact hat.elim
  |succ n=>
   refine⟨by decide,fun F hF=>?_⟩;have s1:=Ze (o:=.lst []) hF;have e1:(upd H F (.lst [])) F=some (.lst []):=Zb;generalize upd H F (.lst [])=H1 at s1 e1 ⊢;have hz':(post t).length<=2000000:=hz;refine⟨_,rfl,v,t,n+1,rfl,hat.mono (Zh.tup s1),by omega,fun H2 L us s2 L0 eL aL=>⟨L,rfl,⟨_,SqL.of eL⟩,?_⟩⟩;have nLF:L≠F:=fun e=>by rw[e,e1] at L0;cases L0
   have hF2:=s2 _ _ e1;obtain⟨ok0,run0⟩:=run_all (F:=Tr.node) t;rw[ze _ t (lS _)] at run0;have hul:=aL.1;obtain⟨n0,pv0,hP0,_⟩:=tb.pl;obtain⟨rows0,hR0,_,_,_,hD0⟩:=tb.rl;have nPF:P≠F:=ZL hP0 hF;have nRF:R≠F:=ZL hR0 hF;have nDF:D≠F:=ZL hD0 hF;have hL1:∀c o,H c=some o->c≠L:=fun c o e z=>by rw[z] at e;rw[s1 _ _ e] at L0;cases L0
   have nPL:=hL1 _ _ hP0;have nRL:=hL1 _ _ hR0;have nDL:=hL1 _ _ hD0;have tb2:=(tb.mono s1).mono s2;refine kr (K:=K) (xs:=us) (fun i σ H'=>∃(z1 z2:Option V) (is:List Nat) (st:List Tr),σ=[some (.ref r),some v,some (.ref F),z1,z2]/\Vt P R D H H'/\H' L=some (.lst us)/\AtL K (n+1) H' us (post t)/\TbK K a.Pm a.C_Table H' r P R D (Zw ps0 ((post t).take i))/\H' F=some (.lst (iV is))/\is.length=st.length/\(∀(j:Nat) s m,st[j]?=some s->is[j]?=some m->(Zw ps0 ((post t).take i))[m]?=some s)/\zk Tr.node st ((post t).drop i)/\runF Tr.node st ((post t).drop i)=[t]/\st.length<=i) ?_ ?_ ?_ ?_
   ·exact⟨_,_,[],[],rfl,Zh.b (s1.trans s2),eL,aL,tb2,hF2,rfl,fun j s m h=>by simp at h,ok0,run0,lS _⟩
   ·rintro i σ H' hi ⟨z1,z2,is,st,rfl,_,hL',_⟩;exact SqL.of hL'
   ·rintro i x σ H3 hx ⟨z1,z2,is,st,rfl,b3,hL3,aL3,tb3,hF3,hil,hnum,ok3,run3,hst⟩;have hi:i<us.length:=(mo.mp hx).1;have hi2:i<(post t).length:=by omega
    have hxi:(post t)[i]?=some (post t)[i]:=lU hi2;have at3:=aL3.2 i x _ hx hxi;have hcq:isC (post t)[i]=true:=yA _ (lS _) hc (mH hi2);have etk:=kG (ps0:=ps0) hxi;have hpl:(Zw ps0 ((post t).take i)).length<4000:=by
     have e1:Zw ps0 (post t)=Zw (Zw ps0 ((post t).take i)) ((post t).drop i):=by rw[<- XN,List.take_append_drop]
     obtain⟨B,e2⟩:=U6 ((post t).drop i) (Zw ps0 ((post t).take i));rw[e1,e2,lW] at hfew;omega
    rw[rY hi2] at ok3 run3;obtain⟨⟨okl,okd⟩,okr⟩:=ok3;have runr:runF Tr.node (Vx Tr.node st (post t)[i]) ((post t).drop (i+1))=[t]:=run3;have kidE:(post t)[i].ks.map (YS Tr.node)=(post t)[i].ks:=by
     have:(post t)[i].ks.map (YS Tr.node)=(post t)[i].ks.map id:=pK fun k hk=>ze _ k (lS _);rw[this,List.map_id]
    rw[kidE] at okd;generalize (post t)[i]=q at at3 okl okd okr runr hcq etk hxi kidE;generalize hps:Zw ps0 ((post t).take i)=ps at tb3 hnum etk hpl;obtain⟨ad7,ks7,eu7,sh7,ok7,hl7,hq7⟩:=id at3;refine⟨_,rfl,_,rfl,x,ad7,ks7,q.lb,rfl,eu7,sh7,by rw[hl7];exact ok7.b,fun H4 b s4 eb=>.inl ⟨b,_,rfl,.inr eb,?_⟩⟩;have hF4:=s4 _ _ hF3;have ivl:=WE is;refine⟨F,iV is,ks7.length,rfl,hF4,by rw[ivl];omega,fun H5 l x5 hF5 l0 hl5=>?_⟩;have nlF:l≠F:=fun e=>by rw[e,hF4] at l0;cases l0
    have u45:YL H4 H5:=Zq.tup x5 hF4;have u35:YL H3 H5:=(Zh.tup s4).trans u45;have tb5:TbK K a.Pm a.C_Table H5 r P R D ps:=(tb3.mono s4).monoX x5 hF4 nPF nRF;rw[show(iV is).length-ks7.length=st.length-q.ks.length by omega] at hF5 hl5;have ed:(iV is).drop (st.length-q.ks.length)=iV (is.drop (st.length-q.ks.length)):=by unfold iV;rw[pE]
    have ek:(iV is).take (st.length-q.ks.length)=iV (is.take (st.length-q.ks.length)):=by unfold iV;rw[ot]
    rw[ed] at hl5;rw[ek] at hF5;have at5:=at3.mono u35;obtain⟨dx5,ho5⟩:=tb5.obj;have hisl:(is.drop (st.length-q.ks.length)).length=q.ks.length:=by rw[mL];omega
    have hrow:Uc ps q (WZ q.lb (is.drop (st.length-q.ks.length))):=by
     refine⟨_,hisl,fun j kk m h1 h2=>?_,rfl⟩;rw[<- okd,re] at h1;rw[re] at h2;exact hnum _ _ _ h1 h2
    refine⟨_,rfl,.inl ⟨rfl,_,SqL.of hF5⟩,_,rfl,r,dx5,_,rfl,ho5,lkN (by decide +kernel) (by decide +kernel) (by decide +kernel),_,rfl,_,rfl,_,rfl,x,q,n+1,l,_,rfl,at5,hcq,hl5,hisl,fun H6 b6 s6 e6=>⟨r,P,R,D,ps,x,q,n+1,b6,_,rfl,tb5.mono s6,at5.mono (Zh.tup s6),e6,hrow,by omega,fun H7 m b7 tb7 hm=>?_⟩⟩;have hF7:=b7 _ _ (mj nPF) (mj nRF) (mj nDF) (s6 _ _ hF5);refine⟨F,_,_,rfl,rfl,hF7,by rw[WE,mf,lV];omega,?_⟩;have x8:Zq F H7 (upd H7 F (.lst (iV (is.take (st.length-q.ks.length))++[.int (m:Int)]))):=(Zq.refl H7).upd;have u8:YL H7 (upd H7 F (.lst (iV (is.take (st.length-q.ks.length))++[.int (m:Int)]))):=Zq.tup x8 hF7;have tb8:=tb7.monoX x8 hF7 nPF nRF;have e8:(upd H7 F (.lst (iV (is.take (st.length-q.ks.length))++[.int (m:Int)]))) F=some (.lst (iV (is.take (st.length-q.ks.length)++[m]))):=by
     rw[Zb];unfold iV;rw[mB];rfl
    have b8:Vt P R D H (upd H7 F (.lst (iV (is.take (st.length-q.ks.length))++[.int (m:Int)]))):=fun c o n1 n2 n3 e=>by
     have nc:c≠F:=ZL e hF;rw[ZB nc];exact b7 _ _ n1 n2 n3 (s6 _ _ (x5 _ _ nc (s4 _ _ (b3 _ _ n1 n2 n3 e))))
    have hL8:(upd H7 F (.lst (iV (is.take (st.length-q.ks.length))++[.int (m:Int)]))) L=some (.lst us):=Ws (b7 _ _ (mj nPL) (mj nRL) (mj nDL) (s6 _ _ (x5 _ _ nLF (s4 _ _ hL3)))) nLF;have u38:YL H3 (upd H7 F (.lst (iV (is.take (st.length-q.ks.length))++[.int (m:Int)]))):=(u35.trans (Zh.tup s6)).trans (((tb5.mono s6).t b7).trans u8);generalize upd H7 F (.lst (iV (is.take (st.length-q.ks.length))++[.int (m:Int)]))=H8 at x8 u8 tb8 e8 b8 hL8 u38 ⊢;rw[<- etk] at tb8 hm;refine⟨_,_,is.take (st.length-q.ks.length)++[m],Vx Tr.node st q,rfl,b8,hL8,aL3.mono u38,tb8,e8,?_,?_,okr,runr,?_⟩
    ·unfold Vx;rw[lW,lW,mf,mf,hil];rfl
    ·intro j s m' h1 h2;unfold Vx at h1;have hll:(st.take (st.length-q.ks.length)).length=(is.take (st.length-q.ks.length)).length:=by rw[mf,mf,hil]
     by_cases hj:j<(is.take (st.length-q.ks.length)).length
     ·rw[mQ (by rw[hll];exact hj)] at h1;rw[mQ hj] at h2;have hj2:j<st.length-q.ks.length:=by rw[mf] at hj;omega
      rw[rG hj2] at h1 h2;rw[etk];exact get_addT (hnum j s m' h1 h2)
     ·rw[mW (by rw[hll];omega),hll] at h1;rw[mW (by omega)] at h2;have hj0:j-(is.take (st.length-q.ks.length)).length=0:=by
       have:=(mo.mp h2).1;rw[ng] at this;omega
      rw[hj0] at h1 h2;have e1:m=m':=by simpa using h2
      have e2:Tr.node q.lb (st.drop (st.length-q.ks.length))=s:=by simpa using h1
      rw[okd,<- Tr.eta] at e2;rw[<- e1,<- e2];exact hm
    ·unfold Vx;rw[lW,mf];simp;omega
   rintro σ H3 ⟨z1,z2,is,st,rfl,b3,hL3,aL3,tb3,hF3,hil,hnum,ok3,run3,hst⟩;rw[hul,List.drop_eq_nil_of_le (lS _)] at run3;rw[hul,p6 (lS _)] at tb3 hnum;have est:st=[t]:=run3;subst est;obtain⟨m,rfl⟩:∃m,is=[m]:=by
    match is,hil with
    |[m],_=>exact⟨m,rfl⟩
   exact⟨_,rfl,F,_,_,_,rfl,rfl,SqL.of hF3,Zi (j:=0) rfl,k H3 m b3 tb3 (hnum 0 t m rfl rfl)⟩
def zg(c:Lb)(is:List Nat):List Nat:=match c with
 |.op w=>if w = "some" then[] else is
 |_=>is
theorem key_tail{c:Lb}{is:List Nat}(ok:XV c is.length)(nw:∀m,c≠.wit m):(ZT c∈(["yes", "sign", "some"]:List Str)/\zg c is=[])\/(ZT c∉(["yes", "sign", "some"]:List Str)/\(WZ c is).map kV=.str (ZT c)::iV is/\zg c is=is):=by
 cases c with
 |yes=>exact .inl ⟨by simp[ZT],nO.mp ok⟩
 |sign z=>exact .inl ⟨by simp[ZT],nO.mp ok.1⟩
 |wit m=>exact absurd rfl (nw m)
 |op w=>
  by_cases h:w = "some"
  ·subst h;exact .inl ⟨by simp[ZT],by show(if("some" : Str) = "some" then[] else is)=[];rw[if_pos rfl]⟩
  ·have wa:=Vu w (zw ok);refine .inr ⟨?_,by rw[<- nK_kV];rfl,if_neg h⟩;simp only[ZT,mw,oI,oJ];exact fun z=>z.elim wa.1 fun z=>z.elim wa.2.1 h
 |many w=>
  refine .inr ⟨?_,by rw[<- nK_kV];rfl,rfl⟩;rcases ok.1 with rfl|rfl<;>decide +kernel
def lg(K:W.Frag)(a:Adr):Sp:=fun vs H Q _=>∃(b:Addr) (c:Lb) (is:List Nat),vs=[.ref b]/\SqT K H b ((WZ c is).map kV)/\XV c is.length/\(∀m,c≠.wit m)/\∀H' b',Zh H H'->SqT K H' b' (iV (zg c is))->Q (.ref b') H'
theorem lh(T:Txt K mg a)(hw:w.params=a.Pm):Z2 P w K mg base CX0 1 a.below a.fL ["row"] (lg K a):=by
 refine T.iq.ok i9 (fun vs H Q E h=>?_) (fun lM A outer s H vs Q E hr h=>?_)
 ·obtain⟨b,c,is,rfl,_⟩:=h;rfl
 ·obtain⟨b,c,is,rfl,hb,ok,nw,k⟩:=h;refine⟨_,(@Zg _ _ _ (@Zm _ _ _ _ (kZ (@Zx _ _ _ _ _ _ _ _ (V3 (K:=K) rfl) (@Zz _ _ _ _ _ _ _ (ZR (K:=K) rfl) (pv 0) Zf (fun _ _=>rfl)) (@ZJ _ _ _ _ _ (@ZI _ _ _ _ _ Zt (@ZI _ _ _ _ _ Zt (@Yh _ _ _ Zt (by rfl)) (by rfl)) (by rfl))) (by with_unfolding_all rfl)) (@ZJ _ _ _ _ _ Xd) (ZS (VR (K:=K) rfl) (pv 0) (ZX Zf) Yb)))),?_⟩;obtain⟨r0,ekr⟩:=yQ (c:=c) (is:=is);have hb0:SqT K H b (.str (ZT c)::r0.map kV):=by rw[ekr] at hb;exact hb
  refine⟨_,rfl,b,_,_,_,rfl,rfl,hb0,Zi (j:=0) rfl,by rw[lV];simp,fun q hq=>⟨q,_,rfl,.inr (SqT.of Zb),rfl,rfl,_,rfl,?_⟩⟩;have s1:=Ze (o:=.tup [.str "yes",.str "sign",.str "some"]) hq;generalize upd H q (.tup [.str "yes",.str "sign",.str "some"])=H1 at s1 ⊢;rcases key_tail ok nw with⟨h1,h2⟩|⟨h1,h2,h3⟩
  ·refine UK (ss:=["yes", "sign", "some"]) h1 ⟨by rw[lV];simp,fun e he=>?_⟩;rw[h2] at k;exact k _ e (s1.trans (Ze he)) (SqT.of Zb)
  ·refine XI (ss:=["yes", "sign", "some"]) h1 ?_;rw[h2] at hb;refine⟨_,rfl,_,rfl,b,_,rfl,(Zh.tup s1 _ _ _ hb),je (by decide) (by simp;omega),fun e he=>?_⟩;rw[kJ];rw[h3] at k;exact k _ e (s1.trans (Ze he)) (SqT.of Zb)
theorem jk{X:Cx}{K:W.Frag}{tg l:Expr}{tl:TE}(hK:X.K=K)(hl:PE X l tl):PI X tg l (iTup K tl):=by subst hK;exact pi_tup hl
def UB(ps:List Tr)(is:List Nat)(ts:List Tr):Prop:=is.length=ts.length/\∀(j:Nat) m s,is[j]?=some m->ts[j]?=some s->ps[m]?=some s
theorem VD{ps:List Tr}{m:Nat}{is:List Nat}{s:Tr}{ts:List Tr}:UB ps (m::is) (s::ts)↔ps[m]?=some s/\UB ps is ts:=by
 constructor
 ·rintro⟨h1,h2⟩;exact⟨h2 0 m s rfl rfl,by simpa using h1,fun j m' s' e1 e2=>h2 (j+1) m' s' (by simpa using e1) (by simpa using e2)⟩
 ·rintro⟨h0,h1,h2⟩;refine⟨by simp[h1],fun j m' s' e1 e2=>?_⟩;cases j with
  |zero=>
   have a:m=m':=by simpa using e1
   have b:s=s':=by simpa using e2
   rw[<- a,<- b];exact h0
  |succ j=>exact h2 j m' s' (by simpa using e1) (by simpa using e2)
theorem nums_app{ps:List Tr}{is js:List Nat}{ts rs:List Tr}(h:UB ps is ts)(g:UB ps js rs):UB ps (is++js) (ts++rs):=by
 refine⟨by rw[lW,lW,h.1,g.1],fun i u k h1 h2=>?_⟩
 by_cases hi:i<is.length
 ·rw[mQ hi] at h1;rw[mQ (by rw[<- h.1];exact hi)] at h2;exact h.2 i u k h1 h2
 ·rw[mW (by omega)] at h1;rw[mW (by rw[<- h.1];omega),<- h.1] at h2;exact g.2 _ u k h1 h2
theorem Ja{ps:List Tr}{m:Nat}{s:Tr}(h:ps[m]?=some s):UB ps [m] [s]:=VD.mpr ⟨h,rfl,fun j a b e=>by simp at e⟩
theorem xn{ps:List Tr}(nd:ps.Nodup):∀{fs:List Nat}{F:List Tr},UB ps fs F->∀{m:Nat}{s:Tr},ps[m]?=some s->(m∈fs↔s∈F)
 |[],[],_,m,s,_=>by simp
 |[],_::_,h,_,_,_=>by have:=h.1;simp at this
 |_::_,[],h,_,_,_=>by have:=h.1;simp at this
 |a::fs,t::F,h,m,s,hm=>by
  obtain⟨h1,h2⟩:=VD.mp h;rw[mw,mw,xn nd h2 hm];constructor
  ·rintro(e|e)
   ·left;rw[e,h1] at hm;exact(mv hm).symm
   ·exact .inr e
  ·rintro(e|e)
   ·left;rw[e] at hm;exact nd_ix nd hm h1
   ·exact .inr e
theorem JQ{ps:List Tr}{t:Tr}{is:List Nat}(h:UB ps is t.ks):UB ps (zg t.lb is) (YQ t):=by
 unfold zg YQ;cases t.lb with
 |op w=>
  show UB ps (if w = "some" then[] else is) (if w = "some" then[] else t.ks)
  split
  ·exact⟨rfl,fun j m s e=>by simp at e⟩
  ·exact h
 |yes=>exact h
 |sign z=>exact h
 |wit m=>exact h
 |many w=>exact h
theorem yX{ps:List Tr}(nd:ps.Nodup){fs:List Nat}{F:List Tr}(hF:UB ps fs F):∀{bi:List Nat}{ks:List Tr},UB ps bi ks ->
  (bi.filter (fun m=>!decide (m∈fs))=[]/\∀k∈ks,k∈F)\/∃a1 X5 A k B,bi.filter (fun m=>!decide (m∈fs))=a1::X5/\ks=A++k::B/\(∀x∈A,x∈F)/\ps[a1]?=some k/\k∉F
 |[],[],_=>.inl ⟨rfl,fun k h=>by cases h⟩
 |[],_::_,h=>by have:=h.1;simp at this
 |_::_,[],h=>by have:=h.1;simp at this
 |m::bi,k::ks,h=>by
  obtain⟨h1,h2⟩:=VD.mp h;have hm:=xn nd hF h1
  by_cases hk:m∈fs
  ·have e:(m::bi).filter (fun m=>!decide (m∈fs))=bi.filter (fun m=>!decide (m∈fs)):=rJ (by simp[hk]);rw[e];rcases yX nd hF h2 with⟨g1,g2⟩|⟨a1,X5,A,k',B,g1,g2,g3,g4,g5⟩
   ·exact .inl ⟨g1,fun x hx=>by rcases mw.mp hx with rfl|hx;exact hm.mp hk;exact g2 x hx⟩
   ·exact .inr ⟨a1,X5,k::A,k',B,g1,by rw[g2];rfl,fun x hx=>by rcases mw.mp hx with rfl|hx;exact hm.mp hk;exact g3 x hx,g4,g5⟩
  ·have e:(m::bi).filter (fun m=>!decide (m∈fs))=m::bi.filter (fun m=>!decide (m∈fs)):=rH (by simp[hk]);exact .inr ⟨m,_,[],k,ks,e,rfl,fun x hx=>(by cases hx),h1,fun z=>hk (hm.mpr z)⟩
theorem xf(a b:List Nat):iV (a++b)=iV a++iV b:=by unfold iV;rw[mB]
def INv(H:Hp)(r Fd Sn W:Addr)(i:Nat)(ps tgt:List Tr)(m:Nat)(σ:L3.St)(H':Hp):Prop:=∃(z1 z2:Option V) (ws fs:List Nat) (w F:List Tr) (S:Int->Bool),σ=[some (.ref r),some (.int (i:Int)),some (.ref Fd),some (.ref Sn),some (.ref W),z1,z2]/\Zh H H'/\H' Fd=some (.lst (iV fs))/\H' Sn=some (.set S fs.length)/\H' W=some (.lst (iV ws.reverse))/\UB ps ws w/\UB ps fs F/\(∀q:Nat,S (q:Int)=true↔q∈fs)/\Uy F/\ye w F=tgt/\qU w/\(∀s∈w,s∉F)/\(∀s∈w,psz s<=2000000)/\m=(tgt.length-F.length)*2000001+(2000000-w.length)
def VN(K:W.Frag)(a:Adr):Sp:=fun vs H Q _=>∃r P R D ps t,∃i:Nat,vs=[.ref r,.int (i:Int)]/\TbK K a.Pm a.C_Table H r P R D ps/\ps[i]?=some t/\(∀s∈ps,isC s=true)/\psz t<=2000000/\(Zw [] (ZE t)).length<4000/\∀H' L is,Zh H H'->H L=none->H' L=some (.lst (iV is))->UB ps is (Zw [] (ZE t))->Q (.ref L) H'
theorem Wr(T:Txt K mg a)(hw:w.params=a.Pm):Z2 P w K mg base CX0 2 a.Table_inner_numbers a.ak ["self", "number"] (VN K a):=by
 have ly:=lh (P:=P) (w:=w) (base:=base) T hw;refine T.bH.ok Z0 (fun vs H Q E h=>?_) (fun lM A outer s H vs Q E hr h=>?_)
 ·obtain⟨r,P,R,D,ps,t,i,rfl,_⟩:=h;rfl
 ·obtain⟨r,P,R,D,ps,t,i,rfl,tb,hi,hc,hz,hfew,k⟩:=h;refine⟨_,(@Za _ _ _ _ _ (@Zp _ _ (2) _ _ _ _ Z0.nd rfl (Or.inl rfl) (@Yc _ _ _ _ Xd) (by rfl) (by exact .inl rfl)) (@Za _ _ _ _ _ (@Zp _ _ (3) _ _ _ _ Z0.nd rfl (Or.inr rfl) (J0 call_set0 rfl T.iY sI) (by rfl) (by exact .inl rfl)) (@Za _ _ _ _ _ (@Zp _ _ (4) _ _ _ _ Z0.nd rfl (Or.inl rfl) (@Yc _ _ _ _ (@Zd _ _ _ (pv 1) (by rfl))) (by rfl) (by exact .inl rfl)) (@Za _ _ _ _ _ (qr m8 (Wf (K:=K) rfl (pv 4) (fun _=>rfl)) (@Za _ _ _ _ _ (@Zp _ _ (5) _ _ _ _ Z0.nd rfl (Or.inl rfl) (@Zz _ _ _ _ _ _ _ (Zs (K:=K) rfl) (pv 4) (Us Vg Zf) (fun _ _=>rfl)) (by rfl) (by exact .inl rfl)) (@Za _ _ _ _ _ (WP (i:=6) Z0.nd rfl rfl (Nc:=["inner", "seen"]) (ix:=[none,some 3]) (ZY.of (by decide +kernel:Z5 (Zc ZN) ["self", "number", "found", "seen", "waiting", "at", "ahead"] ["inner", "seen"] [none,some 3] _=true)) rfl (jk (K:=K) rfl (Zl ly (hr.mono (by decide)) rfl T.iX T.iq.kp T.iW .nil Zv (@Zd _ _ _ (@Zz _ _ _ _ _ _ _ (Zs (K:=K) rfl) (XZ (K:=K) rfl (pv 0) rfl) (pv 5) (fun _ _=>rfl)) (by rfl)))) (fun _ _ _ _ _=>(ZA (i:=0) (show List.Nodup (["inner", "seen"]:List Str) by decide +kernel) rfl (Or.inl rfl))) (fun _ _ _ _ _=>(qM (@Zx _ _ _ _ _ _ _ _ op_notInS (pv 0) (pv 1) (by with_unfolding_all rfl)))) (fun _ _ _ _ _=>(pv 0))) (@Zg _ _ _ (@ZV _ _ _ _ _ _ _ _ (Wf (K:=K) rfl (pv 6) (fun _=>rfl)) (@Zg _ _ _ (@YE _ _ _ _ (Wm m5 nh ni Z4 (pv 4) (@Zd _ _ _ (@Zz _ _ _ _ _ _ _ (Zs (K:=K) rfl) (pv 6) Zf (fun _ _=>rfl)) (by rfl))) (by rfl))) (@Za _ _ _ _ _ (@YE _ _ _ _ (Wm m5 nh ni Z4 (pv 2) (@Zd _ _ _ (pe_bm0 m5 PySem.F.slot_list_pop PySem.F.type_list_pop mt_pop (pv 4)) (by rfl))) (by rfl)) (@Zg _ _ _ (@YE _ _ _ _ (Wm PySem.F.plainAttrs_set PySem.F.slot_set_add PySem.F.type_set_add mt_setAdd (pv 3) (@Zd _ _ _ (pv 5) (by rfl))) (by rfl))))))))) (@Zg _ _ _ (@Zm _ _ _ _ (pv 2))))))),?_⟩;refine⟨by decide,fun Fd hFd=>?_⟩;have s1:=Ze (o:=.lst []) hFd;have e1:(upd H Fd (.lst [])) Fd=some (.lst (iV [])):=Zb;generalize upd H Fd (.lst [])=H1 at s1 e1 ⊢;refine⟨rfl,fun Sn hSn=>?_⟩;have s2:=Ze (o:=.set (fun _=>false) 0) hSn;have e2:(upd H1 Sn (.set (fun _=>false) 0)) Sn=some (.set (fun _=>false) 0):=Zb;have e12:=s2 _ _ e1;have hSn0:=s1.free hSn;generalize upd H1 Sn (.set (fun _=>false) 0)=H2 at s2 e2 e12 ⊢;refine⟨_,rfl,by rw[lV];simp,fun W hW=>?_⟩;have s3:=Ze (o:=.lst [.int (i:Int)]) hW;have e3:(upd H2 W (.lst [.int (i:Int)])) W=some (.lst (iV [i].reverse)):=Zb;have e13:=s3 _ _ e12;have e23:=s3 _ _ e2;have hW0:=(s1.trans s2).free hW;have nFW:Fd≠W:=fun e=>by rw[e] at e12;rw[e12] at hW;cases hW
  have nSW:Sn≠W:=fun e=>by rw[e] at e2;rw[e2] at hW;cases hW
  have nFS:Fd≠Sn:=fun e=>by rw[e] at e1;rw[e1] at hSn;cases hSn
  generalize upd H2 W (.lst [.int (i:Int)])=H3 at s3 e3 e13 e23 ⊢;have s03:=s1.trans (s2.trans s3);clear s1 e1 s2 e2 e12 s3 hSn hW;have nd:=tb.nd;generalize htgt:Zw [] (ZE t)=tgt at k hfew;refine⟨INv H r Fd Sn W i ps tgt,⟨_,none,none,[i],[],[t],[],fun _=>false,rfl,s03,e13,e23,e3,Ja hi,⟨rfl,fun j m s e=>by simp at e⟩,fun q=>by simp,Jh,htgt,trivial,fun s _ z=>(by cases z),fun s hs=>by rw[mr.mp hs];exact hz,rfl⟩,?_⟩;clear e13 e23 e3 s03 H3;rintro m σ H3 ⟨z1,z2,ws,fs,w,F,S,rfl,s3,hFd3,hSn3,hW3,nw,nf,hS,cl,hcont,hch,hout,hps,rfl⟩;refine⟨_,rfl,!(iV ws.reverse).isEmpty,.inl ⟨_,SqL.of hW3,rfl⟩,?_⟩;cases ws with
  |nil=>
   have ew:w=[]:=nO.mp nw.1.symm;subst ew;refine Yd ?_;have eF:F=tgt:=hcont;rw[eF] at nf;exact⟨_,rfl,k H3 Fd fs s3 hFd hFd3 nf⟩
  |cons a0 ws=>
   cases w with
   |nil=>have:=nw.1;simp at this
   |cons t0 w=>
    obtain⟨hp0,nw'⟩:=VD.mp nw;have erev:iV (a0::ws).reverse=iV ws.reverse++[.int (a0:Int)]:=by rw[pI,xf];rfl
    rw[erev] at hW3 ⊢;have ene:(iV ws.reverse++[V.int (a0:Int)]).isEmpty=false:=by simp
    rw[ene];refine YR ⟨fun σ' H'=>∃m',m'<(tgt.length-F.length)*2000001+(2000000-(t0::w).length)/\INv H r Fd Sn W i ps tgt m' σ' H',fun _ _ z=>z,?_⟩;refine⟨_,rfl,_,rfl,W,_,_,.int (a0:Int),rfl,rfl,SqL.of hW3,qt,?_⟩;have tb3:=tb.mono s3;obtain⟨dx,ho⟩:=tb3.obj;obtain⟨np,pv,hP,aP⟩:=tb3.pl;obtain⟨rows,hR,rl,hrt,hrr,hD⟩:=tb3.rl;have ha0:a0<ps.length:=(mo.mp hp0).1;have hrk:rows[a0]?=some rows[a0]:=lU (by omega);have hb:=hrt _ (mH (show a0<rows.length by omega));obtain⟨is0,il0,in0,ik0⟩:=hrr a0 t0 _ hp0 hrk;have hrv:(rows.map fun e=>V.ref e.2)[a0]?=some (V.ref rows[a0].2):=by rw[mh,hrk];rfl
    generalize rows[a0].2=b at hb hrv;have t0m:t0∈ps:=mM hp0;have ok0:=aP.oks t0 t0m;have nwit:∀m,t0.lb≠.wit m:=fun m e=>by
     have h1:=hc t0 t0m;rw[Tr.eta t0,XX,e] at h1;unfold UX at h1;simp at h1
    rw[ik0] at hb;have n0:UB ps is0 t0.ks:=⟨il0,fun j m s e1 e2=>in0 j s m e2 e1⟩;have nb:=JQ n0;refine⟨_,rfl,r,_,dx,_,_,rfl,ho,T.aj,T.aU,lkR,_,rfl,R,_,_,_,rfl,rfl,SqL.of hR,Zi hrv,b,t0.lb,is0,rfl,hb,by rw[il0];exact ok0,nwit,fun H4 b' s4 sq4=>⟨b',rfl,⟨_,sq4⟩,fun Dc hDc=>?_⟩⟩;generalize zg t0.lb is0=bi at nb sq4;have hbl:bi.length<=8:=by
     have h1:=nb.1;have h2:(YQ t0).length<=t0.ks.length:=by
      unfold YQ
      split
      ·split
       ·simp
       ·exact lS _
      ·exact lS _
     have:=lb8 ok0;omega
    have s04:=s3.trans s4;have hSn4:=s4 _ _ hSn3;refine Xv (n:=bi.length) (fun j σ' H'=>∃z,σ'=[z,some (.ref Sn)]/\H' Dc=some (.lst (iV ((bi.take j).filter (fun m=>!decide (m∈fs)))))/\Zh H4 H') ?_ ?_ ?_ ?_ ?_
    ·exact⟨none,rfl,Zb,Ze hDc⟩
    ·rintro j σ' H' hj ⟨z,rfl,_,sj⟩;exact⟨iV bi,(iV bi)[j]'(by rw[WE];exact hj),Zh.seqT sj sq4,lU (by rw[WE];exact hj)⟩
    ·rintro σ' H' ⟨z,rfl,_,sj⟩;exact⟨_,Zh.seqT sj sq4,by rw[WE];exact lS _⟩
    ·rintro j x σ' H' H5 hj ⟨z,rfl,hDj,sj⟩ ⟨rfl,hx⟩ N N0 hN hN0;have hxj:=hx _ (Zh.seqT sj sq4);have hbj:bi[j]?=some bi[j]:=lU hj;have ex:x=V.int ((bi[j]:Nat):Int):=by
      unfold iV at hxj;rw[mh,hbj] at hxj;exact(mv hxj).symm
     subst ex;have etk:(bi.take (j+1))=bi.take j++[bi[j]]:=by rw[rj,hbj];rfl
     refine⟨_,rfl,_,rfl,_,Sn,S,_,rfl,rfl,sj _ _ hSn4,_,rfl,?_⟩
     by_cases hm:bi[j]∈fs
     ·have hSm:S ((bi[j]:Nat):Int)=true:=(hS _).mpr hm;rw[hSm];refine Yd (hN0 _ _ ⟨_,rfl,?_,sj⟩);rw[etk,List.filter_append,rJ (by simp[hm]),List.filter_nil,nW];exact hDj
     ·have hSm:S ((bi[j]:Nat):Int)=false:=by
       cases h:S ((bi[j]:Nat):Int) with
       |false=>rfl
       |true=>exact absurd ((hS _).mp h) hm
      rw[hSm];refine YR ⟨_,rfl,hN _ _ _ _ hDj ?_ ⟨_,rfl,?_,?_⟩⟩
      ·rw[WE,lV];have:=List.length_filter_le (fun m=>!decide (m∈fs)) (bi.take j);rw[mf] at this;omega
      ·rw[Zb,etk,List.filter_append,rH (by simp[hm]),List.filter_nil,xf];rfl
      ·exact((Zh.x sj).upd).same hDc
    rintro σ' H5 ⟨z,rfl,hA5,s5⟩;rw[p6 (lS _)] at hA5;have s05:=s04.trans s5;have hW5:=s5 _ _ (s4 _ _ hW3);have hFd5:=s5 _ _ (s4 _ _ hFd3);have hSn5:=s5 _ _ hSn4;have lch:=vE hch hps;have hFt:=yF (t0::w) F;rw[hcont] at hFt;obtain⟨Bt,eBt⟩:=hFt;have hFl:F.length<=tgt.length:=by rw[eBt,lW];omega
    have hfl:=nf.1;refine⟨_,rfl,!(iV (bi.filter fun m=>!decide (m∈fs))).isEmpty,.inl ⟨_,SqL.of hA5,rfl⟩,?_⟩;rcases yX nd nf nb with⟨g1,g2⟩|⟨a1,X5,A,kk,B,g1,g2,g3,g4,g5⟩
    ·rw[g1];refine Yd ?_;obtain⟨p1,p2⟩:=fin_pop cl g2 (hout t0 (by simp));refine⟨_,rfl,.inl ⟨rfl,_,SqL.of hFd5⟩,_,rfl,.inl ⟨rfl,_,SqL.of hW5⟩,W,_,.int (a0:Int),rfl,rfl,hW5,by rw[lW,ng,Nat.add_sub_cancel,mW (lS _),nU];rfl,?_⟩;rw[List.dropLast_concat];have hFd6:(upd H5 W (.lst (iV ws.reverse))) Fd=some (.lst (iV fs)):=Ws hFd5 nFW;have hSn6:(upd H5 W (.lst (iV ws.reverse))) Sn=some (.set S fs.length):=Ws hSn5 nSW;have hW6:(upd H5 W (.lst (iV ws.reverse))) W=some (.lst (iV ws.reverse)):=Zb;have s06:Zh H (upd H5 W (.lst (iV ws.reverse))):=((Zh.x s05).upd).same hW0;generalize upd H5 W (.lst (iV ws.reverse))=H6 at hFd6 hSn6 hW6 s06 ⊢;refine⟨Fd,_,_,rfl,rfl,hFd6,by rw[WE,lV];omega,?_⟩;have hFd7:(upd H6 Fd (.lst (iV fs++[.int (a0:Int)]))) Fd=some (.lst (iV (fs++[a0]))):=by rw[Zb,xf];rfl
     have hSn7:(upd H6 Fd (.lst (iV fs++[.int (a0:Int)]))) Sn=some (.set S fs.length):=Ws hSn6 (mj nFS);have hW7:(upd H6 Fd (.lst (iV fs++[.int (a0:Int)]))) W=some (.lst (iV ws.reverse)):=Ws hW6 (mj nFW);have s07:Zh H (upd H6 Fd (.lst (iV fs++[.int (a0:Int)]))):=((Zh.x s06).upd).same hFd;generalize upd H6 Fd (.lst (iV fs++[.int (a0:Int)]))=H7 at hFd7 hSn7 hW7 s07 ⊢;refine⟨_,rfl,.inr (.inr (.inr ⟨rfl,_,_,hSn7⟩)),_,rfl,Sn,S,fs.length,(a0:Int),rfl,rfl,hSn7,by omega,?_⟩;have hSa:S (a0:Int)=false:=by
      cases h:S (a0:Int) with
      |false=>rfl
      |true=>exact absurd ((xn nd nf hp0).mp ((hS a0).mp h)) (hout t0 (by simp))
     rw[hSa];have hFl2:(F++[t0]).length<=tgt.length:=by
      have hc2:ye w (F++[t0])=tgt:=by rw[<- p1];exact hcont
      obtain⟨B2,e2⟩:=yF w (F++[t0]);rw[hc2] at e2;rw[e2];simp
     have lF2:(F++[t0]).length=F.length+1:=by rw[lW,ng]
     refine⟨_,?_,_,_,ws,fs++[a0],w,F++[t0],fun j=>S j||decide (j=(a0:Int)),rfl,((Zh.x s07).upd).same hSn0,Ws hFd7 nFS,?_,Ws hW7 (mj nSW),nw',nums_app nf (Ja hp0),?_,p2,by rw[<- p1];exact hcont,?_,?_,fun s hs=>hps s (mi _ hs),rfl⟩
     ·rw[mJ] at lch ⊢;omega
     ·rw[Zb,lW,ng];rfl
     ·intro q;rw[ml,mr,pZ,hS,pN];constructor
      ·rintro(h|h)
       ·exact .inl h
       ·exact .inr (by omega)
      ·rintro(h|h)
       ·exact .inl h
       ·exact .inr (by omega)
     ·cases w with
      |nil=>trivial
      |cons s r=>exact hch.2
     ·intro s hs z;rcases ml.mp z with z|z
      ·exact hout s (mi _ hs) z
      ·have:=va hch s hs;rw[mr.mp z] at this;omega
    ·rw[g1];refine YR ?_;rw[g1] at hA5;obtain⟨p1,p2⟩:=fin_push cl g2 g3;have kb:kk∈YQ t0:=by rw[g2];simp
     have hch2:qU (kk::t0::w):=⟨kb,hch⟩;have hps2:∀s∈kk::t0::w,psz s<=2000000:=fun s hs=>by
      rcases mw.mp hs with rfl|hs
      ·have:=XT (Xw kb);have:=hps t0 (by simp);omega
      ·exact hps s hs
     have lch2:=vE hch2 hps2;refine⟨_,rfl,.inl ⟨rfl,_,SqL.of hW5⟩,_,rfl,Dc,_,_,.int (a1:Int),rfl,rfl,SqL.of hA5,Zi (j:=0) rfl,W,_,_,rfl,rfl,hW5,by rw[lW,WE,pL,ng,lV];have:=nw'.1;simp at lch2;omega,?_⟩;refine⟨_,?_,_,_,a1::a0::ws,fs,kk::t0::w,F,S,rfl,((Zh.x s05).upd).same hW0,Ws hFd5 nFW,Ws hSn5 nSW,?_,VD.mpr ⟨g4,nw⟩,nf,hS,cl,?_,hch2,?_,hps2,rfl⟩
     ·simp only[mJ] at lch2 ⊢;omega
     ·rw[Zb,pI,xf,pI,xf];rfl
     ·show ye w (Zw (Zw F (ZE kk)) (ZE t0))=tgt
      rw[p1];exact hcont
     ·intro s hs;rcases mw.mp hs with rfl|hs
      ·exact g5
      ·exact hout s hs
theorem V8{t:Tr}(hc:isC t=true):∀s∈Zw [] (post t),isC s=true:=fun s hs=>by
 rcases Z7.mp hs with h|h
 ·cases h
 ·exact yA _ (lS _) hc h
theorem kU{H:Hp}{x dx:Addr}{o o':HO}(h1:H x=none)(h2:H dx=none):Zh H (upd (upd H dx o) x o'):=fun b u e=>by
 rw[ZB (ZL e h1),ZB (ZL e h2)];exact e
def zY(K:W.Frag)(a:Adr):Sp:=fun vs H Q _=>∃v t n,vs=[v]/\At K n H v t/\isC t=true/\psz t<=2000000/\(Zw [] (post t)).length<4000/\∀H' L us m,Zh H H'->H L=none->H' L=some (.lst us)->AtL K m H' us (Zw [] (ZE t))->Q (.ref L) H'
theorem xc(T:Txt K mg a)(hw:w.params=a.Pm):Z2 P w K mg base CX0 5 a.inner_parts a.bx ["core"] (zY K a):=by
 have dD:=UE (P:=P) (w:=w) (base:=base) T hw;have ao:=X4 (P:=P) (w:=w) (base:=base) T hw;have aF:=Wr (P:=P) (w:=w) (base:=base) T hw;refine T.cZ.ok Va (fun vs H Q E h=>?_) (fun lM A outer s H vs Q E hr h=>?_)
 ·obtain⟨v,t,n,rfl,_⟩:=h;rfl
 ·obtain⟨v,t,n,rfl,hat,hc,hz,hfew,k⟩:=h;refine⟨_,(@Za _ _ _ _ _ (@Zp _ _ (1) _ _ _ _ Va.nd rfl (Or.inr rfl) (kf T.gT dD (hr.mono (by decide)) rfl T.iy T.du .nil Zv) (by rfl) (by exact .inl rfl)) (@Za _ _ _ _ _ (@Zp _ _ (2) _ _ _ _ Va.nd rfl (Or.inl rfl) (Vs (pv 1) T.aj T.aT ao (hr.mono (by decide)) T.aQ .nil Zv (@Zd _ _ _ (pv 0) (by rfl))) (by rfl) (by exact .inl rfl)) (@Zg _ _ _ (@Zm _ _ _ _ (Yu (Nc:=["inner", "table"]) (ix:=[none,some 1]) (ZY.of (by decide +kernel:Z5 (Zc YI) ["core", "table", "number"] ["inner", "table"] [none,some 1] _=true)) rfl (Yk (K:=K) rfl (Vs (pv 1) T.aj T.aD aF (hr.mono (by decide)) T.aC .nil Zv (@Zd _ _ _ (pv 2) (by rfl)))) (fun _ _ _ _ _=>(ZA (i:=0) (show List.Nodup (["inner", "table"]:List Str) by decide +kernel) rfl (Or.inl rfl))) (fun _ _ _ _ _=>YN) (fun _ _ _ _ _=>(@Zz _ _ _ _ _ _ _ (Zs (K:=K) rfl) (XZ (K:=K) rfl (pv 1) rfl) (pv 0) (fun _ _=>rfl)))))))),?_⟩;have hfewB:(Zw [] (ZE t)).length<4000:=nt (VW t) hfew;refine fun x dx nx ndx nex=>⟨x,dx,rfl,Zb,fun H1 P R D x1 hP hR hD nP nR nD tb1=>⟨rfl,?_⟩⟩;have s0:=kU (o:=.own x) (o':=.ins a.C_Table dx []) nx ndx;have s1:Zh H H1:=fun b u e=>x1 _ _ (ZL e nx) (s0 _ _ e);have fr:∀{c:Addr},(upd (upd H dx (.own x)) x (.ins a.C_Table dx [])) c=none->H c=none:=fun h=>s0.free h;have hP0:=fr hP;have hR0:=fr hR;have hD0:=fr hD;obtain⟨dx1,ho1⟩:=tb1.obj;refine⟨_,rfl,x,dx1,_,rfl,ho1,lkN (by decide +kernel) (by decide +kernel) (by decide +kernel),_,rfl,x,P,R,D,[],v,t,n,rfl,tb1,hat.mono (Zh.tup s1),hc,hz,hfew,fun H2 i b2 tb2 hi=>?_⟩;have s2:Zh H H2:=fun b u e=>b2 _ _ (ZL e hP0) (ZL e hR0) (ZL e hD0) (s1 _ _ e);obtain⟨dx2,ho2⟩:=tb2.obj;refine⟨_,rfl,x,dx2,_,rfl,ho2,lkN (by decide +kernel) (by decide +kernel) (by decide +kernel),_,rfl,x,P,R,D,_,t,i,rfl,tb2,hi,V8 hc,hz,hfewB,fun H3 L is s3 L0 hL nums=>⟨L,rfl,⟨_,SqL.of hL⟩,fun Dc hDc=>?_⟩⟩;have tb3:=tb2.mono s3;obtain⟨dx3,ho3⟩:=tb3.obj;obtain⟨np,pv,hP3,aP⟩:=tb3.pl;have hnl:=nums.1;refine Wv (K:=K) hDc (SqL.of hL) (by rw[WE,lV];omega) (fun j u G=>∀s,(Zw [] (ZE t))[j]?=some s->∃m,is[j]?=some m/\pv[m]?=some u) (fun _ _ _ _ _ q=>q) ?_ ?_
  ·intro j y H4 N hy s4 hN;unfold iV at hy;rw[mh] at hy;obtain⟨m,hm,rfl⟩:=om.mp hy;have hj:j<(Zw [] (ZE t)).length:=by rw[<- hnl];exact(mo.mp hm).1
   have hpm:=nums.2 j m _ hm (lU hj);have hml:m<pv.length:=by rw[aP.1];exact(mo.mp hpm).1
   have hpv:pv[m]?=some pv[m]:=lU hml;exact⟨_,rfl,x,_,dx3,_,_,rfl,s4 _ _ ho3,T.aj,T.bG,lkP,_,rfl,P,_,_,_,rfl,rfl,SqL.of (s4 _ _ hP3),Zi hpv,hN _ _ (.refl _) fun s _=>⟨m,hm,hpv⟩⟩
  intro H4 ys hys s4 yl r4;refine k H4 Dc ys np (s2.trans (s3.trans s4)) ((s2.trans s3).free hDc) hys ⟨by rw[yl,WE,hnl],fun j u s h1 h2=>?_⟩;obtain⟨m,hm,hpu⟩:=r4 j u h1 s h2;exact(aP.2 m u s hpu (nums.2 j m s hm h2)).mono (Zh.tup s4)
def jj(K:W.Frag)(a:Adr):Sp:=fun vs H Q _=>∃x,vs=[x]/\KdL H x/\∀H',Zh H H'->Q (.bl (Ya H x)) H'
theorem jB(T:Txt K mg a)(hw:w.params=a.Pm):Z2 P w K mg base CX0 2 a.are_names a.cn ["thing"] (jj K a):=by
 have gw:=yT (P:=P) (w:=w) (base:=base) T hw;refine T.cU.ok jo (fun vs H Q E h=>?_) (fun lM A outer s H vs Q E hr h=>?_)
 ·obtain⟨x,rfl,_⟩:=h;rfl
 ·obtain⟨x,rfl,hk,k⟩:=h;refine⟨_,(@Za _ _ _ _ _ (@ZV _ _ _ _ _ _ _ _ (PW.pt (UJ (@Xy _ _ _ _ (WT (Zn (Wh (K:=K) rfl "list") rfl T.ai sy (@Zk _ _ _ _ _ (pv 0) (@Zd _ _ _ (WJ (v:=.ty "list") rfl T.fe sw rfl) (by rfl)) (by rfl))))) (V2 (@Xy _ _ _ _ (WT (Zn (VI (K:=K) rfl rfl) rfl T.iP sC (@Zd _ _ _ (Yu (Nc:=["name"]) (ix:=[none]) (ZY.of (by decide +kernel:Z5 (Zc Y8) ["thing"] ["name"] [none] _=true)) rfl (Yk (K:=K) rfl (pv 0)) (fun _ _ _ _ _=>(ZA (i:=0) (show List.Nodup (["name"]:List Str) by decide +kernel) rfl (Or.inl rfl))) (fun _ _ _ _ _=>YN) (fun _ _ _ _ _=>(Zl gw (hr.mono (by decide)) rfl T.fO T.eK.kp T.fN .nil Zv (@Zd _ _ _ (pv 0) (by rfl))))) (by rfl)))))))) (@Zg _ _ _ (@Zm _ _ _ _ Vj)) ZD) (@Zg _ _ _ (@Zm _ _ _ _ (@XR _ _ _ _ _ _ _ _ Yw (Zn (Zy (K:=K) rfl) rfl T.aB sA (@Zd _ _ _ (Z3 (vA (K:=K) rfl rfl) rfl T.iY sI (@Zd _ _ _ (pv 0) (by rfl))) (by rfl))) (Zn (Zy (K:=K) rfl) rfl T.aB sA (@Zd _ _ _ (pv 0) (by rfl))) (ZF _))))),?_⟩;rcases Ux hk.1 with⟨hb,p,xs,rfl,hp,hl⟩|⟨hb,e⟩
  ·obtain⟨t,h1,h2⟩:=WX K (by simp) hk.1 hb;obtain⟨hz,hy⟩:=hk.2 xs hl;have hS:xs.length<=sizeLine:=by rw[lV];omega
   have ev:Ya H (.ref p)=(xs.all Xl&&decide xs.Nodup):=by unfold Ya;rw[hl]
   rw[ev] at k;refine⟨_,rfl,_,t,_,rfl,h1,h2,_,rfl,Yd ?_⟩;refine⟨_,rfl,p,rfl,⟨xs,SqL.of hp⟩,fun D hD=>?_⟩;refine Wv (K:=K) hD (SqL.of hp) hS (fun i v _=>∀x,xs[i]?=some x->v=.bl (Xl x)) (fun _ _ _ _ _ q=>q) ?_ ?_
   ·intro i x H2 N hx sm hN;refine⟨_,rfl,x,rfl,(hy x (mM hx)).mono sm,fun H3 s3=>hN _ _ s3 fun x' hx'=>?_⟩;rw[hx] at hx';cases hx';rfl
   ·intro H2 ys hD2 sm hlen hr;have ey:=Vb (f:=Xl) hlen fun i v x h1 h2=>hr i v h1 x h2;refine⟨D,_,rfl,SqL.of (by rw[hD2,ey]),_,rfl,?_⟩;rw[xh];cases hall:xs.all Xl with
    |false=>
     rw[hall] at k;exact YR (k H2 sm)
    |true=>
     rw[hall] at k;obtain⟨ks,rfl⟩:=xo hall;rw[lQ] at hz;refine Yd ⟨_,rfl,p,ks,rfl,SqL.of (sm _ _ hp),by omega,fun n c a1 a2 hc=>?_⟩;have s3:Zh H (upd H2 c (SetN c n)):=sm.trans (Ze hc);refine .inr (.inr ⟨c,n,rfl,Zb,by omega,_,rfl,.inl ⟨p,_,rfl,.inl (SqL.of (s3 _ _ hp)),rfl,?_⟩⟩);rw[dec_len rfl a2];exact k _ s3
  ·obtain⟨t,h1,h2⟩:=WX K (by simp) hk.1 hb;have q:=k H (.refl H);have e2:Ya H x=false:=by unfold Ya;rw[e]
   rw[e2] at q;exact⟨_,rfl,_,t,_,rfl,h1,h2,_,rfl,YR (YR q)⟩
def jh(K:W.Frag)(a:Adr):Sp:=fun vs H Q _=>∃x n,vs=[x,.int n]/\KdL H x/\∀H',Zh H H'->Q (.bl (Wn H n x)) H'
theorem jc(T:Txt K mg a)(hw:w.params=a.Pm):Z2 P w K mg base CX0 3 a.are_rooms a.cp ["thing", "many"] (jh K a):=by
 have i5:=Jk (P:=P) (w:=w) (base:=base) T hw;refine T.d0.ok jn (fun vs H Q E h=>?_) (fun lM A outer s H vs Q E hr h=>?_)
 ·obtain⟨x,n,rfl,_⟩:=h;rfl
 ·obtain⟨x,n,rfl,hk,k⟩:=h;refine⟨_,(@Zg _ _ _ (@Zm _ _ _ _ (Wl (Zn (Wh (K:=K) rfl "list") rfl T.ai sy (@Zk _ _ _ _ _ (pv 0) (@Zd _ _ _ (WJ (v:=.ty "list") rfl T.fe sw rfl) (by rfl)) (by rfl))) (Wa (Zn (VI (K:=K) rfl rfl) rfl T.iP sC (@Zd _ _ _ (Yu (Nc:=["room", "many"]) (ix:=[none,some 1]) (ZY.of (by decide +kernel:Z5 (Zc Y7) ["thing", "many"] ["room", "many"] [none,some 1] _=true)) rfl (Yk (K:=K) rfl (pv 0)) (fun _ _ _ _ _=>(ZA (i:=0) (show List.Nodup (["room", "many"]:List Str) by decide +kernel) rfl (Or.inl rfl))) (fun _ _ _ _ _=>YN) (fun _ _ _ _ _=>(Zl i5 (hr.mono (by decide)) rfl T.g9 T.fP.kp T.g8 .nil Zv (@Zk _ _ _ _ _ (pv 0) (@Zd _ _ _ (pv 1) (by rfl)) (by rfl))))) (by rfl))))))),?_⟩;rcases Ux hk.1 with⟨hb,p,xs,rfl,hp,hl⟩|⟨hb,e⟩
  ·obtain⟨t,h1,h2⟩:=WX K (by simp) hk.1 hb;obtain⟨hz,hy⟩:=hk.2 xs hl;have hS:xs.length<=sizeLine:=by rw[lV];omega
   have ev:Wn H n (.ref p)=xs.all (Y1 n):=by unfold Wn;rw[hl]
   rw[ev] at k;refine⟨_,rfl,_,t,_,rfl,h1,h2,_,rfl,YR ?_⟩;refine⟨_,rfl,p,rfl,⟨xs,SqL.of hp⟩,fun D hD=>?_⟩;refine Wv (K:=K) hD (SqL.of hp) hS (fun i v _=>∀x,xs[i]?=some x->v=.bl (Y1 n x)) (fun _ _ _ _ _ q=>q) ?_ ?_
   ·intro i x H2 N hx sm hN;refine⟨_,rfl,_,rfl,x,n,rfl,(hy x (mM hx)).mono sm,hN _ _ (.refl _) fun x' hx'=>?_⟩;rw[hx] at hx';cases hx';rfl
   ·intro H2 ys hD2 sm hlen hr;have ey:=Vb (f:=Y1 n) hlen fun i v x h1 h2=>hr i v h1 x h2;refine⟨D,_,rfl,SqL.of (by rw[hD2,ey]),?_⟩;rw[xh];exact k H2 sm
  ·obtain⟨t,h1,h2⟩:=WX K (by simp) hk.1 hb;have q:=k H (.refl H);have e2:Wn H n x=false:=by unfold Wn;rw[e]
   rw[e2] at q;exact⟨_,rfl,_,t,_,rfl,h1,h2,_,rfl,Yd q⟩
def qe(K:W.Frag)(a:Adr):Sp:=fun vs H Q _=>∃x n,vs=[x,.int n]/\KdL H x/\∀H',Zh H H'->Q (.bl (ZZ H n x)) H'
theorem qz(T:Txt K mg a)(hw:w.params=a.Pm):Z2 P w K mg base CX0 4 a.are_some_rooms a.aO ["thing", "many"] (qe K a):=by
 have iD:=jc (P:=P) (w:=w) (base:=base) T hw;refine T.ba.ok qb (fun vs H Q E h=>?_) (fun lM A outer s H vs Q E hr h=>?_)
 ·obtain⟨x,n,rfl,_⟩:=h;rfl
 ·obtain⟨x,n,rfl,hk,k⟩:=h;refine⟨_,(@Za _ _ _ _ _ (@ZV _ _ _ _ _ _ _ _ (PW.pt (UJ (@Xy _ _ _ _ (WT (Zl iD (hr.mono (by decide)) rfl T.fR T.d0.kp T.fQ .nil Zv (@Zk _ _ _ _ _ (pv 0) (@Zd _ _ _ (pv 1) (by rfl)) (by rfl))))) (V2 (@Zx _ _ _ _ _ _ _ _ Yw (Zn (Zy (K:=K) rfl) rfl T.aB sA (@Zd _ _ _ (pv 0) (by rfl))) Zf (ZF _))))) (@Zg _ _ _ (@Zm _ _ _ _ Vj)) ZD) (@Zg _ _ _ (@Zm _ _ _ _ (@XR _ _ _ _ _ _ _ _ Yw (Zn (Zy (K:=K) rfl) rfl T.aB sA (@Zd _ _ _ (Z3 (vA (K:=K) rfl rfl) rfl T.iY sI (@Zd _ _ _ (pv 0) (by rfl))) (by rfl))) (Zn (Zy (K:=K) rfl) rfl T.aB sA (@Zd _ _ _ (pv 0) (by rfl))) (ZF _))))),?_⟩;refine⟨_,rfl,_,rfl,x,n,rfl,hk,fun H1 s1=>⟨_,rfl,?_⟩⟩;rcases Ux hk.1 with⟨hb,p,xs,rfl,hp,hl⟩|⟨hb,e⟩
  ·obtain⟨hz,hy⟩:=hk.2 xs hl;have ev:Wn H n (.ref p)=xs.all (Y1 n):=by unfold Wn;rw[hl]
   have ew:ZZ H n (.ref p)=(xs.all (Y1 n)&&!xs.isEmpty&&decide xs.Nodup):=by unfold ZZ;rw[hl]
   rw[ew] at k;rw[ev];cases hall:xs.all (Y1 n) with
   |false=>
    rw[hall] at k;exact YR (YR (k H1 s1))
   |true=>
    rw[hall] at k;refine Yd ⟨_,rfl,.inl ⟨p,xs,rfl,.inl (SqL.of (s1 _ _ hp)),rfl,_,rfl,?_⟩⟩;cases xs with
    |nil=>
     exact YR (k H1 s1)
    |cons y r=>
     have e0:decide (V.int (((y::r).length:Nat):Int)=V.int 0)=false:=by
      refine nr fun q=>?_;have q':=V.int.inj q;rw[mJ] at q';omega
     rw[e0];obtain⟨ks,eks⟩:=yB hall;rw[eks] at hp k hz;rw[lQ] at hz;refine Yd ⟨_,rfl,p,ks,rfl,SqL.of (s1 _ _ hp),by omega,fun m c a1 a2 hc=>?_⟩;have s3:Zh H (upd H1 c (SetN c m)):=s1.trans (Ze hc);refine .inr (.inr ⟨c,m,rfl,Zb,by omega,_,rfl,.inl ⟨p,_,rfl,.inl (SqL.of (s3 _ _ hp)),rfl,?_⟩⟩);rw[dec_len rfl a2];have q:=k _ s3;have ne:(!(ks.map kV).isEmpty)=true:=by rw[<- eks];rfl
     rw[ne] at q;exact q
  ·have ev:Wn H n x=false:=by unfold Wn;rw[e]
   have ew:ZZ H n x=false:=by unfold ZZ;rw[e]
   rw[ew] at k;rw[ev];exact YR (YR (k H1 s1))
def yO(K:W.Frag)(a:Adr):Sp:=fun vs H Q _=>∃x y z u,vs=[x,y,z,u]/\KdLL H x/\KdLL H y/\KdL H z/\KdL H u/\∀H',Zh H H'->Q (.bl (V1 H x y z u)) H'
theorem yo(T:Txt K mg a)(hw:w.params=a.Pm):Z2 P w K mg base CX0 5 a.makes_world a.bC ["signs", "ways", "starts", "fair"] (yO K a):=by
 have gy:=jB (P:=P) (w:=w) (base:=base) T hw;have dt:=qz (P:=P) (w:=w) (base:=base) T hw;refine T.df.ok Uf (fun vs H Q E h=>?_) (fun lM A outer s H vs Q E hr h=>?_)
 ·obtain⟨x,y,z,u,rfl,_⟩:=h;rfl
 ·obtain⟨x,y,z,u,rfl,kx,ky,kz,ku,k⟩:=h;refine⟨_,(@Za _ _ _ _ _ (@ZV _ _ _ _ _ _ _ _ (PW.pt (UJ (@Xy _ _ _ _ (WT (Zn (Wh (K:=K) rfl "list") rfl T.ai sy (@Zk _ _ _ _ _ (pv 0) (@Zd _ _ _ (WJ (v:=.ty "list") rfl T.fe sw rfl) (by rfl)) (by rfl))))) (V2 (@Xy _ _ _ _ (WT (Zn (Wh (K:=K) rfl "list") rfl T.ai sy (@Zk _ _ _ _ _ (pv 1) (@Zd _ _ _ (WJ (v:=.ty "list") rfl T.fe sw rfl) (by rfl)) (by rfl)))))))) (@Zg _ _ _ (@Zm _ _ _ _ Vj)) ZD) (@Za _ _ _ _ _ (@Zp _ _ (4) _ _ _ _ Uf.nd rfl (Or.inr rfl) (Zn (Zy (K:=K) rfl) rfl T.aB sA (@Zd _ _ _ (pv 0) (by rfl))) (by rfl) (by exact .inl rfl)) (@Za _ _ _ _ _ (@ZV _ _ _ _ _ _ _ _ (PW.pt (UJ (@Xy _ _ _ _ (jS zy zy Zf (pv 4) (Vv rfl T.fH))) (V2 (@Zx _ _ _ _ _ _ _ _ op_ne (Zn (Zy (K:=K) rfl) rfl T.aB sA (@Zd _ _ _ (pv 1) (by rfl))) (pv 4) (ZF _))))) (@Zg _ _ _ (@Zm _ _ _ _ Vj)) ZD) (@Za _ _ _ _ _ (@ZV _ _ _ _ _ _ _ _ (@Xy _ _ _ _ (WT (Zn (VI (K:=K) rfl rfl) rfl T.iP sC (@Zd _ _ _ (Yu (Nc:=["names"]) (ix:=[none]) (ZY.of (by decide +kernel:Z5 (Zc Yt) ["signs", "ways", "starts", "fair", "many"] ["names"] [none] _=true)) rfl (Yk (K:=K) rfl (pv 0)) (fun _ _ _ _ _=>(ZA (i:=0) (show List.Nodup (["names"]:List Str) by decide +kernel) rfl (Or.inl rfl))) (fun _ _ _ _ _=>YN) (fun _ _ _ _ _=>(Zl gy (hr.mono (by decide)) rfl T.dZ T.cU.kp T.dY .nil Zv (@Zd _ _ _ (pv 0) (by rfl))))) (by rfl))))) (@Zg _ _ _ (@Zm _ _ _ _ Vj)) ZD) (@Za _ _ _ _ _ (@ZV _ _ _ _ _ _ _ _ (@Xy _ _ _ _ (WT (Zn (VI (K:=K) rfl rfl) rfl T.iP sC (@Zd _ _ _ (Yu (Nc:=["rooms", "many"]) (ix:=[none,some 4]) (ZY.of (by decide +kernel:Z5 (Zc Yt) ["signs", "ways", "starts", "fair", "many"] ["rooms", "many"] [none,some 4] _=true)) rfl (Yk (K:=K) rfl (pv 1)) (fun _ _ _ _ _=>(ZA (i:=0) (show List.Nodup (["rooms", "many"]:List Str) by decide +kernel) rfl (Or.inl rfl))) (fun _ _ _ _ _=>YN) (fun _ _ _ _ _=>(Zl dt (hr.mono (by decide)) rfl T.bO T.ba.kp T.bN .nil Zv (@Zk _ _ _ _ _ (pv 0) (@Zd _ _ _ (pv 1) (by rfl)) (by rfl))))) (by rfl))))) (@Zg _ _ _ (@Zm _ _ _ _ Vj)) ZD) (@Zg _ _ _ (@Zm _ _ _ _ (Wl (Zl dt (hr.mono (by decide)) rfl T.bO T.ba.kp T.bN .nil Zv (@Zk _ _ _ _ _ (pv 2) (@Zd _ _ _ (pv 4) (by rfl)) (by rfl))) (Wl (Zl gy (hr.mono (by decide)) rfl T.dZ T.cU.kp T.dY .nil Zv (@Zd _ _ _ (pv 3) (by rfl))) (Wa (@XR _ _ _ _ _ _ _ _ zy (Zn (Zy (K:=K) rfl) rfl T.aB sA (@Zd _ _ _ (pv 3) (by rfl))) (Vv rfl T.gu) (ZF _)))))))))))),?_⟩;rcases Ux kx.1 with⟨hb,p,xs,rfl,hp,hl⟩|⟨hb,e⟩
  case inr=>
   obtain⟨t,h1,h2⟩:=WX K (by simp) kx.1 hb;have q:=k H (.refl H);have e2:V1 H x y z u=false:=by unfold V1;rw[e]
   rw[e2] at q;exact⟨_,rfl,_,t,_,rfl,h1,h2,_,rfl,YR (YR q)⟩
  obtain⟨t,h1,h2⟩:=WX K (by simp) kx.1 hb;refine⟨_,rfl,_,t,_,rfl,h1,h2,_,rfl,Yd ?_⟩;rcases Ux ky.1 with⟨hb2,p2,ys,rfl,hp2,hl2⟩|⟨hb2,e⟩
  case inr=>
   obtain⟨t,h1,h2⟩:=WX K (by simp) ky.1 hb2;have q:=k H (.refl H);have e2:V1 H (.ref p) y z u=false:=by unfold V1;rw[hl,e]
   rw[e2] at q;exact⟨_,rfl,_,t,_,rfl,h1,h2,_,rfl,YR q⟩
  obtain⟨t2,h3,h4⟩:=WX K (by simp) ky.1 hb2;refine⟨_,rfl,_,t2,_,rfl,h3,h4,_,rfl,Yd ?_⟩;obtain⟨hz,hy⟩:=kx.2 xs hl;obtain⟨hz2,hy2⟩:=ky.2 ys hl2;have hS:xs.length<=sizeLine:=by rw[lV];omega
  have hS2:ys.length<=sizeLine:=by rw[lV];omega
  have ev:V1 H (.ref p) (.ref p2) z u=(decide (1<=xs.length)&&decide (xs.length<=20)&&decide (ys.length=xs.length)&&xs.all (Ya H)&&ys.all (ZZ H xs.length)&&(ZZ H xs.length z&&(Ya H u&&few3 (Wi H u)))):=by unfold V1;rw[hl,hl2]
  rw[ev] at k;refine⟨_,rfl,.inl ⟨p,xs,rfl,.inl (SqL.of hp),?_⟩⟩;refine⟨_,rfl,_,_,rfl,rfl,_,rfl,?_⟩;cases c1:decide ((1:Int)<=xs.length) with
  |false=>
   have e1:decide (1<=xs.length)=false:=nr fun q=>absurd (pW c1) (by omega);rw[e1] at k;exact Yd ⟨_,rfl,YR (YR (k H (.refl H)))⟩
  |true=>
  have e1:decide (1<=xs.length)=true:=nk (by have:=mO c1;omega);rw[e1] at k;refine YR ⟨_,_,rfl,rfl,_,rfl,?_⟩;cases c2:decide ((xs.length:Int)<=20) with
  |false=>
   have e2:decide (xs.length<=20)=false:=nr fun q=>absurd (pW c2) (by omega);rw[e2] at k;exact YR (YR (k H (.refl H)))
  |true=>
  have e2:decide (xs.length<=20)=true:=nk (by have:=mO c2;omega);rw[e2] at k;refine Yd ⟨_,rfl,.inl ⟨p2,ys,rfl,.inl (SqL.of hp2),_,rfl,rfl,_,rfl,?_⟩⟩;cases c3:decide (V.int (ys.length:Int)=V.int (xs.length:Int)) with
  |false=>
   have e3:decide (ys.length=xs.length)=false:=nr fun q=>absurd (pW c3) (by rw[q];simp);rw[e3] at k;exact YR (k H (.refl H))
  |true=>
  have e3:decide (ys.length=xs.length)=true:=nk (by have:=V.int.inj (mO c3);omega);rw[e3] at k;refine Yd ⟨_,rfl,p,rfl,⟨xs,SqL.of hp⟩,fun D hD=>?_⟩;refine Wv (K:=K) hD (SqL.of hp) hS (fun i v _=>∀x,xs[i]?=some x->v=.bl (Ya H x)) (fun _ _ _ _ _ q=>q) ?_ ?_
  ·intro i x H2 N hx sm hN;have hk:=hy x (mM hx);refine⟨_,rfl,x,rfl,hk.mono sm,fun H3 s3=>hN _ _ s3 fun x' hx'=>?_⟩;rw[hx] at hx';cases hx';rw[UI sm hk.1]
  intro H2 zs hD2 sm hlen hr;have ey:=Vb (f:=Ya H) hlen fun i v x h1 h2=>hr i v h1 x h2;refine⟨D,_,rfl,SqL.of (by rw[hD2,ey]),_,rfl,?_⟩;rw[xh];cases c4:xs.all (Ya H) with
  |false=>
   rw[c4] at k;exact YR (k H2 sm)
  |true=>
  rw[c4] at k;refine Yd ⟨_,rfl,p2,rfl,⟨ys,SqL.of (sm _ _ hp2)⟩,fun D' hD'=>?_⟩;refine Wv (K:=K) hD' (SqL.of (sm _ _ hp2)) hS2 (fun i v _=>∀x,ys[i]?=some x->v=.bl (ZZ H xs.length x)) (fun _ _ _ _ _ q=>q) ?_ ?_
  ·intro i x H3 N hx sm3 hN;have hk:=hy2 x (mM hx);have s3:=sm.trans sm3;refine⟨_,rfl,_,rfl,x,_,rfl,hk.mono s3,fun H4 s4=>hN _ _ s4 fun x' hx'=>?_⟩;rw[hx] at hx';cases hx';rw[Uh s3 hk.1]
  intro H3 zs3 hD3 sm3 hlen3 hr3;have s3:=sm.trans sm3;have ey3:=Vb (f:=ZZ H xs.length) hlen3 fun i v x h1 h2=>hr3 i v h1 x h2;refine⟨D',_,rfl,SqL.of (by rw[hD3,ey3]),_,rfl,?_⟩;rw[xh];cases c5:ys.all (ZZ H xs.length) with
  |false=>
   rw[c5] at k;exact YR (k H3 s3)
  |true=>
  rw[c5] at k;refine Yd ⟨_,rfl,_,rfl,z,_,rfl,kz.mono s3,fun H4 s4=>⟨_,rfl,?_⟩⟩;rw[Uh s3 kz.1];have s5:=s3.trans s4;cases c6:ZZ H xs.length z with
  |false=>
   rw[c6] at k;exact Yd (k H4 s5)
  |true=>
  rw[c6] at k;refine YR ⟨_,rfl,u,rfl,ku.mono s5,fun H5 s6=>⟨_,rfl,?_⟩⟩;rw[UI s5 ku.1];have s7:=s5.trans s6;cases c7:Ya H u with
  |false=>
   rw[c7] at k;exact Yd (k H5 s7)
  |true=>
  rw[c7] at k;rcases Ux ku.1 with⟨_,p4,fs,rfl,hp4,hl4⟩|⟨_,e⟩
  ·rw[hl4] at k;refine YR ⟨_,rfl,.inl ⟨p4,fs,rfl,.inl (SqL.of (s7 _ _ hp4)),_,_,rfl,rfl,?_⟩⟩;have q:=k H5 s7;have e8:decide (fs.length<=3)=decide ((fs.length:Int)<=3):=pM.mpr (by omega);simp only[few3] at q;rw[e8] at q;exact q
  ·unfold Ya at c7;rw[e] at c7;cases c7
def xr(K:W.Frag)(a:Adr):Sp:=fun vs H Q _=>∃p dx x y z u d,vs=[.ref p,x,y,z,u]/\H p=some (.ins a.C_World dx [])/\WU H x y z u d/\Good d/\∀H',Zq p H H'->ZW a.C_World H' p d->Q .non H'
theorem xz(T:Txt K mg a)(hw:w.params=a.Pm):Z2 P w K mg base CX0 6 a.World_init a.bV ["self", "signs", "ways", "starts", "fair"] (xr K a):=by
 have gW:=yo (P:=P) (w:=w) (base:=base) T hw;refine T.fC.ok xD (fun vs H Q E h=>?_) (fun lM A outer s H vs Q E hr h=>?_)
 ·obtain⟨p,dx,x,y,z,u,d,rfl,_⟩:=h;rfl
 ·obtain⟨p,dx,x,y,z,u,d,rfl,hp,pp,gd,k⟩:=h;refine⟨_,(@Za _ _ _ _ _ (@ZV _ _ _ _ _ _ _ _ (@Xy _ _ _ _ (WT (Zl gW (hr.mono (by decide)) rfl T.eZ T.df.kp T.eY .nil Zv (@ZI _ _ _ _ _ (pv 1) (@ZI _ _ _ _ _ (pv 2) (@ZI _ _ _ _ _ (pv 3) (@Yh _ _ _ (pv 4) (by rfl)) (by rfl)) (by rfl)) (by rfl))))) (@Zg _ _ _ j0) ZD) (@Za _ _ _ _ _ (U3 (pv 0) (Z3 (Yl (K:=K) rfl) rfl T.bf sD (@Zd _ _ _ (Yu (Nc:=["names"]) (ix:=[none]) (ZY.of (by decide +kernel:Z5 (Zc YD) ["self", "signs", "ways", "starts", "fair"] ["names"] [none] _=true)) rfl (Yk (K:=K) rfl (pv 1)) (fun _ _ _ _ _=>(ZA (i:=0) (show List.Nodup (["names"]:List Str) by decide +kernel) rfl (Or.inl rfl))) (fun _ _ _ _ _=>YN) (fun _ _ _ _ _=>(Z3 (Yl (K:=K) rfl) rfl T.bf sD (@Zd _ _ _ (Zn (V6 (K:=K) rfl) rfl T.fg sJ (@Zd _ _ _ (pv 0) (by rfl))) (by rfl))))) (by rfl))) rfl) (@Za _ _ _ _ _ (U3 (pv 0) (Z3 (Yl (K:=K) rfl) rfl T.bf sD (@Zd _ _ _ (Yu (Nc:=["rooms"]) (ix:=[none]) (ZY.of (by decide +kernel:Z5 (Zc YD) ["self", "signs", "ways", "starts", "fair"] ["rooms"] [none] _=true)) rfl (Yk (K:=K) rfl (pv 2)) (fun _ _ _ _ _=>(ZA (i:=0) (show List.Nodup (["rooms"]:List Str) by decide +kernel) rfl (Or.inl rfl))) (fun _ _ _ _ _=>YN) (fun _ _ _ _ _=>(Z3 (Yl (K:=K) rfl) rfl T.bf sD (@Zd _ _ _ (Zn (V6 (K:=K) rfl) rfl T.fg sJ (@Zd _ _ _ (pv 0) (by rfl))) (by rfl))))) (by rfl))) rfl) (@Za _ _ _ _ _ (U3 (pv 0) (Z3 (Yl (K:=K) rfl) rfl T.bf sD (@Zd _ _ _ (Zn (V6 (K:=K) rfl) rfl T.fg sJ (@Zd _ _ _ (pv 3) (by rfl))) (by rfl))) rfl) (@Zg _ _ _ (U3 (pv 0) (Z3 (Yl (K:=K) rfl) rfl T.bf sD (@Zd _ _ _ (pv 4) (by rfl))) rfl)))))),?_⟩;obtain⟨kx,ky,kz,ku⟩:=pp.kd gd;have hm:=pp.makes gd;refine⟨_,rfl,_,rfl,_,rfl,_,rfl,x,y,z,u,rfl,kx,ky,kz,ku,fun H1 s1=>⟨_,rfl,?_⟩⟩;rw[hm];refine Yd ?_;have p1:=pp.mono s1;have hp1:=s1 _ _ hp;have ph:=p1.hid hp1;have:=gd.n20;have:=gd.wl;obtain⟨b1,v1,e1,g1,l1,q1⟩:=p1.s;subst e1;refine⟨_,rfl,b1,rfl,⟨v1,SqL.of g1⟩,fun D hD=>?_⟩;refine Wv (K:=K) hD (SqL.of g1) (by rw[lV];omega) (fun i v G=>∀ss,d.signs[i]?=some ss->TS G v (Vc ss)) (fun i v _ _ sm q ss e=>TS.mono _ _ _ _ sm (q ss e)) ?_ ?_
  ·intro i w H2 N hx sm hN;have hi:i<d.signs.length:=by rw[<- l1];exact(mo.mp hx).1
   obtain⟨c,rfl,ec⟩:=q1 i w _ hx (lU hi);have hg:=gd.sn _ (mH hi);refine⟨_,rfl,.inl ⟨c,_,rfl,SqL.of (sm _ _ ec),by omega,fun l hl=>⟨l,_,rfl,.inl ⟨SqL.of Zb,fun t ht=>?_⟩⟩⟩⟩;refine hN _ _ ((Ze hl).trans (Ze ht)) fun ss hss=>⟨t,rfl,New.mk ((Ze hl).free ht) ?_⟩;rw[lU hi] at hss;cases hss;rw[Zb]
  intro H2 w1 hD2 s2 lw1 r1;refine⟨D,w1,rfl,.inl ⟨SqL.of hD2,fun t1 ht1=>?_⟩⟩;have st1:=Ze (o:=.tup w1) ht1;have hp2:=st1 _ _ (s2 _ _ hp1);refine⟨_,rfl,p,_,dx,[],rfl,hp2,T.aq,T.av,by decide,?_⟩;have x2:Zq p H1 (upd (upd H2 t1 (.tup w1)) p (.ins a.C_World dx (YA "room_signs" (.ref t1) []))):=(Zh.x (s2.trans st1)).upd;have np1:t1≠p:=fun z=>by subst z;rw[s2 _ _ hp1] at ht1;cases ht1
  have W1:LT TS (hide p (upd (upd H2 t1 (.tup w1)) p (.ins a.C_World dx (YA "room_signs" (.ref t1) [])))) (.ref t1) (d.signs.map Vc):=by
   refine vm (xs:=d.signs) (WH np1 (by rw[ZB np1,Zb])) (lw1.trans l1) fun i v hv ss hss=>?_;refine TS.mono _ _ _ _ ?_ (r1 i v hv ss hss);exact(New.hidden hp1).trans (Zq.hide ((Zh.x st1).upd))
  have hp3:(upd (upd H2 t1 (.tup w1)) p (.ins a.C_World dx (YA "room_signs" (.ref t1) []))) p=some (.ins a.C_World dx (YA "room_signs" (.ref t1) [])):=Zb;rw[put1] at x2 W1 hp3 ⊢;generalize upd (upd H2 t1 (.tup w1)) p (.ins a.C_World dx ([("room_signs",V.ref t1)]:List (Str×V)))=H3 at x2 W1 hp3 ⊢;have p3:=(ph.mono x2.hide).mono Vm;obtain⟨b2,v2,e2,g2,l2,q2⟩:=p3.w;subst e2;refine⟨_,rfl,b2,rfl,⟨v2,SqL.of g2⟩,fun D2 hDD=>?_⟩;refine Wv (K:=K) hDD (SqL.of g2) (by rw[lV];omega) (fun i v G=>∀ss,d.ways[i]?=some ss->TIn G v (YO ss)) (fun i v _ _ sm q ss e=>TIn.mono _ _ _ _ sm (q ss e)) ?_ ?_
  ·intro i w H4 N hx sm hN;have hi:i<d.ways.length:=by rw[<- l2];exact(mo.mp hx).1
   obtain⟨c,rfl,ec⟩:=q2 i w _ hx (lU hi);have hg:=gd.wn _ (mH hi);refine⟨_,rfl,.inr ⟨c,_,rfl,SqL.of (sm _ _ ec),by omega,fun l hl=>⟨l,_,rfl,.inl ⟨SqL.of Zb,fun t ht=>?_⟩⟩⟩⟩;refine hN _ _ ((Ze hl).trans (Ze ht)) fun ss hss=>⟨t,rfl,New.mk ((Ze hl).free ht) ?_⟩;rw[lU hi] at hss;cases hss;rw[Zb]
  intro H4 w2 hD4 s4 lw2 r2;refine⟨D2,w2,rfl,.inl ⟨SqL.of hD4,fun t2 ht2=>?_⟩⟩;have st2:=Ze (o:=.tup w2) ht2;have hp4:=st2 _ _ (s4 _ _ hp3);refine⟨_,rfl,p,_,dx,_,rfl,hp4,T.aq,T.br,by simp,?_⟩;have x4:Zq p H3 (upd (upd H4 t2 (.tup w2)) p (.ins a.C_World dx (YA "room_ways" (.ref t2) ([("room_signs",V.ref t1)]:List (Str×V))))):=(Zh.x (s4.trans st2)).upd;have np2:t2≠p:=fun z=>by subst z;rw[s4 _ _ hp3] at ht2;cases ht2
  have W2:LT TIn (hide p (upd (upd H4 t2 (.tup w2)) p (.ins a.C_World dx (YA "room_ways" (.ref t2) ([("room_signs",V.ref t1)]:List (Str×V)))))) (.ref t2) (d.ways.map YO):=by
   refine vm (xs:=d.ways) (WH np2 (by rw[ZB np2,Zb])) (lw2.trans l2) fun i v hv ss hss=>?_;refine TIn.mono _ _ _ _ ?_ (r2 i v hv ss hss);exact(New.hidden hp3).trans (Zq.hide ((Zh.x st2).upd))
  have hp5:(upd (upd H4 t2 (.tup w2)) p (.ins a.C_World dx (YA "room_ways" (.ref t2) ([("room_signs",V.ref t1)]:List (Str×V))))) p=some (.ins a.C_World dx (YA "room_ways" (.ref t2) ([("room_signs",V.ref t1)]:List (Str×V)))):=Zb;have W1:=LT.mono TS.mono _ _ _ _ x4.hide W1;rw[put2] at x4 W1 W2 hp5 ⊢;generalize upd (upd H4 t2 (.tup w2)) p (.ins a.C_World dx ([("room_signs",V.ref t1),("room_ways",V.ref t2)]:List (Str×V)))=H5 at x4 W1 W2 hp5 ⊢;have x5:=x2.trans x4;have p5:=(ph.mono x5.hide).mono Vm;obtain⟨b3,e3,g3⟩:=p5.st;subst e3;have hst:=gd.stn.2.2.2;refine⟨_,rfl,.inr ⟨b3,_,rfl,SqL.of g3,by omega,fun l hl=>⟨l,_,rfl,.inl ⟨SqL.of Zb,fun t3 ht3=>?_⟩⟩⟩⟩;have st3:=(Ze (o:=.lst ((YO d.starts).map V.int)) hl).trans (Ze (o:=.tup ((YO d.starts).map V.int)) ht3);have hp6:=st3 _ _ hp5;refine⟨_,rfl,p,_,dx,_,rfl,hp6,T.aq,T.bQ,by simp,?_⟩;have np3:t3≠p:=fun z=>by subst z;rw[Ze hl _ _ hp5] at ht3;cases ht3
  have x6:Zq p H5 (upd (upd (upd H5 l (.lst ((YO d.starts).map V.int))) t3 (.tup ((YO d.starts).map V.int))) p (.ins a.C_World dx (YA "start_rooms" (.ref t3) ([("room_signs",V.ref t1),("room_ways",V.ref t2)]:List (Str×V))))):=(Zh.x st3).upd;have hp7:(upd (upd (upd H5 l (.lst ((YO d.starts).map V.int))) t3 (.tup ((YO d.starts).map V.int))) p (.ins a.C_World dx (YA "start_rooms" (.ref t3) ([("room_signs",V.ref t1),("room_ways",V.ref t2)]:List (Str×V))))) p=some (.ins a.C_World dx (YA "start_rooms" (.ref t3) ([("room_signs",V.ref t1),("room_ways",V.ref t2)]:List (Str×V)))):=Zb;have W3:TIn (hide p (upd (upd (upd H5 l (.lst ((YO d.starts).map V.int))) t3 (.tup ((YO d.starts).map V.int))) p (.ins a.C_World dx (YA "start_rooms" (.ref t3) ([("room_signs",V.ref t1),("room_ways",V.ref t2)]:List (Str×V)))))) (.ref t3) (YO d.starts):=⟨t3,rfl,WH np3 (by rw[ZB np3,Zb])⟩;have W1:=LT.mono TS.mono _ _ _ _ x6.hide W1;have W2:=LT.mono TIn.mono _ _ _ _ x6.hide W2;rw[put3] at x6 W1 W2 W3 hp7 ⊢;generalize upd (upd (upd H5 l (.lst ((YO d.starts).map V.int))) t3 (.tup ((YO d.starts).map V.int))) p (.ins a.C_World dx ([("room_signs",V.ref t1),("room_ways",V.ref t2),("start_rooms",V.ref t3)]:List (Str×V)))=H7 at x6 W1 W2 W3 hp7 ⊢;have x7:=x5.trans x6;have p7:=(ph.mono x7.hide).mono Vm;obtain⟨b4,e4,g4⟩:=p7.f;subst e4;refine⟨_,rfl,b4,_,rfl,.inl ⟨SqL.of g4,fun t4 ht4=>?_⟩⟩;have st4:=Ze (o:=.tup (d.fair.map V.str)) ht4;have hp8:=st4 _ _ hp7;refine⟨_,rfl,p,_,dx,_,rfl,hp8,T.aq,T.ck,by simp,?_⟩;have np4:t4≠p:=fun z=>by subst z;rw[hp7] at ht4;cases ht4
  have x8:Zq p H7 (upd (upd H7 t4 (.tup (d.fair.map V.str))) p (.ins a.C_World dx (YA "fair_names" (.ref t4) ([("room_signs",V.ref t1),("room_ways",V.ref t2),("start_rooms",V.ref t3)]:List (Str×V))))):=(Zh.x st4).upd;refine k _ ((Zh.x s1).trans (x7.trans x8)) ⟨dx,.ref t1,.ref t2,.ref t3,.ref t4,by rw[Zb,put4],?_,?_,?_,?_⟩
  ·exact LT.mono TS.mono _ _ _ _ (x8.hide.trans Vm) W1
  ·exact LT.mono TIn.mono _ _ _ _ (x8.hide.trans Vm) W2
  ·exact TIn.mono _ _ _ _ (x8.hide.trans Vm) W3
  ·exact⟨t4,rfl,by rw[ZB np4,Zb]⟩
def xx(K:W.Frag)(a:Adr):Sp:=fun vs H Q _=>∃p d,vs=[.ref p]/\ZW a.C_World H p d/\Q (.int d.signs.length) H
theorem Vz(T:Txt K mg a)(hw:w.params=a.Pm):Z2 P w K mg base CX0 1 a.World_many a.bW ["self"] (xx K a):=by
 refine T.fE.ok xN (fun vs H Q E h=>?_) (fun lM A outer s H vs Q E hr h=>?_)
 ·obtain⟨p,d,rfl,_⟩:=h;rfl
 ·obtain⟨p,d,rfl,hw,k⟩:=h;refine⟨_,(@Zg _ _ _ (@Zm _ _ _ _ (Zn (Zy (K:=K) rfl) rfl T.aB sA (@Zd _ _ _ (XZ (K:=K) rfl (pv 0) rfl) (by rfl))))),?_⟩;obtain⟨dx,t1,t2,t3,t4,e,⟨b,vs,rfl,g,l,q⟩,_⟩:=hw.ex;refine⟨_,rfl,p,_,dx,_,_,rfl,e,T.aq,T.av,kj _ _ _ _,.inl ⟨b,vs,rfl,.inr (SqT.of g),?_⟩⟩;rw[l,lQ];exact k
def qB(K:W.Frag)(a:Adr):Sp:=fun vs H Q _=>∃p d i ss,vs=[.ref p,.int (i:Nat)]/\ZW a.C_World H p d/\d.signs[i]?=some ss/\∀l,H l=none->Q (.ref l) (upd H l (.lst ((Vc ss).map V.str)))
theorem U8(T:Txt K mg a)(hw:w.params=a.Pm):Z2 P w K mg base CX0 1 a.World_signs_of a.aN ["self", "room"] (qB K a):=by
 refine T.dm.ok qa (fun vs H Q E h=>?_) (fun lM A outer s H vs Q E hr h=>?_)
 ·obtain⟨p,d,i,ss,rfl,_⟩:=h;rfl
 ·obtain⟨p,d,i,ss,rfl,hw,hs,k⟩:=h;refine⟨_,(@Zg _ _ _ (@Zm _ _ _ _ (Z3 (UZ (K:=K) rfl rfl) rfl T.fe sw (@Zd _ _ _ (@Zz _ _ _ _ _ _ _ (ZR (K:=K) rfl) (XZ (K:=K) rfl (pv 0) rfl) (pv 1) (fun _ _=>rfl)) (by rfl))))),?_⟩;obtain⟨dx,t1,t2,t3,t4,e,⟨b,vs,rfl,g,l,q⟩,_⟩:=hw.ex;have hi:i<vs.length:=by
   rw[l,lQ];exact(mo.mp hs).1
  obtain⟨c,ec,gc⟩:=q i _ (Vc ss) (lU hi) (by rw[mh,hs];rfl);refine⟨_,rfl,p,_,dx,_,_,rfl,e,T.aq,T.av,kj _ _ _ _,_,rfl,b,vs,_,_,rfl,rfl,SqT.of g,Zi (lU hi),?_⟩;rw[ec];exact .inl ⟨c,_,rfl,.inr (SqT.of gc),k⟩
def zb(K:W.Frag)(a:Adr):Sp:=fun vs H Q _=>∃p d i ss,vs=[.ref p,.int (i:Nat)]/\ZW a.C_World H p d/\d.ways[i]?=some ss/\∀l,H l=none->Q (.ref l) (upd H l (.lst ((YO ss).map V.int)))
theorem zc(T:Txt K mg a)(hw:w.params=a.Pm):Z2 P w K mg base CX0 1 a.World_ways_on a.aW ["self", "room"] (zb K a):=by
 refine T.dz.ok zi (fun vs H Q E h=>?_) (fun lM A outer s H vs Q E hr h=>?_)
 ·obtain⟨p,d,i,ss,rfl,_⟩:=h;rfl
 ·obtain⟨p,d,i,ss,rfl,hw,hs,k⟩:=h;refine⟨_,(@Zg _ _ _ (@Zm _ _ _ _ (Z3 (UZ (K:=K) rfl rfl) rfl T.fe sw (@Zd _ _ _ (@Zz _ _ _ _ _ _ _ (ZR (K:=K) rfl) (XZ (K:=K) rfl (pv 0) rfl) (pv 1) (fun _ _=>rfl)) (by rfl))))),?_⟩;obtain⟨dx,t1,t2,t3,t4,e,_,⟨b,vs,rfl,g,l,q⟩,_⟩:=hw.ex;have hi:i<vs.length:=by
   rw[l,lQ];exact(mo.mp hs).1
  obtain⟨c,ec,gc⟩:=q i _ (YO ss) (lU hi) (by rw[mh,hs];rfl);refine⟨_,rfl,p,_,dx,_,_,rfl,e,T.aq,T.br,lk_ways _ _ _ _,_,rfl,b,vs,_,_,rfl,rfl,SqT.of g,Zi (lU hi),?_⟩;rw[ec];exact .inl ⟨c,_,rfl,.inr (SqT.of gc),k⟩
end KK
namespace L3
open PySem PySem.Spec PyProof.Rows L2
theorem jw{α:Type}{xs:List α}{p:Nat}(p1:1<=p)(hp:p<=xs.length):atI xs (-(p:Int))=some (xs[xs.length-p]'(by omega)):=by
 unfold atI ixN;rw[if_neg (by omega),if_pos (by omega)]
 show xs[_]?=_
 have e:(-(p:Int)+(xs.length:Nat)).toNat=xs.length-p:=by omega
 rw[e];exact lU (by omega)
theorem cutV_neg(xs:List V){p:Nat}(p1:1<=p)(hp:p<=xs.length):W0 xs (some (-(p:Int))) none=xs.drop (xs.length-p):=by
 unfold W0;have e:HT.sIx xs.length 0 (some (-(p:Int)))=xs.length-p:=by
  show(if(-(p:Int))<0 then(-(p:Int)+(xs.length:Nat)).toNat else min (-(p:Int)).toNat xs.length)=_
  rw[if_pos (by omega)];omega
 rw[e,HT.sIx_none];exact p6 (by rw[mL];omega)
def Xk(way ring:List Int)(k:Nat):Int:=if k<way.length then way.getD k 0 else ring.getD ((k-way.length)%ring.length) 0
theorem runW_at{way ring:List Int}{k:Nat}(h:k<(way++ring).length):(way++ring)[k]=Xk way ring k:=by
 rw[lW] at h;unfold Xk
 by_cases c:k<way.length
 ·rw[if_pos c,List.getElem_append_left c,nB,lU c];rfl
 ·rw[if_neg c,List.getElem_append_right (by omega),Nat.mod_eq_of_lt (by omega),nB,lU (by omega)];rfl
theorem qP{way ring:List Int}(hr:ring≠[]){k:Nat}(h:(way++ring).length<=k):Xk way ring k=Xk way ring (k-ring.length):=by
 rw[lW] at h;have l0:0<ring.length:=pB fun e=>hr (o6 e);unfold Xk;rw[if_neg (by omega),if_neg (by omega)]
 congr 1
 have e:k-way.length=(k-ring.length-way.length)+ring.length:=by omega
 rw[e,Nat.add_mod_right]
def qO(t:Tr):Bool:=match t.lb with
 |.yes=>true
 |.sign _=>true
 |.op w=>decide (w = "some")
 |_=>false
noncomputable def Wu(d:WD)(st:Tr->List Int)(t:Tr)(r:Int):Bool:=match t.lb with
 |.yes=>true
 |.sign z=>decide (z∈signsI d r)
 |_=>decide (r∈st t)
noncomputable def UQ(at_:Nat->Bool)(c:Lb)(gs:List (Nat->Bool)):Nat->Bool:=
 let g:=gs.getD 0 (fun _=>false)
 let h:=gs.getD 1 (fun _=>false)
 match c with
 |.yes=>at_
 |.sign _=>at_
 |.op w=>if w = "some" then at_ else if w = "not" then(fun k=>!g k) else if w = "next" then(fun k=>g (k+1)) else if w = "before" then befB g else if w = "until" then WS g h else WM g h
 |_=>fun k=>g k&&h k
noncomputable def semP(d:WD)(st:Tr->List Int)(rm:Nat->Int)(c:Lb)(ps:List (Tr×(Nat->Bool))):Tr×(Nat->Bool):=(.node c (ps.map Prod.fst),UQ (fun k=>Wu d st (.node c (ps.map Prod.fst)) (rm k)) c (ps.map Prod.snd))
noncomputable def Xq(d:WD)(st:Tr->List Int)(rm:Nat->Int)(t:Tr):Nat->Bool:=(YS (semP d st rm) t).2
theorem kR(d:WD)(st:Tr->List Int)(rm:Nat->Int):∀(n:Nat) (t:Tr),psz t<=n->(YS (semP d st rm) t).1=t
 |0,t,h=>by have:=WI t;omega
 |n+1,t,h=>by
  rw[W5]
  show Tr.node t.lb _=t
  have e:(t.ks.map (YS (semP d st rm))).map Prod.fst=t.ks:=by
   rw[nu];have:t.ks.map (Prod.fst∘YS (semP d st rm))=t.ks.map id:=pK fun k hk=>kR d st rm n k (by have:=XT hk;omega);rw[this,List.map_id]
  rw[e];exact(Tr.eta t).symm
theorem VU(d:WD)(st:Tr->List Int)(rm:Nat->Int)(t:Tr):Xq d st rm t=UQ (fun k=>Wu d st t (rm k)) t.lb (t.ks.map (Xq d st rm)):=by
 unfold Xq;rw[W5]
 show UQ (fun k=>Wu d st (.node t.lb ((t.ks.map (YS (semP d st rm))).map Prod.fst)) (rm k)) t.lb ((t.ks.map (YS (semP d st rm))).map Prod.snd)=_
 have e:(t.ks.map (YS (semP d st rm))).map Prod.fst=t.ks:=by
  rw[nu];have:t.ks.map (Prod.fst∘YS (semP d st rm))=t.ks.map id:=pK fun k hk=>kR d st rm _ k (lS _);rw[this,List.map_id]
 rw[e,<- Tr.eta t,nu];rfl
theorem jC{d:WD}{st:Tr->List Int}{rm:Nat->Int}{t:Tr}(h:qO t=true):Xq d st rm t=fun k=>Wu d st t (rm k):=by
 rw[VU];unfold qO at h;cases e:t.lb with
 |yes=>rfl
 |sign z=>rfl
 |op w=>
  rw[e] at h;unfold UQ;exact if_pos (mO h)
 |wit m=>rw[e] at h;cases h
 |many w=>rw[e] at h;cases h
theorem one_kid{ks:List Tr}(h:ks.length=1):∃a,ks=[a]:=by
 cases ks with
 |nil=>cases h
 |cons a r=>cases r with
  |nil=>exact⟨a,rfl⟩
  |cons b s=>simp at h
theorem kW{ks:List Tr}(h:ks.length=2):∃a b,ks=[a,b]:=by
 cases ks with
 |nil=>cases h
 |cons a r=>cases r with
  |nil=>simp at h
  |cons b s=>cases s with
   |nil=>exact⟨a,b,rfl⟩
   |cons c u=>simp at h
theorem w6_one:∀w∈W6,w ≠ "some" -> w∈W1->w = "not" \/ w = "next" \/ w = "before" := by decide +kernel
theorem w6_two:∀w∈W6,w ≠ "some" -> w∈W2->w = "until" \/ w = "since" := by decide +kernel
theorem Vf{t:Tr}(hc:isC t=true)(ok:XV t.lb t.ks.length)(h:qO t=false) :
  (∃w a,t=.node (.op w) [a]/\(w = "not" \/ w = "next" \/ w = "before"))\/(∃w a b,t=.node (.op w) [a,b]/\(w = "until" \/ w = "since"))\/∃a b,t=.node (.many "and") [a,b]:=by
 obtain⟨c,ks⟩:=t;rw[XX] at hc;unfold UX at hc;rw[mR] at hc;obtain⟨_,hc⟩:=hc;unfold qO at h;cases c with
 |yes=>cases h
 |sign z=>cases h
 |op w=>
  have w6:=mO hc;have ns:w ≠ "some" := pW h;rcases ok with⟨ok,l⟩|⟨ok,l⟩
  ·obtain⟨a,rfl⟩:=one_kid l;exact .inl ⟨w,a,rfl,w6_one w w6 ns ok⟩
  ·obtain⟨a,b,rfl⟩:=kW l;exact .inr (.inl ⟨w,a,b,rfl,w6_two w w6 ns ok⟩)
 |wit m=>cases hc
 |many w=>
  change (decide (w = "and")&&decide ((ks.map isC).length=2))=true at hc
  rw[mR] at hc;have e1:=mO hc.1;have e2:=mO hc.2;rw[lQ] at e2;obtain⟨a,b,rfl⟩:=kW e2;subst e1;exact .inr (.inr ⟨a,b,rfl⟩)
theorem Ul(at_:Nat->Bool)(w:Str)(gs:List (Nat->Bool)):UQ at_ (.op w) gs=if w = "some" then at_ else if w = "not" then(fun k=>!gs.getD 0 (fun _=>false) k) else if w = "next" then(fun k=>gs.getD 0 (fun _=>false) (k+1)) else if w = "before" then befB (gs.getD 0 fun _=>false) else if w = "until" then WS (gs.getD 0 fun _=>false) (gs.getD 1 fun _=>false) else WM (gs.getD 0 fun _=>false) (gs.getD 1 fun _=>false):=rfl
section
variable{d:WD}{st:Tr->List Int}{rm:Nat->Int}
theorem vK(a:Tr):Xq d st rm (.node (.op "not") [a])=fun k=>!Xq d st rm a k:=by
 rw[VU]
 show UQ _ (.op _) _=_
 rw[Ul];rw[if_neg (by decide +kernel),if_pos rfl];rfl
theorem ya(a:Tr):Xq d st rm (.node (.op "next") [a])=fun k=>Xq d st rm a (k+1):=by
 rw[VU]
 show UQ _ (.op _) _=_
 rw[Ul];rw[if_neg (by decide +kernel),if_neg (by decide +kernel),if_pos rfl];rfl
theorem J1(a:Tr):Xq d st rm (.node (.op "before") [a])=befB (Xq d st rm a):=by
 rw[VU]
 show UQ _ (.op _) _=_
 rw[Ul];rw[if_neg (by decide +kernel),if_neg (by decide +kernel),if_neg (by decide +kernel),if_pos rfl];rfl
theorem qR(a b:Tr):Xq d st rm (.node (.op "until") [a,b])=WS (Xq d st rm a) (Xq d st rm b):=by
 rw[VU]
 show UQ _ (.op _) _=_
 rw[Ul];rw[if_neg (by decide +kernel),if_neg (by decide +kernel),if_neg (by decide +kernel),if_neg (by decide +kernel),if_pos rfl];rfl
theorem sem_since(a b:Tr):Xq d st rm (.node (.op "since") [a,b])=WM (Xq d st rm a) (Xq d st rm b):=by
 rw[VU]
 show UQ _ (.op _) _=_
 rw[Ul];rw[if_neg (by decide +kernel),if_neg (by decide +kernel),if_neg (by decide +kernel),if_neg (by decide +kernel),if_neg (by decide +kernel)];rfl
theorem ja(a b:Tr):Xq d st rm (.node (.many "and") [a,b])=fun k=>Xq d st rm a k&&Xq d st rm b k:=by
 rw[VU];rfl
theorem Js{t:Tr}{way ring:List Int}(h:qO t=true)(hr:ring≠[]):ZM ring.length ((way++ring).map (Wu d st t)) (Xq d st (Xk way ring) t):=by
 have l0:0<ring.length:=pB fun e=>hr (o6 e);rw[jC h];refine .of l0 (lQ _) (by rw[lW];omega) (fun k hk=>?_) (fun k hk=>by rw[qP hr hk]);rw[mh,lU hk,runW_at hk];rfl
end
theorem zZ{α:Type}{K:W.Frag}{a D:Addr}{te:TE}{τ:St}{H0:Hp}{Q:VK}(l:List α)(φ:α->V)(f:α->V)(hD:H0 D=none)(hq:SqT K H0 a (l.map φ))(hz:l.length<=sizeLine)
  (step:∀x∈l,∀H (N:V->Hp->Prop),Zh H0 H->(∀H4,Zh H H4->N (f x) H4)->te (some (φ x)::τ) H N)
  (fin:∀H',H' D=some (.lst (l.map f))->Zh H0 H'->Q (.ref D) H'):qJ (Itt K a) D (Vy 0) vj te (none::τ) H0 Q:=by
 refine ym l φ (fun _=>true) f hD hz (fun i H hi s=>⟨_,φ l[i],Zh.seqT s hq,by rw[mh,lU hi];rfl⟩) (fun H s=>⟨_,Zh.seqT s hq,by rw[lQ];exact lS _⟩) (fun i x H H2 hi s hyl=>?_) (fun x hx H N N0 s h1 _=>Ui (step x hx H N s fun H4 s4=>h1 H4 s4 rfl)) (fun H' h s=>fin H' (by rw[h,List.filter_eq_self.mpr (fun _ _=>rfl)]) s);obtain⟨rfl,hx⟩:=hyl;have e:=hx _ (Zh.seqT s hq);rw[mh,lU hi] at e;exact⟨rfl,(mv e).symm⟩
def Ord(F:List Tr):Prop:=∀(j:Nat) t,F[j]?=some t->∀k∈YQ t,∃i:Nat,i<j/\F[i]?=some k
theorem Ord.add{F:List Tr}{t:Tr}(h:Ord F)(hk:∀k∈YQ t,k∈F):Ord (Ud F t):=by
 by_cases c:t∈F
 ·rw[zQ c];exact h
 ·rw[qg c];intro j u e k hu
  by_cases cj:j<F.length
  ·rw[mQ cj] at e;obtain⟨i,hi,ei⟩:=h j u e k hu;exact⟨i,hi,by rw[mQ (by omega)];exact ei⟩
  ·have hj:=(mo.mp e).1;rw[lW,ng] at hj;rw[mW (by omega),show j-F.length=0 by omega] at e;cases e;obtain⟨i,hi,ei⟩:=m7 (hk k hu);exact⟨i,by omega,by rw[mQ hi,lU hi,ei]⟩
def PB(F:List Tr):List Tr->Prop
 |[]=>True
 |t::r=>(∀k∈YQ t,k∈F)/\PB (F++[t]) r
theorem PB.more{F G:List Tr}(s:∀x∈F,x∈G):∀{L:List Tr},PB F L->PB G L
 |[],_=>trivial
 |t::r,h=>⟨fun k hk=>s k (h.1 k hk),PB.more (F:=F++[t]) (G:=G++[t]) (fun x hx=>by
   rcases ml.mp hx with q|q
   ·exact ml.mpr (.inl (s x q))
   ·exact ml.mpr (.inr q)) h.2⟩
theorem PB.app:∀{L M F:List Tr},PB F L->PB (F++L) M->PB F (L++M)
 |[],M,F,_,h=>by rw[nW] at h;exact h
 |t::r,M,F,h,g=>⟨h.1,PB.app h.2 (by rw[nY];exact g)⟩
theorem PB.flat:∀{Ls:List (List Tr)}{F:List Tr},(∀L∈Ls,PB [] L)->PB F Ls.flatten
 |[],F,_=>trivial
 |L::r,F,h=>by
  rw[oV];exact PB.app ((h L oO).more fun x hx=>by cases hx) (PB.flat fun M hM=>h M (mi _ hM))
theorem jV:∀(n:Nat) (t:Tr),psz t<=n->PB [] (ZE t)
 |0,t,h=>by have:=WI t;omega
 |n+1,t,h=>by
  rw[WR];refine PB.app (PB.flat fun L hL=>?_) ⟨fun k hk=>?_,trivial⟩
  ·obtain⟨k,hk,rfl⟩:=mE.mp hL;exact jV n k (by have:=XT (Xw hk);omega)
  ·rw[nM];exact py.mpr ⟨ZE k,mE.mpr ⟨k,hk,rfl⟩,JO k⟩
theorem ord_all:∀{L F A:List Tr},PB F L->(∀x∈F,x∈A)->Ord A->Ord (Zw A L)
 |[],F,A,_,_,o=>o
 |t::r,F,A,h,s,o=>by
  rw[WN];refine ord_all h.2 (fun x hx=>?_) (o.add fun k hk=>s k (h.1 k hk));rcases ml.mp hx with q|q
  ·exact yf.mpr (.inl (s x q))
  ·exact yf.mpr (.inr (mr.mp q))
theorem ord_post(t:Tr):Ord (Zw [] (ZE t)):=ord_all (jV _ t (lS _)) (fun x hx=>by cases hx) fun j u h=>by simp at h
theorem post_last(t:Tr):∃ts,Zw [] (ZE t)=ts++[t]:=by
 have e:ZE t=((YQ t).map ZE).flatten++[t]:=WR t;rw[e,XN]
 show ∃ts,Ud (Zw [] ((YQ t).map ZE).flatten) t=ts++[t]
 refine⟨_,qg fun m=>?_⟩;rcases Z7.mp m with q|q
 ·cases q
 ·obtain⟨L,hL,hq⟩:=py.mp q;obtain⟨k,hk,rfl⟩:=mE.mp hL;have h1:=zd _ (lS _) hq;have h2:=XT (Xw hk);omega
def Vp:Value->Int
 |.int x _=>x
 |_=>0
def SetZ(prog:Program)(w:World)(B:Bool)(h:Heap)(a:Addr)(ss:List Int):Prop:=
 ∃o es ep t,h.get? a=some o/\o.ExactSet/\o.data=.set es ep t/\t.fits es.size=true/\ElemsOf (ZC prog w) es.toList/\(B=false->t.led=true) /\
  (∀e∈es.toList,∃x k,e.2=.int x k)/\(es.toList.map fun e=>Vp e.2).Nodup/\(∀x,x∈(es.toList.map fun e=>Vp e.2)↔x∈ss)/\es.size<=ss.length
theorem SetZ.keep{prog:Program}{w:World}{B:Bool}{h h':Heap}{a:Addr}{ss:List Int}(x:SetZ prog w B h a ss)(k:∀o,h.get? a=some o->h'.get? a=some o):SetZ prog w B h' a ss:=by
 obtain⟨o,es,ep,t,ho,r⟩:=x;exact⟨o,es,ep,t,k o ho,r⟩
section
variable{prog:Program}{w:World}{A:Around}{E:Value->Shared->Prop}{s:Shared}
theorem add_int{B:Bool}{a:Addr}{ss:List Int}{x:Int}{tk:Tok}{Q:Bool->Shared->Prop}(hS:SetZ prog w B s.heap a ss)(hroom:ss.length+1<scanBound)
  (h:∀h' b,Heap.SameBut a s.heap h'->SetZ prog w B h' a (ss++[x])->Q b { s with heap:=h' }) :
  wpAny (model prog w) A (setAddHashed a (.int x tk) ((ZC prog w).hash (.inl x))) Q E s:=by
 have hkey:(ZC prog w).is (.inl x) (.int x tk)=true:=VJ x tk;have hsc:(Value.int x tk).scannable=true:=rfl;obtain⟨o,es,ep,t,ho,hex,hd,hf,hel,hL,hst,hnd,hin,hle⟩:=hS;have hb:es.size<scanBound:=by omega
 have isx:∀e∈es.toList,((ZC prog w).is (.inl x) e.2=true↔Vp e.2=x):=fun e m=>by
  obtain⟨y,k,ey⟩:=hst e m;rw[ey];constructor
  ·intro q;have q2:Ut (.inl x) (.int y k)=true:=q;rcases Yv q2 with⟨i,t',e1,e2⟩|⟨z,t',e1,e2⟩
   ·cases e1;cases e2;rfl
   ·cases e1
  ·intro q;have q':y=x:=q;subst q';exact VJ y k
 unfold setAddHashed setAddHashedIn;refine nj (lO (nQ ho hd hf ?_));dsimp only;rw[byScan_of hsc hb hel];simp only[↓reduceIte];unfold setAddByScan;refine lO ?_;refine lO (oE ?_);refine lO (wpAny_setScan_of hkey ho hd hf hel ?_);cases hr:List.findIdx? (fun e=>(ZC prog w).is (.inl x) e.2) es.toList with
 |some j=>
  dsimp only;obtain⟨hj,hpj,_⟩:=List.findIdx?_eq_some_iff_getElem.mp hr;refine lT (lT ?_);have e:s={ s with heap:=s.heap }:=by cases s;rfl
  rw[e];have hm:x∈ss:=(hin x).mp (mE.mpr ⟨es.toList[j],mH hj,(isx _ (mH hj)).mp hpj⟩);refine h s.heap false (Heap.SameBut.refl a s.heap) ⟨o,es,ep,t,ho,hex,hd,hf,hel,hL,hst,hnd,fun y=>?_,by rw[lW];omega⟩;rw[hin y,ml,mr];exact⟨.inl,fun q=>q.elim id fun q=>q▸hm⟩
 |none=>
  dsimp only;have hnone:∀e∈es.toList,Vp e.2≠x:=fun e m q=>by
   have:=List.findIdx?_eq_none_iff.mp hr e m;rw[(isx e m).mpr q] at this;cases this
  have hgw:∀(b:Bool) {s₁:Shared}{Q':Unit->Shared->Prop},Q' () s₁->wpAny (model prog w) A (match b with|true=>rule "set.scan.the-table-gave-way" |false=>pure ()) Q' E s₁:=
   fun b s₁ Q' hq=>by cases b<;>first|exact lT hq|exact oE hq
  have hperm:=layNew_perm t es ((ZC prog w).hash (.inl x)) (.int x tk);have hfits:=layNew_fits t es ((ZC prog w).hash (.inl x)) (.int x tk);have hled:=Jn t es ((ZC prog w).hash (.inl x)) (.int x tk);generalize hLn:layNew t es ((ZC prog w).hash (.inl x)) (.int x tk)=L at hperm hfits hled ⊢;obtain⟨es1,t1,wasDummy,gave⟩:=L;dsimp only at hperm hfits hled ⊢;rw[rT] at hperm;have hel1:ElemsOf (ZC prog w) es1.toList:=(hel.push hkey hsc).perm hperm;have hsz1:es1.size=es.size+1:=by rw[<- nC,hperm.length_eq,lW,nC];rfl
  have good:∀(es2:Array (Int×Value)),es2.toList.Perm es1.toList->(∀e∈es2.toList,∃x k,e.2=.int x k)/\(es2.toList.map fun e=>Vp e.2).Nodup/\(∀y,y∈(es2.toList.map fun e=>Vp e.2)↔y∈ss++[x]):=fun es2 hp=>by
   have hp2:=hp.trans hperm;have hm:=hp2.map fun e=>Vp e.2;rw[mB] at hm;refine⟨fun e m=>?_,hm.nodup_iff.mpr (pJ.mpr ⟨hnd,by simp,fun u hu v hv=>?_⟩),fun y=>?_⟩
   ·rcases ml.mp (hp2.mem_iff.mp m) with m|m
    ·exact hst e m
    ·rw[mr] at m;subst m;exact⟨x,tk,rfl⟩
   ·obtain⟨e,m,rfl⟩:=mE.mp hu;have:v=x:=by simpa[Vp] using hv
    rw[this];exact hnone e m
   ·rw[hm.mem_iff,ml,ml,hin y];simp[Vp]
  refine lO (hgw _ ?_);have X5:∀t2:SetTable,t2.fits es1.size=true->t2.led=t.led->wpAny (model prog w) A (do
    storeSet a es1 t2
    if(!wasDummy&&t2.tooFull)=true then do
      (match (relayAll t2 es1 (SetTable.grown es1.size)).2.2 with|true=>rule "set.scan.the-table-gave-way" |false=>pure ())
      storeSet a (relayAll t2 es1 (SetTable.grown es1.size)).1 (relayAll t2 es1 (SetTable.grown es1.size)).2.1
      pure (some true)
     else pure (some true)) (fun a_1 s'=>wpAny (model prog w) A (match a_1 with|some added=>pure added|none=>setAddHashedIn a (.int x tk) ((ZC prog w).hash (.inl x)) 99999) Q E s') E s:=by
   intro t2 f2 l2;refine lO (wpAny_storeSet_of ho hd ?_ (by rw[lV];have:scanBound=4096:=rfl;omega));have hg:=vp (es':=es1) (t':=t2) ho hd;have sb:=Heap.SameBut.update s.heap a (Obj.putSet es1 t2)
   split
   ·have hp:=relayAll_perm t2 es1 (SetTable.grown es1.size);have hfr:=relayAll_fits t2 es1 (SetTable.grown es1.size);have hlr:=vL t2 es1 (SetTable.grown es1.size);generalize hRl:relayAll t2 es1 (SetTable.grown es1.size)=Rl at hp hfr hlr ⊢;obtain⟨es2,t3,gave2⟩:=Rl;dsimp only at hp hfr hlr ⊢;have hsz:es2.size=es1.size:=by rw[<- nC,hp.length_eq,nC]
    refine lO (hgw _ ?_);refine lO (wpAny_storeSet_of hg rfl ?_ (by rw[lV];have:scanBound=4096:=rfl;omega));have hg':=vp (es':=es2) (t':=t3) hg rfl;obtain⟨g1,g2,g3⟩:=good es2 hp;exact lT (lT (h _ true (sb.trans (Heap.SameBut.update _ a _)) ⟨_,es2,_,t3,hg',hex,rfl,hfr,hel1.perm hp,(fun z=>by rw[hlr,l2];exact hL z),g1,g2,g3,by rw[hsz,hsz1,lW];simp;omega⟩))
   ·obtain⟨g1,g2,g3⟩:=good es1 (.refl _);exact lT (lT (h _ true sb ⟨_,es1,_,t2,hg,hex,rfl,f2,hel1,(fun z=>by rw[l2];exact hL z),g1,g2,g3,by rw[hsz1,lW];simp;omega⟩))
  split
  ·refine lO ?_;rw[hashByValue_scannable 8 hsc];refine lT ?_
   split
   ·exact X5 t1 hfits hled
   ·exact X5 _ (SetTable.fits_plain_off hfits) hled
  ·refine lO (lT ?_);simp only[↓reduceIte];exact X5 t1 hfits hled
theorem call_setJ{l:Addr}{ss:List Int}{items:List Value}{Q:Value->Shared->Prop}(hh:A.handled=none)(hl:s.heap.IsList l items.toArray)(hv:ZH (ss.map V.int) items)(hb:ss.length<1000)
  (h:∀(h':Heap) (tk:Nat),SetZ prog w (w.params.followText "set-order") h' s.heap.objs.size ss->(∀b o,s.heap.get? b=some o->h'.get? b=some o)->Q (.ref s.heap.objs.size) { s with heap:=h',toks:=tk }) :
  wpAny (model prog w) A (call (.type "set") [.ref l]) Q E s:=by
 have len:items.length=ss.length:=by rw[<- hv.length,lQ]
 have hmap:items.map Vp=ss:=by
  clear h hb len hl
  induction ss generalizing items with
  |nil=>cases hv;rfl
  |cons y r ih=>
   cases hv with
   |cons h1 h2=>
    obtain⟨t,rfl⟩:=h1;rw[lX,ih h2];rfl
 have hstr:∀v∈items,∃x k,v=.int x k:=by
  clear h hb len hl hmap
  induction ss generalizing items with
  |nil=>cases hv;intro v h;cases h
  |cons y r ih=>
   cases hv with
   |cons h1 h2=>
    obtain⟨t,rfl⟩:=h1;intro v hm;rcases mw.mp hm with rfl|hm
    ·exact⟨_,_,rfl⟩
    ·exact ih h2 v hm
 refine call_setG (SI:=fun h vs=>SetZ prog w (w.params.followText "set-order") h s.heap.objs.size (vs.map Vp)) hh hl (fun x k=>x.keep k) ?_ ?_ fun h' tk a b=>h h' tk (by rw[hmap] at a;exact a) b
 ·exact⟨_,#[],0,_,mD _ rfl,⟨rfl,rfl,rfl⟩,rfl,by rfl,(fun e he=>by simp at he),(fun z=>by show(!_)=true;rw[z];rfl),(fun e he=>by simp at he),by simp,fun x=>by simp,mN _⟩
 ·intro A' s' i v hA hvi hg hS E Q hQ;obtain⟨x,k,rfl⟩:=hstr v (mM hvi);unfold setAdd;refine nj (lO ((ZC prog w).pyHash (k:=.inl x) (VJ x k) ?_));refine add_int (s:={ s' with toks:=s'.toks+1 }) (ss:=(items.take i).map Vp) hS (by rw[lQ,mf];have:scanBound=4096:=rfl;omega) fun h' b sb hS'=>hQ h' _ b sb ?_;rw[mB];exact hS'
end
end L3
namespace L3
open PySem PySem.Spec PyProof.Rows
section
variable{prog:Program}{w:World}{A:Around}{E:Value->Shared->Prop}{s:Shared}
theorem told_once{B:Bool}{pk:Nat->Nat}{es:Array (Int×Value)}{place:Array Nat}{seq:List Value}{sls:Nat->Nat}
  (b1:∀(i:Nat) x,seq[i]?=some x->WO B (pickOrder pk es) es place (sls i) (0+i)=some (x,sls (i+1))) :
  ∀f:Value->Int,(es.toList.map fun e=>f e.2).Nodup->(seq.map f).Nodup:=by
 intro f hn;cases B with
 |true=>
  have hp:((pickOrder pk es).toList.map fun e=>f e.2).Nodup:=((pick_perm (next:=pk) es).map _).nodup_iff.mpr hn;unfold List.Nodup;rw[pR];intro i j hi hj hij;rw[lQ] at hi hj;have hx:∀(i:Nat) (h:i<seq.length),((pickOrder pk es).toList.map fun e=>f e.2)[i]?=some (f seq[i]):=fun i h=>by
   have:=b1 i seq[i] (lU h);unfold WO at this;simp only[m9] at this;obtain⟨e,e1,e2⟩:=om.mp this;rw[oK] at e1;rw[mh,oW,e1];have:e.2=seq[i]:=my Prod.fst e2;rw[<- this];rfl
  rw[oq,oq];intro e;have h1:=hx i hi;have h2:=hx j hj;rw[<- e] at h2;obtain⟨l1,g1⟩:=mo.mp h1;obtain⟨l2,g2⟩:=mo.mp h2;have:=(o8 hp).mp (g1.trans g2.symm);omega
 |false=>
  have st:∀(i:Nat) (h:i<seq.length),∃k p:Nat,(∃e,es[k]?=some e/\e.2=seq[i])/\place[k]?=some p/\sls i<=p/\sls (i+1)=p+1:=fun i h=>by
   have:=b1 i seq[i] (lU h);unfold WO at this;simp only[mT,mK] at this
   split at this
   ·rename_i u x j h1 h2
    have g:=mv this;have gx:x=seq[i]:=my Prod.fst g;have gs:j+1=sls (i+1):=my Prod.snd g;exact⟨_,j,⟨_,h1,gx⟩,h2,kF rfl h2,gs.symm⟩
   ·cases this
  have up:∀(d i:Nat),i+d<=seq.length->sls i<=sls (i+d):=fun d=>by
   induction d with
   |zero=>exact fun i _=>lS _
   |succ d ih=>
    intro i h;obtain⟨k,p,_,_,h3,h4⟩:=st (i+d) (by omega);have:=ih i (by omega);have e:i+(d+1)=i+d+1:=by omega
    rw[e,h4];omega
  unfold List.Nodup;rw[pR];intro i j hi hj hij;rw[lQ] at hi hj;rw[oq,oq];obtain⟨k1,p1,⟨e1,a1,c1⟩,a2,a3,a4⟩:=st i hi;obtain⟨k2,p2,⟨e2,d1,c2⟩,d2,d3,d4⟩:=st j hj;have hu:=up (j-(i+1)) (i+1) (by omega);have ej:i+1+(j-(i+1))=j:=by omega
  rw[ej,a4] at hu;intro e;have hk:k1≠k2:=fun z=>by rw[z,d2] at a2;cases a2;omega
  have q1:(es.toList.map fun e=>f e.2)[k1]?=some (f seq[i]):=by rw[mh,oW,a1,<- c1];rfl
  have q2:(es.toList.map fun e=>f e.2)[k2]?=some (f seq[j]):=by rw[mh,oW,d1,<- c2];rfl
  rw[<- e] at q2;obtain⟨l1,g1⟩:=mo.mp q1;obtain⟨l2,g2⟩:=mo.mp q2;exact hk ((o8 hn).mp (g1.trans g2.symm))
theorem Jm{es:Array (Int×Value)}{seq:List Value}{ys:List Nat}(nd:ys.Nodup)(q1:seq.length=ys.length)(q2:∀(i:Nat) x,seq[i]?=some x->∃p e,ys[i]?=some p/\es[p]?=some e/\x=e.2) :
  ∀f:Value->Int,(es.toList.map fun e=>f e.2).Nodup->(seq.map f).Nodup:=by
 intro f hn;unfold List.Nodup;rw[pR];intro i j hi hj hij;rw[lQ] at hi hj;rw[oq,oq];obtain⟨p1,e1,a1,c1,f1⟩:=q2 i _ (lU hi);obtain⟨p2,e2,a2,c2,f2⟩:=q2 j _ (lU hj);intro e;have r1:(es.toList.map fun e=>f e.2)[p1]?=some (f seq[i]):=by rw[mh,oW,c1,f1];rfl
 have r2:(es.toList.map fun e=>f e.2)[p2]?=some (f seq[j]):=by rw[mh,oW,c2,f2];rfl
 rw[<- e] at r2;obtain⟨l1,g1⟩:=mo.mp r1;obtain⟨l2,g2⟩:=mo.mp r2;have hp:=(o8 hn).mp (g1.trans g2.symm);rw[<- hp] at a2;obtain⟨m1,k1⟩:=mo.mp a1;obtain⟨m2,k2⟩:=mo.mp a2;have:=(o8 nd).mp (k1.trans k2.symm);omega
def SetWalkN(prog:Program)(w:World)(A:Around)(es:Array (Int×Value))(z:Nat)(a I:Addr)(h:Heap):Prop:=
 ∃(fp:List Addr) (seq:List Value) (St:Nat->Heap->Prop),Walks prog w A I fp [I] seq.length (fun i v=>seq[i]?=some v) St/\St 0 h/\(∀b∈fp,b<h.objs.size)/\(∀b∈fp,b=a\/z<=b)/\I∈fp/\(∀v∈seq,∃e∈es.toList,v=e.2)/\seq.length<=es.size/\(0<es.size->0<seq.length)/\∀f:Value->Int,(es.toList.map fun e=>f e.2).Nodup->(seq.map f).Nodup
theorem iter_setN{A':Around}{a:Addr}{es ep t}{Q:Value->Shared->Prop}(hh:A'.handled=none)(hS:Wt s.heap a es ep t)(hf:t.fits es.size=true)(hled:w.params.followText "set-order" = false->t.led=true)(hz:es.size<=1000)
  (hQ:∀I h' dr,s.heap.objs.size<=I->(∀b o,s.heap.get? b=some o->h'.get? b=some o)->SetWalkN prog w A' es s.heap.objs.size a I h'->Q (.ref I) { s with heap:=h',drawn:=dr }):wpAny (model prog w) A (pyIter (.ref a)) Q E s:=by
 obtain⟨o,ho,hc,hd⟩:=id hS;have haz:a<s.heap.objs.size:=md ho;refine wpAny_pyIter_slot hS.typeIs F.slot_set_iter (nE F.slot_set_iter hS.typeIs yy ?_ (F.args_set_iter_1 _))
 show wpAny _ _ (Builtin.Frozenset.sizeOf a >>= _) _ _ s
 refine lO ?_;unfold Builtin.Frozenset.sizeOf setEntries;refine lO (lO (nQ ho hd hf (lT (lT ?_))));dsimp only;refine lO ?_;unfold setDrawn;refine lO (nQ ho hd hf ?_);dsimp only;refine lO ?_;unfold setsByText;refine lO (rh (lT ?_))
 show wpAny _ _ (pure (!w.params.followText "set-order" && (!t.plain&&decide (es.size>1)))) _ _ s
 refine lT ?_;have fits_:=hf;have hpl:t.place.size=es.size:=by
  unfold SetTable.fits at hf;rw[mR] at hf;simpa using hf.1
 cases hdr:(!w.params.followText "set-order" && (!t.plain&&decide (es.size>1)))
 ·simp only[mT,mK];refine lO (lT ?_);refine lO ?_;unfold setEpoch;refine lO (nQ ho hd hf (lT ?_));dsimp only;refine lO (nF ?_);refine lT ⟨_,rfl, "set_iterator",_,⟨_,mD _ rfl,rfl⟩,ZP.lookup,?_⟩;have hw:w.params.followText "set-order" = false->t.led=true/\(t.plain=true\/es.size<=1):=fun e=>by
   refine⟨hled e,?_⟩;rw[e] at hdr;simp only[Bool.not_false,pD,Bool.and_eq_false_iff,Bool.not_eq_false',rL] at hdr;rcases hdr with h|h
   ·exact .inl h
   ·exact .inr (by omega)
  have hdone:∃(seq:List Value) (sls:Nat->Nat),sls 0=0/\(∀i x,seq[i]?=some x->WO (w.params.followText "set-order") (pickOrder (w.params.setOrder a ep) es) es t.place (sls i) (0+i)=some (x,sls (i+1))) /\
    WO (w.params.followText "set-order") (pickOrder (w.params.setOrder a ep) es) es t.place (sls seq.length) (0+seq.length)=none/\seq.length<=es.size:=by
   obtain⟨p1,p2,p3⟩:=jl (next:=w.params.setOrder a ep) es;cases hT:w.params.followText "set-order"
   ·obtain⟨seq,sls,a1,a2,a3,a4⟩:=seq_ex (nxt:=WO false (pickOrder (w.params.setOrder a ep) es) es t.place) (m:=fun sl _=>t.place.toList.countP (fun x=>decide (sl<=x))) (fun sl g x sl' he=>by
     unfold WO at he;simp only[mT,mK] at he
     split at he
     ·rename_i j _ hj
      cases he;refine count_lt ?_ (kF rfl hj);have:=rZ hj;simpa using this
     ·cases he) _ 0 0 (lS _)
    refine⟨seq,sls,a1,a2,a3,mC a4 (mC List.countP_le_length ?_)⟩;rw[nC];omega
   ·obtain⟨seq,sls,a1,a2,a3,a4⟩:=seq_ex (nxt:=WO true (pickOrder (w.params.setOrder a ep) es) es t.place) (m:=fun _ g=>(pickOrder (w.params.setOrder a ep) es).size-g) (fun sl g x sl' he=>by
     unfold WO at he;simp only[m9] at he;obtain⟨e,he1,he2⟩:=om.mp he;have:g<(pickOrder (w.params.setOrder a ep) es).size:=by
      rcases Nat.lt_or_ge g (pickOrder (w.params.setOrder a ep) es).size with h|h
      ·exact h
      ·rw[rR h] at he1;cases he1
     show _-(g+1)<_-g
     omega) _ 0 0 (lS _)
    exact⟨seq,sls,a1,a2,a3,by omega⟩
  obtain⟨seq,sls,b0,b1,b2,b3⟩:=hdone;have once:=told_once (fun i x hx=>b1 i x hx);have mem:∀sl g x sl',WO (w.params.followText "set-order") (pickOrder (w.params.setOrder a ep) es) es t.place sl g=some (x,sl')->∃e∈es.toList,x=e.2:=fun sl g x sl' he=>by
   unfold WO at he
   split at he
   ·obtain⟨e,he1,he2⟩:=om.mp he;cases he2;refine⟨e,(jl (next:=w.params.setOrder a ep) es).1 e ?_,rfl⟩;have:=rZ he1;simpa using this
   ·split at he
    ·rename_i h1 h2
     cases he;have:=rZ h1;exact⟨_,by simpa using this,rfl⟩
    ·cases he
  refine hQ _ _ s.drawn (lS _) (fun b o z=>lZ _ z) ⟨_,seq,_,Jy (prog:=prog) (A:=A') hh (me haz) hf hw (fun i x hx=>by have:=b1 i x hx;rwa [oK] at this) (by rw[oK] at b2;exact b2),⟨⟨0,?_⟩,?_⟩,?_,?_,by simp,?_,b3,?_,once⟩
  ·rw[b0];exact⟨_,0,0,0,mD _ rfl,rfl,rfl⟩
  ·exact⟨o,lZ _ ho,hc,hd⟩
  ·intro b hb;rw[ou];simp only[mw,oI,oJ] at hb;rcases hb with h|h
   ·rw[h];exact oR _
   ·rw[h];exact og haz
  ·intro b hb;simp only[mw,oI,oJ] at hb;rcases hb with h|h
   ·exact .inr (by rw[h];exact lS _)
   ·exact .inl h
  ·intro v hv;obtain⟨i,hi,e⟩:=m7 hv;have:=b1 i v (by rw[lU hi,e]);exact mem _ _ _ _ this
  ·intro hpos;rcases Nat.eq_zero_or_pos seq.length with h0|h0
   ·rw[h0,b0] at b2
    exfalso
    unfold WO at b2
    split at b2
    ·have:=(jl (next:=w.params.setOrder a ep) es).2.2 hpos;rw[Option.map_eq_none_iff,Array.getElem?_eq_none_iff] at b2;omega
    ·have hb:SetTable.below t.place 0=0:=zz _ _;rw[hb,pz es 0 hpos,pz t.place 0 (by omega)] at b2;cases b2
   ·exact h0
 ·simp only[m9];refine lO (yp es.size (List.range es.size) (by simp) fun ys dr hpm=>?_);have y1:∀y∈ys,y∈List.range es.size:=fun y hy=>hpm.mem_iff.mp hy;have y2:ys.length<=es.size:=by rw[hpm.length_eq,mZ];exact lS _
  have y3:0<es.size->List.range es.size≠[]->0<ys.length:=fun h _=>by rw[hpm.length_eq,mZ];exact h
  have y5:ys.Nodup:=hpm.nodup_iff.mpr List.nodup_range;refine lO (wpAny_newTuple (items:=ys.map fun(i:Nat)=>rawInt (i:Int)) ?_ (by rw[lQ,lV];omega));refine lO ?_;unfold setEpoch;have ho1:(s.heap.push { cls:=.type "tuple",data:=.seq (ys.map fun(i:Nat)=>rawInt (i:Int)).toArray }).get? a=some o:=lZ _ ho;refine lO (nQ (s:={ s with drawn:=dr,heap:=_ }) ho1 hd hf (lT ?_));dsimp only;refine lO (nF ?_);refine lT ⟨_,rfl, "set_iterator",_,⟨_,mD _ rfl,rfl⟩,ZP.lookup,?_⟩;have y4:∀y∈ys,y<es.size:=fun y hy=>pG.mp (y1 y hy);have ex:∃seq:List Value,seq.length=ys.length/\∀(i:Nat) x,seq[i]?=some x->∃p e,ys[i]?=some p/\es[p]?=some e/\x=e.2:=by
   refine⟨ys.map fun p=>(es.getD p (0,.none)).2,by simp,fun i x hx=>?_⟩;rw[mh] at hx;obtain⟨p,e1,e2⟩:=om.mp hx;have hp:=y4 p (mM e1);refine⟨p,es[p],e1,pz es p hp,?_⟩;rw[<- e2,Array.getD_eq_getD_getElem?,pz es p hp];rfl
  obtain⟨seq,q1,q2⟩:=ex;have z1:(s.heap.push { cls:=.type "tuple",data:=.seq (ys.map fun(i:Nat)=>rawInt (i:Int)).toArray }).objs.size=s.heap.objs.size+1:=ou _ _;refine hQ _ _ dr (by rw[z1];exact oy _) (fun b o z=>lZ _ (lZ _ z)) ⟨_,seq,_,JE (prog:=prog) (A:=A') (T:=s.heap.objs.size) (ps:=ys) (ep:=ep) hh (by rw[z1];exact me (og haz)) (by rw[z1];exact me (oR _)) hf q1 q2,⟨?_,?_,?_⟩,?_,?_,by simp,?_,by omega,?_,Jm y5 q1 q2⟩
  ·exact⟨_,0,0,0,mD _ rfl,rfl,rfl⟩
  ·exact⟨o,lZ _ ho1,hc,hd⟩
  ·exact⟨_,_,lZ _ (mD _ rfl),rfl,rfl⟩
  ·intro b hb;rw[ou,z1];simp only[mw,oI,oJ] at hb;rcases hb with h|h|h
   ·rw[h,z1];exact oR _
   ·rw[h];exact og (og haz)
   ·rw[h];exact og (oR _)
  ·intro b hb;simp only[mw,oI,oJ] at hb;rcases hb with h|h|h
   ·exact .inr (by rw[h,z1];exact oy _)
   ·exact .inl h
   ·exact .inr (by rw[h];exact lS _)
  ·intro v hv;obtain⟨i,hi,e⟩:=m7 hv;obtain⟨p,en,_,e2,e3⟩:=q2 i v (by rw[lU hi,e]);have:=rZ e2;exact⟨en,by simpa using this,e3⟩
  ·intro hpos;rw[q1];exact y3 hpos (fun e=>by
    have:(List.range es.size).length=0:=by rw[e];rfl
    rw[mZ] at this;omega)
end
def SetZL(B:Bool)(h:Heap)(a:Addr)(ss:List Int):Prop:=
 ∃es ep t,Wt h a es ep t/\t.fits es.size=true/\(B=false->t.led=true) /\
  (∀e∈es.toList,∃x k,e.2=.int x k)/\(es.toList.map fun e=>Vp e.2).Nodup/\(∀x,x∈(es.toList.map fun e=>Vp e.2)↔x∈ss)/\es.size<=ss.length
theorem SetZ.toL{prog:Program}{w:World}{B:Bool}{h:Heap}{a:Addr}{ss:List Int}(x:SetZ prog w B h a ss):SetZL B h a ss:=by
 obtain⟨o,es,ep,t,ho,hc,hd,hf,_,r⟩:=x;exact⟨es,ep,t,⟨o,ho,hc,hd⟩,hf,r⟩
section
variable{prog:Program}{w:World}{A:Around}{E:Value->Shared->Prop}{s:Shared}
theorem jz{a:Addr}{vs:List Int}{Q:List Value->Shared->Prop}(hh:A.handled=none)(hS:SetZL (w.params.followText "set-order") s.heap a vs)(hz:vs.length<=1000)
  (hQ:∀(seq:List Value) (h':Heap) dr tk,(∀v∈seq,∃i t,v=.int i t/\i∈vs)->(seq.map Vp).Nodup->seq.length<=vs.length->(vs≠[]->0<seq.length)->s.heap.objs.size<=h'.objs.size->(∀b o,s.heap.get? b=some o->h'.get? b=some o)->Q seq { s with heap:=h',drawn:=dr,toks:=tk }) :
  wpAny (model prog w) A (collect (.ref a)) Q E s:=by
 obtain⟨es,ep,t,hA,hf,hL,hsv,hnd,hin,hle⟩:=hS;unfold collect;refine lO (wpAny_runValue (nZ PySem.F.entry_proto_collect ?_));rw[oB PySem.F.plain_proto_collect _]
 show wpAny _ A.in1 (newList [] >>= fun l=>again (.builtin "list.__iadd__" ⟨[l,.ref a],[]⟩)) _ _ s
 refine lO (nF ?_);refine lT ⟨oC PySem.F.plain_list_iadd _,nZ PySem.F.entry_list_iadd ?_⟩;rw[oB PySem.F.plain_list_iadd _];have haz:a<s.heap.objs.size:=by obtain⟨o,ho,_⟩:=hA;exact md ho
 have hA1:Wt (s.heap.push { cls:=.type "list",data:=.seq ([]:List Value).toArray }) a es ep t:=hA.at fun o z=>lZ _ z
 show wpAny _ A.in1 (Builtin.List.listExtendWith (.ref s.heap.objs.size) (.ref a) (.ref s.heap.objs.size)) _ _ _
 unfold Builtin.List.listExtendWith;have hT:=Wt.typeIs (s:={ s with heap:=s.heap.push { cls:=.type "list",data:=.seq ([]:List Value).toArray } }) hA1;refine lO (wpAny_typeOf hT ?_);have h1:Builtin.List.listSameRef (.ref s.heap.objs.size) (.ref a)=false:=by simp[Builtin.List.listSameRef,mY haz]
 have h2:(Value.type "set" == Value.type "list")=false:=by decide
 have h3:(Value.type "set" == Value.type "tuple")=false:=by decide
 simp only[h1,h2,h3,Bool.or_false,mT,mK];have z1:(s.heap.push { cls:=.type "list",data:=.seq ([]:List Value).toArray }).objs.size=s.heap.objs.size+1:=ou _ _;refine lO (iter_setN (A':=A.in1) (by simpa using hh) hA1 hf hL (by omega) fun I h1 dr hI hk1 hW=>?_);rw[z1] at hI;obtain⟨fp,seq,St,W,hst,hfp,hfa,hIf,m1,m2,m3,m4⟩:=hW;have hA2:Wt h1 a es ep t:=hA1.at fun o z=>hk1 _ o z;refine lO (nj ?_);unfold Builtin.List.listLengthHint;have hT2:=Wt.typeIs (s:={ s with heap:=h1,drawn:=dr }) hA2;refine lO (p8 hT2 vI ?_);have sp:splitId "set.__len__" = some ("set", "__len__"):=by decide +kernel
 dsimp only;rw[sp];dsimp only;refine lO (wpAny_isInstance hT2 sub_set_self ?_);simp only[Bool.not_true,mT,mK]
 show wpAny _ _ (if true=true then _ else _) _ _ _
 rw[if_pos rfl];refine lO (wpAny_typeOf hT2 ?_);dsimp only;refine lT ?_
 show wpAny _ A.in1 (if(false||true)=true then _ else _) _ _ _
 rw[if_pos (show(false||true)=true from rfl)];refine lO (oE ?_);have hSf:s.heap.objs.size∉fp:=fun hm=>by
  rcases hfa _ hm with e|e
  ·exact absurd e (mY haz)
  ·rw[z1] at e;omega
 have hS₁:h1.get? s.heap.objs.size=some { cls:=.type "list",data:=.seq ([]:List Value).toArray }:=hk1 _ _ (mD _ rfl);refine lO ?_
 show wpAny _ A.in1 (updateSeq s.heap.objs.size (·.push .none) >>= fun _=>updateSeq s.heap.objs.size (·.pop)) _ _ _
 refine lO (oX hS₁ rfl ?_);have hS₂:=oh (Obj.mapSeq (·.push Value.none)) hS₁ rfl;refine oX hS₂ rfl ?_;have hS₃:=oh (Obj.mapSeq (·.pop)) hS₂ rfl;have oth:∀b o,b≠s.heap.objs.size->h1.get? b=some o->((h1.update s.heap.objs.size (Obj.mapSeq (·.push Value.none))).update s.heap.objs.size (Obj.mapSeq (·.pop))).get? b=some o:=
  fun b o hb e=>(nG _ _ (mj hb)).trans ((nG _ _ (mj hb)).trans e)
 refine lT ⟨oC pV _,codeAny_extend_loopS W.toS (by rw[lV];omega) _ hSf _ seq.length 0 _ _ _ rfl (mN _)
  (W.frame 0 _ _ hst fun b hb o e=>oth b o (fun h=>hSf (h▸hb)) e) hS₃ (ItemsOf.nil _) fun s' acc' c' hm hS' hacc=>?_⟩
 show wpAny _ A (load s.heap.objs.size >>= _) _ _ s'
 refine lO (wpAny_load hS' ?_);have e1:acc'.toList=seq:=by
  apply rc;intro i;rw[oW];rcases Nat.lt_or_ge i acc'.size with h|h
  ·have:=hacc.2 i _ (pz acc' i h);rw[pz acc' i h];exact this.symm
  ·rw[rR h,oH (by rw[hacc.1] at h;exact h)]
 refine lT ?_;rw[e1];obtain⟨hh',gg,dd,tt,oo⟩:=s';obtain⟨q1,q2,q3,q4,q5⟩:=hm;dsimp only at q1 q2 q3 q4 q5;subst q2;subst q3;subst q4;have keep:∀b o,s.heap.get? b=some o->hh'.get? b=some o:=fun b o z=>by
  have hlt:=md z;refine q1 b o (by simp only[mw,oI,oJ];rintro(h|h);exact absurd hlt (by rw[h];exact oi _);exact absurd hlt (by rw[h];exact Nat.not_lt.mpr (Nat.le_of_succ_le hI))) (oth b o (me hlt) (hk1 b o (lZ _ z)))
 refine hQ seq hh' _ tt (fun v m=>?_) (m4 Vp hnd) (by omega) (fun z=>m3 ?_) ?_ keep
 ·obtain⟨e,h1,h2⟩:=m1 v m;obtain⟨i,t',e3⟩:=hsv e h1;exact⟨i,t',by rw[h2,e3],(hin i).mp (mE.mpr ⟨e,h1,by rw[e3];rfl⟩)⟩
 ·obtain⟨x,r,ev⟩:=sr z;obtain⟨e,h1,_⟩:=mE.mp ((hin x).mpr (by rw[ev];simp));rw[<- nC];exact sq h1
 exact nI (md hS')
theorem Jq{a:Addr}{vs:List Int}{Q:Value->Shared->Prop}(hh:A.handled=none)(hS:SetZL (w.params.followText "set-order") s.heap a vs)(h64:vs.length<64)
  (h:∀(out:List Value) (L n:Nat) (h':Heap) dr tk,(∀v∈out,∃i t,v=.int i t/\i∈vs)->(out.map Vp).Nodup->out.length<=vs.length->(vs≠[]->0<out.length)->s.heap.objs.size<=L->(∀b o,s.heap.get? b=some o->h'.get? b=some o) ->
   h'.get? L=some { cls:=.type "list",data:=.seq out.toArray n }->Q (.ref L) { s with heap:=h',drawn:=dr,toks:=tk }) :
  wpAny (model prog w) A (call (.builtin "sorted") [.ref a]) Q E s:=by
 refine Calls.call_function_entry kind_sorted plain_sorted entry_sorted (args_sorted1 _) ?_;unfold Builtin.«sorted»;refine lO (m:=checkCount "sorted" 1 1 _) (lT ?_);refine lO (jz (by simpa using hh) hS (by omega) fun seq h1 dr tk m1 m0 m2 m3 hz k1=>?_);refine lO (wpAny_newList ?_ (by rw[lV];omega));have hoL:(h1.push (seqObj "list" seq.toArray 0)).get? h1.objs.size=some (seqObj "list" seq.toArray 0):=mD _ rfl;have k2:∀b o,s.heap.get? b=some o->b≠h1.objs.size/\(h1.push (seqObj "list" seq.toArray 0)).get? b=some o:=fun b o z=>by
  have:=k1 b o z;exact⟨me (md this),lZ _ this⟩
 show wpAny _ _ _ _ _ { s with heap:=h1.push (seqObj "list" seq.toArray 0),drawn:=dr,toks:=tk }
 refine lO (nj (nE slot_list_sort ⟨_,hoL,rfl⟩ entry_list_sort (zE hoL (fun h' k=>j4 fun v m=>let ⟨i,t,e,_⟩:=m1 v m; ⟨i,t,e⟩) (by omega) fun out pm=>⟨_,rfl,?_⟩) (args_list_sort _)))
 ·obtain⟨e,he⟩:=sortedHeap_at (out:=out.toArray) hoL;refine lT ⟨_,rfl,h out h1.objs.size e _ dr tk (fun v m=>m1 v (pm.mem_iff.mp m)) ((pm.map Vp).nodup_iff.mpr m0) (by rw[pm.length_eq];exact m2) (fun z=>by rw[pm.length_eq];exact m3 z) hz (fun b o z=>?_) he⟩;obtain⟨n1,z1⟩:=k2 b o z
  show(sortedHeap _ _ _ _).get? b=some o
  rw[sortedHeap_old n1 (md z1)];exact z1
end
end L3
namespace L3
open PySem PySem.Spec PyProof.Rows L2
def SzO(Pm:Params)(a:Addr)(ss:List Int):HO:=.ext fun h=>SetZL (Pm.followText "set-order") h a ss
theorem sz_ok{P:Program}{w:World}{Pm:Params}{H:Hp}{h:Heap}{a:Addr}{ss:List Int}(x:SetZL (Pm.followText "set-order") h a ss):YH P w H h a (SzO Pm a ss):=by
 refine⟨x,?_,?_⟩
 ·obtain⟨_,_,_,⟨o,e,_⟩,_⟩:=x;exact⟨o,e⟩
 ·rintro h1 h2 ⟨es,ep,t,hA,c⟩ k;exact⟨es,ep,t,hA.at fun o z=>k o z,c⟩
def rSetJ(K:W.Frag)(Pm:Params):List V->Hp->VK->Prop:=fun xs H Q=>∃p ss,xs=[.ref p]/\SqL K H p (ss.map V.int)/\ss.length<1000/\∀l,H l=none->Q (.ref l) (upd H l (SzO Pm l ss))
def rSortJ(Pm:Params):List V->Hp->VK->Prop:=fun xs H Q=>∃p ss,xs=[.ref p]/\H p=some (SzO Pm p ss)/\ss.length<64/\∀l us,H l=none->us.Nodup->(∀x∈us,x∈ss)->us.length<=ss.length->(ss≠[]->us≠[])->Q (.ref l) (upd H l (.lst (us.map V.int)))
theorem vb:∀{out:List Value},(∀v∈out,∃i t,v=.int i t)->ZH ((out.map Vp).map V.int) out
 |[],_=>.nil
 |v::r,h=>by
  obtain⟨i,t,rfl⟩:=h v (by simp);exact .cons ⟨t,rfl⟩ (vb fun u m=>h u (mi _ m))
section
variable{X:Cx}{K:W.Frag}{Pm:Params}
theorem call_setI(hK:X.K=K)(hw:X.w.params=Pm)(hc:X.calm=true):YB X (.type "set") (rSetJ K Pm):=by
 subst hK;intro lL s σ H xs us Q I r h;obtain⟨p,ss,rfl,hq,hl,q⟩:=h;obtain⟨u,rfl,ru⟩:=VG r;obtain rfl:u=Value.ref p:=ru;obtain⟨its,rv,pl,hz⟩:=I.list hq;refine call_setJ (I.ok.hd hc) pl.isList rv hl fun h' tk hS k=>?_;exact⟨.ref s.heap.objs.size,_,I.laid (o:=SzO Pm s.heap.objs.size ss) k (lS _) (sz_ok (by rw[<- hw];exact hS.toL)),rfl,q _ (I.hok.fresh (lS _))⟩
theorem JY(hw:X.w.params=Pm)(hc:X.calm=true):YB X (.builtin "sorted") (rSortJ Pm):=by
 intro lL s σ H xs us Q I r h;obtain⟨p,ss,rfl,hq,hl,q⟩:=h;obtain⟨u,rfl,ru⟩:=VG r;obtain rfl:u=Value.ref p:=ru;obtain⟨hS,_⟩:=I.hok p _ hq;refine Jq (I.ok.hd hc) (by rw[hw];exact hS) hl fun out L n h' dr tk g1 g2 g3 g4 hL k hg=>?_;have lo:(out.map Vp).length=out.length:=lQ ..;refine⟨.ref L,_,inv_dr (I.laid (o:=.lst ((out.map Vp).map V.int)) k hL ⟨by rw[lQ,lV];omega,out,n,vb fun v m=>(let ⟨i,t,e,_⟩:=g1 v m; ⟨i,t,e⟩),hg⟩) dr,rfl,q L (out.map Vp) (I.hok.fresh hL) g2 (fun x hx=>?_) (by omega) (fun z e=>?_)⟩
 ·obtain⟨v,m,rfl⟩:=mE.mp hx;obtain⟨i,t,rfl,hi⟩:=g1 v m;exact hi
 ·have:=g4 z;rw[<- lo,e] at this;exact absurd this (by simp)
end
theorem Ug{way ring:List Int}{k:Nat}(h:k<(way++ring).length):(way++ring)[k]?=some (Xk way ring k):=by
 rw[lU h,runW_at h]
theorem run_uniq{way ring:List Int}(hr:ring≠[]){w:Nat->Int}(h1:∀k,k<(way++ring).length->(way++ring)[k]?=some (w k))(h2:∀k,(way++ring).length<=k->w k=w (k-ring.length)):∀(n k:Nat),k<=n->w k=Xk way ring k:=by
 have l0:0<ring.length:=pB fun e=>hr (o6 e);intro n
 induction n with
 |zero=>
  intro k hk;have hk0:k<(way++ring).length:=by rw[lW];omega
  have:=(h1 k hk0).symm.trans (Ug hk0);exact mv this
 |succ n ih=>
  intro k hk
  by_cases c:k<(way++ring).length
  ·exact mv ((h1 k c).symm.trans (Ug c))
  ·have c':(way++ring).length<=k:=by omega
   rw[h2 k c',qP hr c'];rw[lW] at c';exact ih _ (by omega)
theorem yt{way ring:List Int}(hr:ring≠[]){i:Nat}(hi:i<=ring.length)(k:Nat):Xk (way++ring.take i) (ring.drop i++ring.take i) k=Xk way ring k:=by
 have l0:0<ring.length:=pB fun e=>hr (o6 e);have lr:(ring.drop i++ring.take i).length=ring.length:=by rw[lW,mL,mf];omega
 have hr':ring.drop i++ring.take i≠[]:=fun e=>by rw[e] at lr;simp at lr;omega
 have ew:(way++ring.take i)++(ring.drop i++ring.take i)=(way++ring)++ring.take i:=by
  rw[<- nY,nY way,List.take_append_drop]
 have ll:((way++ring.take i)++(ring.drop i++ring.take i)).length=way.length+ring.length+i:=by rw[ew];simp only[lW,mf];omega
 refine run_uniq hr (w:=Xk (way++ring.take i) (ring.drop i++ring.take i)) (fun k hk=>?_) (fun k hk=>?_) k k (lS _)
 ·have hk2:=hk;rw[lW] at hk2;have:=Ug (way:=way++ring.take i) (ring:=ring.drop i++ring.take i) (k:=k) (by rw[ll];omega);rw[ew,mQ hk] at this;exact this
 ·have hk2:=hk;rw[lW] at hk2
  by_cases c:((way++ring.take i)++(ring.drop i++ring.take i)).length<=k
  ·rw[qP hr' c,lr]
  ·have a:=Ug (way:=way++ring.take i) (ring:=ring.drop i++ring.take i) (k:=k) (by omega);have b:=Ug (way:=way++ring.take i) (ring:=ring.drop i++ring.take i) (k:=k-ring.length) (by omega);rw[ew,mW (by rw[lW];omega),lW,rG (by omega)] at a;rw[ew,mQ (by rw[lW];omega),mW (by omega)] at b;have e:k-(way.length+ring.length)=k-ring.length-way.length:=by omega
   rw[e,b] at a;exact(mv a).symm
theorem vR{way ring:List Int}(hr:ring≠[])(k:Nat):Xk (way++ring) ring k=Xk way ring k:=by
 have:=yt (way:=way) hr (lS _) k;rw[pq,List.drop_length,nM] at this;exact this
theorem flat_at(ring:List Int):∀(j i:Nat),i<j*ring.length->(List.replicate j ring).flatten.getD i 0=ring.getD (i%ring.length) 0
 |0,i,h=>by omega
 |j+1,i,h=>by
  rw[pf,oV];rw[pi] at h
  by_cases c:i<ring.length
  ·rw[nB,mQ c,Nat.mod_eq_of_lt c,nB]
  ·rw[nB,mW (by omega),<- nB,flat_at ring j (i-ring.length) (by omega)]
   congr 1
   have e:i=(i-ring.length)+ring.length:=by omega
   rw[e,Nat.add_mod_right,Nat.add_sub_cancel]
theorem YK(ring:List Int)(j:Nat):(List.replicate j ring).flatten.length=j*ring.length:=by
 induction j with
 |zero=>simp
 |succ j ih=>rw[pf,oV,lW,ih,pi];omega
theorem vY{way ring:List Int}(hr:ring≠[]){j:Nat}(hj:0<j)(k:Nat):Xk way (List.replicate j ring).flatten k=Xk way ring k:=by
 have l0:0<ring.length:=pB fun e=>hr (o6 e);unfold Xk
 by_cases c:k<way.length
 ·rw[if_pos c,if_pos c]
 ·rw[if_neg c,if_neg c,YK,flat_at ring j _ (Nat.mod_lt _ (Nat.mul_pos hj l0))]
  congr 1
  exact Nat.mod_mod_of_dvd _ (Nat.dvd_mul_left _ _)
def AhL(c:Lb):Prop:=c≠.op "before" /\ c≠.op "since"
def Ah(t:Tr):Prop:=∀x∈post t,AhL x.lb
theorem Ah.kid{t x:Tr}(h:Ah t)(hx:x∈t.ks):Ah x:=fun y hy=>h y (by
 rw[W4];exact mX _ (YW.mpr ⟨x,hx,hy⟩))
theorem Ah.node{c:Lb}{ks:List Tr}(h:AhL c)(hk:∀k∈ks,Ah k):Ah (.node c ks):=fun x hx=>by
 rw[post] at hx;rcases ml.mp hx with hx|hx
 ·obtain⟨k,m,hx⟩:=YW.mp hx;exact hk k m x hx
 ·rw[mr] at hx;subst hx;exact h
theorem xU{d:WD}{st:Tr->List Int}{w:Nat->Int}:∀(n:Nat) (t:Tr),OkN n t->isC t=true->Ah t->∀k,Xq d st (fun i=>w (i+1)) t k=Xq d st w t (k+1)
 |0,t,h,_,_=>h.elim
 |n+1,t,ok,hc,ah=>by
  intro k
  by_cases c:qO t=true
  ·rw[jC c,jC c]
  ·have kid:∀x∈t.ks,∀k,Xq d st (fun i=>w (i+1)) x k=Xq d st w x (k+1):=fun x hx=>xU n x (ok.2 x hx) (jQ hc x hx) (ah.kid hx);have top:=ah t (xl t);rcases Vf hc ok.1 (by simpa using c) with⟨o,a,rfl,h3⟩|⟨o,a,b,rfl,h2⟩|⟨a,b,rfl⟩
   ·have ka:=kid a (by simp[Tr.ks]);rcases h3 with rfl|rfl|rfl
    ·rw[vK,vK];show(!_)=(!_);rw[ka]
    ·rw[ya,ya];exact ka (k+1)
    ·exact absurd rfl top.1
   ·have ka:=kid a (by simp[Tr.ks]);have kb:=kid b (by simp[Tr.ks]);rcases h2 with rfl|rfl
    ·rw[qR,qR];exact qQ (fun i=>by rw[ka,Nat.add_right_comm]) (fun i=>by rw[kb,Nat.add_right_comm])
    ·exact absurd rfl top.2
   ·have ka:=kid a (by simp[Tr.ks]);have kb:=kid b (by simp[Tr.ks]);rw[ja,ja]
    show(_&&_)=(_&&_)
    rw[ka,kb]
theorem ah_w:∀w∈(["not", "next", "some", "until"]:List Str),w ≠ "before" /\ w ≠ "since" := by decide +kernel
theorem ah_op{w:Str}(h:w∈(["not", "next", "some", "until"]:List Str)):AhL (.op w):=⟨fun z=>(ah_w w h).1 (Lb.op.inj z),fun z=>(ah_w w h).2 (Lb.op.inj z)⟩
theorem zT(w:Str):AhL (.many w):=⟨nofun,nofun⟩
theorem qZ:Ah Ye:=Ah.node ⟨nofun,nofun⟩ (fun k hk=>by cases hk)
theorem ah1{c:Lb}{a:Tr}(h:AhL c)(ha:Ah a):Ah (.node c [a]):=Ah.node h fun k hk=>by rw[mr] at hk;subst hk;exact ha
theorem ah2{c:Lb}{a b:Tr}(h:AhL c)(ha:Ah a)(hb:Ah b):Ah (.node c [a,b]):=Ah.node h fun k hk=>by
 rcases mw.mp hk with rfl|hk
 ·exact ha
 ·rw[mr] at hk;subst hk;exact hb
theorem Vh{a:Tr}(h:Ah a):Ah (Ym a):=ah1 (ah_op (by decide +kernel)) h
theorem ah_andT:∀{l:List Tr},(∀k∈l,Ah k)->Ah (W7 l)
 |[],_=>qZ
 |[x],h=>h x (by simp)
 |x::y::r,h=>ah2 (zT _) (h x (by simp)) (ah_andT fun k hk=>h k (mi _ hk))
theorem ah_orT:∀{l:List Tr},(∀k∈l,Ah k)->Ah (orT l)
 |[],_=>Vh qZ
 |[x],h=>h x (by simp)
 |x::y::r,h=>Vh (ah2 (zT _) (Vh (h x (by simp))) (Vh (ah_orT fun k hk=>h k (mi _ hk))))
theorem ah_wit{f s:Tr}(hf:Ah f)(hs:Ah s):∀n,Ah (Yj n f s)
 |0=>hs
 |n+1=>Vh (ah2 (zT _) (Vh hs) (Vh (ah2 (zT _) hf (ah1 (ah_op (by decide +kernel)) (ah_wit hf hs n)))))
def FwL(c:Lb):Prop:=c≠.op "before" /\ c≠.op "once" /\ c≠.op "sofar" /\ c≠.op "since"
def Fw(t:Tr):Prop:=∀x∈post t,FwL x.lb
theorem Fw.node{c:Lb}{ks:List Tr}(h:FwL c)(hk:∀k∈ks,Fw k):Fw (.node c ks):=fun x hx=>by
 rw[post] at hx;rcases ml.mp hx with hx|hx
 ·obtain⟨k,m,hx⟩:=YW.mp hx;exact hk k m x hx
 ·rw[mr] at hx;subst hx;exact h
theorem ah_coreF{c:Lb}{cs:List Tr}(h:FwL c)(hk:∀k∈cs,Ah k):Ah (Y0 c cs):=by
 have g:∀i,Ah (cs.getD i Ye):=fun i=>by
  rw[nB];cases e:cs[i]? with
  |none=>exact qZ
  |some x=>exact hk x (mM e)
 unfold Y0;cases c with
 |yes=>exact qZ
 |sign s=>exact Ah.node ⟨nofun,nofun⟩ (fun k hk=>by cases hk)
 |many w=>
  show Ah (if w = "and" then W7 cs else orT cs)
  split
  ·exact ah_andT hk
  ·exact ah_orT hk
 |wit m=>exact ah_wit (g 0) (g 1) _
 |op w=>
  dsimp only
  split
  ·exact Vh (ah1 (ah_op (by decide +kernel)) (Vh (g 0)))
  split
  ·exact ah2 (ah_op (by decide +kernel)) qZ (g 0)
  split
  ·exact Vh (ah2 (ah_op (by decide +kernel)) qZ (Vh (g 0)))
  split
  ·rename_i e;exact absurd (my Lb.op e) h.2.1
  split
  ·rename_i e;exact absurd (my Lb.op e) h.2.2.1
  exact Ah.node ⟨h.1,h.2.2.2⟩ hk
theorem ah_core:∀(n:Nat) (t:Tr),OkN n t->Fw t->Ah (Yx t)
 |0,t,h,_=>h.elim
 |n+1,t,ok,fw=>by
  rw[VE];refine ah_coreF (fw t (xl t)) fun k hk=>?_;obtain⟨q,hq,rfl⟩:=mE.mp hk;exact ah_core n q (ok.2 q hq) fun y hy=>fw y (by rw[W4];exact mX _ (YW.mpr ⟨q,hq,hy⟩))
theorem yn{d:WD}{st:Tr->List Int}{w w':Nat->Int}(h:∀k,w k=w' k)(t:Tr):Xq d st w t=Xq d st w' t:=by
 have:w=w':=funext h;rw[this]
theorem vt{x:Int}{way ring:List Int}(k:Nat):Xk way ring k=Xk (x::way) ring (k+1):=by
 unfold Xk
 by_cases c:k<way.length
 ·rw[if_pos c,if_pos (by rw[mJ];omega)];rw[nB,nB,List.getElem?_cons_succ]
 ·rw[if_neg c,if_neg (by rw[mJ];omega),mJ,Nat.add_sub_add_right]
end L3
namespace KK
open PySem PySem.Spec L2 L3
def jp(K:W.Frag)(a:Adr):Sp:=fun vs H Q _=>∃(l:Addr) (n p:Nat) (L:List Bool) (f:Nat->Bool),vs=[.ref l,.int (n:Nat),.int (p:Nat)]/\H l=some (.lst (L.map V.bl))/\ZM p L f/\L.length<=100000/\n<=100000/\∀H' q L',Zh H H'->H q=none->H' q=some (.lst (L'.map V.bl))->ZM p L' f->L'.length=max L.length n->Q (.ref q) H'
theorem VT(T:Txt K mg a)(hw:w.params=a.Pm):Z2 P w K mg base CX0 1 a.stretched a.cD ["line", "length", "size"] (jp K a):=by
 refine T.bu.ok qh (fun vs H Q E h=>?_) (fun lM A outer s H vs Q E hr h=>?_)
 ·obtain⟨l,n,p,L,f,rfl,_⟩:=h;rfl
 ·obtain⟨l,n,p,L,f,rfl,hl,tl,ll,ln,k⟩:=h;refine⟨_,(@Za _ _ _ _ _ (@Zp _ _ (3) _ _ _ _ qh.nd rfl (Or.inl rfl) (Z3 (UZ (K:=K) rfl rfl) rfl T.fe sw (@Zd _ _ _ (pv 0) (by rfl))) (by rfl) (by exact .inl rfl)) (@Za _ _ _ _ _ (qr m8 (@Zx _ _ _ _ _ _ _ _ zA (Zn (Zy (K:=K) rfl) rfl T.aB sA (@Zd _ _ _ (pv 3) (by rfl))) (pv 1) (ZF _)) (@Zg _ _ _ (@YE _ _ _ _ (Wm m5 nh ni Z4 (pv 3) (@Zd _ _ _ (@Zz _ _ _ _ _ _ _ (Zs (K:=K) rfl) (pv 3) (Us Vg (pv 2)) (fun _ _=>rfl)) (by rfl))) (by rfl)))) (@Zg _ _ _ (@Zm _ _ _ _ (pv 3))))),?_⟩;refine⟨_,rfl,.inl ⟨l,_,rfl,.inl (SqL.of hl),fun q hq=>?_⟩⟩;obtain⟨H1,qN,s1,e1⟩:=ZU (o:=.lst (L.map V.bl)) hq;rw[qN];clear qN;refine⟨fun m σ G=>∃L':List Bool,σ=[some (.ref l),some (.int (n:Nat)),some (.int (p:Nat)),some (.ref q)]/\Zh H G/\G q=some (.lst (L'.map V.bl))/\ZM p L' f/\L.length<=L'.length/\L'.length<=max L.length n/\m=n-L'.length,⟨n-L.length,L,rfl,s1,e1,tl,lS _,by omega,rfl⟩,?_⟩;rintro m σ G ⟨L',rfl,sG,gq,tl',l1,l2,rfl⟩;have p1:=tl'.p1;have pl:=tl'.le;refine⟨_,rfl,.inl ⟨q,_,rfl,.inl (SqL.of gq),_,rfl,_,_,rfl,rfl,_,rfl,WQ (fun c=>?_) (fun c=>?_)⟩⟩
  ·have c1:L'.length<n:=by have:=mO c;rw[lQ] at this;omega
   refine⟨fun σ G=>∃L'':List Bool,σ=[some (.ref l),some (.int (n:Nat)),some (.int (p:Nat)),some (.ref q)]/\Zh H G/\G q=some (.lst (L''.map V.bl))/\ZM p L'' f/\L''.length=L'.length+1,?_,?_⟩
   ·rintro σ' G' ⟨L'',rfl,a1,a2,a3,a4⟩;exact⟨n-L''.length,by omega,L'',rfl,a1,a2,a3,by omega,by omega,rfl⟩
   have ea:atI (L'.map V.bl) (-(p:Int))=some (.bl (L'[L'.length-p]'(by omega))):=by
    rw[jw p1 (by rw[lQ];exact pl),oq];simp only[lQ]
   refine⟨_,rfl,.inl ⟨rfl,_,SqL.of gq⟩,_,rfl,_,rfl,_,rfl,q,_,_,_,rfl,rfl,SqL.of gq,ea,q,_,_,rfl,rfl,gq,by rw[lQ,lV];omega,?_⟩;refine⟨L'++[L'[L'.length-p]'(by omega)],rfl,(Zq.upd (Zh.x sG)).same hq,by rw[Zb,mB];rfl,tl'.grow (lU _),by rw[lW];rfl⟩
  ·have c1:¬L'.length<n:=fun z=>c (nk (by rw[lQ];omega));exact⟨_,rfl,k _ q L' sG hq gq tl' (by omega)⟩
def yu(K:W.Frag)(a:Adr):Sp:=fun vs H Q _=>∃(l:Addr) (p:Nat) (L:List Bool) (f:Nat->Bool),vs=[.ref l,.int (p:Nat)]/\H l=some (.lst (L.map V.bl))/\ZM p L f/\L.length<=1000000/\∀H' q L',Zh H H'->H q=none->H' q=some (.lst (L'.map V.bl))->ZM p L' f->L'.length<=L.length->Q (.ref q) H'
theorem Jo(T:Txt K mg a)(hw:w.params=a.Pm):Z2 P w K mg base CX0 1 a.trimmed a.dM ["line", "size"] (yu K a):=by
 refine T.gk.ok U0 (fun vs H Q E h=>?_) (fun lM A outer s H vs Q E hr h=>?_)
 ·obtain⟨l,p,L,f,rfl,_⟩:=h;rfl
 ·obtain⟨l,p,L,f,rfl,hl,tl,ll,k⟩:=h;refine⟨_,(@Za _ _ _ _ _ (@Zp _ _ (2) _ _ _ _ U0.nd rfl (Or.inl rfl) (Zn (Zy (K:=K) rfl) rfl T.aB sA (@Zd _ _ _ (pv 0) (by rfl))) (by rfl) (by exact .inl rfl)) (@Za _ _ _ _ _ (qr m8 (PW.pt (vX (@Zx _ _ _ _ _ _ _ _ op_gt (pv 2) (pv 1) (ZF _)) (zU (@Zx _ _ _ _ _ _ _ _ Yw (@Zz _ _ _ _ _ _ _ (Zs (K:=K) rfl) (pv 0) (@ZO _ _ _ _ _ _ _ _ Uo (pv 2) Zf) (fun _ _=>rfl)) (@Zz _ _ _ _ _ _ _ (Zs (K:=K) rfl) (pv 0) (@ZO _ _ _ _ _ _ _ _ Uo (@ZO _ _ _ _ _ _ _ _ Uo (pv 2) Zf) (pv 1)) (fun _ _=>rfl)) (ZF _))))) (@Zg _ _ _ (ps_aug (i:=2) U0.nd rfl (Or.inl rfl) Zf ip_sub))) (@Zg _ _ _ (@Zm _ _ _ _ (ZS (Yo (K:=K) rfl) (pv 0) Yb (ZX (pv 2))))))),?_⟩;refine⟨_,rfl,.inl ⟨l,_,rfl,.inl (SqL.of hl),?_⟩⟩;rw[lQ];have p1:=tl.p1;have pl:=tl.le;refine⟨fun m σ G=>G=H/\∃e:Nat,σ=[some (.ref l),some (.int (p:Nat)),some (.int (e:Nat))]/\e<=L.length/\ZM p (L.take e) f/\m=e,⟨L.length,rfl,L.length,rfl,lS _,by rw[pq];exact tl,rfl⟩,?_⟩;rintro m σ G ⟨rfl,e,rfl,le,te,rfl⟩;have pe:=te.le;rw[mf] at pe;have stop:∀q,G q=none->Q (.ref q) (upd G q (.lst (W0 (L.map V.bl) none (some (m:Int))))):=fun q hq=>by
   rw[Wc,<- ot];exact k _ q _ (Ze hq) hq Zb te (by rw[mf];omega)
  refine⟨_,rfl,_,rfl,_,_,rfl,rfl,_,rfl,WQ (fun c=>?_) (fun c=>Yd ?_)⟩
  ·have c1:p<m:=by have:=mO c;omega
   have i1:((m:Int)-1)=((m-1:Nat):Int):=by omega
   have i2:((m-1:Nat):Int)-(p:Int)=((m-1-p:Nat):Int):=by omega
   have g1:atI (L.map V.bl) ((m-1:Nat):Int)=some (.bl (L[m-1]'(by omega))):=Zi (by rw[mh,lU (show m-1<L.length by omega)];rfl);have g2:atI (L.map V.bl) ((m-1-p:Nat):Int)=some (.bl (L[m-1-p]'(by omega))):=Zi (by rw[mh,lU (show m-1-p<L.length by omega)];rfl);refine⟨_,rfl,_,rfl,_,_,rfl,rfl,l,_,_,_,rfl,rfl,SqL.of hl,by rw[i1];exact g1,_,rfl,_,rfl,_,_,rfl,rfl,_,rfl,_,_,rfl,rfl,l,_,_,_,rfl,rfl,SqL.of hl,by rw[i1,i2];exact g2,rfl,_,rfl,WQ (fun c2=>?_) (fun c2=>?_)⟩
   ·have c3:L[m-1]'(by omega)=L[m-1-p]'(by omega):=V.bl.inj (mO c2);refine⟨fun σ F=>F=G/\σ=[some (.ref l),some (.int (p:Nat)),some (.int ((m-1:Nat)))],?_,?_⟩
    ·rintro σ' G' ⟨hF,rfl⟩;refine⟨m-1,by omega,hF,m-1,rfl,by omega,?_,rfl⟩;obtain⟨n,rfl⟩:∃n,m=n+1:=⟨m-1,by omega⟩;exact ZM.cut te (by omega) (by omega) c3
    ·refine⟨_,rfl,_,_,rfl,rfl,rfl,?_⟩
     show[some (V.ref l),some (V.int (p:Nat)),some (V.int ((m:Int)-1))]=_
     rw[i1]
   ·exact⟨_,rfl,_,rfl,_,rfl,l,_,rfl,SqL.of hl,stop⟩
  ·exact⟨_,rfl,_,rfl,_,rfl,l,_,rfl,SqL.of hl,stop⟩
def BP(H:Hp)(z:List (V×(Bool×Bool))):Prop:=∀x∈z,∃q,x.1=.ref q/\H q=some (.tup [.bl x.2.1,.bl x.2.2])
def qu(K:W.Frag)(a:Adr):Sp:=fun vs H Q _=>∃(ls l1 l2:Addr) (p m:Nat) (L M:List Bool) (f g:Nat->Bool),vs=[.ref ls,.int (p:Nat),.int (m:Nat)]/\H ls=some (.lst [.ref l1,.ref l2])/\H l1=some (.lst (L.map V.bl))/\H l2=some (.lst (M.map V.bl))/\ZM p L f/\ZM p M g/\L.length<=50000/\M.length<=50000/\m<=50000 /\
 ∀H' q (z:List (V×(Bool×Bool))) (L' M':List Bool),Zh H H'->H q=none->H' q=some (.lst (z.map Prod.fst))->BP H' z->z.map Prod.snd=L'.zip M'->ZM p L' f->ZM p M' g->L'.length=max L.length M.length+m->M'.length=max L.length M.length+m->Q (.ref q) H'
theorem Wp(T:Txt K mg a)(hw:w.params=a.Pm):Z2 P w K mg base CX0 2 a.stretched_both a.aM ["lines", "size", "more"] (qu K a):=by
 have bv:=VT (P:=P) (w:=w) (base:=base) T hw;refine T.ay.ok Vr (fun vs H Q E h=>?_) (fun lM A outer s H vs Q E hr h=>?_)
 ·obtain⟨ls,l1,l2,p,m,L,M,f,g,rfl,_⟩:=h;rfl
 ·obtain⟨ls,l1,l2,p,m,L,M,f,g,rfl,hs,h1,h2,tl,tm,b1,b2,b3,k⟩:=h;refine⟨_,(@Za _ _ _ _ _ (@Zp _ _ (3) _ _ _ _ Vr.nd rfl (Or.inl rfl) (@ZO _ _ _ _ _ _ _ _ WA (Zn (ve rfl) rfl T.lp PyProof.Rows.Boot.«max» (@Zk _ _ _ _ _ (Zn (Zy (K:=K) rfl) rfl T.aB sA (@Zd _ _ _ (@Zz _ _ _ _ _ _ _ (Zs (K:=K) rfl) (pv 0) Zf (fun _ _=>rfl)) (by rfl))) (@Zd _ _ _ (Zn (Zy (K:=K) rfl) rfl T.aB sA (@Zd _ _ _ (@Zz _ _ _ _ _ _ _ (Zs (K:=K) rfl) (pv 0) Zf (fun _ _=>rfl)) (by rfl))) (by rfl)) (by rfl))) (pv 2)) (by rfl) (by exact .inl rfl)) (@Zg _ _ _ (@Zm _ _ _ _ (JS (K:=K) rfl rfl rfl T.fe rfl T.lF (@Zk _ _ _ _ _ (Zl bv (hr.mono (by decide)) rfl T.cg T.bu.kp T.ce .nil Zv (@ZI _ _ _ _ _ (@Zz _ _ _ _ _ _ _ (Zs (K:=K) rfl) (pv 0) Zf (fun _ _=>rfl)) (@ZI _ _ _ _ _ (pv 3) (@Yh _ _ _ (pv 1) (by rfl)) (by rfl)) (by rfl))) (@Zd _ _ _ (Zl bv (hr.mono (by decide)) rfl T.cg T.bu.kp T.ce .nil Zv (@ZI _ _ _ _ _ (@Zz _ _ _ _ _ _ _ (Zs (K:=K) rfl) (pv 0) Zf (fun _ _=>rfl)) (@ZI _ _ _ _ _ (pv 3) (@Yh _ _ _ (pv 1) (by rfl)) (by rfl)) (by rfl))) (by rfl)) (by rfl)))))),?_⟩;refine⟨_,rfl,ls,_,_,_,rfl,rfl,SqL.of hs,Zi (j:=0) rfl,.inl ⟨l1,_,rfl,.inl (SqL.of h1),_,rfl,ls,_,_,_,rfl,rfl,SqL.of hs,Zi (j:=1) rfl,.inl ⟨l2,_,rfl,.inl (SqL.of h2),_,_,rfl,?_⟩⟩⟩;rw[lQ,lQ];have em:(if((M.length:Nat):Int)>((L.length:Nat):Int) then((M.length:Nat):Int) else((L.length:Nat):Int))=((max L.length M.length:Nat):Int):=by split<;>omega
  rw[em];have em2:((max L.length M.length:Nat):Int)+(m:Nat)=((max L.length M.length+m:Nat):Int):=by omega
  refine⟨_,rfl,_,_,rfl,rfl,?_⟩;rw[em2];refine⟨_,rfl,ls,_,_,_,rfl,rfl,SqL.of hs,Zi (j:=0) rfl,_,rfl,_,rfl,l1,max L.length M.length+m,p,L,f,rfl,h1,tl,by omega,by omega,fun H1 q1 L' s1 q10 e1 tl' ll'=>?_⟩;refine⟨_,rfl,ls,_,_,_,rfl,rfl,SqL.of (s1 _ _ hs),Zi (j:=1) rfl,_,rfl,_,rfl,l2,max L.length M.length+m,p,M,g,rfl,s1 _ _ h2,tm,by omega,by omega,fun H2 q2 M' s2 q20 e2 tm' lm'=>?_⟩;refine⟨q1,q2,_,_,rfl,SqL.of (s2 _ _ e1),SqL.of e2,by rw[lQ,lQ];omega,fun H3 q3 zs s3 q30 e3 ez hz=>?_⟩;have lz:(L'.zip M').length=zs.length:=by
   have:=my List.length ez;rw[lQ,o7,lQ,lQ] at this;rw[o7];omega
  have ez2:zs.map Prod.snd=(L'.zip M').map fun x=>(V.bl x.1,V.bl x.2):=by
   rw[ez,List.zip_map];rfl
  refine k H3 q3 ((zs.map Prod.fst).zip (L'.zip M')) L' M' (s1.trans (s2.trans s3)) ((s1.trans s2).free q30) (by rw[e3,List.map_fst_zip (by rw[lQ];omega)]) (fun x hx=>?_) (by rw[List.map_snd_zip (by rw[lQ];omega)]) tl' tm' (by omega) (by omega);obtain⟨j,hj,ej⟩:=m7 hx;rw[o7,lQ] at hj;rw[ri,oq] at ej;have hjz:j<zs.length:=by omega
  obtain⟨q,eq,gq⟩:=hz _ (mH hjz);have e1:zs[j].1=x.1:=my Prod.fst ej;have e2:(L'.zip M')[j]'(by omega)=x.2:=my Prod.snd ej;have e4:zs[j].2=(V.bl x.2.1,V.bl x.2.2):=by
   have:(zs.map Prod.snd)[j]?=((L'.zip M').map fun x=>(V.bl x.1,V.bl x.2))[j]?:=by rw[ez2]
   rw[mh,mh,lU hjz,lU (show j<(L'.zip M').length by omega),e2] at this;exact mv this
  refine⟨q,by rw[<- e1];exact eq,?_⟩;rw[e4] at gq;exact gq
def zq(K:W.Frag)(a:Adr):Sp:=fun vs H Q _=>∃(ls l1:Addr) (p:Nat) (L:List Bool) (f:Nat->Bool),vs=[.ref ls,.int (p:Nat)]/\H ls=some (.lst [.ref l1])/\H l1=some (.lst (L.map V.bl))/\ZM p L f/\L.length<=50000/\∀H' q (L':List Bool),Zh H H'->H' q=some (.lst (L'.map V.bl))->ZM p L' (fun k=>!f k)->L'.length<=L.length->Q (.ref q) H'
theorem jX(T:Txt K mg a)(hw:w.params=a.Pm):Z2 P w K mg base CX0 1 a.not_line a.cR ["lines", "size"] (zq K a):=by
 refine T.fq.ok kH (fun vs H Q E h=>?_) (fun lM A outer s H vs Q E hr h=>?_)
 ·obtain⟨ls,l1,p,L,f,rfl,_⟩:=h;rfl
 ·obtain⟨ls,l1,p,L,f,rfl,hs,h1,tl,b1,k⟩:=h;refine⟨_,(@Zg _ _ _ (@Zm _ _ _ _ (Yu (Nc:=["truth"]) (ix:=[none]) (ZY.of (by decide +kernel:Z5 (Zc XB) ["lines", "size"] ["truth"] [none] _=true)) rfl (Yk (K:=K) rfl (@Zz _ _ _ _ _ _ _ (Zs (K:=K) rfl) (pv 0) Zf (fun _ _=>rfl))) (fun _ _ _ _ _=>(ZA (i:=0) (show List.Nodup (["truth"]:List Str) by decide +kernel) rfl (Or.inl rfl))) (fun _ _ _ _ _=>YN) (fun _ _ _ _ _=>(pe_not (pv 0)))))),?_⟩;refine⟨_,rfl,ls,_,_,_,rfl,rfl,SqL.of hs,Zi (j:=0) rfl,l1,rfl,⟨_,SqL.of h1⟩,fun D hD=>?_⟩;refine yN L V.bl (fun b=>.bl (!b)) hD (SqL.of h1) (by rw[lV];omega) ?_ ?_
  ·intro b hb G N sG hN;exact⟨_,rfl,_,rfl,hN _ (.refl _)⟩
  intro H1 e1 s1;refine k H1 D (L.map Bool.not) s1 (by rw[e1,nu];rfl) tl.not (by rw[lQ];exact lS _)
def qG(K:W.Frag)(a:Adr):Sp:=fun vs H Q _=>∃(ls l1:Addr) (p:Nat) (L:List Bool) (f:Nat->Bool),vs=[.ref ls,.int (p:Nat)]/\H ls=some (.lst [.ref l1])/\H l1=some (.lst (L.map V.bl))/\ZM p L f/\L.length<=50000/\∀H' q (L':List Bool),Zh H H'->H' q=some (.lst (L'.map V.bl))->ZM p L' (fun k=>f (k+1))->L'.length<=L.length->Q (.ref q) H'
theorem vQ(T:Txt K mg a)(hw:w.params=a.Pm):Z2 P w K mg base CX0 2 a.next_line a.cE ["lines", "size"] (qG K a):=by
 have bv:=VT (P:=P) (w:=w) (base:=base) T hw;refine T.eE.ok vO (fun vs H Q E h=>?_) (fun lM A outer s H vs Q E hr h=>?_)
 ·obtain⟨ls,l1,p,L,f,rfl,_⟩:=h;rfl
 ·obtain⟨ls,l1,p,L,f,rfl,hs,h1,tl,b1,k⟩:=h;refine⟨_,(@Zg _ _ _ (@Zm _ _ _ _ (ZS (Yo (K:=K) rfl) (Zl bv (hr.mono (by decide)) rfl T.cg T.bu.kp T.ce .nil Zv (@ZI _ _ _ _ _ (@Zz _ _ _ _ _ _ _ (Zs (K:=K) rfl) (pv 0) Zf (fun _ _=>rfl)) (@ZI _ _ _ _ _ (@ZO _ _ _ _ _ _ _ _ WA (Zn (Zy (K:=K) rfl) rfl T.aB sA (@Zd _ _ _ (@Zz _ _ _ _ _ _ _ (Zs (K:=K) rfl) (pv 0) Zf (fun _ _=>rfl)) (by rfl))) Zf) (@Yh _ _ _ (pv 1) (by rfl)) (by rfl)) (by rfl))) (ZX Zf) Yb))),?_⟩;have em:((L.length:Nat):Int)+1=((L.length+1:Nat):Int):=by omega
  refine⟨_,rfl,ls,_,_,_,rfl,rfl,SqL.of hs,Zi (j:=0) rfl,_,rfl,ls,_,_,_,rfl,rfl,SqL.of hs,Zi (j:=0) rfl,.inl ⟨l1,_,rfl,.inl (SqL.of h1),_,_,rfl,rfl,_,rfl,l1,L.length+1,p,L,f,by rw[lQ,em];rfl,h1,tl,by omega,by omega,fun H1 q1 L' s1 q10 e1 tl' ll'=>?_⟩⟩;refine⟨1,rfl,q1,_,rfl,SqL.of e1,fun q hq=>?_⟩;have l1':L'.length=L.length+1:=by omega
  have ec:=Xu (L'.map V.bl) 1 (by rw[lQ];omega);rw[show((1:Nat):Int)=1 from rfl] at ec;rw[ec,<- pE];exact k _ q (L'.drop 1) (s1.trans (Ze hq)) Zb (tl'.next l1' tl.le tl.more) (by rw[mL];omega)
def Uq(K:W.Frag)(a:Adr):Sp:=fun vs H Q _=>∃(ls l1:Addr) (p:Nat) (L:List Bool) (f:Nat->Bool),vs=[.ref ls,.int (p:Nat)]/\H ls=some (.lst [.ref l1])/\H l1=some (.lst (L.map V.bl))/\ZM p L f/\L.length<=50000/\∀H' q (L':List Bool),Zh H H'->H' q=some (.lst (L'.map V.bl))->ZM p L' (befB f)->L'.length<=L.length+1->Q (.ref q) H'
theorem yi(T:Txt K mg a)(hw:w.params=a.Pm):Z2 P w K mg base CX0 1 a.before_line a.bB ["lines", "size"] (Uq K a):=by
 refine T.de.ok yr (fun vs H Q E h=>?_) (fun lM A outer s H vs Q E hr h=>?_)
 ·obtain⟨ls,l1,p,L,f,rfl,_⟩:=h;rfl
 ·obtain⟨ls,l1,p,L,f,rfl,hs,h1,tl,b1,k⟩:=h;refine⟨_,(@Zg _ _ _ (@Zm _ _ _ _ (@ZO _ _ _ _ _ _ _ _ Vi (@Yc _ _ _ _ (@Zd _ _ _ Vj (by rfl))) (@Zz _ _ _ _ _ _ _ (Zs (K:=K) rfl) (pv 0) Zf (fun _ _=>rfl))))),?_⟩;refine⟨sz1,fun D hD=>?_⟩;obtain⟨H1,qN,s1,e1⟩:=ZU (o:=.lst [.bl false]) hD;rw[qN];clear qN;refine⟨_,rfl,ls,_,_,_,rfl,rfl,SqL.of (s1 _ _ hs),Zi (j:=0) rfl,D,l1,_,_,rfl,rfl,e1,s1 _ _ h1,by rw[lQ,lV];show 1+L.length<=16777216;omega,fun q hq=>?_⟩;exact k _ q (false::L) (s1.trans (Ze hq)) Zb tl.before (lS _)
theorem zip_at{z:List (V×(Bool×Bool))}{L M:List Bool}{f g:Nat->Bool}{p m:Nat}(ez:z.map Prod.snd=L.zip M)(tl:ZM p L f)(tm:ZM p M g)(hl:L.length=m)(hm:M.length=m):z.length=m/\∀j,(h:j<z.length)->z[j].2=(f j,g j):=by
 have lz:z.length=m:=by
  have:=my List.length ez;rw[lQ,o7] at this;omega
 refine⟨lz,fun j h=>?_⟩;have:(z.map Prod.snd)[j]?=(L.zip M)[j]?:=by rw[ez]
 rw[mh,lU h,(List.getElem?_zip_eq_some (z:=(f j,g j))).mpr ⟨tl.get (by omega),tm.get (by omega)⟩] at this;exact mv this
theorem ZM.rng{p m:Nat}{f:Nat->Bool}(p1:1<=p)(le:p<=m)(more:∀k,m<=k->f k=f (k-p)):ZM p ((List.range m).map f) f:=
 .of p1 (by rw[lQ,mZ]) le (fun k h=>by rw[mh,ro h];rfl) more
theorem yj{α:Type}(f:Nat->α)(n:Nat):(List.range (n+1)).map f=(List.range n).map f++[f n]:=by rw[List.range_succ,mB];rfl
def zD(K:W.Frag)(a:Adr):Sp:=fun vs H Q _=>∃(ls l1 l2:Addr) (p:Nat) (L M:List Bool) (f g:Nat->Bool),vs=[.ref ls,.int (p:Nat)]/\H ls=some (.lst [.ref l1,.ref l2])/\H l1=some (.lst (L.map V.bl))/\H l2=some (.lst (M.map V.bl))/\ZM p L f/\ZM p M g/\L.length<=50000/\M.length<=50000/\∀H' q (L':List Bool),Zh H H'->H' q=some (.lst (L'.map V.bl))->ZM p L' (fun k=>f k&&g k)->L'.length<=max L.length M.length->Q (.ref q) H'
theorem kc(T:Txt K mg a)(hw:w.params=a.Pm):Z2 P w K mg base CX0 3 a.and_line a.cS ["lines", "size"] (zD K a):=by
 have az:=Wp (P:=P) (w:=w) (base:=base) T hw;refine T.ft.ok kC (fun vs H Q E h=>?_) (fun lM A outer s H vs Q E hr h=>?_)
 ·obtain⟨ls,l1,l2,p,L,M,f,g,rfl,_⟩:=h;rfl
 ·obtain⟨ls,l1,l2,p,L,M,f,g,rfl,hs,h1,h2,tl,tm,b1,b2,k⟩:=h;refine⟨_,(@Zg _ _ _ (@Zm _ _ _ _ (Yu (Nc:=["one", "other"]) (ix:=[none,none]) (ZY.of (by decide +kernel:Z5 (Zc XA) ["lines", "size"] ["one", "other"] [none,none] _=true)) rfl (Yk (K:=K) rfl (Zl az (hr.mono (by decide)) rfl T.aZ T.ay.kp T.aY .nil Zv (@ZI _ _ _ _ _ (pv 0) (@ZI _ _ _ _ _ (pv 1) (@Yh _ _ _ Zf (by rfl)) (by rfl)) (by rfl)))) (fun _ _ _ _ _=>(V5 (K:=K) (n:=2) rfl rfl (YV (ZA (i:=0) (show List.Nodup (["one", "other"]:List Str) by decide +kernel) rfl (Or.inl rfl)) (YV (ZA (i:=1) (show List.Nodup (["one", "other"]:List Str) by decide +kernel) rfl (Or.inl rfl)) VQ)))) (fun _ _ _ _ _=>YN) (fun _ _ _ _ _=>(Wl (pv 0) (Wa (pv 1))))))),?_⟩;refine⟨_,rfl,_,rfl,ls,l1,l2,p,0,L,M,f,g,rfl,hs,h1,h2,tl,tm,b1,b2,by decide,fun H1 P z L' M' s1 P0 e1 bp ez tl' tm' ll lm=>⟨P,rfl,⟨_,SqL.of e1⟩,fun D hD=>?_⟩⟩;rw[Nat.add_zero] at ll lm;obtain⟨lz,hz⟩:=zip_at ez tl' tm' ll lm;have le:=tl'.le;refine Xv (J:=Itl K P) (n:=z.length) (fun i σ G=>∃y1 y2:Option V,σ=[y1,y2]/\Zh H1 G/\G D=some (.lst (((List.range i).map fun k=>f k&&g k).map V.bl))) ?_ ?_ ?_ ?_ ?_
  ·exact⟨_,_,rfl,Ze hD,Zb⟩
  ·rintro i σ G hi ⟨y1,y2,rfl,sG,_⟩;exact⟨_,_,SqL.of (sG _ _ e1),by rw[mh,lU hi];rfl⟩
  ·rintro σ G ⟨y1,y2,rfl,sG,_⟩;exact⟨_,SqL.of (sG _ _ e1),by rw[lQ];exact lS _⟩
  ·rintro i x σ G0 G hi ⟨y1,y2,rfl,sG,gD⟩ ⟨rfl,hx⟩ N N0 hN hN0;have ex:=hx _ (SqL.of (sG _ _ e1));rw[mh,lU hi] at ex;have ex':x=z[i].1:=(mv ex).symm;subst ex';obtain⟨q,eq,gq⟩:=bp _ (mH hi);rw[hz i hi] at gq;rw[eq];refine⟨q,_,rfl,SqT.of (sG _ _ gq),rfl,_,_,rfl,_,_,rfl,rfl,?_⟩;refine Ui (te:=tAndV (tVar 0) (tVar 1)) (σ:=[some (.bl (f i)),some (.bl (g i))]) (H:=G) (N:=fun v H5=>N v [some (.bl (f i)),some (.bl (g i))] H5) (N0:=fun H4=>N0 [some (.bl (f i)),some (.bl (g i))] H4) ?_;have go:N (.bl (f i&&g i)) [some (.bl (f i)),some (.bl (g i))] G:=by
    refine hN _ _ G _ gD (by rw[lQ,lQ,mZ,lV];omega) ⟨_,_,rfl,(Zq.upd (Zh.x sG)).same hD,?_⟩;rw[Zb,yj,mB];rfl
   refine⟨_,rfl,_,rfl,WQ (fun c=>⟨_,rfl,?_⟩) (fun c=>?_)⟩
   ·rw[c,pD] at go;rw[c];exact go
   ·have c':f i=false:=by simpa using c
    rw[c',pb] at go;rw[c'];exact go
  rintro σ G ⟨y1,y2,rfl,sG,gD⟩;rw[lz] at gD;exact k G D _ (s1.trans sG) gD (ZM.rng tl.p1 (by omega) fun k hk=>by rw[tl'.more k (by omega),tm'.more k (by omega)]) (by rw[lQ,mZ];exact lS _)
def UH(K:W.Frag)(a:Adr):Sp:=fun vs H Q _=>∃(ls l1 l2:Addr) (p:Nat) (L M:List Bool) (f g:Nat->Bool),vs=[.ref ls,.int (p:Nat)]/\H ls=some (.lst [.ref l1,.ref l2])/\H l1=some (.lst (L.map V.bl))/\H l2=some (.lst (M.map V.bl))/\ZM p L f/\ZM p M g/\L.length<=50000/\M.length<=50000/\∀H' q (L':List Bool),Zh H H'->H' q=some (.lst (L'.map V.bl))->ZM p L' (WM f g)->L'.length<=max L.length M.length+p->Q (.ref q) H'
def heldB(f g:Nat->Bool):Nat->Bool
 |0=>false
 |k+1=>WM f g k
theorem held_step(f g:Nat->Bool)(k:Nat):(g k||(f k&&heldB f g k))=WM f g k:=by
 cases k with
 |zero=>show(g 0||(f 0&&false))=g 0;cases g 0<;>cases f 0<;>rfl
 |succ n=>rfl
theorem xL(T:Txt K mg a)(hw:w.params=a.Pm):Z2 P w K mg base CX0 3 a.since_line a.bU ["lines", "size"] (UH K a):=by
 have az:=Wp (P:=P) (w:=w) (base:=base) T hw;refine T.dy.ok Xx (fun vs H Q E h=>?_) (fun lM A outer s H vs Q E hr h=>?_)
 ·obtain⟨ls,l1,l2,p,L,M,f,g,rfl,_⟩:=h;rfl
 ·obtain⟨ls,l1,l2,p,L,M,f,g,rfl,hs,h1,h2,tl,tm,b1,b2,k⟩:=h;refine⟨_,(@Za _ _ _ _ _ (@Zp _ _ (2) _ _ _ _ Xx.nd rfl (Or.inl rfl) (@Yc _ _ _ _ Xd) (by rfl) (by exact .inl rfl)) (@Za _ _ _ _ _ (@Zp _ _ (3) _ _ _ _ Xx.nd rfl (Or.inl rfl) Vj (by rfl) (by exact .inl rfl)) (@Za _ _ _ _ _ (X8 m8 rfl (Yk (K:=K) rfl (Zl az (hr.mono (by decide)) rfl T.aZ T.ay.kp T.aY .nil Zv (@ZI _ _ _ _ _ (pv 0) (@ZI _ _ _ _ _ (pv 1) (@Yh _ _ _ (pv 1) (by rfl)) (by rfl)) (by rfl)))) (V5 (K:=K) (n:=2) rfl rfl (YV (ZA (i:=4) Xx.nd rfl (Or.inl rfl)) (YV (ZA (i:=5) Xx.nd rfl (Or.inl rfl)) VQ))) (@Za _ _ _ _ _ (@Zp _ _ (3) _ _ _ _ Xx.nd rfl (Or.inl rfl) (pe_or (pv 5) (Wa (Wl (pv 4) (Wa (pv 3))))) (by rfl) (by exact .inl rfl)) (@Zg _ _ _ (@YE _ _ _ _ (Wm m5 nh ni Z4 (pv 2) (@Zd _ _ _ (pv 3) (by rfl))) (by rfl))))) (@Zg _ _ _ (@Zm _ _ _ _ (pv 2)))))),?_⟩;have p1:=tl.p1;have ple:=tl.le;refine⟨by decide,fun D hD=>?_⟩;obtain⟨H1,qN,s1,e1⟩:=ZU (o:=.lst []) hD;rw[qN];clear qN;refine⟨_,rfl,_,rfl,_,rfl,ls,l1,l2,p,p,L,M,f,g,rfl,s1 _ _ hs,s1 _ _ h1,s1 _ _ h2,tl,tm,b1,b2,by omega,fun H2 P z L' M' s2 P0 e2 bp ez tl' tm' ll lm=>⟨P,rfl,⟨_,SqL.of e2⟩,?_⟩⟩;obtain⟨lz,hz⟩:=zip_at ez tl' tm' ll lm;refine X1 (J:=Itl K P) (n:=z.length) (fun i σ G=>∃z4 z5:Option V,σ=[some (.ref ls),some (.int (p:Nat)),some (.ref D),some (.bl (heldB f g i)),z4,z5]/\Zq D H2 G/\G D=some (.lst (((List.range i).map (WM f g)).map V.bl))) ?_ ?_ ?_ ?_ ?_
  ·exact⟨_,_,rfl,.refl _,s2 _ _ e1⟩
  ·rintro i σ G hi ⟨z4,z5,rfl,sG,_⟩;have nPD:P≠D:=fun e=>by rw[e,e1] at P0;cases P0
   exact⟨_,_,SqL.of (sG _ _ nPD e2),by rw[mh,lU hi];rfl⟩
  ·rintro σ G ⟨z4,z5,rfl,sG,_⟩;have nPD:P≠D:=fun e=>by rw[e,e1] at P0;cases P0
   exact⟨_,SqL.of (sG _ _ nPD e2),by rw[lQ];exact lS _⟩
  ·rintro i x σ G0 G hi ⟨z4,z5,rfl,sG,gD⟩ ⟨rfl,hx⟩;have nPD:P≠D:=fun e=>by rw[e,e1] at P0;cases P0
   have ex:=hx _ (SqL.of (sG _ _ nPD e2));rw[mh,lU hi] at ex;have ex':x=z[i].1:=(mv ex).symm;subst ex';obtain⟨q,eq,gq⟩:=bp _ (mH hi);rw[hz i hi] at gq;have gq:H2 q=some (.tup [.bl (f i),.bl (g i)]):=gq;rw[eq];have nqD:q≠D:=fun e=>by rw[e,s2 _ _ e1] at gq;cases gq
   refine⟨q,_,rfl,SqT.of (sG _ _ nqD gq),rfl,_,_,rfl,_,_,rfl,rfl,?_⟩;have go:∀b:Bool,b=WM f g i->W9 (.ref D) [.bl b] G (fun _ H1=>∃z4 z5:Option V,[some (.ref ls),some (.int (p:Nat)),some (.ref D),some (.bl b),some (.bl (f i)),some (.bl (g i))]=[some (.ref ls),some (.int (p:Nat)),some (.ref D),some (.bl (heldB f g (i+1))),z4,z5]/\Zq D H2 H1/\H1 D=some (.lst (((List.range (i+1)).map (WM f g)).map V.bl))):=fun b hb=>by
    subst hb;refine⟨D,_,_,rfl,rfl,gD,by rw[lQ,lQ,mZ,lV];omega,_,_,rfl,sG.upd,?_⟩;rw[Zb,yj,mB];rfl
   have hst:=held_step f g i;refine⟨_,rfl,_,rfl,WQ (fun c=>?_) (fun c=>⟨_,rfl,_,rfl,WQ (fun c2=>⟨_,rfl,?_⟩) (fun c2=>?_)⟩)⟩
   ·rw[c,Bool.true_or] at hst;exact⟨_,rfl,.inl ⟨rfl,_,SqL.of gD⟩,_,rfl,go true hst⟩
   ·have c':g i=false:=by simpa using c
    rw[c',c2,px,pD] at hst;exact⟨_,rfl,.inl ⟨rfl,_,SqL.of gD⟩,_,rfl,go _ hst⟩
   ·have c':g i=false:=by simpa using c
    have c2':f i=false:=by simpa using c2
    rw[c',c2',px,pb] at hst;exact⟨_,rfl,.inl ⟨rfl,_,SqL.of gD⟩,_,rfl,go _ hst⟩
  rintro σ G ⟨z4,z5,rfl,sG,gD⟩;rw[lz] at gD;have hD2:∀b o,H b=some o->G b=some o:=fun b o e=>sG _ _ (fun z=>by rw[z,hD] at e;cases e) ((s1.trans s2) _ _ e);refine⟨_,rfl,k G D _ hD2 gD (ZM.rng p1 (by omega) fun k hk=>?_) (by rw[lQ,mZ];exact lS _)⟩;exact sin_comes (m:=max L.length M.length) p1 (by omega) (fun j hj=>tl.more j (by omega)) (fun j hj=>tm.more j (by omega)) k (by omega)
def UM(K:W.Frag)(a:Adr):Sp:=fun vs H Q _=>∃(ls l1 l2:Addr) (p:Nat) (L M:List Bool) (f g:Nat->Bool),vs=[.ref ls,.int (p:Nat)]/\H ls=some (.lst [.ref l1,.ref l2])/\H l1=some (.lst (L.map V.bl))/\H l2=some (.lst (M.map V.bl))/\ZM p L f/\ZM p M g/\L.length<=50000/\M.length<=50000/\∀H' q (L':List Bool),Zh H H'->H' q=some (.lst (L'.map V.bl))->ZM p L' (WS f g)->L'.length<=max L.length M.length->Q (.ref q) H'
theorem back_step(f g:Nat->Bool){m i:Nat}(h:i<m):(g (m-1-i)||(f (m-1-i)&&UP f g false (m-i) i))=UP f g false (m-(i+1)) (i+1):=by
 have e1:m-(i+1)=m-1-i:=by omega
 rw[e1]
 show _=(g (m-1-i)||(f (m-1-i)&&UP f g false (m-1-i+1) i))
 have e2:m-1-i+1=m-i:=by omega
 rw[e2]
theorem unt_back(f g:Nat->Bool){m i:Nat}(h:i<m):(g (m-1-i)||(f (m-1-i)&&WS f g (m-i)))=WS f g (m-(i+1)):=by
 have e1:m-(i+1)=m-1-i:=by omega
 have e2:m-i=m-1-i+1:=by omega
 rw[e1,e2,<- Je]
theorem rev_range(f:Nat->Bool)(m:Nat):(((List.range m).map fun i=>f (m-(i+1))).map V.bl).reverse=((List.range m).map f).map V.bl:=by
 rw[<- List.map_reverse]
 congr 1
 apply rc;intro i
 by_cases hi:i<m
 ·rw[si (by rw[lQ,mZ];exact hi),mh,mh,lQ,mZ,ro (by omega),ro hi]
  show some (f (m-(m-1-i+1)))=some (f i)
  congr 2
  omega
 ·rw[oH (by rw[pL,lQ,mZ];omega),oH (by rw[lQ,mZ];omega)]
theorem xH(T:Txt K mg a)(hw:w.params=a.Pm):Z2 P w K mg base CX0 3 a.until_line a.bT ["lines", "size"] (UM K a):=by
 have az:=Wp (P:=P) (w:=w) (base:=base) T hw;refine T.dv.ok Yf (fun vs H Q E h=>?_) (fun lM A outer s H vs Q E hr h=>?_)
 ·obtain⟨ls,l1,l2,p,L,M,f,g,rfl,_⟩:=h;rfl
 ·obtain⟨ls,l1,l2,p,L,M,f,g,rfl,hs,h1,h2,tl,tm,b1,b2,k⟩:=h;refine⟨_,(@Za _ _ _ _ _ (@Zp _ _ (2) _ _ _ _ Yf.nd rfl (Or.inl rfl) (Zl az (hr.mono (by decide)) rfl T.aZ T.ay.kp T.aY .nil Zv (@ZI _ _ _ _ _ (pv 0) (@ZI _ _ _ _ _ (pv 1) (@Yh _ _ _ Zf (by rfl)) (by rfl)) (by rfl))) (by rfl) (by exact .inl rfl)) (@Za _ _ _ _ _ (@Zp _ _ (3) _ _ _ _ Yf.nd rfl (Or.inl rfl) Vj (by rfl) (by exact .inl rfl)) (@Za _ _ _ _ _ (X8 m8 rfl (zR (K:=K) rfl rfl T.cL (@Zd _ _ _ (ZS (Yo (K:=K) rfl) (pv 2) (ZX (Us Vg (pv 1))) Yb) (by rfl))) (V5 (K:=K) (n:=2) rfl rfl (YV (ZA (i:=4) Yf.nd rfl (Or.inl rfl)) (YV (ZA (i:=5) Yf.nd rfl (Or.inl rfl)) VQ))) (@Zg _ _ _ (@Zp _ _ (3) _ _ _ _ Yf.nd rfl (Or.inl rfl) (pe_or (pv 5) (Wa (Wl (pv 4) (Wa (pv 3))))) (by rfl) (by exact .inl rfl)))) (@Za _ _ _ _ _ (@Zp _ _ (6) _ _ _ _ Yf.nd rfl (Or.inl rfl) (@Yc _ _ _ _ Xd) (by rfl) (by exact .inl rfl)) (@Za _ _ _ _ _ (X8 m8 rfl (zR (K:=K) rfl rfl T.cL (@Zd _ _ _ (pv 2) (by rfl))) (V5 (K:=K) (n:=2) rfl rfl (YV (ZA (i:=4) Yf.nd rfl (Or.inl rfl)) (YV (ZA (i:=5) Yf.nd rfl (Or.inl rfl)) VQ))) (@Za _ _ _ _ _ (@Zp _ _ (3) _ _ _ _ Yf.nd rfl (Or.inl rfl) (pe_or (pv 5) (Wa (Wl (pv 4) (Wa (pv 3))))) (by rfl) (by exact .inl rfl)) (@Zg _ _ _ (@YE _ _ _ _ (Wm m5 nh ni Z4 (pv 6) (@Zd _ _ _ (pv 3) (by rfl))) (by rfl))))) (@Zg _ _ _ (@Zm _ _ _ _ (pe_revK (K:=K) rfl (pv 6) (ZX (Us Vg Zf)))))))))),?_⟩;have p1:=tl.p1;have ple:=tl.le;refine⟨_,rfl,_,rfl,ls,l1,l2,p,0,L,M,f,g,rfl,hs,h1,h2,tl,tm,b1,b2,by decide,fun H1 P z L' M' s1 P0 e1 bp ez tl' tm' ll lm=>?_⟩;rw[Nat.add_zero] at ll lm;obtain⟨lz,hz⟩:=zip_at ez tl' tm' ll lm;generalize hmm:max L.length M.length=m at ll lm lz k;have pm:p<=m:=by omega
  have hf:∀j,m<=j->f j=f (j-p):=fun j hj=>tl.more j (by omega);have hg:∀j,m<=j->g j=g (j-p):=fun j hj=>tm.more j (by omega);refine⟨_,rfl,_,rfl,_,rfl,_,rfl,P,_,rfl,SqL.of e1,fun R hR=>?_⟩;rw[cutV_neg _ p1 (by rw[lQ];omega),lQ,lz];obtain⟨H2,qN,s2,e2⟩:=ZU (o:=.lst ((z.map Prod.fst).drop (m-p))) hR;rw[qN];clear qN;have lR:((z.map Prod.fst).drop (m-p)).length=p:=by rw[mL,lQ];omega
  refine⟨R,_,rfl,SqL.of e2,?_⟩;rw[lR];have two:∀{n:Nat} (j:Nat),(hj:j<m)->∀{G:Hp},Zh H1 G->∃q,z[j]'(by omega)=(.ref q,(f j,g j))/\G q=some (.tup [.bl (f j),.bl (g j)]):=fun {_} j hj {G} sG=>by
   obtain⟨q,eq,gq⟩:=bp _ (mH (show j<z.length by omega));rw[hz j (by omega)] at gq;exact⟨q,Prod.ext eq (hz j (by omega)),sG _ _ gq⟩
  refine X1 (J:=Itv K R p) (n:=p) (fun i σ G=>∃z4 z5:Option V,σ=[some (.ref ls),some (.int (p:Nat)),some (.ref P),some (.bl (UP f g false (m-i) i)),z4,z5,none]/\Zh H2 G) ?_ ?_ (fun σ G _=>lS _) ?_ ?_
  ·exact⟨_,_,rfl,.refl _⟩
  ·rintro i σ G hi ⟨z4,z5,rfl,sG⟩;exact⟨hi,_,SqL.of (sG _ _ e2),lR⟩
  ·rintro i x σ G0 G hi ⟨z4,z5,rfl,sG⟩ ⟨rfl,hx⟩;have ex:=hx _ (SqL.of (sG _ _ e2));rw[re,mh,show m-p+(p-1-i)=m-1-i by omega,lU (show m-1-i<z.length by omega)] at ex;obtain⟨q,eq,gq⟩:=two (n:=0) (m-1-i) (by omega) (s2.trans sG);rw[eq] at ex;have ex':x=.ref q:=(mv ex).symm;subst ex';refine⟨q,_,rfl,SqT.of gq,rfl,_,_,rfl,_,_,rfl,rfl,?_⟩;have hst:=back_step f g (show i<m by omega);refine⟨_,rfl,_,rfl,WQ (fun c=>?_) (fun c=>⟨_,rfl,_,rfl,WQ (fun c2=>⟨_,rfl,?_⟩) (fun c2=>?_)⟩)⟩
   ·rw[c,Bool.true_or] at hst;exact⟨_,_,by rw[<- hst];rfl,sG⟩
   ·have c':g (m-1-i)=false:=by simpa using c
    rw[c',c2,px,pD] at hst;exact⟨_,_,by rw[<- hst];rfl,sG⟩
   ·have c':g (m-1-i)=false:=by simpa using c
    have c2':f (m-1-i)=false:=by simpa using c2
    rw[c',c2',px,pb] at hst;exact⟨_,_,by rw[<- hst];rfl,sG⟩
  rintro σ G ⟨z4,z5,rfl,sG⟩;rw[unt_round p1 pm hf hg];refine⟨by decide,fun D hD=>?_⟩;obtain⟨G1,qN,t1,eD⟩:=ZU (o:=.lst []) hD;rw[qN];clear qN;have s3:=s2.trans (sG.trans t1);have lP:(z.map Prod.fst).length=m:=by rw[lQ];exact lz
  refine⟨_,rfl,P,_,rfl,SqL.of (s3 _ _ e1),?_⟩;rw[lP];have nPD:P≠D:=fun e=>by rw[e] at e1;rw[(s2.trans sG) _ _ e1] at hD;cases hD
  refine X1 (J:=Itv K P m) (n:=m) (fun i σ F=>∃z4 z5:Option V,σ=[some (.ref ls),some (.int (p:Nat)),some (.ref P),some (.bl (WS f g (m-i))),z4,z5,some (.ref D)]/\Zq D G1 F/\F D=some (.lst (((List.range i).map fun j=>WS f g (m-(j+1))).map V.bl))) ?_ ?_ (fun σ G _=>lS _) ?_ ?_
  ·exact⟨_,_,rfl,.refl _,eD⟩
  ·rintro i σ F hi ⟨z4,z5,rfl,sF,_⟩;exact⟨hi,_,SqL.of (sF _ _ nPD (s3 _ _ e1)),lP⟩
  ·rintro i x σ F0 F hi ⟨z4,z5,rfl,sF,gD⟩ ⟨rfl,hx⟩;have ex:=hx _ (SqL.of (sF _ _ nPD (s3 _ _ e1)));rw[mh,lU (show m-1-i<z.length by omega)] at ex;obtain⟨q,eq,gq⟩:=two (n:=0) (m-1-i) (by omega) (.refl H1);rw[eq] at ex;have ex':x=.ref q:=(mv ex).symm;subst ex';have nqD:q≠D:=fun e=>by rw[e] at gq;rw[(s2.trans sG) _ _ gq] at hD;cases hD
   refine⟨q,_,rfl,SqT.of (sF _ _ nqD (s3 _ _ gq)),rfl,_,_,rfl,_,_,rfl,rfl,?_⟩;have go:∀b:Bool,b=WS f g (m-(i+1))->W9 (.ref D) [.bl b] F (fun _ F1=>∃z4 z5:Option V,[some (.ref ls),some (.int (p:Nat)),some (.ref P),some (.bl b),some (.bl (f (m-1-i))),some (.bl (g (m-1-i))),some (.ref D)]=[some (.ref ls),some (.int (p:Nat)),some (.ref P),some (.bl (WS f g (m-(i+1)))),z4,z5,some (.ref D)]/\Zq D G1 F1/\F1 D=some (.lst (((List.range (i+1)).map fun j=>WS f g (m-(j+1))).map V.bl))):=fun b hb=>by
    subst hb;refine⟨D,_,_,rfl,rfl,gD,by rw[lQ,lQ,mZ,lV];omega,_,_,rfl,sF.upd,?_⟩;rw[Zb,yj,mB];rfl
   have hst:=unt_back f g (show i<m by omega);refine⟨_,rfl,_,rfl,WQ (fun c=>?_) (fun c=>⟨_,rfl,_,rfl,WQ (fun c2=>⟨_,rfl,?_⟩) (fun c2=>?_)⟩)⟩
   ·rw[c,Bool.true_or] at hst;exact⟨_,rfl,.inl ⟨rfl,_,SqL.of gD⟩,_,rfl,go true hst⟩
   ·have c':g (m-1-i)=false:=by simpa using c
    rw[c',c2,px,pD] at hst;exact⟨_,rfl,.inl ⟨rfl,_,SqL.of gD⟩,_,rfl,go _ hst⟩
   ·have c':g (m-1-i)=false:=by simpa using c
    have c2':f (m-1-i)=false:=by simpa using c2
    rw[c',c2',px,pb] at hst;exact⟨_,rfl,.inl ⟨rfl,_,SqL.of gD⟩,_,rfl,go _ hst⟩
  rintro σ F ⟨z4,z5,rfl,sF,gD⟩;refine⟨_,rfl,_,rfl,_,rfl,D,_,rfl,rfl,SqL.of gD,fun q hq=>?_⟩;rw[rev_range];have hHF:Zh H F:=fun b o e=>sF _ _ (fun w=>by rw[w] at e;rw[(s1.trans (s2.trans sG)) _ _ e] at hD;cases hD) ((s1.trans s3) _ _ e);exact k _ q _ (hHF.trans (Ze hq)) Zb (ZM.rng p1 pm (unt_comes pm hf hg)) (by rw[lQ,mZ];exact lS _)
theorem kids8{c:Lb}{n:Nat}(h:XV c n):n<=8:=by
 cases c with
 |yes=>have:n=0:=h;omega
 |sign z=>have:=h.1;omega
 |op w=>rcases h with h|h<;>omega
 |wit m=>have:=h.2;omega
 |many w=>exact h.2
def LFam(K:W.Frag)(a:Adr):Addr->Sp->Prop:=fun f sp=>(f=a.not_line/\sp=zq K a)\/(f=a.and_line/\sp=zD K a)\/(f=a.next_line/\sp=qG K a)\/(f=a.until_line/\sp=UM K a)\/(f=a.before_line/\sp=Uq K a)\/(f=a.since_line/\sp=UH K a)
def zF(K:W.Frag)(H:Hp)(d:WD)(st:Tr->List Int)(ts:List Tr)(j:Nat)(v:V)(t:Tr):Prop:=
 if qO t=true then ∃(b tb:Addr),v=.ref b/\SqT K H b [.str "at",.ref tb]/\SqT K H tb (((List.range d.signs.length).map fun r:Nat=>Wu d st t (r:Nat)).map V.bl)
 else ∃(b:Addr) (is:List Nat),v=.ref b/\SqT K H b (.str (ZT t.lb)::is.map fun i:Nat=>V.int (i:Nat))/\is.length=t.ks.length/\∀(i:Nat) k m,t.ks[i]?=some k->is[i]?=some m->m<j/\ts[m]?=some k
theorem zF.mono{K:W.Frag}{H H':Hp}{d:WD}{st:Tr->List Int}{ts:List Tr}{j:Nat}{v:V}{t:Tr}(s:YL H H')(h:zF K H d st ts j v t):zF K H' d st ts j v t:=by
 unfold zF at h ⊢
 by_cases c:qO t=true
 ·rw[if_pos c] at h ⊢;obtain⟨b,tb,e,g1,g2⟩:=h;exact⟨b,tb,e,s _ _ _ g1,s _ _ _ g2⟩
 ·rw[if_neg c] at h ⊢;obtain⟨b,is,e,g1,g2⟩:=h;exact⟨b,is,e,s _ _ _ g1,g2⟩
structure Grnd(K:W.Frag)(H:Hp)(d:WD)(st:Tr->List Int)(ts:List Tr)(rv:List V):Prop where
 len:rv.length=ts.length
 row:∀(j:Nat) v t,rv[j]?=some v->ts[j]?=some t->zF K H d st ts j v t
 c:∀t∈ts,isC t=true/\XV t.lb t.ks.length
def LinesAt(H:Hp)(d:WD)(st:Tr->List Int)(rm:Nat->Int)(p n0:Nat)(ts:List Tr)(vs:List V):Prop:=vs.length<=ts.length/\∀(j:Nat) v t,vs[j]?=some v->ts[j]?=some t->∃l L,v=.ref l/\H l=some (.lst (L.map V.bl))/\ZM p L (Xq d st rm t)/\L.length<=n0+(j+1)*(p+1)
structure Ua(H:Hp)(rn:Addr)(n:Nat)(way ring:List Int):Prop where
 ex:∃W G,H rn=some (.tup [.ref W,.ref G])/\H W=some (.lst (way.map V.int))/\H G=some (.lst (ring.map V.int))
 ne:ring≠[]
 b:∀x∈way++ring,0<=x/\x<(n:Nat)
theorem Ua.mono{H H':Hp}{rn:Addr}{n:Nat}{way ring:List Int}(s:Zh H H')(h:Ua H rn n way ring):Ua H' rn n way ring:=by
 obtain⟨W,G,h1,h2,h3⟩:=h.ex;exact⟨⟨W,G,s _ _ h1,s _ _ h2,s _ _ h3⟩,h.ne,h.b⟩
def jq(K:W.Frag)(a:Adr):Sp:=fun vs H Q _=>∃(R rn:Addr) (m:Nat) (rv:List V) (ts:List Tr) (t:Tr) (d:WD) (st:Tr->List Int) (way ring:List Int),vs=[.ref R,.ref rn,.int (m:Nat)]/\H R=some (.lst rv)/\Grnd K H d st (ts++[t]) rv/\Ua H rn d.signs.length way ring/\m<=50000/\(way++ring).length+(ts.length+1)*(ring.length+1)<=50000/\∀H' q,Zh H H'->H q=none->H' q=some (.lst (((List.range m).map (Xq d st (Xk way ring) t)).map V.bl))->Q (.ref q) H'
theorem jx(T:Txt K mg a)(hw:w.params=a.Pm):Z2 P w K mg base CX0 4 a.read_rows a.cC ["rows", "run", "many"] (jq K a):=by
 have i6:=Jo (P:=P) (w:=w) (base:=base) T hw;have bv:=VT (P:=P) (w:=w) (base:=base) T hw;have iS:=jX (P:=P) (w:=w) (base:=base) T hw;have iT:=kc (P:=P) (w:=w) (base:=base) T hw;have iE:=vQ (P:=P) (w:=w) (base:=base) T hw;have ii:=xH (P:=P) (w:=w) (base:=base) T hw;have gX:=yi (P:=P) (w:=w) (base:=base) T hw;have ij:=xL (P:=P) (w:=w) (base:=base) T hw;refine T.eB.ok YC (fun vs H Q E h=>?_) (fun lM A outer s H vs Q E hr h=>?_)
 ·obtain⟨R,rn,m,rv,ts,t,d,st,way,ring,rfl,_⟩:=h;rfl
 ·obtain⟨R,rn,m,rv,ts,t,d,st,way,ring,rfl,hR,gr,ru,hm,hbig,k⟩:=h;refine⟨_,(@Za _ _ _ _ _ (ps_asg (pv 1) (V5 (K:=K) (n:=2) rfl rfl (YV (ZA (i:=3) YC.nd rfl (Or.inl rfl)) (YV (ZA (i:=4) YC.nd rfl (Or.inl rfl)) VQ)))) (@Za _ _ _ _ _ (@Zp _ _ (5) _ _ _ _ YC.nd rfl (Or.inl rfl) (Zn (Zy (K:=K) rfl) rfl T.aB sA (@Zd _ _ _ (pv 4) (by rfl))) (by rfl) (by exact .inl rfl)) (@Za _ _ _ _ _ (@Zp _ _ (6) _ _ _ _ YC.nd rfl (Or.inr rfl) (@Yc _ _ _ _ Xd) (by rfl) (by exact .inl rfl)) (@Za _ _ _ _ _ (X8 m8 rfl (Yk (K:=K) rfl (pv 0)) (ZA (i:=7) YC.nd rfl (Or.inr rfl)) (@Za _ _ _ _ _ (@ZV _ _ _ _ _ _ _ _ (@Zx _ _ _ _ _ _ _ _ Yw (@Zz _ _ _ _ _ _ _ (ZR (K:=K) rfl) (pv 7) Zf (fun _ _=>rfl)) Zt (ZF _)) (@Zg _ _ _ (WP (i:=8) YC.nd rfl rfl (Nc:=["room", "row"]) (ix:=[none,some 7]) (ZY.of (by decide +kernel:Z5 (Zc YU) ["rows", "run", "many", "way", "ring", "size", "lines", "row", "line", "deed"] ["room", "row"] [none,some 7] _=true)) rfl (Yk (K:=K) rfl (@ZO _ _ _ _ _ _ _ _ Vi (pv 3) (pv 4))) (fun _ _ _ _ _=>(ZA (i:=0) (show List.Nodup (["room", "row"]:List Str) by decide +kernel) rfl (Or.inl rfl))) (fun _ _ _ _ _=>YN) (fun _ _ _ _ _=>(@Zz _ _ _ _ _ _ _ (ZR (K:=K) rfl) (@Zz _ _ _ _ _ _ _ (ZR (K:=K) rfl) (pv 1) Zf (fun _ _=>rfl)) (pv 0) (fun _ _=>rfl))))) (@Za _ _ _ _ _ (@Zp _ _ (9) _ _ _ _ YC.nd rfl (Or.inl rfl) (@Zz _ _ _ _ _ _ _ (ix_dicF (K:=K) (P:=a.Pm) rfl hw) (Vv (v:=.ref a.D_LINES) rfl ⟨_,T.iZ,rfl⟩) (@Zz _ _ _ _ _ _ _ (ZR (K:=K) rfl) (pv 7) Zf (fun _ _=>rfl)) (fun _ _=>rfl)) (by rfl) (by exact .inl rfl)) (@Zg _ _ _ (@Zp _ _ (8) _ _ _ _ YC.nd rfl (Or.inl rfl) (pe_callV (show FamOk _ (LFam K a) from fun f sp h=>by rcases h with⟨rfl,rfl⟩|⟨rfl,rfl⟩|⟨rfl,rfl⟩|⟨rfl,rfl⟩|⟨rfl,rfl⟩|⟨rfl,rfl⟩;exact⟨_,_,_,iS,hr.mono (by decide),T.fq.kp,T.gG⟩;exact⟨_,_,_,iT,hr.mono (by decide),T.ft.kp,T.gH⟩;exact⟨_,_,_,iE,hr.mono (by decide),T.eE.kp,T.gm⟩;exact⟨_,_,_,ii,hr.mono (by decide),T.dv.kp,T.fA⟩;exact⟨_,_,_,gX,hr.mono (by decide),T.de.kp,T.eU⟩;exact⟨_,_,_,ij,hr.mono (by decide),T.dy.kp,T.fB⟩) Zv (pv 9) (@Zk _ _ _ _ _ (Yu (Nc:=["place", "lines"]) (ix:=[none,some 6]) (ZY.of (by decide +kernel:Z5 (Zc YU) ["rows", "run", "many", "way", "ring", "size", "lines", "row", "line", "deed"] ["place", "lines"] [none,some 6] _=true)) rfl (jk (K:=K) rfl (ZS (VR (K:=K) rfl) (pv 7) (ZX Zf) Yb)) (fun _ _ _ _ _=>(ZA (i:=0) (show List.Nodup (["place", "lines"]:List Str) by decide +kernel) rfl (Or.inl rfl))) (fun _ _ _ _ _=>YN) (fun _ _ _ _ _=>(@Zz _ _ _ _ _ _ _ (Zs (K:=K) rfl) (pv 1) (pv 0) (fun _ _=>rfl)))) (@Zd _ _ _ (pv 5) (by rfl)) (by rfl))) (by rfl) (by exact .inl rfl))))) (@Zg _ _ _ (@YE _ _ _ _ (Wm m5 nh ni Z4 (pv 6) (@Zd _ _ _ (Zl i6 (hr.mono (by decide)) rfl T.h9 T.gk.kp T.hZ .nil Zv (@Zk _ _ _ _ _ (pv 8) (@Zd _ _ _ (pv 5) (by rfl)) (by rfl))) (by rfl))) (by rfl))))) (@Zg _ _ _ (@Zm _ _ _ _ (ZS (Yo (K:=K) rfl) (Zl bv (hr.mono (by decide)) rfl T.cg T.bu.kp T.ce .nil Zv (@ZI _ _ _ _ _ (@Zz _ _ _ _ _ _ _ (Zs (K:=K) rfl) (pv 6) (Us Vg Zf) (fun _ _=>rfl)) (@ZI _ _ _ _ _ (pv 2) (@Yh _ _ _ (pv 5) (by rfl)) (by rfl)) (by rfl))) Yb (ZX (pv 2))))))))),?_⟩;obtain⟨W,G,hrn,hW,hG⟩:=ru.ex;have l0:0<ring.length:=pB fun e=>ru.ne (o6 e);generalize hp:ring.length=p at l0 hbig;have lts:(ts++[t]).length=ts.length+1:=by rw[lW];rfl
  have lrv:=gr.len;refine⟨_,rfl,rn,_,rfl,SqT.of hrn,rfl,_,_,rfl,_,_,rfl,rfl,?_⟩;refine⟨_,rfl,.inl ⟨G,_,rfl,.inl (SqL.of hG),?_⟩⟩;rw[lQ,hp];refine⟨by decide,fun LN hLN=>?_⟩;obtain⟨H1,qN,s1,e1⟩:=ZU (o:=.lst []) hLN;rw[qN];clear qN;refine⟨_,rfl,R,rfl,⟨_,SqL.of (s1 _ _ hR)⟩,?_⟩;have keep:∀{F:Hp},Zq LN H1 F->Zh H F:=fun {F} sF b o e=>sF _ _ (fun z=>by rw[z,hLN] at e;cases e) (s1 _ _ e);refine X1 (J:=Itl K R) (n:=rv.length) (fun j σ F=>∃(z6 z7 z8:Option V) (vs:List V),σ=[some (.ref R),some (.ref rn),some (.int (m:Nat)),some (.ref W),some (.ref G),some (.int (p:Nat)),some (.ref LN),z6,z7,z8]/\Zq LN H1 F/\F LN=some (.lst vs)/\vs.length=j/\(∀v∈vs,v≠.ref LN)/\LinesAt F d st (Xk way ring) p (way++ring).length (ts++[t]) vs) ?_ ?_ ?_ ?_ ?_
  ·exact⟨_,_,_,[],rfl,.refl _,e1,rfl,(fun v hv=>by cases hv),mN _,fun j v t h=>by simp at h⟩
  ·rintro j σ F hj ⟨z6,z7,z8,vs,rfl,sF,_⟩;exact⟨_,_,SqL.of (keep sF _ _ hR),lU hj⟩
  ·rintro σ F ⟨z6,z7,z8,vs,rfl,sF,_⟩;exact⟨_,SqL.of (keep sF _ _ hR),lS _⟩
  ·rintro j x σ F0 F hj ⟨z6,z7,z8,vs,rfl,sF,fLN,lvs,nb,la⟩ ⟨rfl,hx⟩;have ex:=hx _ (SqL.of (keep sF _ _ hR));have hjt:j<(ts++[t]).length:=by omega
   have ht:=lU hjt;have row:=(gr.row j x _ ex ht).mono (Zh.tup (keep sF));obtain⟨hc,ok⟩:=gr.c _ (mH hjt);generalize (ts++[t])[j]=u at ht row hc ok;have hjm:(j+1)*(p+1)<=(ts.length+1)*(p+1):=rb _ (by omega);have X5:∀(E':Hp) (z9:Option V) (l:Addr) (L:List Bool),Zh F E'->E' l=some (.lst (L.map V.bl))->ZM p L (Xq d st (Xk way ring) u)->L.length<=(way++ring).length+(j+1)*(p+1)->yu K a [.ref l,.int (p:Nat)] E' (fun v H2=>W9 (.ref LN) [v] H2 (fun _ H3=>∃(z6 z7 z8:Option V) (vs:List V),[some (.ref R),some (.ref rn),some (.int (m:Nat)),some (.ref W),some (.ref G),some (.int (p:Nat)),some (.ref LN),some x,some (.ref l),z9]=[some (.ref R),some (.ref rn),some (.int (m:Nat)),some (.ref W),some (.ref G),some (.int (p:Nat)),some (.ref LN),z6,z7,z8]/\Zq LN H1 H3/\H3 LN=some (.lst vs)/\vs.length=j+1/\(∀v∈vs,v≠.ref LN)/\LinesAt H3 d st (Xk way ring) p (way++ring).length (ts++[t]) vs)) (fun _ _ _=>False):=fun E' z9 l L sE el tl ll=>by
    refine⟨l,p,L,_,rfl,el,tl,by omega,fun H2 q L' s2 q0 eq tq lq=>?_⟩;have fLN2:=(sE.trans s2) _ _ fLN;have nq:q≠LN:=fun e=>by rw[e,sE _ _ fLN] at q0;cases q0
    refine⟨LN,_,_,rfl,rfl,fLN2,by rw[lvs,lV];have:j+1<=(j+1)*(p+1):=Nat.le_mul_of_pos_right _ (Nat.succ_pos _);omega,_,_,_,vs++[.ref q],rfl,?_,Zb,by rw[lW,lvs];rfl,fun v hv=>?_,?_,fun i v w e1 e2=>?_⟩
    ·exact(sF.trans (Zh.x (sE.trans s2))).upd
    ·rcases ml.mp hv with h|h
     ·exact nb v h
     ·rw[mr.mp h];exact fun e=>nq (V.ref.inj e)
    ·rw[lW,lvs];show j+1<=_;omega
    ·by_cases ci:i<vs.length
     ·rw[mQ ci] at e1;obtain⟨l',L'',ev,gl,r⟩:=la.2 i v w e1 e2;have nl:l'≠LN:=fun e=>nb v (mM e1) (by rw[ev,e]);exact⟨l',L'',ev,by rw[ZB nl];exact(sE.trans s2) _ _ gl,r⟩
     ·have hi:=(mo.mp e1).1;rw[lW,ng] at hi;have ei:i=j:=by omega
      subst ei;rw[mW (by omega),lvs,nU] at e1;cases e1;rw[ht] at e2;cases e2;exact⟨q,L',rfl,by rw[ZB nq];exact eq,tq,by omega⟩
   unfold zF at row
   by_cases cat:qO u=true
   ·rw[if_pos cat] at row;obtain⟨b,tb,rfl,g1,g2⟩:=row;refine⟨_,rfl,b,_,_,_,rfl,rfl,g1,Zi (j:=0) rfl,rfl,_,rfl,Wb rfl ?_⟩;refine⟨_,rfl,_,rfl,W,G,_,_,rfl,rfl,keep sF _ _ hW,keep sF _ _ hG,by rw[lQ,lQ,lV];rw[lW] at hbig;omega,fun C hC=>?_⟩;rw[<- mB];obtain⟨F1,qN,t1,eC⟩:=ZU (o:=.lst ((way++ring).map V.int)) hC;rw[qN];clear qN;refine⟨C,rfl,⟨_,SqL.of eC⟩,fun D hD=>?_⟩;refine yN (way++ring) V.int (fun r=>.bl (Wu d st u r)) hD (SqL.of eC) (by rw[lV];omega) ?_ ?_
    ·intro r hrm F2 N sF2 hN;obtain⟨r0,r1⟩:=ru.b r hrm;obtain⟨i,rfl⟩:=se r0;have hi:i<d.signs.length:=by omega
     refine⟨_,rfl,b,_,_,_,rfl,rfl,Zh.tup (t1.trans sF2) _ _ _ g1,Zi (j:=1) rfl,_,rfl,tb,_,_,_,rfl,rfl,Zh.tup (t1.trans sF2) _ _ _ g2,Zi (by rw[mh,mh,ro hi];rfl),hN _ (.refl _)⟩
    intro F2 eD t2;refine⟨_,rfl,.inl ⟨rfl,_,SqL.of ((t1.trans t2) _ _ fLN)⟩,_,rfl,_,rfl,X5 F2 _ D ((way++ring).map (Wu d st u)) (t1.trans t2) (by rw[eD,nu];rfl) (by rw[<- hp];exact Js cat ru.ne) (by rw[lQ];exact pC _ _)⟩
   ·rw[if_neg cat] at row;obtain⟨b,is,rfl,g1,il,hk⟩:=row;have cat':qO u=false:=by simpa using cat
    have nat':ZT u.lb ≠ "at" := by
     rcases Vf hc ok cat' with⟨w,a1,rfl,h|h|h⟩|⟨w,a1,a2,rfl,h|h⟩|⟨a1,a2,rfl⟩
     ·rw[h];exact(by decide +kernel:¬(("not" : Str) = "at"))
     ·rw[h];exact(by decide +kernel:¬(("next" : Str) = "at"))
     ·rw[h];exact(by decide +kernel:¬(("before" : Str) = "at"))
     ·rw[h];exact(by decide +kernel:¬(("until" : Str) = "at"))
     ·rw[h];exact(by decide +kernel:¬(("since" : Str) = "at"))
     ·exact(by decide +kernel:¬(("and" : Str) = "at"))
    refine⟨_,rfl,b,_,_,_,rfl,rfl,g1,Zi (j:=0) rfl,rfl,_,rfl,Z1 (fun z=>nat' (V.str.inj z)) ?_⟩;have kid:∀(i mm:Nat) (kd:Tr),u.ks[i]?=some kd->is[i]?=some mm->∃l L,vs[mm]?=some (.ref l)/\F l=some (.lst (L.map V.bl))/\ZM p L (Xq d st (Xk way ring) kd)/\L.length<=(way++ring).length+j*(p+1):=fun i mm kd e1 e2=>by
     obtain⟨h1,h2⟩:=hk i kd mm e1 e2;have hv:vs[mm]?=some vs[mm]:=lU (by omega);obtain⟨l,L,ev,gl,tl,ll⟩:=la.2 mm _ kd hv h2;have:(mm+1)*(p+1)<=j*(p+1):=rb _ h1;exact⟨l,L,by rw[hv,ev],gl,tl,by omega⟩
    have jm:(j+1)*(p+1)=j*(p+1)+(p+1):=pi _ _;have one:∀{q:Nat->Bool},q=Xq d st (Xk way ring) u->∀{L:List Bool},ZM p L q->ZM p L (Xq d st (Xk way ring) u):=fun e _ h=>e▸h;obtain⟨f,sp,mem,fam,deed⟩:∃f sp,(ZT u.lb,f)∈([("not",a.not_line),("and",a.and_line),("next",a.next_line),("until",a.until_line),("before",a.before_line),("since",a.since_line)]:List (Str×Addr))/\LFam K a f sp/\∀(F2:Hp) (D:Addr) (Q':VK),Zh F F2->F2 D=some (.lst (is.map fun i=>(vs[i]?).getD .non))->(∀H3 l L,Zh F2 H3->H3 l=some (.lst (L.map V.bl))->ZM p L (Xq d st (Xk way ring) u)->L.length<=(way++ring).length+(j+1)*(p+1)->Q' (.ref l) H3)->sp [.ref D,.int (p:Nat)] F2 Q' E0:=by
     rcases Vf hc ok cat' with⟨w,a1,rfl,h⟩|⟨w,a1,a2,rfl,h⟩|⟨a1,a2,rfl⟩
     ·obtain⟨m1,rfl⟩:∃m1,is=[m1]:=by
       cases is with
       |nil=>cases il
       |cons x r=>cases r with
        |nil=>exact⟨x,rfl⟩
        |cons y s=>simp[Tr.ks] at il
      obtain⟨l1,L1,hv1,gl1,tl1,ll1⟩:=kid 0 m1 a1 rfl rfl;have em:([m1].map fun i=>(vs[i]?).getD .non)=[V.ref l1]:=by simp[hv1]
      rw[em];rcases h with rfl|rfl|rfl
      ·refine⟨a.not_line,_,by simp[ZT,Tr.lb],.inl ⟨rfl,rfl⟩,fun F2 D Q' s2 eD q=>?_⟩;exact⟨D,l1,p,L1,_,rfl,eD,s2 _ _ gl1,tl1,by omega,fun H3 l L s3 el tl ll=>q H3 l L s3 el (one (vK a1).symm tl) (by omega)⟩
      ·refine⟨a.next_line,_,by simp[ZT,Tr.lb],.inr (.inr (.inl ⟨rfl,rfl⟩)),fun F2 D Q' s2 eD q=>?_⟩;exact⟨D,l1,p,L1,_,rfl,eD,s2 _ _ gl1,tl1,by omega,fun H3 l L s3 el tl ll=>q H3 l L s3 el (one (ya a1).symm tl) (by omega)⟩
      ·refine⟨a.before_line,_,by simp[ZT,Tr.lb],.inr (.inr (.inr (.inr (.inl ⟨rfl,rfl⟩)))),fun F2 D Q' s2 eD q=>?_⟩;exact⟨D,l1,p,L1,_,rfl,eD,s2 _ _ gl1,tl1,by omega,fun H3 l L s3 el tl ll=>q H3 l L s3 el (one (J1 a1).symm tl) (by omega)⟩
     ·obtain⟨m1,m2,rfl⟩:∃m1 m2,is=[m1,m2]:=by
       cases is with
       |nil=>cases il
       |cons x r=>cases r with
        |nil=>simp[Tr.ks] at il
        |cons y s=>cases s with
         |nil=>exact⟨x,y,rfl⟩
         |cons z w=>simp[Tr.ks] at il
      obtain⟨l1,L1,hv1,gl1,tl1,ll1⟩:=kid 0 m1 a1 rfl rfl;obtain⟨l2,L2,hv2,gl2,tl2,ll2⟩:=kid 1 m2 a2 rfl rfl;have em:([m1,m2].map fun i=>(vs[i]?).getD .non)=[V.ref l1,V.ref l2]:=by simp[hv1,hv2]
      rw[em];rcases h with rfl|rfl
      ·refine⟨a.until_line,_,by simp[ZT,Tr.lb],.inr (.inr (.inr (.inl ⟨rfl,rfl⟩))),fun F2 D Q' s2 eD q=>?_⟩;exact⟨D,l1,l2,p,L1,L2,_,_,rfl,eD,s2 _ _ gl1,s2 _ _ gl2,tl1,tl2,by omega,by omega,fun H3 l L s3 el tl ll=>q H3 l L s3 el (one (qR a1 a2).symm tl) (by omega)⟩
      ·refine⟨a.since_line,_,by simp[ZT,Tr.lb],.inr (.inr (.inr (.inr (.inr ⟨rfl,rfl⟩)))),fun F2 D Q' s2 eD q=>?_⟩;exact⟨D,l1,l2,p,L1,L2,_,_,rfl,eD,s2 _ _ gl1,s2 _ _ gl2,tl1,tl2,by omega,by omega,fun H3 l L s3 el tl ll=>q H3 l L s3 el (one (sem_since a1 a2).symm tl) (by omega)⟩
     ·obtain⟨m1,m2,rfl⟩:∃m1 m2,is=[m1,m2]:=by
       cases is with
       |nil=>cases il
       |cons x r=>cases r with
        |nil=>simp[Tr.ks] at il
        |cons y s=>cases s with
         |nil=>exact⟨x,y,rfl⟩
         |cons z w=>simp[Tr.ks] at il
      obtain⟨l1,L1,hv1,gl1,tl1,ll1⟩:=kid 0 m1 a1 rfl rfl;obtain⟨l2,L2,hv2,gl2,tl2,ll2⟩:=kid 1 m2 a2 rfl rfl;have em:([m1,m2].map fun i=>(vs[i]?).getD .non)=[V.ref l1,V.ref l2]:=by simp[hv1,hv2]
      rw[em];refine⟨a.and_line,_,by simp[ZT,Tr.lb],.inr (.inl ⟨rfl,rfl⟩),fun F2 D Q' s2 eD q=>?_⟩;exact⟨D,l1,l2,p,L1,L2,_,_,rfl,eD,s2 _ _ gl1,s2 _ _ gl2,tl1,tl2,by omega,by omega,fun H3 l L s3 el tl ll=>q H3 l L s3 el (one (ja a1 a2).symm tl) (by omega)⟩
    refine⟨_,rfl,b,_,_,_,rfl,rfl,g1,Zi (j:=0) rfl,a.D_LINES,_,_,f,rfl,rfl,T.i0,mem,?_⟩;refine⟨f,sp,rfl,fam,_,rfl,1,rfl,b,_,rfl,g1,?_,fun c hcN=>?_⟩
    ·intro⟨z1,_⟩;have:HT.sIx (V.str (ZT u.lb)::is.map fun i:Nat=>V.int (i:Nat)).length 0 (some ((1:Nat):Int))=0:=z1;rw[HT.sIx_nat] at this;simp at this
    have ec:=Xu (V.str (ZT u.lb)::is.map fun i:Nat=>V.int (i:Nat)) 1 (by simp);rw[show((1:Nat):Int)=1 from rfl] at ec;rw[ec];obtain⟨F1,qN,t1,ecc⟩:=ZU (o:=.tup (is.map fun i:Nat=>V.int (i:Nat))) hcN
    change upd F c (.tup ((V.str (ZT u.lb)::is.map fun i:Nat=>V.int (i:Nat)).drop 1))=F1 at qN
    rw[qN];clear qN;refine⟨c,rfl,⟨_,SqT.of ecc⟩,fun D hD=>?_⟩;refine zZ is (fun i:Nat=>V.int (i:Nat)) (fun i=>(vs[i]?).getD .non) hD (SqT.of ecc) (by rw[il,lV];have:=kids8 ok;omega) ?_ ?_
    ·intro i hi F2 N sF2 hN;obtain⟨e0,he0,ei0⟩:=m7 hi;have h1:u.ks[e0]?=some (u.ks[e0]'(by omega)):=lU (by omega);obtain⟨lt,_⟩:=hk e0 _ i h1 (by rw[lU he0,ei0]);have hv:vs[i]?=some vs[i]:=lU (by omega);have:=hN F2 (.refl _);rw[hv] at this;exact⟨_,rfl,_,rfl,LN,_,_,_,rfl,rfl,SqL.of ((t1.trans sF2) _ _ fLN),Zi hv,this⟩
    intro F2 eD t2;refine⟨_,rfl,deed F2 D _ (t1.trans t2) eD fun H3 l L s3 el tl ll=>?_⟩;have s03:=t1.trans (t2.trans s3);exact⟨_,rfl,.inl ⟨rfl,_,SqL.of (s03 _ _ fLN)⟩,_,rfl,_,rfl,X5 H3 _ l L s03 el tl ll⟩
  rintro σ F ⟨z6,z7,z8,vs,rfl,sF,fLN,lvs,nb,la⟩;have lv1:vs.length=ts.length+1:=by omega
  have hv:vs[ts.length]?=some (vs[ts.length]'(by omega)):=lU (by omega);obtain⟨l,L,ev,gl,tl,ll⟩:=la.2 ts.length _ t hv (by rw[mW (lS _),nU];rfl);have ea:atI vs (-1)=some (.ref l):=by
   have:=jw (xs:=vs) (p:=1) (lS _) (by omega);rw[show(-((1:Nat):Int))=-1 from rfl] at this;rw[this];have e2:vs[vs.length-1]'(by omega)=vs[ts.length]'(by omega):=by congr 1;omega
   rw[e2,ev]
  refine⟨_,rfl,_,rfl,LN,_,_,_,rfl,rfl,SqL.of fLN,ea,_,rfl,_,rfl,l,m,p,L,_,rfl,gl,tl,by omega,by omega,fun H2 q L' s2 q0 eq tq lq=>?_⟩;refine⟨_,rfl,_,rfl,q,_,rfl,SqL.of eq,fun q2 hq2=>?_⟩;rw[Wc,<- ot];have et:L'.take m=(List.range m).map (Xq d st (Xk way ring) t):=by
   apply rc;intro i
   by_cases hi:i<m
   ·rw[rG hi,tq.get (by omega),mh,ro hi];rfl
   ·rw[oH (by rw[mf];omega),oH (by rw[lQ,mZ];omega)]
  rw[et];have sH:=(keep sF).trans (s2.trans (Ze (o:=.lst (((List.range m).map (Xq d st (Xk way ring) t)).map V.bl)) hq2));exact k _ q2 sH (((keep sF).trans s2).free hq2) Zb
def AtomRow(K:W.Frag)(H:Hp)(st:Tr->List Int)(t:Tr)(b:Addr)(rv:V):Prop:=(t.lb=.yes/\SqT K H b [.str "yes"])\/(∃z,t.lb=.sign z/\SqT K H b [.str "sign",.str z])\/(t.lb=.op "some" /\ (∃x,SqT K H b [.str "some",x])/\∃l,rv=.ref l/\H l=some (.lst ((st t).map V.int))/\(st t).length<=1000)
def yd(K:W.Frag)(a:Adr):Sp:=fun vs H Q _=>∃(w b:Addr) (rv:V) (d:WD) (st:Tr->List Int) (t:Tr),vs=[.ref w,.ref b,rv]/\ZW a.C_World H w d/\d.signs.length<=20/\AtomRow K H st t b rv/\∀H' tb,Zh H H'->H' tb=some (.tup (((List.range d.signs.length).map fun r:Nat=>Wu d st t (r:Nat)).map V.bl))->Q (.ref tb) H'
theorem inV_strB{z:Str}{ss:List Str}:inV (.str z) ((Vc ss).map V.str)=decide (z∈ss):=by
 rw[oQ,jL,pN];exact(U7 ss).mem_iff
theorem yM(T:Txt K mg a)(hw:w.params=a.Pm):Z2 P w K mg base CX0 2 a.room_truths a.bA ["world", "row", "rooms"] (yd K a):=by
 have aH:=Vz (P:=P) (w:=w) (base:=base) T hw;have fJ:=U8 (P:=P) (w:=w) (base:=base) T hw;refine T.dc.ok y9 (fun vs H Q E h=>?_) (fun lM A outer s H vs Q E hr h=>?_)
 ·obtain⟨w,b,rv,d,st,t,rfl,_⟩:=h;rfl
 ·obtain⟨w,b,rv,d,st,t,rfl,hw0,n20,ar,k⟩:=h;refine⟨_,(@Za _ _ _ _ _ (@ZV _ _ _ _ _ _ _ _ (@Zx _ _ _ _ _ _ _ _ Yw (@Zz _ _ _ _ _ _ _ (ZR (K:=K) rfl) (pv 1) Zf (fun _ _=>rfl)) Zt (ZF _)) (@Zg _ _ _ (@Zm _ _ _ _ (Z3 (Yl (K:=K) rfl) rfl T.bf sD (@Zd _ _ _ (Yu (Nc:=["room"]) (ix:=[none]) (ZY.of (by decide +kernel:Z5 (Zc Yg) ["world", "row", "rooms"] ["room"] [none] _=true)) rfl (Xt rfl T.bP (@Zd _ _ _ (Uj (pv 0) T.aq T.bm aH (hr.mono (by first|decide|omega)) T.bj .nil Zv) (by rfl))) (fun _ _ _ _ _=>(ZA (i:=0) (show List.Nodup (["room"]:List Str) by decide +kernel) rfl (Or.inl rfl))) (fun _ _ _ _ _=>YN) (fun _ _ _ _ _=>Vj)) (by rfl))))) ZD) (@Za _ _ _ _ _ (@ZV _ _ _ _ _ _ _ _ (@Zx _ _ _ _ _ _ _ _ Yw (@Zz _ _ _ _ _ _ _ (ZR (K:=K) rfl) (pv 1) Zf (fun _ _=>rfl)) Zt (ZF _)) (@Zg _ _ _ (@Zm _ _ _ _ (Z3 (Yl (K:=K) rfl) rfl T.bf sD (@Zd _ _ _ (Yu (Nc:=["room", "row", "world"]) (ix:=[none,some 1,some 0]) (ZY.of (by decide +kernel:Z5 (Zc Yg) ["world", "row", "rooms"] ["room", "row", "world"] [none,some 1,some 0] _=true)) rfl (Xt rfl T.bP (@Zd _ _ _ (Uj (pv 0) T.aq T.bm aH (hr.mono (by first|decide|omega)) T.bj .nil Zv) (by rfl))) (fun _ _ _ _ _=>(ZA (i:=0) (show List.Nodup (["room", "row", "world"]:List Str) by decide +kernel) rfl (Or.inl rfl))) (fun _ _ _ _ _=>YN) (fun _ _ _ _ _=>(@XR _ _ _ _ _ _ _ _ (V3 (K:=K) rfl) (@Zz _ _ _ _ _ _ _ (ZR (K:=K) rfl) (pv 1) Zf (fun _ _=>rfl)) (Vs (pv 2) T.aq T.dq fJ (hr.mono (by decide)) T.dn .nil Zv (@Zd _ _ _ (pv 0) (by rfl))) (by with_unfolding_all rfl)))) (by rfl))))) ZD) (@Zg _ _ _ (@Zm _ _ _ _ (Z3 (Yl (K:=K) rfl) rfl T.bf sD (@Zd _ _ _ (Yu (Nc:=["room", "rooms"]) (ix:=[none,some 2]) (ZY.of (by decide +kernel:Z5 (Zc Yg) ["world", "row", "rooms"] ["room", "rooms"] [none,some 2] _=true)) rfl (Xt rfl T.bP (@Zd _ _ _ (Uj (pv 0) T.aq T.bm aH (hr.mono (by first|decide|omega)) T.bj .nil Zv) (by rfl))) (fun _ _ _ _ _=>(ZA (i:=0) (show List.Nodup (["room", "rooms"]:List Str) by decide +kernel) rfl (Or.inl rfl))) (fun _ _ _ _ _=>YN) (fun _ _ _ _ _=>(@XR _ _ _ _ _ _ _ _ (V3 (K:=K) rfl) (pv 0) (pv 1) (by with_unfolding_all rfl)))) (by rfl))))))),?_⟩;obtain⟨dx,fs,ho,hk0⟩:=jG hw0;rcases ar with⟨el,g⟩|⟨z,el,g⟩|⟨el,⟨x,g⟩,l,rfl,hl,ll⟩
  ·refine⟨_,rfl,b,_,_,_,rfl,rfl,g,Zi (j:=0) rfl,rfl,_,rfl,Wb rfl ?_⟩;refine⟨_,rfl,w,dx,fs,rfl,ho,hk0,w,d,rfl,hw0,_,rfl,by omega,by omega,?_⟩;rw[m6];intro D hD;refine UV (fun r=>.bl (Wu d st t (r:Nat))) hD (by rw[lV];omega) (fun r hr2 G N sG hN=>?_) fun H1 e1 s1=>?_
   ·have:Wu d st t (r:Nat)=true:=by unfold Wu;rw[el]
    have q:=hN G (.refl _);rw[this] at q;exact q
   ·exact⟨D,_,rfl,.inl ⟨SqL.of e1,fun tb ht=>k _ tb (s1.trans (Ze ht)) (by rw[Zb,nu];rfl)⟩⟩
  ·refine⟨_,rfl,b,_,_,_,rfl,rfl,g,Zi (j:=0) rfl,rfl,_,rfl,Z1 (fun q=>(by decide +kernel:¬(("sign" : Str) = "yes")) (V.str.inj q)) ?_⟩;refine⟨_,rfl,b,_,_,_,rfl,rfl,g,Zi (j:=0) rfl,rfl,_,rfl,Wb rfl ?_⟩;refine⟨_,rfl,w,dx,fs,rfl,ho,hk0,w,d,rfl,hw0,_,rfl,by omega,by omega,?_⟩;rw[m6];intro D hD;refine UV (fun r=>.bl (Wu d st t (r:Nat))) hD (by rw[lV];omega) (fun r hr2 G N sG hN=>?_) fun H1 e1 s1=>?_
   ·obtain⟨dx2,fs2,ho2,hk2⟩:=kQ (hw0.mono sG);refine⟨_,rfl,b,_,_,_,rfl,rfl,Zh.tup sG _ _ _ g,Zi (j:=1) rfl,_,rfl,w,dx2,fs2,rfl,ho2,hk2,_,rfl,w,d,r,d.signs[r],rfl,hw0.mono sG,lU hr2,fun q hq=>?_⟩;refine⟨q,_,rfl,.inl (SqL.of Zb),rfl,flat_strs _,?_⟩;have:Wu d st t (r:Nat)=inV (.str z) ((Vc d.signs[r]).map V.str):=by
     unfold Wu;rw[el,inV_strB]
     show decide (z∈signsI d (r:Nat))=_
     unfold signsI;rw[m6,lU hr2];rfl
    have qq:=hN _ (Ze (o:=.lst ((Vc d.signs[r]).map V.str)) hq);rw[this] at qq;exact qq
   ·exact⟨D,_,rfl,.inl ⟨SqL.of e1,fun tb ht=>k _ tb (s1.trans (Ze ht)) (by rw[Zb,nu];rfl)⟩⟩
  ·refine⟨_,rfl,b,_,_,_,rfl,rfl,g,Zi (j:=0) rfl,rfl,_,rfl,Z1 (fun q=>(by decide +kernel:¬(("some" : Str) = "yes")) (V.str.inj q)) ?_⟩;refine⟨_,rfl,b,_,_,_,rfl,rfl,g,Zi (j:=0) rfl,rfl,_,rfl,Z1 (fun q=>(by decide +kernel:¬(("some" : Str) = "sign")) (V.str.inj q)) ?_⟩;refine⟨_,rfl,w,dx,fs,rfl,ho,hk0,w,d,rfl,hw0,_,rfl,by omega,by omega,?_⟩;rw[m6];intro D hD;refine UV (fun r=>.bl (Wu d st t (r:Nat))) hD (by rw[lV];omega) (fun r hr2 G N sG hN=>?_) fun H1 e1 s1=>?_
   ·refine⟨_,rfl,_,rfl,l,_,rfl,.inl (SqL.of (sG _ _ hl)),rfl,xT _,?_⟩;have:Wu d st t (r:Nat)=inV (.int (r:Nat)) ((st t).map V.int):=by
     unfold Wu;rw[el,inV_int]
    have qq:=hN G (.refl _);rw[this] at qq;exact qq
   ·exact⟨D,_,rfl,.inl ⟨SqL.of e1,fun tb ht=>k _ tb (s1.trans (Ze ht)) (by rw[Zb,nu];rfl)⟩⟩
theorem km{H:Hp}{S:Addr}{kv:List (Key×V)}{o:HO}(h1:H S=some (.dK kv)):YL H (upd H S o):=fun K b ys h=>by
 rcases h with(h|⟨o',h⟩)|h
 ·exact .inl (.inl (by rw[ZB (fun z=>by rw[z,h1] at h;cases h)];exact h))
 ·exact .inl (.inr ⟨o',by rw[ZB (fun z=>by rw[z,h1] at h;cases h)];exact h⟩)
 ·exact .inr h
theorem yD{H:Hp}{S:Addr}{xs:List V}{o:HO}(h1:H S=some (.lst xs)):YL H (upd H S o):=fun K b ys h=>by
 rcases h with(h|⟨o',h⟩)|h
 ·exact .inl (.inl (by rw[ZB (fun z=>by rw[z,h1] at h;cases h)];exact h))
 ·exact .inl (.inr ⟨o',by rw[ZB (fun z=>by rw[z,h1] at h;cases h)];exact h⟩)
 ·exact .inr h
def ToldAt(H:Hp)(st:Tr->List Int)(ps ts:List Tr)(kv:List (Key×V)):Prop:=∀(m:Nat) t,ps[m]?=some t->t∈ts->t.lb=.op "some" -> ∃l,Xo kv (.inl (m:Int))=some (.ref l)/\H l=some (.lst ((st t).map V.int))/\(st t).length<=1000
def zX(K:W.Frag)(a:Adr):Sp:=fun vs H Q _=>∃(w r P R D tl:Addr) (i:Nat) (ps:List Tr) (t:Tr) (d:WD) (st:Tr->List Int) (kv:List (Key×V)),vs=[.ref w,.ref r,.int (i:Nat),.ref tl]/\ZW a.C_World H w d/\d.signs.length<=20/\TbK K a.Pm a.C_Table H r P R D ps/\ps[i]?=some t/\(∀s∈ps,isC s=true)/\psz t<=2000000/\(Zw [] (ZE t)).length<4000/\H tl=some (.dK kv)/\ToldAt H st ps (Zw [] (ZE t)) kv/\∀H' q rv,Zh H H'->H q=none->H' q=some (.lst rv)->Grnd K H' d st (Zw [] (ZE t)) rv->Q (.ref q) H'
theorem yE(T:Txt K mg a)(hw:w.params=a.Pm):Z2 P w K mg base CX0 3 a.ground_rows a.bz ["world", "table", "number", "told"] (zX K a):=by
 have aF:=Wr (P:=P) (w:=w) (base:=base) T hw;have gY:=yM (P:=P) (w:=w) (base:=base) T hw;refine T.db.ok XC (fun vs H Q E h=>?_) (fun lM A outer s H vs Q E hr h=>?_)
 ·obtain⟨w,r,P,R,D,tl,i,ps,t,d,st,kv,rfl,_⟩:=h;rfl
 ·obtain⟨w,r,P,R,D,tl,i,ps,t,d,st,kv,rfl,hw0,n20,tb,hi,hc,hz,hfew,htl,told,k⟩:=h;refine⟨_,(@Za _ _ _ _ _ (@Zp _ _ (4) _ _ _ _ XC.nd rfl (Or.inr rfl) L3.pe_dnewK (by rfl) (by exact .inl rfl)) (@Za _ _ _ _ _ (@Zp _ _ (5) _ _ _ _ XC.nd rfl (Or.inl rfl) (@Yc _ _ _ _ Xd) (by rfl) (by exact .inl rfl)) (@Za _ _ _ _ _ (X8 m8 rfl (Yk (K:=K) rfl (Vs (pv 1) T.aj T.aD aF (hr.mono (by decide)) T.aC .nil Zv (@Zd _ _ _ (pv 2) (by rfl)))) (ZA (i:=6) XC.nd rfl (Or.inl rfl)) (@Za _ _ _ _ _ (@Zp _ _ (7) _ _ _ _ XC.nd rfl (Or.inl rfl) (@Zz _ _ _ _ _ _ _ (Zs (K:=K) rfl) (XZ (K:=K) rfl (pv 1) rfl) (pv 6) (fun _ _=>rfl)) (by rfl) (by exact .inl rfl)) (@Za _ _ _ _ _ (ps_dput (hu_of hr) (pv 4) (pv 6) (Zn (Zy (K:=K) rfl) rfl T.aB sA (@Zd _ _ _ (pv 5) (by rfl))) rfl) (@Zg _ _ _ (@ZV _ _ _ _ _ _ _ _ (@Zx _ _ _ _ _ _ _ _ (V3 (K:=K) rfl) (@Zz _ _ _ _ _ _ _ (ZR (K:=K) rfl) (pv 7) Zf (fun _ _=>rfl)) (@ZJ _ _ _ _ _ (@ZI _ _ _ _ _ Zt (@ZI _ _ _ _ _ Zt (@Yh _ _ _ Zt (by rfl)) (by rfl)) (by rfl))) (by with_unfolding_all rfl)) (@Zg _ _ _ (@YE _ _ _ _ (Wm m5 nh ni Z4 (pv 5) (@Zd _ _ _ (@ZJ _ _ _ _ _ (@Zk _ _ _ _ _ Zt (@Zd _ _ _ (Zl gY (hr.mono (by decide)) rfl T.eT T.dc.kp T.eQ .nil Zv (@ZI _ _ _ _ _ (pv 0) (@ZI _ _ _ _ _ (pv 7) (@Yh _ _ _ (pe_dget1 (hu_of hr) (pv 3) (pv 6) ⟨rfl,rfl,rfl,rfl⟩) (by rfl)) (by rfl)) (by rfl))) (by rfl)) (by rfl))) (by rfl))) (by rfl))) (@Zg _ _ _ (@YE _ _ _ _ (Wm m5 nh ni Z4 (pv 5) (@Zd _ _ _ (@ZO _ _ _ _ _ _ _ _ (yG (K:=K) rfl) (@ZJ _ _ _ _ _ (@Zd _ _ _ (@Zz _ _ _ _ _ _ _ (ZR (K:=K) rfl) (pv 7) Zf (fun _ _=>rfl)) (by rfl))) (Z3 (Yl (K:=K) rfl) rfl T.bf sD (@Zd _ _ _ (Yu (Nc:=["part", "places"]) (ix:=[none,some 4]) (ZY.of (by decide +kernel:Z5 (Zc YG) ["world", "table", "number", "told", "places", "rows", "inner", "row"] ["part", "places"] [none,some 4] _=true)) rfl (jk (K:=K) rfl (ZS (VR (K:=K) rfl) (pv 7) (ZX Zf) Yb)) (fun _ _ _ _ _=>(ZA (i:=0) (show List.Nodup (["part", "places"]:List Str) by decide +kernel) rfl (Or.inl rfl))) (fun _ _ _ _ _=>YN) (fun _ _ _ _ _=>(pe_dget (hu_of hr) (pv 1) (pv 0) (fun _ _=>rfl)))) (by rfl)))) (by rfl))) (by rfl)))))))) (@Zg _ _ _ (@Zm _ _ _ _ (pv 5)))))),?_⟩;generalize hts:Zw [] (ZE t)=ts at hfew told k;have ord:Ord ts:=by rw[<- hts];exact ord_post t
  have tsn:ts.Nodup:=by rw[<- hts];exact Wk (by simp)
  refine fun PL hPL=>?_;obtain⟨H1,qN,s1,ePL⟩:=ZU (o:=.dK []) hPL;rw[qN];clear qN;refine⟨by decide,fun RW hRW=>?_⟩;obtain⟨H2,qN,s2,eRW⟩:=ZU (o:=.lst []) hRW;rw[qN];clear qN;have s12:=s1.trans s2;have tb2:=tb.mono s12;obtain⟨dx,ho⟩:=tb2.obj;have nPR:PL≠RW:=fun e=>by rw[e] at ePL;rw[ePL] at hRW;cases hRW
  refine⟨_,rfl,r,dx,_,rfl,ho,lkN (by decide +kernel) (by decide +kernel) (by decide +kernel),_,rfl,r,P,R,D,ps,t,i,rfl,tb2,hi,hc,hz,by rw[hts];exact hfew,fun H3 L is s3 L0 hL nums=>⟨L,rfl,⟨_,SqL.of hL⟩,?_⟩⟩;rw[hts] at nums;have s13:=s12.trans s3;have ePL3:=(s2.trans s3) _ _ ePL;have eRW3:=s3 _ _ eRW;have nLP:L≠PL:=fun e=>by rw[e,s2 _ _ ePL] at L0;cases L0
  have nLR:L≠RW:=fun e=>by rw[e,eRW] at L0;cases L0
  have iv:(iV is).length=is.length:=WE is;have lis:=nums.1;have keep:∀{G:Hp},Vd PL RW H3 G->Zh H G:=fun {G} sG b o e=>sG _ _ (fun z=>by rw[z,hPL] at e;cases e) (fun z=>by rw[z] at e;rw[s1 _ _ e] at hRW;cases hRW) (s13 _ _ e);refine X1 (J:=Itl K L) (n:=ts.length) (fun j σ G=>∃(z6 z7:Option V) (kp:List (Key×V)) (rv:List V),σ=[some (.ref w),some (.ref r),some (.int (i:Nat)),some (.ref tl),some (.ref PL),some (.ref RW),z6,z7]/\Vd PL RW H3 G/\G PL=some (.dK kp)/\kp.length<=j/\(∀(x m:Nat),x<j->is[x]?=some m->Xo kp (.inl (m:Int))=some (.int (x:Nat)))/\G RW=some (.lst rv)/\rv.length=j/\∀(x:Nat) v u,rv[x]?=some v->ts[x]?=some u->zF K G d st ts x v u) ?_ ?_ ?_ ?_ ?_
  ·exact⟨_,_,[],[],rfl,(fun b o _ _ e=>e),ePL3,lS _,(fun x m h=>absurd h (Nat.not_lt_zero x)),eRW3,rfl,fun x v u h=>by simp at h⟩
  ·rintro j σ G hj ⟨z6,z7,kp,rv,rfl,sG,_⟩;exact⟨_,_,SqL.of (sG _ _ nLP nLR hL),lU (by rw[iv];omega)⟩
  ·rintro σ G ⟨z6,z7,kp,rv,rfl,sG,_⟩;exact⟨_,SqL.of (sG _ _ nLP nLR hL),by rw[iv];omega⟩
  ·rintro j x σ G0 G hj ⟨z6,z7,kp,rv,rfl,sG,gP,lk,pl,gR,lr,gr⟩ ⟨rfl,hx⟩;have ex:=hx _ (SqL.of (sG _ _ nLP nLR hL));unfold iV at ex;rw[mh] at ex;have hm:is[j]?=some (is[j]'(by omega)):=lU (by omega);generalize (is[j]'(by omega))=m at hm;rw[hm] at ex;have ex':x=.int (m:Int):=(mv ex).symm;subst ex';have hu:ts[j]?=some ts[j]:=lU hj;have hmem:ts[j]∈ts:=mH hj;generalize hue:ts[j]=u at hu hmem;have hpm:=nums.2 j m u hm hu;have tbG:=tb.mono (keep sG);obtain⟨dx2,ho2⟩:=tbG.obj;obtain⟨np,pv0,hP2,aP⟩:=tbG.pl;obtain⟨rows,hR2,rl,hrt,hrr,hD2⟩:=tbG.rl;have hml:m<ps.length:=(mo.mp hpm).1;have hrk:rows[m]?=some (rows[m]'(by omega)):=lU (by omega);have hb:=hrt _ (mH (show m<rows.length by omega));obtain⟨kn,kl,kin,ekey⟩:=hrr m u _ hpm hrk;rw[ekey] at hb;have hrv:(rows.map fun e=>V.ref e.2)[m]?=some (V.ref (rows[m]'(by omega)).2):=by rw[mh,hrk];rfl
   generalize (rows[m]'(by omega)).2=b at hb hrv;have hcu:=hc u (mM hpm);have oku:=aP.oks u (mM hpm);refine⟨_,rfl,r,_,dx2,_,_,rfl,ho2,T.aj,T.aU,lkR,_,rfl,R,_,_,_,rfl,rfl,SqL.of hR2,Zi hrv,?_⟩;refine⟨_,rfl,.inl ⟨RW,_,rfl,.inl (SqL.of gR),_,rfl,_,rfl,PL,_,rfl,DPut.k (k:=.inl (m:Int)) gP (by rw[lV];omega),?_⟩⟩;rw[lr];have tP:=km (o:=.dK (WV kp (.inl (m:Int)) (.int (j:Nat)))) gP;have s2P:Vd PL RW H3 (upd G PL (.dK (WV kp (.inl (m:Int)) (.int (j:Nat))))):=sG.upd1;have gP2:(upd G PL (.dK (WV kp (.inl (m:Int)) (.int (j:Nat))))) PL=some (.dK (WV kp (.inl (m:Int)) (.int (j:Nat)))):=Zb;have gR2:(upd G PL (.dK (WV kp (.inl (m:Int)) (.int (j:Nat))))) RW=some (.lst rv):=by rw[ZB (mj nPR)];exact gR
   have lk2:(WV kp (.inl (m:Int)) (.int (j:Nat))).length<=j+1:=mC (Wd _ _ _) (by omega);have isn:∀x,x<j->is[x]?≠some m:=fun x hxj e=>by
    have h1:=nums.2 x m (ts[x]'(by omega)) e (lU (by omega));rw[hpm] at h1;have h2:=mv h1;rw[<- hue] at h2;have:=(o8 tsn).mp h2;omega
   have pl2:∀(x q:Nat),x<j+1->is[x]?=some q->Xo (WV kp (.inl (m:Int)) (.int (j:Nat))) (.inl (q:Int))=some (.int (x:Nat)):=fun x q hxj e=>by
    rw[j7]
    by_cases cx:x=j
    ·subst cx;rw[hm] at e;cases e;rw[if_pos rfl]
    ·have hx2:x<j:=by omega
     rw[if_neg (fun z=>isn x hx2 (by
      have:(q:Int)=(m:Int):=Sum.inl.inj z;rw[e];congr 1;omega))]
     exact pl x q hx2 e
   have gr2:∀(x:Nat) v u,rv[x]?=some v->ts[x]?=some u->zF K (upd G PL (.dK (WV kp (.inl (m:Int)) (.int (j:Nat))))) d st ts x v u:=fun x v u h1 h2=>(gr x v u h1 h2).mono tP;have hb2:=tP _ _ _ hb;generalize upd G PL (.dK (WV kp (.inl (m:Int)) (.int (j:Nat))))=G2 at s2P gP2 gR2 gr2 hb2 ⊢;generalize WV kp (.inl (m:Int)) (.int (j:Nat))=kp2 at gP2 lk2 pl2;clear tP gr pl lk gP gR sG hP2 aP hR2 hrt hrr hD2 hrv hrk ho2 tbG;have X5:∀(G3:Hp) (q:V),Zh G2 G3->zF K G3 d st ts j q u->∀z6 z7,W9 (.ref RW) [q] G3 (fun _ G4=>∃(y6 y7:Option V) (kp:List (Key×V)) (rv:List V),[some (.ref w),some (.ref r),some (.int (i:Nat)),some (.ref tl),some (.ref PL),some (.ref RW),z6,z7]=[some (.ref w),some (.ref r),some (.int (i:Nat)),some (.ref tl),some (.ref PL),some (.ref RW),y6,y7]/\Vd PL RW H3 G4/\G4 PL=some (.dK kp)/\kp.length<=j+1/\(∀(x m:Nat),x<j+1->is[x]?=some m->Xo kp (.inl (m:Int))=some (.int (x:Nat)))/\G4 RW=some (.lst rv)/\rv.length=j+1/\∀(x:Nat) v u,rv[x]?=some v->ts[x]?=some u->zF K G4 d st ts x v u):=fun G3 q s3' gq z6 z7=>by
    have gR3:=s3' _ _ gR2;refine⟨RW,_,_,rfl,rfl,gR3,by rw[lr,lV];omega,_,_,kp2,rv++[q],rfl,(s2P.trans (Zh.two s3')).upd2,by rw[ZB nPR];exact s3' _ _ gP2,lk2,pl2,Zb,by rw[lW,lr];rfl,fun x v u' h1 h2=>?_⟩
    by_cases cx:x<rv.length
    ·rw[mQ cx] at h1;exact(gr2 x v u' h1 h2).mono ((Zh.tup s3').trans (yD gR3))
    ·have hxl:=(mo.mp h1).1;rw[lW,ng] at hxl;have exj:x=j:=by omega
     subst exj;rw[mW (by omega),lr,nU] at h1;cases h1;rw[hu] at h2;cases h2;exact gq.mono (yD gR3)
   have hkeep:=keep s2P
   by_cases cat:qO u=true
   ·-- an atom
    have arow:∃xs,SqT K G2 b (.str (ZT u.lb)::xs)/\ZT u.lb∈(["yes", "sign", "some"]:List Str)/\∀G3,Zh G2 G3->AtomRow K G3 st u b ((Xo kv (.inl (m:Int))).getD .non):=by
     unfold qO at cat;cases el:u.lb with
     |yes=>
      rw[el] at hb2;exact⟨[],hb2,by simp[ZT],fun G3 s3'=>.inl ⟨el,Zh.tup s3' _ _ _ hb2⟩⟩
     |sign z=>
      rw[el] at hb2;exact⟨[.str z],hb2,by simp[ZT],fun G3 s3'=>.inr (.inl ⟨z,el,Zh.tup s3' _ _ _ hb2⟩)⟩
     |op w'=>
      rw[el] at cat hb2;have ew:=mO cat;subst ew;obtain⟨l,hv,hl,ll⟩:=told m u hpm hmem el;rw[hv];have k1:kn.length=1:=by
       rw[kl];rw[el] at oku;rcases oku with⟨_,h⟩|⟨h,_⟩
       ·exact h
       ·exact absurd h (by decide +kernel)
      obtain⟨m1,rfl⟩:∃m1,kn=[m1]:=by
       cases kn with
       |nil=>cases k1
       |cons x r=>cases r with
        |nil=>exact⟨x,rfl⟩
        |cons y s=>simp at k1
      exact⟨_,hb2,by simp[ZT],fun G3 s3'=>.inr (.inr ⟨el,⟨_,Zh.tup s3' _ _ _ hb2⟩,l,rfl,(hkeep.trans s3') _ _ hl,ll⟩)⟩
     |wit m=>rw[el] at cat;cases cat
     |many w=>rw[el] at cat;cases cat
    obtain⟨xs,hrow,hin,har⟩:=arow;refine⟨_,rfl,b,_,_,_,rfl,rfl,hrow,Zi (j:=0) rfl,sz3,fun q hq=>?_⟩;obtain⟨G3,qN,u3,e3⟩:=ZU (o:=.tup [.str "yes",.str "sign",.str "some"]) hq;rw[qN];clear qN;refine⟨q,_,rfl,.inr (SqT.of e3),rfl,rfl,_,rfl,UK (ss:=["yes", "sign", "some"]) hin ?_⟩;refine⟨_,rfl,.inl ⟨rfl,_,SqL.of (u3 _ _ gR2)⟩,_,rfl,_,rfl,_,rfl,tl,rfl,?_,_,rfl,_,DGet.k (k:=.inl (m:Int)) ((hkeep.trans u3) _ _ htl),w,b,_,d,st,u,rfl,hw0.mono (hkeep.trans u3),n20,har G3 u3,fun G4 tb' u4 e4=>?_⟩
    ·exact .inl ⟨_,.inl ((hkeep.trans u3) _ _ htl)⟩
    refine⟨sz2,fun q2 hq2=>?_⟩;obtain⟨G5,qN,u5,e5⟩:=ZU (o:=.tup [.str "at",.ref tb']) hq2;rw[qN];clear qN;refine X5 G5 (.ref q2) (u3.trans (u4.trans u5)) ?_ _ _;unfold zF;rw[if_pos cat];exact⟨q2,tb',rfl,SqT.of e5,SqT.of (u5 _ _ e4)⟩
   ·-- no atom
    have cat':qO u=false:=by simpa using cat
    have hbl:YQ u=u.ks:=by
     rcases Vf hcu oku cat' with⟨w',a1,rfl,h⟩|⟨w',a1,a2,rfl,h⟩|⟨a1,a2,rfl⟩
     ·unfold YQ
      show(if w' = "some" then[] else _)=_
      rw[if_neg (by rcases h with rfl|rfl|rfl<;>decide +kernel)]
     ·unfold YQ
      show(if w' = "some" then[] else _)=_
      rw[if_neg (by rcases h with rfl|rfl<;>decide +kernel)]
     ·rfl
    have hkey:SqT K G2 b (.str (ZT u.lb)::kn.map fun i:Nat=>V.int (i:Nat))/\ZT u.lb∉(["yes", "sign", "some"]:List Str)/\kn≠[]:=by
     rcases Vf hcu oku cat' with⟨w',a1,rfl,h⟩|⟨w',a1,a2,rfl,h⟩|⟨a1,a2,rfl⟩
     ·refine⟨?_,by(show w'∉(["yes", "sign", "some"]:List Str));(rcases h with rfl|rfl|rfl<;>decide +kernel),fun e=>by rw[e] at kl;cases kl⟩;have e:(WZ (.op w') kn).map kV=.str w'::kn.map fun i:Nat=>V.int (i:Nat):=by show V.str w'::(nK kn).map kV=_;unfold nK;rw[nu];rfl
      have hb3:SqT K G2 b ((WZ (.op w') kn).map kV):=hb2;rw[e] at hb3;exact hb3
     ·refine⟨?_,by(show w'∉(["yes", "sign", "some"]:List Str));(rcases h with rfl|rfl<;>decide +kernel),fun e=>by rw[e] at kl;cases kl⟩;have e:(WZ (.op w') kn).map kV=.str w'::kn.map fun i:Nat=>V.int (i:Nat):=by show V.str w'::(nK kn).map kV=_;unfold nK;rw[nu];rfl
      have hb3:SqT K G2 b ((WZ (.op w') kn).map kV):=hb2;rw[e] at hb3;exact hb3
     ·refine⟨?_,by(show("and" : Str)∉(["yes", "sign", "some"]:List Str));decide +kernel,fun e=>by rw[e] at kl;cases kl⟩;have e:(WZ (.many "and") kn).map kV=.str "and" :: kn.map fun i:Nat=>V.int (i:Nat):=by show V.str "and" :: (nK kn).map kV=_;unfold nK;rw[nu];rfl
      have hb3:SqT K G2 b ((WZ (.many "and") kn).map kV):=hb2;rw[e] at hb3;exact hb3
    obtain⟨hrow,hin,kne⟩:=hkey;have k8:=kids8 oku;have place:∀(x:Nat) kd q,u.ks[x]?=some kd->kn[x]?=some q->∃y:Nat,y<j/\ts[y]?=some kd/\is[y]?=some q:=fun x kd q h1 h2=>by
     have hq:=kin x kd q h1 h2;obtain⟨y,hy,ey⟩:=ord j u hu kd (by rw[hbl];exact mM h1);have hy2:is[y]?=some (is[y]'(by omega)):=lU (by omega);have:=nums.2 y _ kd hy2 ey;exact⟨y,hy,ey,by rw[hy2,nd_ix tb.nd this hq]⟩
    refine⟨_,rfl,b,_,_,_,rfl,rfl,hrow,Zi (j:=0) rfl,sz3,fun q hq=>?_⟩;obtain⟨G3,qN,u3,e3⟩:=ZU (o:=.tup [.str "yes",.str "sign",.str "some"]) hq;rw[qN];clear qN;refine⟨q,_,rfl,.inr (SqT.of e3),rfl,rfl,_,rfl,XI (ss:=["yes", "sign", "some"]) hin ?_⟩;refine⟨_,rfl,.inl ⟨rfl,_,SqL.of (u3 _ _ gR2)⟩,_,rfl,b,_,_,_,rfl,rfl,Zh.tup u3 _ _ _ hrow,Zi (j:=0) rfl,sz1,fun q1 hq1=>?_⟩;obtain⟨G4,qN,u4,e4⟩:=ZU (o:=.tup [.str (ZT u.lb)]) hq1;rw[qN];clear qN;have u34:=u3.trans u4;refine⟨_,rfl,1,rfl,b,_,rfl,Zh.tup u34 _ _ _ hrow,?_,fun c hcN=>?_⟩
    ·intro⟨z1,_⟩;have:HT.sIx (V.str (ZT u.lb)::kn.map fun i:Nat=>V.int (i:Nat)).length 0 (some ((1:Nat):Int))=0:=z1;rw[HT.sIx_nat] at this;simp at this
    have ec:=Xu (V.str (ZT u.lb)::kn.map fun i:Nat=>V.int (i:Nat)) 1 (by simp);rw[show((1:Nat):Int)=1 from rfl] at ec;rw[ec];obtain⟨G5,qN,u5,e5⟩:=ZU (o:=.tup (kn.map fun i:Nat=>V.int (i:Nat))) hcN
    change upd G4 c (.tup ((V.str (ZT u.lb)::kn.map fun i:Nat=>V.int (i:Nat)).drop 1))=G5 at qN
    rw[qN];clear qN;have u35:=u34.trans u5;refine⟨c,rfl,⟨_,SqT.of e5⟩,fun Dc hDc=>?_⟩;have inKn:∀q∈kn,∃y:Nat,y<j/\is[y]?=some q:=fun q hqk=>by
     obtain⟨x,hx,e⟩:=m7 hqk;obtain⟨y,h1,_,h3⟩:=place x _ q (lU (show x<u.ks.length by omega)) (by rw[lU hx,e]);exact⟨y,h1,h3⟩
    refine zZ kn (fun i:Nat=>V.int (i:Nat)) (fun q:Nat=>(Xo kp2 (.inl (q:Int))).getD .non) hDc (SqT.of e5) (by rw[kl,lV];omega) ?_ ?_
    ·intro q hqk F N sF hN;obtain⟨y,hy,ey⟩:=inKn q hqk;have hv:=pl2 y q (by omega) ey;have hn:=hN F (.refl _);rw[hv] at hn;refine⟨_,rfl,_,rfl,PL,_,rfl,?_,hn⟩;have hg:=DGet.k (k:=.inl (q:Int)) ((u35.trans sF) _ _ gP2);rw[hv] at hg
     first|exact hg|(rw[hv];exact hg)
    intro G6 eD u6;refine⟨Dc,_,rfl,.inl ⟨SqL.of eD,fun tt htt=>?_⟩⟩;obtain⟨G7,qN,u7,e7⟩:=ZU (o:=.tup (kn.map fun q:Nat=>(Xo kp2 (.inl (q:Int))).getD .non)) htt;rw[qN];clear qN;have u47:=u5.trans (u6.trans u7);refine⟨q1,tt,_,_,rfl,rfl,SqT.of (u47 _ _ e4),SqT.of e7,by simp,by rw[lQ,kl,lV];show 1+u.ks.length<=16777216;omega,(fun h=>absurd (List.map_eq_nil_iff.mp h) kne),fun _ q9 hq9=>?_⟩;obtain⟨G8,qN,u8,e8⟩:=ZU (o:=.tup ([.str (ZT u.lb)]++kn.map fun q:Nat=>(Xo kp2 (.inl (q:Int))).getD .non)) hq9;rw[qN];clear qN;refine X5 G8 (.ref q9) (u34.trans (u47.trans u8)) ?_ _ _;unfold zF;rw[if_neg cat];have nums2:∀l:List Nat,(∀q∈l,∃y:Nat,y<j/\is[y]?=some q)->∃js:List Nat,js.length=l.length/\(l.map fun q:Nat=>(Xo kp2 (.inl (q:Int))).getD .non)=js.map (fun y:Nat=>V.int (y:Nat))/\∀(x:Nat) y q,js[x]?=some y->l[x]?=some q->y<j/\is[y]?=some q:=by
     intro l
     induction l with
     |nil=>exact fun _=>⟨[],rfl,rfl,fun x y q h=>by simp at h⟩
     |cons q l ih=>
      intro h;obtain⟨y,hy,ey⟩:=h q oO;obtain⟨js,j1,j2,j3⟩:=ih fun q hq=>h q (mi _ hq);refine⟨y::js,by simp[j1],by rw[lX,lX,j2,pl2 y q (by omega) ey];rfl,fun x y' q' h1 h2=>?_⟩;cases x with
      |zero=>cases h1;cases h2;exact⟨hy,ey⟩
      |succ x=>exact j3 x y' q' h1 h2
    obtain⟨js,j1,j2,j3⟩:=nums2 kn inKn;rw[j2] at e8;refine⟨q9,js,rfl,SqT.of e8,by omega,fun x kd y h1 h2=>?_⟩;have hxk:x<kn.length:=by have:=(mo.mp h1).1;omega
    have hkx:kn[x]?=some kn[x]:=lU hxk;obtain⟨hy,ey⟩:=j3 x y _ h2 hkx;obtain⟨y2,hy2,et,ei2⟩:=place x kd _ h1 hkx;have h3:=nums.2 y _ (ts[y]'(by omega)) ey (lU (by omega));have h4:=kin x kd _ h1 hkx;rw[h4] at h3;refine⟨hy,?_⟩;rw[lU (show y<ts.length by omega)];exact h3.symm
  rintro σ G ⟨z6,z7,kp,rv,rfl,sG,gP,lk,pl,gR,lr,gr⟩;refine⟨_,rfl,k G RW rv (keep sG) (s1.free hRW) gR ⟨lr,gr,fun u hmu=>?_⟩⟩;obtain⟨x,hx,e⟩:=m7 hmu;have hm:is[x]?=some (is[x]'(by omega)):=lU (by omega);have hp:=nums.2 x _ u hm (by rw[lU hx,e]);have tbG:=tb.mono (keep sG);obtain⟨np,pv0,hP2,aP⟩:=tbG.pl;exact⟨hc u (mM hp),aP.oks u (mM hp)⟩
def yR(K:W.Frag)(H:Hp)(sl:Addr)(st:Tr->List Int)(ss:List Tr):Prop:=∃xs:List V,H sl=some (.lst xs)/\xs.length=ss.length/\∀(i:Nat) v t,xs[i]?=some v->ss[i]?=some t->∃(b l:Addr) (e:V) (n:Nat),v=.ref b/\SqT K H b [e,.ref l]/\At K n H e t/\H l=some (.lst ((st t).map V.int))
theorem yR.mono{K:W.Frag}{H H':Hp}{sl:Addr}{st:Tr->List Int}{ss:List Tr}(s:Zh H H')(h:yR K H sl st ss):yR K H' sl st ss:=by
 obtain⟨xs,h1,h2,h3⟩:=h;refine⟨xs,s _ _ h1,h2,fun i v t a b=>?_⟩;obtain⟨b,l,e,n,q1,q2,q3,q4⟩:=h3 i v t a b;exact⟨b,l,e,n,q1,Zh.tup s _ _ _ q2,q3.mono (Zh.tup s),s _ _ q4⟩
theorem TbK.updD{K:W.Frag}{Pm:Params}{C:Addr}{H:Hp}{r P R D F:Addr}{ps:List Tr}{kv:List (Key×V)}{o:HO}(hF:H F=some (.dK kv))(h:TbK K Pm C H r P R D ps):TbK K Pm C (upd H F o) r P R D ps:=by
 obtain⟨⟨dx,h0⟩,⟨n,pv,h1,h2⟩,⟨rows,g1,g2,g3,g4,g5⟩,nd,pr⟩:=h;have u:YL H (upd H F o):=km hF;have ke:∀{b:Addr}{o':HO},H b=some o'->o'≠.dK kv->upd H F o b=some o':=fun {b o'} e n=>by rw[ZB (fun z=>by rw[z,hF] at e;exact n (mv e).symm)];exact e
 exact⟨⟨dx,ke h0 (by intro z;cases z)⟩,⟨n,pv,ke h1 (by intro z;cases z),h2.mono u⟩,⟨rows,ke g1 (by intro z;cases z),g2,fun e he=>u _ _ _ (g3 e he),g4,ke g5 (by intro z;cases z)⟩,nd,pr⟩
def jf(K:W.Frag)(a:Adr):Sp:=fun vs H Q _=>∃(r P R D sl:Addr) (ps:List Tr) (st:Tr->List Int) (ss:List Tr) (H0:Hp),vs=[.ref r,.ref sl]/\TbK K a.Pm a.C_Table H r P R D ps/\ps.length<4000/\Zh H0 H/\H0 P=none/\H0 R=none/\H0 D=none/\yR K H0 sl st ss/\ss.length<4000/\(∀t∈ss,isC t=true/\psz t<=2000000/\∀x∈post t,x∈ps)/\∀H' Dc kv,Zh H0 H'->TbK K a.Pm a.C_Table H' r P R D ps->H' Dc=some (.dK kv)->(∀t∈ss,∀m:Nat,ps[m]?=some t->∃l,Xo kv (.inl (m:Int))=some (.ref l)/\H' l=some (.lst ((st t).map V.int)))->Q (.ref Dc) H'
theorem jD(T:Txt K mg a)(hw:w.params=a.Pm):Z2 P w K mg base CX0 5 a.told_sets a.cB ["table", "sets"] (jf K a):=by
 have ao:=X4 (P:=P) (w:=w) (base:=base) T hw;refine T.eu.ok vV (fun vs H Q E h=>?_) (fun lM A outer s H vs Q E hr h=>?_)
 ·obtain⟨r,P,R,D,sl,ps,st,ss,H0,rfl,_⟩:=h;rfl
 ·obtain⟨r,P,R,D,sl,ps,st,ss,H0,rfl,tb,pl,s0,hP0,hR0,hD0,⟨xs,hxs,lx,hat⟩,lss,hss,k⟩:=h;refine⟨_,(@Zg _ _ _ (@Zm _ _ _ _ (pe_dcompE (o0:=.dK []) (.inl rfl) (Nc:=["some", "rooms", "table"]) (ix:=[none,none,some 0]) (ZY.of (by decide +kernel:Z5 (Zc Y5) ["table", "sets"] ["some", "rooms", "table"] [none,none,some 0] _=true)) (Xz.units0 hr) rfl (Yk (K:=K) rfl (pv 1)) (fun _ _ _ _ _=>(V5 (K:=K) (n:=2) rfl rfl (YV (ZA (i:=0) (show List.Nodup (["some", "rooms", "table"]:List Str) by decide +kernel) rfl (Or.inl rfl)) (YV (ZA (i:=1) (show List.Nodup (["some", "rooms", "table"]:List Str) by decide +kernel) rfl (Or.inl rfl)) VQ)))) (fun _ _ _ _ _=>YN) (fun _ _ _ _ _=>(Vs (pv 2) T.aj T.aT ao (hr.mono (by decide)) T.aQ .nil Zv (@Zd _ _ _ (pv 0) (by rfl)))) (fun _ _ _ _ _=>(pv 1))))),?_⟩;refine⟨_,rfl,sl,rfl,⟨_,SqL.of (s0 _ _ hxs)⟩,fun Dc hDc=>?_⟩;have sB:∀{G G':Hp},Zh H0 G->Vt P R D G G'->Zh H0 G':=fun {G G'} s sb b o e=>sb _ _ (fun z=>by rw[z,hP0] at e;cases e) (fun z=>by rw[z,hR0] at e;cases e) (fun z=>by rw[z,hD0] at e;cases e) (s _ _ e);have hDc0:H0 Dc=none:=s0.free hDc;have tdc:=tb.mono (Ze (o:=.dK []) hDc);refine ko (J:=Itl K sl) (n:=ss.length) (fun i σ G=>∃(y1 y2:Option V) (kv:List (Key×V)),σ=[y1,y2,some (.ref r)]/\Zh H0 G/\TbK K a.Pm a.C_Table G r P R D ps/\G Dc=some (.dK kv)/\kv.length<=i/\∀(x m:Nat) t,x<i->ss[x]?=some t->ps[m]?=some t->∃l,Xo kv (.inl (m:Int))=some (.ref l)/\H0 l=some (.lst ((st t).map V.int))) ?_ ?_ ?_ ?_ ?_
  ·exact⟨_,_,[],rfl,s0.trans (Ze hDc),tdc,Zb,lS _,fun x m t h=>absurd h (Nat.not_lt_zero x)⟩
  ·rintro i σ G hi ⟨y1,y2,kv,rfl,sG,_⟩;exact⟨_,_,SqL.of (sG _ _ hxs),lU (by omega)⟩
  ·rintro σ G ⟨y1,y2,kv,rfl,sG,_⟩;exact⟨_,SqL.of (sG _ _ hxs),by omega⟩
  ·rintro i x σ G0 G hi ⟨y1,y2,kv,rfl,sG,tG,gD,lk,hv⟩ ⟨rfl,hx⟩ N hN;have ex:=hx _ (SqL.of (sG _ _ hxs));have hu:ss[i]?=some ss[i]:=lU hi;have hm:=mH hi;generalize ss[i]=t at hu hm;obtain⟨b,l,e,n,ev,hb,he,hl⟩:=hat i x t ex hu;subst ev;obtain⟨hc,hz,hsub⟩:=hss t hm;refine⟨b,_,rfl,Zh.tup sG _ _ _ hb,rfl,_,_,rfl,_,_,rfl,rfl,?_⟩;obtain⟨dx,ho⟩:=tG.obj;have ea:Zw ps (post t)=ps:=Wx hsub;refine⟨_,rfl,r,dx,_,rfl,ho,lkN (by decide +kernel) (by decide +kernel) (by decide +kernel),_,rfl,r,P,R,D,ps,e,t,n,rfl,tG,he.mono (Zh.tup sG),hc,hz,by rw[ea];exact pl,fun G1 m s1 t1 hm1=>?_⟩;rw[ea] at t1 hm1;have gD1:G1 Dc=some (.dK kv):=by
    obtain⟨np,pv0,h1,_⟩:=tG.pl;obtain⟨rows,h2,_,_,_,h3⟩:=tG.rl;exact s1 _ _ (fun z=>by rw[z,h1] at gD;cases gD) (fun z=>by rw[z,h2] at gD;cases gD) (fun z=>by rw[z,h3] at gD;cases gD) gD
   have sG1:=sB sG s1;refine⟨_,rfl,_,DPut.k (k:=.inl (m:Int)) gD1 (by rw[lV];omega),hN _ _ ⟨_,_,_,rfl,fun b' o' e'=>?_,TbK.updD gD1 t1,Zb,mC (Wd _ _ _) (by omega),fun x' m' t' hx' hs' hp'=>?_⟩⟩
   ·rw[ZB (fun z=>by rw[z,hDc0] at e';cases e')];exact sG1 _ _ e'
   ·rw[j7]
    by_cases cm:m'=m
    ·subst cm;rw[if_pos rfl];rw[hm1] at hp';cases hp';exact⟨l,rfl,hl⟩
    ·rw[if_neg (fun z=>cm (by have:(m':Int)=(m:Int):=Sum.inl.inj z;omega))];refine hv x' m' t' ?_ hs' hp';have:x'≠i:=fun z=>by
      rw[z,hu] at hs';cases hs';exact cm (nd_ix tG.nd hp' hm1)
     omega
  rintro σ G ⟨y1,y2,kv,rfl,sG,tG,gD,lk,hv⟩;refine k G Dc kv sG tG gD fun t ht m hp=>?_;obtain⟨x,hx,e⟩:=m7 ht;obtain⟨l,h1,h2⟩:=hv x m t hx (by rw[lU hx,e]) hp;exact⟨l,h1,sG _ _ h2⟩
structure UW(K:W.Frag)(H:Hp)(sl:Addr)(st:Tr->List Int)(t:Tr)(ss:List Tr):Prop where
 at_:yR K H sl st ss
 few:ss.length<4000
 sub:∀s∈ss,s∈ZE t
 short:∀s∈ss,(st s).length<=1000
 all:∀s∈Zw [] (ZE t),s.lb=.op "some" -> s∈ss
def jO(K:W.Frag)(a:Adr):Sp:=fun vs H Q _=>∃(w sl:Addr) (v:V) (n:Nat) (t:Tr) (d:WD) (st:Tr->List Int) (ss:List Tr),vs=[.ref w,v,.ref sl]/\ZW a.C_World H w d/\d.signs.length<=20/\At K n H v t/\isC t=true/\psz t<=2000000/\(Zw [] (post t)).length<4000/\UW K H sl st t ss/\∀H' q rv,Zh H H'->H q=none->H' q=some (.lst rv)->Grnd K H' d st (Zw [] (ZE t)) rv->Q (.ref q) H'
theorem vZ(T:Txt K mg a)(hw:w.params=a.Pm):Z2 P w K mg base CX0 6 a.ground_of a.cA ["world", "core", "sets"] (jO K a):=by
 have dD:=UE (P:=P) (w:=w) (base:=base) T hw;have ao:=X4 (P:=P) (w:=w) (base:=base) T hw;have iF:=jD (P:=P) (w:=w) (base:=base) T hw;have gZ:=yE (P:=P) (w:=w) (base:=base) T hw;refine T.eg.ok VY (fun vs H Q E h=>?_) (fun lM A outer s H vs Q E hr h=>?_)
 ·obtain⟨w,sl,v,n,t,d,st,ss,rfl,_⟩:=h;rfl
 ·obtain⟨w,sl,v,n,t,d,st,ss,rfl,hw0,n20,hat,hc,hz,hfew,⟨hs,ls,hsub,hsh,hall⟩,k⟩:=h;refine⟨_,(@Za _ _ _ _ _ (@Zp _ _ (3) _ _ _ _ VY.nd rfl (Or.inl rfl) (kf T.gT dD (hr.mono (by decide)) rfl T.iy T.du .nil Zv) (by rfl) (by exact .inl rfl)) (@Za _ _ _ _ _ (@Zp _ _ (4) _ _ _ _ VY.nd rfl (Or.inl rfl) (Vs (pv 3) T.aj T.aT ao (hr.mono (by decide)) T.aQ .nil Zv (@Zd _ _ _ (pv 1) (by rfl))) (by rfl) (by exact .inl rfl)) (@Zg _ _ _ (@Zm _ _ _ _ (Zl gZ (hr.mono (by decide)) rfl T.eP T.db.kp T.eO .nil Zv (@ZI _ _ _ _ _ (pv 0) (@ZI _ _ _ _ _ (pv 3) (@ZI _ _ _ _ _ (pv 4) (@Yh _ _ _ (Zl iF (hr.mono (by decide)) rfl T.gf T.eu.kp T.ge .nil Zv (@Zk _ _ _ _ _ (pv 3) (@Zd _ _ _ (pv 2) (by rfl)) (by rfl))) (by rfl)) (by rfl)) (by rfl)) (by rfl))))))),?_⟩;have hfewB:(Zw [] (ZE t)).length<4000:=nt (VW t) hfew;refine fun x dx nx ndx nex=>⟨x,dx,rfl,Zb,fun H1 P R D x1 hP hR hD nP nR nD tb1=>⟨rfl,?_⟩⟩;have s0:=kU (o:=.own x) (o':=.ins a.C_Table dx []) nx ndx;have s1:Zh H H1:=fun b u e=>x1 _ _ (ZL e nx) (s0 _ _ e);have fr:∀{c:Addr},(upd (upd H dx (.own x)) x (.ins a.C_Table dx [])) c=none->H c=none:=fun h=>s0.free h;have hP0:=fr hP;have hR0:=fr hR;have hD0:=fr hD;obtain⟨dx1,ho1⟩:=tb1.obj;refine⟨_,rfl,x,dx1,_,rfl,ho1,lkN (by decide +kernel) (by decide +kernel) (by decide +kernel),_,rfl,x,P,R,D,[],v,t,n,rfl,tb1,hat.mono (Zh.tup s1),hc,hz,hfew,fun H2 i b2 tb2 hi=>?_⟩;have s2:Zh H H2:=fun b u e=>b2 _ _ (ZL e hP0) (ZL e hR0) (ZL e hD0) (s1 _ _ e);refine⟨_,rfl,_,rfl,_,rfl,_,rfl,_,rfl,x,P,R,D,sl,_,st,ss,H,rfl,tb2,hfew,s2,hP0,hR0,hD0,hs,ls,fun s m=>⟨?_,?_,?_⟩,fun H3 Dc kv s3 tb3 hDc hv=>?_⟩
  ·exact V8 hc s (Z7.mpr (.inr (VH _ (lS _) (hsub s m))))
  ·exact mC (zd _ (lS _) (hsub s m)) hz
  ·exact fun y hy=>Z7.mpr (.inr (yz _ (lS _) (VH _ (lS _) (hsub s m)) hy))
  refine⟨w,x,P,R,D,Dc,i,_,t,d,st,kv,rfl,hw0.mono s3,n20,tb3,hi,V8 hc,hz,hfewB,hDc,fun m s hp hm he=>?_,fun H4 q rv s4 q0 hq g=>k H4 q rv (s3.trans s4) (s3.free q0) hq g⟩;have h:=hall s hm he;obtain⟨l,h1,h2⟩:=hv s h m hp;exact⟨l,h1,h2,hsh s h⟩
structure Rd(K:W.Frag)(a:Adr)(H:Hp)(w rn sl:Addr)(v:V)(d:WD)(way ring:List Int)(t:Tr)(st:Tr->List Int):Prop where
 w:ZW a.C_World H w d
 n20:d.signs.length<=20
 run:Ua H rn d.signs.length way ring
 core:∃n,At K n H v t
 c:isC t=true
 sz:psz t<=2000000
 few:(Zw [] (post t)).length<4000
 sets:∃ss,UW K H sl st t ss
 room:(way++ring).length+(Zw [] (post t)).length*(ring.length+1)<=50000
def xA(K:W.Frag)(a:Adr):Sp:=fun vs H Q _=>∃(w rn sl:Addr) (v:V) (m:Nat) (t:Tr) (d:WD) (st:Tr->List Int) (way ring:List Int),vs=[.ref w,.ref rn,v,.ref sl,.int (m:Nat)]/\Rd K a H w rn sl v d way ring t st/\m<=50000/\∀H' q,Zh H H'->H q=none->H' q=some (.lst (((List.range m).map (Xq d st (Xk way ring) t)).map V.bl))->Q (.ref q) H'
theorem UN(T:Txt K mg a)(hw:w.params=a.Pm):Z2 P w K mg base CX0 7 a.read_along a.bS ["world", "run", "core", "sets", "many"] (xA K a):=by
 have iG:=vZ (P:=P) (w:=w) (base:=base) T hw;have iH:=jx (P:=P) (w:=w) (base:=base) T hw;refine T.bh.ok xE (fun vs H Q E h=>?_) (fun lM A outer s H vs Q E hr h=>?_)
 ·obtain⟨w,rn,sl,v,m,t,d,st,way,ring,rfl,_⟩:=h;rfl
 ·obtain⟨w,rn,sl,v,m,t,d,st,way,ring,rfl,⟨hw0,n20,hrun,⟨n,hat⟩,hc,hz,hfew,⟨ss,hss⟩,hroom⟩,hm,k⟩:=h;refine⟨_,(@Zg _ _ _ (@Zm _ _ _ _ (Zl iH (hr.mono (by decide)) rfl T.gj T.eB.kp T.gi .nil Zv (@ZI _ _ _ _ _ (Zl iG (hr.mono (by decide)) rfl T.gb T.eg.kp T.fZ .nil Zv (@ZI _ _ _ _ _ (pv 0) (@ZI _ _ _ _ _ (pv 2) (@Yh _ _ _ (pv 3) (by rfl)) (by rfl)) (by rfl))) (@ZI _ _ _ _ _ (pv 1) (@Yh _ _ _ (pv 4) (by rfl)) (by rfl)) (by rfl))))),?_⟩;obtain⟨ts,ets⟩:=post_last t;have hfB:=VW t;refine⟨_,rfl,_,rfl,_,rfl,w,sl,v,n,t,d,st,ss,rfl,hw0,n20,hat,hc,hz,hfew,hss,fun H1 R rv s1 R0 hR g=>?_⟩;rw[ets] at g hfB;rw[lW,ng] at hfB;refine⟨_,rfl,_,rfl,R,rn,m,rv,ts,t,d,st,way,ring,rfl,hR,g,hrun.mono s1,hm,mC (Nat.add_le_add_left (rb _ hfB) _) hroom,fun H2 q s2 q0 hq=>k H2 q (s1.trans s2) (s1.free q0) hq⟩
def lA(K:W.Frag)(a:Adr):Sp:=fun vs H Q _=>∃(w rn sl:Addr) (v:V) (t:Tr) (d:WD) (st:Tr->List Int) (way ring:List Int),vs=[.ref w,.ref rn,v,.ref sl]/\Rd K a H w rn sl v d way ring t st/\∀H',Zh H H'->Q (.bl (Xq d st (Xk way ring) t 0)) H'
theorem lB(T:Txt K mg a)(hw:w.params=a.Pm):Z2 P w K mg base CX0 8 a.read a.gK ["world", "run", "core", "sets"] (lA K a):=by
 have bM:=UN (P:=P) (w:=w) (base:=base) T hw;refine T.hX.ok lj (fun vs H Q E h=>?_) (fun lM A outer s H vs Q E hr h=>?_)
 ·obtain⟨w,rn,sl,v,t,d,st,way,ring,rfl,_⟩:=h;rfl
 ·obtain⟨w,rn,sl,v,t,d,st,way,ring,rfl,rd,k⟩:=h;refine⟨_,(@Zg _ _ _ (@Zm _ _ _ _ (@Zz _ _ _ _ _ _ _ (Zs (K:=K) rfl) (Zl bM (hr.mono (by decide)) rfl T.bK T.bh.kp T.bJ .nil Zv (@ZI _ _ _ _ _ (pv 0) (@ZI _ _ _ _ _ (pv 1) (@ZI _ _ _ _ _ (pv 2) (@ZI _ _ _ _ _ (pv 3) (@Yh _ _ _ Zf (by rfl)) (by rfl)) (by rfl)) (by rfl)) (by rfl))) Zf (fun _ _=>rfl)))),?_⟩;exact⟨_,rfl,_,rfl,_,rfl,_,rfl,w,rn,sl,v,1,t,d,st,way,ring,rfl,rd,by decide,fun H1 q s1 q0 hq=>⟨q,_,_,_,rfl,rfl,SqL.of hq,Zi (j:=0) rfl,k H1 s1⟩⟩
def XW(H:Hp)(s:Addr)(n:Nat):Prop:=∃(x y:Int) (z:Nat),H s=some (.lst [.int x,.int y,.int (z:Nat)])/\0<=x/\0<=y/\y<2147483647/\z<=n
theorem XW.mono{H H':Hp}{s:Addr}{n:Nat}(h:Zh H H')(k:XW H s n):XW H' s n:=by
 obtain⟨x,y,z,e,r⟩:=k;exact⟨x,y,z,h _ _ e,r⟩
theorem XW.lst{H:Hp}{s:Addr}{n:Nat}(k:XW H s n):∃xs,H s=some (.lst xs):=by
 obtain⟨x,y,z,e,r⟩:=k;exact⟨_,e⟩
theorem XW.le{H:Hp}{s:Addr}{n m:Nat}(k:XW H s n)(h:n<=m):XW H s m:=by
 obtain⟨x,y,z,e,r1,r2,r3,r4⟩:=k;exact⟨x,y,z,e,r1,r2,r3,mC r4 h⟩
theorem XW.updN{H:Hp}{s D:Addr}{n:Nat}{o:HO}(h:D≠s)(k:XW H s n):XW (upd H D o) s n:=by
 obtain⟨x,y,z,e,r⟩:=k;exact⟨x,y,z,by rw[ZB (mj h)];exact e,r⟩
def xJ(K:W.Frag)(a:Adr):Sp:=fun vs H Q _=>∃c:Int,vs=[.int c]/\∀H' s,Zh H H'->H s=none->XW H' s 0->Q (.ref s) H'
theorem xv(T:Txt K mg a)(hw:w.params=a.Pm):Z2 P w K mg base CX0 1 a._law_state a.bX ["_law_cell"] (xJ K a):=by
 refine T.bL.ok xy (fun vs H Q E h=>?_) (fun lM A outer s H vs Q E hr h=>?_)
 ·obtain⟨c,rfl,_⟩:=h;rfl
 ·obtain⟨c,rfl,k⟩:=h;refine⟨_,(@Zg _ _ _ (@Zm _ _ _ _ (@Yc _ _ _ _ (@ZI _ _ _ _ _ (Zn (ve rfl) rfl T.lp PyProof.Rows.Boot.«max» (@Zk _ _ _ _ _ Zf (@Zd _ _ _ (@ZO _ _ _ _ _ _ _ _ Uo (pv 0) (@ZO _ _ _ _ _ _ _ _ op_pow Zf Zf)) (by rfl)) (by rfl))) (@ZI _ _ _ _ _ (@ZO _ _ _ _ _ _ _ _ U1 (pv 0) Zf) (@Yh _ _ _ Zf (by rfl)) (by rfl)) (by rfl))))),?_⟩;refine⟨_,rfl,_,_,rfl,rfl,⟨by decide,by decide,by decide⟩,_,_,rfl,rfl,_,_,rfl,_,rfl,_,_,rfl,rfl,by decide,sz3,fun l hl=>?_⟩;obtain⟨H1,qN,s1,e1⟩:=ZU (o:=.lst [.int (if c-10 ^ (6:Int).toNat>0 then c-10 ^ (6:Int).toNat else 0),.int (c%2147483647),.int 0]) hl;rw[qN];have y0:=rp c (show(2147483647:Int)≠0 by decide);have y1:=rq c (show(0:Int)<2147483647 by decide);exact k H1 l s1 hl ⟨_,_,0,e1,by split<;>omega,y0,y1,lS _⟩
def UG(K:W.Frag)(a:Adr):Sp:=fun vs H Q _=>∃(s:Addr) (b n:Nat),vs=[.ref s,.int (b:Nat)]/\XW H s n/\n<100000/\0<b/\b<=1000/\∀H' (r:Nat),Zq s H H'->XW H' s (n+1)->r<b->Q (.int (r:Nat)) H'
theorem XY(T:Txt K mg a)(hw:w.params=a.Pm):Z2 P w K mg base CX0 1 a._law_digit a.bY ["_law_state_here", "_law_base"] (UG K a):=by
 refine T.ab.ok WK (fun vs H Q E h=>?_) (fun lM A outer s H vs Q E hr h=>?_)
 ·obtain⟨s,b,n,rfl,_⟩:=h;rfl
 ·obtain⟨s,b,n,rfl,⟨x,y,z,hs,x0,y0,y1,zn⟩,nb,b0,b1,k⟩:=h;refine⟨_,(@Za _ _ _ _ _ (@ZV _ _ _ _ _ _ _ _ (@Zx _ _ _ _ _ _ _ _ op_gt (@Zz _ _ _ _ _ _ _ (Zs (K:=K) rfl) (pv 0) Zf (fun _ _=>rfl)) Zf (ZF _)) (@Za _ _ _ _ _ (@Zp _ _ (2) _ _ _ _ WK.nd rfl (Or.inl rfl) (@ZO _ _ _ _ _ _ _ _ U1 (@Zz _ _ _ _ _ _ _ (Zs (K:=K) rfl) (pv 0) Zf (fun _ _=>rfl)) (pv 1)) (by rfl) (by exact .inl rfl)) (@Za _ _ _ _ _ (ps_setL (@ZO _ _ _ _ _ _ _ _ zS (@Zz _ _ _ _ _ _ _ (Zs (K:=K) rfl) (pv 0) Zf (fun _ _=>rfl)) (pv 1)) (pv 0) Zf) (@Zg _ _ _ (@Zm _ _ _ _ (pv 2))))) ZD) (@Za _ _ _ _ _ (ps_setL (@ZO _ _ _ _ _ _ _ _ WA (@Zz _ _ _ _ _ _ _ (Zs (K:=K) rfl) (pv 0) Zf (fun _ _=>rfl)) Zf) (pv 0) Zf) (@Za _ _ _ _ _ (@Zp _ _ (3) _ _ _ _ WK.nd rfl (Or.inl rfl) (@ZO _ _ _ _ _ _ _ _ U1 (@ZO _ _ _ _ _ _ _ _ yP (@ZO _ _ _ _ _ _ _ _ WA (@ZO _ _ _ _ _ _ _ _ WA (@Zz _ _ _ _ _ _ _ (Zs (K:=K) rfl) (pv 0) Zf (fun _ _=>rfl)) (@ZO _ _ _ _ _ _ _ _ yP Zf (@Zz _ _ _ _ _ _ _ (Zs (K:=K) rfl) (pv 0) Zf (fun _ _=>rfl)))) Zf) Zf) Zf) (by rfl) (by exact .inl rfl)) (@Za _ _ _ _ _ (@Zp _ _ (3) _ _ _ _ WK.nd rfl (Or.inl rfl) (@ZO _ _ _ _ _ _ _ _ U1 (@ZO _ _ _ _ _ _ _ _ yP (pv 3) (@ZO _ _ _ _ _ _ _ _ WA (@ZO _ _ _ _ _ _ _ _ zS (pv 3) Zf) Zf)) Zf) (by rfl) (by exact .inl rfl)) (@Zg _ _ _ (@Zm _ _ _ _ (@ZO _ _ _ _ _ _ _ _ U1 (@ZO _ _ _ _ _ _ _ _ U1 (@ZO _ _ _ _ _ _ _ _ yP (pv 3) (@ZO _ _ _ _ _ _ _ _ WA (@ZO _ _ _ _ _ _ _ _ zS (pv 3) Zf) Zf)) Zf) (pv 1)))))))),?_⟩;have bI:(0:Int)<(b:Nat):=by omega
  refine⟨_,rfl,s,_,_,_,rfl,rfl,SqL.of hs,Zi (j:=0) rfl,_,_,rfl,rfl,_,rfl,WQ (fun c=>?_) (fun c=>?_)⟩
  ·have x1:0<x:=mO c;refine⟨_,rfl,s,_,_,_,rfl,rfl,SqL.of hs,Zi (j:=0) rfl,_,rfl,_,_,rfl,rfl,bI,?_⟩;refine⟨_,rfl,s,_,_,_,rfl,rfl,SqL.of hs,Zi (j:=0) rfl,_,rfl,_,_,rfl,rfl,⟨bI,by omega⟩,_,rfl,s,_,0,rfl,rfl,hs,by simp,_,rfl,?_⟩;have m0:=rp x (show((b:Nat):Int)≠0 by omega);have m1:=rq x bI;have e:x%(b:Nat)=((x%(b:Nat)).toNat:Int):=by omega
   rw[e];exact k _ _ (Zq.upd (Zh.x (.refl _))) ⟨x/(b:Nat),y,z,Zb,Int.ediv_nonneg x0 (by omega),y0,y1,by omega⟩ (by omega)
  ·refine⟨_,rfl,s,_,_,_,rfl,rfl,SqL.of hs,Zi (j:=2) rfl,_,_,rfl,rfl,_,rfl,s,_,2,rfl,rfl,hs,by simp,?_⟩;have e2:((z:Nat):Int)+1=((z+1:Nat):Int):=by omega
   rw[e2];obtain⟨H1,qN⟩:∃H1,upd H s (.lst ([V.int x,.int y,.int (z:Nat)].set 2 (.int ((z+1:Nat):Int))))=H1:=⟨_,rfl⟩;have sx:Zq s H H1:=by rw[<- qN];exact Zq.upd (Zh.x (.refl _))
   have h1:H1 s=some (.lst [.int x,.int y,.int ((z+1:Nat):Int)]):=by rw[<- qN];exact Zb
   rw[qN];refine⟨_,rfl,s,_,_,_,rfl,rfl,SqL.of h1,Zi (j:=1) rfl,_,rfl,s,_,_,_,rfl,rfl,SqL.of h1,Zi (j:=2) rfl,_,_,rfl,rfl,.inl ⟨by decide,by decide⟩,_,_,rfl,rfl,_,_,rfl,rfl,_,_,rfl,rfl,.inr ⟨by decide,by decide⟩,_,_,rfl,rfl,by decide,?_⟩;have a0:=rp ((y+7919*((z+1:Nat):Int)+1)*48271) (show(2147483647:Int)≠0 by decide);have a1:=rq ((y+7919*((z+1:Nat):Int)+1)*48271) (show(0:Int)<2147483647 by decide);generalize (y+7919*((z+1:Nat):Int)+1)*48271%2147483647=u at a0 a1 ⊢;refine⟨_,rfl,_,rfl,_,_,rfl,rfl,⟨by decide,by decide⟩,_,_,rfl,rfl,_,_,rfl,rfl,.inl ⟨by omega,by omega⟩,_,_,rfl,rfl,by decide,?_⟩;have b0':=rp (u*(u/1009+69621)) (show(2147483647:Int)≠0 by decide);have b1':=rq (u*(u/1009+69621)) (show(0:Int)<2147483647 by decide);generalize u*(u/1009+69621)%2147483647=v at b0' b1' ⊢;refine⟨_,rfl,_,rfl,_,_,rfl,rfl,⟨by decide,by decide⟩,_,_,rfl,rfl,_,_,rfl,rfl,.inl ⟨by omega,by omega⟩,_,_,rfl,rfl,by decide,_,rfl,_,_,rfl,rfl,bI,?_⟩;generalize v*(v/2003+40692)%2147483399=u2;have m0:=rp u2 (show((b:Nat):Int)≠0 by omega);have m1:=rq u2 bI;have e:u2%(b:Nat)=((u2%(b:Nat)).toNat:Int):=by omega
   rw[e];exact k _ _ sx ⟨x,y,z+1,h1,x0,y0,y1,by omega⟩ (by omega)
def nm3:List Str:=["p", "qq", "rab"]
theorem nm3_ok:∀x∈nm3,X2 x=true:=by decide +kernel
theorem nm3_nd:nm3.Nodup:=by decide +kernel
structure Mk(H0 G:Hp)(SG WY:Addr)(many i:Nat)(sg:List (Addr×List Str))(wy:List (Addr×List Int)):Prop where
 hs:G SG=some (.lst (sg.map fun e=>V.ref e.1))
 hw:G WY=some (.lst (wy.map fun e=>V.ref e.1))
 ls:sg.length=i
 lw:wy.length=i
 es:∀e∈sg,H0 e.1=none/\G e.1=some (.lst (e.2.map V.str))/\e.2.Nodup/\(∀x∈e.2,x∈nm3)/\e.2.length<=3
 ew:∀e∈wy,H0 e.1=none/\G e.1=some (.lst (e.2.map V.int))/\e.2.Nodup/\e.2≠[]/\(∀x∈e.2,0<=x/\x<(many:Nat))/\e.2.length<=3
theorem Mk.step{H0 G G':Hp}{SG WY s:Addr}{many i:Nat}{sg:List (Addr×List Str)}{wy:List (Addr×List Int)}{o:HO}(m:Mk H0 G SG WY many i sg wy)(n1:SG≠s)(n2:WY≠s)(h0:H0 s=some o)(x:Zq s G G'):Mk H0 G' SG WY many i sg wy:=
 ⟨x _ _ n1 m.hs,x _ _ n2 m.hw,m.ls,m.lw,fun e h=>(let ⟨a,b,c⟩:=m.es e h; ⟨a,x _ _ (fun z=>by rw[z,h0] at a;cases a) b,c⟩),fun e h=>(let ⟨a,b,c⟩:=m.ew e h; ⟨a,x _ _ (fun z=>by rw[z,h0] at a;cases a) b,c⟩)⟩
def xw(K:W.Frag)(a:Adr):Sp:=fun vs H Q _=>∃(s:Addr) (n:Nat),vs=[.ref s]/\XW H s n/\n<1000/\∀H' w d,Zq s H H'->ZW a.C_World H' w d->Good d->d.signs.length<=6->Q (.ref w) H'
theorem xP(T:Txt K mg a)(hw:w.params=a.Pm):Z2 P w K mg base CX0 8 a._law_world a.bZ ["_law_state_here"] (xw K a):=by
 have ik:=xz (P:=P) (w:=w) (base:=base) T hw;have aa:=XY (P:=P) (w:=w) (base:=base) T hw;refine T.dC.ok Xs (fun vs H Q E h=>?_) (fun lM A outer s H vs Q E hr h=>?_)
 ·obtain⟨s,n,rfl,_⟩:=h;rfl
 ·obtain⟨s,n,rfl,hst,hn,k⟩:=h;refine⟨_,(@Za _ _ _ _ _ (@Zp _ _ (1) _ _ _ _ Xs.nd rfl (Or.inr rfl) (@ZO _ _ _ _ _ _ _ _ WA Zf (Zl aa (hr.mono (by decide)) rfl T.ag T.ab.kp T.ae .nil Zv (@Zk _ _ _ _ _ (pv 0) (@Zd _ _ _ Zf (by rfl)) (by rfl)))) (by rfl) (by exact .inl rfl)) (@Za _ _ _ _ _ (@Zp _ _ (2) _ _ _ _ Xs.nd rfl (Or.inl rfl) (@Yc _ _ _ _ Xd) (by rfl) (by exact .inl rfl)) (@Za _ _ _ _ _ (@Zp _ _ (3) _ _ _ _ Xs.nd rfl (Or.inl rfl) (@Yc _ _ _ _ Xd) (by rfl) (by exact .inl rfl)) (@Za _ _ _ _ _ (X8 m8 rfl (Xt rfl T.bP (@Zd _ _ _ (pv 1) (by rfl))) (ZA (i:=4) Xs.nd rfl (Or.inl rfl)) (@Za _ _ _ _ _ (@YE _ _ _ _ (Wm m5 nh ni Z4 (pv 2) (@Zd _ _ _ (Yu (Nc:=["_law_name", "_law_state_here"]) (ix:=[none,some 0]) (ZY.of (by decide +kernel:Z5 (Zc YF) ["_law_state_here", "_law_many", "_law_signs", "_law_ways", "_law_room", "_law_on"] ["_law_name", "_law_state_here"] [none,some 0] _=true)) rfl (Yk (K:=K) rfl (@Yc _ _ _ _ (@ZI _ _ _ _ _ Zt (@ZI _ _ _ _ _ Zt (@Yh _ _ _ Zt (by rfl)) (by rfl)) (by rfl)))) (fun _ _ _ _ _=>(ZA (i:=0) (show List.Nodup (["_law_name", "_law_state_here"]:List Str) by decide +kernel) rfl (Or.inl rfl))) (fun _ _ _ _ _=>(qM (@Zx _ _ _ _ _ _ _ _ Yw (Zl aa (hr.mono (by decide)) rfl T.ag T.ab.kp T.ae .nil Zv (@Zk _ _ _ _ _ (pv 1) (@Zd _ _ _ Zf (by rfl)) (by rfl))) Zf (ZF _)))) (fun _ _ _ _ _=>(pv 0))) (by rfl))) (by rfl)) (@Za _ _ _ _ _ (WP (i:=5) Xs.nd rfl rfl (Nc:=["_law_k", "_law_state_here", "_law_many"]) (ix:=[none,some 0,some 1]) (ZY.of (by decide +kernel:Z5 (Zc YF) ["_law_state_here", "_law_many", "_law_signs", "_law_ways", "_law_room", "_law_on"] ["_law_k", "_law_state_here", "_law_many"] [none,some 0,some 1] _=true)) rfl (Xt rfl T.bP (@Zd _ _ _ (@ZO _ _ _ _ _ _ _ _ WA Zf (Zl aa (hr.mono (by decide)) rfl T.ag T.ab.kp T.ae .nil Zv (@Zk _ _ _ _ _ (pv 0) (@Zd _ _ _ Zf (by rfl)) (by rfl)))) (by rfl))) (fun _ _ _ _ _=>(ZA (i:=0) (show List.Nodup (["_law_k", "_law_state_here", "_law_many"]:List Str) by decide +kernel) rfl (Or.inl rfl))) (fun _ _ _ _ _=>YN) (fun _ _ _ _ _=>(Zl aa (hr.mono (by decide)) rfl T.ag T.ab.kp T.ae .nil Zv (@Zk _ _ _ _ _ (pv 1) (@Zd _ _ _ (pv 2) (by rfl)) (by rfl))))) (@Zg _ _ _ (@YE _ _ _ _ (Wm m5 nh ni Z4 (pv 3) (@Zd _ _ _ (Zn (JY hw rfl) rfl T.fg sJ (@Zd _ _ _ (Z3 (call_setI (K:=K) rfl hw rfl) rfl T.iY sI (@Zd _ _ _ (pv 5) (by rfl))) (by rfl))) (by rfl))) (by rfl)))))) (@Zg _ _ _ (@Zm _ _ _ _ (pe_make T.iM ik (hr.mono (by decide)) rfl T.i3 T.fD .nil Zv (@ZI _ _ _ _ _ (pv 2) (@ZI _ _ _ _ _ (pv 3) (@ZI _ _ _ _ _ (@Yc _ _ _ _ (@Zd _ _ _ Zf (by rfl))) (@Yh _ _ _ (@Yc _ _ _ _ Xd) (by rfl)) (by rfl)) (by rfl)) (by rfl))))))))),?_⟩;obtain⟨os,hos⟩:=hst.lst;refine⟨_,rfl,s,6,n,rfl,hst,by omega,by decide,by decide,fun H1 r x1 st1 hr=>⟨_,_,rfl,rfl,by decide,fun SG hSG=>?_⟩⟩;have em:(1:Int)+(r:Nat)=((r+1:Nat):Int):=by omega
  rw[em];generalize hmany:r+1=many;obtain⟨H2,qN,s2,eSG⟩:=ZU (o:=.lst []) hSG;rw[qN];clear qN;refine⟨by decide,fun WY hWY=>?_⟩;obtain⟨H3,qN,s3,eWY⟩:=ZU (o:=.lst []) hWY;rw[qN];clear qN;have x3:Zq s H H3:=x1.trans (Zh.x (s2.trans s3));have st3:=st1.mono (s2.trans s3);obtain⟨o3,ho3⟩:=st3.lst;have eSG3:=s3 _ _ eSG;have n1:SG≠s:=fun z=>by
   obtain⟨o1,ho1⟩:=st1.lst;rw[z,ho1] at hSG;cases hSG
  have n2:WY≠s:=fun z=>by
   obtain⟨o1,ho1⟩:=(st1.mono s2).lst;rw[z,ho1] at hWY;cases hWY
  have n3:SG≠WY:=fun z=>by rw[z] at eSG;rw[eSG] at hWY;cases hWY
  have h0SG:H SG=none:=by
   cases e:H SG with
   |none=>rfl
   |some o=>rw[x1 _ _ n1 e] at hSG;cases hSG
  have h0WY:H WY=none:=by
   cases e:H WY with
   |none=>rfl
   |some o=>rw[s2 _ _ (x1 _ _ n2 e)] at hWY;cases hWY
  refine⟨_,rfl,_,rfl,by omega,by omega,?_⟩;refine X1 (J:=Itr 0 many) (n:=many) (fun i σ G=>∃(z4 z5:Option V) (sg:List (Addr×List Str)) (wy:List (Addr×List Int)),σ=[some (.ref s),some (.int (many:Nat)),some (.ref SG),some (.ref WY),z4,z5]/\Zq s H G/\XW G s (n+1+10*i)/\Mk H3 G SG WY many i sg wy/\∀b o,b≠s->b≠SG->b≠WY->H3 b=some o->G b=some o) ?_ (fun i σ H' hi _=>hi) (fun σ H' _=>lS _) ?_ ?_
  ·exact⟨_,_,[],[],rfl,x3,(by rw[Nat.mul_zero,Nat.add_zero];exact st3),⟨eSG3,eWY,rfl,rfl,(fun e h=>by cases h),(fun e h=>by cases h)⟩,fun b o _ _ _ e=>e⟩
  ·rintro i x σ G0 G hi ⟨z4,z5,sg,wy,rfl,xG,stG,mk,kp⟩ ⟨rfl,rfl⟩;refine⟨_,rfl,.inl ⟨rfl,_,SqL.of mk.hs⟩,sz3,fun q hq=>?_⟩;obtain⟨G1,qN,u1,eq⟩:=ZU (o:=.lst [.str "p",.str "qq",.str "rab"]) hq;rw[qN];clear qN;refine⟨q,rfl,⟨_,SqL.of eq⟩,fun D hD=>?_⟩;have nq:q≠s:=fun z=>by obtain⟨o1,ho1⟩:=stG.lst;rw[z,ho1] at hq;cases hq
   have st1':=stG.mono u1;have nD:D≠s:=fun z=>by obtain⟨o1,ho1⟩:=st1'.lst;rw[z,ho1] at hD;cases hD
   refine Xv (J:=Itl K q) (n:=3) (fun j σ F=>∃(y:Option V) (ss:List Str),σ=[y,some (.ref s)]/\Zq s G1 F/\XW F s (n+1+10*i+j)/\F D=some (.lst (ss.map V.str))/\ss.Sublist (nm3.take j)) ?_ ?_ ?_ ?_ ?_
   ·exact⟨_,[],rfl,Zh.x (Ze hD),st1'.mono (Ze hD),Zb,List.nil_sublist _⟩
   ·rintro j σ F hj ⟨y,ss,rfl,xF,_⟩;exact⟨_,_,SqL.of (xF _ _ nq eq),lU (by exact hj)⟩
   ·rintro σ F ⟨y,ss,rfl,xF,_⟩;exact⟨_,SqL.of (xF _ _ nq eq),lS _⟩
   ·rintro j x σ F0 F hj ⟨y,ss,rfl,xF,stF,eD,sub⟩ ⟨rfl,hx⟩ N N0 hN hN0;have ex:=hx _ (SqL.of (xF _ _ nq eq));have ex':x=.str nm3[j]:=by
     rcases(show j=0\/j=1\/j=2 by omega) with rfl|rfl|rfl<;>cases ex<;>rfl
    subst ex';refine⟨_,rfl,s,2,_,rfl,stF,by omega,by decide,by decide,fun F1 r' y1 sty hr'=>⟨rfl,_,rfl,WQ (fun c=>⟨_,rfl,?_⟩) (fun c=>?_)⟩⟩
    ·have l1:ss.length<=3:=mC sub.length_le (by rw[mf];exact Nat.min_le_right _ _);refine hN _ _ F1 _ (y1 _ _ nD eD) (by rw[lQ,lV];omega) ⟨_,ss++[nm3[j]],rfl,(xF.trans y1).updN hD,XW.updN nD (by rw[<- pX];exact sty),by rw[Zb,mB];rfl,?_⟩
     ·rw[rj,lU hj];exact sub.append (List.Sublist.refl _)
    ·refine hN0 _ _ ⟨_,ss,rfl,xF.trans y1,by rw[<- pX];exact sty,y1 _ _ nD eD,?_⟩;rw[rj];exact sub.trans (List.sublist_append_left _ _)
   rintro σ F ⟨y,ss,rfl,xF,stF,eD,sub⟩;have mkF:=mk.step n1 n2 ho3 ((Zh.x u1).trans xF);have kpF:∀b o,b≠s->b≠SG->b≠WY->H3 b=some o->F b=some o:=fun b o a1 a2 a3 e=>xF _ _ a1 (u1 _ _ (kp b o a1 a2 a3 e));have nDS:D≠SG:=fun z=>by rw[z,u1 _ _ mk.hs] at hD;cases hD
   have nDW:D≠WY:=fun z=>by rw[z,u1 _ _ mk.hw] at hD;cases hD
   have D0:H3 D=none:=by
    cases e:H3 D with
    |none=>rfl
    |some o=>rw[u1 _ _ (kp D o nD nDS nDW e)] at hD;cases hD
   have xHF:Zq s H F:=xG.trans ((Zh.x u1).trans xF);have lss:ss.length<=3:=mC sub.length_le (by rw[mf];exact Nat.min_le_right _ _);refine⟨SG,_,_,rfl,rfl,mkF.hs,by rw[lQ,mkF.ls,lV];omega,?_⟩;obtain⟨F2,qN⟩:∃F2,upd F SG (.lst ((sg.map fun e=>V.ref e.1)++[.ref D]))=F2:=⟨_,rfl⟩;have xHF2:Zq s H F2:=by rw[<- qN];exact xHF.updN h0SG
   have stF2:XW F2 s (n+1+10*i+3):=by rw[<- qN];exact XW.updN n1 stF
   have hs2:F2 SG=some (.lst ((sg++[(D,ss)]).map fun e=>V.ref e.1)):=by rw[<- qN,Zb,mB];rfl
   have ot2:∀b o,b≠SG->F b=some o->F2 b=some o:=fun b o n e=>by rw[<- qN,ZB n];exact e
   have kpF2:∀b o,b≠s->b≠SG->b≠WY->H3 b=some o->F2 b=some o:=fun b o a1 a2 a3 e=>ot2 _ _ a2 (kpF b o a1 a2 a3 e);have hw2:F2 WY=some (.lst (wy.map fun e=>V.ref e.1)):=ot2 _ _ (mj n3) mkF.hw;have nSG:∀{b:Addr},H3 b=none->b≠SG:=fun h z=>by rw[z,eSG3] at h;cases h
   have nWY:∀{b:Addr},H3 b=none->b≠WY:=fun h z=>by rw[z,eWY] at h;cases h
   have nS:∀{b:Addr},H3 b=none->b≠s:=fun h z=>by rw[z,ho3] at h;cases h
   have es2:∀e∈sg++[(D,ss)],H3 e.1=none/\F2 e.1=some (.lst (e.2.map V.str))/\e.2.Nodup/\(∀x∈e.2,x∈nm3)/\e.2.length<=3:=fun e he=>by
    rcases ml.mp he with he|he
    ·obtain⟨a1,a2,a3⟩:=mkF.es e he;exact⟨a1,ot2 _ _ (nSG a1) a2,a3⟩
    ·rw[mr] at he;subst he;exact⟨D0,ot2 _ _ nDS eD,sub.nodup ((List.take_sublist _ _).nodup nm3_nd),fun x hx=>(List.take_sublist _ _).subset (sub.subset hx),lss⟩
   have ew2:∀e∈wy,H3 e.1=none/\F2 e.1=some (.lst (e.2.map V.int))/\e.2.Nodup/\e.2≠[]/\(∀x∈e.2,0<=x/\x<(many:Nat))/\e.2.length<=3:=fun e he=>by
    obtain⟨a1,a2,a3⟩:=mkF.ew e he;exact⟨a1,ot2 _ _ (nSG a1) a2,a3⟩
   rw[qN];have lsg:(sg++[(D,ss)]).length=i+1:=by rw[lW,mk.ls];rfl
   have lwy:=mk.lw;generalize sg++[(D,ss)]=sg' at hs2 es2 lsg;clear qN ot2 kpF nDS nDW D0 mkF lss xF xHF stF eD sub st1' mk;refine⟨_,rfl,s,3,_,rfl,stF2,by omega,by decide,by decide,fun F3 r3 y3 st3' hr3=>⟨_,_,rfl,rfl,_,rfl,by omega,by omega,fun D2 hD2=>?_⟩⟩;have e3:((1:Int)+(r3:Nat)).toNat=r3+1:=by omega
   rw[e3];have nD2:D2≠s:=fun z=>by obtain⟨o1,ho1⟩:=st3'.lst;rw[z,ho1] at hD2;cases hD2
   refine Xv (J:=Itr 0 (r3+1)) (n:=r3+1) (fun j σ F=>∃(y:Option V) (ns:List Int),σ=[y,some (.ref s),some (.int (many:Nat))]/\Zq s F3 F/\XW F s (n+1+10*i+4+j)/\F D2=some (.lst (ns.map V.int))/\ns.length=j/\∀x∈ns,0<=x/\x<(many:Nat)) ?_ (fun _ _ _ h _=>h) (fun _ _ _=>lS _) ?_ ?_
   ·exact⟨_,[],rfl,Zh.x (Ze hD2),st3'.mono (Ze hD2),Zb,rfl,fun x h=>by cases h⟩
   ·rintro j x σ F0 F4 hj ⟨y,ns,rfl,xF4,stF4,eD4,ln,hb⟩ ⟨rfl,rfl⟩ N N0 hN hN0;refine Ui (te:=tCall (UG K a) [] E0 (xV (tVar 1) (xV (tVar 2) tNil))) (σ:=[some (.int (0+(j:Nat))),some (.ref s),some (.int (many:Nat))]) (H:=F4) (N:=fun v H5=>N v [some (.int (0+(j:Nat))),some (.ref s),some (.int (many:Nat))] H5) (N0:=fun H4=>N0 [some (.int (0+(j:Nat))),some (.ref s),some (.int (many:Nat))] H4) ?_;refine⟨_,rfl,_,rfl,s,many,_,rfl,stF4,by omega,by omega,by omega,fun F5 v y5 st5 hv=>?_⟩;refine hN _ _ F5 _ (y5 _ _ nD2 eD4) (by rw[lQ,ln,lV];omega) ⟨_,ns++[(v:Int)],rfl,(xF4.trans y5).updN hD2,XW.updN nD2 (by rw[<- pX];exact st5),by rw[Zb,mB];rfl,by rw[lW,ln];rfl,fun x hx=>?_⟩;rcases ml.mp hx with hx|hx
    ·exact hb x hx
    ·rw[mr] at hx;subst hx;omega
   rintro σ F4 ⟨y,ns,rfl,xF4,stF4,eD4,ln,hb⟩;have x34:Zq s F2 F4:=y3.trans xF4;refine⟨_,rfl,.inl ⟨rfl,_,SqL.of (x34 _ _ n2 hw2)⟩,_,rfl,D2,ns,rfl,SqL.of eD4,by omega,fun S hS=>?_⟩;obtain⟨F5,qN,u5,eS⟩:=ZU (o:=SzO a.Pm S ns) hS;rw[qN];clear qN;refine⟨S,ns,rfl,eS,by omega,fun L us hL nd hsub hle hne=>?_⟩;obtain⟨F6,qN,u6,eL⟩:=ZU (o:=.lst (us.map V.int)) hL;rw[qN];clear qN;have x46:Zq s F2 F6:=x34.trans (Zh.x (u5.trans u6));have st6:=stF4.mono (u5.trans u6);have hw6:=x46 _ _ n2 hw2;have nL:L≠s:=fun z=>by obtain⟨o1,ho1⟩:=(stF4.mono u5).lst;rw[z,ho1] at hL;cases hL
   have nLS:L≠SG:=fun z=>by rw[z,u5 _ _ (x34 _ _ n1 hs2)] at hL;cases hL
   have nLW:L≠WY:=fun z=>by rw[z,u5 _ _ (x34 _ _ n2 hw2)] at hL;cases hL
   have L0:H3 L=none:=by
    cases e:H3 L with
    |none=>rfl
    |some o=>rw[u5 _ _ (x34 _ _ nL (kpF2 L o nL nLS nLW e))] at hL;cases hL
   refine⟨WY,_,_,rfl,rfl,hw6,by rw[lQ,lwy,lV];omega,?_⟩;refine⟨_,_,sg',wy++[(L,us)],rfl,(xHF2.trans x46).updN h0WY,XW.updN n2 (st6.le (by omega)),⟨by rw[ZB n3];exact x46 _ _ n1 hs2,by rw[Zb,mB];rfl,lsg,by rw[lW,lwy];rfl,fun e he=>?_,fun e he=>?_⟩,fun b o a1 a2 a3 e=>by rw[ZB a3];exact x46 _ _ a1 (kpF2 b o a1 a2 a3 e)⟩
   ·obtain⟨a1,a2,a3⟩:=es2 e he;exact⟨a1,by rw[ZB (nWY a1)];exact x46 _ _ (nS a1) a2,a3⟩
   ·rcases ml.mp he with he|he
    ·obtain⟨a1,a2,a3⟩:=ew2 e he;exact⟨a1,by rw[ZB (nWY a1)];exact x46 _ _ (nS a1) a2,a3⟩
    ·rw[mr] at he;subst he;refine⟨L0,by rw[ZB nLW];exact eL,nd,hne (fun z=>by rw[z] at ln;cases ln),fun x hx=>hb x (hsub x hx),by show us.length<=3;omega⟩
  rintro σ G ⟨z4,z5,sg,wy,rfl,xG,stG,mk,kp⟩;refine⟨_,rfl,_,rfl,sz1,fun L3 hL3=>?_⟩;obtain⟨G1,qN,u1,e3⟩:=ZU (o:=.lst [.int 0]) hL3;rw[qN];clear qN;refine⟨by decide,fun L4 hL4=>?_⟩;obtain⟨G2,qN,u2,e4⟩:=ZU (o:=.lst []) hL4;rw[qN];clear qN;have u12:=u1.trans u2;intro o dw no ndw new;have sm:Zh G2 (upd (upd G2 dw (.own o)) o (.ins a.C_World dw [])):=(Ze ndw).trans (Ze (by rw[ZB (mj new)];exact no));have mk2:=mk.step n1 n2 ho3 (Zh.x u12);have pp:WU G2 (.ref SG) (.ref WY) (.ref L3) (.ref L4) ⟨sg.map Prod.snd,wy.map Prod.snd,[0],[]⟩:=by
   refine⟨⟨SG,_,rfl,mk2.hs,by rw[lQ,lQ],fun i v x h1 h2=>?_⟩,⟨WY,_,rfl,mk2.hw,by rw[lQ,lQ],fun i v x h1 h2=>?_⟩,⟨L3,rfl,u2 _ _ e3⟩,⟨L4,rfl,e4⟩⟩
   ·rw[mh] at h1 h2;obtain⟨e,g1,rfl⟩:=om.mp h1;rw[g1] at h2;cases h2;exact⟨_,rfl,(mk2.es e (mM g1)).2.1⟩
   ·rw[mh] at h1 h2;obtain⟨e,g1,rfl⟩:=om.mp h1;rw[g1] at h2;cases h2;exact⟨_,rfl,(mk2.ew e (mM g1)).2.1⟩
  have ld:(sg.map Prod.snd).length=many:=by rw[lQ,mk2.ls]
  have gd:Good ⟨sg.map Prod.snd,wy.map Prod.snd,[0],[]⟩:=by
   refine⟨by rw[ld];omega,by rw[ld];omega,by rw[ld,lQ,mk2.lw],fun ss hs=>?_,fun ns hs=>?_,⟨(by decide:[(0:Int)].Nodup),(by decide:[(0:Int)]≠[]),fun x hx=>?_,(by decide:[(0:Int)].length<=20)⟩,⟨List.nodup_nil,(fun x hx=>by cases hx),mN _⟩⟩
   ·obtain⟨e,he,rfl⟩:=mE.mp hs;obtain⟨_,_,a3,a4,a5⟩:=mk2.es e he;exact⟨a3,fun x hx=>nm3_ok x (a4 x hx),by omega⟩
   ·obtain⟨e,he,rfl⟩:=mE.mp hs;obtain⟨_,_,a3,a4,a5,a6⟩:=mk2.ew e he;exact⟨a3,a4,fun x hx=>by rw[ld];exact a5 x hx,by omega⟩
   ·rw[mr] at hx;subst hx;rw[ld];omega
  exact⟨o,dw,_,_,_,_,_,rfl,Zb,pp.mono sm,gd,fun H5 x5 wa=>⟨rfl,k _ o _ (fun b u nb e=>x5 b u (ZL (u12 _ _ (xG _ _ nb e)) no) (sm b u (u12 _ _ (xG _ _ nb e)))) wa gd (by rw[ld];omega)⟩⟩
theorem again{rs:List Int}{M:Nat}(h:∀x∈rs,0<=x/\x<(M:Nat))(l:M<rs.length):∃(k:Nat) (hk:k<rs.length),1<=k/\rs[k]∈rs.take k:=by
 apply Classical.byContradiction;intro hno;have nd:rs.Nodup:=by
  unfold List.Nodup;rw[pR];intro i j hi hj hij e;refine hno ⟨j,hj,by omega,?_⟩;rw[<- e];exact List.mem_iff_getElem.mpr ⟨i,by rw[mf];omega,pS⟩
 have:=jA nd h;omega
theorem cutV_both(xs:List V){i j:Nat}(h:i<=j)(hj:j<=xs.length):W0 xs (some (i:Int)) (some (j:Int))=(xs.drop i).take (j-i):=by
 unfold W0;rw[HT.sIx_nat,HT.sIx_nat,rN hj,rN (by omega)]
def kD(K:W.Frag)(a:Adr):Sp:=fun vs H Q _=>∃(s w:Addr) (n:Nat) (d:WD),vs=[.ref s,.ref w]/\XW H s n/\n<1000/\ZW a.C_World H w d/\Good d/\d.signs.length<=6/\∀H' rn way ring,Zq s H H'->Ua H' rn d.signs.length way ring->(way++ring).length<=11->Q (.ref rn) H'
theorem j5(T:Txt K mg a)(hw:w.params=a.Pm):Z2 P w K mg base CX0 2 a._law_run a.cT ["_law_state_here", "_law_world_here"] (kD K a):=by
 have aH:=Vz (P:=P) (w:=w) (base:=base) T hw;have gz:=zc (P:=P) (w:=w) (base:=base) T hw;have aa:=XY (P:=P) (w:=w) (base:=base) T hw;refine T.fu.ok Y6 (fun vs H Q E h=>?_) (fun lM A outer s H vs Q E hr h=>?_)
 ·obtain⟨s,w,n,d,rfl,_⟩:=h;rfl
 ·obtain⟨s,w,n,d,rfl,hst,hn,hw0,gd,n6,k⟩:=h;refine⟨_,(@Za _ _ _ _ _ (@Zp _ _ (2) _ _ _ _ Y6.nd rfl (Or.inr rfl) (@Yc _ _ _ _ (@Zd _ _ _ (Zl aa (hr.mono (by decide)) rfl T.ag T.ab.kp T.ae .nil Zv (@Zk _ _ _ _ _ (pv 0) (@Zd _ _ _ (Uj (pv 1) T.aq T.bm aH (hr.mono (by first|decide|omega)) T.bj .nil Zv) (by rfl)) (by rfl))) (by rfl))) (by rfl) (by exact .inl rfl)) (@Za _ _ _ _ _ (X8 m8 rfl (Xt rfl T.bP (@Zd _ _ _ (@ZO _ _ _ _ _ _ _ _ WA Zf (Zl aa (hr.mono (by decide)) rfl T.ag T.ab.kp T.ae .nil Zv (@Zk _ _ _ _ _ (pv 0) (@Zd _ _ _ Zf (by rfl)) (by rfl)))) (by rfl))) (ZA (i:=3) Y6.nd rfl (Or.inl rfl)) (@Za _ _ _ _ _ (@Zp _ _ (4) _ _ _ _ Y6.nd rfl (Or.inl rfl) (Vs (pv 1) T.aq T.dB gz (hr.mono (by decide)) T.dA .nil Zv (@Zd _ _ _ (@Zz _ _ _ _ _ _ _ (Zs (K:=K) rfl) (pv 2) (Us Vg Zf) (fun _ _=>rfl)) (by rfl))) (by rfl) (by exact .inl rfl)) (@Zg _ _ _ (@YE _ _ _ _ (Wm m5 nh ni Z4 (pv 2) (@Zd _ _ _ (@Zz _ _ _ _ _ _ _ (Zs (K:=K) rfl) (pv 4) (Zl aa (hr.mono (by decide)) rfl T.ag T.ab.kp T.ae .nil Zv (@Zk _ _ _ _ _ (pv 0) (@Zd _ _ _ (Zn (Zy (K:=K) rfl) rfl T.aB sA (@Zd _ _ _ (pv 4) (by rfl))) (by rfl)) (by rfl))) (fun _ _=>rfl)) (by rfl))) (by rfl))))) (@Za _ _ _ _ _ (WP (i:=5) Y6.nd rfl rfl (Nc:=["_law_k", "_law_rooms"]) (ix:=[none,some 2]) (ZY.of (by decide +kernel:Z5 (Zc Xj) ["_law_state_here", "_law_world_here", "_law_rooms", "_law_k", "_law_on", "_law_ends", "_law_end", "_law_begins", "_law_begin"] ["_law_k", "_law_rooms"] [none,some 2] _=true)) rfl (pi_range2 rfl T.bP (@Zk _ _ _ _ _ Zf (@Zd _ _ _ (Zn (Zy (K:=K) rfl) rfl T.aB sA (@Zd _ _ _ (pv 2) (by rfl))) (by rfl)) (by rfl))) (fun _ _ _ _ _=>(ZA (i:=0) (show List.Nodup (["_law_k", "_law_rooms"]:List Str) by decide +kernel) rfl (Or.inl rfl))) (fun _ _ _ _ _=>(qM (@Zx _ _ _ _ _ _ _ _ (V3 (K:=K) rfl) (@Zz _ _ _ _ _ _ _ (Zs (K:=K) rfl) (pv 1) (pv 0) (fun _ _=>rfl)) (ZS (Yo (K:=K) rfl) (pv 1) Yb (ZX (pv 0))) (by with_unfolding_all rfl)))) (fun _ _ _ _ _=>(pv 0))) (@Za _ _ _ _ _ (@Zp _ _ (6) _ _ _ _ Y6.nd rfl (Or.inr rfl) (@Zz _ _ _ _ _ _ _ (Zs (K:=K) rfl) (pv 5) (Zl aa (hr.mono (by decide)) rfl T.ag T.ab.kp T.ae .nil Zv (@Zk _ _ _ _ _ (pv 0) (@Zd _ _ _ (Zn (Zy (K:=K) rfl) rfl T.aB sA (@Zd _ _ _ (pv 5) (by rfl))) (by rfl)) (by rfl))) (fun _ _=>rfl)) (by rfl) (by exact .inl rfl)) (@Za _ _ _ _ _ (WP (i:=7) Y6.nd rfl rfl (Nc:=["_law_k", "_law_rooms", "_law_end"]) (ix:=[none,some 2,some 6]) (ZY.of (by decide +kernel:Z5 (Zc Xj) ["_law_state_here", "_law_world_here", "_law_rooms", "_law_k", "_law_on", "_law_ends", "_law_end", "_law_begins", "_law_begin"] ["_law_k", "_law_rooms", "_law_end"] [none,some 2,some 6] _=true)) rfl (Xt rfl T.bP (@Zd _ _ _ (pv 6) (by rfl))) (fun _ _ _ _ _=>(ZA (i:=0) (show List.Nodup (["_law_k", "_law_rooms", "_law_end"]:List Str) by decide +kernel) rfl (Or.inl rfl))) (fun _ _ _ _ _=>(qM (@Zx _ _ _ _ _ _ _ _ Yw (@Zz _ _ _ _ _ _ _ (Zs (K:=K) rfl) (pv 1) (pv 0) (fun _ _=>rfl)) (@Zz _ _ _ _ _ _ _ (Zs (K:=K) rfl) (pv 1) (pv 2) (fun _ _=>rfl)) (ZF _)))) (fun _ _ _ _ _=>(pv 0))) (@Za _ _ _ _ _ (@Zp _ _ (8) _ _ _ _ Y6.nd rfl (Or.inl rfl) (@Zz _ _ _ _ _ _ _ (Zs (K:=K) rfl) (pv 7) (Zl aa (hr.mono (by decide)) rfl T.ag T.ab.kp T.ae .nil Zv (@Zk _ _ _ _ _ (pv 0) (@Zd _ _ _ (Zn (Zy (K:=K) rfl) rfl T.aB sA (@Zd _ _ _ (pv 7) (by rfl))) (by rfl)) (by rfl))) (fun _ _=>rfl)) (by rfl) (by exact .inl rfl)) (@Zg _ _ _ (@Zm _ _ _ _ (@ZJ _ _ _ _ _ (@Zk _ _ _ _ _ (ZS (Yo (K:=K) rfl) (pv 2) Yb (ZX (pv 8))) (@Zd _ _ _ (ZS (Yo (K:=K) rfl) (pv 2) (ZX (pv 8)) (ZX (pv 6))) (by rfl)) (by rfl))))))))))),?_⟩;obtain⟨os,hos⟩:=hst.lst;obtain⟨dx,fs,ho,hk0⟩:=jG hw0;have n1:=gd.n1;refine⟨_,rfl,_,rfl,w,dx,fs,rfl,ho,hk0,w,d,rfl,hw0,s,d.signs.length,n,rfl,hst,by omega,by omega,by omega,fun H1 r x1 st1 hr=>⟨sz1,fun R hR=>?_⟩⟩;obtain⟨H2,qN,s2,eR⟩:=ZU (o:=.lst [.int (r:Nat)]) hR;rw[qN];clear qN;have st2:=st1.mono s2;have x2:=x1.trans (Zh.x s2);have nR:R≠s:=fun z=>by obtain⟨o1,ho1⟩:=st1.lst;rw[z,ho1] at hR;cases hR
  have R0:H R=none:=x1.free nR hR;refine⟨_,rfl,s,4,_,rfl,st2,by omega,by decide,by decide,fun H3 r2 x3 st3 hr2=>⟨_,_,rfl,rfl,_,rfl,by omega,by omega,?_⟩⟩;have e7:((7:Int)+(r2:Nat)).toNat=r2+7:=by omega
  rw[e7];refine X1 (J:=Itr 0 (r2+7)) (n:=r2+7) (fun i σ G=>∃(z3 z4:Option V) (rs:List Int),σ=[some (.ref s),some (.ref w),some (.ref R),z3,z4,none,none,none,none]/\Zq s H G/\XW G s (n+2+i)/\G R=some (.lst (rs.map V.int))/\rs.length=i+1/\∀x∈rs,0<=x/\x<(d.signs.length:Nat)) ?_ (fun _ _ _ h _=>h) (fun _ _ _=>lS _) ?_ ?_
  ·exact⟨_,_,[(r:Int)],rfl,x2.trans x3,st3,x3 _ _ nR eR,rfl,fun x hx=>by rw[mr] at hx;subst hx;omega⟩
  ·rintro i x σ G0 G hi ⟨z3,z4,rs,rfl,xG,stG,gR,lr,hb⟩ ⟨rfl,rfl⟩;have wG:=ZW.x hos xG hw0;obtain⟨dx2,fs2,ho2,hk2⟩:=JV wG;have hat:atI (rs.map V.int) (-1)=some (.int (rs[rs.length-1]'(by omega))):=by
    rw[show(-1:Int)=-((1:Nat):Int) from rfl,jw (lS 1) (by rw[lQ];omega),oq];simp only[lQ]
   have hl:=hb _ (mH (show rs.length-1<rs.length by omega));generalize (rs[rs.length-1]'(by omega))=y at hat hl;obtain⟨y,rfl⟩:=se hl.1;have hyl:y<d.ways.length:=by rw[gd.wl];omega
   have hwy:d.ways[y]?=some d.ways[y]:=lU hyl;obtain⟨_,wne,wb,wl⟩:=gd.wn _ (mH hyl);generalize d.ways[y]=ws at hwy wne wb wl;refine⟨_,rfl,w,dx2,fs2,rfl,ho2,hk2,_,rfl,_,rfl,R,_,_,_,rfl,rfl,SqL.of gR,hat,w,d,y,ws,rfl,wG,hwy,fun L hL=>?_⟩;obtain⟨G1,qN,u1,eL⟩:=ZU (o:=.lst ((YO ws).map V.int)) hL;rw[qN];clear qN;have st1':=stG.mono u1;have nL:L≠s:=fun z=>by obtain⟨o1,ho1⟩:=stG.lst;rw[z,ho1] at hL;cases hL
   have lso:(YO ws).length=ws.length:=(VX ws).length_eq;have lpos:0<ws.length:=oY.mpr wne;refine⟨_,rfl,.inl ⟨rfl,_,SqL.of (u1 _ _ gR)⟩,_,rfl,_,rfl,_,rfl,.inl ⟨L,_,rfl,.inl (SqL.of eL),?_⟩⟩;rw[lQ,lso];refine⟨s,ws.length,_,rfl,st1',by omega,lpos,by omega,fun G2 v y2 st2' hv=>?_⟩;have hsv:((YO ws).map V.int)[v]?=some (.int ((YO ws)[v]'(by omega))):=by rw[mh,lU (by omega)];rfl
   have hvb:=wb _ ((VX ws).mem_iff.mp (mH (show v<(YO ws).length by omega)));generalize ((YO ws)[v]'(by omega))=yv at hsv hvb;refine⟨L,_,_,_,rfl,rfl,SqL.of (y2 _ _ nL eL),Zi hsv,R,_,_,rfl,rfl,y2 _ _ nR (u1 _ _ gR),by rw[lQ,lr,lV];omega,?_⟩;refine⟨_,_,rs++[yv],rfl,(xG.trans ((Zh.x u1).trans y2)).updN R0,XW.updN nR (by rw[<- pX];exact st2'),by rw[Zb,mB];rfl,by rw[lW,lr];rfl,fun x hx=>?_⟩;rcases ml.mp hx with hx|hx
   ·exact hb x hx
   ·rw[mr] at hx;subst hx;exact hvb
  rintro σ G ⟨z3,z4,rs,rfl,xG,stG,gR,lr,hb⟩;refine⟨_,rfl,.inl ⟨R,_,rfl,.inl (SqL.of gR),?_⟩⟩;rw[lQ,lr];refine⟨_,_,rfl,⟨by decide,by decide,by omega,by omega⟩,fun D hD=>?_⟩;have en:(((r2+7+1:Nat):Int)-1).toNat=r2+7:=by omega
  rw[en];have rk:∀(j:Nat),j<rs.length->atI (rs.map V.int) (j:Int)=some (.int (rs.getD j 0)):=fun j hj=>by
   refine Zi ?_;rw[mh,lU hj,nB,lU hj];rfl
  refine Xv (J:=Itr 1 (r2+7)) (n:=r2+7) (fun j σ F=>∃(y:Option V) (ks:List Nat),σ=[y,some (.ref R)]/\Zh G F/\F D=some (.lst ((ks.map fun q:Nat=>(q:Int)).map V.int))/\ks.length<=j/\(∀q∈ks,1<=q/\q<rs.length/\rs.getD q 0∈rs.take q)/\∀q:Nat,1<=q->q<1+j->rs.getD q 0∈rs.take q->q∈ks) ?_ (fun _ _ _ h _=>h) (fun _ _ _=>lS _) ?_ ?_
  ·exact⟨_,[],rfl,Ze hD,Zb,lS _,(fun q h=>by cases h),fun q h1 h2=>by omega⟩
  ·rintro j x σ F0 F hj ⟨y,ks,rfl,sF,eD,lk,h1,h2⟩ ⟨rfl,rfl⟩ N N0 hN hN0;have ej:(1:Int)+(j:Nat)=((1+j:Nat):Int):=by omega
   rw[ej];refine⟨_,rfl,_,rfl,R,_,_,_,rfl,rfl,SqL.of (sF _ _ gR),rk (1+j) (by omega),_,rfl,_,rfl,_,rfl,R,_,rfl,SqL.of (sF _ _ gR),fun c hc=>?_⟩;rw[Wc,<- ot];obtain⟨F1,qN,u1,ec⟩:=ZU (o:=.lst ((rs.take (1+j)).map V.int)) hc;rw[qN];clear qN;refine⟨c,_,rfl,.inl (SqL.of ec),rfl,xT _,?_⟩;rw[if_neg mI,inV_int];refine⟨_,rfl,WQ (fun c=>⟨_,rfl,?_⟩) (fun c=>?_)⟩
   ·have hm:=mO c;refine hN _ _ F1 _ (u1 _ _ eD) (by rw[lQ,lQ,lV];omega) ⟨_,ks++[1+j],rfl,(Zq.upd (Zh.x (sF.trans u1))).same hD,by rw[Zb,mB,mB];rfl,by rw[lW];show _+1<=_;omega,fun q hq=>?_,fun q a1 a2 a3=>?_⟩
    ·rcases ml.mp hq with hq|hq
     ·exact h1 q hq
     ·rw[mr] at hq;subst hq;exact⟨by omega,by omega,hm⟩
    ·by_cases cq:q<1+j
     ·exact mX _ (h2 q a1 cq a3)
     ·have:q=1+j:=by omega
      subst this;exact mP _ (by simp)
   ·have hm:=pW (Bool.eq_false_iff.mpr c);refine hN0 _ F1 ⟨_,ks,rfl,sF.trans u1,u1 _ _ eD,by omega,h1,fun q a1 a2 a3=>?_⟩
    by_cases cq:q<1+j
    ·exact h2 q a1 cq a3
    ·have:q=1+j:=by omega
     subst this;exact absurd a3 hm
  rintro σ F ⟨y,ks,rfl,sF,eD,lk,h1,h2⟩;obtain⟨k0,hk0',k01,k0m⟩:=again hb (by omega);have kne:ks≠[]:=fun z=>by
   have:=h2 k0 k01 (by omega) (by rw[nB,lU hk0'];exact k0m);rw[z] at this;cases this
  have lkp:0<ks.length:=oY.mpr kne;have stF:=stG.mono sF;have nD:D≠s:=fun z=>by obtain⟨o1,ho1⟩:=stG.lst;rw[z,ho1] at hD;cases hD
  refine⟨_,rfl,_,rfl,_,rfl,.inl ⟨D,_,rfl,.inl (SqL.of eD),?_⟩⟩;rw[lQ,lQ];refine⟨s,ks.length,_,rfl,stF,by omega,lkp,by omega,fun F2 v y2 st2' hv=>?_⟩;have hkv:((ks.map fun q:Nat=>(q:Int)).map V.int)[v]?=some (.int ((ks[v]'hv:Nat):Int)):=by rw[mh,mh,lU hv];rfl
  obtain⟨e1,e2,e3⟩:=h1 _ (mH hv);generalize (ks[v]'hv)=en2 at hkv e1 e2 e3;refine⟨D,_,_,_,rfl,rfl,SqL.of (y2 _ _ nD eD),Zi hkv,?_⟩;have gR2:=y2 _ _ nR (sF _ _ gR);have xF2:Zq s H F2:=xG.trans ((Zh.x sF).trans y2);refine⟨_,rfl,_,rfl,by omega,by omega,fun D2 hD2=>?_⟩;rw[m6];refine Xv (J:=Itr 0 en2) (n:=en2) (fun j σ F=>∃(y:Option V) (ks:List Nat),σ=[y,some (.ref R),some (.int (en2:Nat))]/\Zh F2 F/\F D2=some (.lst ((ks.map fun q:Nat=>(q:Int)).map V.int))/\ks.length<=j/\(∀q∈ks,q<en2/\rs.getD q 0=rs.getD en2 0)/\∀q:Nat,q<j->rs.getD q 0=rs.getD en2 0->q∈ks) ?_ (fun _ _ _ h _=>h) (fun _ _ _=>lS _) ?_ ?_
  ·exact⟨_,[],rfl,Ze hD2,Zb,lS _,(fun q h=>by cases h),fun q h1 h2=>by omega⟩
  ·rintro j x σ F0 F3 hj ⟨y,ks,rfl,sF3,eD3,lk3,h1,h2⟩ ⟨rfl,rfl⟩ N N0 hN hN0;have ej:(0:Int)+(j:Nat)=((j:Nat):Int):=by omega
   rw[ej];refine⟨_,rfl,_,rfl,R,_,_,_,rfl,rfl,SqL.of (sF3 _ _ gR2),rk j (by omega),_,rfl,_,rfl,R,_,_,_,rfl,rfl,SqL.of (sF3 _ _ gR2),rk en2 (by omega),?_⟩;refine⟨rfl,_,rfl,WQ (fun c=>⟨_,rfl,?_⟩) (fun c=>?_)⟩
   ·have hm:rs.getD j 0=rs.getD en2 0:=by have:=mO c;exact V.int.inj this
    refine hN _ _ F3 _ eD3 (by rw[lQ,lQ,lV];omega) ⟨_,ks++[j],rfl,(Zq.upd (Zh.x sF3)).same hD2,by rw[Zb,mB,mB];rfl,by rw[lW];show _+1<=_;omega,fun q hq=>?_,fun q a2 a3=>?_⟩
    ·rcases ml.mp hq with hq|hq
     ·exact h1 q hq
     ·rw[mr] at hq;subst hq;exact⟨hj,hm⟩
    ·by_cases cq:q<j
     ·exact mX _ (h2 q cq a3)
     ·have:q=j:=by omega
      subst this;exact mP _ (by simp)
   ·have hm:¬rs.getD j 0=rs.getD en2 0:=fun e=>c (nk (by rw[e]));refine hN0 _ _ ⟨_,ks,rfl,sF3,eD3,by omega,h1,fun q a2 a3=>?_⟩
    by_cases cq:q<j
    ·exact h2 q cq a3
    ·have:q=j:=by omega
     subst this;exact absurd a3 hm
  rintro σ F3 ⟨y,bs,rfl,sF3,eD3,lk3,g1,g2⟩;have bne:bs≠[]:=fun z=>by
   obtain⟨q,hq,e⟩:=m7 e3;rw[mf] at hq;rw[pS] at e;have:=g2 q (by omega) (by rw[nB,lU (by omega)];exact e);rw[z] at this;cases this
  have lbp:0<bs.length:=oY.mpr bne;have stF3:=st2'.mono sF3;have nD2:D2≠s:=fun z=>by obtain⟨o1,ho1⟩:=st2'.lst;rw[z,ho1] at hD2;cases hD2
  refine⟨_,rfl,_,rfl,_,rfl,.inl ⟨D2,_,rfl,.inl (SqL.of eD3),?_⟩⟩;rw[lQ,lQ];refine⟨s,bs.length,_,rfl,stF3,by omega,lbp,by omega,fun F4 v2 y4 st4 hv2=>?_⟩;have hbv:((bs.map fun q:Nat=>(q:Int)).map V.int)[v2]?=some (.int ((bs[v2]'hv2:Nat):Int)):=by rw[mh,mh,lU hv2];rfl
  obtain⟨b1,b2⟩:=g1 _ (mH hv2);generalize (bs[v2]'hv2)=bg at hbv b1 b2;refine⟨D2,_,_,_,rfl,rfl,SqL.of (y4 _ _ nD2 eD3),Zi hbv,?_⟩;have gR4:=y4 _ _ nR (sF3 _ _ gR2);have xF4:Zq s H F4:=xF2.trans ((Zh.x sF3).trans y4);refine⟨_,rfl,_,rfl,_,rfl,R,_,rfl,SqL.of gR4,fun A1 hA1=>?_⟩;rw[Wc,<- ot];obtain⟨F5,qN,u5,eA1⟩:=ZU (o:=.lst ((rs.take bg).map V.int)) hA1;rw[qN];clear qN;refine⟨_,rfl,_,rfl,_,rfl,_,rfl,_,rfl,R,_,rfl,SqL.of (u5 _ _ gR4),fun A2 hA2=>?_⟩;rw[cutV_both _ (nI b1) (by rw[lQ];omega),<- pE,<- ot];obtain⟨F6,qN,u6,eA2⟩:=ZU (o:=.lst (((rs.drop bg).take (en2-bg)).map V.int)) hA2;rw[qN];clear qN;refine⟨sz2,fun rn hrn=>?_⟩;obtain⟨F7,qN,u7,ern⟩:=ZU (o:=.tup [.ref A1,.ref A2]) hrn;rw[qN];clear qN;refine k F7 rn (rs.take bg) ((rs.drop bg).take (en2-bg)) (xF4.trans (Zh.x (u5.trans (u6.trans u7)))) ⟨⟨A1,A2,ern,(u6.trans u7) _ _ eA1,u7 _ _ eA2⟩,fun z=>?_,fun x hx=>hb x ?_⟩ ?_
  ·have:=my List.length z;rw[mf,mL] at this;simp at this;omega
  ·rcases ml.mp hx with hx|hx
   ·exact su hx
   ·exact sv (su hx)
  ·rw[lW,mf,mf,mL];omega
theorem w_leaf{c:Lb}(h:c=.yes\/∃z,c=.sign z):wgt (.node c [])=1:=by
 rcases h with rfl|⟨z,rfl⟩<;>rfl
theorem w_op(w:Str)(ks:List Tr):wgt (.node (.op w) ks)=(ks.map wgt).sum+36:=ji (by intro z;cases z) (by intro y z;cases z)
theorem w_wit(m:Int)(ks:List Tr):wgt (.node (.wit m) ks)=(ks.map wgt).sum+36:=ji (by intro z;cases z) (by intro y z;cases z)
theorem w_many(w:Str)(ks:List Tr):wgt (.node (.many w) ks)=(ks.map wgt).sum+36:=ji (by intro z;cases z) (by intro y z;cases z)
def nine:List Str:=["not", "next", "always", "ever", "all", "some", "before", "once", "sofar"]
theorem at_nine{i:Nat}(h:i<9):∃w,atI (nine.map V.str) (i:Int)=some (.str w)/\w∈W1/\(i<=5->FwL (.op w)):=by
 have e:(nine.map V.str)[i]?=some (.str nine[i]):=by rw[mh,lU h];rfl
 refine⟨nine[i],Zi e,?_,fun h5=>?_⟩
 ·have:∀w∈nine,w∈W1:=by decide +kernel
  exact this _ (mH h)
 ·have:∀w∈nine.take 6,w ≠ "before" /\ w ≠ "once" /\ w ≠ "sofar" /\ w ≠ "since" := by decide +kernel
  obtain⟨a,b,c,d⟩:=this nine[i] (List.mem_iff_getElem.mpr ⟨i,by rw[mf];show i<min 6 9;omega,pS⟩);exact⟨fun z=>a (Lb.op.inj z),fun z=>b (Lb.op.inj z),fun z=>c (Lb.op.inj z),fun z=>d (Lb.op.inj z)⟩
theorem at_three{i:Nat}(h:i<3):∃z,atI (nm3.map V.str) (i:Int)=some (.str z)/\z∈nm3:=
 ⟨nm3[i],Zi (by rw[mh,lU h];rfl),mH h⟩
theorem kA{t u:TT}{σ:L2.St}{H:Hp}{b c:Bool}(ht:∀Q:Bool->Hp->Prop,Q b H->t σ H Q)(hu:∀Q:Bool->Hp->Prop,Q c H->u σ H Q)(Q:Bool->Hp->Prop)(q:Q (b&&c) H):tAnd t u σ H Q:=by
 refine ht _ ?_;cases b with
 |true=>exact YR (hu _ q)
 |false=>exact Yd q
theorem pure_or{t u:TT}{σ:L2.St}{H:Hp}{b c:Bool}(ht:∀Q:Bool->Hp->Prop,Q b H->t σ H Q)(hu:∀Q:Bool->Hp->Prop,Q c H->u σ H Q)(Q:Bool->Hp->Prop)(q:Q (b||c) H):tOr t u σ H Q:=by
 refine ht _ ?_;cases b with
 |true=>exact YR q
 |false=>exact Yd (hu _ q)
theorem pure_not{t:TT}{σ:L2.St}{H:Hp}{b:Bool}(ht:∀Q:Bool->Hp->Prop,Q b H->t σ H Q)(Q:Bool->Hp->Prop)(q:Q (!b) H):tNot t σ H Q:=ht _ q
theorem seq_or{t u:TT}{A B C:L2.TS}{D}{σ:L2.St}{H:Hp}{b c:Bool}(ht:∀Q:Bool->Hp->Prop,Q b H->t σ H Q)(hu:∀Q:Bool->Hp->Prop,Q c H->u σ H Q)(q:if(b||c)=true then A { D with nx:=C D } σ H else B { D with nx:=C D } σ H):tSeq (tIfS (tOr t u) A B) C D σ H:=pure_or ht hu _ q
theorem seq_and{t u:TT}{A B C:L2.TS}{D}{σ:L2.St}{H:Hp}{b c:Bool}(ht:∀Q:Bool->Hp->Prop,Q b H->t σ H Q)(hu:∀Q:Bool->Hp->Prop,Q c H->u σ H Q)(q:if(b&&c)=true then A { D with nx:=C D } σ H else B { D with nx:=C D } σ H):tSeq (tIfS (tAnd t u) A B) C D σ H:=kA ht hu _ q
def VB(n:Nat)(K:W.Frag)(a:Adr):Sp:=fun vs H Q _=>∃(s:Addr) (m d:Nat) (on:Bool),vs=[.ref s,.int (d:Nat),.bl on]/\d<n/\d<=3/\XW H s m/\m+5 ^ (d+1)<=5000/\∀H' v t,Zq s H H'->XW H' s (m+5 ^ (d+1))->At K (d+1) H' v t->wgt t+36<=37*2 ^ d->(post t).length<=3 ^ (d+1)->(on=true->Fw t)->Q v H'
theorem VL{K:W.Frag}{a:Adr}{vs:List V}{H:Hp}{Q:VK}{E:XK}(h:VB 0 K a vs H Q E):False:=by
 obtain⟨_,_,d,_,_,hm,_⟩:=h;omega
theorem qX(T:Txt K mg a)(hw:w.params=a.Pm):∀n:Nat,Z2 P w K mg base CX0 (2+n) a._law_sentence a.aX ["_law_state_here", "_law_deep", "_law_onward"] (VB n K a):=by
 have aa:=XY (P:=P) (w:=w) (base:=base) T hw;intro n
 induction n with
 |zero=>exact⟨fun _ _ _ _ h=>(VL h).elim,fun _ _ _ _ _ _ _ _ _ _ _ _ _ h=>(VL h).elim⟩
 |succ n bt=>
  refine T.aE.ok Y2 (fun vs H Q E h=>?_) (fun lM A outer s H vs Q E hr h=>?_)
  ·obtain⟨s,m,d,on,rfl,_⟩:=h;rfl
  ·obtain⟨s,m,d,on,rfl,hd,d3,hst,hm,k⟩:=h;refine⟨_,(@Za _ _ _ _ _ (@Zp _ _ (3) _ _ _ _ Y2.nd rfl (Or.inl rfl) (Zl aa (hr.mono (show _<=2+n by omega)) rfl T.ag T.ab.kp T.ae .nil Zv (@Zk _ _ _ _ _ (pv 0) (@Zd _ _ _ Zf (by rfl)) (by rfl))) (by rfl) (by exact .inl rfl)) (@Za _ _ _ _ _ (@ZV _ _ _ _ _ _ _ _ (PW.pt (UJ (@Zx _ _ _ _ _ _ _ _ Yw (pv 1) Zf (ZF _)) (V2 (@Zx _ _ _ _ _ _ _ _ zA (pv 3) Zf (ZF _))))) (@Za _ _ _ _ _ (@ZV _ _ _ _ _ _ _ _ (@Zx _ _ _ _ _ _ _ _ Yw (Zl aa (hr.mono (show _<=2+n by omega)) rfl T.ag T.ab.kp T.ae .nil Zv (@Zk _ _ _ _ _ (pv 0) (@Zd _ _ _ Zf (by rfl)) (by rfl))) Zf (ZF _)) (@Zg _ _ _ (@Zm _ _ _ _ (@ZJ _ _ _ _ _ (@Zd _ _ _ Zt (by rfl))))) ZD) (@Zg _ _ _ (@Zm _ _ _ _ (@ZJ _ _ _ _ _ (@Zk _ _ _ _ _ Zt (@Zd _ _ _ (@Zz _ _ _ _ _ _ _ (Zs (K:=K) rfl) (@Yc _ _ _ _ (@ZI _ _ _ _ _ Zt (@ZI _ _ _ _ _ Zt (@Yh _ _ _ Zt (by rfl)) (by rfl)) (by rfl))) (Zl aa (hr.mono (show _<=2+n by omega)) rfl T.ag T.ab.kp T.ae .nil Zv (@Zk _ _ _ _ _ (pv 0) (@Zd _ _ _ Zf (by rfl)) (by rfl))) (fun _ _=>rfl)) (by rfl)) (by rfl)))))) ZD) (@Za _ _ _ _ _ (@Zp _ _ (4) _ _ _ _ Y2.nd rfl (Or.inl rfl) (Zl bt hr rfl T.bq T.aE.kp T.bo .nil Zv (@ZI _ _ _ _ _ (pv 0) (@ZI _ _ _ _ _ (@ZO _ _ _ _ _ _ _ _ Uo (pv 1) Zf) (@Yh _ _ _ (pv 2) (by rfl)) (by rfl)) (by rfl))) (by rfl) (by exact .inl rfl)) (@Za _ _ _ _ _ (@Zp _ _ (5) _ _ _ _ Y2.nd rfl (Or.inl rfl) (@Yc _ _ _ _ (@ZI _ _ _ _ _ Zt (@ZI _ _ _ _ _ Zt (@ZI _ _ _ _ _ Zt (@ZI _ _ _ _ _ Zt (@ZI _ _ _ _ _ Zt (@ZI _ _ _ _ _ Zt (@ZI _ _ _ _ _ Zt (@ZI _ _ _ _ _ Zt (@Yh _ _ _ Zt (by rfl)) (by rfl)) (by rfl)) (by rfl)) (by rfl)) (by rfl)) (by rfl)) (by rfl)) (by rfl))) (by rfl) (by exact .inl rfl)) (@Za _ _ _ _ _ (@ZV _ _ _ _ _ _ _ _ (PW.pt (vX (@Zx _ _ _ _ _ _ _ _ zA (pv 3) Zf (ZF _)) (zU (@Xy _ _ _ _ (PW.pt (vX (Wf (K:=K) rfl (pv 2) (fun _=>rfl)) (zU (@Zx _ _ _ _ _ _ _ _ op_gt (pv 3) Zf (ZF _))))))))) (@Zg _ _ _ (@Zm _ _ _ _ (@ZJ _ _ _ _ _ (@Zk _ _ _ _ _ (@Zz _ _ _ _ _ _ _ (Zs (K:=K) rfl) (pv 5) (@ZO _ _ _ _ _ _ _ _ Uo (pv 3) Zf) (fun _ _=>rfl)) (@Zd _ _ _ (pv 4) (by rfl)) (by rfl))))) ZD) (@Za _ _ _ _ _ (@Zp _ _ (6) _ _ _ _ Y2.nd rfl (Or.inl rfl) (Zl bt hr rfl T.bq T.aE.kp T.bo .nil Zv (@ZI _ _ _ _ _ (pv 0) (@ZI _ _ _ _ _ (@ZO _ _ _ _ _ _ _ _ Uo (pv 1) Zf) (@Yh _ _ _ (pv 2) (by rfl)) (by rfl)) (by rfl))) (by rfl) (by exact .inl rfl)) (@Za _ _ _ _ _ (@ZV _ _ _ _ _ _ _ _ (@Zx _ _ _ _ _ _ _ _ zA (pv 3) Zf (ZF _)) (@Zg _ _ _ (@Zm _ _ _ _ (@ZJ _ _ _ _ _ (@Zk _ _ _ _ _ (@Zz _ _ _ _ _ _ _ (Zs (K:=K) rfl) (@Yc _ _ _ _ (@Zk _ _ _ _ _ Zt (@Zd _ _ _ Zt (by rfl)) (by rfl))) (@ZO _ _ _ _ _ _ _ _ U1 (pv 3) Zf) (fun _ _=>rfl)) (@Zd _ _ _ (@ZJ _ _ _ _ _ (@Zk _ _ _ _ _ (pv 4) (@Zd _ _ _ (pv 6) (by rfl)) (by rfl))) (by rfl)) (by rfl))))) ZD) (@Za _ _ _ _ _ (@ZV _ _ _ _ _ _ _ _ (PW.pt (vX (@Zx _ _ _ _ _ _ _ _ zA (pv 3) Zf (ZF _)) (zU (@Zx _ _ _ _ _ _ _ _ Yw (pv 1) Zf (ZF _))))) (@Zg _ _ _ (@Zm _ _ _ _ (@ZJ _ _ _ _ _ (@ZI _ _ _ _ _ Zt (@ZI _ _ _ _ _ (Zl aa (hr.mono (show _<=2+n by omega)) rfl T.ag T.ab.kp T.ae .nil Zv (@Zk _ _ _ _ _ (pv 0) (@Zd _ _ _ Zf (by rfl)) (by rfl))) (@ZI _ _ _ _ _ (pv 4) (@Yh _ _ _ (pv 6) (by rfl)) (by rfl)) (by rfl)) (by rfl))))) ZD) (@Za _ _ _ _ _ (@ZV _ _ _ _ _ _ _ _ (PW.pt (UJ (@Zx _ _ _ _ _ _ _ _ zA (pv 3) Zf (ZF _)) (V2 (Wf (K:=K) rfl (pv 2) (fun _=>rfl))))) (@Zg _ _ _ (@Zm _ _ _ _ (@ZJ _ _ _ _ _ (@ZI _ _ _ _ _ Zt (@ZI _ _ _ _ _ (pv 4) (@Yh _ _ _ (pv 6) (by rfl)) (by rfl)) (by rfl))))) ZD) (@Zg _ _ _ (@Zm _ _ _ _ (@ZJ _ _ _ _ _ (@ZI _ _ _ _ _ Zt (@ZI _ _ _ _ _ (pv 4) (@Yh _ _ _ (pv 6) (by rfl)) (by rfl)) (by rfl)))))))))))))),?_⟩;have p5:5<=5 ^ (d+1):=by rw[rz];have:=rA d 5 (by decide);omega
   refine⟨_,rfl,s,20,m,rfl,hst,by omega,by decide,by decide,fun H1 fk x1 st1 hfk=>?_⟩;dsimp only[Vy,tNext]
   show tSeq (tIfS (tOr _ _) _ _) _ _ [some (.ref s),some (.int (d:Nat)),some (.bl on),some (.int (fk:Nat)),none,none,none] H1
   refine seq_or (b:=decide (V.int (d:Nat)=V.int 0)) (c:=decide (((fk:Nat):Int)<3)) ?_ ?_ ?_
   ·exact fun Q q=>⟨_,rfl,rfl,_,rfl,q⟩
   ·exact fun Q q=>⟨_,rfl,_,_,rfl,rfl,_,rfl,q⟩
   refine WQ (fun c=>?_) (fun c=>?_)
   ·-- a leaf
    have pw:1<=2 ^ d:=rA _ _ (by decide);have pw3:1<=3 ^ (d+1):=rA _ _ (by decide);refine⟨_,rfl,s,5,_,rfl,st1,by omega,by decide,by decide,fun H2 r x2 st2 hr=>⟨rfl,_,rfl,WQ (fun c=>?_) (fun c=>?_)⟩⟩
    ·refine⟨sz1,fun t ht=>?_⟩;obtain⟨H3,qN,u3,e3⟩:=ZU (o:=.tup [.str "yes"]) ht;rw[qN];clear qN;exact k H3 _ (.node .yes []) ((x1.trans x2).trans (Zh.x u3)) ((st2.mono u3).le (by omega)) (Um (SqT.of e3)) (by rw[w_leaf (.inl rfl)];omega) (by rw[qE];exact pw3) fun _=>Fw.node ⟨nofun,nofun,nofun,nofun⟩ (fun k hk=>by cases hk)
    ·refine⟨sz3,fun L hL=>?_⟩;obtain⟨H3,qN,u3,e3⟩:=ZU (o:=.lst (nm3.map V.str)) hL;have qN':upd H2 L (.lst [.str "p",.str "qq",.str "rab"])=H3:=qN;rw[qN'];clear qN qN';have nL:L≠s:=fun z=>by obtain⟨o1,ho1⟩:=st2.lst;rw[z,ho1] at hL;cases hL
     refine⟨_,rfl,s,3,_,rfl,st2.mono u3,by omega,by decide,by decide,fun H4 v x4 st4 hv=>?_⟩;obtain⟨z,hz,mz⟩:=at_three hv;refine⟨L,_,_,.str z,rfl,rfl,SqL.of (x4 _ _ nL e3),hz,sz2,fun t ht=>?_⟩;obtain⟨H5,qN,u5,e5⟩:=ZU (o:=.tup [.str "sign",.str z]) ht;rw[qN];clear qN;exact k H5 _ (.node (.sign z) []) ((x1.trans x2).trans ((Zh.x u3).trans (x4.trans (Zh.x u5)))) ((st4.mono u5).le (by omega)) (at_sign (SqT.of e5) (nm3_ok z mz)) (by rw[w_leaf (.inr ⟨_,rfl⟩)];omega) (by rw[qE];exact pw3) fun _=>Fw.node ⟨nofun,nofun,nofun,nofun⟩ (fun k hk=>by cases hk)
   have hc:¬(d=0)/\¬(fk<3):=by
    refine⟨fun z=>c ?_,fun z=>c ?_⟩
    ·subst z;rfl
    ·rw[pZ];exact .inr (nk (by omega))
   obtain⟨hd0,hf3⟩:=hc;obtain⟨e,rfl⟩:∃e,d=e+1:=⟨d-1,by omega⟩;have q1:5 ^ (e+1+1)=5 ^ (e+1)*5:=rz ..;have q2:2 ^ (e+1)=2 ^ e*2:=rz ..;have q3:3 ^ (e+1+1)=3 ^ (e+1)*3:=rz ..;have q4:5<=5 ^ (e+1):=by rw[rz];have:=rA e 5 (by decide);omega
   have q5:1<=3 ^ (e+1):=rA _ _ (by decide);have ed:((e+1:Nat):Int)-1=((e:Nat):Int):=by omega
   refine⟨_,rfl,_,rfl,_,_,rfl,rfl,_,rfl,s,m+1,e,on,by rw[ed];rfl,by omega,by omega,st1,by omega,fun H2 v1 t1 x2 st2 at1 wt1 zp1 fw1=>?_⟩;refine⟨sz9,fun L hL=>?_⟩;obtain⟨H3,qN,u3,e3⟩:=ZU (o:=.lst (nine.map V.str)) hL;have qN':upd H2 L (.lst [.str "not",.str "next",.str "always",.str "ever",.str "all",.str "some",.str "before",.str "once",.str "sofar"])=H3:=qN;rw[qN'];clear qN qN';have nL:L≠s:=fun z=>by obtain⟨o1,ho1⟩:=st2.lst;rw[z,ho1] at hL;cases hL
   have st3:=st2.mono u3;have x3:Zq s H H3:=x1.trans (x2.trans (Zh.x u3));have at3:=at1.mono (Zh.tup u3);dsimp only[Vy,tNext]
   show tSeq (tIfS (tAnd _ _) _ _) _ _ [some (.ref s),some (.int ((e+1:Nat):Int)),some (.bl on),some (.int (fk:Nat)),some v1,some (.ref L),none] H3
   refine seq_and (b:=decide (((fk:Nat):Int)<12)) (c:=!(on&&decide (((fk:Nat):Int)>8))) ?_ ?_ ?_
   ·exact fun Q q=>⟨_,rfl,_,_,rfl,rfl,_,rfl,q⟩
   ·refine fun Q q=>pure_not (b:=on&&decide (((fk:Nat):Int)>8)) ?_ _ q;refine fun Q q=>kA (b:=on) (c:=decide (((fk:Nat):Int)>8)) ?_ ?_ _ q
    ·exact fun Q q=>⟨_,rfl,on,rfl,q⟩
    ·exact fun Q q=>⟨_,rfl,_,_,rfl,rfl,_,rfl,q⟩
   refine WQ (fun c=>?_) (fun c=>?_)
   ·-- one in it
    rw[mR] at c;have c1:((fk:Nat):Int)<12:=mO c.1;obtain⟨w,hw,hw1,hwf⟩:=at_nine (i:=fk-3) (by omega);have ef:((fk:Nat):Int)-3=((fk-3:Nat):Int):=by omega
    refine⟨_,rfl,_,rfl,_,_,rfl,rfl,L,_,_,.str w,rfl,rfl,SqL.of e3,by rw[ef];exact hw,_,rfl,sz2,fun t ht=>?_⟩;obtain⟨H4,qN,u4,e4⟩:=ZU (o:=.tup [.str w,v1]) ht;rw[qN];clear qN;refine k H4 _ (.node (.op w) [t1]) (x3.trans (Zh.x u4)) ((st3.mono u4).le (by omega)) (WG (SqT.of e4) hw1 (at3.mono (Zh.tup u4))) (by rw[w_op];simp;omega) (by rw[qE,VC];omega) fun ho=>Fw.node (hwf ?_) (fun k hk=>?_)
    ·have c2:=c.2;rw[ho,pD] at c2;have:¬(((fk:Nat):Int)>8):=fun z=>by rw[nk z] at c2;cases c2
     omega
    ·rw[mr] at hk;subst hk;exact fw1 ho
   have hbig:9<=fk:=by
    apply Classical.byContradiction;intro z;apply c;rw[nk (by omega:((fk:Nat):Int)<12),nr (by omega:¬((fk:Nat):Int)>8),Bool.and_false];rfl
   refine⟨_,rfl,_,rfl,_,_,rfl,rfl,_,rfl,s,m+1+5 ^ (e+1),e,on,by rw[ed];rfl,by omega,by omega,st3,by omega,fun H4 v2 t2 x4 st4 at2 wt2 zp2 fw2=>?_⟩;have x04:=x3.trans x4;obtain⟨o3,ho3⟩:=st3.lst;have at4:=at3.mono (Zq.tup x4 ho3);have s2:∀c:Lb,(post (.node c [t1,t2])).length<=3 ^ (e+1+1):=fun c=>by
    rw[qE,show[t1,t2]=[t1]++[t2] from rfl,Uv,VC,VC,lW];omega
   have fw:∀c:Lb,FwL c->on=true->Fw (.node c [t1,t2]):=fun c h ho=>Fw.node h fun k hk=>by
    rcases mw.mp hk with rfl|hk
    ·exact fw1 ho
    ·rw[mr] at hk;subst hk;exact fw2 ho
   have ws:([t1,t2].map wgt).sum=wgt t1+wgt t2:=by simp
   refine⟨_,rfl,_,_,rfl,rfl,_,rfl,WQ (fun c=>?_) (fun c=>?_)⟩
   ·-- and,or
    refine⟨sz2,fun L2 hL2=>?_⟩;obtain⟨H5,qN,u5,e5⟩:=ZU (o:=.lst [.str "and",.str "or"]) hL2;rw[qN];clear qN;obtain⟨w,hw,hwm⟩:∃w:Str,atI [V.str "and",.str "or"] (((fk:Nat):Int)%2)=some (.str w)/\(w = "and" \/ w = "or"):=by
     rcases(show((fk:Nat):Int)%2=0\/((fk:Nat):Int)%2=1 by omega) with z|z
     ·rw[z];exact⟨_,rfl,.inl rfl⟩
     ·rw[z];exact⟨_,rfl,.inr rfl⟩
    refine⟨_,rfl,_,_,rfl,rfl,by decide,L2,_,_,.str w,rfl,rfl,SqL.of e5,hw,_,rfl,_,rfl,sz2,fun b hb=>?_⟩;obtain⟨H6,qN,u6,e6⟩:=ZU (o:=.tup [v1,v2]) hb;rw[qN];clear qN;refine⟨sz2,fun t ht=>?_⟩;obtain⟨H7,qN,u7,e7⟩:=ZU (o:=.tup [.str w,.ref b]) ht;rw[qN];clear qN;have u57:=u5.trans (u6.trans u7);have aL:AtL K (e+1) H7 [v1,v2] [t1,t2]:=(AtL.one (at4.mono (Zh.tup u57))).app (AtL.one (at2.mono (Zh.tup u57)));exact k H7 _ (.node (.many w) [t1,t2]) (x04.trans (Zh.x u57)) ((st4.mono u57).le (by omega)) (at_mny (SqT.of e7) (SqT.of (u7 _ _ e6)) aL (by rcases hwm with rfl|rfl;exact .inl rfl;exact .inr rfl) (show 2<=8 by decide)) (by rw[w_many,ws];omega) (s2 _) (fw _ ⟨nofun,nofun,nofun,nofun⟩)
   dsimp only[Vy,tNext]
   show tSeq (tIfS (tAnd _ _) _ _) _ _ [some (.ref s),some (.int ((e+1:Nat):Int)),some (.bl on),some (.int (fk:Nat)),some v1,some (.ref L),some v2] H4
   refine seq_and (b:=decide (((fk:Nat):Int)<16)) (c:=decide (V.int ((e+1:Nat):Int)=V.int 1)) ?_ ?_ ?_
   ·exact fun Q q=>⟨_,rfl,_,_,rfl,rfl,_,rfl,q⟩
   ·exact fun Q q=>⟨_,rfl,rfl,_,rfl,q⟩
   refine WQ (fun c=>?_) (fun c=>?_)
   ·-- within
    refine⟨_,rfl,s,4,_,rfl,st4,by omega,by decide,by decide,fun H5 r x5 st5 hr=>⟨_,rfl,_,rfl,sz4,fun t ht=>?_⟩⟩;obtain⟨H6,qN,u6,e6⟩:=ZU (o:=.tup [.str "within",.int (r:Nat),v1,v2]) ht;rw[qN];clear qN;obtain⟨o4,ho4⟩:=st4.lst;have t46:=(Zq.tup x5 ho4).trans (Zh.tup u6);exact k H6 _ (.node (.wit (r:Nat)) [t1,t2]) (x04.trans (x5.trans (Zh.x u6))) ((st5.mono u6).le (by omega)) (at_wit (SqT.of e6) ⟨by omega,by omega⟩ (at4.mono t46) (at2.mono t46)) (by rw[w_wit,ws];omega) (s2 _) (fw _ ⟨nofun,nofun,nofun,nofun⟩)
   have two:∀w:Str,w∈W2->(on=true->FwL (.op w))->∀t,H4 t=none->Q (.ref t) (upd H4 t (.tup [.str w,v1,v2])):=fun w hw hf t ht=>by
    obtain⟨H6,qN,u6,e6⟩:=ZU (o:=.tup [.str w,v1,v2]) ht;rw[qN];clear qN;exact k H6 _ (.node (.op w) [t1,t2]) (x04.trans (Zh.x u6)) ((st4.mono u6).le (by omega)) (xk (SqT.of e6) hw (at4.mono (Zh.tup u6)) (at2.mono (Zh.tup u6))) (by rw[w_op,ws];omega) (s2 _) (fun ho=>fw _ (hf ho) ho)
   dsimp only[Vy,tNext]
   show tSeq (tIfS (tOr _ _) _ _) _ _ [some (.ref s),some (.int ((e+1:Nat):Int)),some (.bl on),some (.int (fk:Nat)),some v1,some (.ref L),some v2] H4
   refine seq_or (b:=decide (((fk:Nat):Int)<18)) (c:=on) ?_ ?_ ?_
   ·exact fun Q q=>⟨_,rfl,_,_,rfl,rfl,_,rfl,q⟩
   ·exact fun Q q=>⟨_,rfl,on,rfl,q⟩
   refine WQ (fun c=>⟨_,rfl,_,rfl,sz3,fun t ht=>two "until" (by decide +kernel) (fun _=>?_) t ht⟩) (fun c=>⟨_,rfl,_,rfl,sz3,fun t ht=>two "since" (by decide +kernel) (fun ho=>?_) t ht⟩)
   ·have h:("until" : Str) ≠ "before" /\ ("until" : Str) ≠ "once" /\ ("until" : Str) ≠ "sofar" /\ ("until" : Str) ≠ "since" := by decide +kernel
    exact⟨fun z=>h.1 (Lb.op.inj z),fun z=>h.2.1 (Lb.op.inj z),fun z=>h.2.2.1 (Lb.op.inj z),fun z=>h.2.2.2 (Lb.op.inj z)⟩
   ·exact absurd (by rw[ho,Bool.or_true]) c
theorem At.head{K:W.Frag}{m:Nat}{H:Hp}{v:V}{t:Tr}(h:At K m H v t):∃a xs,v=.ref a/\SqT K H a (.str (ZT t.lb)::xs):=by
 cases m with
 |zero=>exact h.elim
 |succ m=>
  obtain⟨a,vs,rfl,sh,_⟩:=h;cases e:t.lb with
  |yes=>rw[e] at sh;exact⟨a,[],rfl,sh.2⟩
  |sign z=>rw[e] at sh;exact⟨a,_,rfl,sh.2⟩
  |op w=>rw[e] at sh;exact⟨a,_,rfl,sh⟩
  |wit j=>rw[e] at sh;exact⟨a,_,rfl,sh⟩
  |many w=>rw[e] at sh;obtain⟨b,h1,_⟩:=sh;exact⟨a,_,rfl,h1⟩
theorem kB{t:Tr}(hc:isC t=true):ZT t.lb = "some" ↔ t.lb=.op "some" := by
 obtain⟨c,ks⟩:=t
 show ZT c = "some" ↔ c=.op "some"
 cases c with
 |yes=>exact⟨fun z=>absurd (show("yes" : Str) = "some" from z) (by decide +kernel),nofun⟩
 |sign z=>exact⟨fun z=>absurd (show("sign" : Str) = "some" from z) (by decide +kernel),nofun⟩
 |op w=>exact⟨fun z=>my Lb.op z,fun z=>Lb.op.inj z⟩
 |wit m=>exact⟨fun z=>absurd (show("within" : Str) = "some" from z) (by decide +kernel),nofun⟩
 |many w=>
  have hw:w = "and" := by
   rw[XX] at hc;unfold UX at hc;simp at hc;exact hc.2.1
  subst hw;exact⟨fun z=>absurd (show("and" : Str) = "some" from z) (by decide +kernel),nofun⟩
structure jI(K:W.Frag)(G:Hp)(s SL:Addr)(st:Tr->List Int)(ss:List Tr)(xs:List V):Prop where
 hs:G SL=some (.lst xs)
 len:xs.length=ss.length
 it:∀(i:Nat) v t,xs[i]?=some v->ss[i]?=some t->∃(b l:Addr) (e:V) (n:Nat),v=.ref b/\SqT K G b [e,.ref l]/\At K n G e t/\G l=some (.lst ((st t).map V.int))/\l≠s/\l≠SL
 short:∀t∈ss,(st t).length<=1000
theorem jI.step{K:W.Frag}{G G':Hp}{s SL:Addr}{st:Tr->List Int}{ss:List Tr}{xs ys:List V}(h:jI K G s SL st ss xs)(hs:G s=some (.lst ys))(n:SL≠s)(x:Zq s G G'):jI K G' s SL st ss xs:=by
 have u:=Zq.tup x hs;refine⟨x _ _ n h.hs,h.len,fun i v t a b=>?_,h.short⟩;obtain⟨b,l,e,n,q1,q2,q3,q4,q5,q6⟩:=h.it i v t a b;exact⟨b,l,e,n,q1,u _ _ _ q2,q3.mono u,x _ _ q5 q4,q5,q6⟩
def jg(K:W.Frag)(a:Adr):Sp:=fun vs H Q _=>∃(s w:Addr) (v:V) (n m:Nat) (d:WD) (t:Tr),vs=[.ref s,.ref w,v]/\XW H s n/\n<=10000/\ZW a.C_World H w d/\d.signs.length<=6/\At K m H v t/\isC t=true/\psz t<=2000000/\(Zw [] (post t)).length<4000/\∀H' sl st ss,Zq s H H'->UW K H' sl st t ss->Q (.ref sl) H'
theorem vM(T:Txt K mg a)(hw:w.params=a.Pm):Z2 P w K mg base CX0 6 a._law_sets a.cF ["_law_state_here", "_law_world_here", "_law_core"] (jg K a):=by
 have g6:=xc (P:=P) (w:=w) (base:=base) T hw;have aH:=Vz (P:=P) (w:=w) (base:=base) T hw;have aa:=XY (P:=P) (w:=w) (base:=base) T hw;refine T.eG.ok VO (fun vs H Q E h=>?_) (fun lM A outer s H vs Q E hr h=>?_)
 ·obtain⟨s,w,v,n,m,d,t,rfl,_⟩:=h;rfl
 ·obtain⟨s,w,v,n,m,d,t,rfl,hst,hn,hw0,n6,hat,hc,hz,hfew,k⟩:=h;refine⟨_,(@Za _ _ _ _ _ (@Zp _ _ (3) _ _ _ _ VO.nd rfl (Or.inl rfl) (@Yc _ _ _ _ Xd) (by rfl) (by exact .inl rfl)) (@Za _ _ _ _ _ (X8 m8 rfl (Yk (K:=K) rfl (Zl g6 (hr.mono (by decide)) rfl T.eN T.cZ.kp T.eM .nil Zv (@Zd _ _ _ (pv 2) (by rfl)))) (ZA (i:=4) VO.nd rfl (Or.inl rfl)) (@Zg _ _ _ (@ZV _ _ _ _ _ _ _ _ (@Zx _ _ _ _ _ _ _ _ Yw (@Zz _ _ _ _ _ _ _ (ZR (K:=K) rfl) (pv 4) Zf (fun _ _=>rfl)) Zt (ZF _)) (@Zg _ _ _ (@YE _ _ _ _ (Wm m5 nh ni Z4 (pv 3) (@Zd _ _ _ (@ZJ _ _ _ _ _ (@Zk _ _ _ _ _ (pv 4) (@Zd _ _ _ (Yu (Nc:=["_law_room", "_law_state_here"]) (ix:=[none,some 0]) (ZY.of (by decide +kernel:Z5 (Zc Y9) ["_law_state_here", "_law_world_here", "_law_core", "_law_sets_here", "_law_part"] ["_law_room", "_law_state_here"] [none,some 0] _=true)) rfl (Xt rfl T.bP (@Zd _ _ _ (Uj (pv 1) T.aq T.bm aH (hr.mono (by first|decide|omega)) T.bj .nil Zv) (by rfl))) (fun _ _ _ _ _=>(ZA (i:=0) (show List.Nodup (["_law_room", "_law_state_here"]:List Str) by decide +kernel) rfl (Or.inl rfl))) (fun _ _ _ _ _=>(qM (@Zx _ _ _ _ _ _ _ _ Yw (Zl aa (hr.mono (by decide)) rfl T.ag T.ab.kp T.ae .nil Zv (@Zk _ _ _ _ _ (pv 1) (@Zd _ _ _ Zf (by rfl)) (by rfl))) Zf (ZF _)))) (fun _ _ _ _ _=>(pv 0))) (by rfl)) (by rfl))) (by rfl))) (by rfl))) ZD))) (@Zg _ _ _ (@Zm _ _ _ _ (pv 3))))),?_⟩;have hfB:=VW t;obtain⟨os,hos⟩:=hst.lst;refine⟨by decide,fun SL hSL=>?_⟩;obtain⟨H1,qN,s1,eSL⟩:=ZU (o:=.lst []) hSL;rw[qN];clear qN;have nSL:SL≠s:=fun z=>by rw[z,hos] at hSL;cases hSL
  refine⟨_,rfl,v,t,m,rfl,hat.mono (Zh.tup s1),hc,hz,hfew,fun H2 L us m' s2 L0 hL aL=>⟨L,rfl,⟨_,SqL.of hL⟩,?_⟩⟩;have hcu:∀x∈Zw [] (ZE t),isC x=true/\x∈ZE t:=fun x hx=>by
   rcases Z7.mp hx with h|h
   ·cases h
   ·exact⟨V8 hc x (Z7.mpr (.inr (VH _ (lS _) h))),h⟩
  have nd:(Zw [] (ZE t)).Nodup:=Wk (by simp);generalize hts:Zw [] (ZE t)=ts at aL hfB hcu nd;have s12:=s1.trans s2;have st2:=hst.mono s12;have nL:L≠s:=fun z=>by rw[z,s1 _ _ hos] at L0;cases L0
  have nLS:L≠SL:=fun z=>by rw[z,eSL] at L0;cases L0
  have L00:H L=none:=s1.free L0;refine X1 (J:=Itl K L) (n:=us.length) (fun j σ G=>∃(z:Option V) (st:Tr->List Int) (ss:List Tr) (xs:List V),σ=[some (.ref s),some (.ref w),some v,some (.ref SL),z]/\Zq s H G/\G L=some (.lst us)/\(∃m2,AtL K m2 G us ts)/\XW G s (n+6*j)/\jI K G s SL st ss xs/\ss.length<=j/\(∀x∈ss,x∈ts.take j)/\(∀x∈ts.take j,x.lb=.op "some" -> x∈ss)) ?_ ?_ ?_ ?_ ?_
  ·exact⟨_,fun _=>[],[],[],rfl,Zh.x s12,hL,⟨m',aL⟩,st2,⟨s2 _ _ eSL,rfl,(fun i v t h=>by simp at h),(fun x h=>by cases h)⟩,lS _,(fun x h=>by cases h),(fun x h=>by simp at h)⟩
  ·rintro j σ G hj ⟨z,st,ss,xs,rfl,xG,gL,_⟩;exact⟨_,_,SqL.of gL,lU hj⟩
  ·rintro σ G ⟨z,st,ss,xs,rfl,xG,gL,_⟩;exact⟨_,SqL.of gL,lS _⟩
  ·rintro j x σ G0 G hj ⟨z,st,ss,xs,rfl,xG,gL,⟨m2,aG⟩,stG,sT,lss,hin,hall⟩ ⟨rfl,hx⟩;have ex:=hx _ (SqL.of gL);have lts:=aG.1;have hu:ts[j]?=some (ts[j]'(by omega)):=lU (by omega);have hum:=mH (show j<ts.length by omega);have hnot:(ts[j]'(by omega))∉ts.take j:=fun hm=>by
    obtain⟨i,hi,e⟩:=m7 hm;rw[mf] at hi;rw[pS] at e;have:=(o8 nd).mp e;omega
   have htk:ts.take (j+1)=ts.take j++[ts[j]'(by omega)]:=by rw[rj,hu];rfl
   rw[htk];generalize (ts[j]'(by omega))=u at hu hum hnot htk;have au:=aG.2 j x u ex hu;obtain⟨b,ys,rfl,hb⟩:=At.head au;refine⟨_,rfl,b,_,_,_,rfl,rfl,hb,Zi (j:=0) rfl,rfl,_,rfl,WQ (fun c=>?_) (fun c=>?_)⟩
   ·have hlb:u.lb=.op "some" := (kB (hcu u hum).1).mp (V.str.inj (mO c));have wG:=ZW.x hos xG hw0;obtain⟨dx,fs,ho,hk0⟩:=jG wG;refine⟨_,rfl,.inl ⟨rfl,_,SqL.of sT.hs⟩,_,rfl,_,rfl,w,dx,fs,rfl,ho,hk0,w,d,rfl,wG,_,rfl,by omega,by omega,fun D hD=>?_⟩;rw[m6];have nD:D≠s:=fun z=>by obtain⟨o1,ho1⟩:=stG.lst;rw[z,ho1] at hD;cases hD
    have nDS:D≠SL:=fun z=>by rw[z,sT.hs] at hD;cases hD
    refine Xv (J:=Itr 0 d.signs.length) (n:=d.signs.length) (fun i σ F=>∃(y:Option V) (rs:List Int),σ=[y,some (.ref s)]/\Zq s G F/\XW F s (n+6*j+i)/\F D=some (.lst (rs.map V.int))/\rs.length<=i) ?_ (fun _ _ _ h _=>h) (fun _ _ _=>lS _) ?_ ?_
    ·exact⟨_,[],rfl,Zh.x (Ze hD),stG.mono (Ze hD),Zb,lS _⟩
    ·rintro i x σ F0 F hi ⟨y,rs,rfl,xF,stF,eD,lr⟩ ⟨rfl,rfl⟩ N N0 hN hN0;refine⟨_,rfl,s,2,_,rfl,stF,by omega,by decide,by decide,fun F1 r' y1 sty hr'=>⟨rfl,_,rfl,WQ (fun c=>⟨_,rfl,?_⟩) (fun c=>?_)⟩⟩
     ·exact hN _ _ F1 _ (y1 _ _ nD eD) (by rw[lQ,lV];omega) ⟨_,rs++[(0+(i:Nat):Int)],rfl,(xF.trans y1).updN hD,XW.updN nD (by rw[<- pX];exact sty),by rw[Zb,mB];rfl,by rw[lW];show _+1<=_;omega⟩
     ·exact hN0 _ _ ⟨_,rs,rfl,xF.trans y1,by rw[<- pX];exact sty,y1 _ _ nD eD,by omega⟩
    rintro σ F ⟨y,rs,rfl,xF,stF,eD,lr⟩;refine⟨sz2,fun q hq=>?_⟩;obtain⟨F2,qN,u2,eq⟩:=ZU (o:=.tup [.ref b,.ref D]) hq;rw[qN];clear qN;obtain⟨oG,hoG⟩:=stG.lst;have x2:Zq s G F2:=xF.trans (Zh.x u2);have sT2:=sT.step hoG nSL x2;have t2:YL G F2:=Zq.tup x2 hoG;refine⟨SL,_,_,rfl,rfl,sT2.hs,by rw[sT2.len,lV];omega,?_⟩;have tU:=yD (o:=.lst (xs++[.ref q])) sT2.hs
    classical
    refine⟨_,fun x=>if x=u then rs else st x,ss++[u],xs++[.ref q],rfl,(xG.trans x2).updN hSL,by rw[ZB nLS];exact x2 _ _ nL gL,⟨m2,aG.mono (t2.trans tU)⟩,XW.updN nSL ((stF.mono u2).le (by omega)),⟨Zb,by rw[lW,lW,sT2.len];rfl,fun i v' t' h1 h2=>?_,fun x hx=>?_⟩,by rw[lW];show _+1<=_;omega,fun x hx=>?_,fun x hx hl=>?_⟩
    ·by_cases ci:i<xs.length
     ·rw[mQ ci] at h1;rw[mQ (by rw[<- sT2.len];exact ci)] at h2;obtain⟨b',l',e',n',q1,q2,q3,q4,q5,q6⟩:=sT2.it i v' t' h1 h2;have hne:t'≠u:=fun z=>hnot (by rw[<- z];exact hin t' (mM h2));refine⟨b',l',e',n',q1,tU _ _ _ q2,q3.mono tU,?_,q5,q6⟩;rw[ZB q6,if_neg hne];exact q4
     ·have hi2:=(mo.mp h1).1;rw[lW,ng] at hi2;have ei:i=xs.length:=by omega
      rw[mW (by omega),ei,nU] at h1;rw[mW (by rw[<- sT2.len];omega),ei,sT2.len,nU] at h2;cases h1;cases h2;refine⟨q,D,.ref b,m2,rfl,tU _ _ _ (SqT.of eq),au.mono (t2.trans tU),?_,nD,nDS⟩;rw[ZB nDS,if_pos rfl];exact u2 _ _ eD
    ·rcases ml.mp hx with hx|hx
     ·have hne:x≠u:=fun z=>hnot (by rw[<- z];exact hin x hx);rw[if_neg hne];exact sT2.short x hx
     ·rw[mr] at hx;rw[if_pos hx];omega
    ·rcases ml.mp hx with hx|hx
     ·exact mX _ (hin x hx)
     ·exact mP _ hx
    ·rcases ml.mp hx with hx|hx
     ·exact mX _ (hall x hx hl)
     ·exact mP _ hx
   ·have hlb:¬u.lb=.op "some" := fun z=>c (nk (my V.str ((kB (hcu u hum).1).mpr z)));refine⟨_,st,ss,xs,rfl,xG,gL,⟨m2,aG⟩,stG.le (by omega),sT,by omega,fun x hx=>mX _ (hin x hx),fun x hx hl=>?_⟩;rcases ml.mp hx with hx|hx
    ·exact hall x hx hl
    ·rw[mr] at hx;rw[hx] at hl;exact absurd hl hlb
  rintro σ G ⟨z,st,ss,xs,rfl,xG,gL,⟨m2,aG⟩,stG,sT,lss,hin,hall⟩;have lts:=aG.1;have etk:ts.take us.length=ts:=by rw[lts];exact pq
  rw[etk] at hin hall;refine⟨_,rfl,k G SL st ss xG ⟨⟨xs,sT.hs,sT.len,fun i v' t' h1 h2=>?_⟩,by omega,fun x hx=>(hcu x (hin x hx)).2,sT.short,by rw[hts];exact hall⟩⟩;obtain⟨b',l',e',n',q1,q2,q3,q4,_,_⟩:=sT.it i v' t' h1 h2;exact⟨b',l',e',n',q1,q2,q3,q4⟩
def Alike(H:Hp)(n:Nat)(w0:Nat->Int)(v:V):Prop:=∃rn way ring,v=.ref rn/\Ua H rn n way ring/\(∀k,Xk way ring k=w0 k)/\(way++ring).length<=100
theorem zN(ring:List Int)(k:Nat):(List.replicate k (ring.map V.int)).flatten=((List.replicate k ring).flatten).map V.int:=by
 rw[List.map_flatten,List.map_replicate]
def zW(K:W.Frag)(a:Adr):Sp:=fun vs H Q _=>∃(rn:Addr) (n:Nat) (way ring:List Int),vs=[.ref rn]/\Ua H rn n way ring/\(way++ring).length<=11/\∀H' L vs,Zh H H'->H' L=some (.lst vs)->vs.length=6->(∀v∈vs,Alike H' n (Xk way ring) v)->Q (.ref L) H'
theorem yc(T:Txt K mg a)(hw:w.params=a.Pm):Z2 P w K mg base CX0 1 a._law_others a.bD ["_law_run_here"] (zW K a):=by
 refine T.dg.ok Y4 (fun vs H Q E h=>?_) (fun lM A outer s H vs Q E hr h=>?_)
 ·obtain⟨rn,n,way,ring,rfl,_⟩:=h;rfl
 ·obtain⟨rn,n,way,ring,rfl,⟨⟨W,G,hrn,hW,hG⟩,hne,hb⟩,l11,k⟩:=h;refine⟨_,(@Za _ _ _ _ _ (ps_asg (pv 0) (V5 (K:=K) (n:=2) rfl rfl (YV (ZA (i:=1) Y4.nd rfl (Or.inl rfl)) (YV (ZA (i:=2) Y4.nd rfl (Or.inl rfl)) VQ)))) (@Za _ _ _ _ _ (@Zp _ _ (3) _ _ _ _ Y4.nd rfl (Or.inl rfl) (@ZO _ _ _ _ _ _ _ _ zS (Zn (Zy (K:=K) rfl) rfl T.aB sA (@Zd _ _ _ (pv 2) (by rfl))) Zf) (by rfl) (by exact .inl rfl)) (@Za _ _ _ _ _ (@Zp _ _ (4) _ _ _ _ Y4.nd rfl (Or.inl rfl) (@Yc _ _ _ _ (@ZI _ _ _ _ _ (@ZJ _ _ _ _ _ (@Zk _ _ _ _ _ (pv 1) (@Zd _ _ _ (@ZO _ _ _ _ _ _ _ _ vW (pv 2) Zf) (by rfl)) (by rfl))) (@ZI _ _ _ _ _ (@ZJ _ _ _ _ _ (@Zk _ _ _ _ _ (@ZO _ _ _ _ _ _ _ _ Vi (pv 1) (pv 2)) (@Zd _ _ _ (pv 2) (by rfl)) (by rfl))) (@Yh _ _ _ (@ZJ _ _ _ _ _ (@Zk _ _ _ _ _ (@ZO _ _ _ _ _ _ _ _ Vi (pv 1) (ZS (Yo (K:=K) rfl) (pv 2) Yb (ZX Zf))) (@Zd _ _ _ (@ZO _ _ _ _ _ _ _ _ Vi (ZS (Yo (K:=K) rfl) (pv 2) (ZX Zf) Yb) (ZS (Yo (K:=K) rfl) (pv 2) Yb (ZX Zf))) (by rfl)) (by rfl))) (by rfl)) (by rfl)) (by rfl))) (by rfl) (by exact .inl rfl)) (@Za _ _ _ _ _ (@Zp _ _ (4) _ _ _ _ Y4.nd rfl (Or.inl rfl) (@ZO _ _ _ _ _ _ _ _ Vi (pv 4) (@Yc _ _ _ _ (@Zd _ _ _ (@ZJ _ _ _ _ _ (@Zk _ _ _ _ _ (@ZO _ _ _ _ _ _ _ _ Vi (@ZO _ _ _ _ _ _ _ _ Vi (pv 1) (pv 2)) (ZS (Yo (K:=K) rfl) (pv 2) Yb (ZX (pv 3)))) (@Zd _ _ _ (@ZO _ _ _ _ _ _ _ _ Vi (ZS (Yo (K:=K) rfl) (pv 2) (ZX (pv 3)) Yb) (ZS (Yo (K:=K) rfl) (pv 2) Yb (ZX (pv 3)))) (by rfl)) (by rfl))) (by rfl)))) (by rfl) (by exact .inl rfl)) (@Zg _ _ _ (@Zm _ _ _ _ (@ZO _ _ _ _ _ _ _ _ Vi (pv 4) (@Yc _ _ _ _ (@Zk _ _ _ _ _ (@ZJ _ _ _ _ _ (@Zk _ _ _ _ _ (pv 1) (@Zd _ _ _ (@ZO _ _ _ _ _ _ _ _ vW (pv 2) Zf) (by rfl)) (by rfl))) (@Zd _ _ _ (@ZJ _ _ _ _ _ (@Zk _ _ _ _ _ (@ZO _ _ _ _ _ _ _ _ Vi (pv 1) (@ZO _ _ _ _ _ _ _ _ vW (pv 2) Zf)) (@Zd _ _ _ (@ZO _ _ _ _ _ _ _ _ vW (pv 2) Zf) (by rfl)) (by rfl))) (by rfl)) (by rfl)))))))))),?_⟩;rw[lW] at l11;have l0:0<ring.length:=oY.mpr hne;refine⟨_,rfl,rn,_,rfl,SqT.of hrn,rfl,_,_,rfl,_,_,rfl,rfl,?_⟩;refine⟨_,rfl,.inl ⟨G,_,rfl,.inl (SqL.of hG),?_⟩⟩;rw[lQ];refine⟨_,_,rfl,rfl,⟨by decide,by decide⟩,?_⟩;have eh:((ring.length:Nat):Int)/2=((ring.length/2:Nat):Int):=by omega
  rw[eh];have hh:ring.length/2<=ring.length:=by omega
  generalize ring.length/2=hf at hh ⊢;refine⟨_,rfl,_,rfl,G,2,_,rfl,rfl,hG,by decide,by decide,by rw[lQ,lV];show ring.length*2<=_;omega,fun A1 hA1=>?_⟩;rw[show((2:Int)).toNat=2 from rfl,zN];obtain⟨H1,qN,u1,e1⟩:=ZU (o:=.lst (((List.replicate 2 ring).flatten).map V.int)) hA1;rw[qN];clear qN;refine⟨sz2,fun T1 hT1=>?_⟩;obtain⟨H2,qN,u2,e2⟩:=ZU (o:=.tup [.ref W,.ref A1]) hT1;rw[qN];clear qN;refine⟨_,rfl,_,rfl,W,G,_,_,rfl,rfl,((u1.trans (u2)) _ _ hW),((u1.trans (u2)) _ _ hG),by simp only[lQ,lW,mf,mL,YK];rw[lV];omega,fun A2 hA2=>?_⟩;rw[<- mB];obtain⟨H3,qN,u3,e3⟩:=ZU (o:=.lst ((way++ring).map V.int)) hA2;rw[qN];clear qN;refine⟨_,rfl,sz2,fun T2 hT2=>?_⟩;obtain⟨H4,qN,u4,e4⟩:=ZU (o:=.tup [.ref A2,.ref G]) hT2;rw[qN];clear qN;refine⟨_,rfl,_,rfl,(1:Int),rfl,G,_,rfl,SqL.of ((u1.trans (u2.trans (u3.trans (u4)))) _ _ hG),fun A3 hA3=>?_⟩;rw[show(1:Int)=((1:Nat):Int) from rfl,Wc,<- ot];obtain⟨H5,qN,u5,e5⟩:=ZU (o:=.lst ((ring.take 1).map V.int)) hA3;rw[qN];clear qN;refine⟨W,A3,_,_,rfl,rfl,((u1.trans (u2.trans (u3.trans (u4.trans (u5))))) _ _ hW),e5,by simp only[lQ,lW,mf,mL,YK];rw[lV];omega,fun A4 hA4=>?_⟩;rw[<- mB];obtain⟨H6,qN,u6,e6⟩:=ZU (o:=.lst ((way++ring.take 1).map V.int)) hA4;rw[qN];clear qN;refine⟨_,rfl,(1:Int),rfl,G,_,rfl,SqL.of ((u1.trans (u2.trans (u3.trans (u4.trans (u5.trans (u6)))))) _ _ hG),fun A5 hA5=>?_⟩;rw[show(1:Int)=((1:Nat):Int) from rfl,Xu _ _ (by rw[lQ];omega),<- pE];obtain⟨H7,qN,u7,e7⟩:=ZU (o:=.lst ((ring.drop 1).map V.int)) hA5;rw[qN];clear qN;refine⟨_,rfl,(1:Int),rfl,G,_,rfl,SqL.of ((u1.trans (u2.trans (u3.trans (u4.trans (u5.trans (u6.trans (u7))))))) _ _ hG),fun A6 hA6=>?_⟩;rw[show(1:Int)=((1:Nat):Int) from rfl,Wc,<- ot];obtain⟨H8,qN,u8,e8⟩:=ZU (o:=.lst ((ring.take 1).map V.int)) hA6;rw[qN];clear qN;refine⟨A5,A6,_,_,rfl,rfl,(u8 _ _ e7),e8,by simp only[lQ,lW,mf,mL,YK];rw[lV];omega,fun A7 hA7=>?_⟩;rw[<- mB];obtain⟨H9,qN,u9,e9⟩:=ZU (o:=.lst ((ring.drop 1++ring.take 1).map V.int)) hA7;rw[qN];clear qN;refine⟨sz2,fun T3 hT3=>?_⟩;obtain⟨H10,qN,u10,e10⟩:=ZU (o:=.tup [.ref A4,.ref A7]) hT3;rw[qN];clear qN;refine⟨sz3,fun F1 hF1=>?_⟩;obtain⟨H11,qN,u11,e11⟩:=ZU (o:=.lst [.ref T1,.ref T2,.ref T3]) hF1;rw[qN];clear qN;refine⟨_,rfl,_,rfl,_,rfl,W,G,_,_,rfl,rfl,((u1.trans (u2.trans (u3.trans (u4.trans (u5.trans (u6.trans (u7.trans (u8.trans (u9.trans (u10.trans (u11))))))))))) _ _ hW),((u1.trans (u2.trans (u3.trans (u4.trans (u5.trans (u6.trans (u7.trans (u8.trans (u9.trans (u10.trans (u11))))))))))) _ _ hG),by simp only[lQ,lW,mf,mL,YK];rw[lV];omega,fun B1 hB1=>?_⟩;rw[<- mB];obtain⟨H12,qN,u12,e12⟩:=ZU (o:=.lst ((way++ring).map V.int)) hB1;rw[qN];clear qN;refine⟨_,rfl,_,rfl,_,rfl,G,_,rfl,SqL.of ((u1.trans (u2.trans (u3.trans (u4.trans (u5.trans (u6.trans (u7.trans (u8.trans (u9.trans (u10.trans (u11.trans (u12)))))))))))) _ _ hG),fun B2 hB2=>?_⟩;rw[Wc,<- ot];obtain⟨H13,qN,u13,e13⟩:=ZU (o:=.lst ((ring.take hf).map V.int)) hB2;rw[qN];clear qN;refine⟨B1,B2,_,_,rfl,rfl,(u13 _ _ e12),e13,by simp only[lQ,lW,mf,mL,YK];rw[lV];omega,fun B3 hB3=>?_⟩;rw[<- mB];obtain⟨H14,qN,u14,e14⟩:=ZU (o:=.lst (((way++ring)++ring.take hf).map V.int)) hB3;rw[qN];clear qN;refine⟨_,rfl,_,rfl,_,rfl,G,_,rfl,SqL.of ((u1.trans (u2.trans (u3.trans (u4.trans (u5.trans (u6.trans (u7.trans (u8.trans (u9.trans (u10.trans (u11.trans (u12.trans (u13.trans (u14)))))))))))))) _ _ hG),fun B4 hB4=>?_⟩;rw[Xu _ _ (by rw[lQ];omega),<- pE];obtain⟨H15,qN,u15,e15⟩:=ZU (o:=.lst ((ring.drop hf).map V.int)) hB4;rw[qN];clear qN;refine⟨_,rfl,_,rfl,_,rfl,G,_,rfl,SqL.of ((u1.trans (u2.trans (u3.trans (u4.trans (u5.trans (u6.trans (u7.trans (u8.trans (u9.trans (u10.trans (u11.trans (u12.trans (u13.trans (u14.trans (u15))))))))))))))) _ _ hG),fun B5 hB5=>?_⟩;rw[Wc,<- ot];obtain⟨H16,qN,u16,e16⟩:=ZU (o:=.lst ((ring.take hf).map V.int)) hB5;rw[qN];clear qN;refine⟨B4,B5,_,_,rfl,rfl,(u16 _ _ e15),e16,by simp only[lQ,lW,mf,mL,YK];rw[lV];omega,fun B6 hB6=>?_⟩;rw[<- mB];obtain⟨H17,qN,u17,e17⟩:=ZU (o:=.lst ((ring.drop hf++ring.take hf).map V.int)) hB6;rw[qN];clear qN;refine⟨sz2,fun T4 hT4=>?_⟩;obtain⟨H18,qN,u18,e18⟩:=ZU (o:=.tup [.ref B3,.ref B6]) hT4;rw[qN];clear qN;refine⟨sz1,fun F2 hF2=>?_⟩;obtain⟨H19,qN,u19,e19⟩:=ZU (o:=.lst [.ref T4]) hF2;rw[qN];clear qN;refine⟨F1,F2,_,_,rfl,rfl,((u12.trans (u13.trans (u14.trans (u15.trans (u16.trans (u17.trans (u18.trans (u19)))))))) _ _ e11),e19,sz4,fun F3 hF3=>?_⟩;obtain⟨H20,qN,u20,e20⟩:=ZU (o:=.lst ([.ref T1,.ref T2,.ref T3]++[.ref T4])) hF3;rw[qN];clear qN;refine⟨_,rfl,_,rfl,_,rfl,G,3,_,rfl,rfl,((u1.trans (u2.trans (u3.trans (u4.trans (u5.trans (u6.trans (u7.trans (u8.trans (u9.trans (u10.trans (u11.trans (u12.trans (u13.trans (u14.trans (u15.trans (u16.trans (u17.trans (u18.trans (u19.trans (u20)))))))))))))))))))) _ _ hG),by decide,by decide,by rw[lQ,lV];show ring.length*3<=_;omega,fun C1 hC1=>?_⟩;rw[show((3:Int)).toNat=3 from rfl,zN];obtain⟨H21,qN,u21,e21⟩:=ZU (o:=.lst (((List.replicate 3 ring).flatten).map V.int)) hC1;rw[qN];clear qN;refine⟨sz2,fun T5 hT5=>?_⟩;obtain⟨H22,qN,u22,e22⟩:=ZU (o:=.tup [.ref W,.ref C1]) hT5;rw[qN];clear qN;refine⟨_,rfl,_,rfl,G,2,_,rfl,rfl,((u1.trans (u2.trans (u3.trans (u4.trans (u5.trans (u6.trans (u7.trans (u8.trans (u9.trans (u10.trans (u11.trans (u12.trans (u13.trans (u14.trans (u15.trans (u16.trans (u17.trans (u18.trans (u19.trans (u20.trans (u21.trans (u22)))))))))))))))))))))) _ _ hG),by decide,by decide,by rw[lQ,lV];show ring.length*2<=_;omega,fun C2 hC2=>?_⟩;rw[show((2:Int)).toNat=2 from rfl,zN];obtain⟨H23,qN,u23,e23⟩:=ZU (o:=.lst (((List.replicate 2 ring).flatten).map V.int)) hC2;rw[qN];clear qN;refine⟨W,C2,_,_,rfl,rfl,((u1.trans (u2.trans (u3.trans (u4.trans (u5.trans (u6.trans (u7.trans (u8.trans (u9.trans (u10.trans (u11.trans (u12.trans (u13.trans (u14.trans (u15.trans (u16.trans (u17.trans (u18.trans (u19.trans (u20.trans (u21.trans (u22.trans (u23))))))))))))))))))))))) _ _ hW),e23,by simp only[lQ,lW,mf,mL,YK];rw[lV];omega,fun C3 hC3=>?_⟩;rw[<- mB];obtain⟨H24,qN,u24,e24⟩:=ZU (o:=.lst ((way++(List.replicate 2 ring).flatten).map V.int)) hC3;rw[qN];clear qN;refine⟨_,rfl,G,2,_,rfl,rfl,((u1.trans (u2.trans (u3.trans (u4.trans (u5.trans (u6.trans (u7.trans (u8.trans (u9.trans (u10.trans (u11.trans (u12.trans (u13.trans (u14.trans (u15.trans (u16.trans (u17.trans (u18.trans (u19.trans (u20.trans (u21.trans (u22.trans (u23.trans (u24)))))))))))))))))))))))) _ _ hG),by decide,by decide,by rw[lQ,lV];show ring.length*2<=_;omega,fun C4 hC4=>?_⟩;rw[show((2:Int)).toNat=2 from rfl,zN];obtain⟨H25,qN,u25,e25⟩:=ZU (o:=.lst (((List.replicate 2 ring).flatten).map V.int)) hC4;rw[qN];clear qN;refine⟨sz2,fun T6 hT6=>?_⟩;obtain⟨H26,qN,u26,e26⟩:=ZU (o:=.tup [.ref C3,.ref C4]) hT6;rw[qN];clear qN;refine⟨sz2,fun F4 hF4=>?_⟩;obtain⟨H27,qN,u27,e27⟩:=ZU (o:=.lst [.ref T5,.ref T6]) hF4;rw[qN];clear qN;refine⟨F3,F4,_,_,rfl,rfl,((u21.trans (u22.trans (u23.trans (u24.trans (u25.trans (u26.trans (u27))))))) _ _ e20),e27,sz6,fun F5 hF5=>?_⟩;obtain⟨H28,qN,u28,e28⟩:=ZU (o:=.lst (([.ref T1,.ref T2,.ref T3]++[.ref T4])++[.ref T5,.ref T6])) hF5;rw[qN];clear qN;have hbw:∀x∈way,0<=x/\x<(n:Nat):=fun x hx=>hb x (mX _ hx);have hbr:∀x∈ring,0<=x/\x<(n:Nat):=fun x hx=>hb x (mP _ hx);have hbt:∀i,∀x∈ring.take i,0<=x/\x<(n:Nat):=fun i x hx=>hbr x (su hx);have hbd:∀i,∀x∈ring.drop i,0<=x/\x<(n:Nat):=fun i x hx=>hbr x (sv hx);have hbf:∀j,∀x∈(List.replicate j ring).flatten,0<=x/\x<(n:Nat):=fun j x hx=>by
   obtain⟨l,h1,h2⟩:=py.mp hx;rw[(List.mem_replicate.mp h1).2] at h2;exact hbr x h2
  have ap:∀{xs ys:List Int},(∀x∈xs,0<=x/\x<(n:Nat))->(∀x∈ys,0<=x/\x<(n:Nat))->∀x∈xs++ys,0<=x/\x<(n:Nat):=fun h1 h2 x hx=>(ml.mp hx).elim (h1 x) (h2 x);have nef:∀j,0<j->(List.replicate j ring).flatten≠[]:=fun j hj e=>by
   have:=YK ring j;rw[e] at this;have:=Nat.mul_pos hj l0;simp at *; omega
  have net:∀i,i<=ring.length->ring.drop i++ring.take i≠[]:=fun i hi e=>by
   have:=my List.length e;rw[lW,mL,mf,List.length_nil] at this;omega
  refine k _ F5 _ (u1.trans (u2.trans (u3.trans (u4.trans (u5.trans (u6.trans (u7.trans (u8.trans (u9.trans (u10.trans (u11.trans (u12.trans (u13.trans (u14.trans (u15.trans (u16.trans (u17.trans (u18.trans (u19.trans (u20.trans (u21.trans (u22.trans (u23.trans (u24.trans (u25.trans (u26.trans (u27.trans (u28)))))))))))))))))))))))))))) e28 rfl fun v hv=>?_;have hv':v=.ref T1\/v=.ref T2\/v=.ref T3\/v=.ref T4\/v=.ref T5\/v=.ref T6:=by simpa using hv
  rcases hv' with rfl|rfl|rfl|rfl|rfl|rfl
  ·exact⟨T1,way,(List.replicate 2 ring).flatten,rfl,⟨⟨W,A1,((u3.trans (u4.trans (u5.trans (u6.trans (u7.trans (u8.trans (u9.trans (u10.trans (u11.trans (u12.trans (u13.trans (u14.trans (u15.trans (u16.trans (u17.trans (u18.trans (u19.trans (u20.trans (u21.trans (u22.trans (u23.trans (u24.trans (u25.trans (u26.trans (u27.trans (u28)))))))))))))))))))))))))) _ _ e2),((u1.trans (u2.trans (u3.trans (u4.trans (u5.trans (u6.trans (u7.trans (u8.trans (u9.trans (u10.trans (u11.trans (u12.trans (u13.trans (u14.trans (u15.trans (u16.trans (u17.trans (u18.trans (u19.trans (u20.trans (u21.trans (u22.trans (u23.trans (u24.trans (u25.trans (u26.trans (u27.trans (u28)))))))))))))))))))))))))))) _ _ hW),((u2.trans (u3.trans (u4.trans (u5.trans (u6.trans (u7.trans (u8.trans (u9.trans (u10.trans (u11.trans (u12.trans (u13.trans (u14.trans (u15.trans (u16.trans (u17.trans (u18.trans (u19.trans (u20.trans (u21.trans (u22.trans (u23.trans (u24.trans (u25.trans (u26.trans (u27.trans (u28))))))))))))))))))))))))))) _ _ e1)⟩,nef 2 (by decide),ap hbw (hbf 2)⟩,vY hne (by decide),by simp only[lQ,lW,mf,mL,YK];omega⟩
  ·exact⟨T2,way++ring,ring,rfl,⟨⟨A2,G,((u5.trans (u6.trans (u7.trans (u8.trans (u9.trans (u10.trans (u11.trans (u12.trans (u13.trans (u14.trans (u15.trans (u16.trans (u17.trans (u18.trans (u19.trans (u20.trans (u21.trans (u22.trans (u23.trans (u24.trans (u25.trans (u26.trans (u27.trans (u28)))))))))))))))))))))))) _ _ e4),((u4.trans (u5.trans (u6.trans (u7.trans (u8.trans (u9.trans (u10.trans (u11.trans (u12.trans (u13.trans (u14.trans (u15.trans (u16.trans (u17.trans (u18.trans (u19.trans (u20.trans (u21.trans (u22.trans (u23.trans (u24.trans (u25.trans (u26.trans (u27.trans (u28))))))))))))))))))))))))) _ _ e3),((u1.trans (u2.trans (u3.trans (u4.trans (u5.trans (u6.trans (u7.trans (u8.trans (u9.trans (u10.trans (u11.trans (u12.trans (u13.trans (u14.trans (u15.trans (u16.trans (u17.trans (u18.trans (u19.trans (u20.trans (u21.trans (u22.trans (u23.trans (u24.trans (u25.trans (u26.trans (u27.trans (u28)))))))))))))))))))))))))))) _ _ hG)⟩,hne,ap (ap hbw hbr) hbr⟩,vR hne,by simp only[lQ,lW,mf,mL,YK];omega⟩
  ·exact⟨T3,way++ring.take 1,ring.drop 1++ring.take 1,rfl,⟨⟨A4,A7,((u11.trans (u12.trans (u13.trans (u14.trans (u15.trans (u16.trans (u17.trans (u18.trans (u19.trans (u20.trans (u21.trans (u22.trans (u23.trans (u24.trans (u25.trans (u26.trans (u27.trans (u28)))))))))))))))))) _ _ e10),((u7.trans (u8.trans (u9.trans (u10.trans (u11.trans (u12.trans (u13.trans (u14.trans (u15.trans (u16.trans (u17.trans (u18.trans (u19.trans (u20.trans (u21.trans (u22.trans (u23.trans (u24.trans (u25.trans (u26.trans (u27.trans (u28)))))))))))))))))))))) _ _ e6),((u10.trans (u11.trans (u12.trans (u13.trans (u14.trans (u15.trans (u16.trans (u17.trans (u18.trans (u19.trans (u20.trans (u21.trans (u22.trans (u23.trans (u24.trans (u25.trans (u26.trans (u27.trans (u28))))))))))))))))))) _ _ e9)⟩,net 1 l0,ap (ap hbw (hbt 1)) (ap (hbd 1) (hbt 1))⟩,yt hne l0,by simp only[lQ,lW,mf,mL,YK];omega⟩
  ·exact⟨T4,(way++ring)++ring.take hf,ring.drop hf++ring.take hf,rfl,⟨⟨B3,B6,((u19.trans (u20.trans (u21.trans (u22.trans (u23.trans (u24.trans (u25.trans (u26.trans (u27.trans (u28)))))))))) _ _ e18),((u15.trans (u16.trans (u17.trans (u18.trans (u19.trans (u20.trans (u21.trans (u22.trans (u23.trans (u24.trans (u25.trans (u26.trans (u27.trans (u28)))))))))))))) _ _ e14),((u18.trans (u19.trans (u20.trans (u21.trans (u22.trans (u23.trans (u24.trans (u25.trans (u26.trans (u27.trans (u28))))))))))) _ _ e17)⟩,net hf hh,ap (ap (ap hbw hbr) (hbt hf)) (ap (hbd hf) (hbt hf))⟩,fun k=>(yt hne hh k).trans (vR hne k),by simp only[lQ,lW,mf,mL,YK];omega⟩
  ·exact⟨T5,way,(List.replicate 3 ring).flatten,rfl,⟨⟨W,C1,((u23.trans (u24.trans (u25.trans (u26.trans (u27.trans (u28)))))) _ _ e22),((u1.trans (u2.trans (u3.trans (u4.trans (u5.trans (u6.trans (u7.trans (u8.trans (u9.trans (u10.trans (u11.trans (u12.trans (u13.trans (u14.trans (u15.trans (u16.trans (u17.trans (u18.trans (u19.trans (u20.trans (u21.trans (u22.trans (u23.trans (u24.trans (u25.trans (u26.trans (u27.trans (u28)))))))))))))))))))))))))))) _ _ hW),((u22.trans (u23.trans (u24.trans (u25.trans (u26.trans (u27.trans (u28))))))) _ _ e21)⟩,nef 3 (by decide),ap hbw (hbf 3)⟩,vY hne (by decide),by simp only[lQ,lW,mf,mL,YK];omega⟩
  ·exact⟨T6,way++(List.replicate 2 ring).flatten,(List.replicate 2 ring).flatten,rfl,⟨⟨C3,C4,((u27.trans (u28)) _ _ e26),((u25.trans (u26.trans (u27.trans (u28)))) _ _ e24),((u26.trans (u27.trans (u28))) _ _ e25)⟩,nef 2 (by decide),ap (ap hbw (hbf 2)) (hbf 2)⟩,fun k=>(vR (nef 2 (by decide)) k).trans (vY hne (by decide) k),by simp only[lQ,lW,mf,mL,YK];omega⟩
def zJ(K:W.Frag)(a:Adr):Sp:=fun vs H Q _=>∃(p:Addr) (ns:List Int) (j:Nat),vs=[.ref p,.int (j:Nat)]/\SqL K H p (ns.map V.int)/\∀n:Int,Q (.int n) H
theorem zK(T:Txt K mg a)(hw:w.params=a.Pm):Z2 P w K mg base CX0 1 a._law_cell_at a.bn ["_law_script", "_law_k"] (zJ K a):=by
 refine T.aV.ok zL (fun vs H Q E h=>?_) (fun lM A outer s H vs Q E hr h=>?_)
 ·obtain⟨p,ns,j,rfl,_⟩:=h;rfl
 ·obtain⟨p,ns,j,rfl,hq,k⟩:=h;refine⟨_,(@Za _ _ _ _ _ (@ZV _ _ _ _ _ _ _ _ (@Zx _ _ _ _ _ _ _ _ zA (pv 1) (Zn (Zy (K:=K) rfl) rfl T.aB sA (@Zd _ _ _ (pv 0) (by rfl))) (ZF _)) (@Zg _ _ _ (@Zm _ _ _ _ (@Zz _ _ _ _ _ _ _ (Zs (K:=K) rfl) (pv 0) (pv 1) (fun _ _=>rfl)))) ZD) (@Zg _ _ _ (@Zm _ _ _ _ Zf))),?_⟩;refine⟨_,rfl,_,rfl,.inl ⟨p,_,rfl,.inl hq,_,_,rfl,rfl,_,rfl,?_⟩⟩;refine WQ (fun c=>?_) (fun _=>k 0);have hj:j<ns.length:=by have:=mO c;rw[lQ] at this;omega
  exact⟨_,rfl,_,rfl,p,_,_,_,rfl,rfl,hq,Zi (at_of hj),k _⟩
theorem Uw{H H1 H2:Hp}{s:Addr}(u:Zh H H1)(h:H s=none)(x:Zq s H1 H2):Zh H H2:=fun b o e=>x _ _ (fun z=>by rw[z,h] at e;cases e) (u _ _ e)
theorem Bz_le{m:Nat}(h:m<=5):Bz m<=724726:=by
 rcases(show m=0\/m=1\/m=2\/m=3\/m=4\/m=5 by omega) with rfl|rfl|rfl|rfl|rfl|rfl<;>decide
theorem Z1{x y:V}[Decidable (x=y)]{A B:Prop}(e:x=y)(h:B):if(!decide (x=y))=true then A else B:=by rw[nk e];exact Yd h
theorem fineB(bs:List Bool):Fine 1 (.list (bs.map PyData.bool)):=fineL fun x _=>⟨by simp[PyData.canLay0],by simp[PyData.depth]⟩
theorem dpB{K:W.Frag}{H:Hp}{b:Addr}{bs:List Bool}(h:H b=some (.lst (bs.map V.bl))):Dp K H (.ref b) (.list (bs.map PyData.bool)):=.lst (SqL.of h) (zf (fun x=>.bl x) bs)
theorem UW.mono{K:W.Frag}{H H':Hp}{sl:Addr}{st:Tr->List Int}{t:Tr}{ss:List Tr}(s:Zh H H')(h:UW K H sl st t ss):UW K H' sl st t ss:=⟨h.at_.mono s,h.few,h.sub,h.short,h.all⟩
structure Ask(K:W.Frag)(a:Adr)(H:Hp)(w sl:Addr)(v:V)(d:WD)(t:Tr)(st:Tr->List Int):Prop where
 w:ZW a.C_World H w d
 n6:d.signs.length<=6
 core:∃n,At K n H v t
 c:isC t=true
 sz:psz t<=724726
 few:(Zw [] (post t)).length<=261
 sets:∃ss,UW K H sl st t ss
theorem Ask.mono{K:W.Frag}{a:Adr}{H H':Hp}{w sl:Addr}{v:V}{d:WD}{t:Tr}{st:Tr->List Int}(s:Zh H H')(h:Ask K a H w sl v d t st):Ask K a H' w sl v d t st:=
 ⟨h.w.mono s,h.n6,h.core.imp fun n q=>q.mono (Zh.tup s),h.c,h.sz,h.few,h.sets.imp fun ss q=>q.mono s⟩
theorem Ask.rd{K:W.Frag}{a:Adr}{H:Hp}{w sl rn:Addr}{v:V}{d:WD}{t:Tr}{st:Tr->List Int}{way ring:List Int}(h:Ask K a H w sl v d t st)(r:Ua H rn d.signs.length way ring)(l:(way++ring).length<=100):Rd K a H w rn sl v d way ring t st:=
 ⟨h.w,mC h.n6 (by decide),r,h.core,h.c,mC h.sz (by decide),nt h.few (by decide),h.sets,by
  rw[lW] at l ⊢;have:=Nat.mul_le_mul h.few (show ring.length+1<=101 by omega);omega⟩
def lG(K:W.Frag)(a:Adr):Sp:=fun vs H Q _=>∃(p:Addr) (ns:List Int),vs=[.ref p]/\SqL K H p (ns.map V.int)/\ns.length<=63/\∀H',Q (.bl true) H'
theorem lH(T:Txt K mg a)(hw:w.params=a.Pm):Z2 P w K mg base CX0 11 a.law a.iJ ["_law_script"] (lG K a):=by
 have i7:=JB (P:=P) (w:=w) (base:=base) T hw;have i8:=lB (P:=P) (w:=w) (base:=base) T hw;have bM:=UN (P:=P) (w:=w) (base:=base) T hw;have cI:=zK (P:=P) (w:=w) (base:=base) T hw;have dE:=xv (P:=P) (w:=w) (base:=base) T hw;have aa:=XY (P:=P) (w:=w) (base:=base) T hw;have im:=xP (P:=P) (w:=w) (base:=base) T hw;have iU:=j5 (P:=P) (w:=w) (base:=base) T hw;have bt:=qX (P:=P) (w:=w) (base:=base) T hw 8;have iI:=vM (P:=P) (w:=w) (base:=base) T hw;have g7:=yc (P:=P) (w:=w) (base:=base) T hw;refine T.lD.ok Wy (fun vs H Q E h=>?_) (fun lM A outer s H vs Q E hr h=>?_)
 ·obtain⟨p,ns,rfl,_⟩:=h;rfl
 ·obtain⟨p,ns,rfl,hq,hz,k⟩:=h;refine⟨_,(@Za _ _ _ _ _ (@Zp _ _ (1) _ _ _ _ Wy.nd rfl (Or.inl rfl) (Zl im (hr.mono (by decide)) rfl T.fG T.dC.kp T.fF .nil Zv (@Zd _ _ _ (Zl dE (hr.mono (by decide)) rfl T.cH T.bL.kp T.cG .nil Zv (@Zd _ _ _ (Zl cI (hr.mono (by decide)) rfl T.bF T.aV.kp T.bE .nil Zv (@Zk _ _ _ _ _ (pv 0) (@Zd _ _ _ Zf (by rfl)) (by rfl))) (by rfl))) (by rfl))) (by rfl) (by exact .inl rfl)) (@Za _ _ _ _ _ (@Zp _ _ (2) _ _ _ _ Wy.nd rfl (Or.inl rfl) (Zl iU (hr.mono (by decide)) rfl T.gJ T.fu.kp T.gI .nil Zv (@Zk _ _ _ _ _ (Zl dE (hr.mono (by decide)) rfl T.cH T.bL.kp T.cG .nil Zv (@Zd _ _ _ (Zl cI (hr.mono (by decide)) rfl T.bF T.aV.kp T.bE .nil Zv (@Zk _ _ _ _ _ (pv 0) (@Zd _ _ _ Zf (by rfl)) (by rfl))) (by rfl))) (@Zd _ _ _ (pv 1) (by rfl)) (by rfl))) (by rfl) (by exact .inl rfl)) (@Za _ _ _ _ _ (X8 m8 rfl (Xt rfl T.bP (@Zd _ _ _ Zf (by rfl))) (ZA (i:=3) Wy.nd rfl (Or.inl rfl)) (@Za _ _ _ _ _ (@Zp _ _ (4) _ _ _ _ Wy.nd rfl (Or.inl rfl) (Zl dE (hr.mono (by decide)) rfl T.cH T.bL.kp T.cG .nil Zv (@Zd _ _ _ (Zl cI (hr.mono (by decide)) rfl T.bF T.aV.kp T.bE .nil Zv (@Zk _ _ _ _ _ (pv 0) (@Zd _ _ _ (@ZO _ _ _ _ _ _ _ _ WA Zf (pv 3)) (by rfl)) (by rfl))) (by rfl))) (by rfl) (by exact .inl rfl)) (@Za _ _ _ _ _ (@Zp _ _ (5) _ _ _ _ Wy.nd rfl (Or.inl rfl) (Zl i7 (hr.mono (by decide)) rfl T.hU T.fU.kp T.hJ .nil Zv (@Zd _ _ _ (Zl bt (hr.mono (by decide)) rfl T.bq T.aE.kp T.bo .nil Zv (@ZI _ _ _ _ _ (pv 4) (@ZI _ _ _ _ _ (@ZO _ _ _ _ _ _ _ _ WA Zf (Zl aa (hr.mono (by decide)) rfl T.ag T.ab.kp T.ae .nil Zv (@Zk _ _ _ _ _ (pv 4) (@Zd _ _ _ Zf (by rfl)) (by rfl)))) (@Yh _ _ _ (@XR _ _ _ _ _ _ _ _ Yw (pv 3) Zf (ZF _)) (by rfl)) (by rfl)) (by rfl))) (by rfl))) (by rfl) (by exact .inl rfl)) (@Za _ _ _ _ _ (@Zp _ _ (6) _ _ _ _ Wy.nd rfl (Or.inl rfl) (Zl iI (hr.mono (by decide)) rfl T.gp T.eG.kp T.gn .nil Zv (@ZI _ _ _ _ _ (pv 4) (@ZI _ _ _ _ _ (pv 1) (@Yh _ _ _ (pv 5) (by rfl)) (by rfl)) (by rfl))) (by rfl) (by exact .inl rfl)) (@Za _ _ _ _ _ (@Zp _ _ (7) _ _ _ _ Wy.nd rfl (Or.inl rfl) (Zl i8 (hr.mono (by decide)) rfl T.iL T.hX.kp T.iK .nil Zv (@ZI _ _ _ _ _ (pv 1) (@ZI _ _ _ _ _ (pv 2) (@ZI _ _ _ _ _ (pv 5) (@Yh _ _ _ (pv 6) (by rfl)) (by rfl)) (by rfl)) (by rfl))) (by rfl) (by exact .inl rfl)) (@Za _ _ _ _ _ (@Zp _ _ (8) _ _ _ _ Wy.nd rfl (Or.inl rfl) (@ZO _ _ _ _ _ _ _ _ WA (Zn (Zy (K:=K) rfl) rfl T.aB sA (@Zd _ _ _ (@Zz _ _ _ _ _ _ _ (ZR (K:=K) rfl) (pv 2) Zf (fun _ _=>rfl)) (by rfl))) (@ZO _ _ _ _ _ _ _ _ yP Zf (Zn (Zy (K:=K) rfl) rfl T.aB sA (@Zd _ _ _ (@Zz _ _ _ _ _ _ _ (ZR (K:=K) rfl) (pv 2) Zf (fun _ _=>rfl)) (by rfl))))) (by rfl) (by exact .inl rfl)) (@Za _ _ _ _ _ (@Zp _ _ (9) _ _ _ _ Wy.nd rfl (Or.inl rfl) (Zl bM (hr.mono (by decide)) rfl T.bK T.bh.kp T.bJ .nil Zv (@ZI _ _ _ _ _ (pv 1) (@ZI _ _ _ _ _ (pv 2) (@ZI _ _ _ _ _ (pv 5) (@ZI _ _ _ _ _ (pv 6) (@Yh _ _ _ (pv 8) (by rfl)) (by rfl)) (by rfl)) (by rfl)) (by rfl))) (by rfl) (by exact .inl rfl)) (@Za _ _ _ _ _ (X8 m8 rfl (Yk (K:=K) rfl (Zl g7 (hr.mono (by decide)) rfl T.fc T.dg.kp T.fb .nil Zv (@Zd _ _ _ (pv 2) (by rfl)))) (ZA (i:=10) Wy.nd rfl (Or.inl rfl)) (@Zg _ _ _ (@ZV _ _ _ _ _ _ _ _ (PW.pt (UJ (@Zx _ _ _ _ _ _ _ _ op_ne (Zl i8 (hr.mono (by decide)) rfl T.iL T.hX.kp T.iK .nil Zv (@ZI _ _ _ _ _ (pv 1) (@ZI _ _ _ _ _ (pv 10) (@ZI _ _ _ _ _ (pv 5) (@Yh _ _ _ (pv 6) (by rfl)) (by rfl)) (by rfl)) (by rfl))) (pv 7) (ZF _)) (V2 (@Zx _ _ _ _ _ _ _ _ (op_neDK (K:=K) rfl (Xz.units hr)) (Zl bM (hr.mono (by decide)) rfl T.bK T.bh.kp T.bJ .nil Zv (@ZI _ _ _ _ _ (pv 1) (@ZI _ _ _ _ _ (pv 10) (@ZI _ _ _ _ _ (pv 5) (@ZI _ _ _ _ _ (pv 6) (@Yh _ _ _ (pv 8) (by rfl)) (by rfl)) (by rfl)) (by rfl)) (by rfl))) (pv 9) (ZF _))))) (@Zg _ _ _ (@Zm _ _ _ _ Vj)) ZD))) (@Zg _ _ _ (@ZV _ _ _ _ _ _ _ _ (@Zx _ _ _ _ _ _ _ _ Yw (pv 3) Zf (ZF _)) (@Za _ _ _ _ _ (@Zp _ _ (11) _ _ _ _ Wy.nd rfl (Or.inl rfl) (@ZJ _ _ _ _ _ (@Zk _ _ _ _ _ (ZS (Yo (K:=K) rfl) (@Zz _ _ _ _ _ _ _ (ZR (K:=K) rfl) (pv 2) Zf (fun _ _=>rfl)) (ZX Zf) Yb) (@Zd _ _ _ (@Zz _ _ _ _ _ _ _ (ZR (K:=K) rfl) (pv 2) Zf (fun _ _=>rfl)) (by rfl)) (by rfl))) (by rfl) (by exact .inl rfl)) (@Za _ _ _ _ _ (@ZV _ _ _ _ _ _ _ _ (@Zx _ _ _ _ _ _ _ _ (op_eqDK (K:=K) rfl (Xz.units hr)) (@Zz _ _ _ _ _ _ _ (ZR (K:=K) rfl) (pv 2) Zf (fun _ _=>rfl)) (@Yc _ _ _ _ Xd) (ZF _)) (@Zg _ _ _ (@Zp _ _ (11) _ _ _ _ Wy.nd rfl (Or.inl rfl) (@ZJ _ _ _ _ _ (@Zk _ _ _ _ _ (ZS (Yo (K:=K) rfl) (@Zz _ _ _ _ _ _ _ (ZR (K:=K) rfl) (pv 2) Zf (fun _ _=>rfl)) (ZX Zf) Yb) (@Zd _ _ _ (@Zz _ _ _ _ _ _ _ (ZR (K:=K) rfl) (pv 2) Zf (fun _ _=>rfl)) (by rfl)) (by rfl))) (by rfl) (by exact .inl rfl))) ZD) (@Zg _ _ _ (@ZV _ _ _ _ _ _ _ _ (@Zx _ _ _ _ _ _ _ _ op_ne (Zl i8 (hr.mono (by decide)) rfl T.iL T.hX.kp T.iK .nil Zv (@ZI _ _ _ _ _ (pv 1) (@ZI _ _ _ _ _ (pv 11) (@ZI _ _ _ _ _ (pv 5) (@Yh _ _ _ (pv 6) (by rfl)) (by rfl)) (by rfl)) (by rfl))) (@Zz _ _ _ _ _ _ _ (Zs (K:=K) rfl) (Zl bM (hr.mono (by decide)) rfl T.bK T.bh.kp T.bJ .nil Zv (@ZI _ _ _ _ _ (pv 1) (@ZI _ _ _ _ _ (pv 2) (@ZI _ _ _ _ _ (pv 5) (@ZI _ _ _ _ _ (pv 6) (@Yh _ _ _ Zf (by rfl)) (by rfl)) (by rfl)) (by rfl)) (by rfl))) Zf (fun _ _=>rfl)) (ZF _)) (@Zg _ _ _ (@Zm _ _ _ _ Vj)) ZD)))) ZD)))))))))) (@Zg _ _ _ (@Zm _ _ _ _ Vj))))),?_⟩;refine⟨_,rfl,p,ns,0,rfl,hq,fun n0=>⟨n0,rfl,fun H1 s s1 s0 st1=>⟨s,0,rfl,st1,by decide,fun H2 w d x2 w2 gd n6=>?_⟩⟩⟩;have u2:=Uw s1 s0 x2;refine⟨_,rfl,p,ns,1,rfl,u2.seq hq,fun n1=>⟨n1,rfl,fun H3 s' s3 s30 st3=>⟨_,rfl,s',w,0,d,rfl,st3,by decide,w2.mono s3,gd,n6,fun H4 rn way ring x4 r4 l11=>?_⟩⟩⟩;have u24:=Uw s3 s30 x4;have hq4:=(u2.trans u24).seq hq;have w4:=w2.mono u24;clear u2 u24 x2 x4 s1 s0 st1 s3 s30 st3 w2 hq;obtain⟨⟨W,GR,hrn,hW,hG⟩,hne,hb⟩:=r4;have r4:Ua H4 rn d.signs.length way ring:=⟨⟨W,GR,hrn,hW,hG⟩,hne,hb⟩;have l100:(way++ring).length<=100:=by omega
  have lap:=l11;rw[lW] at lap;refine⟨_,rfl,by decide,by decide,?_⟩;refine X1 (J:=Itr 0 2) (n:=2) (fun i σ G=>∃z3 z4 z5 z6 z7 z8 z9 z10 z11:Option V,σ=[some (.ref p),some (.ref w),some (.ref rn),z3,z4,z5,z6,z7,z8,z9,z10,z11]/\Zh H4 G) ?_ (fun _ _ _ h _=>h) (fun _ _ _=>lS _) ?_ ?_
  ·exact⟨_,_,_,_,_,_,_,_,_,rfl,.refl _⟩
  ·rintro j x σ G0 G hj ⟨z3,z4,z5,z6,z7,z8,z9,z10,z11,rfl,sG⟩ ⟨rfl,rfl⟩;have e2:(2:Int)+(0+(j:Nat))=((2+j:Nat):Int):=by omega
   refine⟨_,rfl,_,rfl,_,_,rfl,rfl,p,ns,2+j,by rw[e2];rfl,sG.seq hq4,fun n2=>⟨n2,rfl,fun G1 t s1 t0 st1=>?_⟩⟩;have er:∀r:Nat,(1:Int)+(r:Nat)=((1+r:Nat):Int):=fun r=>by omega
   refine⟨_,rfl,_,rfl,t,3,0,rfl,st1,by decide,by decide,by decide,fun G2 r x2 st2 hr=>⟨_,_,rfl,rfl,_,rfl,rfl,t,1,1+r,decide (V.int (0+(j:Nat))=V.int 1),by rw[er];rfl,by omega,by omega,st2,?_,fun G3 v tr x3 st3 at3 wt3 zp3 fw3=>?_⟩⟩
   ·have:=r6 (show 0<5 by decide) (show 1+r+1<=4 by omega);omega
   have q5:=r6 (show 0<5 by decide) (show 1+r+1<=4 by omega);have q3:=r6 (show 0<3 by decide) (show 1+r+1<=4 by omega);have q2:=r6 (show 0<2 by decide) (show 1+r<=3 by omega);refine⟨v,tr,1+r+1,rfl,at3,by omega,fun G4 cv s4 atc=>?_⟩;obtain⟨c1,c2,c3,c4,c5⟩:=zV _ _ at3.ok;have c3':psz (Yx tr)<=724726:=mC c3 (Bz_le (by omega));have cf:(Zw [] (post (Yx tr))).length<=261:=by have:=parts_few at3.ok;omega
   have ah:decide (V.int (0+(j:Nat))=V.int 1)=true->Ah (Yx tr):=fun z=>ah_core _ _ at3.ok (fw3 z);generalize Yx tr=ct at c1 c2 c3 c3' c4 c5 cf ah atc;have st4:=(st3.mono s4).le (show 1+5 ^ (1+r+1)<=626 by omega);obtain⟨o4,ho4⟩:=st4.lst;have u4:Zh G G4:=Uw s1 t0 (x2.trans (x3.trans (Zh.x s4)));refine⟨_,rfl,_,rfl,_,rfl,t,w,cv,626,_,d,ct,rfl,st4,by decide,(w4.mono sG).mono u4,n6,atc,c4,by omega,by omega,fun G5 sl st ss x5 so=>?_⟩;have u5:Zh G G5:=Uw u4 t0 x5;have okc:=atc.ok;have ask:Ask K a G5 w sl cv d ct st:=⟨(w4.mono sG).mono u5,n6,⟨_,atc.mono (Zq.tup x5 ho4)⟩,c4,c3',cf,⟨ss,so⟩⟩;have u5:=sG.trans u5;clear st4 ho4 u4 so atc c3 c5 wt3 zp3 fw3 at3 st3 st2 st1 q5 q3 q2 c1 c2 x5 x2 x3 s4 s1;have r5:=r4.mono u5;refine⟨_,rfl,_,rfl,_,rfl,_,rfl,w,rn,sl,cv,ct,d,st,way,ring,rfl,ask.rd r5 l100,fun G6 s6=>?_⟩;have u6:=u5.trans s6;refine⟨_,rfl,rn,_,_,_,rfl,rfl,SqT.of (u6 _ _ hrn),Zi (j:=0) rfl,.inl ⟨W,_,rfl,.inl (SqL.of (u6 _ _ hW)),?_⟩⟩;refine⟨_,rfl,rn,_,_,_,rfl,rfl,SqT.of (u6 _ _ hrn),Zi (j:=1) rfl,.inl ⟨GR,_,rfl,.inl (SqL.of (u6 _ _ hG)),?_⟩⟩;rw[lQ,lQ];refine⟨_,_,rfl,rfl,.inl ⟨by decide,by decide⟩,_,_,rfl,rfl,?_⟩;have em:((way.length:Nat):Int)+2*((ring.length:Nat):Int)=((way.length+2*ring.length:Nat):Int):=by omega
   rw[em];have lm:way.length+2*ring.length<=50000:=by omega
   generalize way.length+2*ring.length=many at lm;have ask6:=ask.mono s6;refine⟨_,rfl,_,rfl,_,rfl,_,rfl,_,rfl,w,rn,sl,cv,many,ct,d,st,way,ring,rfl,ask6.rd (r5.mono s6) l100,lm,fun G7 q s7 q0 hq7=>?_⟩;have u7:=u6.trans s7;refine⟨_,rfl,rn,d.signs.length,way,ring,rfl,r4.mono u7,l11,fun G8 L vs s8 hL lv al=>⟨L,rfl,⟨_,SqL.of hL⟩,?_⟩⟩;have u8:=u7.trans s8;have ask8:=ask6.mono (s7.trans s8);have hq8:=s8 _ _ hq7;refine X1 (J:=Itl K L) (n:=vs.length) (fun i σ F=>∃z10:Option V,σ=[some (.ref p),some (.ref w),some (.ref rn),some (.int (0+(j:Nat))),some (.ref t),some cv,some (.ref sl),some (.bl (Xq d st (Xk way ring) ct 0)),some (.int (many:Nat)),some (.ref q),z10,z11]/\Zh G8 F) ?_ ?_ ?_ ?_ ?_
   ·exact⟨_,rfl,.refl _⟩
   ·rintro i σ F hi ⟨z,rfl,sF⟩;exact⟨_,_,SqL.of (sF _ _ hL),lU hi⟩
   ·rintro σ F ⟨z,rfl,sF⟩;exact⟨_,SqL.of (sF _ _ hL),lS _⟩
   ·rintro i x σ F0 F hi ⟨z,rfl,sF⟩ ⟨rfl,hx⟩;have ex:=hx _ (SqL.of (sF _ _ hL));obtain⟨rn',way',ring',rfl,ra,er,la⟩:=al x (mM ex);have es:=yn (d:=d) (st:=st) er ct;have askF:=ask8.mono sF;refine⟨_,rfl,_,rfl,_,rfl,_,rfl,w,rn',sl,cv,ct,d,st,way',ring',rfl,askF.rd (ra.mono sF) la,fun F1 v1=>⟨_,rfl,rfl,_,rfl,Z1 (by rw[es]) ?_⟩⟩;refine⟨_,rfl,_,rfl,_,rfl,_,rfl,_,rfl,w,rn',sl,cv,many,ct,d,st,way',ring',rfl,(askF.mono v1).rd ((ra.mono sF).mono v1) la,lm,fun F2 q2 v2 q20 hq2=>⟨_,rfl,neD_no (fineB _) (by decide) (dpB hq2) (dpB (by rw[es];exact v2 _ _ (v1 _ _ (sF _ _ hq8)))) ⟨_,rfl,Yd ?_⟩⟩⟩;exact⟨_,rfl,sF.trans (v1.trans v2)⟩
   rintro σ F ⟨z,rfl,sF⟩;have uF:=u8.trans sF;have askF:=ask8.mono sF;clear al hL hq8 hq7 ask ask6 ask8;refine⟨_,rfl,rfl,_,rfl,WQ (fun c=>?_) (fun c=>?_)⟩
   ·have ahc:=ah c;have sh:=xU (d:=d) (st:=st) (w:=Xk way ring) _ _ okc c4 ahc;have sl1:1<=ring.length:=oY.mpr hne;refine⟨_,rfl,rn,_,_,_,rfl,rfl,SqT.of (uF _ _ hrn),Zi (j:=0) rfl,(1:Int),rfl,W,_,rfl,SqL.of (uF _ _ hW),fun A hA=>?_⟩;obtain⟨F1,qN,v1,e1⟩:=ZU (o:=.lst (W0 (way.map V.int) (some 1) none)) hA;rw[qN];clear qN;have u1:=uF.trans v1;refine⟨_,rfl,rn,_,_,_,rfl,rfl,SqT.of (u1 _ _ hrn),Zi (j:=1) rfl,sz2,fun T hT=>?_⟩;obtain⟨F2,qN,v2,e2⟩:=ZU (o:=.tup [.ref A,.ref GR]) hT;rw[qN];clear qN;have u2:=u1.trans v2;refine⟨_,rfl,rn,_,_,_,rfl,rfl,SqT.of (u2 _ _ hrn),Zi (j:=0) rfl,by decide,fun E hE=>?_⟩;obtain⟨F3,qN,v3,e3⟩:=ZU (o:=.lst []) hE;rw[qN];clear qN;have u3:=u2.trans v3;have ask3:=askF.mono (v1.trans (v2.trans v3));refine eqD_nil (u3 _ _ hW) e3 fun b hb'=>⟨_,rfl,WQ (fun cb=>?_) (fun cb=>?_)⟩
    ·have ew:=hb'.mp cb;subst ew;refine⟨_,rfl,rn,_,_,_,rfl,rfl,SqT.of (u3 _ _ hrn),Zi (j:=1) rfl,(1:Int),rfl,GR,_,rfl,SqL.of (u3 _ _ hG),fun B hB=>?_⟩;rw[show(1:Int)=((1:Nat):Int) from rfl,Xu _ _ (by rw[lQ];omega),<- pE];obtain⟨F4,qN,v4,e4⟩:=ZU (o:=.lst ((ring.drop 1).map V.int)) hB;rw[qN];clear qN;have u4:=u3.trans v4;refine⟨_,rfl,rn,_,_,_,rfl,rfl,SqT.of (u4 _ _ hrn),Zi (j:=1) rfl,sz2,fun T' hT'=>?_⟩;obtain⟨F5,qN,v5,e5⟩:=ZU (o:=.tup [.ref B,.ref GR]) hT';rw[qN];clear qN;have u5:=u4.trans v5;have ask5:=ask3.mono (v4.trans v5);have rr:Ua F5 T' d.signs.length (ring.drop 1) ring:=⟨⟨B,GR,e5,v5 _ _ e4,u5 _ _ hG⟩,hne,fun x hx=>hb x (by
      rcases ml.mp hx with hx|hx
      ·exact sv hx
      ·exact hx)⟩
     have hs:∀k,Xk (ring.drop 1) ring k=Xk [] ring (k+1):=fun k=>by
      obtain⟨y,rr,ey⟩:=sr hne;have h1:=vR (way:=[]) hne (k+1);rw[nM] at h1;rw[<- h1,ey];exact vt k
     refine⟨_,rfl,_,rfl,_,rfl,_,rfl,w,T',sl,cv,ct,d,st,_,ring,rfl,ask5.rd rr (by rw[lW,mL];simp at lap;omega),fun F6 v6=>⟨_,rfl,_,rfl,_,rfl,_,rfl,w,rn,sl,cv,2,ct,d,st,_,ring,rfl,(ask5.mono v6).rd (r4.mono (u5.trans v6)) l100,by decide,fun F7 q7 v7 q70 hq7=>⟨q7,_,_,_,rfl,rfl,SqL.of hq7,Zi (j:=1) rfl,rfl,_,rfl,Z1 ?_ ?_⟩⟩⟩
     ·rw[yn hs ct,sh 0]
     ·exact⟨_,_,_,_,_,_,_,_,_,rfl,u5.trans (v6.trans v7)⟩
    ·obtain⟨x,wr,ew⟩:=sr fun z=>cb (hb'.mpr z);subst ew;have ec:W0 ((x::wr).map V.int) (some 1) none=wr.map V.int:=by
      rw[show(1:Int)=((1:Nat):Int) from rfl,Xu _ _ (by rw[lQ];simp),<- pE];rfl
     rw[ec] at e1;have rr:Ua F3 T d.signs.length wr ring:=⟨⟨A,GR,v3 _ _ e2,v3 _ _ (v2 _ _ e1),u3 _ _ hG⟩,hne,fun x hx=>hb x (mi _ hx)⟩;have hs:∀k,Xk wr ring k=Xk (x::wr) ring (k+1):=fun k=>vt k;refine⟨_,rfl,_,rfl,_,rfl,_,rfl,w,T,sl,cv,ct,d,st,wr,ring,rfl,ask3.rd rr (by rw[lW];simp at lap;omega),fun F6 v6=>⟨_,rfl,_,rfl,_,rfl,_,rfl,w,rn,sl,cv,2,ct,d,st,_,ring,rfl,(ask3.mono v6).rd (r4.mono (u3.trans v6)) l100,by decide,fun F7 q7 v7 q70 hq7=>⟨q7,_,_,_,rfl,rfl,SqL.of hq7,Zi (j:=1) rfl,rfl,_,rfl,Z1 ?_ ?_⟩⟩⟩
     ·rw[yn hs ct,sh 0]
     ·exact⟨_,_,_,_,_,_,_,_,_,rfl,u3.trans (v6.trans v7)⟩
   ·exact⟨_,_,_,_,_,_,_,_,_,rfl,uF⟩
  rintro σ G ⟨z3,z4,z5,z6,z7,z8,z9,z10,z11,rfl,sG⟩;exact k _
theorem ar1{α:Type}{P:List α->Prop}(h:∀a,P [a]):∀us:List α,us.length=1->P us
 |[a],_=>h a
theorem ar2{α:Type}{P:List α->Prop}(h:∀a b,P [a,b]):∀us:List α,us.length=2->P us
 |[a,b],_=>h a b
theorem ar3{α:Type}{P:List α->Prop}(h:∀a b c,P [a,b,c]):∀us:List α,us.length=3->P us
 |[a,b,c],_=>h a b c
theorem ar4{α:Type}{P:List α->Prop}(h:∀a b c d,P [a,b,c,d]):∀us:List α,us.length=4->P us
 |[a,b,c,d],_=>h a b c d
theorem ar5{α:Type}{P:List α->Prop}(h:∀a b c d e,P [a,b,c,d,e]):∀us:List α,us.length=5->P us
 |[a,b,c,d,e],_=>h a b c d e
def spL(K:W.Frag):Sp:=fun vs H Q _=>∃(p:Addr) (ns:List Int),vs=[.ref p]/\SqL K H p (ns.map V.int)/\ns.length<=63/\∀H',Q (.bl true) H'
theorem all_mk{l:W.OpenLaw}{w:World}{K:W.Frag}{h:Heap}{mg:Str->Option Value}{fa:Addr}(X:K.In h)(G:h.Ns mainGlobals mg)(hfa:mg "law" = some (.ref fa))
  {f0 f1 f2 f3 f4 f5 f6 f7 f8 f9 f10 f11 f12 f13 f14 f15 f16 f17 f18 f19 f20 f21 f22 f23 f24 f25 f26 f27 f28 f29 f30 f31 f32 f33 f34 f35 f36 f37 f38 f39 f40 f41 f42 f43 f44 f45 f46 f47 f48 f49 f50 f51 f52 f53:Addr}
  {C_Table C_World C_TimeError C_BadWorld C_BadSentence:Addr}
  {od0 an0 od1 an1 od2 an2 od3 an3 od4 an4 od5 an5 od6 an6 od7 an7 od8 an8 od9 an9 od10 an10 od11 an11 od12 an12 od13 an13 od14 an14 od15 an15 od16 an16 od17 an17 od18 an18 od19 an19 od20 an20 od21 an21 od22 an22 od23 an23 od24 an24 od25 an25 od26 an26 od27 an27 od28 an28 od29 an29 od30 an30 od31 an31 od32 an32 od33 an33 od34 an34 od35 an35 od36 an36 od37 an37 od38 an38 od39 an39 od40 an40 od41 an41 od42 an42 od43 an43 od44 an44 od45 an45 od46 an46 od47 an47 od48 an48 od49 an49 od50 an50 od51 an51 od52 an52 od53 an53:Option Addr}
  {sl0 sl1 sl2 sl3 sl4 sl5 sl6 sl7 sl8 sl9 sl10 sl11 sl12 sl13 sl14 sl15 sl16 sl17 sl18 sl19 sl20 sl21 sl22 sl23 sl24 sl25 sl26 sl27 sl28 sl29 sl30 sl31 sl32 sl33 sl34 sl35 sl36 sl37 sl38 sl39 sl40 sl41 sl42 sl43 sl44 sl45 sl46 sl47 sl48 sl49 sl50 sl51 sl52 sl53:Array (Option Value)}
  {oc0 kV0 dc0 pm0 cd0 ct0 oc1 kV1 dc1 pm1 cd1 ct1 oc2 kV2 dc2 pm2 cd2 ct2 oc3 kV3 dc3 pm3 cd3 ct3 oc4 kV4 dc4 pm4 cd4 ct4 oc5 kV5 dc5 pm5 cd5 ct5 oc6 kV6 dc6 pm6 cd6 ct6 oc7 kV7 dc7 pm7 cd7 ct7 oc8 kV8 dc8 pm8 cd8 ct8 oc9 kV9 dc9 pm9 cd9 ct9 oc10 kV10 dc10 pm10 cd10 ct10 oc11 kV11 dc11 pm11 cd11 ct11 oc12 kV12 dc12 pm12 cd12 ct12 oc13 kV13 dc13 pm13 cd13 ct13 oc14 kV14 dc14 pm14 cd14 ct14 oc15 kV15 dc15 pm15 cd15 ct15 oc16 kV16 dc16 pm16 cd16 ct16 oc17 kV17 dc17 pm17 cd17 ct17 oc18 kV18 dc18 pm18 cd18 ct18 oc19 kV19 dc19 pm19 cd19 ct19 oc20 kV20 dc20 pm20 cd20 ct20 oc21 kV21 dc21 pm21 cd21 ct21 oc22 kV22 dc22 pm22 cd22 ct22 oc23 kV23 dc23 pm23 cd23 ct23 oc24 kV24 dc24 pm24 cd24 ct24 oc25 kV25 dc25 pm25 cd25 ct25 oc26 kV26 dc26 pm26 cd26 ct26 oc27 kV27 dc27 pm27 cd27 ct27 oc28 kV28 dc28 pm28 cd28 ct28 oc29 kV29 dc29 pm29 cd29 ct29 oc30 kV30 dc30 pm30 cd30 ct30 oc31 kV31 dc31 pm31 cd31 ct31 oc32 kV32 dc32 pm32 cd32 ct32 oc33 kV33 dc33 pm33 cd33 ct33 oc34 kV34 dc34 pm34 cd34 ct34 oc35 kV35 dc35 pm35 cd35 ct35 oc36 kV36 dc36 pm36 cd36 ct36 oc37 kV37 dc37 pm37 cd37 ct37 oc38 kV38 dc38 pm38 cd38 ct38 oc39 kV39 dc39 pm39 cd39 ct39 oc40 kV40 dc40 pm40 cd40 ct40 oc41 kV41 dc41 pm41 cd41 ct41 oc42 kV42 dc42 pm42 cd42 ct42 oc43 kV43 dc43 pm43 cd43 ct43 oc44 kV44 dc44 pm44 cd44 ct44 oc45 kV45 dc45 pm45 cd45 ct45 oc46 kV46 dc46 pm46 cd46 ct46 oc47 kV47 dc47 pm47 cd47 ct47 oc48 kV48 dc48 pm48 cd48 ct48 oc49 kV49 dc49 pm49 cd49 ct49 oc50 kV50 dc50 pm50 cd50 ct50 oc51 kV51 dc51 pm51 cd51 ct51 oc52 kV52 dc52 pm52 cd52 ct52 oc53 kV53 dc53 pm53 cd53 ct53:Value}
  {D_LENGTHS:Addr}{es_LENGTHS:Array DictEntry}{nn_LENGTHS:Nat}{dt_LENGTHS_0 dt_LENGTHS_1 dt_LENGTHS_2 dt_LENGTHS_3 dt_LENGTHS_4 dt_LENGTHS_5 dt_LENGTHS_6 dt_LENGTHS_7 dt_LENGTHS_8 dt_LENGTHS_9 dt_LENGTHS_10:Tok}
  {D_LINES:Addr}{es_LINES:Array DictEntry}{nn_LINES:Nat}
  {tk_LETTERS tk_MOST_LETTERS tk_MOST_WITHIN tk_MOST_ROOMS tk_MOST_FAIR:Tok}
  {Y_YES:Addr}{yd_YES:Option Addr}{yl_YES:Array (Option Value)}{yn_YES:Nat}{yt_YES_0:Tok}
  (v54:W.nsIn K mainGlobals "Table" = some (some (.ref C_Table)))
  (v55:W.nsIn K mainGlobals "World" = some (some (.ref C_World)))
  (v16:W.nsIn K mainGlobals "TimeError" = some (some (.ref C_TimeError)))
  (v29:W.nsIn K mainGlobals "BadWorld" = some (some (.ref C_BadWorld)))
  (v11:W.nsIn K mainGlobals "BadSentence" = some (some (.ref C_BadSentence)))
  (a0:W.nsIn K mainGlobals "is_whole" = some (some (.ref f0)))
  (l0:K.lookup f0=some ⟨oc0,od0,.func (W.fnOf "is_whole" "is_whole" (Zr X9) (Zo X9) (Zc X9) .none kV0 dc0 pm0 an0 cd0 ct0),sl0⟩)
  (c0:W.codeIn K cd0 "is_whole" = true)
  (k0:W.keepIn K (.ref f0)=true)
  (a1:W.nsIn K mainGlobals "is_name" = some (some (.ref f1)))
  (l1:K.lookup f1=some ⟨oc1,od1,.func (W.fnOf "is_name" "is_name" (Zr Wg) (Zo Wg) (Zc Wg) .none kV1 dc1 pm1 an1 cd1 ct1),sl1⟩)
  (c1:W.codeIn K cd1 "is_name" = true)
  (k1:W.keepIn K (.ref f1)=true)
  (a2:W.nsIn K mainGlobals "is_room" = some (some (.ref f2)))
  (l2:K.lookup f2=some ⟨oc2,od2,.func (W.fnOf "is_room" "is_room" (Zr Ww) (Zo Ww) (Zc Ww) .none kV2 dc2 pm2 an2 cd2 ct2),sl2⟩)
  (c2:W.codeIn K cd2 "is_room" = true)
  (k2:W.keepIn K (.ref f2)=true)
  (a3:W.nsIn K mainGlobals "are_names" = some (some (.ref f3)))
  (l3:K.lookup f3=some ⟨oc3,od3,.func (W.fnOf "are_names" "are_names" (Zr Y8) (Zo Y8) (Zc Y8) .none kV3 dc3 pm3 an3 cd3 ct3),sl3⟩)
  (c3:W.codeIn K cd3 "are_names" = true)
  (k3:W.keepIn K (.ref f3)=true)
  (a4:W.nsIn K mainGlobals "are_rooms" = some (some (.ref f4)))
  (l4:K.lookup f4=some ⟨oc4,od4,.func (W.fnOf "are_rooms" "are_rooms" (Zr Y7) (Zo Y7) (Zc Y7) .none kV4 dc4 pm4 an4 cd4 ct4),sl4⟩)
  (c4:W.codeIn K cd4 "are_rooms" = true)
  (k4:W.keepIn K (.ref f4)=true)
  (a5:W.nsIn K mainGlobals "last_ones" = some (some (.ref f5)))
  (l5:K.lookup f5=some ⟨oc5,od5,.func (W.fnOf "last_ones" "last_ones" (Zr XM) (Zo XM) (Zc XM) .none kV5 dc5 pm5 an5 cd5 ct5),sl5⟩)
  (c5:W.codeIn K cd5 "last_ones" = true)
  (k5:W.keepIn K (.ref f5)=true)
  (a6:W.nsIn K mainGlobals "is_formed" = some (some (.ref f6)))
  (l6:K.lookup f6=some ⟨oc6,od6,.func (W.fnOf "is_formed" "is_formed" (Zr XH) (Zo XH) (Zc XH) .none kV6 dc6 pm6 an6 cd6 ct6),sl6⟩)
  (c6:W.codeIn K cd6 "is_formed" = true)
  (k6:W.keepIn K (.ref f6)=true)
  (a7:W.nsIn K mainGlobals "inner_of" = some (some (.ref f7)))
  (l7:K.lookup f7=some ⟨oc7,od7,.func (W.fnOf "inner_of" "inner_of" (Zr X6) (Zo X6) (Zc X6) .none kV7 dc7 pm7 an7 cd7 ct7),sl7⟩)
  (c7:W.codeIn K cd7 "inner_of" = true)
  (k7:W.keepIn K (.ref f7)=true)
  (a8:W.nsIn K mainGlobals "inner_ahead" = some (some (.ref f8)))
  (l8:K.lookup f8=some ⟨oc8,od8,.func (W.fnOf "inner_ahead" "inner_ahead" (Zr YX) (Zo YX) (Zc YX) .none kV8 dc8 pm8 an8 cd8 ct8),sl8⟩)
  (c8:W.codeIn K cd8 "inner_ahead" = true)
  (k8:W.keepIn K (.ref f8)=true)
  (a9:W.nsIn K mainGlobals "core_of" = some (some (.ref f9)))
  (l9:K.lookup f9=some ⟨oc9,od9,.func (W.fnOf "core_of" "core_of" (Zr WB) (Zo WB) (Zc WB) .none kV9 dc9 pm9 an9 cd9 ct9),sl9⟩)
  (c9:W.codeIn K cd9 "core_of" = true)
  (k9:W.keepIn K (.ref f9)=true)
  (a10:W.nsIn K mainGlobals "core_with" = some (some (.ref f10)))
  (l10:K.lookup f10=some ⟨oc10,od10,.func (W.fnOf "core_with" "core_with" (Zr XG) (Zo XG) (Zc XG) .none kV10 dc10 pm10 an10 cd10 ct10),sl10⟩)
  (c10:W.codeIn K cd10 "core_with" = true)
  (k10:W.keepIn K (.ref f10)=true)
  (a11:W.nsIn K mainGlobals "and_of" = some (some (.ref f11)))
  (l11:K.lookup f11=some ⟨oc11,od11,.func (W.fnOf "and_of" "and_of" (Zr Vk) (Zo Vk) (Zc Vk) .none kV11 dc11 pm11 an11 cd11 ct11),sl11⟩)
  (c11:W.codeIn K cd11 "and_of" = true)
  (k11:W.keepIn K (.ref f11)=true)
  (a12:W.nsIn K mainGlobals "or_of" = some (some (.ref f12)))
  (l12:K.lookup f12=some ⟨oc12,od12,.func (W.fnOf "or_of" "or_of" (Zr VZ) (Zo VZ) (Zc VZ) .none kV12 dc12 pm12 an12 cd12 ct12),sl12⟩)
  (c12:W.codeIn K cd12 "or_of" = true)
  (k12:W.keepIn K (.ref f12)=true)
  (a13:W.nsIn K mainGlobals "within_of" = some (some (.ref f13)))
  (l13:K.lookup f13=some ⟨oc13,od13,.func (W.fnOf "within_of" "within_of" (Zr XO) (Zo XO) (Zc XO) .none kV13 dc13 pm13 an13 cd13 ct13),sl13⟩)
  (c13:W.codeIn K cd13 "within_of" = true)
  (k13:W.keepIn K (.ref f13)=true)
  (a14:W.nsIn K mainGlobals "row_with" = some (some (.ref f14)))
  (l14:K.lookup f14=some ⟨oc14,od14,.func (W.fnOf "row_with" "row_with" (Zr X7) (Zo X7) (Zc X7) .none kV14 dc14 pm14 an14 cd14 ct14),sl14⟩)
  (c14:W.codeIn K cd14 "row_with" = true)
  (k14:W.keepIn K (.ref f14)=true)
  (a15:W.findIn K (.ref C_Table) "__init__" = some (some (.ref f15)))
  (i15:W.isFn K (.ref f15)=true)
  (l15:K.lookup f15=some ⟨oc15,od15,.func (W.fnOf "__init__" "Table.__init__" (Zr Xi) (Zo Xi) (Zc Xi) .none kV15 dc15 pm15 an15 cd15 ct15),sl15⟩)
  (c15:W.codeIn K cd15 "Table.__init__" = true)
  (k15:W.keepIn K (.ref f15)=true)
  (a16:W.findIn K (.ref C_Table) "number_of" = some (some (.ref f16)))
  (i16:W.isFn K (.ref f16)=true)
  (l16:K.lookup f16=some ⟨oc16,od16,.func (W.fnOf "number_of" "Table.number_of" (Zr Yi) (Zo Yi) (Zc Yi) .none kV16 dc16 pm16 an16 cd16 ct16),sl16⟩)
  (c16:W.codeIn K cd16 "Table.number_of" = true)
  (k16:W.keepIn K (.ref f16)=true)
  (a17:W.findIn K (.ref C_Table) "taken_in" = some (some (.ref f17)))
  (i17:W.isFn K (.ref f17)=true)
  (l17:K.lookup f17=some ⟨oc17,od17,.func (W.fnOf "taken_in" "Table.taken_in" (Zr Yq) (Zo Yq) (Zc Yq) .none kV17 dc17 pm17 an17 cd17 ct17),sl17⟩)
  (c17:W.codeIn K cd17 "Table.taken_in" = true)
  (k17:W.keepIn K (.ref f17)=true)
  (a18:W.findIn K (.ref C_Table) "inner_numbers" = some (some (.ref f18)))
  (i18:W.isFn K (.ref f18)=true)
  (l18:K.lookup f18=some ⟨oc18,od18,.func (W.fnOf "inner_numbers" "Table.inner_numbers" (Zr ZN) (Zo ZN) (Zc ZN) .none kV18 dc18 pm18 an18 cd18 ct18),sl18⟩)
  (c18:W.codeIn K cd18 "Table.inner_numbers" = true)
  (k18:W.keepIn K (.ref f18)=true)
  (a19:W.nsIn K mainGlobals "below" = some (some (.ref f19)))
  (l19:K.lookup f19=some ⟨oc19,od19,.func (W.fnOf "below" "below" (Zr V7) (Zo V7) (Zc V7) .none kV19 dc19 pm19 an19 cd19 ct19),sl19⟩)
  (c19:W.codeIn K cd19 "below" = true)
  (k19:W.keepIn K (.ref f19)=true)
  (a20:W.nsIn K mainGlobals "inner_parts" = some (some (.ref f20)))
  (l20:K.lookup f20=some ⟨oc20,od20,.func (W.fnOf "inner_parts" "inner_parts" (Zr YI) (Zo YI) (Zc YI) .none kV20 dc20 pm20 an20 cd20 ct20),sl20⟩)
  (c20:W.codeIn K cd20 "inner_parts" = true)
  (k20:W.keepIn K (.ref f20)=true)
  (a21:W.nsIn K mainGlobals "read" = some (some (.ref f21)))
  (l21:K.lookup f21=some ⟨oc21,od21,.func (W.fnOf "read" "read" (Zr UU) (Zo UU) (Zc UU) .none kV21 dc21 pm21 an21 cd21 ct21),sl21⟩)
  (c21:W.codeIn K cd21 "read" = true)
  (k21:W.keepIn K (.ref f21)=true)
  (a22:W.nsIn K mainGlobals "read_along" = some (some (.ref f22)))
  (l22:K.lookup f22=some ⟨oc22,od22,.func (W.fnOf "read_along" "read_along" (Zr Xg) (Zo Xg) (Zc Xg) .none kV22 dc22 pm22 an22 cd22 ct22),sl22⟩)
  (c22:W.codeIn K cd22 "read_along" = true)
  (k22:W.keepIn K (.ref f22)=true)
  (a23:W.nsIn K mainGlobals "ground_of" = some (some (.ref f23)))
  (l23:K.lookup f23=some ⟨oc23,od23,.func (W.fnOf "ground_of" "ground_of" (Zr XD) (Zo XD) (Zc XD) .none kV23 dc23 pm23 an23 cd23 ct23),sl23⟩)
  (c23:W.codeIn K cd23 "ground_of" = true)
  (k23:W.keepIn K (.ref f23)=true)
  (a24:W.nsIn K mainGlobals "told_sets" = some (some (.ref f24)))
  (l24:K.lookup f24=some ⟨oc24,od24,.func (W.fnOf "told_sets" "told_sets" (Zr Y5) (Zo Y5) (Zc Y5) .none kV24 dc24 pm24 an24 cd24 ct24),sl24⟩)
  (c24:W.codeIn K cd24 "told_sets" = true)
  (k24:W.keepIn K (.ref f24)=true)
  (a25:W.nsIn K mainGlobals "ground_rows" = some (some (.ref f25)))
  (l25:K.lookup f25=some ⟨oc25,od25,.func (W.fnOf "ground_rows" "ground_rows" (Zr YG) (Zo YG) (Zc YG) .none kV25 dc25 pm25 an25 cd25 ct25),sl25⟩)
  (c25:W.codeIn K cd25 "ground_rows" = true)
  (k25:W.keepIn K (.ref f25)=true)
  (a26:W.nsIn K mainGlobals "room_truths" = some (some (.ref f26)))
  (l26:K.lookup f26=some ⟨oc26,od26,.func (W.fnOf "room_truths" "room_truths" (Zr Yg) (Zo Yg) (Zc Yg) .none kV26 dc26 pm26 an26 cd26 ct26),sl26⟩)
  (c26:W.codeIn K cd26 "room_truths" = true)
  (k26:W.keepIn K (.ref f26)=true)
  (a27:W.nsIn K mainGlobals "read_rows" = some (some (.ref f27)))
  (l27:K.lookup f27=some ⟨oc27,od27,.func (W.fnOf "read_rows" "read_rows" (Zr YU) (Zo YU) (Zc YU) .none kV27 dc27 pm27 an27 cd27 ct27),sl27⟩)
  (c27:W.codeIn K cd27 "read_rows" = true)
  (k27:W.keepIn K (.ref f27)=true)
  (a28:W.nsIn K mainGlobals "trimmed" = some (some (.ref f28)))
  (l28:K.lookup f28=some ⟨oc28,od28,.func (W.fnOf "trimmed" "trimmed" (Zr WF) (Zo WF) (Zc WF) .none kV28 dc28 pm28 an28 cd28 ct28),sl28⟩)
  (c28:W.codeIn K cd28 "trimmed" = true)
  (k28:W.keepIn K (.ref f28)=true)
  (a29:W.nsIn K mainGlobals "stretched" = some (some (.ref f29)))
  (l29:K.lookup f29=some ⟨oc29,od29,.func (W.fnOf "stretched" "stretched" (Zr XJ) (Zo XJ) (Zc XJ) .none kV29 dc29 pm29 an29 cd29 ct29),sl29⟩)
  (c29:W.codeIn K cd29 "stretched" = true)
  (k29:W.keepIn K (.ref f29)=true)
  (a30:W.nsIn K mainGlobals "stretched_both" = some (some (.ref f30)))
  (l30:K.lookup f30=some ⟨oc30,od30,.func (W.fnOf "stretched_both" "stretched_both" (Zr Yp) (Zo Yp) (Zc Yp) .none kV30 dc30 pm30 an30 cd30 ct30),sl30⟩)
  (c30:W.codeIn K cd30 "stretched_both" = true)
  (k30:W.keepIn K (.ref f30)=true)
  (a31:W.nsIn K mainGlobals "not_line" = some (some (.ref f31)))
  (l31:K.lookup f31=some ⟨oc31,od31,.func (W.fnOf "not_line" "not_line" (Zr XB) (Zo XB) (Zc XB) .none kV31 dc31 pm31 an31 cd31 ct31),sl31⟩)
  (c31:W.codeIn K cd31 "not_line" = true)
  (k31:W.keepIn K (.ref f31)=true)
  (a32:W.nsIn K mainGlobals "and_line" = some (some (.ref f32)))
  (l32:K.lookup f32=some ⟨oc32,od32,.func (W.fnOf "and_line" "and_line" (Zr XA) (Zo XA) (Zc XA) .none kV32 dc32 pm32 an32 cd32 ct32),sl32⟩)
  (c32:W.codeIn K cd32 "and_line" = true)
  (k32:W.keepIn K (.ref f32)=true)
  (a33:W.nsIn K mainGlobals "next_line" = some (some (.ref f33)))
  (l33:K.lookup f33=some ⟨oc33,od33,.func (W.fnOf "next_line" "next_line" (Zr XL) (Zo XL) (Zc XL) .none kV33 dc33 pm33 an33 cd33 ct33),sl33⟩)
  (c33:W.codeIn K cd33 "next_line" = true)
  (k33:W.keepIn K (.ref f33)=true)
  (a34:W.nsIn K mainGlobals "until_line" = some (some (.ref f34)))
  (l34:K.lookup f34=some ⟨oc34,od34,.func (W.fnOf "until_line" "until_line" (Zr Xh) (Zo Xh) (Zc Xh) .none kV34 dc34 pm34 an34 cd34 ct34),sl34⟩)
  (c34:W.codeIn K cd34 "until_line" = true)
  (k34:W.keepIn K (.ref f34)=true)
  (a35:W.nsIn K mainGlobals "before_line" = some (some (.ref f35)))
  (l35:K.lookup f35=some ⟨oc35,od35,.func (W.fnOf "before_line" "before_line" (Zr YZ) (Zo YZ) (Zc YZ) .none kV35 dc35 pm35 an35 cd35 ct35),sl35⟩)
  (c35:W.codeIn K cd35 "before_line" = true)
  (k35:W.keepIn K (.ref f35)=true)
  (a36:W.nsIn K mainGlobals "since_line" = some (some (.ref f36)))
  (l36:K.lookup f36=some ⟨oc36,od36,.func (W.fnOf "since_line" "since_line" (Zr Xf) (Zo Xf) (Zc Xf) .none kV36 dc36 pm36 an36 cd36 ct36),sl36⟩)
  (c36:W.codeIn K cd36 "since_line" = true)
  (k36:W.keepIn K (.ref f36)=true)
  (a37:W.findIn K (.ref C_World) "__init__" = some (some (.ref f37)))
  (i37:W.isFn K (.ref f37)=true)
  (l37:K.lookup f37=some ⟨oc37,od37,.func (W.fnOf "__init__" "World.__init__" (Zr YD) (Zo YD) (Zc YD) .none kV37 dc37 pm37 an37 cd37 ct37),sl37⟩)
  (c37:W.codeIn K cd37 "World.__init__" = true)
  (k37:W.keepIn K (.ref f37)=true)
  (a38:W.findIn K (.ref C_World) "many" = some (some (.ref f38)))
  (i38:W.isFn K (.ref f38)=true)
  (l38:K.lookup f38=some ⟨oc38,od38,.func (W.fnOf "many" "World.many" (Zr Xc) (Zo Xc) (Zc Xc) .none kV38 dc38 pm38 an38 cd38 ct38),sl38⟩)
  (c38:W.codeIn K cd38 "World.many" = true)
  (k38:W.keepIn K (.ref f38)=true)
  (a39:W.findIn K (.ref C_World) "signs_of" = some (some (.ref f39)))
  (i39:W.isFn K (.ref f39)=true)
  (l39:K.lookup f39=some ⟨oc39,od39,.func (W.fnOf "signs_of" "World.signs_of" (Zr Yr) (Zo Yr) (Zc Yr) .none kV39 dc39 pm39 an39 cd39 ct39),sl39⟩)
  (c39:W.codeIn K cd39 "World.signs_of" = true)
  (k39:W.keepIn K (.ref f39)=true)
  (a40:W.findIn K (.ref C_World) "ways_on" = some (some (.ref f40)))
  (i40:W.isFn K (.ref f40)=true)
  (l40:K.lookup f40=some ⟨oc40,od40,.func (W.fnOf "ways_on" "World.ways_on" (Zr Yy) (Zo Yy) (Zc Yy) .none kV40 dc40 pm40 an40 cd40 ct40),sl40⟩)
  (c40:W.codeIn K cd40 "World.ways_on" = true)
  (k40:W.keepIn K (.ref f40)=true)
  (a41:W.findIn K (.ref C_World) "begins" = some (some (.ref f41)))
  (i41:W.isFn K (.ref f41)=true)
  (l41:K.lookup f41=some ⟨oc41,od41,.func (W.fnOf "begins" "World.begins" (Zr YM) (Zo YM) (Zc YM) .none kV41 dc41 pm41 an41 cd41 ct41),sl41⟩)
  (c41:W.codeIn K cd41 "World.begins" = true)
  (k41:W.keepIn K (.ref f41)=true)
  (a42:W.findIn K (.ref C_World) "fair_signs" = some (some (.ref f42)))
  (i42:W.isFn K (.ref f42)=true)
  (l42:K.lookup f42=some ⟨oc42,od42,.func (W.fnOf "fair_signs" "World.fair_signs" (Zr Z8) (Zo Z8) (Zc Z8) .none kV42 dc42 pm42 an42 cd42 ct42),sl42⟩)
  (c42:W.codeIn K cd42 "World.fair_signs" = true)
  (k42:W.keepIn K (.ref f42)=true)
  (a43:W.nsIn K mainGlobals "makes_world" = some (some (.ref f43)))
  (l43:K.lookup f43=some ⟨oc43,od43,.func (W.fnOf "makes_world" "makes_world" (Zr Yt) (Zo Yt) (Zc Yt) .none kV43 dc43 pm43 an43 cd43 ct43),sl43⟩)
  (c43:W.codeIn K cd43 "makes_world" = true)
  (k43:W.keepIn K (.ref f43)=true)
  (a44:W.nsIn K mainGlobals "are_some_rooms" = some (some (.ref f44)))
  (l44:K.lookup f44=some ⟨oc44,od44,.func (W.fnOf "are_some_rooms" "are_some_rooms" (Zr Ys) (Zo Ys) (Zc Ys) .none kV44 dc44 pm44 an44 cd44 ct44),sl44⟩)
  (c44:W.codeIn K cd44 "are_some_rooms" = true)
  (k44:W.keepIn K (.ref f44)=true)
  (a45:W.nsIn K mainGlobals "_law_cell_at" = some (some (.ref f45)))
  (l45:K.lookup f45=some ⟨oc45,od45,.func (W.fnOf "_law_cell_at" "_law_cell_at" (Zr YJ) (Zo YJ) (Zc YJ) .none kV45 dc45 pm45 an45 cd45 ct45),sl45⟩)
  (c45:W.codeIn K cd45 "_law_cell_at" = true)
  (k45:W.keepIn K (.ref f45)=true)
  (a46:W.nsIn K mainGlobals "_law_state" = some (some (.ref f46)))
  (l46:K.lookup f46=some ⟨oc46,od46,.func (W.fnOf "_law_state" "_law_state" (Zr Xe) (Zo Xe) (Zc Xe) .none kV46 dc46 pm46 an46 cd46 ct46),sl46⟩)
  (c46:W.codeIn K cd46 "_law_state" = true)
  (k46:W.keepIn K (.ref f46)=true)
  (a47:W.nsIn K mainGlobals "_law_digit" = some (some (.ref f47)))
  (l47:K.lookup f47=some ⟨oc47,od47,.func (W.fnOf "_law_digit" "_law_digit" (Zr Xa) (Zo Xa) (Zc Xa) .none kV47 dc47 pm47 an47 cd47 ct47),sl47⟩)
  (c47:W.codeIn K cd47 "_law_digit" = true)
  (k47:W.keepIn K (.ref f47)=true)
  (a48:W.nsIn K mainGlobals "_law_world" = some (some (.ref f48)))
  (l48:K.lookup f48=some ⟨oc48,od48,.func (W.fnOf "_law_world" "_law_world" (Zr YF) (Zo YF) (Zc YF) .none kV48 dc48 pm48 an48 cd48 ct48),sl48⟩)
  (c48:W.codeIn K cd48 "_law_world" = true)
  (k48:W.keepIn K (.ref f48)=true)
  (a49:W.nsIn K mainGlobals "_law_run" = some (some (.ref f49)))
  (l49:K.lookup f49=some ⟨oc49,od49,.func (W.fnOf "_law_run" "_law_run" (Zr Xj) (Zo Xj) (Zc Xj) .none kV49 dc49 pm49 an49 cd49 ct49),sl49⟩)
  (c49:W.codeIn K cd49 "_law_run" = true)
  (k49:W.keepIn K (.ref f49)=true)
  (a50:W.nsIn K mainGlobals "_law_sentence" = some (some (.ref f50)))
  (l50:K.lookup f50=some ⟨oc50,od50,.func (W.fnOf "_law_sentence" "_law_sentence" (Zr Yz) (Zo Yz) (Zc Yz) .none kV50 dc50 pm50 an50 cd50 ct50),sl50⟩)
  (c50:W.codeIn K cd50 "_law_sentence" = true)
  (k50:W.keepIn K (.ref f50)=true)
  (a51:W.nsIn K mainGlobals "_law_sets" = some (some (.ref f51)))
  (l51:K.lookup f51=some ⟨oc51,od51,.func (W.fnOf "_law_sets" "_law_sets" (Zr Y9) (Zo Y9) (Zc Y9) .none kV51 dc51 pm51 an51 cd51 ct51),sl51⟩)
  (c51:W.codeIn K cd51 "_law_sets" = true)
  (k51:W.keepIn K (.ref f51)=true)
  (a52:W.nsIn K mainGlobals "_law_others" = some (some (.ref f52)))
  (l52:K.lookup f52=some ⟨oc52,od52,.func (W.fnOf "_law_others" "_law_others" (Zr YY) (Zo YY) (Zc YY) .none kV52 dc52 pm52 an52 cd52 ct52),sl52⟩)
  (c52:W.codeIn K cd52 "_law_others" = true)
  (k52:W.keepIn K (.ref f52)=true)
  (a53:W.nsIn K mainGlobals "law" = some (some (.ref f53)))
  (l53:K.lookup f53=some ⟨oc53,od53,.func (W.fnOf "law" "law" (Zr yI) (Zo yI) (Zc yI) .none kV53 dc53 pm53 an53 cd53 ct53),sl53⟩)
  (c53:W.codeIn K cd53 "law" = true)
  (k53:W.keepIn K (.ref f53)=true)
  (v56:W.plainGet K C_Table Str.empty=true)
  (v57:W.hasDictIn K C_Table=true)
  (v58:W.plainOver K C_Table=true)
  (v59:W.findIn K (.ref C_Table) "__setattr__" = some (some (.builtin "object.__setattr__")))
  (v60:W.makesIn K C_Table=true)
  (v61:W.keepIn K (.ref C_Table)=true)
  (v14:W.findIn K (.ref C_Table) "parts" = some none)
  (v17:W.findIn K (.ref C_Table) "rows" = some none)
  (v4:W.findIn K (.ref C_Table) "numbers" = some none)
  (v62:W.plainGet K C_World Str.empty=true)
  (v63:W.hasDictIn K C_World=true)
  (v64:W.plainOver K C_World=true)
  (v65:W.findIn K (.ref C_World) "__setattr__" = some (some (.builtin "object.__setattr__")))
  (v66:W.makesIn K C_World=true)
  (v67:W.keepIn K (.ref C_World)=true)
  (v1:W.findIn K (.ref C_World) "room_signs" = some none)
  (v3:W.findIn K (.ref C_World) "room_ways" = some none)
  (v0:W.findIn K (.ref C_World) "start_rooms" = some none)
  (v2:W.findIn K (.ref C_World) "fair_names" = some none)
  (v18:W.nsIn K mainGlobals "ValueError" = some none)
  (v81:W.nsIn K mainGlobals "all" = some none)
  (v42:W.nsIn K mainGlobals "reversed" = some none)
  (v74:W.nsIn K mainGlobals "range" = some none)
  (v75:W.nsIn K mainGlobals "tuple" = some none)
  (v82:W.nsIn K mainGlobals "len" = some none)
  (v77:W.nsIn K mainGlobals "list" = some none)
  (v19:W.nsIn K mainGlobals "isinstance" = some none)
  (v83:W.nsIn K mainGlobals "int" = some none)
  (v84:W.nsIn K mainGlobals "set" = some none)
  (v85:W.nsIn K mainGlobals "max" = some none)
  (v86:W.nsIn K mainGlobals "zip" = some none)
  (v78:W.nsIn K mainGlobals "bool" = some none)
  (v87:W.nsIn K mainGlobals "str" = some none)
  (v68:W.nsIn K mainGlobals "sorted" = some none)
  (v47:W.nsIn K mainGlobals "LETTERS" = some (some (.str "abcdefghijklmnopqrstuvwxyz" tk_LETTERS)))
  (v12:W.nsIn K mainGlobals "MOST_LETTERS" = some (some (.int 8 tk_MOST_LETTERS)))
  (v15:W.nsIn K mainGlobals "MOST_WITHIN" = some (some (.int 5 tk_MOST_WITHIN)))
  (v20:W.nsIn K mainGlobals "MOST_ROOMS" = some (some (.int 20 tk_MOST_ROOMS)))
  (v30:W.nsIn K mainGlobals "MOST_FAIR" = some (some (.int 3 tk_MOST_FAIR)))
  (v43:W.nsIn K mainGlobals "LENGTHS" = some (some (.ref D_LENGTHS)))
  (v44:K.lookup D_LENGTHS=some ⟨.type "dict",none,.dict es_LENGTHS nn_LENGTHS,#[]⟩)
  (v45:W.KeysLit w.params es_LENGTHS.toList)
  (v31:W.nsIn K D_LENGTHS "all" = some (some (.int 2 dt_LENGTHS_0)))
  (v32:W.nsIn K D_LENGTHS "some" = some (some (.int 2 dt_LENGTHS_1)))
  (v33:W.nsIn K D_LENGTHS "not" = some (some (.int 2 dt_LENGTHS_2)))
  (v34:W.nsIn K D_LENGTHS "next" = some (some (.int 2 dt_LENGTHS_3)))
  (v35:W.nsIn K D_LENGTHS "always" = some (some (.int 2 dt_LENGTHS_4)))
  (v36:W.nsIn K D_LENGTHS "ever" = some (some (.int 2 dt_LENGTHS_5)))
  (v37:W.nsIn K D_LENGTHS "before" = some (some (.int 2 dt_LENGTHS_6)))
  (v38:W.nsIn K D_LENGTHS "once" = some (some (.int 2 dt_LENGTHS_7)))
  (v39:W.nsIn K D_LENGTHS "sofar" = some (some (.int 2 dt_LENGTHS_8)))
  (v40:W.nsIn K D_LENGTHS "until" = some (some (.int 3 dt_LENGTHS_9)))
  (v21:W.nsIn K D_LENGTHS "since" = some (some (.int 3 dt_LENGTHS_10)))
  (v46:(D_LENGTHS==sysModules)=false)
  (v69:W.nsIn K mainGlobals "LINES" = some (some (.ref D_LINES)))
  (v70:K.lookup D_LINES=some ⟨.type "dict",none,.dict es_LINES nn_LINES,#[]⟩)
  (v71:W.KeysLit w.params es_LINES.toList)
  (v48:W.nsIn K D_LINES "not" = some (some (.ref f31)))
  (v49:W.nsIn K D_LINES "and" = some (some (.ref f32)))
  (v50:W.nsIn K D_LINES "next" = some (some (.ref f33)))
  (v51:W.nsIn K D_LINES "until" = some (some (.ref f34)))
  (v52:W.nsIn K D_LINES "before" = some (some (.ref f35)))
  (v53:W.nsIn K D_LINES "since" = some (some (.ref f36)))
  (v72:(D_LINES==sysModules)=false)
  (v79:W.nsIn K mainGlobals "YES" = some (some (.ref Y_YES)))
  (v80:K.lookup Y_YES=some ⟨.type "tuple",yd_YES,.seq #[.str "yes" yt_YES_0] yn_YES,yl_YES⟩)
  (v22:W.excIn K C_TimeError [.type "ValueError",.type "Exception",.type "BaseException",.type "object"] "ValueError.__new__" = true)
  (v41:W.excIn K C_BadWorld [.type "ValueError",.type "Exception",.type "BaseException",.type "object"] "ValueError.__new__" = true)
  (v13:W.excIn K C_BadSentence [.type "ValueError",.type "Exception",.type "BaseException",.type "object"] "ValueError.__new__" = true)
  (xgt:W.specialIn K (.builtin "object.__class__") "__get__" = some (some (.builtin "getset_descriptor.__get__")))
  (xtk:W.takesIn K (.builtin "object.__class__")=some true)
  (v23:W.findIn K (.ref C_BadWorld) "__getattribute__" = some (some (.builtin "BaseException.__getattribute__")))
  (v24:W.findIn K (.ref C_BadWorld) "__getattr__" = some none)
  (v25:W.mroIn K C_BadWorld (.type "object")=some true)
  (v26:W.mroIn K C_BadWorld (.type "BaseException")=some true)
  (v27:W.findIn K (.ref C_BadWorld) "__class__" = some (some (.builtin "object.__class__")))
  (v28:W.hasDictIn K C_BadWorld=true)
  (v5:W.findIn K (.ref C_BadSentence) "__getattribute__" = some (some (.builtin "BaseException.__getattribute__")))
  (v6:W.findIn K (.ref C_BadSentence) "__getattr__" = some none)
  (v7:W.mroIn K C_BadSentence (.type "object")=some true)
  (v8:W.mroIn K C_BadSentence (.type "BaseException")=some true)
  (v9:W.findIn K (.ref C_BadSentence) "__class__" = some (some (.builtin "object.__class__")))
  (v10:W.hasDictIn K C_BadSentence=true)
  (v73:W.nsIn K D_LENGTHS "signs" = some none)
  (v76:W.nsIn K D_LENGTHS "Next" = some none) :
  ∃fd:FuncData,(∀(s:Shared) (v:Value),BindsTo s fd ⟨[v],[]⟩ [("_law_script",v)])/\∀base:Heap,K.In base->base.Ns mainGlobals mg->Z2 l.prog w K mg base CX0 11 fa fd ["_law_script"] (spL K):=by
 have e:=hfa.symm.trans (lY X G a53);cases e;have T:Txt K mg { is_whole:=f0,cO:=_,is_name:=f1,dG:=_,is_room:=f2,dH:=_,are_names:=f3,cn:=_,are_rooms:=f4,cp:=_,last_ones:=f5,cu:=_,is_formed:=f6,cw:=_,inner_of:=f7,cP:=_,inner_ahead:=f8,bw:=_,core_of:=f9,dJ:=_,core_with:=f10,cy:=_,and_of:=f11,eJ:=_,or_of:=f12,fK:=_,within_of:=f13,cz:=_,row_with:=f14,cQ:=_,Table_init:=f15,bR:=_,Table_number_of:=f16,aA:=_,Table_taken_in:=f17,aJ:=_,Table_inner_numbers:=f18,ak:=_,below:=f19,fL:=_,inner_parts:=f20,bx:=_,read:=f21,gK:=_,read_along:=f22,bS:=_,ground_of:=f23,cA:=_,told_sets:=f24,cB:=_,ground_rows:=f25,bz:=_,room_truths:=f26,bA:=_,read_rows:=f27,cC:=_,trimmed:=f28,dM:=_,stretched:=f29,cD:=_,stretched_both:=f30,aM:=_,not_line:=f31,cR:=_,and_line:=f32,cS:=_,next_line:=f33,cE:=_,until_line:=f34,bT:=_,before_line:=f35,bB:=_,since_line:=f36,bU:=_,World_init:=f37,bV:=_,World_many:=f38,bW:=_,World_signs_of:=f39,aN:=_,World_ways_on:=f40,aW:=_,World_begins:=f41,cc:=_,World_fair_signs:=f42,bc:=_,makes_world:=f43,bC:=_,are_some_rooms:=f44,aO:=_,_law_cell_at:=f45,bn:=_,_law_state:=f46,bX:=_,_law_digit:=f47,bY:=_,_law_world:=f48,bZ:=_,_law_run:=f49,cT:=_,_law_sentence:=f50,aX:=_,_law_sets:=f51,cF:=_,_law_others:=f52,bD:=_,law:=fa,iJ:=_,C_TimeError:=C_TimeError,C_BadWorld:=C_BadWorld,C_BadSentence:=C_BadSentence,C_Table:=C_Table,C_World:=C_World,D_LENGTHS:=D_LENGTHS,D_LINES:=D_LINES,Pm:=w.params,Y_YES:=Y_YES }:={
  iw:=lY X G v79,
  y_YES:=fun H=>.inr ⟨_,_,_,v80,rfl,rfl,(by rw[lV];simp),.cons ⟨_,rfl⟩ (.nil)⟩,
  gv:=lY X G v43,
  cM:=⟨⟨_,_,v44,v45⟩,fun p hp=>by
   simp only[mw,oI,oJ] at hp;rcases hp with rfl|rfl|rfl|rfl|rfl|rfl|rfl|rfl|rfl|rfl|rfl
   ·exact⟨_,v31⟩
   ·exact⟨_,v32⟩
   ·exact⟨_,v33⟩
   ·exact⟨_,v34⟩
   ·exact⟨_,v35⟩
   ·exact⟨_,v36⟩
   ·exact⟨_,v37⟩
   ·exact⟨_,v38⟩
   ·exact⟨_,v39⟩
   ·exact⟨_,v40⟩
   ·exact⟨_,v21⟩,v46⟩,
  iZ:=lY X G v69,
  i0:=⟨⟨_,_,v70,v71⟩,fun p hp=>by
   simp only[mw,oI,oJ] at hp;rcases hp with rfl|rfl|rfl|rfl|rfl|rfl
   ·exact v48
   ·exact v49
   ·exact v50
   ·exact v51
   ·exact v52
   ·exact v53,v72⟩,
  dN:=Zj (st:=X9) l0 c0 k0,
  fi:=(Zj (st:=X9) l0 c0 k0).binds (ps:=["thing"]) (fun _ _ _ _ _ _=>ar1 fun _=>rfl),
  fj:=lY X G a0,
  eK:=Zj (st:=Wg) l1 c1 k1,
  fN:=(Zj (st:=Wg) l1 c1 k1).binds (ps:=["thing"]) (fun _ _ _ _ _ _=>ar1 fun _=>rfl),
  fO:=lY X G a1,
  fP:=Zj (st:=Ww) l2 c2 k2,
  g8:=(Zj (st:=Ww) l2 c2 k2).binds (ps:=["thing", "many"]) (fun _ _ _ _ _ _=>ar2 fun _ _=>rfl),
  g9:=lY X G a2,
  cU:=Zj (st:=Y8) l3 c3 k3,
  dY:=(Zj (st:=Y8) l3 c3 k3).binds (ps:=["thing"]) (fun _ _ _ _ _ _=>ar1 fun _=>rfl),
  dZ:=lY X G a3,
  d0:=Zj (st:=Y7) l4 c4 k4,
  fQ:=(Zj (st:=Y7) l4 c4 k4).binds (ps:=["thing", "many"]) (fun _ _ _ _ _ _=>ar2 fun _ _=>rfl),
  fR:=lY X G a4,
  cW:=Zj (st:=XM) l5 c5 k5,
  d5:=(Zj (st:=XM) l5 c5 k5).binds (ps:=["things", "many"]) (fun _ _ _ _ _ _=>ar2 fun _ _=>rfl),
  d6:=lY X G a5,
  d7:=Zj (st:=XH) l6 c6 k6,
  fS:=(Zj (st:=XH) l6 c6 k6).binds (ps:=["thing"]) (fun _ _ _ _ _ _=>ar1 fun _=>rfl),
  fT:=lY X G a6,
  cJ:=Zj (st:=X6) l7 c7 k7,
  dQ:=(Zj (st:=X6) l7 c7 k7).binds (ps:=["sentence"]) (fun _ _ _ _ _ _=>ar1 fun _=>rfl),
  dU:=lY X G a7,
  b9:=Zj (st:=YX) l8 c8 k8,
  cX:=(Zj (st:=YX) l8 c8 k8).binds (ps:=["sentence"]) (fun _ _ _ _ _ _=>ar1 fun _=>rfl),
  cY:=lY X G a8,
  fU:=Zj (st:=WB) l9 c9 k9,
  hJ:=(Zj (st:=WB) l9 c9 k9).binds (ps:=["sentence"]) (fun _ _ _ _ _ _=>ar1 fun _=>rfl),
  hU:=lY X G a9,
  d8:=Zj (st:=XG) l10 c10 k10,
  fV:=(Zj (st:=XG) l10 c10 k10).binds (ps:=["sentence", "inner"]) (fun _ _ _ _ _ _=>ar2 fun _ _=>rfl),
  fW:=lY X G a10,
  fM:=Zj (st:=Vk) l11 c11 k11,
  gM:=(Zj (st:=Vk) l11 c11 k11).binds (ps:=["cores"]) (fun _ _ _ _ _ _=>ar1 fun _=>rfl),
  gN:=lY X G a11,
  gO:=Zj (st:=VZ) l12 c12 k12,
  io:=(Zj (st:=VZ) l12 c12 k12).binds (ps:=["cores"]) (fun _ _ _ _ _ _=>ar1 fun _=>rfl),
  ip:=lY X G a12,
  d9:=Zj (st:=XO) l13 c13 k13,
  fX:=(Zj (st:=XO) l13 c13 k13).binds (ps:=["turns", "first", "second"]) (fun _ _ _ _ _ _=>ar3 fun _ _ _=>rfl),
  fY:=lY X G a13,
  fo:=Zj (st:=X7) l14 c14 k14,
  gE:=(Zj (st:=X7) l14 c14 k14).binds (ps:=["sentence", "inner"]) (fun _ _ _ _ _ _=>ar2 fun _ _=>rfl),
  gF:=lY X G a14,
  fz:=Zj (st:=Xi) l15 c15 k15,
  du:=(Zj (st:=Xi) l15 c15 k15).binds (ps:=["self"]) (fun _ _ _ _ _ _=>ar1 fun _=>rfl),
  hV:=⟨a15,i15,k15⟩,
  cK:=Zj (st:=Yi) l16 c16 k16,
  aQ:=(Zj (st:=Yi) l16 c16 k16).binds (ps:=["self", "core"]) (fun _ _ _ _ _ _=>ar2 fun _ _=>rfl),
  aT:=⟨a16,i16,k16⟩,
  di:=Zj (st:=Yq) l17 c17 k17,
  dj:=(Zj (st:=Yq) l17 c17 k17).binds (ps:=["self", "part", "row"]) (fun _ _ _ _ _ _=>ar3 fun _ _ _=>rfl),
  dk:=⟨a17,i17,k17⟩,
  bH:=Zj (st:=ZN) l18 c18 k18,
  aC:=(Zj (st:=ZN) l18 c18 k18).binds (ps:=["self", "number"]) (fun _ _ _ _ _ _=>ar2 fun _ _=>rfl),
  aD:=⟨a18,i18,k18⟩,
  iq:=Zj (st:=V7) l19 c19 k19,
  iW:=(Zj (st:=V7) l19 c19 k19).binds (ps:=["row"]) (fun _ _ _ _ _ _=>ar1 fun _=>rfl),
  iX:=lY X G a19,
  cZ:=Zj (st:=YI) l20 c20 k20,
  eM:=(Zj (st:=YI) l20 c20 k20).binds (ps:=["core"]) (fun _ _ _ _ _ _=>ar1 fun _=>rfl),
  eN:=lY X G a20,
  hX:=Zj (st:=UU) l21 c21 k21,
  iK:=(Zj (st:=UU) l21 c21 k21).binds (ps:=["world", "run", "core", "sets"]) (fun _ _ _ _ _ _=>ar4 fun _ _ _ _=>rfl),
  iL:=lY X G a21,
  bh:=Zj (st:=Xg) l22 c22 k22,
  bJ:=(Zj (st:=Xg) l22 c22 k22).binds (ps:=["world", "run", "core", "sets", "many"]) (fun _ _ _ _ _ _=>ar5 fun _ _ _ _ _=>rfl),
  bK:=lY X G a22,
  eg:=Zj (st:=XD) l23 c23 k23,
  fZ:=(Zj (st:=XD) l23 c23 k23).binds (ps:=["world", "core", "sets"]) (fun _ _ _ _ _ _=>ar3 fun _ _ _=>rfl),
  gb:=lY X G a23,
  eu:=Zj (st:=Y5) l24 c24 k24,
  ge:=(Zj (st:=Y5) l24 c24 k24).binds (ps:=["table", "sets"]) (fun _ _ _ _ _ _=>ar2 fun _ _=>rfl),
  gf:=lY X G a24,
  db:=Zj (st:=YG) l25 c25 k25,
  eO:=(Zj (st:=YG) l25 c25 k25).binds (ps:=["world", "table", "number", "told"]) (fun _ _ _ _ _ _=>ar4 fun _ _ _ _=>rfl),
  eP:=lY X G a25,
  dc:=Zj (st:=Yg) l26 c26 k26,
  eQ:=(Zj (st:=Yg) l26 c26 k26).binds (ps:=["world", "row", "rooms"]) (fun _ _ _ _ _ _=>ar3 fun _ _ _=>rfl),
  eT:=lY X G a26,
  eB:=Zj (st:=YU) l27 c27 k27,
  gi:=(Zj (st:=YU) l27 c27 k27).binds (ps:=["rows", "run", "many"]) (fun _ _ _ _ _ _=>ar3 fun _ _ _=>rfl),
  gj:=lY X G a27,
  gk:=Zj (st:=WF) l28 c28 k28,
  hZ:=(Zj (st:=WF) l28 c28 k28).binds (ps:=["line", "size"]) (fun _ _ _ _ _ _=>ar2 fun _ _=>rfl),
  h9:=lY X G a28,
  bu:=Zj (st:=XJ) l29 c29 k29,
  ce:=(Zj (st:=XJ) l29 c29 k29).binds (ps:=["line", "length", "size"]) (fun _ _ _ _ _ _=>ar3 fun _ _ _=>rfl),
  cg:=lY X G a29,
  ay:=Zj (st:=Yp) l30 c30 k30,
  aY:=(Zj (st:=Yp) l30 c30 k30).binds (ps:=["lines", "size", "more"]) (fun _ _ _ _ _ _=>ar3 fun _ _ _=>rfl),
  aZ:=lY X G a30,
  fq:=Zj (st:=XB) l31 c31 k31,
  gG:=(Zj (st:=XB) l31 c31 k31).binds (ps:=["lines", "size"]) (fun _ _ _ _ _ _=>ar2 fun _ _=>rfl),
  iN:=lY X G a31,
  ft:=Zj (st:=XA) l32 c32 k32,
  gH:=(Zj (st:=XA) l32 c32 k32).binds (ps:=["lines", "size"]) (fun _ _ _ _ _ _=>ar2 fun _ _=>rfl),
  iO:=lY X G a32,
  eE:=Zj (st:=XL) l33 c33 k33,
  gm:=(Zj (st:=XL) l33 c33 k33).binds (ps:=["lines", "size"]) (fun _ _ _ _ _ _=>ar2 fun _ _=>rfl),
  ir:=lY X G a33,
  dv:=Zj (st:=Xh) l34 c34 k34,
  fA:=(Zj (st:=Xh) l34 c34 k34).binds (ps:=["lines", "size"]) (fun _ _ _ _ _ _=>ar2 fun _ _=>rfl),
  ia:=lY X G a34,
  de:=Zj (st:=YZ) l35 c35 k35,
  eU:=(Zj (st:=YZ) l35 c35 k35).binds (ps:=["lines", "size"]) (fun _ _ _ _ _ _=>ar2 fun _ _=>rfl),
  gQ:=lY X G a35,
  dy:=Zj (st:=Xf) l36 c36 k36,
  fB:=(Zj (st:=Xf) l36 c36 k36).binds (ps:=["lines", "size"]) (fun _ _ _ _ _ _=>ar2 fun _ _=>rfl),
  ib:=lY X G a36,
  fC:=Zj (st:=YD) l37 c37 k37,
  fD:=(Zj (st:=YD) l37 c37 k37).binds (ps:=["self", "signs", "ways", "starts", "fair"]) (fun _ _ _ _ _ _=>ar5 fun _ _ _ _ _=>rfl),
  ic:=⟨a37,i37,k37⟩,
  fE:=Zj (st:=Xc) l38 c38 k38,
  bj:=(Zj (st:=Xc) l38 c38 k38).binds (ps:=["self"]) (fun _ _ _ _ _ _=>ar1 fun _=>rfl),
  bm:=⟨a38,i38,k38⟩,
  dm:=Zj (st:=Yr) l39 c39 k39,
  dn:=(Zj (st:=Yr) l39 c39 k39).binds (ps:=["self", "room"]) (fun _ _ _ _ _ _=>ar2 fun _ _=>rfl),
  dq:=⟨a39,i39,k39⟩,
  dz:=Zj (st:=Yy) l40 c40 k40,
  dA:=(Zj (st:=Yy) l40 c40 k40).binds (ps:=["self", "room"]) (fun _ _ _ _ _ _=>ar2 fun _ _=>rfl),
  dB:=⟨a40,i40,k40⟩,
  gA:=Zj (st:=YM) l41 c41 k41,
  gB:=(Zj (st:=YM) l41 c41 k41).binds (ps:=["self"]) (fun _ _ _ _ _ _=>ar1 fun _=>rfl),
  gC:=⟨a41,i41,k41⟩,
  eV:=Zj (st:=Z8) l42 c42 k42,
  eW:=(Zj (st:=Z8) l42 c42 k42).binds (ps:=["self"]) (fun _ _ _ _ _ _=>ar1 fun _=>rfl),
  eX:=⟨a42,i42,k42⟩,
  df:=Zj (st:=Yt) l43 c43 k43,
  eY:=(Zj (st:=Yt) l43 c43 k43).binds (ps:=["signs", "ways", "starts", "fair"]) (fun _ _ _ _ _ _=>ar4 fun _ _ _ _=>rfl),
  eZ:=lY X G a43,
  ba:=Zj (st:=Ys) l44 c44 k44,
  bN:=(Zj (st:=Ys) l44 c44 k44).binds (ps:=["thing", "many"]) (fun _ _ _ _ _ _=>ar2 fun _ _=>rfl),
  bO:=lY X G a44,
  aV:=Zj (st:=YJ) l45 c45 k45,
  bE:=(Zj (st:=YJ) l45 c45 k45).binds (ps:=["_law_script", "_law_k"]) (fun _ _ _ _ _ _=>ar2 fun _ _=>rfl),
  bF:=lY X G a45,
  bL:=Zj (st:=Xe) l46 c46 k46,
  cG:=(Zj (st:=Xe) l46 c46 k46).binds (ps:=["_law_cell"]) (fun _ _ _ _ _ _=>ar1 fun _=>rfl),
  cH:=lY X G a46,
  ab:=Zj (st:=Xa) l47 c47 k47,
  ae:=(Zj (st:=Xa) l47 c47 k47).binds (ps:=["_law_state_here", "_law_base"]) (fun _ _ _ _ _ _=>ar2 fun _ _=>rfl),
  ag:=lY X G a47,
  dC:=Zj (st:=YF) l48 c48 k48,
  fF:=(Zj (st:=YF) l48 c48 k48).binds (ps:=["_law_state_here"]) (fun _ _ _ _ _ _=>ar1 fun _=>rfl),
  fG:=lY X G a48,
  fu:=Zj (st:=Xj) l49 c49 k49,
  gI:=(Zj (st:=Xj) l49 c49 k49).binds (ps:=["_law_state_here", "_law_world_here"]) (fun _ _ _ _ _ _=>ar2 fun _ _=>rfl),
  gJ:=lY X G a49,
  aE:=Zj (st:=Yz) l50 c50 k50,
  bo:=(Zj (st:=Yz) l50 c50 k50).binds (ps:=["_law_state_here", "_law_deep", "_law_onward"]) (fun _ _ _ _ _ _=>ar3 fun _ _ _=>rfl),
  bq:=lY X G a50,
  eG:=Zj (st:=Y9) l51 c51 k51,
  gn:=(Zj (st:=Y9) l51 c51 k51).binds (ps:=["_law_state_here", "_law_world_here", "_law_core"]) (fun _ _ _ _ _ _=>ar3 fun _ _ _=>rfl),
  gp:=lY X G a51,
  dg:=Zj (st:=YY) l52 c52 k52,
  fb:=(Zj (st:=YY) l52 c52 k52).binds (ps:=["_law_run_here"]) (fun _ _ _ _ _ _=>ar1 fun _=>rfl),
  fc:=lY X G a52,
  lD:=Zj (st:=yI) l53 c53 k53,
  lI:=(Zj (st:=yI) l53 c53 k53).binds (ps:=["_law_script"]) (fun _ _ _ _ _ _=>ar1 fun _=>rfl),
  lJ:=lY X G a53,
  ie:=nv X G v18,
  iP:=nv X G v81,
  cL:=nv X G v42,
  bP:=nv X G v74,
  bf:=nv X G v75,
  aB:=nv X G v82,
  fe:=nv X G v77,
  ai:=nv X G v19,
  lE:=nv X G v83,
  iY:=nv X G v84,
  lp:=nv X G v85,
  lF:=nv X G v86,
  li:=nv X G v78,
  lu:=nv X G v87,
  fg:=nv X G v68,
  ig:=⟨_,lY X G v47,⟨_,rfl⟩⟩,
  dX:=⟨_,lY X G v12,⟨_,rfl⟩⟩,
  fh:=⟨_,lY X G v15,⟨_,rfl⟩⟩,
  fH:=⟨_,lY X G v20,⟨_,rfl⟩⟩,
  gu:=⟨_,lY X G v30,⟨_,rfl⟩⟩,
  aj:=⟨v56,v57,v58,v59⟩,
  iy:=lY X G v54,
  gT:=⟨v60,a15,i15,v61⟩,
  bG:=v14,
  aU:=v17,
  am:=v4,
  aq:=⟨v62,v63,v64,v65⟩,
  i3:=lY X G v55,
  iM:=⟨v66,a37,i37,v67⟩,
  av:=v1,
  br:=v3,
  bQ:=v0,
  ck:=v2,
  iu:=lY X G v16,
  x_TimeError:=v22,
  iQ:=lY X G v29,
  x_BadWorld:=v41,
  gS:=lY X G v11,
  x_BadSentence:=v13,
  k_BadWorld:=⟨v23,v24,v25,v26,v27,xgt,xtk,v28⟩,
  k_BadSentence:=⟨v5,v6,v7,v8,v9,xgt,xtk,v10⟩,
  nk_signs:=v73,
  nk_Next:=v76 }
 refine⟨_,?_,fun base _ _=>lH T rfl⟩;exact fun s v=>.of_eq rfl
theorem walk{l:W.OpenLaw}{q:Program}{loose:List Str}{XP:(Str->Option Value)->Heap->Prop}{YP:World->Heap->Prop}{d:DefRec}{K:Params->W.Frag}(hn:l.most=some 63)(hdf:d.params.defaults=[])
  (hY:∀(w:World) (h:Heap),YP w h->(K w.params).In h)
  (F:∀(w:World) (mg:Str->Option Value) (fa:Addr) (h:Heap),(K w.params).In h->h.Ns mainGlobals mg->mg d.name=some (.ref fa) ->
   ∃fd:FuncData,(∀(s:Shared) (u:Value),BindsTo s fd ⟨[u],[]⟩ [("_law_script",u)])/\∀base:Heap,(K w.params).In base->base.Ns mainGlobals mg->Z2 l.prog w (K w.params) mg base CX0 11 fa fd ["_law_script"] (spL (K w.params))) :
  W.WalkO q loose XP YP l.row.toRowW d [] (fun f vs=>PySem.call f vs):=
 L2.walk_of (n:=63) (k:=11) (x := "_law_script") (CX:=fun _=>CX0) (sp:=fun w=>spL (K w.params)) hn (by decide) hdf ⟨rfl,by decide,by decide⟩ hY F (fun _ _ a ns hl _ hS=>⟨a,ns,rfl,hS,hl,fun _=>rfl⟩) fun _ _ _ _ _ z=>z
end KK
open PySem PySem.W PyProof.Rows
namespace PySem.W.Fast
def tw18397800482922869250:=0
def tw204943233156477742:=0
def tw17885388315935621764:=0
def tw12645344754628413395:=0
def tw612677530275456208:=0
def tw13737154111068955090:=0
def tw830001869427686209:=0
def tw10553091921172744138:=0
def tw16103918002885406173:=0
def tw4007059717679574374:=0
def tw10352050875934772105:=0
def tw8871554251928197648:=0
def tw7421601961407727812:=0
def tw15095207822543237043:=0
def tw942451914585661418:=0
def tw2726302818441393232:=0
def tw13751729082657856401:=0
def tw541498637241332839:=0
def tw6312238815584769378:=0
def tw14622656022386010019:=0
def tw2429826116181139806:=0
def tw5561851676838281310:=0
def tw13090953550737303850:=0
def tw14590693342810089865:=0
def tw6065850762262404975:=0
def tw13781191178951174054:=0
def tw15219330638027585047:=0
def tw12845508726322399193:=0
def tw10276107545016529199:=0
def tw11021522039725436050:=0
def tw8766146454264566160:=0
def tw11185356206701313971:=0
def tw2280826410606311513:=0
def tw292069852198298498:=0
def tw5967915511026829267:=0
def tw8141241463535204847:=0
def tw11078810347376686599:=0
def tw9008308690035445592:=0
def tw14358533405953474595:=0
def tw5750600239372642275:=0
def tw13059046434939060437:=0
def tw3892078514387192937:=0
def tw2838182548771681207:=0
def tw2778179810368545464:=0
def tw17458690433245596125:=0
def tw3706236377303909294:=0
def tw2448851783533688096:=0
def tw7798016873804259766:=0
def tw6450677141212723122:=0
def tw5962790438252219306:=0
def tw3118890380087867582:=0
def tw13994111044304259858:=0
def tw2328004144178812393:=0
def tw339069049838804195:=0
def tw2680152602912953540:=0
def tw17133389064489848445:=0
def tw11048593828986528587:=0
def tw4804939173611568798:=0
def tw3843180932111648747:=0
def tw1603424140019729289:=0
def tw6115014549800542470:=0
def tw11539761546109368842:=0
def tw8826250931942365891:=0
def tw16002258389842562580:=0
def tw5997615013580561162:=0
def tw17155628518419560648:=0
def tw10010002412962131847:=0
def tw13749862126941783739:=0
def tw4007916338748994993:=0
def tw18273771684110422039:=0
def tw18019220642552542637:=0
def tw18008289637441680757:=0
end PySem.W.Fast
set_option maxRecDepth 100000 in
set_option maxHeartbeats 0 in
theorem PySem.Challenge.cw_timecourt_k22_whole_runs_told_otherwise_holds : PySem.Challenge.rw_timecourt_k22_whole_runs_told_otherwise.Holds := by
 w_on; o_law; k_head; (case hw => w_witness2)
 k_fill
 refine KK.walk (l := PySem.Challenge.rw_timecourt_k22_whole_runs_told_otherwise) rfl rfl (fun w h Y => PySem.W.kIn_of Y) ?F
 case F =>
  intro w mg fa h KX G hmg
  have hmg2 : mg "law" = some (.ref fa) := hmg
  clear hmg
  refine' KK.all_mk KX G hmg2 ?v54 ?v55 ?v16 ?v29 ?v11 ?a0 ?l0 ?c0 ?k0 ?a1 ?l1 ?c1 ?k1 ?a2 ?l2 ?c2 ?k2 ?a3 ?l3 ?c3 ?k3 ?a4 ?l4 ?c4 ?k4 ?a5 ?l5 ?c5 ?k5 ?a6 ?l6 ?c6 ?k6 ?a7 ?l7 ?c7 ?k7 ?a8 ?l8 ?c8 ?k8 ?a9 ?l9 ?c9 ?k9 ?a10 ?l10 ?c10 ?k10 ?a11 ?l11 ?c11 ?k11 ?a12 ?l12 ?c12 ?k12 ?a13 ?l13 ?c13 ?k13 ?a14 ?l14 ?c14 ?k14 ?a15 ?i15 ?l15 ?c15 ?k15 ?a16 ?i16 ?l16 ?c16 ?k16 ?a17 ?i17 ?l17 ?c17 ?k17 ?a18 ?i18 ?l18 ?c18 ?k18 ?a19 ?l19 ?c19 ?k19 ?a20 ?l20 ?c20 ?k20 ?a21 ?l21 ?c21 ?k21 ?a22 ?l22 ?c22 ?k22 ?a23 ?l23 ?c23 ?k23 ?a24 ?l24 ?c24 ?k24 ?a25 ?l25 ?c25 ?k25 ?a26 ?l26 ?c26 ?k26 ?a27 ?l27 ?c27 ?k27 ?a28 ?l28 ?c28 ?k28 ?a29 ?l29 ?c29 ?k29 ?a30 ?l30 ?c30 ?k30 ?a31 ?l31 ?c31 ?k31 ?a32 ?l32 ?c32 ?k32 ?a33 ?l33 ?c33 ?k33 ?a34 ?l34 ?c34 ?k34 ?a35 ?l35 ?c35 ?k35 ?a36 ?l36 ?c36 ?k36 ?a37 ?i37 ?l37 ?c37 ?k37 ?a38 ?i38 ?l38 ?c38 ?k38 ?a39 ?i39 ?l39 ?c39 ?k39 ?a40 ?i40 ?l40 ?c40 ?k40 ?a41 ?i41 ?l41 ?c41 ?k41 ?a42 ?i42 ?l42 ?c42 ?k42 ?a43 ?l43 ?c43 ?k43 ?a44 ?l44 ?c44 ?k44 ?a45 ?l45 ?c45 ?k45 ?a46 ?l46 ?c46 ?k46 ?a47 ?l47 ?c47 ?k47 ?a48 ?l48 ?c48 ?k48 ?a49 ?l49 ?c49 ?k49 ?a50 ?l50 ?c50 ?k50 ?a51 ?l51 ?c51 ?k51 ?a52 ?l52 ?c52 ?k52 ?a53 ?l53 ?c53 ?k53 ?v56 ?v57 ?v58 ?v59 ?v60 ?v61 ?v14 ?v17 ?v4 ?v62 ?v63 ?v64 ?v65 ?v66 ?v67 ?v1 ?v3 ?v0 ?v2 ?v18 ?v81 ?v42 ?v74 ?v75 ?v82 ?v77 ?v19 ?v83 ?v84 ?v85 ?v86 ?v78 ?v87 ?v68 ?v47 ?v12 ?v15 ?v20 ?v30 ?v43 ?v44 ?v45 ?v31 ?v32 ?v33 ?v34 ?v35 ?v36 ?v37 ?v38 ?v39 ?v40 ?v21 ?v46 ?v69 ?v70 ?v71 ?v48 ?v49 ?v50 ?v51 ?v52 ?v53 ?v72 ?v79 ?v80 ?v22 ?v41 ?v13 ?xgt ?xtk ?v23 ?v24 ?v25 ?v26 ?v27 ?v28 ?v5 ?v6 ?v7 ?v8 ?v9 ?v10 ?v73 ?v76
  (case v54 | v55 | v16 | v29 | v11 | a0 | l0 | c0 | k0 | a1 | l1 | c1 | k1 | a2 | l2 | c2 | k2 | a3 | l3 | c3 | k3 | a4 | l4 | c4 | k4 | a5 | l5 | c5 | k5 | a6 | l6 | c6 | k6 | a7 | l7 | c7 | k7 | a8 | l8 | c8 => k_is)
  (case k8 | a9 | l9 | c9 | k9 | a10 | l10 | c10 | k10 | a11 | l11 | c11 | k11 | a12 | l12 | c12 | k12 | a13 | l13 | c13 | k13 | a14 | l14 | c14 | k14 | a15 | i15 | l15 | c15 | k15 | a16 | i16 | l16 | c16 | k16 | a17 | i17 | l17 | c17 | k17 => k_is)
  (case a18 | i18 | l18 | c18 | k18 | a19 | l19 | c19 | k19 | a20 | l20 | c20 | k20 | a21 | l21 | c21 | k21 | a22 | l22 | c22 | k22 | a23 | l23 | c23 | k23 | a24 | l24 | c24 | k24 | a25 | l25 | c25 | k25 | a26 | l26 | c26 | k26 | a27 | l27 | c27 => k_is)
  (case k27 | a28 | l28 | c28 | k28 | a29 | l29 | c29 | k29 | a30 | l30 | c30 | k30 | a31 | l31 | c31 | k31 | a32 | l32 | c32 | k32 | a33 | l33 | c33 | k33 | a34 | l34 | c34 | k34 | a35 | l35 | c35 | k35 | a36 | l36 | c36 | k36 | a37 | i37 | l37 => k_is)
  (case c37 | k37 | a38 | i38 | l38 | c38 | k38 | a39 | i39 | l39 | c39 | k39 | a40 | i40 | l40 | c40 | k40 | a41 | i41 | l41 | c41 | k41 | a42 | i42 | l42 | c42 | k42 | a43 | l43 | c43 | k43 | a44 | l44 | c44 | k44 | a45 | l45 | c45 | k45 | a46 => k_is)
  (case l46 | c46 | k46 | a47 | l47 | c47 | k47 | a48 | l48 | c48 | k48 | a49 | l49 | c49 | k49 | a50 | l50 | c50 | k50 | a51 | l51 | c51 | k51 | a52 | l52 | c52 | k52 | a53 | l53 | c53 | k53 | v56 | v57 | v58 | v59 | v60 | v61 | v14 | v17 | v4 => k_is)
  (case v62 | v63 | v64 | v65 | v66 | v67 | v1 | v3 | v0 | v2 | v18 | v81 | v42 | v74 | v75 | v82 | v77 | v19 | v83 | v84 | v85 | v86 | v78 | v87 | v68 | v47 | v12 | v15 | v20 | v30 | v43 | v44 => k_is)
  (case v45 => exact ⟨⟨_, _, rfl, rfl⟩, ⟨_, _, rfl, rfl⟩, ⟨_, _, rfl, rfl⟩, ⟨_, _, rfl, rfl⟩, ⟨_, _, rfl, rfl⟩, ⟨_, _, rfl, rfl⟩, ⟨_, _, rfl, rfl⟩, ⟨_, _, rfl, rfl⟩, ⟨_, _, rfl, rfl⟩, ⟨_, _, rfl, rfl⟩, ⟨_, _, rfl, rfl⟩, trivial⟩)
  (case v31 | v32 | v33 | v34 | v35 | v36 | v37 | v38 | v39 | v40 | v21 => k_is)
  (case v46 => rfl)
  (case v69 | v70 => k_is)
  (case v71 => exact ⟨⟨_, _, rfl, rfl⟩, ⟨_, _, rfl, rfl⟩, ⟨_, _, rfl, rfl⟩, ⟨_, _, rfl, rfl⟩, ⟨_, _, rfl, rfl⟩, ⟨_, _, rfl, rfl⟩, trivial⟩)
  (case v48 | v49 | v50 | v51 | v52 | v53 => k_is)
  (case v72 => rfl)
  (case v79 | v80 => k_is)
  (case v22 | v41 | v13 => k_exc)
  (case xgt | xtk | v23 | v24 | v25 | v26 | v27 | v28 | v5 | v6 | v7 | v8 | v9 | v10 | v73 | v76 => k_is)
